import Derived.Test.YtdibpdpcbnijeaaGreatDoorHkzz
import Derived.Test.YtdibpdpcbnijeaaGreatDoorChecked
import Derived.Test.YtdibpdpcbnijeaaGreatDoorWf1zz
/-
  The seat's types, as far as the functions ask.
-/
namespace Go.Proofs.YtdibpdpcbnijeaaGreatDoor
open Go Go.Ev Go.Sy
set_option maxRecDepth 100000
def T : List TE := [⟨3, 1, .it .i64, some [.int .i64 0]⟩,
  ⟨22, 1, .sl 29, some [.slice none 0 0]⟩,
  ⟨29, 2, .st [(0, 27), (1, 27)], some [.slice none 0 0, .slice none 0 0]⟩,
  ⟨27, 1, .sl 5, some [.slice none 0 0]⟩,
  ⟨5, 1, .it .u8, some [.int .u8 0]⟩,
  ⟨32, 3, .st [(0, 27), (1, 27), (2, 4)], some [.slice none 0 0, .slice none 0 0, .bool false]⟩,
  ⟨4, 1, .bl, some [.bool false]⟩,
  ⟨23, 1, .sl 32, some [.slice none 0 0]⟩,
  ⟨44, 1, .sl 27, some [.slice none 0 0]⟩,
  ⟨107, 1, .it .u64, some [.int .u64 0]⟩,
  ⟨43, 1, .fnc, some [.nilFunc]⟩,
  ⟨36, 1, .it .i64, some [.int .i64 0]⟩,
  ⟨9, 1, .str, some [.string ⟨⟨[]⟩⟩]⟩,
  ⟨51, 1, .pt 99, some [.pointer none]⟩,
  ⟨99, 42, .st [(0, 3), (1, 3), (2, 71), (34, 97), (36, 89), (38, 89), (40, 89)], some [.int .i64 0, .int .i64 0, .int .u8 0, .int .u8 0, .int .u8 0, .int .u8 0, .int .u8 0, .int .u8 0, .int .u8 0, .int .u8 0, .int .u8 0, .int .u8 0, .int .u8 0, .int .u8 0, .int .u8 0, .int .u8 0, .int .u8 0, .int .u8 0, .int .u8 0, .int .u8 0, .int .u8 0, .int .u8 0, .int .u8 0, .int .u8 0, .int .u8 0, .int .u8 0, .int .u8 0, .int .u8 0, .int .u8 0, .int .u8 0, .int .u8 0, .int .u8 0, .int .u8 0, .int .u8 0, .int .i32 0, .int .u32 0, .map none, .int .i64 0, .map none, .int .i64 0, .map none, .int .i64 0]⟩,
  ⟨71, 32, .ar 32 5, some [.int .u8 0, .int .u8 0, .int .u8 0, .int .u8 0, .int .u8 0, .int .u8 0, .int .u8 0, .int .u8 0, .int .u8 0, .int .u8 0, .int .u8 0, .int .u8 0, .int .u8 0, .int .u8 0, .int .u8 0, .int .u8 0, .int .u8 0, .int .u8 0, .int .u8 0, .int .u8 0, .int .u8 0, .int .u8 0, .int .u8 0, .int .u8 0, .int .u8 0, .int .u8 0, .int .u8 0, .int .u8 0, .int .u8 0, .int .u8 0, .int .u8 0, .int .u8 0]⟩,
  ⟨97, 2, .st [(0, 92), (0, 95)], some [.int .i32 0, .int .u32 0]⟩,
  ⟨92, 0, .st [], some []⟩,
  ⟨95, 2, .st [(0, 21), (1, 93)], some [.int .i32 0, .int .u32 0]⟩,
  ⟨21, 1, .it .i32, some [.int .i32 0]⟩,
  ⟨93, 1, .it .u32, some [.int .u32 0]⟩,
  ⟨89, 2, .st [(0, 87), (1, 3)], some [.map none, .int .i64 0]⟩,
  ⟨87, 1, .mp 71 44, some [.map none]⟩,
  ⟨48, 1, .fnc, some [.nilFunc]⟩,
  ⟨53, 1, .sl 75, some [.slice none 0 0]⟩,
  ⟨75, 33, .st [(0, 71), (32, 27)], some [.int .u8 0, .int .u8 0, .int .u8 0, .int .u8 0, .int .u8 0, .int .u8 0, .int .u8 0, .int .u8 0, .int .u8 0, .int .u8 0, .int .u8 0, .int .u8 0, .int .u8 0, .int .u8 0, .int .u8 0, .int .u8 0, .int .u8 0, .int .u8 0, .int .u8 0, .int .u8 0, .int .u8 0, .int .u8 0, .int .u8 0, .int .u8 0, .int .u8 0, .int .u8 0, .int .u8 0, .int .u8 0, .int .u8 0, .int .u8 0, .int .u8 0, .int .u8 0, .slice none 0 0]⟩]
theorem T_ok : T.all (teB Tryz.prog) = true := by kernel_rfl
def V : List (Nat × Nat) := [(3, 8), (22, 24), (29, 48), (27, 24), (5, 1), (32, 56), (4, 1), (23, 24), (44, 24), (107, 8), (43, 8), (36, 8), (9, 16), (51, 8), (99, 104), (71, 32), (97, 8), (92, 0), (95, 8), (21, 4), (93, 4), (89, 16), (87, 8), (48, 8), (53, 24), (75, 56)]
theorem V_ok : (V.all fun p => isN (bytesOfT Tryz.prog p.1) p.2) = true := by kernel_rfl
/-- The tables are there. -/
def hasT (s : St) : List (Nat × List Value) → Bool
  | [] => true
  | (g, l) :: r => sameL (match readAt s g 0 l.length with | some cs => cs | none => []) l && hasT s r
/-- The call whose sentence is closed, at a stroke. -/
def fixH (args : List Value) (s : St) : Rv := match args with
  | [] => cond (hasT s Dg.tabs) (.ok (.bool true) s) .no
  | _ => .no
def fixK (f : FuncId) : Option (List Value → St → Rv) := cond (Nat.beq f 15) (some fixH) none
noncomputable def B : Bx := ⟨Tryz.prog, fixK, T, T_ok, V, V_ok⟩
theorem fn3 : B.P.funcs[3]? = some Tryz.f3 := by kernel_rfl
theorem ok3 : callOk B.P 3 = true := by kernel_rfl
theorem fn4 : B.P.funcs[4]? = some Tryz.f4 := by kernel_rfl
theorem ok4 : callOk B.P 4 = true := by kernel_rfl
theorem fn5 : B.P.funcs[5]? = some Tryz.f5 := by kernel_rfl
theorem ok5 : callOk B.P 5 = true := by kernel_rfl
theorem fn6 : B.P.funcs[6]? = some Tryz.f6 := by kernel_rfl
theorem ok6 : callOk B.P 6 = true := by kernel_rfl
theorem fn7 : B.P.funcs[7]? = some Tryz.f7 := by kernel_rfl
theorem ok7 : callOk B.P 7 = true := by kernel_rfl
theorem fn8 : B.P.funcs[8]? = some Tryz.f8 := by kernel_rfl
theorem ok8 : callOk B.P 8 = true := by kernel_rfl
theorem fn9 : B.P.funcs[9]? = some Tryz.f9 := by kernel_rfl
theorem ok9 : callOk B.P 9 = true := by kernel_rfl
theorem fn10 : B.P.funcs[10]? = some Tryz.f10 := by kernel_rfl
theorem ok10 : callOk B.P 10 = true := by kernel_rfl
theorem fn11 : B.P.funcs[11]? = some Tryz.f11 := by kernel_rfl
theorem ok11 : callOk B.P 11 = true := by kernel_rfl
theorem fn12 : B.P.funcs[12]? = some Tryz.f12 := by kernel_rfl
theorem ok12 : callOk B.P 12 = true := by kernel_rfl
theorem fn13 : B.P.funcs[13]? = some Tryz.f13 := by kernel_rfl
theorem ok13 : callOk B.P 13 = true := by kernel_rfl
theorem fn14 : B.P.funcs[14]? = some Tryz.f14 := by kernel_rfl
theorem ok14 : callOk B.P 14 = true := by kernel_rfl
theorem fn15 : B.P.funcs[15]? = some Tryz.f15 := by kernel_rfl
theorem ok15 : callOk B.P 15 = true := by kernel_rfl
theorem fn16 : B.P.funcs[16]? = some Tryz.f16 := by kernel_rfl
theorem ok16 : callOk B.P 16 = true := by kernel_rfl
theorem fn17 : B.P.funcs[17]? = some Tryz.f17 := by kernel_rfl
theorem ok17 : callOk B.P 17 = true := by kernel_rfl
theorem fn18 : B.P.funcs[18]? = some Tryz.f18 := by kernel_rfl
theorem ok18 : callOk B.P 18 = true := by kernel_rfl
theorem fn19 : B.P.funcs[19]? = some Tryz.f19 := by kernel_rfl
theorem ok19 : callOk B.P 19 = true := by kernel_rfl
theorem fn20 : B.P.funcs[20]? = some Tryz.f20 := by kernel_rfl
theorem ok20 : callOk B.P 20 = true := by kernel_rfl
theorem fn21 : B.P.funcs[21]? = some Tryz.f21 := by kernel_rfl
theorem ok21 : callOk B.P 21 = true := by kernel_rfl
theorem fn22 : B.P.funcs[22]? = some Tryz.f22 := by kernel_rfl
theorem ok22 : callOk B.P 22 = true := by kernel_rfl
theorem fn23 : B.P.funcs[23]? = some Tryz.f23 := by kernel_rfl
theorem ok23 : callOk B.P 23 = true := by kernel_rfl
theorem fn24 : B.P.funcs[24]? = some Tryz.f24 := by kernel_rfl
theorem ok24 : callOk B.P 24 = true := by kernel_rfl
theorem fn25 : B.P.funcs[25]? = some Tryz.f25 := by kernel_rfl
theorem ok25 : callOk B.P 25 = true := by kernel_rfl
theorem fn26 : B.P.funcs[26]? = some Tryz.f26 := by kernel_rfl
theorem ok26 : callOk B.P 26 = true := by kernel_rfl
theorem fn27 : B.P.funcs[27]? = some Tryz.f27 := by kernel_rfl
theorem ok27 : callOk B.P 27 = true := by kernel_rfl
theorem fn28 : B.P.funcs[28]? = some Tryz.f28 := by kernel_rfl
theorem ok28 : callOk B.P 28 = true := by kernel_rfl
theorem fn32 : B.P.funcs[32]? = some Tryz.f32 := by kernel_rfl
theorem ok32 : callOk B.P 32 = true := by kernel_rfl
theorem fn33 : B.P.funcs[33]? = some Tryz.f33 := by kernel_rfl
theorem ok33 : callOk B.P 33 = true := by kernel_rfl
theorem fn34 : B.P.funcs[34]? = some Tryz.f34 := by kernel_rfl
theorem ok34 : callOk B.P 34 = true := by kernel_rfl
theorem fn35 : B.P.funcs[35]? = some Tryz.f35 := by kernel_rfl
theorem ok35 : callOk B.P 35 = true := by kernel_rfl
theorem fn47 : B.P.funcs[47]? = some Tryz.f47 := by kernel_rfl
theorem ok47 : callOk B.P 47 = true := by kernel_rfl
theorem fn48 : B.P.funcs[48]? = some Tryz.f48 := by kernel_rfl
theorem ok48 : callOk B.P 48 = true := by kernel_rfl
theorem fn49 : B.P.funcs[49]? = some Tryz.f49 := by kernel_rfl
theorem ok49 : callOk B.P 49 = true := by kernel_rfl
theorem fn50 : B.P.funcs[50]? = some Tryz.f50 := by kernel_rfl
theorem ok50 : callOk B.P 50 = true := by kernel_rfl
theorem fn62 : B.P.funcs[62]? = some Tryz.f62 := by kernel_rfl
theorem ok62 : callOk B.P 62 = true := by kernel_rfl
theorem fn82 : B.P.funcs[82]? = some Tryz.f82 := by kernel_rfl
theorem ok82 : callOk B.P 82 = true := by kernel_rfl
end Go.Proofs.YtdibpdpcbnijeaaGreatDoor
/-
  cairnref01: Common, Compare, Same.
-/
namespace Go.Proofs.YtdibpdpcbnijeaaGreatDoor
open Go Go.Ev Go.Sy
set_option maxRecDepth 100000
variable {s : St} {q r : Option Addr} {c d : Nat} {M N : List Nat}
theorem rcommon_ok (ha : Bs s q M) (hb : Bs s r N) (hA : M.length < 2 ^ 60) (_hB : N.length < 2 ^ 60) :
    Cl B (.call 50 [.slice q M.length c, .slice r N.length d]) s fun v s' => v = nI (com M N) ∧ s' = s := by
  refine Cl.enter Tryz.f50 fn50 rfl rfl rfl ?_
  refine run1 ?_
  refine W.loop (α := Nat) (fun i => [(0, .slice q M.length c), (1, .slice r N.length d), (5, nI i)]) (fun _ => []) (fun _ => s)
    (fun i => i ≤ M.length ∧ com M N = i + com (M.drop i) (N.drop i)) (fun i => M.length - i) 0 ⟨Nat.zero_le _, (Nat.zero_add _).symm⟩ (.cons rfl (.cons rfl (.cons rfl .nil))) rfl rfl (by omega) ?_
  intro i ⟨h1, h2⟩
  refine run1 ?_
  refine W.dr [(0, .none, 0), (1, .none, 0), (2, .none, 2), (3, .none, 7), (4, .none, 15), (5, .none, 31), (6, .none, 31), (7, .none, 95), (8, .none, 255), (9, .none, 511), (10, .none, 1023), (11, .none, 2047), (12, .none, 2047), (13, .none, 8191), (14, .reads, 16383), (15, .none, 2047), (16, .none, 2047), (17, .none, 100351), (18, .reads, 231423), (19, .none, 524287), (20, .none, 1048575)] (by kernel_rfl) rfl ?_
  by_cases k1 : i < M.length
  · by_cases k2 : i < N.length
    · by_cases k3 : M.getD i 0 = N.getD i 0
      · refine run1 ?_
        refine rnd.n (i + 1) ⟨by omega, ?_⟩ (by omega) (.cons rfl (.cons rfl (.cons rfl .nil))) rfl rfl
        rw [h2, com_drop k1 k2, if_pos k3, Nat.add_assoc, Nat.add_comm 1]
      · refine run1 ?_
        refine Lv.ret rfl ⟨congrArg nI ?_, rfl⟩
        rw [h2, com_drop k1 k2, if_neg k3]; rfl
    · refine run1 ?_
      refine Lv.ret rfl ⟨congrArg nI ?_, rfl⟩
      rw [h2, com_end (.inr (by omega))]; rfl
  · refine run1 ?_
    refine Lv.ret rfl ⟨congrArg nI ?_, rfl⟩
    rw [h2, com_end (.inl (by omega))]; rfl
theorem rcompare_ok (ha : Bs s q M) (hb : Bs s r N) (hA : M.length < 2 ^ 60) (hB : N.length < 2 ^ 60) :
    Cl B (.call 34 [.slice q M.length c, .slice r N.length d]) s fun v s' => v = .int .i64 (cmp M N) ∧ s' = s := by
  refine Cl.enter Tryz.f34 fn34 rfl rfl rfl ?_
  refine run1 ?_
  refine Wo.call rfl (Xc.call ok50 rfl) rfl ((rcommon_ok ha hb hA hB).mono ?_)
  rintro v s' ⟨rfl, rfl⟩
  obtain ⟨l1, l2⟩ := com_le M N
  by_cases k1 : com M N = M.length
  · by_cases k2 : com M N = N.length
    · refine run1 ?_
      exact Lv.ret rfl ⟨by rw [cmp, if_pos ⟨k1, k2⟩]; rfl, rfl⟩
    · refine run1 ?_
      exact Lv.ret rfl ⟨by rw [cmp, if_neg fun h => k2 h.2, if_pos k1]; rfl, rfl⟩
  · by_cases k2 : com M N = N.length
    · refine run1 ?_
      exact Lv.ret rfl ⟨by rw [cmp, if_neg fun h => k1 h.1, if_neg k1, if_pos k2]; rfl, rfl⟩
    · refine run1 ?_
      refine W.dr [(0, .none, 0), (1, .none, 0), (2, .none, 3), (3, .reads, 7), (4, .none, 0), (5, .none, 0), (6, .none, 48), (7, .reads, 112), (8, .none, 255), (9, .none, 511)] (by kernel_rfl) rfl ?_
      by_cases k3 : M.getD (com M N) 0 < N.getD (com M N) 0
      · refine run1 ?_
        exact Lv.ret rfl ⟨by rw [cmp, if_neg fun h => k1 h.1, if_neg k1, if_neg k2, if_pos k3]; rfl, rfl⟩
      · refine run1 ?_
        exact Lv.ret rfl ⟨by rw [cmp, if_neg fun h => k1 h.1, if_neg k1, if_neg k2, if_neg k3]; rfl, rfl⟩
theorem same_ok (ha : Bs s q M) (hb : Bs s r N) (hA : M.length < 2 ^ 60) (hB : N.length < 2 ^ 60) :
    Cl B (.call 21 [.slice q M.length c, .slice r N.length d]) s fun v s' => v = .bool (decide (M = N)) ∧ s' = s := by
  refine Cl.enter Tryz.f21 fn21 rfl rfl rfl ?_
  refine run1 ?_
  refine Wo.call rfl (Xc.call ok34 rfl) rfl ((rcompare_ok ha hb hA hB).mono ?_)
  rintro v s' ⟨rfl, rfl⟩
  refine run1 ?_
  exact Lv.ret rfl ⟨congrArg Value.bool (decide_eq_decide.2 cmp_zero), rfl⟩
end Go.Proofs.YtdibpdpcbnijeaaGreatDoor
/-
  cairnlaw01.Turn.
-/
namespace Go.Proofs.YtdibpdpcbnijeaaGreatDoor
open Go Go.Ev Go.Sy
set_option maxRecDepth 100000
variable {s : St} {q r : Option Addr} {c d : Nat} {M N : List Nat}
/-- Bytes turned as far as k. -/
def trn (A : List Nat) (k : Nat) : List Nat := (A.take k).map (fun x => x ^^^ 1) ++ A.drop k
theorem lay_set {L : List Nat} {i x : Nat} (hi : i < L.length) : lov (L.map nB) i [nB x] = (L.set i x).map nB := by
  unfold lov
  rw [List.set_eq_take_append_cons_drop, if_pos hi, List.map_append, List.map_take, List.map_cons, List.map_drop]; rfl
theorem trn_get {A : List Nat} {i : Nat} (hi : i < A.length) : trn A i = (A.take i).map (fun x => x ^^^ 1) ++ A[i] :: A.drop (i + 1) := by
  unfold trn; rw [List.drop_eq_getElem_cons hi]
theorem trn_step {A Y : List Nat} {i : Nat} (hi : i < A.length) : (trn A i ++ Y).getD i 0 = A[i] ∧ (trn A i ++ Y).set i (A[i] ^^^ 1) = trn A (i + 1) ++ Y := by
  have hl : ((A.take i).map (fun x => x ^^^ 1)).length = i := by rw [List.length_map, List.length_take]; omega
  constructor
  · rw [trn_get hi, List.append_assoc, List.getD_eq_getElem?_getD, List.getElem?_append_right (by omega), hl, Nat.sub_self]; rfl
  · rw [trn_get hi, List.append_assoc, List.set_append_right _ _ (by omega), hl, Nat.sub_self]
    unfold trn
    rw [List.take_succ_eq_append_getElem hi, List.map_append, List.append_assoc, List.append_assoc]; rfl
theorem turn_ok {b γ : Nat} {X : List Nat} (_w : Wf s) (hr : Rw s b ((M ++ X).map nB) γ) (hM : M.length < 2 ^ 60) (hb : ∀ x ∈ M, x < 256) :
    Cl B (.call 9 [.slice (some ⟨b, 0, none⟩) M.length c]) s fun _ s' => Rw s' b ((M.map (fun x => x ^^^ 1) ++ X).map nB) γ ∧ s'.nx = s.nx ∧ Kp (fun x => x = γ) s s' := by
  refine Cl.enter Tryz.f9 fn9 rfl rfl rfl ?_
  refine run1 ?_
  refine W.loop (α := Nat × St) (fun p => [(0, .slice (some ⟨b, 0, none⟩) M.length c), (2, nI p.1)]) (fun _ => []) (fun p => p.2)
    (fun p => p.1 ≤ M.length ∧ Rw p.2 b ((trn M p.1 ++ X).map nB) γ ∧ p.2.nx = s.nx ∧ Kp (fun x => x = γ) s p.2) (fun p => M.length - p.1) (0, s) ⟨Nat.zero_le _, by simpa [trn] using hr, rfl, .refl⟩ (.cons rfl (.cons rfl .nil)) rfl rfl (by show M.length - 0 < _; omega) ?_
  rintro ⟨i, s1⟩ ⟨k1, k2, k3, k4⟩
  simp only at k1 k2 k3 k4
  by_cases hi : i < M.length
  · have hA : Bs s1 (some ⟨b, 0, none⟩) (trn M i ++ X) := by
      have := (k2.sl (o := 0) (n := ((trn M i ++ X).map nB).length) (by omega)).at
      rwa [List.drop_zero, List.take_length] at this
    have hl : (trn M i).length = M.length := by unfold trn; rw [List.length_append, List.length_map, List.length_take, List.length_drop]; omega
    have hl2 : (trn M i ++ X).length = M.length + X.length := by rw [List.length_append, hl]
    obtain ⟨t1, t2⟩ := trn_step (Y := X) hi
    have hx : M[i] < 256 := hb _ (List.getElem_mem hi)
    have hx1 : M[i] ^^^ 1 < 256 := Nat.xor_lt_two_pow (n := 8) hx (by decide)
    dsimp only
    refine run1 ?_
    refine Wo.st rfl rfl rfl rfl rfl rfl rfl (by intro v hv; rw [List.mem_singleton] at hv; rw [hv]; rfl) k2 (by rw [List.length_map]; omega) ?_
    intro s2 j1 j2 j3
    have e : lov ((trn M i ++ X).map nB) (0 + i * 1) [nB ((((trn M i ++ X).getD i 0).xor 1).mod 256)] = (trn M (i + 1) ++ X).map nB := by
      rw [Nat.zero_add, Nat.mul_one, lay_set (by omega), t1, show (Nat.xor M[i] 1).mod 256 = M[i] ^^^ 1 from Nat.mod_eq_of_lt hx1, t2]
    have j1' : Rw s2 b (lov ((trn M i ++ X).map nB) (0 + i * 1) [nB ((((trn M i ++ X).getD i 0).xor 1).mod 256)]) γ := j1
    rw [e] at j1'
    refine run1 ?_
    exact rnd.n (i + 1, s2) ⟨hi, j1', j2.trans k3, k4.trans j3⟩ (by show M.length - (i + 1) < M.length - i; omega) (.cons rfl (.cons rfl .nil)) rfl rfl
  · dsimp only
    refine run1 ?_
    have : trn M i = M.map (fun x => x ^^^ 1) := by unfold trn; rw [List.take_of_length_le (by omega), List.drop_eq_nil_of_le (by omega), List.append_nil]
    rw [this] at k2
    exact Lv.nrm rfl ⟨k2, k3, k4⟩
end Go.Proofs.YtdibpdpcbnijeaaGreatDoor
