import Derived.Test.YtdibpdpcbnijeaaGreatDoorMszz
import Derived.Test.YtdibpdpcbnijeaaGreatDoorWf1zz
import Derived.Laws.Strings
import Derived.Test.YtdibpdpcbnijeaaGreatDoorCtzz
/-
  The evaluator over any input: a row of entries that is written in place.
-/
namespace Go.Sy
open Go Go.Ev
theorem eqV4 {q : Option Addr} {n c : Nat} : eqV 4 (.slice q n c) (.slice q n c) = true := by
  show (q == q && Nat.beq n n && Nat.beq c c) = true
  rw [Nat.beq_refl, Nat.beq_refl, beq_self_eq_true]; rfl
theorem eqV_pair {q q' : Option Addr} {n c n' c' : Nat} : eqV 5 (.agg ⟨[.slice q n c, .slice q' n' c']⟩) (.agg ⟨[.slice q n c, .slice q' n' c']⟩) = true := by
  show eqL (eqV 4) [.slice q n c, .slice q' n' c'] [.slice q n c, .slice q' n' c'] = true
  simp only [eqL, eqV4]; rfl
theorem BsV.kpN {s0 s : St} {v : Value} {A : List Nat} (h : BsV s0 v A) (w : Wf s0) (k : Kp (fun c => s0.nx ≤ c) s0 s) : BsV s v A := by
  obtain ⟨q, c, h1, h2, h3⟩ := h
  obtain ⟨γ, h4, h5⟩ := At.sl h2
  exact ⟨q, c, h1, (h4.kp w k (by have := h5 w; omega)).at, h3⟩
theorem BsV.slc {s : St} {v : Value} {A : List Nat} (h : BsV s v A) : ∃ q c, v = .slice q A.length c := let ⟨q, c, h1, _⟩ := h; ⟨q, c, h1⟩
/-- An entry's two cells, and what they are. -/
abbrev El := (Value × Value) × Ety
def cel (l : List El) : List Value := l.flatMap fun x => [x.1.1, x.1.2]
theorem cel_cons {x : El} {l : List El} : cel (x :: l) = x.1.1 :: x.1.2 :: cel l := rfl
theorem cel_app {l m : List El} : cel (l ++ m) = cel l ++ cel m := List.flatMap_append
theorem cel_length : ∀ l : List El, (cel l).length = l.length * 2
  | [] => rfl
  | x :: l => by rw [cel_cons, List.length_cons, List.length_cons, cel_length l, List.length_cons]; omega
theorem cel_get : ∀ {l : List El} {i : Nat} {x : El}, l[i]? = some x → ((cel l).drop (i * 2)).take 2 = [x.1.1, x.1.2]
  | [], i, x, h => by simp at h
  | y :: l, 0, x, h => by cases h; rfl
  | y :: l, i + 1, x, h => by rw [cel_cons, show (i + 1) * 2 = i * 2 + 1 + 1 by omega, List.drop_succ_cons, List.drop_succ_cons]; exact cel_get (l := l) h
theorem cel_set : ∀ {l : List El} {i : Nat} {x : El}, i < l.length → lov (cel l) (i * 2) [x.1.1, x.1.2] = cel (l.set i x)
  | [], i, x, h => by simp at h
  | y :: l, 0, x, _ => rfl
  | y :: l, i + 1, x, h => by
    have ih := cel_set (l := l) (i := i) (x := x) (by simpa using h)
    unfold lov at ih ⊢
    rw [cel_cons, show (i + 1) * 2 = i * 2 + 1 + 1 by omega, List.take_succ_cons, List.take_succ_cons, List.set_cons_succ, cel_cons, ← ih, show i * 2 + 1 + 1 + [x.1.1, x.1.2].length = i * 2 + [x.1.1, x.1.2].length + 1 + 1 by omega, List.drop_succ_cons, List.drop_succ_cons]
    rfl
theorem cel_ent {s : St} : ∀ {l : List El}, (∀ x ∈ l, BsV s x.1.1 x.2.1 ∧ BsV s x.1.2 x.2.2) → Ent s (cel l) (l.map Prod.snd)
  | [], _ => trivial
  | x :: _, h => ⟨(h x List.mem_cons_self).1, (h x List.mem_cons_self).2, cel_ent fun y hy => h y (List.mem_cons_of_mem _ hy)⟩
/-- Cells that are entries, as a row of these. -/
theorem Ent.els {s : St} : ∀ {cs : List Value} {E : List Ety}, Ent s cs E → ∃ l : List El, cs = cel l ∧ E = l.map Prod.snd ∧ ∀ x ∈ l, BsV s x.1.1 x.2.1 ∧ BsV s x.1.2 x.2.2
  | [], [], _ => ⟨[], rfl, rfl, by simp⟩
  | [], _ :: _, h => h.elim
  | [_], [], h => h.elim
  | [_], _ :: _, h => h.elim
  | _ :: _ :: _, [], h => h.elim
  | k :: v :: cs, e :: E, h => by
    obtain ⟨l, rfl, rfl, h3⟩ := Ent.els h.2.2
    refine ⟨((k, v), e) :: l, rfl, rfl, fun x hx => ?_⟩
    rcases List.mem_cons.1 hx with rfl | hx
    · exact ⟨h.1, h.2.1⟩
    · exact h3 x hx
/-- A row of entries on its way; what the entries are was there at the beginning. -/
structure Dt (s0 s : St) (b : Nat) (l : List El) (γ : Nat) : Prop where
  w0 : Wf s0
  kp : Kp (fun c => s0.nx ≤ c) s0 s
  rw : Rw s b (cel l) γ
  ge : s0.nx ≤ γ
  ks : ∀ x ∈ l, BsV s0 x.1.1 x.2.1 ∧ BsV s0 x.1.2 x.2.2
section
variable {s0 s s' : St} {b γ : Nat} {l : List El}
theorem Dt.wf (h : Dt s0 s b l γ) : Wf s := h.kp.wf h.w0
theorem Dt.kn (h : Dt s0 s b l γ) (k : Kn s s') : Dt s0 s' b l γ := ⟨h.w0, h.kp.trans (k.mono fun _ e => e.elim), h.rw.kp h.wf k id, h.ge, h.ks⟩
theorem Dt.at (h : Dt s0 s b l γ) : At s (some ⟨b, 0, none⟩) (cel l) := by
  have := (h.rw.sl (o := 0) (n := (cel l).length) (by omega)).at
  rwa [List.drop_zero, List.take_length] at this
theorem Dt.ldn (h : Dt s0 s b l γ) {i : Nat} {x : El} (hx : l[i]? = some x) : ldn s (qadd (some ⟨b, 0, none⟩) (i * 2)) 2 = some [x.1.1, x.1.2] := by
  have hi : i < l.length := (List.getElem?_eq_some_iff.1 hx).1
  rw [At.ldn h.at (by rw [cel_length]; omega) (by decide), cel_get hx]
theorem Dt.el (h : Dt s0 s b l γ) {i : Nat} {x : El} (hx : l[i]? = some x) : ∃ q c q' c', x.1.1 = .slice q x.2.1.length c ∧ x.1.2 = .slice q' x.2.2.length c' ∧ Bs s q x.2.1 ∧ Bs s q' x.2.2 ∧ x.2.1.length < 2 ^ 60 ∧ x.2.2.length < 2 ^ 60 := by
  obtain ⟨h1, h2⟩ := h.ks x (List.mem_of_getElem? hx)
  obtain ⟨q, c, e1, b1, l1⟩ := h1.kpN h.w0 h.kp
  obtain ⟨q', c', e2, b2, l2⟩ := h2.kpN h.w0 h.kp
  exact ⟨q, c, q', c', e1, e2, b1, b2, l1, l2⟩
theorem Dt.eqv (h : Dt s0 s b l γ) {i : Nat} {x : El} (hx : l[i]? = some x) : eqV 5 (.agg ⟨[x.1.1, x.1.2]⟩) (.agg ⟨[x.1.1, x.1.2]⟩) = true := by
  obtain ⟨q, c, q', c', e1, e2, _⟩ := h.el hx
  rw [e1, e2]; exact eqV_pair
theorem Dt.one (h : Dt s0 s b l γ) {i : Nat} {x : El} (hx : l[i]? = some x) : ∀ v ∈ [x.1.1, x.1.2], one v = true := by
  obtain ⟨q, c, q', c', e1, e2, _⟩ := h.el hx
  rw [e1, e2]
  intro v hv
  simp only [List.mem_cons, List.not_mem_nil, or_false] at hv
  rcases hv with rfl | rfl <;> rfl
theorem Dt.set (h : Dt s0 s b l γ) {i : Nat} {x : El} (hi : i < l.length) (hr : Rw s' b (lov (cel l) (0 + i * 2) [x.1.1, x.1.2]) γ) (k : Kp (fun c => c = γ) s s') (hx : BsV s0 x.1.1 x.2.1 ∧ BsV s0 x.1.2 x.2.2) : Dt s0 s' b (l.set i x) γ := by
  refine ⟨h.w0, h.kp.trans (k.mono fun c e => by rw [e]; exact h.ge), ?_, h.ge, fun y hy => ?_⟩
  · rw [Nat.zero_add, cel_set hi] at hr; exact hr
  · rcases List.mem_or_eq_of_mem_set hy with hy | rfl
    · exact h.ks y hy
    · exact hx
theorem Dt.len (_h : Dt s0 s b l γ) {i : Nat} (hi : i < l.length) : 0 + i * 2 + 2 ≤ (cel l).length := by rw [cel_length]; omega
theorem Dt.bs (h : Dt s0 s b l γ) {i : Nat} {x : El} (hx : l[i]? = some x) : BsV s0 x.1.1 x.2.1 ∧ BsV s0 x.1.2 x.2.2 := h.ks x (List.mem_of_getElem? hx)
end
/-- Two changed places. -/
theorem swap_at {α : Type} {P M R : List α} {x y : α} {i j : Nat} (hi : P.length = i) (hj : i + 1 + M.length = j) : (((P ++ x :: (M ++ y :: R))).set i y).set j x = P ++ y :: (M ++ x :: R) ∧ (P ++ x :: (M ++ y :: R))[i]? = some x ∧ (P ++ x :: (M ++ y :: R))[j]? = some y := by
  subst hi hj
  refine ⟨?_, ?_, ?_⟩
  · rw [List.set_append_right _ _ (Nat.le_refl _), Nat.sub_self, List.set_cons_zero, List.set_append_right _ _ (by omega), show P.length + 1 + M.length - P.length = M.length + 1 by omega, List.set_cons_succ, List.set_append_right _ _ (Nat.le_refl _), Nat.sub_self, List.set_cons_zero]
  · rw [List.getElem?_append_right (Nat.le_refl _), Nat.sub_self]; rfl
  · rw [List.getElem?_append_right (by omega), show P.length + 1 + M.length - P.length = M.length + 1 by omega, List.getElem?_cons_succ, List.getElem?_append_right (Nat.le_refl _), Nat.sub_self]; rfl
theorem swap_at' {α : Type} {P R : List α} {x y : α} {i j : Nat} (hi : P.length = i) (hj : i + 1 = j) : (((P ++ x :: y :: R)).set j x).set i y = P ++ y :: x :: R ∧ (P ++ x :: y :: R)[i]? = some x ∧ (P ++ x :: y :: R)[j]? = some y := by
  have h := swap_at (P := P) (M := []) (R := R) (x := x) (y := y) hi hj
  simp only [List.nil_append] at h
  refine ⟨?_, h.2⟩
  rw [← h.1]
  exact List.set_comm _ _ (by omega)
end Go.Sy
/-
  The evaluator over any input: strings.
-/
namespace Go.Sy
open Go Go.Ev
/-- A string of bytes. -/
def strB (A : List Nat) : ByteArray := ⟨⟨A.map UInt8.ofNat⟩⟩
theorem strB_inj {A D : List Nat} (hA : ∀ x ∈ A, x < 256) (hD : ∀ x ∈ D, x < 256) (h : strB A = strB D) : A = D := by
  have h1 : A.map UInt8.ofNat = D.map UInt8.ofNat := by injection h with h; injection h
  induction A generalizing D with
  | nil => cases D with
    | nil => rfl
    | cons => cases h1
  | cons a A ih => cases D with
    | nil => cases h1
    | cons d D =>
      simp only [List.map_cons, List.cons.injEq] at h1
      have e : a = d := by
        have := congrArg UInt8.toNat h1.1
        rw [UInt8.toNat_ofNat', UInt8.toNat_ofNat'] at this
        have ha := hA a List.mem_cons_self
        have hd := hD d List.mem_cons_self
        rwa [Nat.mod_eq_of_lt ha, Nat.mod_eq_of_lt hd] at this
      rw [e, ih (fun x hx => hA x (List.mem_cons_of_mem _ hx)) (fun x hx => hD x (List.mem_cons_of_mem _ hx)) (by unfold strB; rw [h1.2]) h1.2]
theorem bytesOf_map : ∀ A : List Nat, bytesOf (A.map nB) = some (A.map UInt8.ofNat)
  | [] => rfl
  | a :: A => by
    show (match bytesOf (A.map nB) with | some bs => some (UInt8.ofNat a :: bs) | none => none) = _
    rw [bytesOf_map A]; rfl
section
variable {X : Fx} {env : Env} {s : St}
theorem Xv.b2s {src dst t0 n e t1 n1 t2 n2 : Nat} {z z1 z2 : Option (List Value)} {x : Operand} {q : Option Addr} {c : Nat} {A : List Nat} (hs : tk X.B.T src = some ⟨t0, n, .sl e, z⟩) (he : tk X.B.T e = some ⟨t1, n1, .it .u8, z1⟩) (hd : tk X.B.T dst = some ⟨t2, n2, .str, z2⟩) (hx : ev env x = some (.slice q A.length c)) (hA : Bs s q A) : Xv X (.convert src dst x) env s (.string (strB A)) s := fun tm hf => by
  show xConv X.P src dst (opd tm x) s = _
  rw [ev_opd hf hx]
  have h1 : X.P.underlying src = some (.slice e) := X.B.un hs
  have h2 : X.P.underlying dst = some .string := X.B.un hd
  have h3 : X.P.underlying e = some (.int .u8) := X.B.un he
  unfold xConv
  simp only [h1, h2]
  unfold toStr
  simp only [h3, isU8, cond, hA.cells, bytesOf_map]
  rfl
theorem beq_str (a b : ByteArray) : (a.toList == b.toList) = decide (a = b) := by
  rw [ByteArray.toList_eq, ByteArray.toList_eq]
  obtain ⟨⟨x⟩⟩ := a
  obtain ⟨⟨y⟩⟩ := b
  by_cases h : x = y
  · subst h; rw [decide_eq_true rfl]; exact beq_self_eq_true _
  · rw [decide_eq_false fun e => h (by injection e with e; injection e)]; exact beq_eq_false_iff_ne.2 h
theorem Xv.seq {t t' : TypeId} {x y : Operand} {a b : ByteArray} (hx : ev env x = some (.string a)) (hy : ev env y = some (.string b)) : Xv X (.binOp .eql t x y t') env s (.bool (decide (a = b))) s := fun tm hf => by
  show xBin X.P .eql t x y (opd tm x) (opd tm y) s = _
  rw [ev_opd hf hx, ev_opd hf hy]
  show okB (a.toList == b.toList) s = _
  rw [beq_str]; cases decide (a = b) <;> rfl
theorem Xv.sne {t t' : TypeId} {x y : Operand} {a b : ByteArray} (hx : ev env x = some (.string a)) (hy : ev env y = some (.string b)) : Xv X (.binOp .neq t x y t') env s (.bool (decide (a ≠ b))) s := fun tm hf => by
  show xBin X.P .neq t x y (opd tm x) (opd tm y) s = _
  rw [ev_opd hf hx, ev_opd hf hy]
  show okB (!(a.toList == b.toList)) s = _
  rw [beq_str, ← decide_not]; cases decide (a ≠ b) <;> rfl
theorem Xv.lenT {x : Operand} {t n t0 : Nat} {z : Option (List Value)} {a : ByteArray} (ht : tk X.B.T t = some ⟨t0, n, .str, z⟩) (hx : ev env x = some (.string a)) : Xv X (.call ⟨.builtin .len, #[x], #[t]⟩) env s (nI a.size) s := fun tm hf => by
  show xLen X.P [t] (opds tm [x]) s = _
  rw [evs_opds hf (xs := [x]) (vs := [.string a]) (by unfold evs; rw [hx]; rfl)]
  have hu : X.P.underlying t = some .string := X.B.un ht
  unfold xLen headT
  simp only [hu]
  unfold okN; rw [fN_eq]
end
end Go.Sy
/-
  bytes.Clone.
-/
namespace Go.Proofs.YtdibpdpcbnijeaaGreatDoor
open Go Go.Ev Go.Sy
set_option maxRecDepth 100000
variable {s : St} {q r : Option Addr} {c d : Nat} {M N : List Nat}
theorem clone_ok (w : Wf s) (ha : Bs s q M) (hA : M.length < 2 ^ 47 - 1024) :
    Cl B (.call 19 [.slice q M.length c]) s fun v s' => ∃ q' c' γ, v = .slice q' M.length c' ∧ Gw s' q' M.length c' 1 (M.map nB) γ ∧ Kn s s' ∧ s.nx ≤ γ := by
  refine Cl.enter Tryz.f19 fn19 rfl rfl rfl ?_
  by_cases hq : q = none
  · refine run1 ?_
    subst hq
    have hM := ha.nil_of
    subst hM
    exact Lv.ret rfl ⟨none, 0, s.nx, rfl, Gw.nil, .refl, Nat.le_refl _⟩
  · refine run1 ?_
    refine Wo.app rfl rfl rfl rfl rfl rfl rfl rfl rfl (mkRow_wf w) (Gw.mk0 rfl) rfl (ha.kn w mkRow_kn).cells (by simp) one_nB rfl (by omega) (by omega) ?_
    intro q' c' γ' s' h1 h2 h3
    refine run1 ?_
    refine Lv.ret rfl ⟨q', c', γ', ?_, by rwa [Nat.zero_add] at h1, Kn.app mkRow_kn h2 (Nat.le_refl _), ?_⟩
    · show Value.slice q' (0 + M.length) c' = _; rw [Nat.zero_add]
    · rcases h3 with h | ⟨h, _⟩
      · exact Nat.le_of_eq h.symm
      · rw [h]; exact Nat.le_succ _
end Go.Proofs.YtdibpdpcbnijeaaGreatDoor
/-
  cairnlaw01.Roomy.
-/
namespace Go.Proofs.YtdibpdpcbnijeaaGreatDoor
open Go Go.Ev Go.Sy
set_option maxRecDepth 100000
variable {s : St} {q r : Option Addr} {c d : Nat} {M N : List Nat}
/-- Bytes with marks in the room behind. -/
theorem roomy_ok (w : Wf s) (ha : Bs s q M) (hA : M.length < 2 ^ 47 - 1024) :
    Cl B (.call 11 [.slice q M.length c]) s fun v s' => ∃ b c' γ, v = .slice (some ⟨b, 0, none⟩) M.length c' ∧ Rw s' b ((M ++ [77, 78, 79]).map nB) γ ∧ (c' = least (M.length + 3) 1 ∨ c' = sure (M.length + 3)) ∧ Kn s s' ∧ s.nx ≤ γ := by
  refine Cl.enter Tryz.f11 fn11 rfl rfl rfl ?_
  refine run1 ?_
  refine Wo.app rfl rfl rfl rfl rfl rfl rfl rfl rfl (mkRow_wf w) (Gw.mk0 rfl) rfl (ha.kn w mkRow_kn).cells (by simp) one_nB rfl (by omega) (by omega) ?_
  intro q' c' γ' s' h1 h2 h3
  have k1 : Kn s s' := Kn.app mkRow_kn h2 (Nat.le_refl _)
  have w1 := k1.wf w
  have g1 : s.nx ≤ γ' := by
    rcases h3 with h | ⟨h, _⟩
    · exact Nat.le_of_eq h.symm
    · rw [h]; exact Nat.le_succ _
  refine run1 ?_
  refine Wo.app rfl rfl rfl rfl rfl rfl rfl rfl rfl (mkRow_wf w1) (h1.kp w1 (mkRow_kn (cs := [nB 77, nB 78, nB 79])) id) rfl (cells_at mkRow_sl.at rfl (by decide)) rfl (by intro v hv; exact one_nB (A := [77, 78, 79]) v hv) rfl (by omega) (by omega) ?_
  intro q2 c2 γ2 s2 j1 j2 j3
  have k2 : Kn s s2 := Kn.app (k1.trans mkRow_kn) j2 g1
  have e : (0 + M.length + 3) = M.length + 3 := by omega
  rw [e] at j1 ⊢
  have j1' : Gw s2 q2 (M.length + 3) c2 1 (M.map nB ++ [nB 77, nB 78, nB 79]) γ2 := j1
  obtain ⟨b, rfl, hr, hcap⟩ := j1'.rw (by omega)
  obtain ⟨hc1, hc2⟩ := cap_ok hcap (by omega)
  refine run1 ?_
  refine Wo.val rfl (Xv.sl0 rfl rfl rfl rfl (by omega) hc2) rfl ?_
  refine run1 ?_
  refine Lv.ret rfl ⟨b, c2, γ2, rfl, by rw [List.map_append]; exact hr, hcap, k2, ?_⟩
  rcases j3 with h | ⟨h, _⟩
  · rw [h]; exact g1
  · rw [h]; exact Nat.le_trans k1.le (Nat.le_succ _)
end Go.Proofs.YtdibpdpcbnijeaaGreatDoor
/-
  The closed call, reckoned.
-/
namespace Go.Proofs.YtdibpdpcbnijeaaGreatDoor
open Go Go.Ev Go.RowKit
set_option maxRecDepth 1000000 in
theorem whole : isT (run Tryz.prog Dg.hooks 400 (.call 15 []) (.mk (tables Dg.tabs) 1000 .nil)) = true := by kernel_rfl
end Go.Proofs.YtdibpdpcbnijeaaGreatDoor
