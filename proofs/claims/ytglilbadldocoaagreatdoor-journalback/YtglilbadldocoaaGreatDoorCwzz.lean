import Derived.Test.YtglilbadldocoaaGreatDoorWf1zz
import Derived.Laws.Strings
import Derived.Test.YtglilbadldocoaaGreatDoorBbzz
namespace Go.Sy
open Go Go.Ev
theorem eqV4 {q : Option Addr} {n c : Nat} : eqV 4 (.slice q n c) (.slice q n c) = true := by
 show (q == q && Nat.beq n n && Nat.beq c c) = true
 rw [Nat.beq_refl, Nat.beq_refl, beq_self_eq_true]; rfl
abbrev El := (Value × Value) × Ety
section
variable {s0 s s' : St} {b γ : Nat} {l : List El}
end
end Go.Sy
namespace Go.Sy
open Go Go.Ev
section
variable {X : Fx} {env : Env} {df : List Deferred} {s : St} {Q : Post}
structure meet {α : Type} (I : α → Env) (S : α → St) (ok : α → Prop) (df : List Deferred) (e : Ex) (env : Env) (df' : List Deferred) (s' : St) : Prop where
 h : e = .normal ∧ ∃ i, ok i ∧ Sub (I i) env ∧ df' = df ∧ s' = S i
theorem meet.n {α : Type} {I : α → Env} {S : α → St} {ok : α → Prop} (i : α) (h : ok i) (h1 : Sub (I i) env) (h2 : s = S i) : meet I S ok df .normal env df s := ⟨rfl, i, h, h1, rfl, h2⟩
theorem meet.go {α : Type} {I : α → Env} {S : α → St} {ok : α → Prop} {rest : Code} (k : ∀ i, ok i → W X rest (I i) df (S i) Q) {e : Ex} {env' : Env} {df' : List Deferred} {s' : St} (m : meet I S ok df e env' df' s') : andThen X rest Q e env' df' s' := by
 obtain ⟨rfl, i, hi, hs, rfl, rfl⟩ := m.h
 exact andThen.n ((k i hi).sub hs)
theorem W.meet {α : Type} (I : α → Env) (S : α → St) (ok : α → Prop) {c rest : Code} (h : W X c env df s (meet I S ok df)) (k : ∀ i, ok i → W X rest (I i) df (S i) Q) : W X c env df s (andThen X rest Q) := ⟨h.w.mono fun _ _ _ _ m => m.go k⟩
end
theorem half_ok {i j : Nat} (h : i + j < 2 ^ 62) : wrapN .i64 (Nat.shiftRight (Nat.mod (i + j) 18446744073709551616) 1) = some ((i + j) / 2) := by
 have e : Nat.shiftRight (Nat.mod (i + j) 18446744073709551616) 1 = (i + j) / 2 := by
  rw [show Nat.mod (i + j) 18446744073709551616 = i + j from Nat.mod_eq_of_lt (by omega)]
  show (i + j) >>> 1 = _
  rw [Nat.shiftRight_eq_div_pow]
 rw [e]
 exact wrapI (by omega)
section
variable {α : Type} {f : α → List Nat}
end
end Go.Sy
namespace Go.Sy
open Go Go.Ev
def strB (A : List Nat) : ByteArray := ⟨⟨A.map UInt8.ofNat⟩⟩
theorem bytesOf_map : ∀ A : List Nat, bytesOf (A.map nB) = some (A.map UInt8.ofNat)
 | [] => rfl
 | a :: A => by
  show (match bytesOf (A.map nB) with | some bs => some (UInt8.ofNat a :: bs) | none => none) = _
  rw [bytesOf_map A]; rfl
section
variable {X : Fx} {env : Env} {s : St}
theorem Xv.b2s {src dst t0 n e t1 n1 t2 n2 : Nat} {z z1 z2 : Option (List Value)} {x : Operand} {q : Option Addr} {c : Nat} {A : List Nat} (hs : tk X.B.T src = some ⟨t0, n, .sl e, z⟩) (he : tk X.B.T e = some ⟨t1, n1, .it .u8, z1⟩) (hd : tk X.B.T dst = some ⟨t2, n2, .str, z2⟩) (hx : ev env x = some (.slice q A.length c)) (hA : Bs s q A) : Xv X (.convert src dst x) env s (.string (strB A)) s := fun tm hf => by
 show xConv X.P src dst (opd tm x) s = _
 rw [ev_opd hf hx]
 have h1 : X.P.underlying src = some (.slice e) := X.B.un hs
 have h2 : X.P.underlying dst = some .string := X.B.un hd
 have h3 : X.P.underlying e = some (.int .u8) := X.B.un he
 unfold xConv
 simp only [h1, h2]
 unfold toStr
 simp only [h3, isU8, cond, hA.cells, bytesOf_map]
 rfl
theorem beq_str (a b : ByteArray) : (a.toList == b.toList) = decide (a = b) := by
 rw [ByteArray.toList_eq, ByteArray.toList_eq]
 obtain ⟨⟨x⟩⟩ := a
 obtain ⟨⟨y⟩⟩ := b
 by_cases h : x = y
 ·subst h; rw [decide_eq_true rfl]; exact beq_self_eq_true _
 ·rw [decide_eq_false fun e => h (by injection e with e; injection e)]; exact beq_eq_false_iff_ne.2 h
theorem Xv.seq {t t' : TypeId} {x y : Operand} {a b : ByteArray} (hx : ev env x = some (.string a)) (hy : ev env y = some (.string b)) : Xv X (.binOp .eql t x y t') env s (.bool (decide (a = b))) s := fun tm hf => by
 show xBin X.P .eql t x y (opd tm x) (opd tm y) s = _
 rw [ev_opd hf hx, ev_opd hf hy]
 show okB (a.toList == b.toList) s = _
 rw [beq_str]; cases decide (a = b) <;> rfl
end
end Go.Sy
namespace Go.Sy
open Go Go.Ev
end Go.Sy
namespace Go.Sy
open Go Go.Ev
section
variable {X : Fx} {env : Env} {df : List Deferred} {s : St} {Q : Post} {all os : List Oper} {d : Option Nat} {ty : TypeId} {pos : String} {af : Array Edge} {g : Option (Nat × Bool)}
end
structure Ce where
 q : Option Addr
 c : Nat
 γ : Nat
 A : List Nat
def Ce.v (x : Ce) : Value := .slice x.q x.A.length x.c
end Go.Sy
namespace Go.Sy
open Go Go.Ev
theorem pureRun_bind {α β : Type} {P : Program} (m : Sem α) (f : α → Sem β) : pureRun P (m >>= f) = (match pureRun P m with | some a => pureRun P (f a) | none => none) := by
 induction m with
 | pure a => rfl
 | program k ih => exact ih P
 | _ => rfl
theorem pureRun_und {P : Program} {t : TypeId} {d : TypeDesc} (h : P.underlying t = some d) : pureRun P (underlying t) = some d := by
 show pureRun P (match P.underlying t with | some d => pure d | none => stuck "no such type") = _
 rw [h]; rfl
theorem pureRun_size {P : Program} {t : TypeId} {n : Nat} (h : sizeOfT P t = some n) : pureRun P (sizeOf t) = some n := by
 unfold sizeOfT at h
 split at h
 case h_2 => cases h
 rename_i i hi
 cases h
 show pureRun P ((match P.info? t with | some i => pure i | none => stuck "no such type") >>= fun i => pure i.size) = _
 rw [hi]; rfl
section
variable {X : Fx} {env : Env} {s : St}
theorem Xv.slN {t t0 n0 e t1 size : Nat} {z0 z : Option (List Value)} {ke : Sh} {x y : Operand} {k : IntKind} (ht : tk X.B.T t = some ⟨t0, n0, .sl e, z0⟩) (he : tk X.B.T e = some ⟨t1, size, ke, z⟩) (hx : ev env x = some (.slice none 0 0)) (hy : ev env y = some (.int k (.ofNat 0))) :
  Xv X (.slice t x none (some y) none) env s (.slice none 0 0) s ∧ Xv X (.slice t x (some y) none none) env s (.slice none 0 0) s := by
 have hu : X.P.underlying t = some (.slice e) := X.B.un ht
 have hs : sizeOfT X.P e = some size := X.B.sz he
 constructor
 ·intro tm hf
  show xSlice X.P t (opd tm x) none (some (opd tm y)) none s = _
  rw [ev_opd hf hx, ev_opd hf hy]
  unfold xSlice
  simp only [hu]
  show ofPure X.P (Instr.slice t (.slice none 0 0) none (some (.int k (.ofNat 0))) none) s = _
  unfold ofPure Instr.slice
  rw [pureRun_bind, pureRun_und hu]
  simp only [Instr.sliceBounds, Instr.sliceBound, asIntOf, pureRun_bind, pureRun_size hs]
  rfl
 ·intro tm hf
  show xSlice X.P t (opd tm x) (some (opd tm y)) none none s = _
  rw [ev_opd hf hx, ev_opd hf hy]
  unfold xSlice
  simp only [hu]
  show ofPure X.P (Instr.slice t (.slice none 0 0) (some (.int k (.ofNat 0))) none none) s = _
  unfold ofPure Instr.slice
  rw [pureRun_bind, pureRun_und hu]
  simp only [Instr.sliceBounds, Instr.sliceBound, asIntOf, pureRun_bind, pureRun_size hs]
  rfl
theorem At.drop {s : St} {b o : Nat} {cs : List Value} (h : At s (some ⟨b, o, none⟩) cs) {n : Nat} (hn : n ≤ cs.length) : At s (some ⟨b, o + n, none⟩) (cs.drop n) := by
 rcases h with ⟨rfl, h⟩ | ⟨b', o', h, hr⟩
 ·rcases h with h | ⟨_, _, _, h⟩ <;> cases h
 ·cases h
  obtain ⟨l, h1, h2, h3⟩ := readAt_some hr
  refine .inr ⟨b, o + n, rfl, ?_⟩
  rw [List.length_drop] at h2 ⊢
  rw [readAt_of h1 (by rw [List.length_drop]; omega)]
  congr 1
  rw [h3, List.drop_take, List.drop_drop]
  congr 1
  rw [List.length_take, List.length_drop]; omega
theorem Xv.slHi {t t0 n0 e t1 size : Nat} {z0 z : Option (List Value)} {ke : Sh} {x y : Operand} {k : IntKind} {q : Option Addr} {n c γ h : Nat} {cs : List Value} (ht : tk X.B.T t = some ⟨t0, n0, .sl e, z0⟩) (he : tk X.B.T e = some ⟨t1, size, ke, z⟩) (hx : ev env x = some (.slice q n c)) (hy : ev env y = some (.int k (.ofNat h))) (hg : Gw s q n c size cs γ) (hh : h ≤ n) (hn : n < 2 ^ 60) :
  Xv X (.slice t x none (some y) none) env s (.slice q h c) s ∧ At s q (cs.take (h * size)) := by
 refine ⟨?_, (hg.sl.at).take (by rw [hg.len]; exact Nat.mul_le_mul_right _ hh)⟩
 rcases hg.at' with ⟨rfl, rfl, rfl⟩ | ⟨b, g, rfl, h1, h2, h3⟩
 ·have h0 : h = 0 := by omega
  subst h0
  exact (Xv.slN ht he hx hy).1
 ·rcases h3 with rfl | rfl
  ·obtain ⟨a1, a2, a3⟩ := cap_least (n := n) (es := size) (by omega)
   exact Xv.sl0 ht he hx hy (by rw [a1]; exact hh) (fun h => by rw [a2] at h; cases h)
  ·exact Xv.sl0 ht he hx hy (by rw [cap_sure.1]; exact hh) (fun _ => by rw [cap_sure.1])
theorem Xv.slLo {t t0 n0 e t1 size : Nat} {z0 z : Option (List Value)} {ke : Sh} {x y : Operand} {k : IntKind} {q : Option Addr} {n c γ l : Nat} {cs : List Value} (ht : tk X.B.T t = some ⟨t0, n0, .sl e, z0⟩) (he : tk X.B.T e = some ⟨t1, size, ke, z⟩) (hx : ev env x = some (.slice q n c)) (hy : ev env y = some (.int k (.ofNat l))) (hg : Gw s q n c size cs γ) (hh : l ≤ n) (hn : n < 2 ^ 60) :
  ∃ q' c', Xv X (.slice t x (some y) none none) env s (.slice q' (n - l) c') s ∧ At s q' (cs.drop (l * size)) ∧ (q' ≠ none → q ≠ none) := by
 rcases hg.at' with ⟨rfl, rfl, rfl⟩ | ⟨b, g, rfl, h1, h2, h3⟩
 ·have h0 : l = 0 := by omega
  subst h0
  refine ⟨none, 0, (Xv.slN ht he hx hy).2, ?_, id⟩
  have := hg.len
  have hcs : cs = [] := List.eq_nil_of_length_eq_zero (by omega)
  subst hcs
  exact .inl ⟨by simp, .inl rfl⟩
 ·have hA := hg.sl.at
  have hd : At s (some ⟨b, 0 + l * size, none⟩) (cs.drop (l * size)) := hA.drop (by rw [hg.len]; exact Nat.mul_le_mul_right _ hh)
  have base : ∀ tm, Fits env tm → exec X.P (.slice t x (some y) none none) tm s = ofO (slice2 size b 0 c l n) s := fun tm hf => by
   show xSlice X.P t (opd tm x) (some (opd tm y)) none none s = _
   rw [ev_opd hf hx, ev_opd hf hy]
   unfold xSlice
   simp only [show X.P.underlying t = _ from X.B.un ht, show sizeOfT X.P e = _ from X.B.sz he]
   rfl
  have hcap : capOf c = n := by
   rcases h3 with rfl | rfl
   ·exact (cap_least (by omega)).1
   ·exact cap_sure.1
  have key : slice2 size b 0 c l n = cond (capSure c) (cond (Nat.beq n l) (mkSl b 0 (Nat.sub n l) (sure (Nat.sub n l))) (mkSl b (Nat.add 0 (Nat.mul l size)) (Nat.sub n l) (sure (Nat.sub n l)))) (cond (Nat.beq l 0) (mkSl b 0 n c) (cond (Nat.blt l n) (cond (Nat.beq (esOf c) size) (mkSl b (Nat.add 0 (Nat.mul l size)) (Nat.sub n l) (least (Nat.sub n l) size)) none) (some (.slice (some ⟨b, 0, some 0⟩) 0 0)))) := by
   unfold slice2
   rw [hcap, show Nat.ble l n = true from Nat.ble_eq_true_of_le hh, show Nat.ble n n = true from Nat.ble_eq_true_of_le (Nat.le_refl _)]; rfl
  have mk : ∀ o m d : Nat, mkSl b o m d = some (.slice (some ⟨b, o, none⟩) m d) := fun o m d => by unfold mkSl; simp only [fN_eq]
  rcases h3 with rfl | rfl
  ·obtain ⟨a1, a2, a3⟩ := cap_least (n := n) (es := size) (by omega)
   rw [a2, a3, Nat.beq_refl] at key
   by_cases hl0 : l = 0
   ·subst hl0
    refine ⟨some ⟨b, 0, none⟩, least n size, fun tm hf => ?_, by rw [Nat.zero_mul, List.drop_zero]; exact hA, fun h => h⟩
    rw [base tm hf, key]
    show ofO (mkSl b 0 n _) s = _
    rw [mk]; rfl
   ·by_cases hln : l < n
    ·refine ⟨some ⟨b, 0 + l * size, none⟩, least (n - l) size, fun tm hf => ?_, hd, fun _ h => by cases h⟩
     rw [base tm hf, key, show Nat.beq l 0 = false from by cases l with | zero => exact absurd rfl hl0 | succ n => rfl, show Nat.blt l n = true from Nat.ble_eq_true_of_le hln]
     show ofO (mkSl b (0 + l * size) (n - l) (least (n - l) size)) s = _
     rw [mk]; rfl
    ·have hle : l = n := by omega
     subst hle
     refine ⟨some ⟨b, 0, some 0⟩, 0, fun tm hf => ?_, ?_, fun _ h => by cases h⟩
     ·rw [base tm hf, key, show Nat.beq l 0 = false from by cases l with | zero => exact absurd rfl hl0 | succ n => rfl, show Nat.blt l l = false from by rw [blt_dec]; exact decide_eq_false (Nat.lt_irrefl _), Nat.sub_self]
      rfl
     ·exact .inl ⟨List.drop_eq_nil_of_le (by rw [hg.len]; exact Nat.le_refl _), .inr ⟨b, 0, 0, rfl⟩⟩
  ·rw [cap_sure.2] at key
   by_cases hln : n = l
   ·subst hln
    refine ⟨some ⟨b, 0, none⟩, sure (n - n), fun tm hf => ?_, ?_, fun _ h => by cases h⟩
    ·rw [base tm hf, key, Nat.beq_refl]
     show ofO (mkSl b 0 (n - n) (sure (n - n))) s = _
     rw [mk]; rfl
    ·rw [List.drop_eq_nil_of_le (by rw [hg.len]; exact Nat.le_refl _)]
     have := hA.take (n := 0) (Nat.zero_le _)
     rwa [List.take_zero] at this
   ·refine ⟨some ⟨b, 0 + l * size, none⟩, sure (n - l), fun tm hf => ?_, hd, fun _ h => by cases h⟩
    rw [base tm hf, key, show Nat.beq n l = false from by rw [beq_dec]; exact decide_eq_false hln]
    show ofO (mkSl b (0 + l * size) (n - l) (sure (n - l))) s = _
    rw [mk]; rfl
end
section
variable {X : Fx} {env : Env} {df : List Deferred} {s : St} {Q : Post} {all os : List Oper} {d : Option Nat} {ty : TypeId} {pos : String} {af : Array Edge} {g : Option (Nat × Bool)}
theorem Wo.slHi {t t0 n0 e t1 size : Nat} {z0 z : Option (List Value)} {ke : Sh} {x y : Operand} {k : IntKind} {q : Option Addr} {n c γ h : Nat} {cs : List Value} (hgd : wantsE all env g = some true) (ht : tk X.B.T t = some ⟨t0, n0, .sl e, z0⟩) (he : tk X.B.T e = some ⟨t1, size, ke, z⟩) (hd : dOk X d = true) (hx : ev env x = some (.slice q n c)) (hy : ev env y = some (.int k (.ofNat h))) (hg : Gw s q n c size cs γ) (hh : h ≤ n) (hn : n < 2 ^ 60)
  (K : At s q (cs.take (h * size)) → Wo X all os (up d (.slice q h c) env) df s Q) : Wo X all (⟨d, .slice t x none (some y) none, ty, pos, af, g⟩ :: os) env df s Q :=
 Wo.val hgd (Xv.slHi ht he hx hy hg hh hn).1 hd (K (Xv.slHi ht he hx hy hg hh hn).2)
theorem Wo.slLo {t t0 n0 e t1 size : Nat} {z0 z : Option (List Value)} {ke : Sh} {x y : Operand} {k : IntKind} {q : Option Addr} {n c γ l : Nat} {cs : List Value} (hgd : wantsE all env g = some true) (ht : tk X.B.T t = some ⟨t0, n0, .sl e, z0⟩) (he : tk X.B.T e = some ⟨t1, size, ke, z⟩) (hd : dOk X d = true) (hx : ev env x = some (.slice q n c)) (hy : ev env y = some (.int k (.ofNat l))) (hg : Gw s q n c size cs γ) (hh : l ≤ n) (hn : n < 2 ^ 60)
  (K : ∀ q' c', At s q' (cs.drop (l * size)) → (q' ≠ none → q ≠ none) → Wo X all os (up d (.slice q' (n - l) c') env) df s Q) : Wo X all (⟨d, .slice t x (some y) none none, ty, pos, af, g⟩ :: os) env df s Q := by
 obtain ⟨q', c', h1, h2, h3⟩ := Xv.slLo (X := X) (env := env) ht he hx hy hg hh hn
 exact Wo.val hgd h1 hd (K q' c' h2 h3)
end
end Go.Sy
namespace Go.Proofs.YtglilbadldocoaaGreatDoor
open Go Go.Ev Go.Sy
set_option maxRecDepth 100000
variable {s : St} {q r : Option Addr} {c d : Nat} {M N : List Nat}
theorem clone_ok (w : Wf s) (ha : Bs s q M) (hA : M.length < 2 ^ 47 - 1024) :
  Cl B (.call 25 [.slice q M.length c]) s fun v s' => ∃ q' c' γ, v = .slice q' M.length c' ∧ Gw s' q' M.length c' 1 (M.map nB) γ ∧ Kn s s' ∧ s.nx ≤ γ := by
 refine Cl.enter Tryz.f25 fn25 rfl rfl rfl ?_
 by_cases hq : q = none
 ·refine run1 ?_
  subst hq
  have hM := ha.nil_of
  subst hM
  exact Lv.ret rfl ⟨none, 0, s.nx, rfl, Gw.nil, .refl, Nat.le_refl _⟩
 ·refine run1 ?_
  refine Wo.app rfl rfl rfl rfl rfl rfl rfl rfl rfl (mkRow_wf w) (Gw.mk0 rfl) rfl (ha.kn w mkRow_kn).cells (by simp) one_nB rfl (by omega) (by omega) ?_
  intro q' c' γ' s' h1 h2 h3
  refine run1 ?_
  refine Lv.ret rfl ⟨q', c', γ', ?_, by rwa [Nat.zero_add] at h1, Kn.app mkRow_kn h2 (Nat.le_refl _), ?_⟩
  ·show Value.slice q' (0 + M.length) c' = _; rw [Nat.zero_add]
  ·rcases h3 with h | ⟨h, _⟩
   ·exact Nat.le_of_eq h.symm
   ·rw [h]; exact Nat.le_succ _
open Go Go.Ev Go.Sy
set_option maxRecDepth 100000
variable {s : St} {q r : Option Addr} {c d : Nat} {M N : List Nat}
theorem rcommon_ok (ha : Bs s q M) (hb : Bs s r N) (hA : M.length < 2 ^ 60) (_hB : N.length < 2 ^ 60) :
  Cl B (.call 57 [.slice q M.length c, .slice r N.length d]) s fun v s' => v = nI (com M N) ∧ s' = s := by
 refine Cl.enter Tryz.f57 fn57 rfl rfl rfl ?_
 refine run1 ?_
 refine W.loop (α := Nat) (fun i => [(0, .slice q M.length c), (1, .slice r N.length d), (5, nI i)]) (fun _ => []) (fun _ => s)
  (fun i => i ≤ M.length ∧ com M N = i + com (M.drop i) (N.drop i)) (fun i => M.length - i) 0 ⟨Nat.zero_le _, (Nat.zero_add _).symm⟩ (.cons rfl (.cons rfl (.cons rfl .nil))) rfl rfl (by omega) ?_
 intro i ⟨h1, h2⟩
 refine run1 ?_
 refine W.dr [(0, .none, 0), (1, .none, 0), (2, .none, 2), (3, .none, 7), (4, .none, 15), (5, .none, 31), (6, .none, 31), (7, .none, 95), (8, .none, 255), (9, .none, 511), (10, .none, 1023), (11, .none, 2047), (12, .none, 2047), (13, .none, 8191), (14, .reads, 16383), (15, .none, 2047), (16, .none, 2047), (17, .none, 100351), (18, .reads, 231423), (19, .none, 524287), (20, .none, 1048575)] (by kernel_rfl) rfl ?_
 by_cases k1 : i < M.length
 ·by_cases k2 : i < N.length
  ·by_cases k3 : M.getD i 0 = N.getD i 0
   ·refine run1 ?_
    refine rnd.n (i + 1) ⟨by omega, ?_⟩ (by omega) (.cons rfl (.cons rfl (.cons rfl .nil))) rfl rfl
    rw [h2, com_drop k1 k2, if_pos k3, Nat.add_assoc, Nat.add_comm 1]
   ·refine run1 ?_
    refine Lv.ret rfl ⟨congrArg nI ?_, rfl⟩
    rw [h2, com_drop k1 k2, if_neg k3]; rfl
  ·refine run1 ?_
   refine Lv.ret rfl ⟨congrArg nI ?_, rfl⟩
   rw [h2, com_end (.inr (by omega))]; rfl
 ·refine run1 ?_
  refine Lv.ret rfl ⟨congrArg nI ?_, rfl⟩
  rw [h2, com_end (.inl (by omega))]; rfl
theorem rcompare_ok (ha : Bs s q M) (hb : Bs s r N) (hA : M.length < 2 ^ 60) (hB : N.length < 2 ^ 60) :
  Cl B (.call 37 [.slice q M.length c, .slice r N.length d]) s fun v s' => v = .int .i64 (cmp M N) ∧ s' = s := by
 refine Cl.enter Tryz.f37 fn37 rfl rfl rfl ?_
 refine run1 ?_
 refine Wo.call rfl (Xc.call ok57 rfl) rfl ((rcommon_ok ha hb hA hB).mono ?_)
 rintro v s' ⟨rfl, rfl⟩
 obtain ⟨l1, l2⟩ := com_le M N
 by_cases k1 : com M N = M.length
 ·by_cases k2 : com M N = N.length
  ·refine run1 ?_
   exact Lv.ret rfl ⟨by rw [cmp, if_pos ⟨k1, k2⟩]; rfl, rfl⟩
  ·refine run1 ?_
   exact Lv.ret rfl ⟨by rw [cmp, if_neg fun h => k2 h.2, if_pos k1]; rfl, rfl⟩
 ·by_cases k2 : com M N = N.length
  ·refine run1 ?_
   exact Lv.ret rfl ⟨by rw [cmp, if_neg fun h => k1 h.1, if_neg k1, if_pos k2]; rfl, rfl⟩
  ·refine run1 ?_
   refine W.dr [(0, .none, 0), (1, .none, 0), (2, .none, 3), (3, .reads, 7), (4, .none, 0), (5, .none, 0), (6, .none, 48), (7, .reads, 112), (8, .none, 255), (9, .none, 511)] (by kernel_rfl) rfl ?_
   by_cases k3 : M.getD (com M N) 0 < N.getD (com M N) 0
   ·refine run1 ?_
    exact Lv.ret rfl ⟨by rw [cmp, if_neg fun h => k1 h.1, if_neg k1, if_neg k2, if_pos k3]; rfl, rfl⟩
   ·refine run1 ?_
    exact Lv.ret rfl ⟨by rw [cmp, if_neg fun h => k1 h.1, if_neg k1, if_neg k2, if_neg k3]; rfl, rfl⟩
theorem same_ok (ha : Bs s q M) (hb : Bs s r N) (hA : M.length < 2 ^ 60) (hB : N.length < 2 ^ 60) :
  Cl B (.call 17 [.slice q M.length c, .slice r N.length d]) s fun v s' => v = .bool (decide (M = N)) ∧ s' = s := by
 refine Cl.enter Tryz.f17 fn17 rfl rfl rfl ?_
 refine run1 ?_
 refine Wo.call rfl (Xc.call ok37 rfl) rfl ((rcompare_ok ha hb hA hB).mono ?_)
 rintro v s' ⟨rfl, rfl⟩
 refine run1 ?_
 exact Lv.ret rfl ⟨congrArg Value.bool (decide_eq_decide.2 cmp_zero), rfl⟩
open Go Go.Ev Go.Sy
set_option maxRecDepth 100000
variable {s : St} {q r : Option Addr} {c d : Nat} {M N : List Nat}
end Go.Proofs.YtglilbadldocoaaGreatDoor
