import Derived.Test.YtglilbadldocoaaGreatDoorWcpzz
import Derived.Test.YtglilbadldocoaaGreatDoorBbzz
namespace Go.Sy
open Go Go.Ev
theorem Cl.hook {B : Bx} {f : FuncId} {g : List Value → St → Rv} {args : List Value} {s s' : St} {v : Value} {Q : Value → St → Prop} (hh : B.hook f = some g) (hg : g args s = .ok v s') (hQ : Q v s') : Cl B (.call f args) s Q := by
 refine ⟨v, s', ⟨1, fun m hm => ?_⟩, hQ⟩
 obtain ⟨m, rfl⟩ : ∃ k, m = k + 1 := ⟨m - 1, by omega⟩
 show (match B.hook f with | some h => orElse (h args s) (Ev.enter B.P (run B.P B.hook m) f args) s | none => Ev.enter B.P (run B.P B.hook m) f args s) = _
 rw [hh]
 show orElse (g args s) _ s = _
 rw [hg]; rfl
theorem Cl.enterN {B : Bx} {f : FuncId} (fn : Func) {g : List Value → St → Rv} {c : Code} {args : List Value} {s : St} {Q : Value → St → Prop} (hf : B.P.funcs[f]? = some fn) (hk : B.hook f = some g) (hg : g args s = .no) (hb : fn.body = some c) (hn : entOk fn args.length = true)
  (h : W ⟨B, f, none, fn.ntmps⟩ c (argsE args 0) [] s (Lv B fn.results.toList Q)) : Cl B (.call f args) s Q := by
 obtain ⟨v, s', ⟨n, h1⟩, h2⟩ := Cl.late fn hf hb hn h
 refine ⟨v, s', ⟨n + 1, fun m hm => ?_⟩, h2⟩
 obtain ⟨m, rfl⟩ : ∃ k, m = k + 1 := ⟨m - 1, by omega⟩
 have h3 := h1 (m + 1) (by omega)
 show (match B.hook f with | some h => orElse (h args s) (Ev.enter B.P (run B.P B.hook m) f args) s | none => Ev.enter B.P (run B.P B.hook m) f args s) = _
 rw [hk]
 show orElse (g args s) _ s = _
 rw [hg]
 exact h3
section
variable {X : Fx} {env : Env} {s : St}
theorem Xv.iaP {t e n size n0 : Nat} {z z' : Option (List Value)} {t0 t1 : Nat} {k' : Sh} {x y : Operand} {b o i : Nat} {k : IntKind} (ht : tk X.B.T t = some ⟨t0, n0, .ar n e, z⟩) (he : tk X.B.T e = some ⟨t1, size, k', z'⟩)
  (hx : ev env x = some (.pointer (some ⟨b, o, none⟩))) (hy : ev env y = some (.int k (.ofNat i))) (hi : i < n) : Xv X (.indexAddr t x y) env s (.pointer (some ⟨b, o + i * size, none⟩)) s := fun tm hf => by
 have hu : X.P.underlying t = some (.array n e) := X.B.un ht
 have hs : sizeOfT X.P e = some size := X.B.sz he
 show xIndexAddr X.P t (opd tm x) (natOf (opd tm y)) s = _
 rw [ev_opd hf hx, ev_opd hf hy]
 unfold xIndexAddr
 simp only [natOf, hu]
 unfold atI
 rw [hs]
 simp only [show Nat.blt i n = true from Nat.ble_eq_true_of_le hi, cond_true]
 unfold okPt; rw [fN_eq]; rfl
theorem cell_at {B : Bx} {t n t0 : Nat} {k : Sh} {z : Option (List Value)} {b γ : Nat} {cs : List Value} (ht : tk B.T t = some ⟨t0, n, k, z⟩) (hk : k.one = false) (h : Rw s b cs γ) (hn : cs.length = n) (h0 : Nat.blt 0 n = true) : cell1 B.P (.pointer (some ⟨b, 0, none⟩)) t s = some (.agg ⟨cs⟩) := by
 have h0' : 0 < n := Nat.le_of_ble_eq_true h0
 have ha : At s (some ⟨b, 0, none⟩) cs := by
  have := (h.sl (o := 0) (n := cs.length) (by omega)).at
  rwa [List.drop_zero, List.take_length] at this
 have hr : readAt s b 0 n = some cs := by
  have := ha.ldn (i := 0) (n := n) (by omega) h0'
  rw [List.drop_zero, ← hn, List.take_length] at this
  rw [← hn]; exact this
 show loadG B.P s t b 0 (isAggT B.P t) = _
 rw [B.ag ht, hk]
 show (match sizeOfT B.P t with | some n => (match readAt s b 0 n with | some cs => some (Value.agg ⟨cs⟩) | none => none) | none => none) = _
 rw [show sizeOfT B.P t = _ from B.sz ht]
 show (match readAt s b 0 n with | some cs => some (Value.agg ⟨cs⟩) | none => none) = _
 rw [hr]
theorem mk_gen {cs : List Value} {M : St → Prop} (h : ∀ s', Rw s' s.nx cs s.nx → s'.nx = s.nx + 1 → Kn s s' → M s') : M (mkRow s cs) := h _ mkRow_rw rfl mkRow_kn
theorem mkO {X : Fx} {all os : List Oper} {env : Env} {df : List Deferred} {Q : Post} {s : St} {cs : List Value} (h : ∀ s', Rw s' s.nx cs s.nx → s'.nx = s.nx + 1 → Kn s s' → Wo X all os env df s' Q) : Wo X all os env df (mkRow s cs) Q := h _ mkRow_rw rfl mkRow_kn
theorem Xv.ixA {t e n n0 size : Nat} {z z' : Option (List Value)} {t0 t1 : Nat} {k' : Sh} {x y : Operand} {cs : List Value} {i : Nat} {k : IntKind} {v : Value} (ht : tk X.B.T t = some ⟨t0, n0, .ar n e, z⟩) (he : tk X.B.T e = some ⟨t1, size, k', z'⟩) (hk : k'.one = true)
  (hx : ev env x = some (.agg ⟨cs⟩)) (hy : ev env y = some (.int k (.ofNat i))) (hi : i < n) (hv : cs[i * size]? = some v) : Xv X (.index t x y) env s v s := fun tm hf => by
 have hu : X.P.underlying t = some (.array n e) := X.B.un ht
 have hs : sizeOfT X.P e = some size := X.B.sz he
 show xIndex X.P t (opd tm x) (opd tm y) s = _
 rw [ev_opd hf hx, ev_opd hf hy]
 unfold xIndex
 simp only [hu, natOf, hs, show Nat.blt i n = true from Nat.ble_eq_true_of_le hi, cond_true]
 unfold partT
 rw [X.B.ag he, hk]
 show ofO (headO (dropL (i * size) cs)) s = _
 rw [dropL_eq]
 obtain ⟨h1, h2⟩ := List.getElem?_eq_some_iff.1 hv
 rw [List.drop_eq_getElem_cons h1, h2]; rfl
theorem Xv.ixN {t e n n0 size : Nat} {z z' : Option (List Value)} {t0 t1 : Nat} {k' : Sh} {x y : Operand} {cs : List Value} {i : Nat} {k : IntKind} (ht : tk X.B.T t = some ⟨t0, n0, .ar n e, z⟩) (he : tk X.B.T e = some ⟨t1, size, k', z'⟩) (hk : k'.one = false)
  (hx : ev env x = some (.agg ⟨cs⟩)) (hy : ev env y = some (.int k (.ofNat i))) (hi : i < n) (hv : i * size + size ≤ cs.length) : Xv X (.index t x y) env s (.agg ⟨(cs.drop (i * size)).take size⟩) s := fun tm hf => by
 have hu : X.P.underlying t = some (.array n e) := X.B.un ht
 have hs : sizeOfT X.P e = some size := X.B.sz he
 show xIndex X.P t (opd tm x) (opd tm y) s = _
 rw [ev_opd hf hx, ev_opd hf hy]
 unfold xIndex
 simp only [hu, natOf, hs, show Nat.blt i n = true from Nat.ble_eq_true_of_le hi, cond_true]
 unfold partT
 rw [X.B.ag he, hk]
 show ofO (match sizeOfT X.P e with | some n => (match takeO n (dropL (i * size) cs) with | some cs => some (.agg ⟨cs⟩) | none => none) | none => none) s = _
 rw [hs]
 show ofO (match takeO size (dropL (i * size) cs) with | some cs => some (.agg ⟨cs⟩) | none => none) s = _
 rw [dropL_eq, takeO_some.2 ⟨by rw [List.length_drop]; omega, rfl⟩]; rfl
theorem pr_guard {P : Program} {op : BinOp} {t : TypeId} {x y : Operand} {a b : Array Value} (ho : op = .eql ∨ op = .neq) (hG : P.eqGuardType P.depth t = false) : pureRun P (eqGuard op t x y (.agg a) (.agg b)) = some () := by
 have e : pureRun P program = some P := rfl
 rcases ho with rfl | rfl
 ·unfold eqGuard
  rw [if_neg (by decide)]
  simp only [pureRun_bind, e, hG]
  rfl
 ·unfold eqGuard
  rw [if_neg (by decide)]
  simp only [pureRun_bind, e, hG]
  rfl
theorem Xv.eqH {t e : Nat} {t' : TypeId} {x y : Operand} {h g : List Nat} (H : HT X.P t e) (hG : X.P.eqGuardType X.P.depth t = false) (hx : ev env x = some (hsh h)) (hy : ev env y = some (hsh g)) (hl : h.length = 32) (gl : g.length = 32) : Xv X (.binOp .eql t x y t') env s (.bool (decide (h = g))) s := fun tm hf => by
 show xBin X.P .eql t x y (opd tm x) (opd tm y) s = _
 rw [ev_opd hf hx, ev_opd hf hy]
 show eqA X.P .eql t x y (hsh h) (hsh g) s = _
 unfold eqA
 rw [show eqNil (X.P.underlying t) (hsh h) (hsh g) = none by rw [H.arr]; rfl, plain_h, plain_h]
 show ofPure X.P (do eqGuard .eql t x y (hsh h) (hsh g); binOp .eql t (hsh h) (hsh g)) s = _
 unfold ofPure
 rw [pureRun_bind, show pureRun X.P (eqGuard .eql t x y (hsh h) (hsh g)) = some () from pr_guard (.inl rfl) hG]
 show (match pureRun X.P (do pure (Value.bool (← Op.equal t (hsh h) (hsh g)))) with | some v => ofV v s | none => .no) = _
 rw [pureRun_bind, pr_eq H hl gl]
 show okB (decide (h = g)) s = _
 generalize decide (h = g) = b
 cases b <;> rfl
theorem Xv.neH {t e : Nat} {t' : TypeId} {x y : Operand} {h g : List Nat} (H : HT X.P t e) (hG : X.P.eqGuardType X.P.depth t = false) (hx : ev env x = some (hsh h)) (hy : ev env y = some (hsh g)) (hl : h.length = 32) (gl : g.length = 32) : Xv X (.binOp .neq t x y t') env s (.bool (decide (h ≠ g))) s := fun tm hf => by
 show xBin X.P .neq t x y (opd tm x) (opd tm y) s = _
 rw [ev_opd hf hx, ev_opd hf hy]
 show eqA X.P .neq t x y (hsh h) (hsh g) s = _
 unfold eqA
 rw [show eqNil (X.P.underlying t) (hsh h) (hsh g) = none by rw [H.arr]; rfl, plain_h, plain_h]
 show ofPure X.P (do eqGuard .neq t x y (hsh h) (hsh g); binOp .neq t (hsh h) (hsh g)) s = _
 unfold ofPure
 rw [pureRun_bind, show pureRun X.P (eqGuard .neq t x y (hsh h) (hsh g)) = some () from pr_guard (.inr rfl) hG]
 show (match pureRun X.P (do pure (Value.bool (!(← Op.equal t (hsh h) (hsh g))))) with | some v => ofV v s | none => .no) = _
 rw [pureRun_bind, pr_eq H hl gl]
 show okB (!decide (h = g)) s = _
 rw [← decide_not]
 show okB (decide (h ≠ g)) s = _
 generalize decide (h ≠ g) = b
 cases b <;> rfl
theorem Xv.eqB {t t0 n : Nat} {z : Option (List Value)} {t' : TypeId} {x y : Operand} {a b : Bool} (ht : tk X.B.T t = some ⟨t0, n, .bl, z⟩) (hx : ev env x = some (.bool a)) (hy : ev env y = some (.bool b)) : Xv X (.binOp .eql t x y t') env s (.bool (a == b)) s := fun tm hf => by
 have hu : X.P.underlying t = some .bool := X.B.un ht
 show xBin X.P .eql t x y (opd tm x) (opd tm y) s = _
 rw [ev_opd hf hx, ev_opd hf hy]
 show eqA X.P .eql t x y (.bool a) (.bool b) s = _
 unfold eqA
 rw [show eqNil (X.P.underlying t) (.bool a) (.bool b) = none by rw [hu]; rfl]
 show ofPure X.P (do eqGuard .eql t x y (.bool a) (.bool b); binOp .eql t (.bool a) (.bool b)) s = _
 unfold ofPure
 rw [pureRun_bind, show pureRun X.P (eqGuard .eql t x y (.bool a) (.bool b)) = some () from rfl]
 show (match pureRun X.P (do pure (Value.bool (← Op.equal t (.bool a) (.bool b)))) with | some v => ofV v s | none => .no) = _
 have e : pureRun X.P (Op.equal t (.bool a) (.bool b)) = some (a == b) := by
  unfold Op.equal Op.maxDepth
  show pureRun X.P (Op.equalIn (9999 + 1) t (.bool a) (.bool b)) = _
  rw [Op.equalIn, pureRun_bind, pureRun_und hu]
  rfl
 rw [pureRun_bind, e]
 show okB (a == b) s = _
 generalize (a == b) = b
 cases b <;> rfl
theorem Xv.subW {t t' : TypeId} {x y : Operand} {a b z : Int} (hx : ev env x = some (.int .i64 a)) (hy : ev env y = some (.int .i64 b)) (ha : a < 9223372036854775808) (hz : IntKind.wrap .i64 (a - b) = z) : Xv X (.binOp .sub t x y t') env s (.int .i64 z) s := fun tm hf => by
 show xBin X.P .sub t x y (opd tm x) (opd tm y) s = _
 rw [ev_opd hf hx, ev_opd hf hy]
 have e : pureRun X.P (binOp .sub t (.int .i64 a) (.int .i64 b)) = some (.int .i64 z) := by
  show some (Value.int .i64 (IntKind.wrap .i64 (a - b))) = _
  rw [hz]
 have o : ofPure X.P (binOp .sub t (.int .i64 a) (.int .i64 b)) s = .ok (.val (.int .i64 z)) s := by
  unfold ofPure
  rw [e]
  show fI z (fun n => Re.ok (.val (.int .i64 n)) s) = _
  rw [fI_eq]
 show ints X.P .sub t .i64 .i64 a b s = _
 unfold ints
 split
 ·rename_i m n
  by_cases h : n ≤ m
  ·have hr : arN .sub .i64 m n = some (m - n) := by
    have h3 : ((m : Nat) : Int) < 9223372036854775808 := ha
    show cond (Nat.ble n m) (wrapN .i64 (m - n)) _ = _
    rw [Nat.ble_eq_true_of_le h]
    exact wrapI (by omega)
   have hz' : z = Int.ofNat (m - n) := by
    rw [← hz]
    have e1 : (Int.ofNat m - Int.ofNat n : Int) = ((m - n : Nat) : Int) := by show ((m : Int) - (n : Int)) = _; omega
    rw [e1]
    have h3 : ((m : Nat) : Int) < 9223372036854775808 := ha
    show (if (true && decide ((((m - n : Nat) : Int) % 18446744073709551616 : Int) ≥ 9223372036854775808)) = true then ((m - n : Nat) : Int) % 18446744073709551616 - 18446744073709551616 else ((m - n : Nat) : Int) % 18446744073709551616) = _
    rw [if_neg (by simp; omega)]
    show _ = ((m - n : Nat) : Int)
    omega
   show cond true (match arN .sub .i64 m n with | some n => okN .i64 n s | none => _) .no = _
   rw [hr, hz']
   show okN .i64 (m - n) s = _
   unfold okN; rw [fN_eq]
  ·have hr : arN .sub .i64 m n = none := by
    show cond (Nat.ble n m) _ (cond (Nat.beq 0 0) none _) = _
    rw [show Nat.ble n m = false by cases hq : Nat.ble n m with | false => rfl | true => exact absurd (Nat.le_of_ble_eq_true hq) h]; rfl
   show cond true (match arN .sub .i64 m n with | some n => okN .i64 n s | none => match cmN .sub m n with | some r => okB r s | none => ofPure X.P (binOp .sub t (.int .i64 (.ofNat m)) (.int .i64 (.ofNat n))) s) .no = _
   rw [hr]
   exact o
 ·exact o
end
section
variable {s : St} {b γ : Nat} {l : List Value}
theorem Rw.ats (h : Rw s b l γ) : At s (some ⟨b, 0, none⟩) l := by
 have := (h.sl (o := 0) (n := l.length) (by omega)).at
 rwa [List.drop_zero, List.take_length] at this
theorem Rw.f1 {v : Value} {i : Nat} (h : Rw s b l γ) (hv : l[i]? = some v) : ldq s (qadd (some ⟨b, 0, none⟩) i) = some v := by
 obtain ⟨h1, h2⟩ := List.getElem?_eq_some_iff.1 hv
 rw [h.ats.ld h1, h2]
theorem Rw.fn {i n : Nat} (h : Rw s b l γ) (hn : i + n ≤ l.length) (h0 : 0 < n) : ldn s (qadd (some ⟨b, 0, none⟩) i) n = some ((l.drop i).take n) := h.ats.ldn hn h0
theorem good_b {b o : Nat} : good (some ⟨b, o, none⟩) := ⟨b, o, rfl⟩
theorem eqV4i {k : IntKind} {n : Int} : eqV 4 (.int k n) (.int k n) = true := by
 have := eqV_int (k := k) (n := n)
 exact this
theorem eqV_agg {cs : List Value} (h : ∀ v ∈ cs, eqV 4 v v = true) : eqV 5 (.agg ⟨cs⟩) (.agg ⟨cs⟩) = true := by
 show eqL (eqV 4) cs cs = true
 induction cs with
 | nil => rfl
 | cons v cs ih =>
  show cond (eqV 4 v v) (eqL (eqV 4) cs cs) false = true
  rw [h v (by simp), ih fun u hu => h u (by simp [hu])]; rfl
theorem eqV_b {A : List Nat} : ∀ v ∈ A.map nB, eqV 4 v v = true := fun v hv => by
 obtain ⟨a, _, rfl⟩ := List.mem_map.1 hv
 exact eqV4i
theorem eqV_h {A : List Nat} : eqV 5 (.agg ⟨A.map nB⟩) (.agg ⟨A.map nB⟩) = true := eqV_agg eqV_b
theorem lov_app {a b c vs : List Value} {o : Nat} (ho : o = a.length) (hv : vs.length = b.length) : lov (a ++ (b ++ c)) o vs = a ++ (vs ++ c) := by
 subst ho
 unfold lov
 rw [List.take_left, ← List.drop_drop, List.drop_left, hv, List.drop_left]
theorem lov_all {l vs : List Value} (h : vs.length = l.length) : lov l 0 vs = vs := by unfold lov; rw [List.take_zero, List.nil_append, Nat.zero_add, h, List.drop_length, List.append_nil]
theorem fill_cons {env : Env} {pl : Nat → Option (Nat × Nat)} {i off n : Nat} {x : Operand} {v : Value} {vs cs r : List Value} {ps : List (Nat × Operand)} (hp : pl i = some (off, n)) (hx : ev env x = some v) (hc : cellsL v = some vs) (hn : vs.length = n) (h1 : ∀ v ∈ vs, one v = true) (hl : off + n ≤ cs.length) (h : fillE pl env ps (lov cs off vs) = some r) : fillE pl env ((i, x) :: ps) cs = some r := by
 subst hn
 unfold fillE
 rw [hp, hx]
 simp only [hc, Nat.beq_refl, cond_true]
 rw [splice_ok hl h1]
 exact h
theorem Xv.buildE {X : Fx} {env : Env} {s : St} {t t0 n0 : Nat} {fs : List (Nat × Nat)} {z cs : List Value} {ps : Array (Nat × Operand)} (ht : tk X.B.T t = some ⟨t0, n0, .st fs, some z⟩) (hp0 : fillE (placeT X.B.T fs) env ps.toList z = some cs) : Xv X (.build t ps) env s (.agg ⟨cs⟩) s := by
 refine Xv.build ht ?_
 unfold fillN
 rw [hp0]
 exact norm_eq cs
end
theorem two_mk {s : St} {cs ds : List Value} (w0 : Wf s) : ∃ s2 b, mkRow (mkRow s cs) ds = s2 ∧ (mkRow s cs).nx = b ∧ b = s.nx + 1 ∧ Rw s2 s.nx cs s.nx ∧ Rw s2 b ds b ∧ s2.nx = s.nx + 2 ∧ Kn s s2 :=
 ⟨_, _, rfl, rfl, rfl, mkRow_rw.kp (mkRow_wf w0) mkRow_kn id, mkRow_rw, rfl, mkRow_kn.call mkRow_kn⟩
theorem Rw.all {s : St} {b γ n : Nat} {l : List Value} (h : Rw s b l γ) (hn : l.length = n) (h0 : 0 < n) : ldn s (some ⟨b, 0, none⟩) n = some l := by
 have := h.fn (i := 0) (n := n) (by omega) h0
 rwa [List.drop_zero, List.take_of_length_le (by omega)] at this
section
variable {X : Fx} {env : Env} {df : List Deferred} {s : St} {Q : Post} {all : List Oper} {d : Option Nat} {ty : TypeId} {pos : String} {af : Array Edge} {gd : Option (Nat × Bool)} {i m : Nat} {L : List Sp} {past : Past}
theorem Wd.cpy {t t0 n0 e t1 size u : Nat} {z0 z : Option (List Value)} {ke : Sh} {x y : Operand} {b o n c γ : Nat} {q : Option Addr} {k c' : Nat} {l cs : List Value} (hg : wantsE all env gd = some true) (hd : dOk X d = true) (ht : tk X.B.T t = some ⟨t0, n0, .sl e, z0⟩) (he : tk X.B.T e = some ⟨t1, size, ke, z⟩) (h0 : Nat.blt 0 size = true) (hx : ev env x = some (.slice (some ⟨b, o, none⟩) n c)) (hy : ev env y = some (.slice q k c')) (hr : Rw s b l γ) (ha : At s q cs) (hl : cs.length = k * size) (h1 : ∀ v ∈ cs, one v = true) (hn : o + n * size ≤ l.length)
  (K : ∀ s', Rw s' b (lov l o (cs.take (min k n * size))) γ → s'.nx = s.nx → Kp (fun c => c = γ) s s' → Wd X all L ((some i, s') :: past) (up d (nI (min k n)) env) df s' Q) : Wd X all (.mk .acts i ⟨d, .call ⟨.builtin .copy, #[x, y], #[t, u]⟩, ty, pos, af, gd⟩ m :: L) past env df s Q := by
 obtain ⟨s', a, b, c, e⟩ := Xv.cpy (X := X) (u := u) ht he (Nat.le_of_ble_eq_true h0) hx hy hr ha hl h1 hn
 exact Wd.act hg a hd (Nat.le_of_eq c.symm) (K s' b c e)
end
end Go.Sy
namespace Go.Proofs.YtglilbadldocoaaGreatDoor
open Go Go.Ev Go.Sy
set_option maxRecDepth 100000
def TabAt (s : St) : Prop := ∀ p ∈ Dg.tabs, At s (some ⟨p.1, 0, none⟩) p.2
theorem TabAt.kpN {s0 s : St} (h : TabAt s0) (w : Wf s0) (k : Kp (fun c => s0.nx ≤ c) s0 s) : TabAt s := fun p hp => by
 obtain ⟨γ, h1, h2⟩ := (h p hp).sl
 exact (h1.kp w k (by have := h2 w; omega)).at
abbrev W8 := Dg.W8
def wv (w : W8) : List Value := [.int .u32 (.ofNat w.a), .int .u32 (.ofNat w.b), .int .u32 (.ofNat w.c), .int .u32 (.ofNat w.d), .int .u32 (.ofNat w.e), .int .u32 (.ofNat w.f), .int .u32 (.ofNat w.g), .int .u32 (.ofNat w.h)]
theorem bytesN_map : ∀ {A : List Nat}, (∀ x ∈ A, x < 256) → Dg.bytesN (A.map nB) = some A
 | [], _ => rfl
 | a :: A, h => by
  show (match Dg.bytesN (A.map nB) with | some r => cond (Nat.blt a 256) (some (a :: r)) none | none => none) = _
  rw [bytesN_map fun x hx => h x (List.mem_cons_of_mem _ hx)]
  simp only [show Nat.blt a 256 = true from Nat.ble_eq_true_of_le (h a List.mem_cons_self), cond_true]
theorem nats_wv {w : W8} (h : Dg.Ok8 w) : Dg.nats (wv w) = some [w.a, w.b, w.c, w.d, w.e, w.f, w.g, w.h] := by
 have lt : ∀ {n}, n < 4294967296 → Nat.blt n 4294967296 = true := fun h => Nat.ble_eq_true_of_le h
 unfold wv
 simp only [Dg.nats, lt h.a, lt h.b, lt h.c, lt h.d, lt h.e, lt h.f, lt h.g, lt h.h, cond_true]
theorem eb_ok {w : W8} {A : List Nat} (hl : A.length = 64) : Dg.Ok8 (Dg.eb w A) := by
 have hr : A = (List.range 64).map fun i => A.getD i 0 := by
  apply List.ext_getElem?
  intro i
  rw [List.getElem?_map]
  rcases Nat.lt_or_ge i 64 with hi | hi
  ·rw [List.getElem?_range hi, List.getElem?_eq_getElem (by omega), Option.map_some, List.getD_eq_getElem?_getD, List.getElem?_eq_getElem (by omega)]; rfl
  ·rw [List.getElem?_eq_none (by omega), List.getElem?_eq_none (by simpa using hi)]; rfl
 rw [hr, Dg.eb_eq]
 exact Dg.fold1_ok _ _
theorem folded_ok {s : St} {w : W8} {A : List Nat} {q : Option Addr} {c : Nat} (hw : Dg.Ok8 w) (hT : TabAt s) (hb : At s q (A.map nB)) (hl : A.length = 64) (hA : ∀ x ∈ A, x < 256) : Cl B (.call 127 [.agg ⟨wv w⟩, .slice q 64 c]) s fun v s' => v = .agg ⟨wv (Dg.eb w A)⟩ ∧ s' = s := by
 have hne : A.map nB ≠ [] := fun e => by have := congrArg List.length e; rw [List.length_map, hl] at this; simp at this
 rcases hb with ⟨e, _⟩ | ⟨b, o, rfl, hr⟩
 ·exact absurd e hne
 have ht := hT (3, Dg.KV) (by simp [Dg.tabs])
 rcases ht with ⟨e, _⟩ | ⟨b', o', e, ht⟩
 ·cases e
 cases e
 refine Cl.hook (g := Dg.mixH 3) rfl ?_ ⟨rfl, rfl⟩
 rw [List.length_map, hl] at hr
 show cond (Nat.beq 64 64) (Dg.mixN (Dg.nats (wv w)) (Dg.bytesO (readAt s b o 64)) (Dg.sameO (readAt s 3 0 64)) s) .no = _
 rw [hr, show readAt s 3 0 64 = some Dg.KV from ht, nats_wv hw]
 show cond true (Dg.mixN _ (Dg.bytesN (A.map nB)) (sameL Dg.KV Dg.KV) s) .no = _
 rw [bytesN_map hA, show sameL Dg.KV Dg.KV = true by kernel_rfl]
 rfl
end Go.Proofs.YtglilbadldocoaaGreatDoor
namespace Go.Sy
open Go Go.Ev
section
variable {X : Fx} {env : Env} {s : St}
theorem Xv.nilC {x : Operand} {b o : Nat} (hx : ev env x = some (.pointer (some ⟨b, o, none⟩))) : Xv X (.nilCheck x) env s (.pointer (some ⟨b, o, none⟩)) s := fun tm hf => by
 show xNil (opd tm x) s = _
 rw [ev_opd hf hx]; rfl
theorem Xv.pEq {t t0 n e : Nat} {z : Option (List Value)} {t' : TypeId} {x y : Operand} {q : Option Addr} (ht : tk X.B.T t = some ⟨t0, n, .pt e, z⟩) (hx : ev env x = some (.pointer q)) (hy : ev env y = some (.pointer none)) : Xv X (.binOp .eql t x y t') env s (.bool (decide (q = none))) s := fun tm hf => by
 show xBin X.P .eql t x y (opd tm x) (opd tm y) s = _
 rw [ev_opd hf hx, ev_opd hf hy]
 show eqA X.P .eql t x y (.pointer q) (.pointer none) s = _
 have hu : X.P.underlying t = some (.pointer e) := X.B.un ht
 unfold eqA
 rw [hu]
 cases q <;> rfl
end
end Go.Sy
namespace Go.Proofs.YtglilbadldocoaaGreatDoor
open Go Go.Ev Go.Sy
set_option maxRecDepth 100000
variable {s : St} {q : Option Addr} {c p γ δ n : Nat} {w : W8} {R A : List Nat} {E : List Value}
def sc (E : List Value) (w : W8) (R : List Nat) (n : Nat) : List Value := wv w ++ (R.map nB ++ nI n :: E)
theorem sc_length : (sc E w R n).length = R.length + 9 + E.length := by simp [sc, wv]; omega
theorem sc_le {k : Nat} (h : R.length = 64) (hk : k ≤ 73) : k ≤ (sc E w R n).length := by rw [sc_length]; omega
structure Sst (s : St) (p γ : Nat) (E : List Value) (w : W8) (R : List Nat) (n : Nat) : Prop where
 rw : Rw s p (sc E w R n) γ
 ok : Dg.Ok8 w
 len : R.length = 64
 by' : ∀ x ∈ R, x < 256
def fwN : Nat → W8 → List Nat → W8
 | 0, w, _ => w
 | k + 1, w, l => fwN k (Dg.eb w (l.take 64)) (l.drop 64)
theorem fwN_succ : ∀ {k : Nat} {w : W8} {l : List Nat}, fwN (k + 1) w l = Dg.eb (fwN k w l) ((l.drop (k * 64)).take 64)
 | 0, w, l => by simp [fwN]
 | k + 1, w, l => by
  have ih := fwN_succ (k := k) (w := Dg.eb w (l.take 64)) (l := l.drop 64)
  show fwN (k + 1) (Dg.eb w (l.take 64)) (l.drop 64) = _
  rw [ih, List.drop_drop]
  show Dg.eb (fwN k _ _) _ = Dg.eb (fwN k _ _) _
  rw [show 64 + k * 64 = (k + 1) * 64 by omega]
theorem eqV_wv {w : W8} : eqV 5 (.agg ⟨wv w⟩) (.agg ⟨wv w⟩) = true := by
 show eqL (eqV 4) (wv w) (wv w) = true
 simp only [wv, eqL, eqV4i, cond_true]
theorem wv_length {w : W8} : (wv w).length = 8 := rfl
theorem sc_words {w' : W8} : lov (sc E w R n) 0 (wv w') = sc E w' R n := by
 have := lov_app (a := []) (b := wv w) (c := R.map nB ++ nI n :: E) (vs := wv w') (o := 0) rfl rfl
 simpa [sc] using this
theorem sc_len {m : Nat} (h : R.length = 64) : lov (sc E w R n) 72 [nI m] = sc E w R m := by
 have := lov_app (a := wv w ++ R.map nB) (b := [nI n]) (c := E) (vs := [nI m]) (o := 72) (by rw [List.length_append, wv_length, List.length_map, h]) rfl
 simpa [sc] using this
theorem sc_rest {D : List Nat} {g : Nat} (h : R.length = 64) (hg : g + D.length ≤ 64) : lov (sc E w R n) (8 + g) (D.map nB) = sc E w (R.take g ++ (D ++ R.drop (g + D.length))) n := by
 have := lov_app (a := wv w ++ (R.take g).map nB) (b := ((R.drop g).take D.length).map nB) (c := (R.drop (g + D.length)).map nB ++ nI n :: E) (vs := D.map nB) (o := 8 + g) (by rw [List.length_append, wv_length, List.length_map, List.length_take]; omega) (by rw [List.length_map, List.length_map, List.length_take, List.length_drop]; omega)
 have e : R.map nB = (R.take g).map nB ++ (((R.drop g).take D.length).map nB ++ (R.drop (g + D.length)).map nB) := by
  rw [← List.map_append, ← List.map_append, ← List.drop_drop, List.take_append_drop, List.take_append_drop]
 unfold sc
 rw [e]
 simp only [List.append_assoc, List.map_append] at this ⊢
 exact this
theorem sc_ldw (h : Rw s p (sc E w R n) γ) : ldn s (qadd (some ⟨p, 0, none⟩) 0) 8 = some (wv w) := by
 rw [(Rw.ats h).ldn (i := 0) (n := 8) (by rw [sc_length]; omega) (by decide)]; rfl
theorem sc_ldr (h : Rw s p (sc E w R n) γ) (hl : R.length = 64) : At s (some ⟨p, 8, none⟩) (R.map nB) := by
 have := (h.sl (o := 8) (n := 64) (sc_le hl (by decide))).at
 have e : ((sc E w R n).drop 8).take 64 = R.map nB := by
  show (R.map nB ++ nI n :: E).take 64 = _
  rw [← hl, ← List.length_map (f := nB), List.take_left]
 rwa [e] at this
theorem write_ok (w0 : Wf s) (hT : ∀ s', Kp (fun c => c = γ) s s' → TabAt s') (h : Sst s p γ E w R n) (hd : Sl s q (A.map nB) δ) (hne : δ ≠ γ) (hc : Cap A.length c 1) (hA : ∀ x ∈ A, x < 256) (hn : n < 2 ^ 60) (hl : A.length < 2 ^ 60) :
  Cl B (.call 119 [.pointer (some ⟨p, 0, none⟩), .slice q A.length c]) s fun _ s' =>
   (∃ R', Sst s' p γ E (fwN ((n % 64 + A.length) / 64) w (R.take (n % 64) ++ A)) R' (n + A.length) ∧ R'.take ((n % 64 + A.length) % 64) = (R.take (n % 64) ++ A).drop ((n % 64 + A.length) / 64 * 64)) ∧ s'.nx = s.nx ∧ Kp (fun c => c = γ) s s' := by
 have hlen := h.len
 have hld : ldq s (qadd (some ⟨p, 0, none⟩) 72) = some (nI n) := by
  have ha : At s (some ⟨p, 0, none⟩) (sc E w R n) := by
   have := (h.rw.sl (o := 0) (n := (sc E w R n).length) (by omega)).at
   rwa [List.drop_zero, List.take_length] at this
  rw [ha.ld (i := 72) (by rw [sc_length]; omega)]
  congr 1
  simp only [sc]
  rw [List.getElem_append_right (by simp [wv]), List.getElem_append_right (by simp [wv]; omega)]
  simp [wv, hlen]
 have hgd : good (some ⟨p, 0, none⟩) := ⟨_, _, rfl⟩
 obtain ⟨g, hg⟩ : ∃ g, g = n % 64 := ⟨_, rfl⟩
 have hg64 : g < 64 := by omega
 have hgm : n.mod 64 = g := hg.symm
 rw [← hg]
 have one8 : ∀ {D : List Nat}, ∀ v ∈ D.map nB, one v = true := fun v hv => by obtain ⟨x, _, rfl⟩ := List.mem_map.1 hv; rfl
 obtain ⟨L, hL⟩ : ∃ L, L = R.take g ++ A := ⟨_, rfl⟩
 have hLl : L.length = g + A.length := by rw [hL, List.length_append, List.length_take]; omega
 have hLb : ∀ x ∈ L, x < 256 := fun x hx => by
  rw [hL] at hx
  rcases List.mem_append.1 hx with hx | hx
  ·exact h.by' x (List.mem_of_mem_take hx)
  ·exact hA x hx
 rw [← hL, ← hLl]
 refine Cl.enter Tryz.f119 fn119 rfl rfl rfl ?_
 refine run1 ?_
 refine Wo.val rfl (Xv.pEq rfl rfl rfl) rfl ?_
 refine run1 ?_
 refine Wo.val rfl (Xv.nilC rfl) rfl (run1 ?_)
 refine Wo.val rfl (Xv.nilC rfl) rfl (run1 ?_)
 refine Wo.val rfl (Xv.nilC rfl) rfl (run1 ?_)
 refine Wo.st rfl rfl rfl rfl rfl rfl rfl (by intro v hv; rw [List.mem_singleton] at hv; rw [hv]; rfl) h.rw (sc_le hlen (by decide)) ?_
 intro s1 j1 j2 j3
 have j1' : Rw s1 p (sc E w R (n + A.length)) γ := by rw [← sc_len hlen]; exact j1
 clear j1 hld
 have hd1 : Sl s1 q (A.map nB) δ := hd.kp w0 j3 hne
 rw [hgm]
 refine run1 ?_
 by_cases he : 0 < g ∧ g + A.length < 64
 ·refine W.cond rfl (fun h0 => ?_) (fun h0 => absurd he.1 h0)
  refine run1 ?_
  refine Wo.val rfl (Xv.nilC rfl) rfl (run1 ?_)
  refine Wo.val rfl ((Xv.slP (b := p) (o := 8) rfl rfl rfl (by decide)).2.1 rfl hg64) rfl (run1 ?_)
  refine Wo.cpy rfl rfl rfl rfl rfl rfl rfl j1' hd1.at (by rw [List.length_map, Nat.mul_one]) one8 (by rw [sc_length, hlen]; omega) ?_
  intro s2 k1 k2 k3
  have hmin : min A.length (64 - g) = A.length := by omega
  simp only [hmin, Nat.mul_one, ← List.map_take, List.take_length] at k1
  rw [sc_rest hlen (by omega)] at k1
  rw [hmin]
  have hlt : g + A.length < 64 := he.2
  refine run1 ?_
  have e0 : L.length / 64 = 0 := by omega
  have e1 : L.length % 64 = L.length := by omega
  rw [e0, e1]
  refine Lv.ret rfl ⟨⟨_, ⟨k1, h.ok, ?_, ?_⟩, ?_⟩, k2.trans j2, j3.trans k3⟩
  ·simp only [List.length_append, List.length_take, List.length_drop]; omega
  ·intro x hx
   rcases List.mem_append.1 hx with hx | hx
   ·exact h.by' x (List.mem_of_mem_take hx)
   ·rcases List.mem_append.1 hx with hx | hx
    ·exact hA x hx
    ·exact h.by' x (List.mem_of_mem_drop hx)
  ·rw [← List.append_assoc, ← hL, List.take_left]; rfl
 refine W.meet (α := St × Option Addr × Nat × Nat) (fun a => [(0, .pointer (some ⟨p, 0, none⟩)), (1, .slice a.2.1 (L.length - a.2.2.2 * 64) a.2.2.1)]) (fun a => a.1)
  (fun a => a.2.2.2 * 64 ≤ L.length ∧ (∃ R1, Sst a.1 p γ E (fwN a.2.2.2 w L) R1 (n + A.length)) ∧ Sl a.1 a.2.1 ((L.drop (a.2.2.2 * 64)).map nB) δ ∧ Cap (L.length - a.2.2.2 * 64) a.2.2.1 1 ∧ a.1.nx = s.nx ∧ Kp (fun c => c = γ) s a.1) ?_ ?_
 ·refine W.cond rfl (fun h0 => ?_) (fun h0 => ?_)
  ·have h0' : 0 < g := h0
   have hge : 64 ≤ g + A.length := by omega
   refine run1 ?_
   refine Wo.val rfl (Xv.nilC rfl) rfl (run1 ?_)
   refine Wo.val rfl ((Xv.slP (b := p) (o := 8) rfl rfl rfl (by decide)).2.1 rfl hg64) rfl (run1 ?_)
   refine Wo.cpy rfl rfl rfl rfl rfl rfl rfl j1' hd1.at (by rw [List.length_map, Nat.mul_one]) one8 (by rw [sc_length, hlen]; omega) ?_
   intro s2 k1 k2 k3
   have hmin : min A.length (64 - g) = 64 - g := by omega
   have hlt' : (A.take (64 - g)).length = 64 - g := by rw [List.length_take]; omega
   simp only [hmin, Nat.mul_one, ← List.map_take] at k1
   rw [sc_rest hlen (by omega)] at k1
   have eR : R.take g ++ (A.take (64 - g) ++ R.drop (g + (A.take (64 - g)).length)) = L.take 64 := by
    rw [hlt', List.drop_eq_nil_of_le (by omega), List.append_nil, hL, List.take_append, List.length_take, List.take_take]
    rw [show min 64 g = g by omega, show 64 - min g R.length = 64 - g by omega]
   rw [eR] at k1
   rw [hmin]
   have hs : ¬ g + (64 - g) < 64 := by omega
   refine run1 ?_
   have hd2 : Sl s2 q (A.map nB) δ := hd1.kp (j3.wf w0) k3 hne
   have hTl : (L.take 64).length = 64 := by rw [List.length_take]; omega
   have hTb : ∀ x ∈ L.take 64, x < 256 := fun x hx => hLb x (List.mem_of_mem_take hx)
   have hw2 := sc_ldw k1
   refine W.dr [(1, .none, 0), (2, .none, 2), (3, .none, 6), (4, .reads, 14), (5, .none, 0), (6, .none, 32), (7, .none, 96), (8, .none, 224), (9, .acts, 510), (0, .none, 0), (10, .none, 1023), (11, .none, 2047), (12, .acts, 4095)] (by kernel_rfl) rfl (run1 ?_)
   refine Wd.val rfl (Xv.nilC rfl) rfl (Nat.le_refl _) (run1 ?_)
   refine Wd.read rfl (Xv.ldN rfl rfl rfl hw2) rfl eqV_wv ⟨Xv.ldN rfl rfl rfl hw2, trivial⟩ (run1 ?_)
   refine Wd.val rfl (Xv.nilC rfl) rfl (Nat.le_refl _) (run1 ?_)
   refine Wd.val rfl (Xv.slP (b := p) (o := 8) rfl rfl rfl (by decide)).1 rfl (Nat.le_refl _) (run1 ?_)
   refine Wd.call rfl (Xc.call ok127 rfl) rfl ((folded_ok h.ok (hT s2 (j3.trans k3)) (sc_ldr k1 hTl) hTl hTb).mono ?_)
   rintro v s' ⟨rfl, e'⟩; rw [e']; clear e' s'
   refine ⟨Nat.le_refl _, run1 ?_⟩
   refine Wd.val rfl (Xv.nilC rfl) rfl (Nat.le_refl _) (run1 ?_)
   refine Wd.st rfl rfl rfl rfl rfl rfl rfl (by intro v hv; simp only [wv, List.mem_cons, List.not_mem_nil, or_false] at hv; rcases hv with rfl | rfl | rfl | rfl | rfl | rfl | rfl | rfl <;> rfl) k1 (sc_le hTl (by decide)) ?_
   intro s3 m1 m2 m3
   have m1' : Rw s3 p (sc E (Dg.eb w (L.take 64)) (L.take 64) (n + A.length)) γ := by rw [← sc_words (w := w)]; exact m1
   have hd3 : Sl s3 q (A.map nB) δ := hd2.kp (k3.wf (j3.wf w0)) m3 hne
   refine run1 ?_
   obtain ⟨b, o, rfl⟩ := hd3.pos (fun e => by have := congrArg List.length e; rw [List.length_map] at this; simp at this; rw [this] at hge; simp at hge; omega)
   refine Wo.slL rfl rfl rfl rfl rfl rfl hd3 (by rw [List.length_map, Nat.mul_one]) hc (by omega) ?_
   intro q' c' r1 r2
   have eD : A.drop (64 - g) = L.drop 64 := by
    have en : (R.take g).drop 64 = [] := List.drop_eq_nil_of_le (by rw [List.length_take]; omega)
    rw [hL, List.drop_append, en, List.length_take, List.nil_append, show min g R.length = g by omega]
   have el : A.length - (64 - g) = L.length - 1 * 64 := by omega
   rw [Nat.mul_one, ← List.map_drop, eD] at r1
   rw [el] at r2 ⊢
   refine run1 ?_
   exact meet.n (s3, q', c', 1) ⟨by show 1 * 64 ≤ _; omega, ⟨L.take 64, m1', eb_ok hTl, hTl, hTb⟩, r1, r2, (m2.trans k2).trans j2, (j3.trans k3).trans m3⟩ (.cons rfl (.cons rfl .nil)) rfl
  ·refine run1 ?_
   have g0 : g = 0 := Nat.eq_zero_of_not_pos h0
   have eL : L = A := by rw [hL, g0]; rfl
   have el : L.length - 0 * 64 = A.length := by rw [eL]; omega
   refine meet.n (s1, q, c, 0) ⟨by show 0 * 64 ≤ _; omega, ⟨R, j1', h.ok, hlen, h.by'⟩, ?_, ?_, j2, j3⟩ (.cons rfl (.cons ?_ .nil)) rfl
   ·rw [Nat.zero_mul, List.drop_zero, eL]; exact hd1
   ·rw [el]; exact hc
   ·simp only [el]; rfl
 ·rintro a ha
  refine run1 ?_
  refine W.loop (α := St × Option Addr × Nat × Nat) (fun a => [(0, .pointer (some ⟨p, 0, none⟩)), (1, .slice a.2.1 (L.length - a.2.2.2 * 64) a.2.2.1)]) (fun _ => []) (fun a => a.1)
   (fun a => a.2.2.2 * 64 ≤ L.length ∧ (∃ R1, Sst a.1 p γ E (fwN a.2.2.2 w L) R1 (n + A.length)) ∧ Sl a.1 a.2.1 ((L.drop (a.2.2.2 * 64)).map nB) δ ∧ Cap (L.length - a.2.2.2 * 64) a.2.2.1 1 ∧ a.1.nx = s.nx ∧ Kp (fun c => c = γ) s a.1)
   (fun a => L.length - a.2.2.2 * 64) a ha (.cons rfl (.cons rfl .nil)) rfl rfl (by show L.length - _ < _; omega) ?_
  clear ha a
  rintro ⟨s2, q2, c2, k⟩ ⟨i1, ⟨R1, i2⟩, i3, i4, i5, i6⟩
  simp only at i1 i2 i3 i4 i5 i6
  dsimp only
  have wf2 := i6.wf w0
  by_cases h64 : 64 ≤ L.length - k * 64
  ·have hDl : ((L.drop (k * 64)).take 64).length = 64 := by rw [List.length_take, List.length_drop]; omega
   have hDb : ∀ x ∈ (L.drop (k * 64)).take 64, x < 256 := fun x hx => hLb x (List.mem_of_mem_drop (List.mem_of_mem_take hx))
   obtain ⟨b, o, rfl⟩ := i3.pos (fun e => by have := congrArg List.length e; rw [List.length_map, List.length_drop] at this; simp at this; omega)
   have hw2 := sc_ldw i2.rw
   have hb2 : At s2 (some ⟨b, o, none⟩) (((L.drop (k * 64)).take 64).map nB) := by rw [List.map_take]; exact (i3.take (n := 64)).at
   refine run1 ?_
   refine W.dr [(1, .none, 0), (2, .none, 2), (3, .none, 6), (4, .reads, 14), (5, .none, 0), (6, .none, 32), (7, .acts, 126), (0, .none, 0), (8, .none, 255), (9, .none, 511), (10, .acts, 1023)] (by kernel_rfl) rfl (run1 ?_)
   refine Wd.val rfl (Xv.nilC rfl) rfl (Nat.le_refl _) (run1 ?_)
   refine Wd.read rfl (Xv.ldN rfl rfl rfl hw2) rfl eqV_wv ⟨Xv.ldN rfl rfl rfl hw2, trivial⟩ (run1 ?_)
   refine Wd.val rfl (Xv.slH (h := 64) rfl rfl rfl rfl i4 h64) rfl (Nat.le_refl _) (run1 ?_)
   refine Wd.call rfl (Xc.call ok127 rfl) rfl ((folded_ok i2.ok (hT s2 i6) hb2 hDl hDb).mono ?_)
   rintro v s' ⟨rfl, e'⟩; rw [e']; clear e' s'
   refine ⟨Nat.le_refl _, run1 ?_⟩
   refine Wd.val rfl (Xv.nilC rfl) rfl (Nat.le_refl _) (run1 ?_)
   refine Wd.st rfl rfl rfl rfl rfl rfl rfl (by intro v hv; simp only [wv, List.mem_cons, List.not_mem_nil, or_false] at hv; rcases hv with rfl | rfl | rfl | rfl | rfl | rfl | rfl | rfl <;> rfl) i2.rw (sc_le i2.len (by decide)) ?_
   intro s3 m1 m2 m3
   have m1' : Rw s3 p (sc E (fwN (k + 1) w L) R1 (n + A.length)) γ := by rw [fwN_succ, ← sc_words (w := fwN k w L)]; exact m1
   have hd3 : Sl s3 (some ⟨b, o, none⟩) ((L.drop (k * 64)).map nB) δ := i3.kp wf2 m3 hne
   refine run1 ?_
   refine Wo.slL (l := 64) rfl rfl rfl rfl rfl rfl hd3 (by rw [List.length_map, List.length_drop, Nat.mul_one]) i4 h64 ?_
   intro q' c' r1 r2
   have el : L.length - k * 64 - 64 = L.length - (k + 1) * 64 := by omega
   rw [show 64 * 1 = 64 from rfl, ← List.map_drop, List.drop_drop, show k * 64 + 64 = (k + 1) * 64 by omega] at r1
   rw [el] at r2 ⊢
   refine run1 ?_
   exact rnd.n (s3, q', c', k + 1) ⟨by show (k + 1) * 64 ≤ _; omega, ⟨R1, m1', by rw [fwN_succ]; exact eb_ok hDl, i2.len, i2.by'⟩, r1, r2, m2.trans i5, i6.trans m3⟩ (by show L.length - (k + 1) * 64 < L.length - k * 64; omega) (.cons rfl (.cons rfl .nil)) rfl rfl
  ·refine run1 ?_
   refine Wo.val rfl (Xv.nilC rfl) rfl (run1 ?_)
   refine Wo.val rfl (Xv.slP (b := p) (o := 8) rfl rfl rfl (by decide)).1 rfl (run1 ?_)
   refine Wo.cpy rfl rfl rfl rfl rfl rfl rfl i2.rw i3.at (by rw [List.length_map, List.length_drop, Nat.mul_one]) one8 (sc_le i2.len (by decide)) ?_
   intro s3 m1 m2 m3
   have hmin : min (L.length - k * 64) 64 = L.length - k * 64 := by omega
   have hDl : (L.drop (k * 64)).length = L.length - k * 64 := List.length_drop
   simp only [hmin, Nat.mul_one, ← List.map_take] at m1
   rw [← hDl, List.take_length] at m1
   have m1' := m1
   rw [show 8 = 8 + 0 from rfl, sc_rest i2.len (by rw [hDl]; omega)] at m1'
   refine run1 ?_
   have e0 : L.length / 64 = k := by omega
   have e1 : L.length % 64 = (L.drop (k * 64)).length := by rw [hDl]; omega
   rw [e0, e1]
   refine Lv.nrm rfl ⟨⟨_, ⟨m1', i2.ok, ?_, ?_⟩, ?_⟩, m2.trans i5, i6.trans m3⟩
   ·simp only [List.length_append, List.length_take, List.length_drop, i2.len]; omega
   ·intro x hx
    rcases List.mem_append.1 hx with hx | hx
    ·exact i2.by' x (List.mem_of_mem_take hx)
    ·rcases List.mem_append.1 hx with hx | hx
     ·exact hLb x (List.mem_of_mem_drop hx)
     ·exact i2.by' x (List.mem_of_mem_drop hx)
   ·rw [List.take_zero, List.nil_append, List.take_left]
end Go.Proofs.YtglilbadldocoaaGreatDoor
