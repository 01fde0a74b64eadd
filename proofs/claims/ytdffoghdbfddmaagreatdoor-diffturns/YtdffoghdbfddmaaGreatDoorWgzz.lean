import Derived.Test.YtdffoghdbfddmaaGreatDoorWcpzz
/-
  More operations: arrays, a new block, numbers of both signs, arrays compared.
-/
namespace Go.Sy
open Go Go.Ev
theorem Cl.hook {B : Bx} {f : FuncId} {g : List Value → St → Rv} {args : List Value} {s s' : St} {v : Value} {Q : Value → St → Prop} (hh : B.hook f = some g) (hg : g args s = .ok v s') (hQ : Q v s') : Cl B (.call f args) s Q := by
  refine ⟨v, s', ⟨1, fun m hm => ?_⟩, hQ⟩
  obtain ⟨m, rfl⟩ : ∃ k, m = k + 1 := ⟨m - 1, by omega⟩
  show (match B.hook f with | some h => orElse (h args s) (Ev.enter B.P (run B.P B.hook m) f args) s | none => Ev.enter B.P (run B.P B.hook m) f args s) = _
  rw [hh]
  show orElse (g args s) _ s = _
  rw [hg]; rfl
theorem Cl.enterN {B : Bx} {f : FuncId} (fn : Func) {g : List Value → St → Rv} {c : Code} {args : List Value} {s : St} {Q : Value → St → Prop} (hf : B.P.funcs[f]? = some fn) (hk : B.hook f = some g) (hg : g args s = .no) (hb : fn.body = some c) (hn : entOk fn args.length = true)
    (h : W ⟨B, f, none, fn.ntmps⟩ c (argsE args 0) [] s (Lv B fn.results.toList Q)) : Cl B (.call f args) s Q := by
  obtain ⟨v, s', ⟨n, h1⟩, h2⟩ := Cl.late fn hf hb hn h
  refine ⟨v, s', ⟨n + 1, fun m hm => ?_⟩, h2⟩
  obtain ⟨m, rfl⟩ : ∃ k, m = k + 1 := ⟨m - 1, by omega⟩
  have h3 := h1 (m + 1) (by omega)
  show (match B.hook f with | some h => orElse (h args s) (Ev.enter B.P (run B.P B.hook m) f args) s | none => Ev.enter B.P (run B.P B.hook m) f args s) = _
  rw [hk]
  show orElse (g args s) _ s = _
  rw [hg]
  exact h3
section
variable {X : Fx} {env : Env} {s : St}
theorem Xv.iaP {t e n size n0 : Nat} {z z' : Option (List Value)} {t0 t1 : Nat} {k' : Sh} {x y : Operand} {b o i : Nat} {k : IntKind} (ht : tk X.B.T t = some ⟨t0, n0, .ar n e, z⟩) (he : tk X.B.T e = some ⟨t1, size, k', z'⟩)
    (hx : ev env x = some (.pointer (some ⟨b, o, none⟩))) (hy : ev env y = some (.int k (.ofNat i))) (hi : i < n) : Xv X (.indexAddr t x y) env s (.pointer (some ⟨b, o + i * size, none⟩)) s := fun tm hf => by
  have hu : X.P.underlying t = some (.array n e) := X.B.un ht
  have hs : sizeOfT X.P e = some size := X.B.sz he
  show xIndexAddr X.P t (opd tm x) (natOf (opd tm y)) s = _
  rw [ev_opd hf hx, ev_opd hf hy]
  unfold xIndexAddr
  simp only [natOf, hu]
  unfold atI
  rw [hs]
  simp only [show Nat.blt i n = true from Nat.ble_eq_true_of_le hi, cond_true]
  unfold okPt; rw [fN_eq]; rfl
theorem cell_at {B : Bx} {t n t0 : Nat} {k : Sh} {z : Option (List Value)} {b γ : Nat} {cs : List Value} (ht : tk B.T t = some ⟨t0, n, k, z⟩) (hk : k.one = false) (h : Rw s b cs γ) (hn : cs.length = n) (h0 : Nat.blt 0 n = true) : cell1 B.P (.pointer (some ⟨b, 0, none⟩)) t s = some (.agg ⟨cs⟩) := by
  have h0' : 0 < n := Nat.le_of_ble_eq_true h0
  have ha : At s (some ⟨b, 0, none⟩) cs := by
    have := (h.sl (o := 0) (n := cs.length) (by omega)).at
    rwa [List.drop_zero, List.take_length] at this
  have hr : readAt s b 0 n = some cs := by
    have := ha.ldn (i := 0) (n := n) (by omega) h0'
    rw [List.drop_zero, ← hn, List.take_length] at this
    rw [← hn]; exact this
  show loadG B.P s t b 0 (isAggT B.P t) = _
  rw [B.ag ht, hk]
  show (match sizeOfT B.P t with | some n => (match readAt s b 0 n with | some cs => some (Value.agg ⟨cs⟩) | none => none) | none => none) = _
  rw [show sizeOfT B.P t = _ from B.sz ht]
  show (match readAt s b 0 n with | some cs => some (Value.agg ⟨cs⟩) | none => none) = _
  rw [hr]
/-- A new block. -/
theorem mk_gen {cs : List Value} {M : St → Prop} (h : ∀ s', Rw s' s.nx cs s.nx → s'.nx = s.nx + 1 → Kn s s' → M s') : M (mkRow s cs) := h _ mkRow_rw rfl mkRow_kn
/-- x[i] of an array that is a value. -/
theorem Xv.ixA {t e n n0 size : Nat} {z z' : Option (List Value)} {t0 t1 : Nat} {k' : Sh} {x y : Operand} {cs : List Value} {i : Nat} {k : IntKind} {v : Value} (ht : tk X.B.T t = some ⟨t0, n0, .ar n e, z⟩) (he : tk X.B.T e = some ⟨t1, size, k', z'⟩) (hk : k'.one = true)
    (hx : ev env x = some (.agg ⟨cs⟩)) (hy : ev env y = some (.int k (.ofNat i))) (hi : i < n) (hv : cs[i * size]? = some v) : Xv X (.index t x y) env s v s := fun tm hf => by
  have hu : X.P.underlying t = some (.array n e) := X.B.un ht
  have hs : sizeOfT X.P e = some size := X.B.sz he
  show xIndex X.P t (opd tm x) (opd tm y) s = _
  rw [ev_opd hf hx, ev_opd hf hy]
  unfold xIndex
  simp only [hu, natOf, hs, show Nat.blt i n = true from Nat.ble_eq_true_of_le hi, cond_true]
  unfold partT
  rw [X.B.ag he, hk]
  show ofO (headO (dropL (i * size) cs)) s = _
  rw [dropL_eq]
  obtain ⟨h1, h2⟩ := List.getElem?_eq_some_iff.1 hv
  rw [List.drop_eq_getElem_cons h1, h2]; rfl
/-- x[i] of an array of structs that is a value. -/
theorem Xv.ixN {t e n n0 size : Nat} {z z' : Option (List Value)} {t0 t1 : Nat} {k' : Sh} {x y : Operand} {cs : List Value} {i : Nat} {k : IntKind} (ht : tk X.B.T t = some ⟨t0, n0, .ar n e, z⟩) (he : tk X.B.T e = some ⟨t1, size, k', z'⟩) (hk : k'.one = false)
    (hx : ev env x = some (.agg ⟨cs⟩)) (hy : ev env y = some (.int k (.ofNat i))) (hi : i < n) (hv : i * size + size ≤ cs.length) : Xv X (.index t x y) env s (.agg ⟨(cs.drop (i * size)).take size⟩) s := fun tm hf => by
  have hu : X.P.underlying t = some (.array n e) := X.B.un ht
  have hs : sizeOfT X.P e = some size := X.B.sz he
  show xIndex X.P t (opd tm x) (opd tm y) s = _
  rw [ev_opd hf hx, ev_opd hf hy]
  unfold xIndex
  simp only [hu, natOf, hs, show Nat.blt i n = true from Nat.ble_eq_true_of_le hi, cond_true]
  unfold partT
  rw [X.B.ag he, hk]
  show ofO (match sizeOfT X.P e with | some n => (match takeO n (dropL (i * size) cs) with | some cs => some (.agg ⟨cs⟩) | none => none) | none => none) s = _
  rw [hs]
  show ofO (match takeO size (dropL (i * size) cs) with | some cs => some (.agg ⟨cs⟩) | none => none) s = _
  rw [dropL_eq, takeO_some.2 ⟨by rw [List.length_drop]; omega, rfl⟩]; rfl
/-- Arrays of 32 bytes compared. -/
theorem pr_guard {P : Program} {op : BinOp} {t : TypeId} {x y : Operand} {a b : Array Value} (ho : op = .eql ∨ op = .neq) (hG : P.eqGuardType P.depth t = false) : pureRun P (eqGuard op t x y (.agg a) (.agg b)) = some () := by
  have e : pureRun P program = some P := rfl
  rcases ho with rfl | rfl
  · unfold eqGuard
    rw [if_neg (by decide)]
    simp only [pureRun_bind, e, hG]
    rfl
  · unfold eqGuard
    rw [if_neg (by decide)]
    simp only [pureRun_bind, e, hG]
    rfl
theorem Xv.eqH {t e : Nat} {t' : TypeId} {x y : Operand} {h g : List Nat} (H : HT X.P t e) (hG : X.P.eqGuardType X.P.depth t = false) (hx : ev env x = some (hsh h)) (hy : ev env y = some (hsh g)) (hl : h.length = 32) (gl : g.length = 32) : Xv X (.binOp .eql t x y t') env s (.bool (decide (h = g))) s := fun tm hf => by
  show xBin X.P .eql t x y (opd tm x) (opd tm y) s = _
  rw [ev_opd hf hx, ev_opd hf hy]
  show eqA X.P .eql t x y (hsh h) (hsh g) s = _
  unfold eqA
  rw [show eqNil (X.P.underlying t) (hsh h) (hsh g) = none by rw [H.arr]; rfl, plain_h, plain_h]
  show ofPure X.P (do eqGuard .eql t x y (hsh h) (hsh g); binOp .eql t (hsh h) (hsh g)) s = _
  unfold ofPure
  rw [pureRun_bind, show pureRun X.P (eqGuard .eql t x y (hsh h) (hsh g)) = some () from pr_guard (.inl rfl) hG]
  show (match pureRun X.P (do pure (Value.bool (← Op.equal t (hsh h) (hsh g)))) with | some v => ofV v s | none => .no) = _
  rw [pureRun_bind, pr_eq H hl gl]
  show okB (decide (h = g)) s = _
  generalize decide (h = g) = b
  cases b <;> rfl
theorem Xv.neH {t e : Nat} {t' : TypeId} {x y : Operand} {h g : List Nat} (H : HT X.P t e) (hG : X.P.eqGuardType X.P.depth t = false) (hx : ev env x = some (hsh h)) (hy : ev env y = some (hsh g)) (hl : h.length = 32) (gl : g.length = 32) : Xv X (.binOp .neq t x y t') env s (.bool (decide (h ≠ g))) s := fun tm hf => by
  show xBin X.P .neq t x y (opd tm x) (opd tm y) s = _
  rw [ev_opd hf hx, ev_opd hf hy]
  show eqA X.P .neq t x y (hsh h) (hsh g) s = _
  unfold eqA
  rw [show eqNil (X.P.underlying t) (hsh h) (hsh g) = none by rw [H.arr]; rfl, plain_h, plain_h]
  show ofPure X.P (do eqGuard .neq t x y (hsh h) (hsh g); binOp .neq t (hsh h) (hsh g)) s = _
  unfold ofPure
  rw [pureRun_bind, show pureRun X.P (eqGuard .neq t x y (hsh h) (hsh g)) = some () from pr_guard (.inr rfl) hG]
  show (match pureRun X.P (do pure (Value.bool (!(← Op.equal t (hsh h) (hsh g))))) with | some v => ofV v s | none => .no) = _
  rw [pureRun_bind, pr_eq H hl gl]
  show okB (!decide (h = g)) s = _
  rw [← decide_not]
  show okB (decide (h ≠ g)) s = _
  generalize decide (h ≠ g) = b
  cases b <;> rfl
/-- Two bools compared. -/
theorem Xv.eqB {t t0 n : Nat} {z : Option (List Value)} {t' : TypeId} {x y : Operand} {a b : Bool} (ht : tk X.B.T t = some ⟨t0, n, .bl, z⟩) (hx : ev env x = some (.bool a)) (hy : ev env y = some (.bool b)) : Xv X (.binOp .eql t x y t') env s (.bool (a == b)) s := fun tm hf => by
  have hu : X.P.underlying t = some .bool := X.B.un ht
  show xBin X.P .eql t x y (opd tm x) (opd tm y) s = _
  rw [ev_opd hf hx, ev_opd hf hy]
  show eqA X.P .eql t x y (.bool a) (.bool b) s = _
  unfold eqA
  rw [show eqNil (X.P.underlying t) (.bool a) (.bool b) = none by rw [hu]; rfl]
  show ofPure X.P (do eqGuard .eql t x y (.bool a) (.bool b); binOp .eql t (.bool a) (.bool b)) s = _
  unfold ofPure
  rw [pureRun_bind, show pureRun X.P (eqGuard .eql t x y (.bool a) (.bool b)) = some () from rfl]
  show (match pureRun X.P (do pure (Value.bool (← Op.equal t (.bool a) (.bool b)))) with | some v => ofV v s | none => .no) = _
  have e : pureRun X.P (Op.equal t (.bool a) (.bool b)) = some (a == b) := by
    unfold Op.equal Op.maxDepth
    show pureRun X.P (Op.equalIn (9999 + 1) t (.bool a) (.bool b)) = _
    rw [Op.equalIn, pureRun_bind, pureRun_und hu]
    rfl
  rw [pureRun_bind, e]
  show okB (a == b) s = _
  generalize (a == b) = b
  cases b <;> rfl
/-- A difference that goes round at the end. -/
theorem Xv.subW {t t' : TypeId} {x y : Operand} {a b z : Int} (hx : ev env x = some (.int .i64 a)) (hy : ev env y = some (.int .i64 b)) (ha : a < 9223372036854775808) (hz : IntKind.wrap .i64 (a - b) = z) : Xv X (.binOp .sub t x y t') env s (.int .i64 z) s := fun tm hf => by
  show xBin X.P .sub t x y (opd tm x) (opd tm y) s = _
  rw [ev_opd hf hx, ev_opd hf hy]
  have e : pureRun X.P (binOp .sub t (.int .i64 a) (.int .i64 b)) = some (.int .i64 z) := by
    show some (Value.int .i64 (IntKind.wrap .i64 (a - b))) = _
    rw [hz]
  have o : ofPure X.P (binOp .sub t (.int .i64 a) (.int .i64 b)) s = .ok (.val (.int .i64 z)) s := by
    unfold ofPure
    rw [e]
    show fI z (fun n => Re.ok (.val (.int .i64 n)) s) = _
    rw [fI_eq]
  show ints X.P .sub t .i64 .i64 a b s = _
  unfold ints
  split
  · rename_i m n
    by_cases h : n ≤ m
    · have hr : arN .sub .i64 m n = some (m - n) := by
        have h3 : ((m : Nat) : Int) < 9223372036854775808 := ha
        show cond (Nat.ble n m) (wrapN .i64 (m - n)) _ = _
        rw [Nat.ble_eq_true_of_le h]
        exact wrapI (by omega)
      have hz' : z = Int.ofNat (m - n) := by
        rw [← hz]
        have e1 : (Int.ofNat m - Int.ofNat n : Int) = ((m - n : Nat) : Int) := by show ((m : Int) - (n : Int)) = _; omega
        rw [e1]
        have h3 : ((m : Nat) : Int) < 9223372036854775808 := ha
        show (if (true && decide ((((m - n : Nat) : Int) % 18446744073709551616 : Int) ≥ 9223372036854775808)) = true then ((m - n : Nat) : Int) % 18446744073709551616 - 18446744073709551616 else ((m - n : Nat) : Int) % 18446744073709551616) = _
        rw [if_neg (by simp; omega)]
        show _ = ((m - n : Nat) : Int)
        omega
      show cond true (match arN .sub .i64 m n with | some n => okN .i64 n s | none => _) .no = _
      rw [hr, hz']
      show okN .i64 (m - n) s = _
      unfold okN; rw [fN_eq]
    · have hr : arN .sub .i64 m n = none := by
        show cond (Nat.ble n m) _ (cond (Nat.beq 0 0) none _) = _
        rw [show Nat.ble n m = false by cases hq : Nat.ble n m with | false => rfl | true => exact absurd (Nat.le_of_ble_eq_true hq) h]; rfl
      show cond true (match arN .sub .i64 m n with | some n => okN .i64 n s | none => match cmN .sub m n with | some r => okB r s | none => ofPure X.P (binOp .sub t (.int .i64 (.ofNat m)) (.int .i64 (.ofNat n))) s) .no = _
      rw [hr]
      exact o
  · exact o
end
section
variable {s : St} {b γ : Nat} {l : List Value}
theorem Rw.ats (h : Rw s b l γ) : At s (some ⟨b, 0, none⟩) l := by
  have := (h.sl (o := 0) (n := l.length) (by omega)).at
  rwa [List.drop_zero, List.take_length] at this
/-- What is read of a struct in a block. -/
theorem Rw.f1 {v : Value} {i : Nat} (h : Rw s b l γ) (hv : l[i]? = some v) : ldq s (qadd (some ⟨b, 0, none⟩) i) = some v := by
  obtain ⟨h1, h2⟩ := List.getElem?_eq_some_iff.1 hv
  rw [h.ats.ld h1, h2]
theorem Rw.fn {i n : Nat} (h : Rw s b l γ) (hn : i + n ≤ l.length) (h0 : 0 < n) : ldn s (qadd (some ⟨b, 0, none⟩) i) n = some ((l.drop i).take n) := h.ats.ldn hn h0
theorem good_b {b o : Nat} : good (some ⟨b, o, none⟩) := ⟨b, o, rfl⟩
theorem eqV4i {k : IntKind} {n : Int} : eqV 4 (.int k n) (.int k n) = true := by
  have := eqV_int (k := k) (n := n)
  exact this
theorem eqV_agg {cs : List Value} (h : ∀ v ∈ cs, eqV 4 v v = true) : eqV 5 (.agg ⟨cs⟩) (.agg ⟨cs⟩) = true := by
  show eqL (eqV 4) cs cs = true
  induction cs with
  | nil => rfl
  | cons v cs ih =>
    show cond (eqV 4 v v) (eqL (eqV 4) cs cs) false = true
    rw [h v (by simp), ih fun u hu => h u (by simp [hu])]; rfl
theorem eqV_b {A : List Nat} : ∀ v ∈ A.map nB, eqV 4 v v = true := fun v hv => by
  obtain ⟨a, _, rfl⟩ := List.mem_map.1 hv
  exact eqV4i
theorem eqV_h {A : List Nat} : eqV 5 (.agg ⟨A.map nB⟩) (.agg ⟨A.map nB⟩) = true := eqV_agg eqV_b
theorem lov_app {a b c vs : List Value} {o : Nat} (ho : o = a.length) (hv : vs.length = b.length) : lov (a ++ (b ++ c)) o vs = a ++ (vs ++ c) := by
  subst ho
  unfold lov
  rw [List.take_left, ← List.drop_drop, List.drop_left, hv, List.drop_left]
theorem lov_all {l vs : List Value} (h : vs.length = l.length) : lov l 0 vs = vs := by unfold lov; rw [List.take_zero, List.nil_append, Nat.zero_add, h, List.drop_length, List.append_nil]
/-- A struct literal, field by field. -/
theorem fill_cons {env : Env} {pl : Nat → Option (Nat × Nat)} {i off n : Nat} {x : Operand} {v : Value} {vs cs r : List Value} {ps : List (Nat × Operand)} (hp : pl i = some (off, n)) (hx : ev env x = some v) (hc : cellsL v = some vs) (hn : vs.length = n) (h1 : ∀ v ∈ vs, one v = true) (hl : off + n ≤ cs.length) (h : fillE pl env ps (lov cs off vs) = some r) : fillE pl env ((i, x) :: ps) cs = some r := by
  subst hn
  unfold fillE
  rw [hp, hx]
  simp only [hc, Nat.beq_refl, cond_true]
  rw [splice_ok hl h1]
  exact h
theorem Xv.buildE {X : Fx} {env : Env} {s : St} {t t0 n0 : Nat} {fs : List (Nat × Nat)} {z cs : List Value} {ps : Array (Nat × Operand)} (ht : tk X.B.T t = some ⟨t0, n0, .st fs, some z⟩) (hp0 : fillE (placeT X.B.T fs) env ps.toList z = some cs) : Xv X (.build t ps) env s (.agg ⟨cs⟩) s := by
  refine Xv.build ht ?_
  unfold fillN
  rw [hp0]
  exact norm_eq cs
end
theorem two_mk {s : St} {cs ds : List Value} (w0 : Wf s) : ∃ s2 b, mkRow (mkRow s cs) ds = s2 ∧ (mkRow s cs).nx = b ∧ b = s.nx + 1 ∧ Rw s2 s.nx cs s.nx ∧ Rw s2 b ds b ∧ s2.nx = s.nx + 2 ∧ Kn s s2 :=
  ⟨_, _, rfl, rfl, rfl, mkRow_rw.kp (mkRow_wf w0) mkRow_kn id, mkRow_rw, rfl, mkRow_kn.call mkRow_kn⟩
theorem Rw.all {s : St} {b γ n : Nat} {l : List Value} (h : Rw s b l γ) (hn : l.length = n) (h0 : 0 < n) : ldn s (some ⟨b, 0, none⟩) n = some l := by
  have := h.fn (i := 0) (n := n) (by omega) h0
  rwa [List.drop_zero, List.take_of_length_le (by omega)] at this
section
variable {X : Fx} {env : Env} {df : List Deferred} {s : St} {Q : Post} {all : List Oper} {d : Option Nat} {ty : TypeId} {pos : String} {af : Array Edge} {gd : Option (Nat × Bool)} {i m : Nat} {L : List Sp} {past : Past}
theorem Wd.cpy {t t0 n0 e t1 size u : Nat} {z0 z : Option (List Value)} {ke : Sh} {x y : Operand} {b o n c γ : Nat} {q : Option Addr} {k c' : Nat} {l cs : List Value} (hg : wantsE all env gd = some true) (hd : dOk X d = true) (ht : tk X.B.T t = some ⟨t0, n0, .sl e, z0⟩) (he : tk X.B.T e = some ⟨t1, size, ke, z⟩) (h0 : Nat.blt 0 size = true) (hx : ev env x = some (.slice (some ⟨b, o, none⟩) n c)) (hy : ev env y = some (.slice q k c')) (hr : Rw s b l γ) (ha : At s q cs) (hl : cs.length = k * size) (h1 : ∀ v ∈ cs, one v = true) (hn : o + n * size ≤ l.length)
    (K : ∀ s', Rw s' b (lov l o (cs.take (min k n * size))) γ → s'.nx = s.nx → Kp (fun c => c = γ) s s' → Wd X all L ((some i, s') :: past) (up d (nI (min k n)) env) df s' Q) : Wd X all (.mk .acts i ⟨d, .call ⟨.builtin .copy, #[x, y], #[t, u]⟩, ty, pos, af, gd⟩ m :: L) past env df s Q := by
  obtain ⟨s', a, b, c, e⟩ := Xv.cpy (X := X) (u := u) ht he (Nat.le_of_ble_eq_true h0) hx hy hr ha hl h1 hn
  exact Wd.act hg a hd (Nat.le_of_eq c.symm) (K s' b c e)
end
end Go.Sy
