import Derived.Test.YtgglbjnfbfpiiaaGreatDoorF8zz
import Derived.RangeFuncIn
/-
  The evaluator: statements.
-/
namespace Go.Ev
open Go
/-- Where a statement leaves a frame. -/
def Left (P : Program) (m : Machine) (b : Frame) (k : List Item) (cs : List Frame) (act' : Act) (w' : World) : Ex → Prop
  | .normal => Steps P m (lone (b.atR act' k) cs w')
  | .exit id => ∃ k1, exitTo id k1 = exitTo id k ∧ Steps P m (lone (b.atR act' (.code (.exit id) :: k1)) cs w')
  | .ret => ∃ k1, Steps P m (lone (b.atR act' (.code .ret :: k1)) cs w')
  | .goto _ => False
theorem Left.of_steps {P : Program} {m m1 : Machine} {b : Frame} {k : List Item} {cs : List Frame} {act' : Act} {w' : World} {e : Ex} (h : Steps P m m1) (h' : Left P m1 b k cs act' w' e) : Left P m b k cs act' w' e := by
  cases e with
  | normal => exact h.trans h'
  | exit id => obtain ⟨k1, h1, h2⟩ := h'; exact ⟨k1, h1, h.trans h2⟩
  | ret => obtain ⟨k1, h2⟩ := h'; exact ⟨k1, h.trans h2⟩
  | goto l => exact h'
/-- Behind items that an exit passes by. -/
theorem Left.pass {P : Program} {m : Machine} {b : Frame} {x : Item} {k : List Item} {cs : List Frame} {act' : Act} {w' : World} {e : Ex} (hx : ∀ id, exitTo id (x :: k) = exitTo id k) (hn : e ≠ .normal) (h : Left P m b (x :: k) cs act' w' e) : Left P m b k cs act' w' e := by
  cases e with
  | normal => exact absurd rfl hn
  | exit id => obtain ⟨k1, h1, h2⟩ := h; exact ⟨k1, h1.trans (hx id), h2⟩
  | ret => exact h
  | goto l => exact h
section
variable {P : Program} {N : Nat}
/-- Regions whose order the tape tells. -/
def DrawOk (N : Nat) (P : Program) (rec : Rec) : Prop :=
  ∀ (id : Nat) (A : Array Oper) {rd : Option Nat} {E : En} {s s' : St} {w : World} {a a' : Ac} {act : Act}, Rel N E s w → AcR E a act → planned P rec rd A.toList (planOf P A.toList) a s = .ok a' s' →
    ∀ {b : Frame} {k : List Item} {cs : List Frame}, Calm rd b cs → ∃ E' act' w', Stp N E s w E' s' w' ∧ AcR E' a' act' ∧ Steps P (lone (b.atR act (.code (.region id A true) :: k)) cs w) (lone (b.atR act' k) cs w')
/-- In a round: of which loop. -/
def RoundAt (E : En) (rd : Option Nat) (b : Frame) : Prop := ∀ l, rd = some l → l < E.nx ∧ b.roundOf = some (E.ι l)
theorem RoundAt.ext {E E' : En} (X : Ext E E') {rd : Option Nat} {b : Frame} (h : RoundAt E rd b) : RoundAt E' rd b :=
  fun l e => ⟨Nat.lt_of_lt_of_le (h l e).1 X.nx, by rw [X.ι l (h l e).1]; exact (h l e).2⟩
/-- A statement's contract. -/
def CodeOk (N : Nat) (P : Program) (fn : FuncId) (rd : Option Nat) (c : Code) (f : Ac → St → Rc) : Prop :=
  ∀ {E : En} {s s' : St} {w : World} {a a' : Ac} {act : Act} {e : Ex}, Rel N E s w → AcR E a act → f a s = .ok e a' s' →
    ∀ {b : Frame} {k : List Item} {cs : List Frame}, Calm rd b cs → b.fn = fn → RoundAt E rd b → ∃ E' act' w', Stp N E s w E' s' w' ∧ AcR E' a' act' ∧ Left P (lone (b.atR act (.code c :: k)) cs w) b k cs act' w' e
theorem thenC_ok {r : Rc} {f : Ac → St → Rc} {e : Ex} {a' : Ac} {s' : St} (h : thenC r f = .ok e a' s') : (∃ a1 s1, r = .ok .normal a1 s1 ∧ f a1 s1 = .ok e a' s') ∨ (r = .ok e a' s' ∧ e ≠ .normal) := by
  cases r with
  | no => cases h
  | ok e1 a1 s1 =>
    cases e1 with
    | normal => exact .inl ⟨a1, s1, rfl, h⟩
    | exit i => cases h; exact .inr ⟨rfl, fun e => by cases e⟩
    | goto i => cases h; exact .inr ⟨rfl, fun e => by cases e⟩
    | ret => cases h; exact .inr ⟨rfl, fun e => by cases e⟩
theorem code_seq {fn : FuncId} {rd : Option Nat} {x y : Code} {f g : Ac → St → Rc} (hx : CodeOk N P fn rd x f) (hy : CodeOk N P fn rd y g) : CodeOk N P fn rd (.seq x y) (fun a s => thenC (f a s) g) := by
  intro E s s' w a a' act e h ha hh b k cs hb hf hra
  rcases thenC_ok hh with ⟨a1, s1, h1, h2⟩ | ⟨h1, hn⟩
  · obtain ⟨E1, act1, w1, q1, q2, q3⟩ := hx h ha h1 (k := .code y :: k) hb hf hra
    obtain ⟨E2, act2, w2, z1, z2, z3⟩ := hy q1.rel q2 h2 (k := k) hb hf (hra.ext q1.ext)
    exact ⟨E2, act2, w2, q1.trans z1, z2, .of_steps (.head stepR_seq q3) z3⟩
  · obtain ⟨E1, act1, w1, q1, q2, q3⟩ := hx h ha h1 (k := .code y :: k) hb hf hra
    exact ⟨E1, act1, w1, q1, q2, .of_steps (.one stepR_seq) (q3.pass (fun id => by simp [exitTo]) hn)⟩
theorem code_cond {fn : FuncId} {rd : Option Nat} {c : Operand} {x y : Code} {f g : Ac → St → Rc} (hx : CodeOk N P fn rd x f) (hy : CodeOk N P fn rd y g) : CodeOk N P fn rd (.cond c x y) (fun a s => condC c f g a s) := by
  intro E s s' w a a' act e h ha hh b k cs hb hf hra
  obtain ⟨n, tm, df⟩ := a
  have hv := opd_sound h (ha.tmps n tm df rfl) c
  unfold condC at hh
  simp only at hh
  split at hh
  · rename_i hc
    rw [hc] at hv
    obtain ⟨E1, act1, w1, q1, q2, q3⟩ := hx h ha hh (k := k) hb hf hra
    exact ⟨E1, act1, w1, q1, q2, .of_steps (.one (stepR_cond (t := true) hv.bool_inv)) q3⟩
  · rename_i hc
    rw [hc] at hv
    obtain ⟨E1, act1, w1, q1, q2, q3⟩ := hy h ha hh (k := k) hb hf hra
    exact ⟨E1, act1, w1, q1, q2, .of_steps (.one (stepR_cond (t := false) hv.bool_inv)) q3⟩
  · cases hh
theorem code_block {fn : FuncId} {rd : Option Nat} {id : Nat} {x : Code} {f : Ac → St → Rc} (hx : CodeOk N P fn rd x f) : CodeOk N P fn rd (.block id x) (fun a s => blockC id (f a s)) := by
  intro E s s' w a a' act e h ha hh b k cs hb hf hra
  replace hh : blockC id (f a s) = .ok e a' s' := hh
  cases hr : f a s with
  | no => rw [hr] at hh; cases hh
  | ok e1 a1 s1 =>
    rw [hr] at hh
    obtain ⟨E1, act1, w1, q1, q2, q3⟩ := hx h ha hr (k := .inBlock id :: k) hb hf hra
    cases e1 with
    | normal => cases hh; exact ⟨E1, act1, w1, q1, q2, .head stepR_block (q3.trans (.one stepR_inBlock))⟩
    | exit i =>
      obtain ⟨k1, h1, h2⟩ := q3
      have hh' : cond (Nat.beq i id) (Rc.ok .normal a1 s1) (.ok (.exit i) a1 s1) = .ok e a' s' := hh
      cases hi : Nat.beq i id with
      | true =>
        rw [hi] at hh'
        cases hh'
        have e1 := Nat.eq_of_beq_eq_true hi
        subst e1
        exact ⟨E1, act1, w1, q1, q2, .head stepR_block (h2.trans (.one (stepR_exit (by rw [h1]; simp [exitTo]))))⟩
      | false =>
        rw [hi] at hh'
        cases hh'
        have hne : (id == i) = false := by
          cases hq : (id == i) with
          | false => rfl
          | true =>
            have : id = i := by simpa using hq
            subst this
            rw [Nat.beq_refl] at hi; cases hi
        exact ⟨E1, act1, w1, q1, q2, k1, by rw [h1]; simp [exitTo, hne], .head stepR_block h2⟩
    | ret => cases hh; obtain ⟨k1, h2⟩ := q3; exact ⟨E1, act1, w1, q1, q2, k1, .head stepR_block h2⟩
    | goto l => exact q3.elim
theorem code_loop {fn : FuncId} {rd : Option Nat} {x : Code} {f : Ac → St → Rc} (hx : CodeOk N P fn rd x f) (m : Nat) : CodeOk N P fn rd (.loop x) (fun a s => iter f m a s) := by
  intro E s s' w a a' act e h ha hh b k cs hb hf hra
  have key : ∀ (m : Nat) {E : En} {s s' : St} {w : World} {a a' : Ac} {act : Act} {e : Ex}, Rel N E s w → AcR E a act → RoundAt E rd b → iter f m a s = .ok e a' s' →
      ∃ E' act' w', Stp N E s w E' s' w' ∧ AcR E' a' act' ∧ Left P (lone (b.atR act (.code x :: .inLoop x :: k)) cs w) b k cs act' w' e := by
    intro m
    induction m with
    | zero => intro E s s' w a a' act e _ _ _ hh; cases hh
    | succ m ih =>
      intro E s s' w a a' act e h ha hra hh
      rcases thenC_ok (show thenC (f a s) (iter f m) = .ok e a' s' from hh) with ⟨a1, s1, h1, h2⟩ | ⟨h1, hn⟩
      · obtain ⟨E1, act1, w1, q1, q2, q3⟩ := hx h ha h1 (k := .inLoop x :: k) hb hf hra
        obtain ⟨E2, act2, w2, z1, z2, z3⟩ := ih q1.rel q2 (hra.ext q1.ext) h2
        exact ⟨E2, act2, w2, q1.trans z1, z2, .of_steps (Steps.trans q3 (.one stepR_inLoop)) z3⟩
      · obtain ⟨E1, act1, w1, q1, q2, q3⟩ := hx h ha h1 (k := .inLoop x :: k) hb hf hra
        exact ⟨E1, act1, w1, q1, q2, q3.pass (fun id => by simp [exitTo]) hn⟩
  obtain ⟨E1, act1, w1, q1, q2, q3⟩ := key m h ha hra hh
  exact ⟨E1, act1, w1, q1, q2, .of_steps (.one stepR_loop) q3⟩
theorem stepR_scope {b : Frame} {a : Act} {k : List Item} {cs : List Frame} {w : World} {c : Code} : step P (lone (b.atR a (.code (.scope c) :: k)) cs w) = .next (lone (b.atR a (.code c :: .inScope c :: k)) cs w) :=
  step_lone_go (by simp [stepG, stepG.exec, Frame.atR])
theorem stepR_inScope {b : Frame} {a : Act} {k : List Item} {cs : List Frame} {w : World} {c : Code} : step P (lone (b.atR a (.inScope c :: k)) cs w) = .next (lone (b.atR a k) cs w) :=
  step_lone_go (by simp [stepG, stepG.exec, Frame.atR])
theorem code_scope {fn : FuncId} {rd : Option Nat} {x : Code} {f : Ac → St → Rc} (hx : CodeOk N P fn rd x f) : CodeOk N P fn rd (.scope x) (fun a s => noGoto (f a s)) := by
  intro E s s' w a a' act e h ha hh b k cs hb hf hra
  replace hh : noGoto (f a s) = .ok e a' s' := hh
  cases hr : f a s with
  | no => rw [hr] at hh; cases hh
  | ok e1 a1 s1 =>
    rw [hr] at hh
    obtain ⟨E1, act1, w1, q1, q2, q3⟩ := hx h ha hr (k := .inScope x :: k) hb hf hra
    have hx2 : ∀ id, exitTo id (.inScope x :: k) = exitTo id k := fun id => by simp [exitTo]
    cases e1 with
    | normal => cases hh; exact ⟨E1, act1, w1, q1, q2, .head stepR_scope (q3.trans (.one stepR_inScope))⟩
    | exit i => cases hh; exact ⟨E1, act1, w1, q1, q2, .of_steps (.one stepR_scope) (q3.pass hx2 (fun e => by cases e))⟩
    | ret => cases hh; exact ⟨E1, act1, w1, q1, q2, .of_steps (.one stepR_scope) (q3.pass hx2 (fun e => by cases e))⟩
    | goto l => exact q3.elim
theorem region_ok {rec : Rec} (R : RecOk N P rec) (D : DrawOk N P rec) {fn : FuncId} {rd : Option Nat} (id : Nat) (A : Array Oper) (dr : Bool) : CodeOk N P fn rd (.region id A dr) (fun a s => region P rec rd A.toList dr a s) := by
  intro E s s' w a a' act e h ha hh b k cs hb hf hra
  have asn : ∀ {r : Ro}, asN r = .ok e a' s' → e = .normal ∧ r = .ok a' s' := by
    intro r hr
    cases r with
    | no => cases hr
    | ok a1 s1 => cases hr; exact ⟨rfl, rfl⟩
  cases dr with
  | true =>
    obtain ⟨rfl, hr⟩ := asn (show asN (planned P rec rd A.toList (planOf P A.toList) a s) = .ok e a' s' from hh)
    obtain ⟨E1, act1, w1, q1, q2, q3⟩ := D id A h ha hr (k := k) hb
    exact ⟨E1, act1, w1, q1, q2, q3⟩
  | false =>
    obtain ⟨rfl, hr⟩ := asn (show asN (opers P rec rd A.toList A.toList a s) = .ok e a' s' from hh)
    obtain ⟨E1, act1, w1, q1, q2, q3⟩ := opers_sound R A.toList 0 (fun m => by rw [Array.getElem?_toList, Nat.zero_add]) h ha hr (k := k) hb
    refine ⟨E1, act1, w1, q1, q2, .head stepR_region ?_⟩
    rw [Array.length_toList, ← List.range_eq_range'] at q3
    exact q3.trans (.one stepR_region_end)
end
end Go.Ev
