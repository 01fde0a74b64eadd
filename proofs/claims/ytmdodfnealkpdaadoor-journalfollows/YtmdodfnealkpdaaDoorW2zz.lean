import Derived.Test.YtmdodfnealkpdaaDoorW1zz
/-
  The evaluator over any input: stepping.
-/
namespace Go.Sy
open Go Go.Ev
def Im (A B : Prop) : Prop := A → B
theorem Im.l {A B C : Prop} (f : B → C) (k : Im A B) : Im A C := fun a => f (k a)
theorem Im.r {A : Prop} : Im A A := id
theorem eqV_int {k : IntKind} {n : Int} : eqV 5 (.int k n) (.int k n) = true := by
  show (k == k && n == n) = true
  rw [show (n == n) = true from beq_self_eq_true n, Bool.and_true]
  cases k <;> rfl
theorem eqV_bool {b : Bool} : eqV 5 (.bool b) (.bool b) = true := by cases b <;> rfl
theorem eqV_slice {q : Option Addr} {n c : Nat} : eqV 5 (.slice q n c) (.slice q n c) = true := by
  show (q == q && Nat.beq n n && Nat.beq c c) = true
  rw [Nat.beq_refl, Nat.beq_refl, beq_self_eq_true]; rfl
theorem eqV_ptr {q : Option Addr} : eqV 5 (.pointer q) (.pointer q) = true := by
  show (q == q) = true
  exact beq_self_eq_true q
/-- As far as it goes by itself. -/
theorem go {G G' : Prop} (h' : G') (h : Im G' G := by
    (repeat (first
      | apply Im.l (Wo.val (by exact rfl) (Xv.move (by exact rfl)) (by exact rfl))
      | apply Im.l (Wo.val (by exact rfl) (Xv.assign (by exact rfl)) (by exact rfl))
      | apply Im.l (Wo.val (by exact rfl) (Xv.lenS (by exact rfl) (by exact rfl)) (by exact rfl))
      | apply Im.l (Wo.val (by exact rfl) (Xv.lt (by exact rfl) (by exact rfl)) (by exact rfl))
      | apply Im.l (Wo.val (by exact rfl) (Xv.le (by exact rfl) (by exact rfl)) (by exact rfl))
      | apply Im.l (Wo.val (by exact rfl) (Xv.gt (by exact rfl) (by exact rfl)) (by exact rfl))
      | apply Im.l (Wo.val (by exact rfl) (Xv.ge (by exact rfl) (by exact rfl)) (by exact rfl))
      | apply Im.l (Wo.val (by exact rfl) (Xv.eq (by exact rfl) (by exact rfl)) (by exact rfl))
      | apply Im.l (Wo.val (by exact rfl) (Xv.ne (by exact rfl) (by exact rfl)) (by exact rfl))
      | apply Im.l (Wo.val (by exact rfl) (Xv.addI (by exact rfl) (by exact rfl) (by omega)) (by exact rfl))
      | apply Im.l (Wo.val (by exact rfl) (Xv.subI (by exact rfl) (by exact rfl) (by omega) (by omega)) (by exact rfl))
      | apply Im.l (Wo.val (by exact rfl) (Xv.minI (by exact rfl) (by exact rfl)) (by exact rfl))
      | apply Im.l (Wo.val (by exact rfl) (Xv.not (by exact rfl)) (by exact rfl))
      | apply Im.l (Wo.val (by exact rfl) (Xv.pick (by exact rfl) (by exact rfl) (by exact rfl)) (by exact rfl))
      | apply Im.l (Wd.val (by exact rfl) (Xv.move (by exact rfl)) (by exact rfl) (Nat.le_refl _))
      | apply Im.l (Wd.val (by exact rfl) (Xv.assign (by exact rfl)) (by exact rfl) (Nat.le_refl _))
      | apply Im.l (Wd.val (by exact rfl) (Xv.lenS (by exact rfl) (by exact rfl)) (by exact rfl) (Nat.le_refl _))
      | apply Im.l (Wd.val (by exact rfl) (Xv.lt (by exact rfl) (by exact rfl)) (by exact rfl) (Nat.le_refl _))
      | apply Im.l (Wd.val (by exact rfl) (Xv.eq (by exact rfl) (by exact rfl)) (by exact rfl) (Nat.le_refl _))
      | apply Im.l (Wd.val (by exact rfl) (Xv.ne (by exact rfl) (by exact rfl)) (by exact rfl) (Nat.le_refl _))
      | apply Im.l (Wo.val (by exact rfl) (Xv.iaB (by exact rfl) (by exact rfl) (by exact rfl) (by exact rfl) (by assumption) (by omega) (by omega)) (by exact rfl))
      | apply Im.l (Wo.val (by exact rfl) (Xv.ld (by exact rfl) (by exact rfl) (by exact rfl) (by exact Bs.ld (by assumption) (by omega))) (by exact rfl))
      | apply Im.l (Wd.val (by exact rfl) (Xv.iaB (by exact rfl) (by exact rfl) (by exact rfl) (by exact rfl) (by assumption) (by omega) (by omega)) (by exact rfl) (Nat.le_refl _))
      | apply Im.l (Wd.read (by exact rfl) (Xv.ld (by exact rfl) (by exact rfl) (by exact rfl) (by exact Bs.ld (by assumption) (by omega))) (by exact rfl) eqV_int (by exact ⟨Xv.ld rfl rfl rfl (Bs.ld (by assumption) (by omega)), trivial⟩))
      | apply Im.l rnd.r
      | apply Im.l rnd.x
      | apply Im.l W.seq
      | apply Im.l W.reg
      | apply Im.l Wo.nil
      | apply Im.l Wd.nil
      | apply Im.l andThen.n
      | apply Im.l andThen.x
      | apply Im.l andThen.r
      | apply Im.l W.block
      | apply Im.l W.skip
      | apply Im.l W.exit
      | apply Im.l W.ret
      | apply Im.l blk.n
      | apply Im.l blk.r
      | apply Im.l blk.x
      | apply Im.l (blk.y (by exact rfl))))
    exact Im.r) : G := h h'
end Go.Sy
