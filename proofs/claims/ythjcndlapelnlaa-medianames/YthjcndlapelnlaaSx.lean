/-
  A region that draws its order, by states: each state of what has come up is shown once.
-/
import Derived.Test.YthjcndlapelnlaaYs
namespace Go.Proofs.Ythjcndlapelnlaa
open Go.RowKit

section
variable {P : Program} {ops : Array Oper} {Q : Exit → Act → World → Prop} {md : Region.Mode} {S : World → Prop}
/-- each of the operations rs comes up next, and leads to a state -/
def AllReadyI (P : Program) (ops : Array Oper) (Q : Exit → Act → World → Prop) (J : Nat → Act → World → Prop) (a : Act) (w : World) (rs : List Nat) : Prop := ∀ i ∈ rs, wpOp P ops Q i (J i) a w
theorem AllReadyI.nil {J : Nat → Act → World → Prop} {a : Act} {w : World} : AllReadyI P ops Q J a w [] := fun _ h => by cases h
theorem AllReadyI.cons {J : Nat → Act → World → Prop} {a : Act} {w : World} {i : Nat} {o : Oper} {rs : List Nat} (ho : ops[i]? = some o)
    (h : ∀ K' : Act → World → Prop, Shut (∀ a w, J i a w → K' a w) → if Region.wanted o (yielded ops a.tmps) = true then Oper.wp P o a w K' Q else K' (a.put o.dst undef) w)
    (hs : AllReadyI P ops Q J a w rs) : AllReadyI P ops Q J a w (i :: rs) := fun j hj => by
  rcases List.mem_cons.1 hj with rfl | hj
  · exact wpOp_step ho (fun K' hK => h K' hK)
  · exact hs j hj
/-- THE STATES: I says what holds when n operations are left; from each state one goes on by hand, or whatever is ready leads to another. -/
theorem wpAnyH_states (I : Nat → Array Bool → Act → World → Prop)
    (hI : ∀ n l a w, I n l a w → wpAnyH P md ops Q S n l a w ∨ ∃ m rs, n = m + 1 ∧ Region.ready md ops l = rs ∧ rs ≠ [] ∧ AllReadyI P ops Q (fun i a' w' => S w' ∧ I m (l.setIfInBounds i true) a' w') a w rs) :
    ∀ n l a w, I n l a w → wpAnyH P md ops Q S n l a w := by
  intro n
  induction n with
  | zero =>
    intro l a w h
    rcases hI 0 l a w h with q | ⟨m, rs, e, _⟩
    · exact q
    · cases e
  | succ n ih =>
    intro l a w h
    rcases hI (n + 1) l a w h with q | ⟨m, rs, e, hr, hne, hA⟩
    · exact q
    · obtain rfl : n = m := by omega
      refine wpAnyH_all hr hne (fun i hi => ?_)
      refine wpOp_mono (fun a' w' q => ⟨q.1, ih _ _ _ q.2⟩) (hA i hi)
end
end Go.Proofs.Ythjcndlapelnlaa
