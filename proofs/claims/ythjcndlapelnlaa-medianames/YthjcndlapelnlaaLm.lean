/-
  media.limitsMayBe, countMayBe.
-/
import Derived.Test.YthjcndlapelnlaaSr
namespace Go.Proofs.Ythjcndlapelnlaa
open Go.RowKit

def limB (sl rm : Int) : Bool := decide (1 ≤ sl ∧ sl ≤ 4096 ∧ 0 ≤ rm ∧ rm ≤ 1048576)
def cntB (c : Int) : Bool := decide (1 ≤ c ∧ c ≤ 1099511627776)
set_option maxRecDepth 100000 in
set_option maxHeartbeats 800000 in
theorem limits_any (w : World) (sl rm : Int) (bl lg : Value) (c : Int) (tag : List Nat) :
    Calls Try.prog 33 #[.agg (mdc sl rm bl lg c tag).toArray] w fun e w' => e = .returned (.bool (limB sl rm)) ∧ Below w.heap.size w w' := by
  have hr := rng_new w (mdc sl rm bl lg c tag) 54
  have c0 : (w.alloc (.cells (mdc sl rm bl lg c tag).toArray 54)).cell? ⟨w.heap.size, 0, none⟩ = some (.int .i64 sl) := hr 0 _ rfl
  have c1 : (w.alloc (.cells (mdc sl rm bl lg c tag).toArray 54)).cell? ⟨w.heap.size, 1, none⟩ = some (.int .i64 rm) := hr 1 _ rfl
  obtain ⟨L, hL⟩ : ∃ L, L = (mdc sl rm bl lg c tag).toArray := ⟨_, rfl⟩
  rw [← hL] at c0 c1 ⊢
  have hb : ∀ t, Below w.heap.size w (w.alloc (.cells L t)) := fun t => (Below.refl _ _).alloc (Nat.le_refl _) _
  have HB : Hid (∀ t, Below w.heap.size w (w.alloc (.cells L t))) := hb
  clear hb hr hL
  by_cases h : 1 ≤ sl ∧ sl ≤ 4096 ∧ 0 ≤ rm ∧ rm ≤ 1048576
  · have HE : Hid (limB sl rm = true) := decide_eq_true h
    obtain ⟨h1, h2, h3, h4⟩ := h
    go_enter Try.func33, Try.ntmps33
    go_wp2_with fail
    go_ret
    exact ⟨by rw [HE.out]; rfl, HB.out _⟩
  · have HE : Hid (limB sl rm = false) := decide_eq_false h
    have hc : ¬ 1 ≤ sl ∨ (1 ≤ sl ∧ ¬ sl ≤ 4096) ∨ (1 ≤ sl ∧ sl ≤ 4096 ∧ ¬ 0 ≤ rm) ∨ (1 ≤ sl ∧ sl ≤ 4096 ∧ 0 ≤ rm ∧ ¬ rm ≤ 1048576) := by omega
    clear h
    rcases hc with h1 | ⟨h1, h2⟩ | ⟨h1, h2, h3⟩ | ⟨h1, h2, h3, h4⟩
    all_goals
      go_enter Try.func33, Try.ntmps33
      go_wp2_with fail
      go_ret
      exact ⟨by rw [HE.out]; rfl, HB.out _⟩
set_option maxRecDepth 100000 in
set_option maxHeartbeats 800000 in
theorem count_any (w : World) (c : Int) :
    Calls Try.prog 47 #[.int .i64 c] w fun e w' => e = .returned (.bool (cntB c)) ∧ w' = w := by
  by_cases h : 1 ≤ c ∧ c ≤ 1099511627776
  · have HE : Hid (cntB c = true) := decide_eq_true h
    obtain ⟨h1, h2⟩ := h
    go_enter Try.func47, Try.ntmps47
    go_wp2_with fail
    go_ret
    exact ⟨by rw [HE.out]; rfl, rfl⟩
  · have HE : Hid (cntB c = false) := decide_eq_false h
    have hc : ¬ 1 ≤ c ∨ (1 ≤ c ∧ ¬ c ≤ 1099511627776) := by omega
    clear h
    rcases hc with h1 | ⟨h1, h2⟩
    all_goals
      go_enter Try.func47, Try.ntmps47
      go_wp2_with fail
      go_ret
      exact ⟨by rw [HE.out]; rfl, rfl⟩
end Go.Proofs.Ythjcndlapelnlaa
