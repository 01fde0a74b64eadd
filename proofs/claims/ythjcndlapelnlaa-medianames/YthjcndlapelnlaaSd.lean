/-
  cairnref08.same and SameMedia of nothing and nothing.
-/
import Derived.Test.YthjcndlapelnlaaRm
import Derived.Test.YthjcndlapelnlaaRSm
namespace Go.Proofs.Ythjcndlapelnlaa
open Go.RowKit

theorem vw_nil (w : World) : Vw w none 0 0 [] := by
  exact ⟨fun h => absurd h (Nat.lt_irrefl 0), fun i hi => absurd hi (Nat.not_lt_zero _), fun i hi => absurd hi (Nat.not_lt_zero _), Nat.zero_le _⟩
set_option maxRecDepth 100000 in
set_option maxHeartbeats 1600000 in
theorem same_none (w : World) :
    Calls Try.prog 30 #[.agg #[.slice none 0 0, .slice none 0 0], .agg #[.slice none 0 0, .slice none 0 0]] w fun e w' => e = .returned (.bool true) ∧ Below w.heap.size w w' := by
  have hr0 := rng_new w [.slice none 0 0, .slice none 0 0] 85
  have hr1 := rng_new (w.alloc (.cells #[.slice none 0 0, .slice none 0 0] 85)) [.slice none 0 0, .slice none 0 0] 85
  have HB : Hid (Below w.heap.size w ((w.alloc (.cells #[.slice none 0 0, .slice none 0 0] 85)).alloc (.cells #[.slice none 0 0, .slice none 0 0] 85))) := ((Below.refl _ _).alloc (Nat.le_refl _) _).alloc (by simp) _
  have hr0' := rng_keep hr0 ((Below.refl _ _).alloc (Nat.le_refl _) (.cells #[.slice none 0 0, .slice none 0 0] 85))
  have a0 : ((w.alloc (.cells #[.slice none 0 0, .slice none 0 0] 85)).alloc (.cells #[.slice none 0 0, .slice none 0 0] 85)).cell? ⟨w.heap.size, 0, none⟩ = some (.slice none 0 0) := hr0' 0 _ rfl
  have a1 : ((w.alloc (.cells #[.slice none 0 0, .slice none 0 0] 85)).alloc (.cells #[.slice none 0 0, .slice none 0 0] 85)).cell? ⟨w.heap.size, 1, none⟩ = some (.slice none 0 0) := hr0' 1 _ rfl
  have b0 : ((w.alloc (.cells #[.slice none 0 0, .slice none 0 0] 85)).alloc (.cells #[.slice none 0 0, .slice none 0 0] 85)).cell? ⟨w.heap.size + 1, 0, none⟩ = some (.slice none 0 0) := by
    have := hr1 0 _ rfl
    rwa [World.size_alloc] at this
  have b1 : ((w.alloc (.cells #[.slice none 0 0, .slice none 0 0] 85)).alloc (.cells #[.slice none 0 0, .slice none 0 0] 85)).cell? ⟨w.heap.size + 1, 1, none⟩ = some (.slice none 0 0) := by
    have := hr1 1 _ rfl
    rwa [World.size_alloc] at this
  clear hr0 hr1 hr0'
  go_enter Try.func30, Try.ntmps30
  go_wp2_with (go_at_call 37; refine (rsame_any _ none none 0 0 0 0 0 0 [] [] (vw_nil _) (vw_nil _)).mono ?_; rintro e w' ⟨rfl, q, rfl⟩)
  refine wp_loop_once ?_
  go_wp2_with fail
  go_ret
  exact ⟨rfl, below_drewN HB.out _⟩
end Go.Proofs.Ythjcndlapelnlaa
