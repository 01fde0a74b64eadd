/-
  media.New, whatever Load does; what it refuses.
-/
import Derived.Test.YthjcndlapelnlaaLd
namespace Go.Proofs.Ythjcndlapelnlaa
open Go.RowKit

theorem built54_n (sl rm : Int) : Try.prog.built 54 [(0, .int .i64 sl), (1, .int .i64 rm)] = some (mdc sl rm nilS nilS 0 z32).toArray := by kernel_rfl
set_option maxRecDepth 100000 in
set_option maxHeartbeats 1600000 in
theorem new_of {w : World} {sl rm : Int} {cv : Value} {R : Value → Value → World → Prop}
    (K : Calls Try.prog 24 #[.agg (mdc sl rm nilS nilS 0 z32).toArray, cv] w fun e w' => ∃ x y, e = .returned (.tuple #[x, y]) ∧ R x y w') :
    Calls Try.prog 5 #[.int .i64 sl, .int .i64 rm, cv] w fun e w' => ∃ x y, e = .returned (.tuple #[x, y]) ∧ R x y w' := by
  have bd := built54_n sl rm
  have HK : Hid (Calls Try.prog 24 #[.agg (mdc sl rm nilS nilS 0 z32).toArray, cv] w fun e w' => ∃ x y, e = .returned (.tuple #[x, y]) ∧ R x y w') := K
  clear K
  go_enter Try.func5, Try.ntmps5
  go_wp2_with (first
    | refine wpList_bdL (by kernel_rfl) _ _ (by rfl) _ bd ?_
    | (go_at_call 24; refine HK.out.mono ?_; rintro e w' ⟨x, y, rfl, hR⟩; have HR : Hid (R x y w') := hR; clear hR HK))
  go_ret2
  exact ⟨_, _, rfl, HR.out⟩
theorem new_limits (w : World) (sl rm : Int) (cv : Value) (h : limB sl rm = false) :
    Calls Try.prog 5 #[.int .i64 sl, .int .i64 rm, cv] w fun e w' => e = .returned (.tuple #[.pointer none, .int .i64 80]) ∧ Below w.heap.size w w' :=
  (new_of (R := fun x y w' => x = .pointer none ∧ y = .int .i64 80 ∧ Below w.heap.size w w') ((load_limits w sl rm cv h).mono (by
    rintro e w' ⟨rfl, hb⟩
    exact ⟨_, _, rfl, rfl, rfl, hb⟩))).mono (by
    rintro e w' ⟨x, y, rfl, rfl, rfl, hb⟩
    exact ⟨rfl, hb⟩)
theorem new_choices {w : World} {sl rm : Int} {cv : Value} {C : List Cho} (h : limB sl rm = true) (hc : Chs w cv C) (hb : chsB C = false) :
    Calls Try.prog 5 #[.int .i64 sl, .int .i64 rm, cv] w fun e w' => e = .returned (.tuple #[.pointer none, .int .i64 2]) ∧ Below w.heap.size w w' :=
  (new_of (R := fun x y w' => x = .pointer none ∧ y = .int .i64 2 ∧ Below w.heap.size w w') ((load_choices h hc hb).mono (by
    rintro e w' ⟨rfl, hb⟩
    exact ⟨_, _, rfl, rfl, rfl, hb⟩))).mono (by
    rintro e w' ⟨x, y, rfl, rfl, rfl, hb⟩
    exact ⟨rfl, hb⟩)
end Go.Proofs.Ythjcndlapelnlaa
