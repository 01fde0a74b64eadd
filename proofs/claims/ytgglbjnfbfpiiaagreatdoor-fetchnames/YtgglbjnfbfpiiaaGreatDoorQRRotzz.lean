import Derived.Test.YtgglbjnfbfpiiaaGreatDoorQRotzz
/-
  A word turned right, the reference's way.
-/
namespace Go.Proofs.YtgglbjnfbfpiiaaGreatDoor.Dg
open Go.RowKit
set_option maxHeartbeats 400000 in
theorem turned_any (w : World) (x : Nat) (n : Nat) (h2 : x < 4294967296) (hn : 1 ≤ n) (hm : n ≤ 31) :
    Calls Tryz.prog 104 #[.int .u32 x, .int .i64 (n : Int)] w fun e w' => e = .returned (.int .u32 (rot x n)) ∧ ∃ q, w' = w.drewN q := by
  go_enter Tryz.func104, Tryz.ntmps104
  go_wp2
  go_quiet (fail)
  go_wp2
  rw [turn_or x n h2]
  go_ret
  exact ⟨rfl, nq, rfl⟩
end Go.Proofs.YtgglbjnfbfpiiaaGreatDoor.Dg
