import Derived.Test.YtdigimobicfabaaGreatDoorKazz
/-
  SealNames: a piece, reckoned.
-/
namespace Go.Proofs.YtdigimobicfabaaGreatDoor
open Go Go.Ev
set_option maxRecDepth 1000000 in
theorem ok6 : ck6.ok Tryz.prog hk3 400 = true := by kernel_rfl
end Go.Proofs.YtdigimobicfabaaGreatDoor
/-
  SealNames: a piece, reckoned.
-/
namespace Go.Proofs.YtdigimobicfabaaGreatDoor
open Go Go.Ev
set_option maxRecDepth 1000000 in
theorem ok7 : ck7.ok Tryz.prog hk2 400 = true := by kernel_rfl
end Go.Proofs.YtdigimobicfabaaGreatDoor
