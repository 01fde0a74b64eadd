import Derived.Test.YtdigimobicfabaaGreatDoorKazz
/-
  SealNames: a piece, reckoned.
-/
namespace Go.Proofs.YtdigimobicfabaaGreatDoor
open Go Go.Ev
set_option maxRecDepth 1000000 in
theorem ok8 : ck8.ok Tryz.prog hk3 400 = true := by kernel_rfl
end Go.Proofs.YtdigimobicfabaaGreatDoor
/-
  SealNames: a piece, reckoned.
-/
namespace Go.Proofs.YtdigimobicfabaaGreatDoor
open Go Go.Ev
set_option maxRecDepth 1000000 in
theorem ok9 : ck9.ok Tryz.prog hk3 400 = true := by kernel_rfl
end Go.Proofs.YtdigimobicfabaaGreatDoor
