import Derived.Test.YtdigimobicfabaaGreatDoorKazz
/-
  SealNames: a piece, reckoned.
-/
namespace Go.Proofs.YtdigimobicfabaaGreatDoor
open Go Go.Ev
set_option maxRecDepth 1000000 in
theorem ok10 : ck10.ok Tryz.prog hk2 400 = true := by kernel_rfl
end Go.Proofs.YtdigimobicfabaaGreatDoor
/-
  SealNames: a piece, reckoned.
-/
namespace Go.Proofs.YtdigimobicfabaaGreatDoor
open Go Go.Ev
set_option maxRecDepth 1000000 in
theorem ok11 : ck11.ok Tryz.prog hk1 400 = true := by kernel_rfl
end Go.Proofs.YtdigimobicfabaaGreatDoor
