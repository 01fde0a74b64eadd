import Derived.Test.YtijbaiabbnceeaaGreatDoorKazz
/-
  CursorNone: a piece, reckoned.
-/
namespace Go.Proofs.YtijbaiabbnceeaaGreatDoor
open Go Go.Ev
set_option maxRecDepth 1000000 in
theorem ok1 : ck1.ok Tryz.prog hk1 400 = true := by kernel_rfl
end Go.Proofs.YtijbaiabbnceeaaGreatDoor
