import Derived.Test.YtlcmcbppekdbdaaGreatDoorKazz
/-
  ScrubNames: a piece, reckoned.
-/
namespace Go.Proofs.YtlcmcbppekdbdaaGreatDoor
open Go Go.Ev
set_option maxRecDepth 1000000 in
theorem ok0 : ck0.ok Tryz.prog hk1 400 = true := by kernel_rfl
end Go.Proofs.YtlcmcbppekdbdaaGreatDoor
