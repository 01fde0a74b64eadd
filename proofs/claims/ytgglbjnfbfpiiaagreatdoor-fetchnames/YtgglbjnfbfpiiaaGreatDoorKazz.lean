import Derived.Test.YtgglbjnfbfpiiaaGreatDoorLwzz
/-
  FetchNames: the pieces.
-/
namespace Go.Proofs.YtgglbjnfbfpiiaaGreatDoor
open Go Go.Ev
def hk0 : FuncId → Option (List Value → St → Rv) := Dg.hooks
end Go.Proofs.YtgglbjnfbfpiiaaGreatDoor
