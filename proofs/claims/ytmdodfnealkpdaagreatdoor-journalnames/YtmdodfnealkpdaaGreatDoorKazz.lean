import Derived.Test.YtmdodfnealkpdaaGreatDoorLwzz
/-
  JournalNames: the pieces.
-/
namespace Go.Proofs.YtmdodfnealkpdaaGreatDoor
open Go Go.Ev
def hk0 : FuncId → Option (List Value → St → Rv) := Dg.hooks
end Go.Proofs.YtmdodfnealkpdaaGreatDoor
