import Derived.Test.YtlhllbggnpcoaaaDoorChecked
import Derived.Conc.MuLone
import Derived.KernelRfl
/-
  The numbers under which this cut holds sync.Mutex, and that it holds it.
-/
namespace Go.Proofs.YtlhllbggnpcoaaaDoor
abbrev mu : Go.Conc.Locks.MuLink := { lock := 21, unlock := 22, ilock := 36, iunlock := 37, lockSlow := 53, unlockSlow := 56, disable := 49, enable := 51, acquire := 52, relMerge := 54, cas32 := 50, add32 := 55, tMutex := 62, tIMutex := 60, tPMutex := 72, tPIMutex := 87, tPI32 := 89, tUP := 91, tNoCopy := 57, tU32 := 58 }
theorem muLib : Go.Conc.Locks.MuLib Tryd.prog mu :=
  ⟨Tryd.func21, Tryd.func22, Tryd.func36, Tryd.func37, Tryd.func49, Tryd.func51, Tryd.func52, Tryd.func54, Tryd.func50, Tryd.func55, Tryd.underlying60, Tryd.runUnderlying60, Tryd.sizeOf60, Tryd.isAgg60, Tryd.zeroValue60, Tryd.underlying62, Tryd.runUnderlying62, Tryd.sizeOf62, Tryd.isAgg62, Tryd.zeroValue62, Tryd.underlying72, Tryd.runUnderlying72, Tryd.sizeOf72, Tryd.isAgg72, Tryd.zeroValue72, Tryd.underlying87, Tryd.runUnderlying87, Tryd.sizeOf87, Tryd.isAgg87, Tryd.zeroValue87, Tryd.underlying89, Tryd.runUnderlying89, Tryd.sizeOf89, Tryd.isAgg89, Tryd.zeroValue89, Tryd.underlying91, Tryd.runUnderlying91, Tryd.sizeOf91, Tryd.isAgg91, Tryd.zeroValue91, Tryd.underlying57, Tryd.runUnderlying57, Tryd.sizeOf57, Tryd.isAgg57, Tryd.zeroValue57, Tryd.underlying21, Tryd.runUnderlying21, Tryd.sizeOf21, Tryd.isAgg21, Tryd.zeroValue21, (by kernel_rfl)⟩
end Go.Proofs.YtlhllbggnpcoaaaDoor
