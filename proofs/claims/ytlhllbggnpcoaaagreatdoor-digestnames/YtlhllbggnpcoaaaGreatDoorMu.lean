import Derived.Test.YtlhllbggnpcoaaaGreatDoorChecked
import Derived.Conc.MuLone
import Derived.KernelRfl
/-
  The numbers under which this cut holds sync.Mutex, and that it holds it.
-/
namespace Go.Proofs.YtlhllbggnpcoaaaGreatDoor
abbrev mu : Go.Conc.Locks.MuLink := { lock := 24, unlock := 25, ilock := 50, iunlock := 51, lockSlow := 73, unlockSlow := 76, disable := 69, enable := 71, acquire := 72, relMerge := 74, cas32 := 70, add32 := 75, tMutex := 63, tIMutex := 61, tPMutex := 84, tPIMutex := 107, tPI32 := 109, tUP := 111, tNoCopy := 58, tU32 := 59 }
theorem muLib : Go.Conc.Locks.MuLib Tryz.prog mu :=
  ⟨Tryz.func24, Tryz.func25, Tryz.func50, Tryz.func51, Tryz.func69, Tryz.func71, Tryz.func72, Tryz.func74, Tryz.func70, Tryz.func75, Tryz.underlying61, Tryz.runUnderlying61, Tryz.sizeOf61, Tryz.isAgg61, Tryz.zeroValue61, Tryz.underlying63, Tryz.runUnderlying63, Tryz.sizeOf63, Tryz.isAgg63, Tryz.zeroValue63, Tryz.underlying84, Tryz.runUnderlying84, Tryz.sizeOf84, Tryz.isAgg84, Tryz.zeroValue84, Tryz.underlying107, Tryz.runUnderlying107, Tryz.sizeOf107, Tryz.isAgg107, Tryz.zeroValue107, Tryz.underlying109, Tryz.runUnderlying109, Tryz.sizeOf109, Tryz.isAgg109, Tryz.zeroValue109, Tryz.underlying111, Tryz.runUnderlying111, Tryz.sizeOf111, Tryz.isAgg111, Tryz.zeroValue111, Tryz.underlying58, Tryz.runUnderlying58, Tryz.sizeOf58, Tryz.isAgg58, Tryz.zeroValue58, Tryz.underlying21, Tryz.runUnderlying21, Tryz.sizeOf21, Tryz.isAgg21, Tryz.zeroValue21, (by kernel_rfl)⟩
end Go.Proofs.YtlhllbggnpcoaaaGreatDoor
