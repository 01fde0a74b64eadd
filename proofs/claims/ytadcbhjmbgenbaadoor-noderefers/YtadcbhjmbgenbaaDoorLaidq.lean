import Derived.Test.YtadcbhjmbgenbaaDoorGenq
import Derived.Test.YtadcbhjmbgenbaaDoorCards
import Derived.Test.YtadcbhjmbgenbaaDoorTie
import Derived.ProofKit
import Derived.OpenShut
import Derived.Deep.DeepHandedRow
import Derived.Lib.LaidTab
import Derived.Lib.LaidU8
/-
  What the rows list.
-/
namespace Go.Proofs.YtadcbhjmbgenbaaDoor
open Go.ChangeShapes Go.WideShapes Go.ChangeAt Go.RowKit

theorem own : ownKnob Tryd.prog.godebug = none := by kernel_rfl
theorem tab_of {W : World} {name : String} {k : IntKind} {zs : List Int} {g : Nat} {t e : TypeId} {n : Nat}
    (hg : Tryd.prog.globalNamed name = some g) (hty : (Tryd.prog.globals[g]?).map (·.type) = some t) (ht : Tryd.prog.underlying t = some (.array n e)) (he : Tryd.prog.underlying e = some (.int k)) (hce : Tryd.prog.cellsOf e = 1) (hct : Tryd.prog.cellsOf t = n)
    (h : Lib.VarReads Tryd.prog W name (Lib.tabData k zs)) : Lib.TabIs Tryd.prog W name k zs := by
  obtain ⟨g', t', cs, fuel, p, hg', ht', hvar, hd⟩ := h
  obtain rfl := Option.some.inj (hg.symm.trans hg')
  obtain rfl := Option.some.inj (hty.symm.trans ht')
  unfold Lib.TabIs
  rw [hvar, ← Lib.cells_of_tab ht he hce hct hd]
theorem gFirst : Tryd.prog.globalNamed "cairn/sha.first" = some 1 := by kernel_rfl
theorem gRoots : Tryd.prog.globalNamed "cairn/sha.roots" = some 2 := by kernel_rfl
theorem tFirst : (Tryd.prog.globals[1]?).map (·.type) = some 61 := by kernel_rfl
theorem tRoots : (Tryd.prog.globals[2]?).map (·.type) = some 74 := by kernel_rfl
theorem cells50 : Tryd.prog.cellsOf 50 = 1 := by kernel_rfl
theorem cells51 : Tryd.prog.cellsOf 61 = 8 := by kernel_rfl
theorem cells62 : Tryd.prog.cellsOf 74 = 64 := by kernel_rfl

def HL : List Int := [1779033703, 3144134277, 1013904242, 2773480762, 1359893119, 2600822924, 528734635, 1541459225]
def KI : List Int := [1116352408, 1899447441, 3049323471, 3921009573, 961987163, 1508970993, 2453635748, 2870763221, 3624381080, 310598401, 607225278, 1426881987, 1925078388, 2162078206, 2614888103, 3248222580, 3835390401, 4022224774, 264347078, 604807628, 770255983, 1249150122, 1555081692, 1996064986, 2554220882, 2821834349, 2952996808, 3210313671, 3336571891, 3584528711, 113926993, 338241895, 666307205, 773529912, 1294757372, 1396182291, 1695183700, 1986661051, 2177026350, 2456956037, 2730485921, 2820302411, 3259730800, 3345764771, 3516065817, 3600352804, 4094571909, 275423344, 430227734, 506948616, 659060556, 883997877, 958139571, 1322822218, 1537002063, 1747873779, 1955562222, 2024104815, 2227730452, 2361852424, 2428436474, 2756734187, 3204031479, 3329325298]
theorem KI_at : ∀ i, i < 64 → KI.getD i 0 = ((K i : Nat) : Int) := by decide
theorem HL_at : ∀ i, i < 8 → HL.getD i 0 = ((w8 H0 i : Nat) : Int) := by decide
/-- WHAT A ROW's LIST GIVES. -/
theorem ground {W : World} {l : List (String × DataW Unit)} (h : laidMet Tryd.prog l W) (m1 : ("cairn/sha.first", Rows.laid_cairn_sha_first) ∈ l) (m2 : ("cairn/sha.roots", Rows.laid_cairn_sha_roots) ∈ l) : Ground W := by
  have t1 : Lib.TabIs Tryd.prog W "cairn/sha.first" .u32 HL := tab_of gFirst tFirst Tryd.underlying61 Tryd.underlying50 cells50 cells51 (Lib.laidMet.reads h m1)
  have t2 : Lib.TabIs Tryd.prog W "cairn/sha.roots" .u32 KI := tab_of gRoots tRoots Tryd.underlying74 Tryd.underlying50 cells50 cells62 (Lib.laidMet.reads h m2)
  have r2 : Roots W := fun i hi => by
    have c := t2.cell gRoots i hi
    rw [c, KI_at i hi]
  refine ⟨fun i hi => ?_, r2, World.block_lt_of_cell? _ _ (r2 0 (by decide))⟩
  have c := t1.cell gFirst i hi
  rw [c, HL_at i hi]
end Go.Proofs.YtadcbhjmbgenbaaDoor
