/-
  The table that the rows list.
-/
import Derived.Test.YtglnjacaeefddaaDoorFixed
import Derived.Test.YtglnjacaeefddaaDoorCards
import Derived.Test.YtglnjacaeefddaaDoorTie
import Derived.ProofKit
import Derived.OpenShut
import Derived.Deep.DeepHandedRow
import Derived.Lib.LaidTab
namespace Go.Proofs.YtglnjacaeefddaaDoor
open Go.ChangeShapes Go.WideShapes Go.ChangeAt Go.RowKit

theorem own : ownKnob Tryd.prog.godebug = none := by kernel_rfl
theorem gTab : Tryd.prog.globalNamed "cairn/octet.digits" = some 0 := by kernel_rfl
theorem gTabType : (Tryd.prog.globals[0]?).map (·.type) = some 48 := by kernel_rfl
theorem cells48 : Tryd.prog.cellsOf 48 = 16 := by kernel_rfl
theorem cells5 : Tryd.prog.cellsOf 5 = 1 := by kernel_rfl

theorem tab_dig : ∀ i, i < 16 → dig i = ([48, 49, 50, 51, 52, 53, 54, 55, 56, 57, 97, 98, 99, 100, 101, 102] : List Int).getD i 0 := by
  simp only [small_cases]
  refine ⟨?_, ?_, ?_, ?_, ?_, ?_, ?_, ?_, ?_, ?_, ?_, ?_, ?_, ?_, ?_, ?_, small_none⟩
  all_goals (unfold dig; simp)
/-- WHAT THE ROW's LIST GIVES: the table's cells hold the sixteen digits. -/
theorem table {W : World} (h : laidMetH Tryd.prog [("cairn/octet.digits", Rows.laid_cairn_octet_digits)] W) : Tab W := by
  have t : Lib.TabIs Tryd.prog W "cairn/octet.digits" .u8 [48, 49, 50, 51, 52, 53, 54, 55, 56, 57, 97, 98, 99, 100, 101, 102] :=
    Lib.tabIs_of_head (rest := []) gTab gTabType Tryd.underlying48 Tryd.underlying5 cells5 cells48 h
  intro i hi
  have c := t.cell gTab i (by simpa using hi)
  rw [c, ← tab_dig i hi]

/-- A WORLD FOR THE WITNESS: the settled one, the table (block 0) holding what its initialiser lays. -/
def LaidIs (os : Os) (V : World) : Prop := V = { World.holding Tryd.prog os ⟨#[], #[], []⟩ with heap := (World.holding Tryd.prog os ⟨#[], #[], []⟩).heap.modify 0 fun
      | .cells _ t frozen => .cells #[.int .u8 48, .int .u8 49, .int .u8 50, .int .u8 51, .int .u8 52, .int .u8 53, .int .u8 54, .int .u8 55, .int .u8 56, .int .u8 57, .int .u8 97, .int .u8 98, .int .u8 99, .int .u8 100, .int .u8 101, .int .u8 102] t frozen
      | o => o }
end Go.Proofs.YtglnjacaeefddaaDoor
