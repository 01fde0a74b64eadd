/-
  DERIVED. GIVEN WITH THE SEED: THE CARDS: each row of YtnopemnglcfmpaaGreatDoorRows.lean that lists a variable, with what it lists TIED to the program's text (the seventh form; the later family's looks); each row that meets fmt, with fmt's text TOLD by the authors' own Lean function (tested against real Go, not proved from fmt's source: count such statements apart). THE CARD IS WHAT COUNTS. Prove the row's statement (the work); the ties are given (YtnopemnglcfmpaaGreatDoorTie.lean); close each card by the builder's one call (the guide's Derived/Test/ToyasCard.lean, 'card_holds'). Laid BY PROGRAM, IN A SANDBOX (cutbox-door.mjs). By AI agents, Wed Nov 11 2026. No macro, syntax, notation, axiom, sorry.
-/
import Derived.Test.YtnopemnglcfmpaaGreatDoorRows
import GoSem.ClaimSeven
namespace Go.Proofs.YtnopemnglcfmpaaGreatDoor
namespace Rows

/-- THE TIED CARD OF 'cairnlaw14.ShapeNames'. -/
def shapeNamesCard : Claim7 := { stood := { row := shapeNamesRow, standIns := [], harness := (true, "fc31581258ded5ff79a243586c0d68cea129ba2e2a0f3ca225397976c7e97d16"), looks := true }, kinds := [], alts := [], laidByText := true, laidKinds := [.data, .data], laidTests := true, laidLooks := .later }
def ShapeNamesCardSaid : Prop := Claim7.holds Tryz.pinned (.plain (OpenSpec.ofChange shapeNamesSpec)) shapeNamesCard

/-- THE SECOND FORM's CARD OF 'cairnlaw14.ShapeNames'. -/
def shapeNamesUptoCard : Claim7 := { stood := { row := shapeNamesUptoRow, standIns := [], harness := (true, "fc31581258ded5ff79a243586c0d68cea129ba2e2a0f3ca225397976c7e97d16"), looks := true }, kinds := [], alts := [], laidByText := true, laidKinds := [.data, .data], laidTests := true, laidLooks := .later }
def ShapeNamesUptoCardSaid : Prop := Claim7.holds Tryz.pinned (.plain (OpenSpec.upto shapeNamesSpec)) shapeNamesUptoCard
end Rows
end Go.Proofs.YtnopemnglcfmpaaGreatDoor
