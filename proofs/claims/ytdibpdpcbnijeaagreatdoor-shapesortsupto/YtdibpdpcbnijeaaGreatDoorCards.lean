/-
  DERIVED. GIVEN WITH THE SEED: THE CARDS: each row of YtdibpdpcbnijeaaGreatDoorRows.lean that lists a variable, with what it lists TIED to the program's text (the seventh form; the later family's looks); each row that meets fmt, with fmt's text TOLD by the authors' own Lean function (tested against real Go, not proved from fmt's source: count such statements apart). THE CARD IS WHAT COUNTS. Prove the row's statement (the work); the ties are given (YtdibpdpcbnijeaaGreatDoorTie.lean); close each card by the builder's one call (the guide's Derived/Test/ToyasCard.lean, 'card_holds'). Laid BY PROGRAM, IN A SANDBOX (cutbox-door.mjs). By AI agents, Wed Nov 11 2026. No macro, syntax, notation, axiom, sorry.
-/
import Derived.Test.YtdibpdpcbnijeaaGreatDoorRows
import GoSem.ClaimSeven
namespace Go.Proofs.YtdibpdpcbnijeaaGreatDoor
namespace Rows

/-- THE TIED CARD OF 'cairnlaw14.ShapeSorts'. -/
def shapeSortsCard : Claim7 := { stood := { row := shapeSortsRow, standIns := [], harness := (true, "2e1c0d81fee54767d4c02ddcb42a480fd05f898aa57f2fab295229c177f13e72"), looks := true }, kinds := [], alts := [], laidByText := true, laidKinds := [.data, .data], laidTests := true, laidLooks := .later }
def ShapeSortsCardSaid : Prop := Claim7.holds Tryz.pinned (.plain (OpenSpec.ofChange shapeSortsSpec)) shapeSortsCard

/-- THE SECOND FORM's CARD OF 'cairnlaw14.ShapeSorts'. -/
def shapeSortsUptoCard : Claim7 := { stood := { row := shapeSortsUptoRow, standIns := [], harness := (true, "2e1c0d81fee54767d4c02ddcb42a480fd05f898aa57f2fab295229c177f13e72"), looks := true }, kinds := [], alts := [], laidByText := true, laidKinds := [.data, .data], laidTests := true, laidLooks := .later }
def ShapeSortsUptoCardSaid : Prop := Claim7.holds Tryz.pinned (.plain (OpenSpec.upto shapeSortsSpec)) shapeSortsUptoCard
end Rows
end Go.Proofs.YtdibpdpcbnijeaaGreatDoor
