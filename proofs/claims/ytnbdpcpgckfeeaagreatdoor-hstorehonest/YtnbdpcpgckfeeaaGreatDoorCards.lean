/-
  DERIVED. GIVEN WITH THE SEED: THE CARDS: each row of YtnbdpcpgckfeeaaGreatDoorRows.lean that lists a variable, with what it lists TIED to the program's text (the seventh form; the later family's looks); each row that meets fmt, with fmt's text TOLD by the authors' own Lean function (tested against real Go, not proved from fmt's source: count such statements apart). THE CARD IS WHAT COUNTS. Prove the row's statement (the work); the ties are given (YtnbdpcpgckfeeaaGreatDoorTie.lean); close each card by the builder's one call (the guide's Derived/Test/ToyasCard.lean, 'card_holds'). Laid BY PROGRAM, IN A SANDBOX (cutbox-door.mjs). By AI agents, Wed Nov 11 2026. No macro, syntax, notation, axiom, sorry.
-/
import Derived.Test.YtnbdpcpgckfeeaaGreatDoorRows
import GoSem.ClaimSeven
namespace Go.Proofs.YtnbdpcpgckfeeaaGreatDoor
namespace Rows

/-- THE TIED CARD OF 'cairnlaw10.HstoreHonest'. -/
def hstoreHonestCard : Claim7 := { stood := { row := hstoreHonestRow, standIns := [], harness := (true, "639a0952db6ab863f0abfc2e6e95aec4615656a6595c8fe941cba1aee6bec5f6"), looks := false }, kinds := [], alts := [], laidByText := true, laidKinds := [.data, .data, .data], laidTests := true, laidLooks := .later }
def HstoreHonestCardSaid : Prop := Claim7.holds Tryz.pinned (.plain (OpenSpec.ofChange hstoreHonestSpec)) hstoreHonestCard

/-- THE SECOND FORM's CARD OF 'cairnlaw10.HstoreHonest'. -/
def hstoreHonestUptoCard : Claim7 := { stood := { row := hstoreHonestUptoRow, standIns := [], harness := (true, "639a0952db6ab863f0abfc2e6e95aec4615656a6595c8fe941cba1aee6bec5f6"), looks := false }, kinds := [], alts := [], laidByText := true, laidKinds := [.data, .data, .data], laidTests := true, laidLooks := .later }
def HstoreHonestUptoCardSaid : Prop := Claim7.holds Tryz.pinned (.plain (OpenSpec.upto hstoreHonestSpec)) hstoreHonestUptoCard
end Rows
end Go.Proofs.YtnbdpcpgckfeeaaGreatDoor
