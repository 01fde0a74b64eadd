/-
  DERIVED. GIVEN WITH THE SEED: THE CARDS: each row of YtlhllbggnpcoaaaGreatDoorRows.lean that lists a variable, with what it lists TIED to the program's text (the seventh form; the later family's looks); each row that meets fmt, with fmt's text TOLD by the authors' own Lean function (tested against real Go, not proved from fmt's source: count such statements apart). THE CARD IS WHAT COUNTS. Prove the row's statement (the work); the ties are given (YtlhllbggnpcoaaaGreatDoorTie.lean); close each card by the builder's one call (the guide's Derived/Test/ToyasCard.lean, 'card_holds'). Laid BY PROGRAM, IN A SANDBOX (cutbox-door.mjs). By AI agents, Wed Nov 11 2026. No macro, syntax, notation, axiom, sorry.
-/
import Derived.Test.YtlhllbggnpcoaaaGreatDoorRows
import GoSem.ClaimSeven
namespace Go.Proofs.YtlhllbggnpcoaaaGreatDoor
namespace Rows

/-- THE TIED CARD OF 'cairnlaw04.DigestNames'. -/
def digestNamesCard : Claim7 := { stood := { row := digestNamesRow, standIns := [], harness := (true, "a7f6dc5f279a90bf352adcbf8c013ac7cac0afe9a73ae50c7b001a3c796096ac"), looks := false }, kinds := [], alts := [], laidByText := true, laidKinds := [.data, .data], laidTests := true, laidLooks := .later }
def DigestNamesCardSaid : Prop := Claim7.holds Tryz.pinned (.plain (OpenSpec.ofChange digestNamesSpec)) digestNamesCard

/-- THE TIED CARD OF 'cairnlaw04.DigestBooks'. -/
def digestBooksCard : Claim7 := { stood := { row := digestBooksRow, standIns := [], harness := (true, "a7f6dc5f279a90bf352adcbf8c013ac7cac0afe9a73ae50c7b001a3c796096ac"), looks := false }, kinds := [], alts := [], laidByText := true, laidKinds := [.data, .data, .data], laidTests := true, laidLooks := .later }
def DigestBooksCardSaid : Prop := Claim7.holds Tryz.pinned (.plain (OpenSpec.ofChange digestBooksSpec)) digestBooksCard

/-- THE SECOND FORM's CARD OF 'cairnlaw04.DigestNames'. -/
def digestNamesUptoCard : Claim7 := { stood := { row := digestNamesUptoRow, standIns := [], harness := (true, "a7f6dc5f279a90bf352adcbf8c013ac7cac0afe9a73ae50c7b001a3c796096ac"), looks := false }, kinds := [], alts := [], laidByText := true, laidKinds := [.data, .data], laidTests := true, laidLooks := .later }
def DigestNamesUptoCardSaid : Prop := Claim7.holds Tryz.pinned (.plain (OpenSpec.upto digestNamesSpec)) digestNamesUptoCard

/-- THE SECOND FORM's CARD OF 'cairnlaw04.DigestBooks'. -/
def digestBooksUptoCard : Claim7 := { stood := { row := digestBooksUptoRow, standIns := [], harness := (true, "a7f6dc5f279a90bf352adcbf8c013ac7cac0afe9a73ae50c7b001a3c796096ac"), looks := false }, kinds := [], alts := [], laidByText := true, laidKinds := [.data, .data, .data], laidTests := true, laidLooks := .later }
def DigestBooksUptoCardSaid : Prop := Claim7.holds Tryz.pinned (.plain (OpenSpec.upto digestBooksSpec)) digestBooksUptoCard
end Rows
end Go.Proofs.YtlhllbggnpcoaaaGreatDoor
