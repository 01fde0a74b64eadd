/-
  DERIVED. GIVEN WITH THE SEED: THE CARDS: each row of YtgglbjnfbfpiiaaGreatDoorRows.lean that lists a variable, with what it lists TIED to the program's text (the seventh form; the later family's looks); each row that meets fmt, with fmt's text TOLD by the authors' own Lean function (tested against real Go, not proved from fmt's source: count such statements apart). THE CARD IS WHAT COUNTS. Prove the row's statement (the work); the ties are given (YtgglbjnfbfpiiaaGreatDoorTie.lean); close each card by the builder's one call (the guide's Derived/Test/ToyasCard.lean, 'card_holds'). Laid BY PROGRAM, IN A SANDBOX (cutbox-door.mjs). By AI agents, Wed Nov 11 2026. No macro, syntax, notation, axiom, sorry.
-/
import Derived.Test.YtgglbjnfbfpiiaaGreatDoorRows
import GoSem.ClaimSeven
namespace Go.Proofs.YtgglbjnfbfpiiaaGreatDoor
namespace Rows

/-- THE TIED CARD OF 'cairnlaw25.FetchNames'. -/
def fetchNamesCard : Claim7 := { stood := { row := fetchNamesRow, standIns := [], harness := (true, "f45eb83eccd66b8ebcd1f13c273787449a4464210dfd13a7016da3665e546f6e"), looks := true }, kinds := [], alts := [], laidByText := true, laidKinds := [.data, .data, .data], laidTests := true, laidLooks := .later }
def FetchNamesCardSaid : Prop := Claim7.holds Tryz.pinned (.plain (OpenSpec.ofChange fetchNamesSpec)) fetchNamesCard

/-- THE SECOND FORM's CARD OF 'cairnlaw25.FetchNames'. -/
def fetchNamesUptoCard : Claim7 := { stood := { row := fetchNamesUptoRow, standIns := [], harness := (true, "f45eb83eccd66b8ebcd1f13c273787449a4464210dfd13a7016da3665e546f6e"), looks := true }, kinds := [], alts := [], laidByText := true, laidKinds := [.data, .data, .data], laidTests := true, laidLooks := .later }
def FetchNamesUptoCardSaid : Prop := Claim7.holds Tryz.pinned (.plain (OpenSpec.upto fetchNamesSpec)) fetchNamesUptoCard
end Rows
end Go.Proofs.YtgglbjnfbfpiiaaGreatDoor
