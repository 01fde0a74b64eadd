/-
  DERIVED. GIVEN WITH THE SEED: THE CARDS: each row of YtlhllbggnpcoaaaDoorRows.lean that lists a variable, with what it lists TIED to the program's text (the seventh form; the later family's looks); each row that meets fmt, with fmt's text TOLD by the authors' own Lean function (tested against real Go, not proved from fmt's source: count such statements apart). THE CARD IS WHAT COUNTS. Prove the row's statement (the work); the ties are given (YtlhllbggnpcoaaaDoorTie.lean); close each card by the builder's one call (the guide's Derived/Test/ToyasCard.lean, 'card_holds'). Laid BY PROGRAM, IN A SANDBOX (cutbox-door.mjs). By AI agents, Wed Nov 11 2026. No macro, syntax, notation, axiom, sorry.
-/
import Derived.Test.YtlhllbggnpcoaaaDoorRows
import GoSem.ClaimSeven
namespace Go.Proofs.YtlhllbggnpcoaaaDoor
namespace Rows

/-- THE TIED CARD OF 'cairnlaw04.DigestLess'. -/
def digestLessCard : Claim7 := { stood := { row := digestLessRow, standIns := [], harness := (true, "2fb777a8c2ac53655ec10f7041ecf066a4854ce7e1234d79d1f3f02f97c0f1fb"), looks := false }, kinds := [], alts := [], laidByText := true, laidKinds := [.data, .data], laidTests := true, laidLooks := .later }
def DigestLessCardSaid : Prop := Claim7.holds Tryd.pinned (.plain (OpenSpec.ofChange digestLessSpec)) digestLessCard

/-- THE TIED CARD OF 'cairnlaw04.DigestMeets'. -/
def digestMeetsCard : Claim7 := { stood := { row := digestMeetsRow, standIns := [], harness := (true, "2fb777a8c2ac53655ec10f7041ecf066a4854ce7e1234d79d1f3f02f97c0f1fb"), looks := false }, kinds := [], alts := [], laidByText := true, laidKinds := [.data, .data], laidTests := true, laidLooks := .later }
def DigestMeetsCardSaid : Prop := Claim7.holds Tryd.pinned (.plain (OpenSpec.ofChange digestMeetsSpec)) digestMeetsCard

/-- THE TIED CARD OF 'cairnlaw04.DigestForges'. -/
def digestForgesCard : Claim7 := { stood := { row := digestForgesRow, standIns := [], harness := (true, "2fb777a8c2ac53655ec10f7041ecf066a4854ce7e1234d79d1f3f02f97c0f1fb"), looks := false }, kinds := [], alts := [], laidByText := true, laidKinds := [.data, .data], laidTests := true, laidLooks := .later }
def DigestForgesCardSaid : Prop := Claim7.holds Tryd.pinned (.plain (OpenSpec.ofChange digestForgesSpec)) digestForgesCard

/-- THE SECOND FORM's CARD OF 'cairnlaw04.DigestLess'. -/
def digestLessUptoCard : Claim7 := { stood := { row := digestLessUptoRow, standIns := [], harness := (true, "2fb777a8c2ac53655ec10f7041ecf066a4854ce7e1234d79d1f3f02f97c0f1fb"), looks := false }, kinds := [], alts := [], laidByText := true, laidKinds := [.data, .data], laidTests := true, laidLooks := .later }
def DigestLessUptoCardSaid : Prop := Claim7.holds Tryd.pinned (.plain (OpenSpec.upto digestLessSpec)) digestLessUptoCard

/-- THE SECOND FORM's CARD OF 'cairnlaw04.DigestMeets'. -/
def digestMeetsUptoCard : Claim7 := { stood := { row := digestMeetsUptoRow, standIns := [], harness := (true, "2fb777a8c2ac53655ec10f7041ecf066a4854ce7e1234d79d1f3f02f97c0f1fb"), looks := false }, kinds := [], alts := [], laidByText := true, laidKinds := [.data, .data], laidTests := true, laidLooks := .later }
def DigestMeetsUptoCardSaid : Prop := Claim7.holds Tryd.pinned (.plain (OpenSpec.upto digestMeetsSpec)) digestMeetsUptoCard

/-- THE SECOND FORM's CARD OF 'cairnlaw04.DigestForges'. -/
def digestForgesUptoCard : Claim7 := { stood := { row := digestForgesUptoRow, standIns := [], harness := (true, "2fb777a8c2ac53655ec10f7041ecf066a4854ce7e1234d79d1f3f02f97c0f1fb"), looks := false }, kinds := [], alts := [], laidByText := true, laidKinds := [.data, .data], laidTests := true, laidLooks := .later }
def DigestForgesUptoCardSaid : Prop := Claim7.holds Tryd.pinned (.plain (OpenSpec.upto digestForgesSpec)) digestForgesUptoCard
end Rows
end Go.Proofs.YtlhllbggnpcoaaaDoor
