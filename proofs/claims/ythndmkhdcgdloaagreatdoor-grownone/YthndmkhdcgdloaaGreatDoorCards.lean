/-
  DERIVED. GIVEN WITH THE SEED: THE CARDS: each row of YthndmkhdcgdloaaGreatDoorRows.lean that lists a variable, with what it lists TIED to the program's text (the seventh form; the later family's looks); each row that meets fmt, with fmt's text TOLD by the authors' own Lean function (tested against real Go, not proved from fmt's source: count such statements apart). THE CARD IS WHAT COUNTS. Prove the row's statement (the work); the ties are given (YthndmkhdcgdloaaGreatDoorTie.lean); close each card by the builder's one call (the guide's Derived/Test/ToyasCard.lean, 'card_holds'). Laid BY PROGRAM, IN A SANDBOX (cutbox-door.mjs). By AI agents, Wed Nov 11 2026. No macro, syntax, notation, axiom, sorry.
-/
import Derived.Test.YthndmkhdcgdloaaGreatDoorRows
import GoSem.ClaimSeven
namespace Go.Proofs.YthndmkhdcgdloaaGreatDoor
namespace Rows

/-- THE TIED CARD OF 'cairnlaw12.GrowNone'. -/
def growNoneCard : Claim7 := { stood := { row := growNoneRow, standIns := [], harness := (true, "0bc4db1a5196b7cc6e8884aa545f98b2c95f401f85f804576775989a70492f07"), looks := true }, kinds := [], alts := [], laidByText := true, laidKinds := [.data, .data], laidTests := true, laidLooks := .later }
def GrowNoneCardSaid : Prop := Claim7.holds Tryz.pinned (.plain (OpenSpec.ofChange growNoneSpec)) growNoneCard

/-- THE TIED CARD OF 'cairnlaw12.GrowBack'. -/
def growBackCard : Claim7 := { stood := { row := growBackRow, standIns := [], harness := (true, "0bc4db1a5196b7cc6e8884aa545f98b2c95f401f85f804576775989a70492f07"), looks := true }, kinds := [], alts := [], laidByText := true, laidKinds := [.data, .data, .data], laidTests := true, laidLooks := .later }
def GrowBackCardSaid : Prop := Claim7.holds Tryz.pinned (.plain (OpenSpec.ofChange growBackSpec)) growBackCard

/-- THE TIED CARD OF 'cairnlaw12.GrowOrder'. -/
def growOrderCard : Claim7 := { stood := { row := growOrderRow, standIns := [], harness := (true, "0bc4db1a5196b7cc6e8884aa545f98b2c95f401f85f804576775989a70492f07"), looks := true }, kinds := [], alts := [], laidByText := true, laidKinds := [.data, .data, .data], laidTests := true, laidLooks := .later }
def GrowOrderCardSaid : Prop := Claim7.holds Tryz.pinned (.plain (OpenSpec.ofChange growOrderSpec)) growOrderCard

/-- THE TIED CARD OF 'cairnlaw12.GrowGets'. -/
def growGetsCard : Claim7 := { stood := { row := growGetsRow, standIns := [], harness := (true, "0bc4db1a5196b7cc6e8884aa545f98b2c95f401f85f804576775989a70492f07"), looks := true }, kinds := [], alts := [], laidByText := true, laidKinds := [.data, .data, .data], laidTests := true, laidLooks := .later }
def GrowGetsCardSaid : Prop := Claim7.holds Tryz.pinned (.plain (OpenSpec.ofChange growGetsSpec)) growGetsCard

/-- THE TIED CARD OF 'cairnlaw12.GrowReach'. -/
def growReachCard : Claim7 := { stood := { row := growReachRow, standIns := [], harness := (true, "0bc4db1a5196b7cc6e8884aa545f98b2c95f401f85f804576775989a70492f07"), looks := true }, kinds := [], alts := [], laidByText := true, laidKinds := [.data, .data, .data], laidTests := true, laidLooks := .later }
def GrowReachCardSaid : Prop := Claim7.holds Tryz.pinned (.plain (OpenSpec.ofChange growReachSpec)) growReachCard

/-- THE TIED CARD OF 'cairnlaw12.GrowExact'. -/
def growExactCard : Claim7 := { stood := { row := growExactRow, standIns := [], harness := (true, "0bc4db1a5196b7cc6e8884aa545f98b2c95f401f85f804576775989a70492f07"), looks := true }, kinds := [], alts := [], laidByText := true, laidKinds := [.data, .data, .data], laidTests := true, laidLooks := .later }
def GrowExactCardSaid : Prop := Claim7.holds Tryz.pinned (.plain (OpenSpec.ofChange growExactSpec)) growExactCard

/-- THE SECOND FORM's CARD OF 'cairnlaw12.GrowNone'. -/
def growNoneUptoCard : Claim7 := { stood := { row := growNoneUptoRow, standIns := [], harness := (true, "0bc4db1a5196b7cc6e8884aa545f98b2c95f401f85f804576775989a70492f07"), looks := true }, kinds := [], alts := [], laidByText := true, laidKinds := [.data, .data], laidTests := true, laidLooks := .later }
def GrowNoneUptoCardSaid : Prop := Claim7.holds Tryz.pinned (.plain (OpenSpec.upto growNoneSpec)) growNoneUptoCard

/-- THE SECOND FORM's CARD OF 'cairnlaw12.GrowBack'. -/
def growBackUptoCard : Claim7 := { stood := { row := growBackUptoRow, standIns := [], harness := (true, "0bc4db1a5196b7cc6e8884aa545f98b2c95f401f85f804576775989a70492f07"), looks := true }, kinds := [], alts := [], laidByText := true, laidKinds := [.data, .data, .data], laidTests := true, laidLooks := .later }
def GrowBackUptoCardSaid : Prop := Claim7.holds Tryz.pinned (.plain (OpenSpec.upto growBackSpec)) growBackUptoCard

/-- THE SECOND FORM's CARD OF 'cairnlaw12.GrowOrder'. -/
def growOrderUptoCard : Claim7 := { stood := { row := growOrderUptoRow, standIns := [], harness := (true, "0bc4db1a5196b7cc6e8884aa545f98b2c95f401f85f804576775989a70492f07"), looks := true }, kinds := [], alts := [], laidByText := true, laidKinds := [.data, .data, .data], laidTests := true, laidLooks := .later }
def GrowOrderUptoCardSaid : Prop := Claim7.holds Tryz.pinned (.plain (OpenSpec.upto growOrderSpec)) growOrderUptoCard

/-- THE SECOND FORM's CARD OF 'cairnlaw12.GrowGets'. -/
def growGetsUptoCard : Claim7 := { stood := { row := growGetsUptoRow, standIns := [], harness := (true, "0bc4db1a5196b7cc6e8884aa545f98b2c95f401f85f804576775989a70492f07"), looks := true }, kinds := [], alts := [], laidByText := true, laidKinds := [.data, .data, .data], laidTests := true, laidLooks := .later }
def GrowGetsUptoCardSaid : Prop := Claim7.holds Tryz.pinned (.plain (OpenSpec.upto growGetsSpec)) growGetsUptoCard

/-- THE SECOND FORM's CARD OF 'cairnlaw12.GrowReach'. -/
def growReachUptoCard : Claim7 := { stood := { row := growReachUptoRow, standIns := [], harness := (true, "0bc4db1a5196b7cc6e8884aa545f98b2c95f401f85f804576775989a70492f07"), looks := true }, kinds := [], alts := [], laidByText := true, laidKinds := [.data, .data, .data], laidTests := true, laidLooks := .later }
def GrowReachUptoCardSaid : Prop := Claim7.holds Tryz.pinned (.plain (OpenSpec.upto growReachSpec)) growReachUptoCard

/-- THE SECOND FORM's CARD OF 'cairnlaw12.GrowExact'. -/
def growExactUptoCard : Claim7 := { stood := { row := growExactUptoRow, standIns := [], harness := (true, "0bc4db1a5196b7cc6e8884aa545f98b2c95f401f85f804576775989a70492f07"), looks := true }, kinds := [], alts := [], laidByText := true, laidKinds := [.data, .data, .data], laidTests := true, laidLooks := .later }
def GrowExactUptoCardSaid : Prop := Claim7.holds Tryz.pinned (.plain (OpenSpec.upto growExactSpec)) growExactUptoCard
end Rows
end Go.Proofs.YthndmkhdcgdloaaGreatDoor
