/-
  DERIVED. GIVEN WITH THE SEED: THE PROGRAM's TIES (one call each: nine closed facts by the kernel) AND EACH ROW's TIE, after the 31st guide's Derived/Test/Toyas{Tie, Card}.lean. No idea stands in it: it is a product of the set-up. Laid BY PROGRAM, IN A SANDBOX (cutbox-door.mjs). By AI agents, Wed Nov 11 2026. No macro, syntax, notation, axiom, sorry.
-/
import Derived.Test.YtdigimobicfabaaGreatDoorRows
import Derived.LaidByTextLater
import Derived.SevenTiedAt
import Derived.LaidSub
import Derived.LaidOnce
namespace Go.Proofs.YtdigimobicfabaaGreatDoor
open Go
set_option maxRecDepth 100000
theorem seatTie1 : Tryz.prog.laidByTextLater [("cairn/cairnref02.rounds", Rows.laid_cairn_cairnref02_rounds), ("cairn/sha.first", Rows.laid_cairn_sha_first), ("cairn/sha.roots", Rows.laid_cairn_sha_roots), ("errors.errorType", Rows.laid_errors_errorType), ("cairn/journal.kinds", Rows.laid_cairn_journal_kinds)] [.data, .data, .data, .handle, .data] true :=
  Program.laidByTextLater_by_one 38 8 65 (by kernel_rfl) (by kernel_rfl) (by kernel_rfl) (by kernel_rfl) (by kernel_rfl) (by kernel_rfl) (fun _ _ => by kernel_rfl)
theorem noOwnUnsafe : Tryz.pinned.checked.prog.headLifts.contains "ownunsafe" = false := by kernel_rfl
theorem tie : Tryz.prog.laidByTextLater [("cairn/sha.first", Rows.laid_cairn_sha_first), ("cairn/sha.roots", Rows.laid_cairn_sha_roots), ("errors.errorType", Rows.laid_errors_errorType), ("cairn/journal.kinds", Rows.laid_cairn_journal_kinds)] [.data, .data, .handle, .data] true :=
  Program.laidByTextLater.sub seatTie1 ["cairn/sha.first", "cairn/sha.roots", "errors.errorType", "cairn/journal.kinds"] (by kernel_rfl) (by kernel_rfl)
theorem sealNames_row_tie : Rows.sealNamesRow.laidByTextAt .later Tryz.pinned [.data, .data, .handle, .data] true :=
  OpenClaim.laidByTextAt_later rfl rfl tie noOwnUnsafe
theorem tie2 : Tryz.prog.laidByTextLater [("cairn/cairnref02.rounds", Rows.laid_cairn_cairnref02_rounds), ("cairn/sha.first", Rows.laid_cairn_sha_first), ("cairn/sha.roots", Rows.laid_cairn_sha_roots), ("errors.errorType", Rows.laid_errors_errorType), ("cairn/journal.kinds", Rows.laid_cairn_journal_kinds)] [.data, .data, .data, .handle, .data] true :=
  Program.laidByTextLater.sub seatTie1 ["cairn/cairnref02.rounds", "cairn/sha.first", "cairn/sha.roots", "errors.errorType", "cairn/journal.kinds"] (by kernel_rfl) (by kernel_rfl)
theorem sealRoom_row_tie : Rows.sealRoomRow.laidByTextAt .later Tryz.pinned [.data, .data, .data, .handle, .data] true :=
  OpenClaim.laidByTextAt_later rfl rfl tie2 noOwnUnsafe
theorem sealOne_row_tie : Rows.sealOneRow.laidByTextAt .later Tryz.pinned [.data, .data, .data, .handle, .data] true :=
  OpenClaim.laidByTextAt_later rfl rfl tie2 noOwnUnsafe
theorem sealFalls_row_tie : Rows.sealFallsRow.laidByTextAt .later Tryz.pinned [.data, .data, .data, .handle, .data] true :=
  OpenClaim.laidByTextAt_later rfl rfl tie2 noOwnUnsafe
theorem sealPlays_row_tie : Rows.sealPlaysRow.laidByTextAt .later Tryz.pinned [.data, .data, .data, .handle, .data] true :=
  OpenClaim.laidByTextAt_later rfl rfl tie2 noOwnUnsafe
theorem sealNamesUpto_row_tie : Rows.sealNamesUptoRow.laidByTextAt .later Tryz.pinned [.data, .data, .handle, .data] true :=
  OpenClaim.laidByTextAt_later rfl rfl tie noOwnUnsafe
theorem sealRoomUpto_row_tie : Rows.sealRoomUptoRow.laidByTextAt .later Tryz.pinned [.data, .data, .data, .handle, .data] true :=
  OpenClaim.laidByTextAt_later rfl rfl tie2 noOwnUnsafe
theorem sealOneUpto_row_tie : Rows.sealOneUptoRow.laidByTextAt .later Tryz.pinned [.data, .data, .data, .handle, .data] true :=
  OpenClaim.laidByTextAt_later rfl rfl tie2 noOwnUnsafe
theorem sealFallsUpto_row_tie : Rows.sealFallsUptoRow.laidByTextAt .later Tryz.pinned [.data, .data, .data, .handle, .data] true :=
  OpenClaim.laidByTextAt_later rfl rfl tie2 noOwnUnsafe
theorem sealPlaysUpto_row_tie : Rows.sealPlaysUptoRow.laidByTextAt .later Tryz.pinned [.data, .data, .data, .handle, .data] true :=
  OpenClaim.laidByTextAt_later rfl rfl tie2 noOwnUnsafe
end Go.Proofs.YtdigimobicfabaaGreatDoor
