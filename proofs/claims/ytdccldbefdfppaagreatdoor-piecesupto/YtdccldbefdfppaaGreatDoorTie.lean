/-
  DERIVED. GIVEN WITH THE SEED: THE PROGRAM's TIES (one call each: nine closed facts by the kernel) AND EACH ROW's TIE, after the 31st guide's Derived/Test/Toyas{Tie, Card}.lean. No idea stands in it: it is a product of the set-up. Laid BY PROGRAM, IN A SANDBOX (cutbox-door.mjs). By AI agents, Wed Nov 11 2026. No macro, syntax, notation, axiom, sorry.
-/
import Derived.Test.YtdccldbefdfppaaGreatDoorRows
import Derived.LaidByTextLater
import Derived.SevenTiedAt
import Derived.LaidSub
import Derived.LaidOnce
namespace Go.Proofs.YtdccldbefdfppaaGreatDoor
open Go
set_option maxRecDepth 100000
theorem seatTie1 : Tryz.prog.laidByTextLater [("sluice/blocks.byNumber", Rows.laid_sluice_blocks_byNumber), ("sluice/blocks.toAdd", Rows.laid_sluice_blocks_toAdd), ("sluice/blocks.toLimit", Rows.laid_sluice_blocks_toLimit), ("sluice/blocks.notToAdd", Rows.laid_sluice_blocks_notToAdd), ("sluice/blocks.plain", Rows.laid_sluice_blocks_plain), ("sluice/blocks.packed", Rows.laid_sluice_blocks_packed), ("sluice/blocks.fixed", Rows.laid_sluice_blocks_fixed)] [.wider, .wider, .data, .wider, .data, .wider, .data] true :=
  Program.laidByTextLater_by_one 52 8 17 (by kernel_rfl) (by kernel_rfl) (by kernel_rfl) (by kernel_rfl) (by kernel_rfl) (by kernel_rfl) (fun _ _ => by kernel_rfl)
theorem noOwnUnsafe : Tryz.pinned.checked.prog.headLifts.contains "ownunsafe" = false := by kernel_rfl
theorem tie : Tryz.prog.laidByTextLater [("sluice/blocks.byNumber", Rows.laid_sluice_blocks_byNumber), ("sluice/blocks.toAdd", Rows.laid_sluice_blocks_toAdd), ("sluice/blocks.toLimit", Rows.laid_sluice_blocks_toLimit), ("sluice/blocks.notToAdd", Rows.laid_sluice_blocks_notToAdd), ("sluice/blocks.plain", Rows.laid_sluice_blocks_plain), ("sluice/blocks.packed", Rows.laid_sluice_blocks_packed), ("sluice/blocks.fixed", Rows.laid_sluice_blocks_fixed)] [.wider, .wider, .data, .wider, .data, .wider, .data] true :=
  Program.laidByTextLater.sub seatTie1 ["sluice/blocks.byNumber", "sluice/blocks.toAdd", "sluice/blocks.toLimit", "sluice/blocks.notToAdd", "sluice/blocks.plain", "sluice/blocks.packed", "sluice/blocks.fixed"] (by kernel_rfl) (by kernel_rfl)
theorem ledger_row_tie : Rows.ledgerRow.laidByTextAt .later Tryz.pinned [.wider, .wider, .data, .wider, .data, .wider, .data] true :=
  OpenClaim.laidByTextAt_later rfl rfl tie noOwnUnsafe
theorem pieces_row_tie : Rows.piecesRow.laidByTextAt .later Tryz.pinned [.wider, .wider, .data, .wider, .data, .wider, .data] true :=
  OpenClaim.laidByTextAt_later rfl rfl tie noOwnUnsafe
theorem ledgerUpto_row_tie : Rows.ledgerUptoRow.laidByTextAt .later Tryz.pinned [.wider, .wider, .data, .wider, .data, .wider, .data] true :=
  OpenClaim.laidByTextAt_later rfl rfl tie noOwnUnsafe
theorem piecesUpto_row_tie : Rows.piecesUptoRow.laidByTextAt .later Tryz.pinned [.wider, .wider, .data, .wider, .data, .wider, .data] true :=
  OpenClaim.laidByTextAt_later rfl rfl tie noOwnUnsafe
end Go.Proofs.YtdccldbefdfppaaGreatDoor
