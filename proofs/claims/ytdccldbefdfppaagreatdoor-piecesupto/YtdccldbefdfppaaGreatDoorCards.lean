/-
  DERIVED. GIVEN WITH THE SEED: THE CARDS: each row of YtdccldbefdfppaaGreatDoorRows.lean that lists a variable, with what it lists TIED to the program's text (the seventh form; the later family's looks); each row that meets fmt, with fmt's text TOLD by the authors' own Lean function (tested against real Go, not proved from fmt's source: count such statements apart). THE CARD IS WHAT COUNTS. Prove the row's statement (the work); the ties are given (YtdccldbefdfppaaGreatDoorTie.lean); close each card by the builder's one call (the guide's Derived/Test/ToyasCard.lean, 'card_holds'). Laid BY PROGRAM, IN A SANDBOX (cutbox-door.mjs). By AI agents, Wed Nov 11 2026. No macro, syntax, notation, axiom, sorry.
-/
import Derived.Test.YtdccldbefdfppaaGreatDoorRows
import GoSem.ClaimSeven
namespace Go.Proofs.YtdccldbefdfppaaGreatDoor
namespace Rows

/-- THE TIED CARD OF 'sluicekeep.Ledger'. -/
def ledgerCard : Claim7 := { stood := { row := ledgerRow, standIns := [], harness := (true, "16ba0a8569033b595dfae57a1ff41daf44c53f73d0cb3c5994862b34e563e17f"), looks := true }, kinds := [], alts := [], laidByText := true, laidKinds := [.wider, .wider, .data, .wider, .data, .wider, .data], laidTests := true, laidLooks := .later }
def LedgerCardSaid : Prop := Claim7.holds Tryz.pinned (.plain (OpenSpec.ofChange ledgerSpec)) ledgerCard

/-- THE TIED CARD OF 'sluicekeep.Pieces'. -/
def piecesCard : Claim7 := { stood := { row := piecesRow, standIns := [], harness := (true, "16ba0a8569033b595dfae57a1ff41daf44c53f73d0cb3c5994862b34e563e17f"), looks := true }, kinds := [], alts := [], laidByText := true, laidKinds := [.wider, .wider, .data, .wider, .data, .wider, .data], laidTests := true, laidLooks := .later }
def PiecesCardSaid : Prop := Claim7.holds Tryz.pinned (.plain (OpenSpec.ofChange piecesSpec)) piecesCard

/-- THE SECOND FORM's CARD OF 'sluicekeep.Ledger'. -/
def ledgerUptoCard : Claim7 := { stood := { row := ledgerUptoRow, standIns := [], harness := (true, "16ba0a8569033b595dfae57a1ff41daf44c53f73d0cb3c5994862b34e563e17f"), looks := true }, kinds := [], alts := [], laidByText := true, laidKinds := [.wider, .wider, .data, .wider, .data, .wider, .data], laidTests := true, laidLooks := .later }
def LedgerUptoCardSaid : Prop := Claim7.holds Tryz.pinned (.plain (OpenSpec.upto ledgerSpec)) ledgerUptoCard

/-- THE SECOND FORM's CARD OF 'sluicekeep.Pieces'. -/
def piecesUptoCard : Claim7 := { stood := { row := piecesUptoRow, standIns := [], harness := (true, "16ba0a8569033b595dfae57a1ff41daf44c53f73d0cb3c5994862b34e563e17f"), looks := true }, kinds := [], alts := [], laidByText := true, laidKinds := [.wider, .wider, .data, .wider, .data, .wider, .data], laidTests := true, laidLooks := .later }
def PiecesUptoCardSaid : Prop := Claim7.holds Tryz.pinned (.plain (OpenSpec.upto piecesSpec)) piecesUptoCard
end Rows
end Go.Proofs.YtdccldbefdfppaaGreatDoor
