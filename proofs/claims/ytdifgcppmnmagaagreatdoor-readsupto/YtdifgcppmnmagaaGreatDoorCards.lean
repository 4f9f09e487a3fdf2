/-
  DERIVED. GIVEN WITH THE SEED: THE CARDS: each row of YtdifgcppmnmagaaGreatDoorRows.lean that lists a variable, with what it lists TIED to the program's text (the seventh form; the later family's looks); each row that meets fmt, with fmt's text TOLD by the authors' own Lean function (tested against real Go, not proved from fmt's source: count such statements apart). THE CARD IS WHAT COUNTS. Prove the row's statement (the work); the ties are given (YtdifgcppmnmagaaGreatDoorTie.lean); close each card by the builder's one call (the guide's Derived/Test/ToyasCard.lean, 'card_holds'). Laid BY PROGRAM, IN A SANDBOX (cutbox-door.mjs). By AI agents, Wed Nov 11 2026. No macro, syntax, notation, axiom, sorry.
-/
import Derived.Test.YtdifgcppmnmagaaGreatDoorRows
import GoSem.ClaimSeven
namespace Go.Proofs.YtdifgcppmnmagaaGreatDoor
namespace Rows

/-- THE TIED CARD OF 'sluicelaw.Writes'. -/
def writesCard : Claim7 := { stood := { row := writesRow, standIns := [], harness := (true, "ab89e44c29dcee99b59ded2fd868df67750c3ddde09ec5815f49bb5d8e9546e8"), looks := true }, kinds := [], alts := [], goes := true, laidByText := true, laidKinds := [.wider, .wider, .data, .wider, .data, .wider, .data], laidTests := true, laidLooks := .later }
def WritesCardSaid : Prop := Claim7.holds Tryz.pinned (.plain (OpenSpec.ofChange writesSpec)) writesCard

/-- THE TIED CARD OF 'sluicelaw.Reads'. -/
def readsCard : Claim7 := { stood := { row := readsRow, standIns := [], harness := (true, "ab89e44c29dcee99b59ded2fd868df67750c3ddde09ec5815f49bb5d8e9546e8"), looks := true }, kinds := [], alts := [], goes := true, laidByText := true, laidKinds := [.wider, .wider, .data, .wider, .data, .wider, .data], laidTests := true, laidLooks := .later }
def ReadsCardSaid : Prop := Claim7.holds Tryz.pinned (.plain (OpenSpec.ofChange readsSpec)) readsCard

/-- THE SECOND FORM's CARD OF 'sluicelaw.Writes'. -/
def writesUptoCard : Claim7 := { stood := { row := writesUptoRow, standIns := [], harness := (true, "ab89e44c29dcee99b59ded2fd868df67750c3ddde09ec5815f49bb5d8e9546e8"), looks := true }, kinds := [], alts := [], goes := true, laidByText := true, laidKinds := [.wider, .wider, .data, .wider, .data, .wider, .data], laidTests := true, laidLooks := .later }
def WritesUptoCardSaid : Prop := Claim7.holds Tryz.pinned (.plain (OpenSpec.upto writesSpec)) writesUptoCard

/-- THE SECOND FORM's CARD OF 'sluicelaw.Reads'. -/
def readsUptoCard : Claim7 := { stood := { row := readsUptoRow, standIns := [], harness := (true, "ab89e44c29dcee99b59ded2fd868df67750c3ddde09ec5815f49bb5d8e9546e8"), looks := true }, kinds := [], alts := [], goes := true, laidByText := true, laidKinds := [.wider, .wider, .data, .wider, .data, .wider, .data], laidTests := true, laidLooks := .later }
def ReadsUptoCardSaid : Prop := Claim7.holds Tryz.pinned (.plain (OpenSpec.upto readsSpec)) readsUptoCard
end Rows
end Go.Proofs.YtdifgcppmnmagaaGreatDoor
