/-
  DERIVED. GIVEN WITH THE SEED: THE CARDS: each row of YtlhlmgfblbpdpaaGreatDoorRows.lean that lists a variable, with what it lists TIED to the program's text (the seventh form; the later family's looks); each row that meets fmt, with fmt's text TOLD by the authors' own Lean function (tested against real Go, not proved from fmt's source: count such statements apart). THE CARD IS WHAT COUNTS. Prove the row's statement (the work); the ties are given (YtlhlmgfblbpdpaaGreatDoorTie.lean); close each card by the builder's one call (the guide's Derived/Test/ToyasCard.lean, 'card_holds'). Laid BY PROGRAM, IN A SANDBOX (cutbox-door.mjs). By AI agents, Wed Nov 11 2026. No macro, syntax, notation, axiom, sorry.
-/
import Derived.Test.YtlhlmgfblbpdpaaGreatDoorRows
import GoSem.ClaimSeven
namespace Go.Proofs.YtlhlmgfblbpdpaaGreatDoor
namespace Rows

/-- THE TIED CARD OF 'sluicekeep.Bounded'. -/
def boundedCard : Claim7 := { stood := { row := boundedRow, standIns := [], harness := (true, "2bdb8d09694d688651d1df3d61390c3ae6c09145dde3cde6bb4a856b0e41ad1e"), looks := true }, kinds := [], alts := [], laidByText := true, laidKinds := [.wider, .wider, .data, .wider, .data, .wider, .data], laidTests := true, laidLooks := .later }
def BoundedCardSaid : Prop := Claim7.holds Tryz.pinned (.plain (OpenSpec.ofChange boundedSpec)) boundedCard

/-- THE TIED CARD OF 'sluicekeep.Tuned'. -/
def tunedCard : Claim7 := { stood := { row := tunedRow, standIns := [], harness := (true, "2bdb8d09694d688651d1df3d61390c3ae6c09145dde3cde6bb4a856b0e41ad1e"), looks := true }, kinds := [], alts := [], laidByText := true, laidKinds := [.wider, .wider, .data, .wider, .data, .wider, .data], laidTests := true, laidLooks := .later }
def TunedCardSaid : Prop := Claim7.holds Tryz.pinned (.plain (OpenSpec.ofChange tunedSpec)) tunedCard

/-- THE SECOND FORM's CARD OF 'sluicekeep.Bounded'. -/
def boundedUptoCard : Claim7 := { stood := { row := boundedUptoRow, standIns := [], harness := (true, "2bdb8d09694d688651d1df3d61390c3ae6c09145dde3cde6bb4a856b0e41ad1e"), looks := true }, kinds := [], alts := [], laidByText := true, laidKinds := [.wider, .wider, .data, .wider, .data, .wider, .data], laidTests := true, laidLooks := .later }
def BoundedUptoCardSaid : Prop := Claim7.holds Tryz.pinned (.plain (OpenSpec.upto boundedSpec)) boundedUptoCard

/-- THE SECOND FORM's CARD OF 'sluicekeep.Tuned'. -/
def tunedUptoCard : Claim7 := { stood := { row := tunedUptoRow, standIns := [], harness := (true, "2bdb8d09694d688651d1df3d61390c3ae6c09145dde3cde6bb4a856b0e41ad1e"), looks := true }, kinds := [], alts := [], laidByText := true, laidKinds := [.wider, .wider, .data, .wider, .data, .wider, .data], laidTests := true, laidLooks := .later }
def TunedUptoCardSaid : Prop := Claim7.holds Tryz.pinned (.plain (OpenSpec.upto tunedSpec)) tunedUptoCard
end Rows
end Go.Proofs.YtlhlmgfblbpdpaaGreatDoor
