/-
  DERIVED. GIVEN WITH THE SEED: THE CARDS: each row of YtiphkngfbpdeoaaGreatDoorRows.lean that lists a variable, with what it lists TIED to the program's text (the seventh form; the later family's looks); each row that meets fmt, with fmt's text TOLD by the authors' own Lean function (tested against real Go, not proved from fmt's source: count such statements apart). THE CARD IS WHAT COUNTS. Prove the row's statement (the work); the ties are given (YtiphkngfbpdeoaaGreatDoorTie.lean); close each card by the builder's one call (the guide's Derived/Test/ToyasCard.lean, 'card_holds'). Laid BY PROGRAM, IN A SANDBOX (cutbox-door.mjs). By AI agents, Wed Nov 11 2026. No macro, syntax, notation, axiom, sorry.
-/
import Derived.Test.YtiphkngfbpdeoaaGreatDoorRows
import GoSem.ClaimSeven
namespace Go.Proofs.YtiphkngfbpdeoaaGreatDoor
namespace Rows

/-- THE TIED CARD OF 'sluicekeep.Dropped'. -/
def droppedCard : Claim7 := { stood := { row := droppedRow, standIns := [], harness := (true, "8c8d38d461fed76e1952b6faaa86e35c5ee20759320d0f1f92a6abeb03219fc8"), looks := true }, kinds := [], alts := [], laidByText := true, laidKinds := [.wider, .wider, .data, .wider, .data, .wider, .data], laidTests := true, laidLooks := .later }
def DroppedCardSaid : Prop := Claim7.holds Tryz.pinned (.plain (OpenSpec.ofChange droppedSpec)) droppedCard

/-- THE TIED CARD OF 'sluicekeep.Alive'. -/
def aliveCard : Claim7 := { stood := { row := aliveRow, standIns := [], harness := (true, "8c8d38d461fed76e1952b6faaa86e35c5ee20759320d0f1f92a6abeb03219fc8"), looks := true }, kinds := [], alts := [], laidByText := true, laidKinds := [.wider, .wider, .data, .wider, .data, .wider, .data], laidTests := true, laidLooks := .later }
def AliveCardSaid : Prop := Claim7.holds Tryz.pinned (.plain (OpenSpec.ofChange aliveSpec)) aliveCard

/-- THE SECOND FORM's CARD OF 'sluicekeep.Dropped'. -/
def droppedUptoCard : Claim7 := { stood := { row := droppedUptoRow, standIns := [], harness := (true, "8c8d38d461fed76e1952b6faaa86e35c5ee20759320d0f1f92a6abeb03219fc8"), looks := true }, kinds := [], alts := [], laidByText := true, laidKinds := [.wider, .wider, .data, .wider, .data, .wider, .data], laidTests := true, laidLooks := .later }
def DroppedUptoCardSaid : Prop := Claim7.holds Tryz.pinned (.plain (OpenSpec.upto droppedSpec)) droppedUptoCard

/-- THE SECOND FORM's CARD OF 'sluicekeep.Alive'. -/
def aliveUptoCard : Claim7 := { stood := { row := aliveUptoRow, standIns := [], harness := (true, "8c8d38d461fed76e1952b6faaa86e35c5ee20759320d0f1f92a6abeb03219fc8"), looks := true }, kinds := [], alts := [], laidByText := true, laidKinds := [.wider, .wider, .data, .wider, .data, .wider, .data], laidTests := true, laidLooks := .later }
def AliveUptoCardSaid : Prop := Claim7.holds Tryz.pinned (.plain (OpenSpec.upto aliveSpec)) aliveUptoCard
end Rows
end Go.Proofs.YtiphkngfbpdeoaaGreatDoor
