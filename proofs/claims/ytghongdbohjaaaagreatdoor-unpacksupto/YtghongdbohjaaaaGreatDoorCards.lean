/-
  DERIVED. GIVEN WITH THE SEED: THE CARDS: each row of YtghongdbohjaaaaGreatDoorRows.lean that lists a variable, with what it lists TIED to the program's text (the seventh form; the later family's looks); each row that meets fmt, with fmt's text TOLD by the authors' own Lean function (tested against real Go, not proved from fmt's source: count such statements apart). THE CARD IS WHAT COUNTS. Prove the row's statement (the work); the ties are given (YtghongdbohjaaaaGreatDoorTie.lean); close each card by the builder's one call (the guide's Derived/Test/ToyasCard.lean, 'card_holds'). Laid BY PROGRAM, IN A SANDBOX (cutbox-door.mjs). By AI agents, Wed Nov 11 2026. No macro, syntax, notation, axiom, sorry.
-/
import Derived.Test.YtghongdbohjaaaaGreatDoorRows
import GoSem.ClaimSeven
namespace Go.Proofs.YtghongdbohjaaaaGreatDoor
namespace Rows

/-- THE TIED CARD OF 'sluicelaw.Packs'. -/
def packsCard : Claim7 := { stood := { row := packsRow, standIns := [], harness := (true, "ccb7edceb463328e87b7c599059f5a42326f64f3c01bd5228b3c84b4ad730ca0"), looks := true }, kinds := [], alts := [], goes := true, laidByText := true, laidKinds := [.wider, .wider, .data, .wider, .data, .wider, .data], laidTests := true, laidLooks := .later }
def PacksCardSaid : Prop := Claim7.holds Tryz.pinned (.plain (OpenSpec.ofChange packsSpec)) packsCard

/-- THE TIED CARD OF 'sluicelaw.Unpacks'. -/
def unpacksCard : Claim7 := { stood := { row := unpacksRow, standIns := [], harness := (true, "ccb7edceb463328e87b7c599059f5a42326f64f3c01bd5228b3c84b4ad730ca0"), looks := true }, kinds := [], alts := [], goes := true, laidByText := true, laidKinds := [.wider, .wider, .data, .wider, .data, .wider, .data], laidTests := true, laidLooks := .later }
def UnpacksCardSaid : Prop := Claim7.holds Tryz.pinned (.plain (OpenSpec.ofChange unpacksSpec)) unpacksCard

/-- THE SECOND FORM's CARD OF 'sluicelaw.Packs'. -/
def packsUptoCard : Claim7 := { stood := { row := packsUptoRow, standIns := [], harness := (true, "ccb7edceb463328e87b7c599059f5a42326f64f3c01bd5228b3c84b4ad730ca0"), looks := true }, kinds := [], alts := [], goes := true, laidByText := true, laidKinds := [.wider, .wider, .data, .wider, .data, .wider, .data], laidTests := true, laidLooks := .later }
def PacksUptoCardSaid : Prop := Claim7.holds Tryz.pinned (.plain (OpenSpec.upto packsSpec)) packsUptoCard

/-- THE SECOND FORM's CARD OF 'sluicelaw.Unpacks'. -/
def unpacksUptoCard : Claim7 := { stood := { row := unpacksUptoRow, standIns := [], harness := (true, "ccb7edceb463328e87b7c599059f5a42326f64f3c01bd5228b3c84b4ad730ca0"), looks := true }, kinds := [], alts := [], goes := true, laidByText := true, laidKinds := [.wider, .wider, .data, .wider, .data, .wider, .data], laidTests := true, laidLooks := .later }
def UnpacksUptoCardSaid : Prop := Claim7.holds Tryz.pinned (.plain (OpenSpec.upto unpacksSpec)) unpacksUptoCard
end Rows
end Go.Proofs.YtghongdbohjaaaaGreatDoor
