/-
  DERIVED. GIVEN WITH THE SEED: THE CARDS: each row of YtpmmpbklpclnhaaDoorRows.lean that lists a variable, with what it lists TIED to the program's text (the seventh form; the later family's looks); each row that meets fmt, with fmt's text TOLD by the authors' own Lean function (tested against real Go, not proved from fmt's source: count such statements apart). THE CARD IS WHAT COUNTS. Prove the row's statement (the work); the ties are given (YtpmmpbklpclnhaaDoorTie.lean); close each card by the builder's one call (the guide's Derived/Test/ToyasCard.lean, 'card_holds'). Laid BY PROGRAM, IN A SANDBOX (cutbox-door.mjs). By AI agents, Wed Nov 11 2026. No macro, syntax, notation, axiom, sorry.
-/
import Derived.Test.YtpmmpbklpclnhaaDoorRows
import GoSem.ClaimSeven
namespace Go.Proofs.YtpmmpbklpclnhaaDoor
namespace Rows

/-- THE TIED CARD OF 'sluicekeep.Back'. -/
def backCard : Claim7 := { stood := { row := backRow, standIns := [], harness := (true, "eba04f1156aaa9ef5ece1b401a5e623c3b56255be74864c258a97d104197a0e0"), looks := true }, kinds := [], alts := [], laidByText := true, laidKinds := [.wider, .wider, .data, .wider, .data, .wider, .data], laidTests := true, laidLooks := .later }
def BackCardSaid : Prop := Claim7.holds Tryd.pinned (.plain (OpenSpec.ofChange backSpec)) backCard

/-- THE TIED CARD OF 'sluicekeep.Short'. -/
def shortCard : Claim7 := { stood := { row := shortRow, standIns := [], harness := (true, "eba04f1156aaa9ef5ece1b401a5e623c3b56255be74864c258a97d104197a0e0"), looks := true }, kinds := [], alts := [], laidByText := true, laidKinds := [.wider, .wider, .data, .wider, .data, .wider, .data], laidTests := true, laidLooks := .later }
def ShortCardSaid : Prop := Claim7.holds Tryd.pinned (.plain (OpenSpec.ofChange shortSpec)) shortCard

/-- THE SECOND FORM's CARD OF 'sluicekeep.Back'. -/
def backUptoCard : Claim7 := { stood := { row := backUptoRow, standIns := [], harness := (true, "eba04f1156aaa9ef5ece1b401a5e623c3b56255be74864c258a97d104197a0e0"), looks := true }, kinds := [], alts := [], laidByText := true, laidKinds := [.wider, .wider, .data, .wider, .data, .wider, .data], laidTests := true, laidLooks := .later }
def BackUptoCardSaid : Prop := Claim7.holds Tryd.pinned (.plain (OpenSpec.upto backSpec)) backUptoCard

/-- THE SECOND FORM's CARD OF 'sluicekeep.Short'. -/
def shortUptoCard : Claim7 := { stood := { row := shortUptoRow, standIns := [], harness := (true, "eba04f1156aaa9ef5ece1b401a5e623c3b56255be74864c258a97d104197a0e0"), looks := true }, kinds := [], alts := [], laidByText := true, laidKinds := [.wider, .wider, .data, .wider, .data, .wider, .data], laidTests := true, laidLooks := .later }
def ShortUptoCardSaid : Prop := Claim7.holds Tryd.pinned (.plain (OpenSpec.upto shortSpec)) shortUptoCard
end Rows
end Go.Proofs.YtpmmpbklpclnhaaDoor
