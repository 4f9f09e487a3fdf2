import Derived.Test.YtjccnikmcoidhaaGen
import Derived.Test.YtjccnikmcoidhaaPure
import Derived.WalkKit
import Derived.WalkSpells
import Derived.WalkLawsBesides
set_option linter.unusedVariables false
set_option linter.unusedSimpArgs false
/-
  What memory holds: rows of bytes, a reader's block; what a call may change.
-/
namespace Go.Proofs.Ytjccnikmcoidhaa
open Go.RowKit

/-- A reader's block: what is gathered, the head, the fault. -/
def RdB (w : World) (rb : Nat) (gv : Value) (L K F S c : Int) : Prop :=
  w.heap[rb]? = some (.cells #[gv, .int .i64 L, .int .i64 K, .int .i64 F, .int .i64 S, .int .i64 c] 56 (0, 0))

theorem RdB.lt {w : World} {rb : Nat} {gv : Value} {L K F S c : Int} (h : RdB w rb gv L K F S c) : rb < w.heap.size := (Array.getElem?_eq_some_iff.1 h).1
theorem RdB.cells {w : World} {rb : Nat} {gv : Value} {L K F S c : Int} (h : RdB w rb gv L K F S c) :
    w.cell? ⟨rb, 0, none⟩ = some gv ∧ w.cell? ⟨rb, 1, none⟩ = some (.int .i64 L) ∧ w.cell? ⟨rb, 2, none⟩ = some (.int .i64 K) ∧ w.cell? ⟨rb, 3, none⟩ = some (.int .i64 F) ∧
    w.cell? ⟨rb, 4, none⟩ = some (.int .i64 S) ∧ w.cell? ⟨rb, 5, none⟩ = some (.int .i64 c) := by
  unfold RdB at h
  refine ⟨?_, ?_, ?_, ?_, ?_, ?_⟩ <;> rw [cell_of_row w rb _ _ _ _ h] <;> rfl
theorem RdB.free {w : World} {rb : Nat} {gv : Value} {L K F S c : Int} (h : RdB w rb gv L K F S c) (o : Nat) : w.frozen? ⟨rb, o, none⟩ = false := by
  unfold RdB at h
  simp [World.frozen?, h]
theorem RdB.chg {T : Nat → Prop} {w w' : World} {rb : Nat} {gv : Value} {L K F S c : Int} (h : RdB w rb gv L K F S c) (hc : Chg T w w') (hs : ¬ T rb) : RdB w' rb gv L K F S c := by
  unfold RdB at h ⊢
  rw [hc.block rb (Array.getElem?_eq_some_iff.1 h).1 hs]; exact h
theorem RdB.set0 {w : World} {rb : Nat} {gv : Value} {L K F S c : Int} (h : RdB w rb gv L K F S c) (u : Value) : RdB (w.setCell ⟨rb, 0, none⟩ u) rb u L K F S c := by
  have := block_setCell (i := 0) (u := u) h
  exact this
theorem RdB.set14 {w : World} {rb : Nat} {gv : Value} {L K F S c : Int} (h : RdB w rb gv L K F S c) (l k f s : Int) :
    RdB ((((w.setCell ⟨rb, 1, none⟩ (.int .i64 l)).setCell ⟨rb, 2, none⟩ (.int .i64 k)).setCell ⟨rb, 3, none⟩ (.int .i64 f)).setCell ⟨rb, 4, none⟩ (.int .i64 s)) rb gv l k f s c := by
  have h1 := block_setCell (i := 1) (u := .int .i64 l) h
  have h2 := block_setCell (i := 2) (u := .int .i64 k) h1
  have h3 := block_setCell (i := 3) (u := .int .i64 f) h2
  have h4 := block_setCell (i := 4) (u := .int .i64 s) h3
  exact h4

end Go.Proofs.Ytjccnikmcoidhaa
