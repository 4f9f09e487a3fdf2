import Derived.Test.YtdccldbefdfppaaGreatDoorQGaa
import Derived.Deep.RegionWith
import Derived.Deep.DeepCutAuto
import Derived.Deep.RegionHeld3
import Derived.Deep.RegionLaw
set_option linter.unusedVariables false
set_option linter.unusedSimpArgs false
/-
  Package blocks: bitWriter's put.
-/
namespace Go.Proofs.YtdccldbefdfppaaGreatDoor
set_option linter.unusedVariables false
set_option linter.unusedSimpArgs false
open Go.RowKit

/-- A writer's block. -/
def BwB (w : World) (wb : Nat) (gv : Value) (L N : Nat) : Prop := w.heap[wb]? = some (.cells #[gv, .int .u32 (L : Int), .int .i64 (N : Int)] 280 (0, 0))
theorem BwB.cells {w : World} {wb : Nat} {gv : Value} {L N : Nat} (h : BwB w wb gv L N) : w.cell? ⟨wb, 0, none⟩ = some gv ∧ w.cell? ⟨wb, 1, none⟩ = some (.int .u32 (L : Int)) ∧ w.cell? ⟨wb, 2, none⟩ = some (.int .i64 (N : Int)) := by
  unfold BwB at h
  refine ⟨?_, ?_, ?_⟩ <;> rw [cell_of_row w wb _ _ _ _ h] <;> rfl
theorem BwB.free {w : World} {wb : Nat} {gv : Value} {L N : Nat} (h : BwB w wb gv L N) (o : Nat) : w.frozen? ⟨wb, o, none⟩ = false := by
  unfold BwB at h
  simp [World.frozen?, h]
theorem BwB.lt {w : World} {wb : Nat} {gv : Value} {L N : Nat} (h : BwB w wb gv L N) : wb < w.heap.size := lt_of_block h

theorem BwB.chg {S : Nat → Prop} {w w' : World} {wb : Nat} {gv : Value} {L N : Nat} (h : BwB w wb gv L N) (hc : Chg S w w') (hs : ¬ S wb) : BwB w' wb gv L N := by
  unfold BwB at h ⊢
  rw [hc.block wb (lt_of_block h) hs]; exact h
theorem BwB.set0 {w : World} {wb : Nat} {gv : Value} {L N : Nat} (h : BwB w wb gv L N) (u : Value) : BwB (w.setCell ⟨wb, 0, none⟩ u) wb u L N := block_setCell (i := 0) (u := u) h
/-- A writer: the bits that were laid down. -/
def BwS (w : World) (wb : Nat) (gv : Value) (bs : List Bool) : Prop :=
  ∃ L N, BwB w wb gv L N ∧ L < 4294967296 ∧ N = bs.length % 8 ∧ L % 2 ^ N = valB (bs.drop (8 * (bs.length / 8))) ∧ w.ownsRow 0 5 1 gv (bs.length / 8) ((bytesB bs).map B)
end Go.Proofs.YtdccldbefdfppaaGreatDoor
