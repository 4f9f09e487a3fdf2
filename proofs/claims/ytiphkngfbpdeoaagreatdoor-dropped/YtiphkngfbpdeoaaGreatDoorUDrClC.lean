import Derived.Test.YtiphkngfbpdeoaaGreatDoorTie
import Derived.JoinedCond
import Derived.WalkKit
set_option linter.unusedVariables false
set_option linter.unusedSimpArgs false
/-
  Closed facts of the row droppedRow.
-/
namespace Go.Proofs.YtiphkngfbpdeoaaGreatDoor
set_option maxRecDepth 100000

theorem droppedRow_nam : (Rows.droppedRow.named == Tryz.pinned.checked.prog.varsNamed 3) = true := by kernel_rfl
theorem droppedRow_plk : (Rows.droppedRow.plainKeys == Tryz.pinned.checked.prog.plainKeys) = true := by kernel_rfl
theorem droppedRow_mapsR : mapsRowed Tryz.pinned.checked.prog = true := by kernel_rfl
end Go.Proofs.YtiphkngfbpdeoaaGreatDoor
