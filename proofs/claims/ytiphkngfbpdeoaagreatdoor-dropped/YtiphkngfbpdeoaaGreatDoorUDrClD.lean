import Derived.Test.YtiphkngfbpdeoaaGreatDoorTie
import Derived.JoinedCond
import Derived.WalkKit
set_option linter.unusedVariables false
set_option linter.unusedSimpArgs false
/-
  Closed facts of the row droppedRow.
-/
namespace Go.Proofs.YtiphkngfbpdeoaaGreatDoor
set_option maxRecDepth 100000

theorem droppedRow_goes : false = Rows.droppedRow.goesBy Tryz.pinned.checked.prog := by kernel_rfl
theorem droppedRow_looks : true = Tryz.pinned.checked.prog.looks [] := by kernel_rfl
theorem droppedRow_wfT : Rows.droppedRow.wfByText (OpenSpec.ofChange Rows.droppedSpec) = true := by kernel_rfl
end Go.Proofs.YtiphkngfbpdeoaaGreatDoor
