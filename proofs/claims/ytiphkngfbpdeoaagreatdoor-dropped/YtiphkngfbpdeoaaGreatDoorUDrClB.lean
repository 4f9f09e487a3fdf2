import Derived.Test.YtiphkngfbpdeoaaGreatDoorTie
import Derived.JoinedCond
import Derived.WalkKit
set_option linter.unusedVariables false
set_option linter.unusedSimpArgs false
/-
  Closed facts of the row droppedRow.
-/
namespace Go.Proofs.YtiphkngfbpdeoaaGreatDoor
set_option maxRecDepth 100000

theorem droppedRow_unf : (Rows.droppedRow.unfollowed == Tryz.pinned.checked.prog.unfollowed 3) = true := by kernel_rfl
theorem droppedRow_rec : (Rows.droppedRow.recurses == Tryz.pinned.checked.prog.recurses 3) = true := by kernel_rfl
end Go.Proofs.YtiphkngfbpdeoaaGreatDoor
