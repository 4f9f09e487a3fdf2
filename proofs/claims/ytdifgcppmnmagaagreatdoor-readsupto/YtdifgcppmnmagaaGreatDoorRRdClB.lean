import Derived.Test.YtdifgcppmnmagaaGreatDoorTie
import Derived.JoinedCond
import Derived.WalkKit
set_option linter.unusedVariables false
set_option linter.unusedSimpArgs false
/-
  Closed facts of the row readsUptoRow.
-/
namespace Go.Proofs.YtdifgcppmnmagaaGreatDoor
set_option maxRecDepth 100000

theorem readsUptoRow_unf : (Rows.readsUptoRow.unfollowed == Tryz.pinned.checked.prog.unfollowed 4) = true := by kernel_rfl
theorem readsUptoRow_rec : (Rows.readsUptoRow.recurses == Tryz.pinned.checked.prog.recurses 4) = true := by kernel_rfl
end Go.Proofs.YtdifgcppmnmagaaGreatDoor
