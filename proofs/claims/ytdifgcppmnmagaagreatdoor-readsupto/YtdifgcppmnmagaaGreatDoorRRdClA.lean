import Derived.Test.YtdifgcppmnmagaaGreatDoorTie
import Derived.JoinedCond
import Derived.WalkKit
set_option linter.unusedVariables false
set_option linter.unusedSimpArgs false
/-
  Closed facts of the row readsUptoRow.
-/
namespace Go.Proofs.YtdifgcppmnmagaaGreatDoor
set_option maxRecDepth 100000

theorem readsUptoRow_laid : laidOutB Tryz.pinned.checked.prog = true := by kernel_rfl
theorem readsUptoRow_inP : (Rows.readsUptoRow.inPlace == Tryz.pinned.checked.prog.inPlace 4) = true := by kernel_rfl
end Go.Proofs.YtdifgcppmnmagaaGreatDoor
