import Derived.Test.YtdifgcppmnmagaaGreatDoorTie
import Derived.JoinedCond
import Derived.WalkKit
set_option linter.unusedVariables false
set_option linter.unusedSimpArgs false
/-
  Closed facts of the row readsUptoRow.
-/
namespace Go.Proofs.YtdifgcppmnmagaaGreatDoor
set_option maxRecDepth 100000

theorem readsUptoRow_goes : true = Rows.readsUptoRow.goesBy Tryz.pinned.checked.prog := by kernel_rfl
theorem readsUptoRow_looks : true = Tryz.pinned.checked.prog.looks [] := by kernel_rfl
theorem readsUptoRow_wfT : Rows.readsUptoRow.wfByText (Rows.OpenSpec.upto Rows.readsSpec) = true := by kernel_rfl
end Go.Proofs.YtdifgcppmnmagaaGreatDoor
