import Derived.Test.YtdifgcppmnmagaaGreatDoorTie
import Derived.JoinedCond
import Derived.WalkKit
set_option linter.unusedVariables false
set_option linter.unusedSimpArgs false
/-
  Closed facts of the row writesUptoRow.
-/
namespace Go.Proofs.YtdifgcppmnmagaaGreatDoor
set_option maxRecDepth 100000

theorem writesUptoRow_goes : true = Rows.writesUptoRow.goesBy Tryz.pinned.checked.prog := by kernel_rfl
theorem writesUptoRow_looks : true = Tryz.pinned.checked.prog.looks [] := by kernel_rfl
theorem writesUptoRow_wfT : Rows.writesUptoRow.wfByText (Rows.OpenSpec.upto Rows.writesSpec) = true := by kernel_rfl
end Go.Proofs.YtdifgcppmnmagaaGreatDoor
