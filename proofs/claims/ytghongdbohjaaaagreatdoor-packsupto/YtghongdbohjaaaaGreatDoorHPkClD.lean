import Derived.Test.YtghongdbohjaaaaGreatDoorTie
import Derived.JoinedCond
import Derived.WalkKit
set_option linter.unusedVariables false
set_option linter.unusedSimpArgs false
/-
  Closed facts of the row packsUptoRow.
-/
namespace Go.Proofs.YtghongdbohjaaaaGreatDoor
set_option maxRecDepth 100000

theorem packsUptoRow_goes : true = Rows.packsUptoRow.goesBy Tryz.pinned.checked.prog := by kernel_rfl
theorem packsUptoRow_looks : true = Tryz.pinned.checked.prog.looks [] := by kernel_rfl
theorem packsUptoRow_wfT : Rows.packsUptoRow.wfByText (Rows.OpenSpec.upto Rows.packsSpec) = true := by kernel_rfl
end Go.Proofs.YtghongdbohjaaaaGreatDoor
