import Derived.Test.YtghongdbohjaaaaGreatDoorTie
import Derived.JoinedCond
import Derived.WalkKit
set_option linter.unusedVariables false
set_option linter.unusedSimpArgs false
/-
  Closed facts of the row unpacksUptoRow.
-/
namespace Go.Proofs.YtghongdbohjaaaaGreatDoor
set_option maxRecDepth 100000

theorem unpacksUptoRow_goes : true = Rows.unpacksUptoRow.goesBy Tryz.pinned.checked.prog := by kernel_rfl
theorem unpacksUptoRow_looks : true = Tryz.pinned.checked.prog.looks [] := by kernel_rfl
theorem unpacksUptoRow_wfT : Rows.unpacksUptoRow.wfByText (Rows.OpenSpec.upto Rows.unpacksSpec) = true := by kernel_rfl
end Go.Proofs.YtghongdbohjaaaaGreatDoor
