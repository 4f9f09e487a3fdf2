/-
  Closed facts of the row tunedRow.
-/
import Derived.Test.YtlhlmgfblbpdpaaGreatDoorTie
import Derived.JoinedCond
import Derived.WalkKit
namespace Go.Proofs.YtlhlmgfblbpdpaaGreatDoor
set_option maxRecDepth 100000

theorem tunedRow_goes : false = Rows.tunedRow.goesBy Tryz.pinned.checked.prog := by kernel_rfl
theorem tunedRow_looks : true = Tryz.pinned.checked.prog.looks [] := by kernel_rfl
theorem tunedRow_wfT : Rows.tunedRow.wfByText (OpenSpec.ofChange Rows.tunedSpec) = true := by kernel_rfl
end Go.Proofs.YtlhlmgfblbpdpaaGreatDoor
