/-
  Closed facts of the row tunedRow.
-/
import Derived.Test.YtlhlmgfblbpdpaaGreatDoorTie
import Derived.JoinedCond
import Derived.WalkKit
namespace Go.Proofs.YtlhlmgfblbpdpaaGreatDoor
set_option maxRecDepth 100000

theorem tunedRow_laid : laidOutB Tryz.pinned.checked.prog = true := by kernel_rfl
theorem tunedRow_inP : (Rows.tunedRow.inPlace == Tryz.pinned.checked.prog.inPlace 4) = true := by kernel_rfl
end Go.Proofs.YtlhlmgfblbpdpaaGreatDoor
