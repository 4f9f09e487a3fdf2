/-
  Closed facts of the row tunedRow.
-/
import Derived.Test.YtlhlmgfblbpdpaaGreatDoorTie
import Derived.JoinedCond
import Derived.WalkKit
namespace Go.Proofs.YtlhlmgfblbpdpaaGreatDoor
set_option maxRecDepth 100000

theorem tunedRow_unf : (Rows.tunedRow.unfollowed == Tryz.pinned.checked.prog.unfollowed 4) = true := by kernel_rfl
theorem tunedRow_rec : (Rows.tunedRow.recurses == Tryz.pinned.checked.prog.recurses 4) = true := by kernel_rfl
end Go.Proofs.YtlhlmgfblbpdpaaGreatDoor
