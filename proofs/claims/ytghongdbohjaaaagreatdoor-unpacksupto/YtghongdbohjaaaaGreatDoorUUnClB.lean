import Derived.Test.YtghongdbohjaaaaGreatDoorTie
import Derived.JoinedCond
import Derived.WalkKit
set_option linter.unusedVariables false
set_option linter.unusedSimpArgs false
/-
  Closed facts of the row unpacksUptoRow.
-/
namespace Go.Proofs.YtghongdbohjaaaaGreatDoor
set_option maxRecDepth 100000

theorem unpacksUptoRow_unf : (Rows.unpacksUptoRow.unfollowed == Tryz.pinned.checked.prog.unfollowed 4) = true := by kernel_rfl
theorem unpacksUptoRow_rec : (Rows.unpacksUptoRow.recurses == Tryz.pinned.checked.prog.recurses 4) = true := by kernel_rfl
end Go.Proofs.YtghongdbohjaaaaGreatDoor
