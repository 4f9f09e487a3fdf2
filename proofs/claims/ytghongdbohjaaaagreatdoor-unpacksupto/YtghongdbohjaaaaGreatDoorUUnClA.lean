import Derived.Test.YtghongdbohjaaaaGreatDoorTie
import Derived.JoinedCond
import Derived.WalkKit
set_option linter.unusedVariables false
set_option linter.unusedSimpArgs false
/-
  Closed facts of the row unpacksUptoRow.
-/
namespace Go.Proofs.YtghongdbohjaaaaGreatDoor
set_option maxRecDepth 100000

theorem unpacksUptoRow_laid : laidOutB Tryz.pinned.checked.prog = true := by kernel_rfl
theorem unpacksUptoRow_inP : (Rows.unpacksUptoRow.inPlace == Tryz.pinned.checked.prog.inPlace 4) = true := by kernel_rfl
end Go.Proofs.YtghongdbohjaaaaGreatDoor
