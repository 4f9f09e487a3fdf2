import Derived.Test.YtiphkngfbpdeoaaGreatDoorTie
import Derived.JoinedCond
import Derived.WalkKit
set_option linter.unusedVariables false
set_option linter.unusedSimpArgs false
namespace Go.Proofs.YtiphkngfbpdeoaaGreatDoor
set_option maxRecDepth 100000
theorem aliveUptoRow_laid : laidOutB Tryz.pinned.checked.prog = true := by kernel_rfl
theorem aliveUptoRow_inP : (Rows.aliveUptoRow.inPlace == Tryz.pinned.checked.prog.inPlace 4) = true := by kernel_rfl
end Go.Proofs.YtiphkngfbpdeoaaGreatDoor
