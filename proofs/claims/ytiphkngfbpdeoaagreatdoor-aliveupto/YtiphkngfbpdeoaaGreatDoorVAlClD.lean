import Derived.Test.YtiphkngfbpdeoaaGreatDoorTie
import Derived.JoinedCond
import Derived.WalkKit
set_option linter.unusedVariables false
set_option linter.unusedSimpArgs false
namespace Go.Proofs.YtiphkngfbpdeoaaGreatDoor
set_option maxRecDepth 100000
theorem aliveUptoRow_goes : false = Rows.aliveUptoRow.goesBy Tryz.pinned.checked.prog := by kernel_rfl
theorem aliveUptoRow_looks : true = Tryz.pinned.checked.prog.looks [] := by kernel_rfl
theorem aliveUptoRow_wfT : Rows.aliveUptoRow.wfByText (Rows.OpenSpec.upto Rows.aliveSpec) = true := by kernel_rfl
end Go.Proofs.YtiphkngfbpdeoaaGreatDoor
