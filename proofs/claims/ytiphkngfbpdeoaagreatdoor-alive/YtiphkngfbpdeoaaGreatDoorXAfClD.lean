import Derived.Test.YtiphkngfbpdeoaaGreatDoorTie
import Derived.JoinedCond
import Derived.WalkKit
namespace Go.Proofs.YtiphkngfbpdeoaaGreatDoor
set_option maxRecDepth 100000
theorem aliveRow_goes : false = Rows.aliveRow.goesBy Tryz.pinned.checked.prog := by kernel_rfl
theorem aliveRow_looks : true = Tryz.pinned.checked.prog.looks [] := by kernel_rfl
theorem aliveRow_wfT : Rows.aliveRow.wfByText (OpenSpec.ofChange Rows.aliveSpec) = true := by kernel_rfl
end Go.Proofs.YtiphkngfbpdeoaaGreatDoor
