import Derived.Test.YtiphkngfbpdeoaaGreatDoorTie
import Derived.JoinedCond
import Derived.WalkKit
namespace Go.Proofs.YtiphkngfbpdeoaaGreatDoor
set_option maxRecDepth 100000
theorem aliveRow_laid : laidOutB Tryz.pinned.checked.prog = true := by kernel_rfl
theorem aliveRow_inP : (Rows.aliveRow.inPlace == Tryz.pinned.checked.prog.inPlace 4) = true := by kernel_rfl
end Go.Proofs.YtiphkngfbpdeoaaGreatDoor
