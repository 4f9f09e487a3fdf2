import Derived.Test.YtiphkngfbpdeoaaGreatDoorTie
import Derived.JoinedCond
import Derived.WalkKit
namespace Go.Proofs.YtiphkngfbpdeoaaGreatDoor
set_option maxRecDepth 100000
theorem aliveRow_nam : (Rows.aliveRow.named == Tryz.pinned.checked.prog.varsNamed 4) = true := by kernel_rfl
theorem aliveRow_plk : (Rows.aliveRow.plainKeys == Tryz.pinned.checked.prog.plainKeys) = true := by kernel_rfl
theorem aliveRow_mapsR : mapsRowed Tryz.pinned.checked.prog = true := by kernel_rfl
end Go.Proofs.YtiphkngfbpdeoaaGreatDoor
