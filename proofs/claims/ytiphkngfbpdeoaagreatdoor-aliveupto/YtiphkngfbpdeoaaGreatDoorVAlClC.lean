import Derived.Test.YtiphkngfbpdeoaaGreatDoorTie
import Derived.JoinedCond
import Derived.WalkKit
set_option linter.unusedVariables false
set_option linter.unusedSimpArgs false
namespace Go.Proofs.YtiphkngfbpdeoaaGreatDoor
set_option maxRecDepth 100000
theorem aliveUptoRow_nam : (Rows.aliveUptoRow.named == Tryz.pinned.checked.prog.varsNamed 4) = true := by kernel_rfl
theorem aliveUptoRow_plk : (Rows.aliveUptoRow.plainKeys == Tryz.pinned.checked.prog.plainKeys) = true := by kernel_rfl
theorem aliveUptoRow_mapsR : mapsRowed Tryz.pinned.checked.prog = true := by kernel_rfl
end Go.Proofs.YtiphkngfbpdeoaaGreatDoor
