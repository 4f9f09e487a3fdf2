/-
  Closed facts of the row tunedRow.
-/
import Derived.Test.YtlhlmgfblbpdpaaGreatDoorTie
import Derived.JoinedCond
import Derived.WalkKit
namespace Go.Proofs.YtlhlmgfblbpdpaaGreatDoor
set_option maxRecDepth 100000

theorem tunedRow_nam : (Rows.tunedRow.named == Tryz.pinned.checked.prog.varsNamed 4) = true := by kernel_rfl
theorem tunedRow_plk : (Rows.tunedRow.plainKeys == Tryz.pinned.checked.prog.plainKeys) = true := by kernel_rfl
theorem tunedRow_mapsR : mapsRowed Tryz.pinned.checked.prog = true := by kernel_rfl
end Go.Proofs.YtlhlmgfblbpdpaaGreatDoor
