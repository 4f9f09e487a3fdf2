import Derived.Test.YtiphkngfbpdeoaaGreatDoorUDrClA
import Derived.Test.YtiphkngfbpdeoaaGreatDoorUDrClB
import Derived.Test.YtiphkngfbpdeoaaGreatDoorUDrClC
import Derived.Test.YtiphkngfbpdeoaaGreatDoorUDrClD
set_option linter.unusedVariables false
set_option linter.unusedSimpArgs false
/-
  Closed facts of the row droppedRow: all of them.
-/
namespace Go.Proofs.YtiphkngfbpdeoaaGreatDoor
set_option maxRecDepth 100000

theorem droppedRow_and {a b : Bool} (h : a = true) (k : b = true) : (a && b) = true := by rw [h, k]; rfl
theorem droppedRow_wf : Rows.droppedRow.wf (OpenSpec.ofChange Rows.droppedSpec) = true := by kernel_rfl
theorem droppedRow_params : Tryz.f3.params.all (Tryz.pinned.checked.prog.readableRec ·) = true := by kernel_rfl
theorem droppedRow_tieN : namedTie Tryz.pinned.checked.prog Rows.droppedRow.named Rows.droppedSpec.vars = true := by kernel_rfl
theorem droppedRow_s1 : (Rows.droppedRow.stops == []) = true := by kernel_rfl
theorem droppedRow_s2 : (Tryz.pinned.checked.prog.stops == []) = true := by kernel_rfl
theorem droppedRow_s3 : (Rows.droppedRow.knobs == []) = true := by kernel_rfl
theorem droppedRow_s4 : (Tryz.pinned.checked.prog.stopKnobs == []) = true := by kernel_rfl
theorem droppedRow_maps : (Rows.droppedRow.maps == (Tryz.f3.params.toList ++ Rows.droppedSpec.plain.varTypes Tryz.pinned.checked.prog).any (Tryz.pinned.checked.prog.mapsRec ·)) = true := by kernel_rfl
theorem droppedRow_ifc : (Rows.droppedRow.ifaces == (Tryz.f3.params.toList ++ Rows.droppedSpec.plain.varTypes Tryz.pinned.checked.prog).any (Tryz.pinned.checked.prog.ifacesRec ·)) = true := by kernel_rfl
theorem droppedRow_mapO : (Rows.droppedRow.mapsOut == Tryz.pinned.checked.prog.mapsAmong Tryz.f3.resultTypes.toList) = true := by kernel_rfl
theorem droppedRow_loops : (Rows.droppedRow.loops == (Tryz.f3.params.toList ++ Rows.droppedSpec.plain.varTypes Tryz.pinned.checked.prog).any (Tryz.pinned.checked.prog.loopsFrom ·)) = true := by kernel_rfl
theorem droppedRow_wide : (Rows.droppedRow.wideKeys == (Tryz.f3.params.toList ++ Rows.droppedSpec.plain.varTypes Tryz.pinned.checked.prog ++ Tryz.f3.resultTypes.toList).any (Tryz.pinned.checked.prog.wideKeysFrom ·)) = true := by kernel_rfl
theorem droppedRow_vars : Rows.droppedSpec.vars.all (Tryz.pinned.checked.prog.varReadable ·) = true := by kernel_rfl
theorem droppedRow_resT : Tryz.f3.resultTypes.all (fun t => Tryz.pinned.checked.prog.readableRec t && decide (t < Tryz.pinned.checked.prog.types.size)) = true := by kernel_rfl
theorem droppedRow_ifO : (Rows.droppedRow.ifacesOut == Tryz.f3.resultTypes.toList.any (Tryz.pinned.checked.prog.ifacesRec ·)) = true := by kernel_rfl
theorem droppedRow_lpO : (Rows.droppedRow.loopsOut == Tryz.f3.resultTypes.toList.any (Tryz.pinned.checked.prog.loopsFrom ·)) = true := by kernel_rfl
theorem droppedRow_sht : Rows.droppedRow.shortTexts.isNone = true := by kernel_rfl
theorem droppedRow_hea : Tryz.pinned.checked.prog.stopsHeard = true := by kernel_rfl
theorem droppedRow_ent : Tryz.pinned.checked.prog.mayEnter = true := by kernel_rfl
theorem droppedRow_lif : (Rows.droppedRow.lifted == Tryz.pinned.checked.prog.liftsFinal) = true := by kernel_rfl
theorem droppedRow_mak : (Tryz.pinned.checked.prog.make == some Rows.droppedRow.make) = true := by kernel_rfl
theorem droppedRow_kin : (Rows.droppedRow.kinds == (if Rows.droppedRow.domain.isEmpty then [] else Tryz.f3.params.toList.map fun t => match Tryz.pinned.checked.prog.underlying t with | some (.int k) => some k | _ => none)) = true := by kernel_rfl
theorem droppedRow_pin : (Rows.droppedRow.pinned == Rows.droppedRow.pinnedBy) = true := by kernel_rfl
theorem droppedRow_vei : (Rows.droppedRow.veiled == (Tryz.f3.params.toList ++ Rows.droppedSpec.plain.varTypes Tryz.pinned.checked.prog ++ Tryz.f3.resultTypes.toList).any (Tryz.pinned.checked.prog.veiledRec ·)) = true := by kernel_rfl
theorem droppedRow_veF : Rows.droppedRow.veiledFits Tryz.pinned.checked.prog Tryz.f3.params.toList (Tryz.f3.params.toList ++ Rows.droppedSpec.plain.varTypes Tryz.pinned.checked.prog ++ Tryz.f3.resultTypes.toList) = true := by kernel_rfl
theorem droppedRow_closed : joinedFacts Tryz.pinned.checked.prog 3 Tryz.f3 Rows.droppedSpec Rows.droppedRow = true := (droppedRow_and (droppedRow_and (droppedRow_and (droppedRow_and (droppedRow_and (droppedRow_and (droppedRow_and (droppedRow_and (droppedRow_and (droppedRow_and (droppedRow_and (droppedRow_and (droppedRow_and (droppedRow_and (droppedRow_and (droppedRow_and (droppedRow_and (droppedRow_and (droppedRow_and (droppedRow_and (droppedRow_and (droppedRow_and (droppedRow_and (droppedRow_and (droppedRow_and (droppedRow_and (droppedRow_and (droppedRow_and (droppedRow_and (droppedRow_and (droppedRow_and droppedRow_wf droppedRow_laid) droppedRow_mapsR) droppedRow_params) droppedRow_tieN) droppedRow_s1) droppedRow_s2) droppedRow_s3) droppedRow_s4) droppedRow_inP) droppedRow_unf) droppedRow_rec) droppedRow_nam) droppedRow_maps) droppedRow_ifc) droppedRow_mapO) droppedRow_loops) droppedRow_wide) droppedRow_vars) droppedRow_resT) droppedRow_ifO) droppedRow_lpO) droppedRow_plk) droppedRow_sht) droppedRow_hea) droppedRow_ent) droppedRow_lif) droppedRow_mak) droppedRow_kin) droppedRow_pin) droppedRow_vei) droppedRow_veF)
end Go.Proofs.YtiphkngfbpdeoaaGreatDoor
