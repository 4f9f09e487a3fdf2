import Derived.Test.YtiphkngfbpdeoaaGreatDoorXAfClA
import Derived.Test.YtiphkngfbpdeoaaGreatDoorXAfClB
import Derived.Test.YtiphkngfbpdeoaaGreatDoorXAfClC
import Derived.Test.YtiphkngfbpdeoaaGreatDoorXAfClD
namespace Go.Proofs.YtiphkngfbpdeoaaGreatDoor
set_option maxRecDepth 100000
theorem aliveRow_and {a b : Bool} (h : a = true) (k : b = true) : (a && b) = true := by rw [h, k]; rfl
theorem aliveRow_wf : Rows.aliveRow.wf (OpenSpec.ofChange Rows.aliveSpec) = true := by kernel_rfl
theorem aliveRow_params : Tryz.f4.params.all (Tryz.pinned.checked.prog.readableRec ·) = true := by kernel_rfl
theorem aliveRow_tieN : namedTie Tryz.pinned.checked.prog Rows.aliveRow.named Rows.aliveSpec.vars = true := by kernel_rfl
theorem aliveRow_s1 : (Rows.aliveRow.stops == []) = true := by kernel_rfl
theorem aliveRow_s2 : (Tryz.pinned.checked.prog.stops == []) = true := by kernel_rfl
theorem aliveRow_s3 : (Rows.aliveRow.knobs == []) = true := by kernel_rfl
theorem aliveRow_s4 : (Tryz.pinned.checked.prog.stopKnobs == []) = true := by kernel_rfl
theorem aliveRow_maps : (Rows.aliveRow.maps == (Tryz.f4.params.toList ++ Rows.aliveSpec.plain.varTypes Tryz.pinned.checked.prog).any (Tryz.pinned.checked.prog.mapsRec ·)) = true := by kernel_rfl
theorem aliveRow_ifc : (Rows.aliveRow.ifaces == (Tryz.f4.params.toList ++ Rows.aliveSpec.plain.varTypes Tryz.pinned.checked.prog).any (Tryz.pinned.checked.prog.ifacesRec ·)) = true := by kernel_rfl
theorem aliveRow_mapO : (Rows.aliveRow.mapsOut == Tryz.pinned.checked.prog.mapsAmong Tryz.f4.resultTypes.toList) = true := by kernel_rfl
theorem aliveRow_loops : (Rows.aliveRow.loops == (Tryz.f4.params.toList ++ Rows.aliveSpec.plain.varTypes Tryz.pinned.checked.prog).any (Tryz.pinned.checked.prog.loopsFrom ·)) = true := by kernel_rfl
theorem aliveRow_wide : (Rows.aliveRow.wideKeys == (Tryz.f4.params.toList ++ Rows.aliveSpec.plain.varTypes Tryz.pinned.checked.prog ++ Tryz.f4.resultTypes.toList).any (Tryz.pinned.checked.prog.wideKeysFrom ·)) = true := by kernel_rfl
theorem aliveRow_vars : Rows.aliveSpec.vars.all (Tryz.pinned.checked.prog.varReadable ·) = true := by kernel_rfl
theorem aliveRow_resT : Tryz.f4.resultTypes.all (fun t => Tryz.pinned.checked.prog.readableRec t && decide (t < Tryz.pinned.checked.prog.types.size)) = true := by kernel_rfl
theorem aliveRow_ifO : (Rows.aliveRow.ifacesOut == Tryz.f4.resultTypes.toList.any (Tryz.pinned.checked.prog.ifacesRec ·)) = true := by kernel_rfl
theorem aliveRow_lpO : (Rows.aliveRow.loopsOut == Tryz.f4.resultTypes.toList.any (Tryz.pinned.checked.prog.loopsFrom ·)) = true := by kernel_rfl
theorem aliveRow_sht : Rows.aliveRow.shortTexts.isNone = true := by kernel_rfl
theorem aliveRow_hea : Tryz.pinned.checked.prog.stopsHeard = true := by kernel_rfl
theorem aliveRow_ent : Tryz.pinned.checked.prog.mayEnter = true := by kernel_rfl
theorem aliveRow_lif : (Rows.aliveRow.lifted == Tryz.pinned.checked.prog.liftsFinal) = true := by kernel_rfl
theorem aliveRow_mak : (Tryz.pinned.checked.prog.make == some Rows.aliveRow.make) = true := by kernel_rfl
theorem aliveRow_kin : (Rows.aliveRow.kinds == (if Rows.aliveRow.domain.isEmpty then [] else Tryz.f4.params.toList.map fun t => match Tryz.pinned.checked.prog.underlying t with | some (.int k) => some k | _ => none)) = true := by kernel_rfl
theorem aliveRow_pin : (Rows.aliveRow.pinned == Rows.aliveRow.pinnedBy) = true := by kernel_rfl
theorem aliveRow_vei : (Rows.aliveRow.veiled == (Tryz.f4.params.toList ++ Rows.aliveSpec.plain.varTypes Tryz.pinned.checked.prog ++ Tryz.f4.resultTypes.toList).any (Tryz.pinned.checked.prog.veiledRec ·)) = true := by kernel_rfl
theorem aliveRow_veF : Rows.aliveRow.veiledFits Tryz.pinned.checked.prog Tryz.f4.params.toList (Tryz.f4.params.toList ++ Rows.aliveSpec.plain.varTypes Tryz.pinned.checked.prog ++ Tryz.f4.resultTypes.toList) = true := by kernel_rfl
theorem aliveRow_closed : joinedFacts Tryz.pinned.checked.prog 4 Tryz.f4 Rows.aliveSpec Rows.aliveRow = true := (aliveRow_and (aliveRow_and (aliveRow_and (aliveRow_and (aliveRow_and (aliveRow_and (aliveRow_and (aliveRow_and (aliveRow_and (aliveRow_and (aliveRow_and (aliveRow_and (aliveRow_and (aliveRow_and (aliveRow_and (aliveRow_and (aliveRow_and (aliveRow_and (aliveRow_and (aliveRow_and (aliveRow_and (aliveRow_and (aliveRow_and (aliveRow_and (aliveRow_and (aliveRow_and (aliveRow_and (aliveRow_and (aliveRow_and (aliveRow_and (aliveRow_and aliveRow_wf aliveRow_laid) aliveRow_mapsR) aliveRow_params) aliveRow_tieN) aliveRow_s1) aliveRow_s2) aliveRow_s3) aliveRow_s4) aliveRow_inP) aliveRow_unf) aliveRow_rec) aliveRow_nam) aliveRow_maps) aliveRow_ifc) aliveRow_mapO) aliveRow_loops) aliveRow_wide) aliveRow_vars) aliveRow_resT) aliveRow_ifO) aliveRow_lpO) aliveRow_plk) aliveRow_sht) aliveRow_hea) aliveRow_ent) aliveRow_lif) aliveRow_mak) aliveRow_kin) aliveRow_pin) aliveRow_vei) aliveRow_veF)
end Go.Proofs.YtiphkngfbpdeoaaGreatDoor
