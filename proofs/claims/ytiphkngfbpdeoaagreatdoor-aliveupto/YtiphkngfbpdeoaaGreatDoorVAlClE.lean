import Derived.Test.YtiphkngfbpdeoaaGreatDoorVAlClA
import Derived.Test.YtiphkngfbpdeoaaGreatDoorVAlClB
import Derived.Test.YtiphkngfbpdeoaaGreatDoorVAlClC
import Derived.Test.YtiphkngfbpdeoaaGreatDoorVAlClD
set_option linter.unusedVariables false
set_option linter.unusedSimpArgs false
namespace Go.Proofs.YtiphkngfbpdeoaaGreatDoor
set_option maxRecDepth 100000
theorem aliveUptoRow_and {a b : Bool} (h : a = true) (k : b = true) : (a && b) = true := by rw [h, k]; rfl
theorem aliveUptoRow_wf : Rows.aliveUptoRow.wf (OpenSpec.ofChange (Rows.OpenSpec.upto Rows.aliveSpec).bare) = true := by kernel_rfl
theorem aliveUptoRow_params : Tryz.f4.params.all (Tryz.pinned.checked.prog.readableRec ·) = true := by kernel_rfl
theorem aliveUptoRow_tieN : namedTie Tryz.pinned.checked.prog Rows.aliveUptoRow.named (Rows.OpenSpec.upto Rows.aliveSpec).bare.vars = true := by kernel_rfl
theorem aliveUptoRow_s1 : (Rows.aliveUptoRow.stops == []) = true := by kernel_rfl
theorem aliveUptoRow_s2 : (Tryz.pinned.checked.prog.stops == []) = true := by kernel_rfl
theorem aliveUptoRow_s3 : (Rows.aliveUptoRow.knobs == []) = true := by kernel_rfl
theorem aliveUptoRow_s4 : (Tryz.pinned.checked.prog.stopKnobs == []) = true := by kernel_rfl
theorem aliveUptoRow_maps : (Rows.aliveUptoRow.maps == (Tryz.f4.params.toList ++ (Rows.OpenSpec.upto Rows.aliveSpec).bare.plain.varTypes Tryz.pinned.checked.prog).any (Tryz.pinned.checked.prog.mapsRec ·)) = true := by kernel_rfl
theorem aliveUptoRow_ifc : (Rows.aliveUptoRow.ifaces == (Tryz.f4.params.toList ++ (Rows.OpenSpec.upto Rows.aliveSpec).bare.plain.varTypes Tryz.pinned.checked.prog).any (Tryz.pinned.checked.prog.ifacesRec ·)) = true := by kernel_rfl
theorem aliveUptoRow_mapO : (Rows.aliveUptoRow.mapsOut == Tryz.pinned.checked.prog.mapsAmong Tryz.f4.resultTypes.toList) = true := by kernel_rfl
theorem aliveUptoRow_loops : (Rows.aliveUptoRow.loops == (Tryz.f4.params.toList ++ (Rows.OpenSpec.upto Rows.aliveSpec).bare.plain.varTypes Tryz.pinned.checked.prog).any (Tryz.pinned.checked.prog.loopsFrom ·)) = true := by kernel_rfl
theorem aliveUptoRow_wide : (Rows.aliveUptoRow.wideKeys == (Tryz.f4.params.toList ++ (Rows.OpenSpec.upto Rows.aliveSpec).bare.plain.varTypes Tryz.pinned.checked.prog ++ Tryz.f4.resultTypes.toList).any (Tryz.pinned.checked.prog.wideKeysFrom ·)) = true := by kernel_rfl
theorem aliveUptoRow_vars : (Rows.OpenSpec.upto Rows.aliveSpec).bare.vars.all (Tryz.pinned.checked.prog.varReadable ·) = true := by kernel_rfl
theorem aliveUptoRow_resT : Tryz.f4.resultTypes.all (fun t => Tryz.pinned.checked.prog.readableRec t && decide (t < Tryz.pinned.checked.prog.types.size)) = true := by kernel_rfl
theorem aliveUptoRow_ifO : (Rows.aliveUptoRow.ifacesOut == Tryz.f4.resultTypes.toList.any (Tryz.pinned.checked.prog.ifacesRec ·)) = true := by kernel_rfl
theorem aliveUptoRow_lpO : (Rows.aliveUptoRow.loopsOut == Tryz.f4.resultTypes.toList.any (Tryz.pinned.checked.prog.loopsFrom ·)) = true := by kernel_rfl
theorem aliveUptoRow_sht : Rows.aliveUptoRow.shortTexts.isNone = true := by kernel_rfl
theorem aliveUptoRow_hea : Tryz.pinned.checked.prog.stopsHeard = true := by kernel_rfl
theorem aliveUptoRow_ent : Tryz.pinned.checked.prog.mayEnter = true := by kernel_rfl
theorem aliveUptoRow_lif : (Rows.aliveUptoRow.lifted == Tryz.pinned.checked.prog.liftsFinal) = true := by kernel_rfl
theorem aliveUptoRow_mak : (Tryz.pinned.checked.prog.make == some Rows.aliveUptoRow.make) = true := by kernel_rfl
theorem aliveUptoRow_kin : (Rows.aliveUptoRow.kinds == (if Rows.aliveUptoRow.domain.isEmpty then [] else Tryz.f4.params.toList.map fun t => match Tryz.pinned.checked.prog.underlying t with | some (.int k) => some k | _ => none)) = true := by kernel_rfl
theorem aliveUptoRow_pin : (Rows.aliveUptoRow.pinned == Rows.aliveUptoRow.pinnedBy) = true := by kernel_rfl
theorem aliveUptoRow_vei : (Rows.aliveUptoRow.veiled == (Tryz.f4.params.toList ++ (Rows.OpenSpec.upto Rows.aliveSpec).bare.plain.varTypes Tryz.pinned.checked.prog ++ Tryz.f4.resultTypes.toList).any (Tryz.pinned.checked.prog.veiledRec ·)) = true := by kernel_rfl
theorem aliveUptoRow_veF : Rows.aliveUptoRow.veiledFits Tryz.pinned.checked.prog Tryz.f4.params.toList (Tryz.f4.params.toList ++ (Rows.OpenSpec.upto Rows.aliveSpec).bare.plain.varTypes Tryz.pinned.checked.prog ++ Tryz.f4.resultTypes.toList) = true := by kernel_rfl
theorem aliveUptoRow_closed : joinedFacts Tryz.pinned.checked.prog 4 Tryz.f4 (Rows.OpenSpec.upto Rows.aliveSpec).bare Rows.aliveUptoRow = true := (aliveUptoRow_and (aliveUptoRow_and (aliveUptoRow_and (aliveUptoRow_and (aliveUptoRow_and (aliveUptoRow_and (aliveUptoRow_and (aliveUptoRow_and (aliveUptoRow_and (aliveUptoRow_and (aliveUptoRow_and (aliveUptoRow_and (aliveUptoRow_and (aliveUptoRow_and (aliveUptoRow_and (aliveUptoRow_and (aliveUptoRow_and (aliveUptoRow_and (aliveUptoRow_and (aliveUptoRow_and (aliveUptoRow_and (aliveUptoRow_and (aliveUptoRow_and (aliveUptoRow_and (aliveUptoRow_and (aliveUptoRow_and (aliveUptoRow_and (aliveUptoRow_and (aliveUptoRow_and (aliveUptoRow_and (aliveUptoRow_and aliveUptoRow_wf aliveUptoRow_laid) aliveUptoRow_mapsR) aliveUptoRow_params) aliveUptoRow_tieN) aliveUptoRow_s1) aliveUptoRow_s2) aliveUptoRow_s3) aliveUptoRow_s4) aliveUptoRow_inP) aliveUptoRow_unf) aliveUptoRow_rec) aliveUptoRow_nam) aliveUptoRow_maps) aliveUptoRow_ifc) aliveUptoRow_mapO) aliveUptoRow_loops) aliveUptoRow_wide) aliveUptoRow_vars) aliveUptoRow_resT) aliveUptoRow_ifO) aliveUptoRow_lpO) aliveUptoRow_plk) aliveUptoRow_sht) aliveUptoRow_hea) aliveUptoRow_ent) aliveUptoRow_lif) aliveUptoRow_mak) aliveUptoRow_kin) aliveUptoRow_pin) aliveUptoRow_vei) aliveUptoRow_veF)
end Go.Proofs.YtiphkngfbpdeoaaGreatDoor
