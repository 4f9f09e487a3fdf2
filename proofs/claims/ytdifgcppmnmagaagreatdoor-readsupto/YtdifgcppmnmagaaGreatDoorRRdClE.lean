import Derived.Test.YtdifgcppmnmagaaGreatDoorRRdClA
import Derived.Test.YtdifgcppmnmagaaGreatDoorRRdClB
import Derived.Test.YtdifgcppmnmagaaGreatDoorRRdClC
import Derived.Test.YtdifgcppmnmagaaGreatDoorRRdClD
set_option linter.unusedVariables false
set_option linter.unusedSimpArgs false
/-
  Closed facts of the row readsUptoRow: all of them.
-/
namespace Go.Proofs.YtdifgcppmnmagaaGreatDoor
set_option maxRecDepth 100000

theorem readsUptoRow_and {a b : Bool} (h : a = true) (k : b = true) : (a && b) = true := by rw [h, k]; rfl
theorem readsUptoRow_wf : Rows.readsUptoRow.wf (OpenSpec.ofChange (Rows.OpenSpec.upto Rows.readsSpec).bare) = true := by kernel_rfl
theorem readsUptoRow_params : Tryz.f4.params.all (Tryz.pinned.checked.prog.readableRec ·) = true := by kernel_rfl
theorem readsUptoRow_tieN : namedTie Tryz.pinned.checked.prog Rows.readsUptoRow.named (Rows.OpenSpec.upto Rows.readsSpec).bare.vars = true := by kernel_rfl
theorem readsUptoRow_s1 : (Rows.readsUptoRow.stops == []) = true := by kernel_rfl
theorem readsUptoRow_s2 : (Tryz.pinned.checked.prog.stops == []) = true := by kernel_rfl
theorem readsUptoRow_s3 : (Rows.readsUptoRow.knobs == []) = true := by kernel_rfl
theorem readsUptoRow_s4 : (Tryz.pinned.checked.prog.stopKnobs == []) = true := by kernel_rfl
theorem readsUptoRow_maps : (Rows.readsUptoRow.maps == (Tryz.f4.params.toList ++ (Rows.OpenSpec.upto Rows.readsSpec).bare.plain.varTypes Tryz.pinned.checked.prog).any (Tryz.pinned.checked.prog.mapsRec ·)) = true := by kernel_rfl
theorem readsUptoRow_ifc : (Rows.readsUptoRow.ifaces == (Tryz.f4.params.toList ++ (Rows.OpenSpec.upto Rows.readsSpec).bare.plain.varTypes Tryz.pinned.checked.prog).any (Tryz.pinned.checked.prog.ifacesRec ·)) = true := by kernel_rfl
theorem readsUptoRow_mapO : (Rows.readsUptoRow.mapsOut == Tryz.pinned.checked.prog.mapsAmong Tryz.f4.resultTypes.toList) = true := by kernel_rfl
theorem readsUptoRow_loops : (Rows.readsUptoRow.loops == (Tryz.f4.params.toList ++ (Rows.OpenSpec.upto Rows.readsSpec).bare.plain.varTypes Tryz.pinned.checked.prog).any (Tryz.pinned.checked.prog.loopsFrom ·)) = true := by kernel_rfl
theorem readsUptoRow_wide : (Rows.readsUptoRow.wideKeys == (Tryz.f4.params.toList ++ (Rows.OpenSpec.upto Rows.readsSpec).bare.plain.varTypes Tryz.pinned.checked.prog ++ Tryz.f4.resultTypes.toList).any (Tryz.pinned.checked.prog.wideKeysFrom ·)) = true := by kernel_rfl
theorem readsUptoRow_vars : (Rows.OpenSpec.upto Rows.readsSpec).bare.vars.all (Tryz.pinned.checked.prog.varReadable ·) = true := by kernel_rfl
theorem readsUptoRow_resT : Tryz.f4.resultTypes.all (fun t => Tryz.pinned.checked.prog.readableRec t && decide (t < Tryz.pinned.checked.prog.types.size)) = true := by kernel_rfl
theorem readsUptoRow_ifO : (Rows.readsUptoRow.ifacesOut == Tryz.f4.resultTypes.toList.any (Tryz.pinned.checked.prog.ifacesRec ·)) = true := by kernel_rfl
theorem readsUptoRow_lpO : (Rows.readsUptoRow.loopsOut == Tryz.f4.resultTypes.toList.any (Tryz.pinned.checked.prog.loopsFrom ·)) = true := by kernel_rfl
theorem readsUptoRow_sht : Rows.readsUptoRow.shortTexts.isNone = true := by kernel_rfl
theorem readsUptoRow_hea : Tryz.pinned.checked.prog.stopsHeard = true := by kernel_rfl
theorem readsUptoRow_ent : Tryz.pinned.checked.prog.mayEnter = true := by kernel_rfl
theorem readsUptoRow_lif : (Rows.readsUptoRow.lifted == Tryz.pinned.checked.prog.liftsFinal) = true := by kernel_rfl
theorem readsUptoRow_mak : (Tryz.pinned.checked.prog.make == some Rows.readsUptoRow.make) = true := by kernel_rfl
theorem readsUptoRow_kin : (Rows.readsUptoRow.kinds == (if Rows.readsUptoRow.domain.isEmpty then [] else Tryz.f4.params.toList.map fun t => match Tryz.pinned.checked.prog.underlying t with | some (.int k) => some k | _ => none)) = true := by kernel_rfl
theorem readsUptoRow_pin : (Rows.readsUptoRow.pinned == Rows.readsUptoRow.pinnedBy) = true := by kernel_rfl
theorem readsUptoRow_vei : (Rows.readsUptoRow.veiled == (Tryz.f4.params.toList ++ (Rows.OpenSpec.upto Rows.readsSpec).bare.plain.varTypes Tryz.pinned.checked.prog ++ Tryz.f4.resultTypes.toList).any (Tryz.pinned.checked.prog.veiledRec ·)) = true := by kernel_rfl
theorem readsUptoRow_veF : Rows.readsUptoRow.veiledFits Tryz.pinned.checked.prog Tryz.f4.params.toList (Tryz.f4.params.toList ++ (Rows.OpenSpec.upto Rows.readsSpec).bare.plain.varTypes Tryz.pinned.checked.prog ++ Tryz.f4.resultTypes.toList) = true := by kernel_rfl
theorem readsUptoRow_closed : joinedFacts Tryz.pinned.checked.prog 4 Tryz.f4 (Rows.OpenSpec.upto Rows.readsSpec).bare Rows.readsUptoRow = true := (readsUptoRow_and (readsUptoRow_and (readsUptoRow_and (readsUptoRow_and (readsUptoRow_and (readsUptoRow_and (readsUptoRow_and (readsUptoRow_and (readsUptoRow_and (readsUptoRow_and (readsUptoRow_and (readsUptoRow_and (readsUptoRow_and (readsUptoRow_and (readsUptoRow_and (readsUptoRow_and (readsUptoRow_and (readsUptoRow_and (readsUptoRow_and (readsUptoRow_and (readsUptoRow_and (readsUptoRow_and (readsUptoRow_and (readsUptoRow_and (readsUptoRow_and (readsUptoRow_and (readsUptoRow_and (readsUptoRow_and (readsUptoRow_and (readsUptoRow_and (readsUptoRow_and readsUptoRow_wf readsUptoRow_laid) readsUptoRow_mapsR) readsUptoRow_params) readsUptoRow_tieN) readsUptoRow_s1) readsUptoRow_s2) readsUptoRow_s3) readsUptoRow_s4) readsUptoRow_inP) readsUptoRow_unf) readsUptoRow_rec) readsUptoRow_nam) readsUptoRow_maps) readsUptoRow_ifc) readsUptoRow_mapO) readsUptoRow_loops) readsUptoRow_wide) readsUptoRow_vars) readsUptoRow_resT) readsUptoRow_ifO) readsUptoRow_lpO) readsUptoRow_plk) readsUptoRow_sht) readsUptoRow_hea) readsUptoRow_ent) readsUptoRow_lif) readsUptoRow_mak) readsUptoRow_kin) readsUptoRow_pin) readsUptoRow_vei) readsUptoRow_veF)
end Go.Proofs.YtdifgcppmnmagaaGreatDoor
