import Derived.Test.YtdifgcppmnmagaaGreatDoorWWrClA
import Derived.Test.YtdifgcppmnmagaaGreatDoorWWrClB
import Derived.Test.YtdifgcppmnmagaaGreatDoorWWrClC
import Derived.Test.YtdifgcppmnmagaaGreatDoorWWrClD
set_option linter.unusedVariables false
set_option linter.unusedSimpArgs false
/-
  Closed facts of the row writesUptoRow: all of them.
-/
namespace Go.Proofs.YtdifgcppmnmagaaGreatDoor
set_option maxRecDepth 100000

theorem writesUptoRow_and {a b : Bool} (h : a = true) (k : b = true) : (a && b) = true := by rw [h, k]; rfl
theorem writesUptoRow_wf : Rows.writesUptoRow.wf (OpenSpec.ofChange (Rows.OpenSpec.upto Rows.writesSpec).bare) = true := by kernel_rfl
theorem writesUptoRow_params : Tryz.f3.params.all (Tryz.pinned.checked.prog.readableRec ·) = true := by kernel_rfl
theorem writesUptoRow_tieN : namedTie Tryz.pinned.checked.prog Rows.writesUptoRow.named (Rows.OpenSpec.upto Rows.writesSpec).bare.vars = true := by kernel_rfl
theorem writesUptoRow_s1 : (Rows.writesUptoRow.stops == []) = true := by kernel_rfl
theorem writesUptoRow_s2 : (Tryz.pinned.checked.prog.stops == []) = true := by kernel_rfl
theorem writesUptoRow_s3 : (Rows.writesUptoRow.knobs == []) = true := by kernel_rfl
theorem writesUptoRow_s4 : (Tryz.pinned.checked.prog.stopKnobs == []) = true := by kernel_rfl
theorem writesUptoRow_maps : (Rows.writesUptoRow.maps == (Tryz.f3.params.toList ++ (Rows.OpenSpec.upto Rows.writesSpec).bare.plain.varTypes Tryz.pinned.checked.prog).any (Tryz.pinned.checked.prog.mapsRec ·)) = true := by kernel_rfl
theorem writesUptoRow_ifc : (Rows.writesUptoRow.ifaces == (Tryz.f3.params.toList ++ (Rows.OpenSpec.upto Rows.writesSpec).bare.plain.varTypes Tryz.pinned.checked.prog).any (Tryz.pinned.checked.prog.ifacesRec ·)) = true := by kernel_rfl
theorem writesUptoRow_mapO : (Rows.writesUptoRow.mapsOut == Tryz.pinned.checked.prog.mapsAmong Tryz.f3.resultTypes.toList) = true := by kernel_rfl
theorem writesUptoRow_loops : (Rows.writesUptoRow.loops == (Tryz.f3.params.toList ++ (Rows.OpenSpec.upto Rows.writesSpec).bare.plain.varTypes Tryz.pinned.checked.prog).any (Tryz.pinned.checked.prog.loopsFrom ·)) = true := by kernel_rfl
theorem writesUptoRow_wide : (Rows.writesUptoRow.wideKeys == (Tryz.f3.params.toList ++ (Rows.OpenSpec.upto Rows.writesSpec).bare.plain.varTypes Tryz.pinned.checked.prog ++ Tryz.f3.resultTypes.toList).any (Tryz.pinned.checked.prog.wideKeysFrom ·)) = true := by kernel_rfl
theorem writesUptoRow_vars : (Rows.OpenSpec.upto Rows.writesSpec).bare.vars.all (Tryz.pinned.checked.prog.varReadable ·) = true := by kernel_rfl
theorem writesUptoRow_resT : Tryz.f3.resultTypes.all (fun t => Tryz.pinned.checked.prog.readableRec t && decide (t < Tryz.pinned.checked.prog.types.size)) = true := by kernel_rfl
theorem writesUptoRow_ifO : (Rows.writesUptoRow.ifacesOut == Tryz.f3.resultTypes.toList.any (Tryz.pinned.checked.prog.ifacesRec ·)) = true := by kernel_rfl
theorem writesUptoRow_lpO : (Rows.writesUptoRow.loopsOut == Tryz.f3.resultTypes.toList.any (Tryz.pinned.checked.prog.loopsFrom ·)) = true := by kernel_rfl
theorem writesUptoRow_sht : Rows.writesUptoRow.shortTexts.isNone = true := by kernel_rfl
theorem writesUptoRow_hea : Tryz.pinned.checked.prog.stopsHeard = true := by kernel_rfl
theorem writesUptoRow_ent : Tryz.pinned.checked.prog.mayEnter = true := by kernel_rfl
theorem writesUptoRow_lif : (Rows.writesUptoRow.lifted == Tryz.pinned.checked.prog.liftsFinal) = true := by kernel_rfl
theorem writesUptoRow_mak : (Tryz.pinned.checked.prog.make == some Rows.writesUptoRow.make) = true := by kernel_rfl
theorem writesUptoRow_kin : (Rows.writesUptoRow.kinds == (if Rows.writesUptoRow.domain.isEmpty then [] else Tryz.f3.params.toList.map fun t => match Tryz.pinned.checked.prog.underlying t with | some (.int k) => some k | _ => none)) = true := by kernel_rfl
theorem writesUptoRow_pin : (Rows.writesUptoRow.pinned == Rows.writesUptoRow.pinnedBy) = true := by kernel_rfl
theorem writesUptoRow_vei : (Rows.writesUptoRow.veiled == (Tryz.f3.params.toList ++ (Rows.OpenSpec.upto Rows.writesSpec).bare.plain.varTypes Tryz.pinned.checked.prog ++ Tryz.f3.resultTypes.toList).any (Tryz.pinned.checked.prog.veiledRec ·)) = true := by kernel_rfl
theorem writesUptoRow_veF : Rows.writesUptoRow.veiledFits Tryz.pinned.checked.prog Tryz.f3.params.toList (Tryz.f3.params.toList ++ (Rows.OpenSpec.upto Rows.writesSpec).bare.plain.varTypes Tryz.pinned.checked.prog ++ Tryz.f3.resultTypes.toList) = true := by kernel_rfl
theorem writesUptoRow_closed : joinedFacts Tryz.pinned.checked.prog 3 Tryz.f3 (Rows.OpenSpec.upto Rows.writesSpec).bare Rows.writesUptoRow = true := (writesUptoRow_and (writesUptoRow_and (writesUptoRow_and (writesUptoRow_and (writesUptoRow_and (writesUptoRow_and (writesUptoRow_and (writesUptoRow_and (writesUptoRow_and (writesUptoRow_and (writesUptoRow_and (writesUptoRow_and (writesUptoRow_and (writesUptoRow_and (writesUptoRow_and (writesUptoRow_and (writesUptoRow_and (writesUptoRow_and (writesUptoRow_and (writesUptoRow_and (writesUptoRow_and (writesUptoRow_and (writesUptoRow_and (writesUptoRow_and (writesUptoRow_and (writesUptoRow_and (writesUptoRow_and (writesUptoRow_and (writesUptoRow_and (writesUptoRow_and (writesUptoRow_and writesUptoRow_wf writesUptoRow_laid) writesUptoRow_mapsR) writesUptoRow_params) writesUptoRow_tieN) writesUptoRow_s1) writesUptoRow_s2) writesUptoRow_s3) writesUptoRow_s4) writesUptoRow_inP) writesUptoRow_unf) writesUptoRow_rec) writesUptoRow_nam) writesUptoRow_maps) writesUptoRow_ifc) writesUptoRow_mapO) writesUptoRow_loops) writesUptoRow_wide) writesUptoRow_vars) writesUptoRow_resT) writesUptoRow_ifO) writesUptoRow_lpO) writesUptoRow_plk) writesUptoRow_sht) writesUptoRow_hea) writesUptoRow_ent) writesUptoRow_lif) writesUptoRow_mak) writesUptoRow_kin) writesUptoRow_pin) writesUptoRow_vei) writesUptoRow_veF)
end Go.Proofs.YtdifgcppmnmagaaGreatDoor
