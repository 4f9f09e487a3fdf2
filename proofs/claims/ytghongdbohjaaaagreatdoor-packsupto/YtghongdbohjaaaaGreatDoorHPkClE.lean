import Derived.Test.YtghongdbohjaaaaGreatDoorHPkClA
import Derived.Test.YtghongdbohjaaaaGreatDoorHPkClB
import Derived.Test.YtghongdbohjaaaaGreatDoorHPkClC
import Derived.Test.YtghongdbohjaaaaGreatDoorHPkClD
set_option linter.unusedVariables false
set_option linter.unusedSimpArgs false
/-
  Closed facts of the row packsUptoRow: all of them.
-/
namespace Go.Proofs.YtghongdbohjaaaaGreatDoor
set_option maxRecDepth 100000

theorem packsUptoRow_and {a b : Bool} (h : a = true) (k : b = true) : (a && b) = true := by rw [h, k]; rfl
theorem packsUptoRow_wf : Rows.packsUptoRow.wf (OpenSpec.ofChange (Rows.OpenSpec.upto Rows.packsSpec).bare) = true := by kernel_rfl
theorem packsUptoRow_params : Tryz.f3.params.all (Tryz.pinned.checked.prog.readableRec ·) = true := by kernel_rfl
theorem packsUptoRow_tieN : namedTie Tryz.pinned.checked.prog Rows.packsUptoRow.named (Rows.OpenSpec.upto Rows.packsSpec).bare.vars = true := by kernel_rfl
theorem packsUptoRow_s1 : (Rows.packsUptoRow.stops == []) = true := by kernel_rfl
theorem packsUptoRow_s2 : (Tryz.pinned.checked.prog.stops == []) = true := by kernel_rfl
theorem packsUptoRow_s3 : (Rows.packsUptoRow.knobs == []) = true := by kernel_rfl
theorem packsUptoRow_s4 : (Tryz.pinned.checked.prog.stopKnobs == []) = true := by kernel_rfl
theorem packsUptoRow_maps : (Rows.packsUptoRow.maps == (Tryz.f3.params.toList ++ (Rows.OpenSpec.upto Rows.packsSpec).bare.plain.varTypes Tryz.pinned.checked.prog).any (Tryz.pinned.checked.prog.mapsRec ·)) = true := by kernel_rfl
theorem packsUptoRow_ifc : (Rows.packsUptoRow.ifaces == (Tryz.f3.params.toList ++ (Rows.OpenSpec.upto Rows.packsSpec).bare.plain.varTypes Tryz.pinned.checked.prog).any (Tryz.pinned.checked.prog.ifacesRec ·)) = true := by kernel_rfl
theorem packsUptoRow_mapO : (Rows.packsUptoRow.mapsOut == Tryz.pinned.checked.prog.mapsAmong Tryz.f3.resultTypes.toList) = true := by kernel_rfl
theorem packsUptoRow_loops : (Rows.packsUptoRow.loops == (Tryz.f3.params.toList ++ (Rows.OpenSpec.upto Rows.packsSpec).bare.plain.varTypes Tryz.pinned.checked.prog).any (Tryz.pinned.checked.prog.loopsFrom ·)) = true := by kernel_rfl
theorem packsUptoRow_wide : (Rows.packsUptoRow.wideKeys == (Tryz.f3.params.toList ++ (Rows.OpenSpec.upto Rows.packsSpec).bare.plain.varTypes Tryz.pinned.checked.prog ++ Tryz.f3.resultTypes.toList).any (Tryz.pinned.checked.prog.wideKeysFrom ·)) = true := by kernel_rfl
theorem packsUptoRow_vars : (Rows.OpenSpec.upto Rows.packsSpec).bare.vars.all (Tryz.pinned.checked.prog.varReadable ·) = true := by kernel_rfl
theorem packsUptoRow_resT : Tryz.f3.resultTypes.all (fun t => Tryz.pinned.checked.prog.readableRec t && decide (t < Tryz.pinned.checked.prog.types.size)) = true := by kernel_rfl
theorem packsUptoRow_ifO : (Rows.packsUptoRow.ifacesOut == Tryz.f3.resultTypes.toList.any (Tryz.pinned.checked.prog.ifacesRec ·)) = true := by kernel_rfl
theorem packsUptoRow_lpO : (Rows.packsUptoRow.loopsOut == Tryz.f3.resultTypes.toList.any (Tryz.pinned.checked.prog.loopsFrom ·)) = true := by kernel_rfl
theorem packsUptoRow_sht : Rows.packsUptoRow.shortTexts.isNone = true := by kernel_rfl
theorem packsUptoRow_hea : Tryz.pinned.checked.prog.stopsHeard = true := by kernel_rfl
theorem packsUptoRow_ent : Tryz.pinned.checked.prog.mayEnter = true := by kernel_rfl
theorem packsUptoRow_lif : (Rows.packsUptoRow.lifted == Tryz.pinned.checked.prog.liftsFinal) = true := by kernel_rfl
theorem packsUptoRow_mak : (Tryz.pinned.checked.prog.make == some Rows.packsUptoRow.make) = true := by kernel_rfl
theorem packsUptoRow_kin : (Rows.packsUptoRow.kinds == (if Rows.packsUptoRow.domain.isEmpty then [] else Tryz.f3.params.toList.map fun t => match Tryz.pinned.checked.prog.underlying t with | some (.int k) => some k | _ => none)) = true := by kernel_rfl
theorem packsUptoRow_pin : (Rows.packsUptoRow.pinned == Rows.packsUptoRow.pinnedBy) = true := by kernel_rfl
theorem packsUptoRow_vei : (Rows.packsUptoRow.veiled == (Tryz.f3.params.toList ++ (Rows.OpenSpec.upto Rows.packsSpec).bare.plain.varTypes Tryz.pinned.checked.prog ++ Tryz.f3.resultTypes.toList).any (Tryz.pinned.checked.prog.veiledRec ·)) = true := by kernel_rfl
theorem packsUptoRow_veF : Rows.packsUptoRow.veiledFits Tryz.pinned.checked.prog Tryz.f3.params.toList (Tryz.f3.params.toList ++ (Rows.OpenSpec.upto Rows.packsSpec).bare.plain.varTypes Tryz.pinned.checked.prog ++ Tryz.f3.resultTypes.toList) = true := by kernel_rfl
theorem packsUptoRow_closed : joinedFacts Tryz.pinned.checked.prog 3 Tryz.f3 (Rows.OpenSpec.upto Rows.packsSpec).bare Rows.packsUptoRow = true := (packsUptoRow_and (packsUptoRow_and (packsUptoRow_and (packsUptoRow_and (packsUptoRow_and (packsUptoRow_and (packsUptoRow_and (packsUptoRow_and (packsUptoRow_and (packsUptoRow_and (packsUptoRow_and (packsUptoRow_and (packsUptoRow_and (packsUptoRow_and (packsUptoRow_and (packsUptoRow_and (packsUptoRow_and (packsUptoRow_and (packsUptoRow_and (packsUptoRow_and (packsUptoRow_and (packsUptoRow_and (packsUptoRow_and (packsUptoRow_and (packsUptoRow_and (packsUptoRow_and (packsUptoRow_and (packsUptoRow_and (packsUptoRow_and (packsUptoRow_and (packsUptoRow_and packsUptoRow_wf packsUptoRow_laid) packsUptoRow_mapsR) packsUptoRow_params) packsUptoRow_tieN) packsUptoRow_s1) packsUptoRow_s2) packsUptoRow_s3) packsUptoRow_s4) packsUptoRow_inP) packsUptoRow_unf) packsUptoRow_rec) packsUptoRow_nam) packsUptoRow_maps) packsUptoRow_ifc) packsUptoRow_mapO) packsUptoRow_loops) packsUptoRow_wide) packsUptoRow_vars) packsUptoRow_resT) packsUptoRow_ifO) packsUptoRow_lpO) packsUptoRow_plk) packsUptoRow_sht) packsUptoRow_hea) packsUptoRow_ent) packsUptoRow_lif) packsUptoRow_mak) packsUptoRow_kin) packsUptoRow_pin) packsUptoRow_vei) packsUptoRow_veF)
end Go.Proofs.YtghongdbohjaaaaGreatDoor
