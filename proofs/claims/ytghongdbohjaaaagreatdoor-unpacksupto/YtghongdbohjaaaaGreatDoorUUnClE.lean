import Derived.Test.YtghongdbohjaaaaGreatDoorUUnClA
import Derived.Test.YtghongdbohjaaaaGreatDoorUUnClB
import Derived.Test.YtghongdbohjaaaaGreatDoorUUnClC
import Derived.Test.YtghongdbohjaaaaGreatDoorUUnClD
set_option linter.unusedVariables false
set_option linter.unusedSimpArgs false
/-
  Closed facts of the row unpacksUptoRow: all of them.
-/
namespace Go.Proofs.YtghongdbohjaaaaGreatDoor
set_option maxRecDepth 100000

theorem unpacksUptoRow_and {a b : Bool} (h : a = true) (k : b = true) : (a && b) = true := by rw [h, k]; rfl
theorem unpacksUptoRow_wf : Rows.unpacksUptoRow.wf (OpenSpec.ofChange (Rows.OpenSpec.upto Rows.unpacksSpec).bare) = true := by kernel_rfl
theorem unpacksUptoRow_params : Tryz.f4.params.all (Tryz.pinned.checked.prog.readableRec ·) = true := by kernel_rfl
theorem unpacksUptoRow_tieN : namedTie Tryz.pinned.checked.prog Rows.unpacksUptoRow.named (Rows.OpenSpec.upto Rows.unpacksSpec).bare.vars = true := by kernel_rfl
theorem unpacksUptoRow_s1 : (Rows.unpacksUptoRow.stops == []) = true := by kernel_rfl
theorem unpacksUptoRow_s2 : (Tryz.pinned.checked.prog.stops == []) = true := by kernel_rfl
theorem unpacksUptoRow_s3 : (Rows.unpacksUptoRow.knobs == []) = true := by kernel_rfl
theorem unpacksUptoRow_s4 : (Tryz.pinned.checked.prog.stopKnobs == []) = true := by kernel_rfl
theorem unpacksUptoRow_maps : (Rows.unpacksUptoRow.maps == (Tryz.f4.params.toList ++ (Rows.OpenSpec.upto Rows.unpacksSpec).bare.plain.varTypes Tryz.pinned.checked.prog).any (Tryz.pinned.checked.prog.mapsRec ·)) = true := by kernel_rfl
theorem unpacksUptoRow_ifc : (Rows.unpacksUptoRow.ifaces == (Tryz.f4.params.toList ++ (Rows.OpenSpec.upto Rows.unpacksSpec).bare.plain.varTypes Tryz.pinned.checked.prog).any (Tryz.pinned.checked.prog.ifacesRec ·)) = true := by kernel_rfl
theorem unpacksUptoRow_mapO : (Rows.unpacksUptoRow.mapsOut == Tryz.pinned.checked.prog.mapsAmong Tryz.f4.resultTypes.toList) = true := by kernel_rfl
theorem unpacksUptoRow_loops : (Rows.unpacksUptoRow.loops == (Tryz.f4.params.toList ++ (Rows.OpenSpec.upto Rows.unpacksSpec).bare.plain.varTypes Tryz.pinned.checked.prog).any (Tryz.pinned.checked.prog.loopsFrom ·)) = true := by kernel_rfl
theorem unpacksUptoRow_wide : (Rows.unpacksUptoRow.wideKeys == (Tryz.f4.params.toList ++ (Rows.OpenSpec.upto Rows.unpacksSpec).bare.plain.varTypes Tryz.pinned.checked.prog ++ Tryz.f4.resultTypes.toList).any (Tryz.pinned.checked.prog.wideKeysFrom ·)) = true := by kernel_rfl
theorem unpacksUptoRow_vars : (Rows.OpenSpec.upto Rows.unpacksSpec).bare.vars.all (Tryz.pinned.checked.prog.varReadable ·) = true := by kernel_rfl
theorem unpacksUptoRow_resT : Tryz.f4.resultTypes.all (fun t => Tryz.pinned.checked.prog.readableRec t && decide (t < Tryz.pinned.checked.prog.types.size)) = true := by kernel_rfl
theorem unpacksUptoRow_ifO : (Rows.unpacksUptoRow.ifacesOut == Tryz.f4.resultTypes.toList.any (Tryz.pinned.checked.prog.ifacesRec ·)) = true := by kernel_rfl
theorem unpacksUptoRow_lpO : (Rows.unpacksUptoRow.loopsOut == Tryz.f4.resultTypes.toList.any (Tryz.pinned.checked.prog.loopsFrom ·)) = true := by kernel_rfl
theorem unpacksUptoRow_sht : Rows.unpacksUptoRow.shortTexts.isNone = true := by kernel_rfl
theorem unpacksUptoRow_hea : Tryz.pinned.checked.prog.stopsHeard = true := by kernel_rfl
theorem unpacksUptoRow_ent : Tryz.pinned.checked.prog.mayEnter = true := by kernel_rfl
theorem unpacksUptoRow_lif : (Rows.unpacksUptoRow.lifted == Tryz.pinned.checked.prog.liftsFinal) = true := by kernel_rfl
theorem unpacksUptoRow_mak : (Tryz.pinned.checked.prog.make == some Rows.unpacksUptoRow.make) = true := by kernel_rfl
theorem unpacksUptoRow_kin : (Rows.unpacksUptoRow.kinds == (if Rows.unpacksUptoRow.domain.isEmpty then [] else Tryz.f4.params.toList.map fun t => match Tryz.pinned.checked.prog.underlying t with | some (.int k) => some k | _ => none)) = true := by kernel_rfl
theorem unpacksUptoRow_pin : (Rows.unpacksUptoRow.pinned == Rows.unpacksUptoRow.pinnedBy) = true := by kernel_rfl
theorem unpacksUptoRow_vei : (Rows.unpacksUptoRow.veiled == (Tryz.f4.params.toList ++ (Rows.OpenSpec.upto Rows.unpacksSpec).bare.plain.varTypes Tryz.pinned.checked.prog ++ Tryz.f4.resultTypes.toList).any (Tryz.pinned.checked.prog.veiledRec ·)) = true := by kernel_rfl
theorem unpacksUptoRow_veF : Rows.unpacksUptoRow.veiledFits Tryz.pinned.checked.prog Tryz.f4.params.toList (Tryz.f4.params.toList ++ (Rows.OpenSpec.upto Rows.unpacksSpec).bare.plain.varTypes Tryz.pinned.checked.prog ++ Tryz.f4.resultTypes.toList) = true := by kernel_rfl
theorem unpacksUptoRow_closed : joinedFacts Tryz.pinned.checked.prog 4 Tryz.f4 (Rows.OpenSpec.upto Rows.unpacksSpec).bare Rows.unpacksUptoRow = true := (unpacksUptoRow_and (unpacksUptoRow_and (unpacksUptoRow_and (unpacksUptoRow_and (unpacksUptoRow_and (unpacksUptoRow_and (unpacksUptoRow_and (unpacksUptoRow_and (unpacksUptoRow_and (unpacksUptoRow_and (unpacksUptoRow_and (unpacksUptoRow_and (unpacksUptoRow_and (unpacksUptoRow_and (unpacksUptoRow_and (unpacksUptoRow_and (unpacksUptoRow_and (unpacksUptoRow_and (unpacksUptoRow_and (unpacksUptoRow_and (unpacksUptoRow_and (unpacksUptoRow_and (unpacksUptoRow_and (unpacksUptoRow_and (unpacksUptoRow_and (unpacksUptoRow_and (unpacksUptoRow_and (unpacksUptoRow_and (unpacksUptoRow_and (unpacksUptoRow_and (unpacksUptoRow_and unpacksUptoRow_wf unpacksUptoRow_laid) unpacksUptoRow_mapsR) unpacksUptoRow_params) unpacksUptoRow_tieN) unpacksUptoRow_s1) unpacksUptoRow_s2) unpacksUptoRow_s3) unpacksUptoRow_s4) unpacksUptoRow_inP) unpacksUptoRow_unf) unpacksUptoRow_rec) unpacksUptoRow_nam) unpacksUptoRow_maps) unpacksUptoRow_ifc) unpacksUptoRow_mapO) unpacksUptoRow_loops) unpacksUptoRow_wide) unpacksUptoRow_vars) unpacksUptoRow_resT) unpacksUptoRow_ifO) unpacksUptoRow_lpO) unpacksUptoRow_plk) unpacksUptoRow_sht) unpacksUptoRow_hea) unpacksUptoRow_ent) unpacksUptoRow_lif) unpacksUptoRow_mak) unpacksUptoRow_kin) unpacksUptoRow_pin) unpacksUptoRow_vei) unpacksUptoRow_veF)
end Go.Proofs.YtghongdbohjaaaaGreatDoor
