/-
  Closed facts of the row tunedRow: all of them.
-/
import Derived.Test.YtlhlmgfblbpdpaaGreatDoorWTuClA
import Derived.Test.YtlhlmgfblbpdpaaGreatDoorWTuClB
import Derived.Test.YtlhlmgfblbpdpaaGreatDoorWTuClC
import Derived.Test.YtlhlmgfblbpdpaaGreatDoorWTuClD
namespace Go.Proofs.YtlhlmgfblbpdpaaGreatDoor
set_option maxRecDepth 100000

theorem tunedRow_and {a b : Bool} (h : a = true) (k : b = true) : (a && b) = true := by rw [h, k]; rfl
theorem tunedRow_wf : Rows.tunedRow.wf (OpenSpec.ofChange Rows.tunedSpec) = true := by kernel_rfl
theorem tunedRow_params : Tryz.f4.params.all (Tryz.pinned.checked.prog.readableRec ·) = true := by kernel_rfl
theorem tunedRow_tieN : namedTie Tryz.pinned.checked.prog Rows.tunedRow.named Rows.tunedSpec.vars = true := by kernel_rfl
theorem tunedRow_s1 : (Rows.tunedRow.stops == []) = true := by kernel_rfl
theorem tunedRow_s2 : (Tryz.pinned.checked.prog.stops == []) = true := by kernel_rfl
theorem tunedRow_s3 : (Rows.tunedRow.knobs == []) = true := by kernel_rfl
theorem tunedRow_s4 : (Tryz.pinned.checked.prog.stopKnobs == []) = true := by kernel_rfl
theorem tunedRow_maps : (Rows.tunedRow.maps == (Tryz.f4.params.toList ++ Rows.tunedSpec.plain.varTypes Tryz.pinned.checked.prog).any (Tryz.pinned.checked.prog.mapsRec ·)) = true := by kernel_rfl
theorem tunedRow_ifc : (Rows.tunedRow.ifaces == (Tryz.f4.params.toList ++ Rows.tunedSpec.plain.varTypes Tryz.pinned.checked.prog).any (Tryz.pinned.checked.prog.ifacesRec ·)) = true := by kernel_rfl
theorem tunedRow_mapO : (Rows.tunedRow.mapsOut == Tryz.pinned.checked.prog.mapsAmong Tryz.f4.resultTypes.toList) = true := by kernel_rfl
theorem tunedRow_loops : (Rows.tunedRow.loops == (Tryz.f4.params.toList ++ Rows.tunedSpec.plain.varTypes Tryz.pinned.checked.prog).any (Tryz.pinned.checked.prog.loopsFrom ·)) = true := by kernel_rfl
theorem tunedRow_wide : (Rows.tunedRow.wideKeys == (Tryz.f4.params.toList ++ Rows.tunedSpec.plain.varTypes Tryz.pinned.checked.prog ++ Tryz.f4.resultTypes.toList).any (Tryz.pinned.checked.prog.wideKeysFrom ·)) = true := by kernel_rfl
theorem tunedRow_vars : Rows.tunedSpec.vars.all (Tryz.pinned.checked.prog.varReadable ·) = true := by kernel_rfl
theorem tunedRow_resT : Tryz.f4.resultTypes.all (fun t => Tryz.pinned.checked.prog.readableRec t && decide (t < Tryz.pinned.checked.prog.types.size)) = true := by kernel_rfl
theorem tunedRow_ifO : (Rows.tunedRow.ifacesOut == Tryz.f4.resultTypes.toList.any (Tryz.pinned.checked.prog.ifacesRec ·)) = true := by kernel_rfl
theorem tunedRow_lpO : (Rows.tunedRow.loopsOut == Tryz.f4.resultTypes.toList.any (Tryz.pinned.checked.prog.loopsFrom ·)) = true := by kernel_rfl
theorem tunedRow_sht : Rows.tunedRow.shortTexts.isNone = true := by kernel_rfl
theorem tunedRow_hea : Tryz.pinned.checked.prog.stopsHeard = true := by kernel_rfl
theorem tunedRow_ent : Tryz.pinned.checked.prog.mayEnter = true := by kernel_rfl
theorem tunedRow_lif : (Rows.tunedRow.lifted == Tryz.pinned.checked.prog.liftsFinal) = true := by kernel_rfl
theorem tunedRow_mak : (Tryz.pinned.checked.prog.make == some Rows.tunedRow.make) = true := by kernel_rfl
theorem tunedRow_kin : (Rows.tunedRow.kinds == (if Rows.tunedRow.domain.isEmpty then [] else Tryz.f4.params.toList.map fun t => match Tryz.pinned.checked.prog.underlying t with | some (.int k) => some k | _ => none)) = true := by kernel_rfl
theorem tunedRow_pin : (Rows.tunedRow.pinned == Rows.tunedRow.pinnedBy) = true := by kernel_rfl
theorem tunedRow_vei : (Rows.tunedRow.veiled == (Tryz.f4.params.toList ++ Rows.tunedSpec.plain.varTypes Tryz.pinned.checked.prog ++ Tryz.f4.resultTypes.toList).any (Tryz.pinned.checked.prog.veiledRec ·)) = true := by kernel_rfl
theorem tunedRow_veF : Rows.tunedRow.veiledFits Tryz.pinned.checked.prog Tryz.f4.params.toList (Tryz.f4.params.toList ++ Rows.tunedSpec.plain.varTypes Tryz.pinned.checked.prog ++ Tryz.f4.resultTypes.toList) = true := by kernel_rfl
theorem tunedRow_closed : joinedFacts Tryz.pinned.checked.prog 4 Tryz.f4 Rows.tunedSpec Rows.tunedRow = true := (tunedRow_and (tunedRow_and (tunedRow_and (tunedRow_and (tunedRow_and (tunedRow_and (tunedRow_and (tunedRow_and (tunedRow_and (tunedRow_and (tunedRow_and (tunedRow_and (tunedRow_and (tunedRow_and (tunedRow_and (tunedRow_and (tunedRow_and (tunedRow_and (tunedRow_and (tunedRow_and (tunedRow_and (tunedRow_and (tunedRow_and (tunedRow_and (tunedRow_and (tunedRow_and (tunedRow_and (tunedRow_and (tunedRow_and (tunedRow_and (tunedRow_and tunedRow_wf tunedRow_laid) tunedRow_mapsR) tunedRow_params) tunedRow_tieN) tunedRow_s1) tunedRow_s2) tunedRow_s3) tunedRow_s4) tunedRow_inP) tunedRow_unf) tunedRow_rec) tunedRow_nam) tunedRow_maps) tunedRow_ifc) tunedRow_mapO) tunedRow_loops) tunedRow_wide) tunedRow_vars) tunedRow_resT) tunedRow_ifO) tunedRow_lpO) tunedRow_plk) tunedRow_sht) tunedRow_hea) tunedRow_ent) tunedRow_lif) tunedRow_mak) tunedRow_kin) tunedRow_pin) tunedRow_vei) tunedRow_veF)
end Go.Proofs.YtlhlmgfblbpdpaaGreatDoor
