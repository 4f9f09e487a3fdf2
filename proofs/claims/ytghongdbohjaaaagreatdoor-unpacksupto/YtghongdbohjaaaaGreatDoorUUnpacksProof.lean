import Derived.Test.YtghongdbohjaaaaGreatDoorUGab
import Derived.Test.YtghongdbohjaaaaGreatDoorUGat
import Derived.Test.YtghongdbohjaaaaGreatDoorCards
import Derived.Test.YtghongdbohjaaaaGreatDoorTie
import Derived.Test.YtghongdbohjaaaaGreatDoorUUnClE
import Derived.Test.YtghongdbohjaaaaGreatDoorUCardGo
import Derived.SevenTiedAt
import Derived.SizedLaws
import Derived.Stop.Joined
import Derived.LaidLaws
import Derived.Deep.DeepHandedRow
set_option linter.unusedVariables false
set_option linter.unusedSimpArgs false
/-
  THE STATEMENT: Rows.UnpacksUptoCardSaid.
-/
namespace Go.Proofs.YtghongdbohjaaaaGreatDoor
set_option linter.unusedVariables false
set_option linter.unusedSimpArgs false
open Go.ChangeShapes Go.WideShapes Go.ChangeAt Go.RowKit

theorem laid_plain : (Rows.unpacksUptoRow.laid.all fun x => x.2.handleName?.isNone) = true := by kernel_rfl
theorem gl_row {W : World} (h : laidMetH Tryz.prog Rows.unpacksUptoRow.laid W) : Gl W := by
  rw [MakeChecks.laidMetH_plain _ _ _ laid_plain] at h
  exact gl_of_laid h (by simp [Rows.unpacksUptoRow]) (by simp [Rows.unpacksUptoRow]) (by simp [Rows.unpacksUptoRow]) (by simp [Rows.unpacksUptoRow]) (by simp [Rows.unpacksUptoRow]) (by simp [Rows.unpacksUptoRow]) (by simp [Rows.unpacksUptoRow])
theorem door_met (os : Os) (args : Array Value) : laidMetH Tryz.prog Rows.unpacksUptoRow.laid ((World.doorLaid Tryz.prog 400 os).forCall (fun _ _ => 0) ⟨#[], args, []⟩).memory :=
  laidMetH_of_parts3 (fuel := 8) (laidMet_of_run' 8 (by kernel_rfl) (by kernel_rfl)) (by kernel_rfl) (by kernel_rfl)
set_option maxRecDepth 100000 in
set_option maxHeartbeats 3200000 in
theorem unpacks_walk (sF sH sC sS : Option Addr) (nF cF cH nC cC nS cS : Nat) (hss : List (List HP × Value)) (so : Option Addr) (co : Nat) (ops : List OpV) (W : World) (hgl : Gl W) (hh : HdIn W sH hss) (hhn : hss.length ≤ 1048576) (hO : OpsIn W so ops) (hn : ops.length ≤ 1048576) (hwt : wt ops ≤ 1048576) :
    Calls Tryz.prog 4 #[.agg #[.slice sF nF cF, .slice sH hss.length cH, .slice sC nC cC, .slice sS nS cS], .slice so ops.length co] W fun e w' => e = .returned (.bool true) ∧ Below W.heap.size W w' := by
  have HH := hide hh
  have HO := hide hO
  have HG := hide hgl
  clear hh hO hgl
  go_enter Tryz.func4, Tryz.ntmps4
  go_wp2_with fail
  have hb1 : ∀ o, Below W.heap.size W (W.alloc o) := fun o => (Below.refl _ W).alloc (Nat.le_refl _) _
  refine (plays_true unpacks_played sF sH sC sS nF cF hss.length cH nC cC nS cS so co ops _ (HG.out.below (hb1 _)) ⟨sH, cH, hss, rfl, HH.out.below (hb1 _), hhn⟩ (HO.out.below (hb1 _)) hn (by omega)).mono ?_
  rintro e w' ⟨rfl, hb⟩
  have HB := hide ((hb1 _).trans (hb.mono (hb1 _).size))
  clear hb hb1
  go_wp2
  go_ret
  exact ⟨rfl, HB.out⟩

set_option maxRecDepth 100000 in
theorem lifted (os : Os) (started : os.Started) (H : Type) (enc : TypeId × Value → H) (F : Stop.Interp) :
    ReturnsInHanded {} Tryz.checked os 4 .any ((Rows.OpenSpec.upto Rows.unpacksSpec).preRow enc Tryz.prog Tryz.f4 Rows.unpacksUptoRow.domain false Rows.unpacksUptoRow.laid) (((Rows.OpenSpec.upto Rows.unpacksSpec).at F).post enc Tryz.prog Tryz.f4 false true false false) := by
  refine returnsInHanded_of_row (C := Tryz.checked) (s := Rows.OpenSpec.upto Rows.unpacksSpec) own started (by kernel_rfl) Tryz.func4 ?_ ?_
  · have hsh : ((World.doorLaid Tryz.prog 400 os).forCall (fun _ _ => 0) ⟨#[], #[.agg #[.slice none 0 0, .slice none 0 0, .slice none 0 0, .slice none 0 0], .slice none 0 0], []⟩).Shaped Tryz.prog := World.shaped_of_RefB (by kernel_rfl) (by kernel_rfl)
    have hok : Input.okWideB Tryz.prog ((World.doorLaid Tryz.prog 400 os).forCall (fun _ _ => 0) ⟨#[], #[.agg #[.slice none 0 0, .slice none 0 0, .slice none 0 0, .slice none 0 0], .slice none 0 0], []⟩) 4 ⟨#[], #[.agg #[.slice none 0 0, .slice none 0 0, .slice none 0 0, .slice none 0 0], .slice none 0 0], []⟩ = true := by kernel_rfl
    have hx : DataW.whole enc Tryz.prog ((World.doorLaid Tryz.prog 400 os).forCall (fun _ _ => 0) ⟨#[], #[.agg #[.slice none 0 0, .slice none 0 0, .slice none 0 0, .slice none 0 0], .slice none 0 0], []⟩).memory Tryz.f4.params.toList (Rows.OpenSpec.upto Rows.unpacksSpec).vars false [.agg #[.slice none 0 0, .slice none 0 0, .slice none 0 0, .slice none 0 0], .slice none 0 0] 8 = some ([.agg [.nil, .nil, .nil, .nil], .nil], [], []) := by kernel_rfl
    refine ⟨World.doorLaid Tryz.prog 400 os, fun _ _ => 0, ⟨#[], #[.agg #[.slice none 0 0, .slice none 0 0, .slice none 0 0, .slice none 0 0], .slice none 0 0], []⟩, rfl, hsh, (Input.okWide_of_okWideB (base := 0) hok).1, (Input.okWide_of_okWideB hok).2, ⟨⟨(OpenSpec.pre_some (k := Rows.uptoSmall) rfl _ _ _ _).2 ⟨_, _, _, DataW.Whole_of_whole hx, rfl, by kernel_rfl⟩, door_met os _⟩, sizedMet_of_sizedB (fuel := 8) (by kernel_rfl)⟩, ?_⟩
    simp only [Assume.holds]
    exact ⟨by simp, by simp, fun _ => Modest.zero, by simp, by simp⟩
  · intro W base args ds gs before hval hW _ hk _ hL _ _
    have hW' := hW
    obtain ⟨p, q, hA0, hV, rfl, hfz, hnd⟩ := hW
    have hA : DataW.TrodAll enc Tryz.prog W 0 (fun _ => true) true Tryz.f4.params.toList args.toList ds p := hA0
    have hval' : ∀ (j : Nat) t v, Tryz.f4.params[j]? = some t → args[j]? = some v → Value.okWide Tryz.prog W .any base t v := hval
    rw [Tryz.params4] at hA hval'
    obtain ⟨v0, vs0, d0, ds0, p0, q0, hargs, rfl, rfl, h0, r0⟩ := trodAll_cons hA
    obtain ⟨v1, vs1, d1, ds1, p1, q1, rfl, rfl, rfl, h1, r1⟩ := trodAll_cons r0
    obtain ⟨rfl, rfl, rfl⟩ := trodAll_nil r1
    obtain rfl : args = #[v0, v1] := by cases args; simp_all
    obtain ⟨rfl, rfl⟩ := trodVars_none hV
    have hbulk : Rows.uptoBulkAll [d0, d1] ≤ 1048576 := by
      have h : Rows.uptoBulkAll ([d0, d1] ++ []) ≤ 1048576 := of_decide_eq_true (hk _ rfl)
      exact h
    simp only [Rows.uptoBulkAll] at hbulk
    have k0 := h0
    have k1 := h1
    have lt0 : ∀ x ∈ p0, x.block < W.heap.size := by obtain ⟨m, hm⟩ := k0; exact DataW.trod_lt m _ _ _ hm
    have lt1 : ∀ x ∈ p1, x.block < W.heap.size := by obtain ⟨m, hm⟩ := k1; exact DataW.trod_lt m _ _ _ hm
    obtain ⟨n0, n1, n2, n3, hu, t0, t1, t2, t3, hone⟩ := undGoods
    obtain ⟨u0, u1, u2, u3, y0, y1, y2, y3, fu, rfl, rfl, rfl, e0, e1, e2, e3⟩ := Joins.open_agg4 hu hone cellsGoods (hval' 0 27 v0 rfl rfl) h0
    rw [t0] at e0
    rw [t1] at e1
    rw [t2] at e2
    rw [t3] at e3
    obtain ⟨sF, nF, cF, hs0⟩ := Joins.slice_form Tryz.underlying22 e0
    obtain ⟨sH, nH, cH, hs1⟩ := Joins.slice_form Tryz.underlying23 e1
    obtain ⟨sC, nC, cC, hs2⟩ := Joins.slice_form Tryz.underlying24 e2
    obtain ⟨sS, nS, cS, hs3⟩ := Joins.slice_form Tryz.underlying25 e3
    simp only [List.cons.injEq, and_true] at hs0 hs1 hs2 hs3
    subst hs0 hs1 hs2 hs3
    obtain ⟨a1, len1, cap1, rfl⟩ := okWide_slice Tryz.underlying28 (hval' 1 28 v1 rfl rfl)
    obtain ⟨fuel1, hf1⟩ := h1
    simp only [Value.cells] at hf1
    simp only [Rows.uptoBulk, Rows.uptoBulkAll] at hbulk
    obtain ⟨hss, hhl, hhn, hhs⟩ := open_hls e1 (by omega)
    obtain ⟨ops, hol, hon, how, hos⟩ := open_ops hf1 (by show Rows.uptoBulk d1 ≤ _; omega)
    subst hhl
    subst hol
    clear hA0
    refine (unpacks_walk sF sH sC sS nF cF cH nC cC nS cS hss a1 cap1 ops W (gl_row hL) hhs hhn hos hon how).mono fun e W' ⟨he, bel⟩ => ?_
    subst he
    exact ⟨_, rfl, _, _, _, [], _, [], hW', trodAll_mk1 (shut_bool Tryz.underlying4 _), (trodAll_cons_mk (Below.trod laidOut (by kernel_rfl) (of_decide_eq_true (by kernel_rfl)) k0 bel lt0) (trodAll_cons_mk (Below.trod laidOut (by kernel_rfl) (of_decide_eq_true (by kernel_rfl)) k1 bel lt1) trodAll_mk0)), rfl, bel.frame _, fun h => by cases h⟩

theorem unpacks_upto : Rows.UnpacksUptoSaid :=
  OpenClaim.holds_of_cond 4 Tryz.f4 rfl rfl rfl rfl rfl rfl rfl ⟨rfl, rfl, rfl, rfl, rfl⟩ rfl rfl rfl rfl rfl (by kernel_rfl) Tryz.func4 unpacksUptoRow_closed
    (of_decide_eq_true (by kernel_rfl)) (by unfold Func.isWrapper; first | (rw [if_pos (by decide +kernel)]; kernel_rfl) | (rw [if_neg (by decide +kernel)]; exact ⟨rfl, rfl⟩))
    (fun os started H enc _ F => by rw [OpenClaim.pre_eq_preRow]; exact lifted os started H enc F)

theorem unpacks_holds : Rows.UnpacksUptoCardSaid :=
  tied_goes .later [.wider, .wider, .data, .wider, .data, .wider, .data] true Rows.unpacksUptoCard.stood.harness true
    unpacks_upto unpacksUptoRow_wfT unpacksUpto_row_tie rfl ⟨rfl, rfl⟩ (by kernel_rfl) rfl
    (fun f fn hf hfn => by
      obtain rfl : f = 4 := Option.some.inj ((show Tryz.prog.funcNamed "sluice/sluicelaw.Unpacks" = some 4 by kernel_rfl).symm.trans hf) |>.symm
      obtain rfl : fn = Tryz.f4 := (Option.some.inj (Tryz.func4.symm.trans hfn)).symm
      exact ⟨unpacksUptoRow_looks, fun j t ht => by
        rw [Tryz.params4] at ht
        have hm : t ∈ [27, 28] := by simpa using Array.mem_of_getElem? ht
        have hall : ([27, 28].all fun u => !Tryz.prog.wantsStandIn u) = true := by kernel_rfl
        exact (show Tryz.prog.wantsStandIn t = false by simpa using List.all_eq_true.1 hall t hm)⟩)
    unpacksUptoRow_goes
#print axioms unpacks_holds
end Go.Proofs.YtghongdbohjaaaaGreatDoor
