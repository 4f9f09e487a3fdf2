import Derived.Test.YtiphkngfbpdeoaaGreatDoorVAlWalk
import Derived.Test.YtiphkngfbpdeoaaGreatDoorVBkLaid
import Derived.Test.YtiphkngfbpdeoaaGreatDoorCards
import Derived.Test.YtiphkngfbpdeoaaGreatDoorTie
import Derived.Test.YtiphkngfbpdeoaaGreatDoorVAlClE
import Derived.SevenTiedAt
import Derived.SizedLaws
import Derived.Stop.Joined
import Derived.LaidLaws
import Derived.Deep.DeepHandedRow
import Derived.ShutString
import Derived.ChangeMaps5
import Derived.Lib.SmallJoins
set_option linter.unusedVariables false
set_option linter.unusedSimpArgs false
namespace Go.Proofs.YtiphkngfbpdeoaaGreatDoor
set_option linter.unusedVariables false
set_option linter.unusedSimpArgs false
open Go.ChangeShapes Go.WideShapes Go.ChangeAt Go.RowKit Go.ChangeMaps
theorem own : ownKnob Tryz.prog.godebug = none := by kernel_rfl
theorem laid_plain : (Rows.aliveUptoRow.laid.all fun x => x.2.handleName?.isNone) = true := by kernel_rfl
theorem gl_row {W : World} (h : laidMetH Tryz.prog Rows.aliveUptoRow.laid W) : Gl W := by
  rw [MakeChecks.laidMetH_plain _ _ _ laid_plain] at h
  exact gl_of_laid h (by simp [Rows.aliveUptoRow]) (by simp [Rows.aliveUptoRow]) (by simp [Rows.aliveUptoRow]) (by simp [Rows.aliveUptoRow]) (by simp [Rows.aliveUptoRow]) (by simp [Rows.aliveUptoRow]) (by simp [Rows.aliveUptoRow])
theorem door_met (os : Os) (args : Array Value) : laidMetH Tryz.prog Rows.aliveUptoRow.laid ((World.doorLaid Tryz.prog 400 os).forCall (fun _ _ => 0) ⟨#[], args, []⟩).memory :=
  laidMetH_of_parts3 (fuel := 8) (laidMet_of_run' 8 (by kernel_rfl) (by kernel_rfl)) (by kernel_rfl) (by kernel_rfl)
theorem undConfig : ∃ n0 n1 n2 n3 : Field, Tryz.prog.underlying 23 = some (.struct #[n0, n1, n2, n3]) ∧ n0.type = 3 ∧ n1.type = 3 ∧ n2.type = 3 ∧ n3.type = 3 ∧ Deep.oneCellFields Tryz.prog #[n0, n1, n2, n3] = true :=
  ⟨_, _, _, _, Tryz.underlying23, rfl, rfl, rfl, rfl, by kernel_rfl⟩
theorem cellsConfig : Tryz.prog.cellsOf 23 = 4 := by kernel_rfl
theorem laidOut : laidOutB Tryz.prog = true := aliveUptoRow_laid
theorem int_of {H : Type} {enc : TypeId × Value → H} {W : World} {n : Nat} {v : Value} {y : DataW H × List MemPlace} (h : DataW.trod enc Tryz.prog W 0 (fun _ => true) true n 3 [v] = some y) : ∃ k, v = .int .i64 k ∧ I64 k := by
  obtain ⟨k0, e0, _, w0⟩ := DataW.trod_int Tryz.underlying3 h
  simp only [List.cons.injEq, and_true] at e0
  exact ⟨k0, e0, bounds_i64 w0⟩
set_option maxRecDepth 100000 in
theorem lifted (os : Os) (started : os.Started) (H : Type) (enc : TypeId × Value → H) (F : Stop.Interp) :
    ReturnsInHanded {} Tryz.checked os 4 .any ((Rows.OpenSpec.upto Rows.aliveSpec).preRow enc Tryz.prog Tryz.f4 Rows.aliveUptoRow.domain false Rows.aliveUptoRow.laid) (((Rows.OpenSpec.upto Rows.aliveSpec).at F).post enc Tryz.prog Tryz.f4 false true false false) := by
  refine returnsInHanded_of_row (C := Tryz.checked) (s := Rows.OpenSpec.upto Rows.aliveSpec) own started (by kernel_rfl) Tryz.func4 ?_ ?_
  · have hsh : ((World.doorLaid Tryz.prog 400 os).forCall (fun _ _ => 0) ⟨#[], #[.agg #[.int .i64 0, .int .i64 0, .int .i64 0, .int .i64 0], .string .empty, .bool false, .int .i64 0, .string .empty], []⟩).Shaped Tryz.prog := World.shaped_of_RefB (by kernel_rfl) (by kernel_rfl)
    have hok : Input.okWideB Tryz.prog ((World.doorLaid Tryz.prog 400 os).forCall (fun _ _ => 0) ⟨#[], #[.agg #[.int .i64 0, .int .i64 0, .int .i64 0, .int .i64 0], .string .empty, .bool false, .int .i64 0, .string .empty], []⟩) 4 ⟨#[], #[.agg #[.int .i64 0, .int .i64 0, .int .i64 0, .int .i64 0], .string .empty, .bool false, .int .i64 0, .string .empty], []⟩ = true := by kernel_rfl
    have hx : DataW.whole enc Tryz.prog ((World.doorLaid Tryz.prog 400 os).forCall (fun _ _ => 0) ⟨#[], #[.agg #[.int .i64 0, .int .i64 0, .int .i64 0, .int .i64 0], .string .empty, .bool false, .int .i64 0, .string .empty], []⟩).memory Tryz.f4.params.toList (Rows.OpenSpec.upto Rows.aliveSpec).vars false [.agg #[.int .i64 0, .int .i64 0, .int .i64 0, .int .i64 0], .string .empty, .bool false, .int .i64 0, .string .empty] 8 = some ([.agg [.lit (.int .i64 0), .lit (.int .i64 0), .lit (.int .i64 0), .lit (.int .i64 0)], .lit (.string []), .lit (.bool false), .lit (.int .i64 0), .lit (.string [])], [], []) := by kernel_rfl
    refine ⟨World.doorLaid Tryz.prog 400 os, fun _ _ => 0, ⟨#[], #[.agg #[.int .i64 0, .int .i64 0, .int .i64 0, .int .i64 0], .string .empty, .bool false, .int .i64 0, .string .empty], []⟩, rfl, hsh, (Input.okWide_of_okWideB (base := 0) hok).1, (Input.okWide_of_okWideB hok).2, ⟨⟨(OpenSpec.pre_some (k := Rows.uptoSmall) rfl _ _ _ _).2 ⟨_, _, _, DataW.Whole_of_whole hx, rfl, by kernel_rfl⟩, door_met os _⟩, sizedMet_of_sizedB (fuel := 8) (by kernel_rfl)⟩, ?_⟩
    simp only [Assume.holds]
    exact ⟨by simp, by simp, fun _ => Modest.zero, by simp, by simp⟩
  · intro W base args ds gs before hval0 hW _ hk _ hL _ _
    have hval : ∀ (j : Nat) t v, Tryz.f4.params[j]? = some t → args[j]? = some v → Value.okWide Tryz.prog W .any base t v := hval0
    have hW' := hW
    obtain ⟨p, q, hA0, hV, rfl, hfz, hnd⟩ := hW
    have hA : DataW.TrodAll enc Tryz.prog W 0 (fun _ => true) true Tryz.f4.params.toList args.toList ds p := hA0
    rw [Tryz.params4] at hA hval
    obtain ⟨v0, vs0, d0, ds0, p0, q0, hargs, rfl, rfl, h0, r0⟩ := trodAll_cons hA
    obtain ⟨v1, vs1, d1, ds1, p1, q1, rfl, rfl, rfl, h1, r1⟩ := trodAll_cons r0
    obtain ⟨v2, vs2, d2, ds2, p2, q2, rfl, rfl, rfl, h2, r2⟩ := trodAll_cons r1
    obtain ⟨v3, vs3, d3, ds3, p3, q3, rfl, rfl, rfl, h3, r3⟩ := trodAll_cons r2
    obtain ⟨v4, vs4, d4, ds4, p4, q4, rfl, rfl, rfl, h4, r4⟩ := trodAll_cons r3
    obtain ⟨rfl, rfl, rfl⟩ := trodAll_nil r4
    obtain rfl : args = #[v0, v1, v2, v3, v4] := by cases args; simp_all
    obtain ⟨rfl, rfl⟩ := trodVars_none hV
    have hbulk : Rows.uptoBulkAll [d0, d1, d2, d3, d4] ≤ 1048576 := by
      have h : Rows.uptoBulkAll ([d0, d1, d2, d3, d4] ++ []) ≤ 1048576 := of_decide_eq_true (hk _ rfl)
      exact h
    simp only [Rows.uptoBulkAll] at hbulk
    have k0 := h0
    have k1 := h1
    have k2 := h2
    have k3 := h3
    have k4 := h4
    have lt0 : ∀ x ∈ p0, x.block < W.heap.size := by obtain ⟨m, hm⟩ := k0; exact DataW.trod_lt m _ _ _ hm
    have lt1 : ∀ x ∈ p1, x.block < W.heap.size := by obtain ⟨m, hm⟩ := k1; exact DataW.trod_lt m _ _ _ hm
    have lt2 : ∀ x ∈ p2, x.block < W.heap.size := by obtain ⟨m, hm⟩ := k2; exact DataW.trod_lt m _ _ _ hm
    have lt3 : ∀ x ∈ p3, x.block < W.heap.size := by obtain ⟨m, hm⟩ := k3; exact DataW.trod_lt m _ _ _ hm
    have lt4 : ∀ x ∈ p4, x.block < W.heap.size := by obtain ⟨m, hm⟩ := k4; exact DataW.trod_lt m _ _ _ hm
    obtain ⟨n0, n1, n2, n3, hu, t0, t1, t2, t3, hone⟩ := undConfig
    obtain ⟨u0, u1, u2, u3, y0, y1, y2, y3, fu, rfl, -, -, e0, e1, e2, e3⟩ := Joins.open_agg4 hu hone cellsConfig (hval 0 23 v0 rfl rfl) h0
    rw [t0] at e0
    rw [t1] at e1
    rw [t2] at e2
    rw [t3] at e3
    obtain ⟨x0, rfl, b0⟩ := int_of e0
    obtain ⟨x1, rfl, b1⟩ := int_of e1
    obtain ⟨x2, rfl, b2⟩ := int_of e2
    obtain ⟨x3, rfl, b3⟩ := int_of e3
    obtain ⟨s1, rfl, -, -, -⟩ := open_string Tryz.underlying9 (hval 1 9 v1 rfl rfl) h1
    obtain ⟨last, rfl, -, -⟩ := open_bool Tryz.underlying4 (hval 2 4 v2 rfl rfl) h2
    obtain ⟨which, rfl, -, -, wf3⟩ := open_int Tryz.underlying3 (hval 3 3 v3 rfl rfl) h3
    obtain ⟨s4, rfl, hd4, -, -⟩ := open_string Tryz.underlying9 (hval 4 9 v4 rfl rfl) h4
    have hm4 : s4.size ≤ 1048576 := by
      rw [hd4] at hbulk
      simp only [Rows.uptoBulk] at hbulk
      have e : s4.data.toList.length = s4.size := by simp [← ByteArray.size_data]
      omega
    clear hA0 hval0
    refine (alive_all x0 x1 x2 x3 s1 s4 last which W b0 b1 b2 b3 (bounds_i64 wf3) hm4 (gl_row hL) (gl_row hL).lt).mono fun e W' ⟨he, bel⟩ => ?_
    subst he
    exact ⟨_, rfl, _, _, _, [], _, [], hW', trodAll_mk1 (shut_bool Tryz.underlying4 _), trodAll_cons_mk (Below.trod laidOut (by kernel_rfl) (of_decide_eq_true (by kernel_rfl)) k0 bel lt0) (trodAll_cons_mk (Below.trod laidOut (by kernel_rfl) (of_decide_eq_true (by kernel_rfl)) k1 bel lt1) (trodAll_cons_mk (Below.trod laidOut (by kernel_rfl) (of_decide_eq_true (by kernel_rfl)) k2 bel lt2) (trodAll_cons_mk (Below.trod laidOut (by kernel_rfl) (of_decide_eq_true (by kernel_rfl)) k3 bel lt3) (trodAll_cons_mk (Below.trod laidOut (by kernel_rfl) (of_decide_eq_true (by kernel_rfl)) k4 bel lt4) trodAll_mk0)))), rfl, bel.frame _, fun h => by cases h⟩
theorem alive_upto : Rows.AliveUptoSaid :=
  OpenClaim.holds_of_cond 4 Tryz.f4 rfl rfl rfl rfl rfl rfl rfl ⟨rfl, rfl, rfl, rfl, rfl⟩ rfl rfl rfl rfl rfl (by kernel_rfl) Tryz.func4 aliveUptoRow_closed
    (of_decide_eq_true (by kernel_rfl)) (by unfold Func.isWrapper; first | (rw [if_pos (by decide +kernel)]; kernel_rfl) | (rw [if_neg (by decide +kernel)]; exact ⟨rfl, rfl⟩))
    (fun os started H enc _ F => by rw [OpenClaim.pre_eq_preRow]; exact lifted os started H enc F)
theorem alive_holds : Rows.AliveUptoCardSaid :=
  Claim7.holds_tied_plain_at .later [] [.wider, .wider, .data, .wider, .data, .wider, .data] true Rows.aliveUptoCard.stood.harness true
    alive_upto (fun _ h => by cases h) aliveUptoRow_wfT (fun _ h => by cases h) aliveUpto_row_tie rfl ⟨rfl, rfl⟩ (by kernel_rfl) rfl
    (fun f fn hf hfn => by
      obtain rfl : f = 4 := Option.some.inj ((show Tryz.prog.funcNamed "sluice/sluicekeep.Alive" = some 4 by kernel_rfl).symm.trans hf) |>.symm
      obtain rfl : fn = Tryz.f4 := (Option.some.inj (Tryz.func4.symm.trans hfn)).symm
      exact ⟨aliveUptoRow_looks, fun j t ht => by
        rw [Tryz.params4] at ht
        have hm : t ∈ [23, 9, 4, 3, 9] := by simpa using Array.mem_of_getElem? ht
        have hall : ([23, 9, 4, 3, 9].all fun u => !Tryz.prog.wantsStandIn u) = true := by kernel_rfl
        exact (show Tryz.prog.wantsStandIn t = false by simpa using List.all_eq_true.1 hall t hm)⟩)
    aliveUptoRow_goes
#print axioms alive_holds
end Go.Proofs.YtiphkngfbpdeoaaGreatDoor
