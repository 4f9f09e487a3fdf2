import Derived.Test.YtiphkngfbpdeoaaGreatDoorUDrWalk
import Derived.Test.YtiphkngfbpdeoaaGreatDoorUBkLaid
import Derived.Test.YtiphkngfbpdeoaaGreatDoorCards
import Derived.Test.YtiphkngfbpdeoaaGreatDoorTie
import Derived.Test.YtiphkngfbpdeoaaGreatDoorUDrClE
import Derived.SevenTiedAt
import Derived.Stop.Joined
import Derived.ShutString
import Derived.ChangeMaps5
import Derived.Lib.SmallJoins
set_option linter.unusedVariables false
set_option linter.unusedSimpArgs false
/-
  THE STATEMENT: Rows.DroppedCardSaid.
-/
namespace Go.Proofs.YtiphkngfbpdeoaaGreatDoor
set_option linter.unusedVariables false
set_option linter.unusedSimpArgs false
open Go.ChangeShapes Go.WideShapes Go.ChangeAt Go.RowKit Go.ChangeMaps

theorem own : ownKnob Tryz.prog.godebug = none := by kernel_rfl
theorem laid_plain : (Rows.droppedRow.laid.all fun x => x.2.handleName?.isNone) = true := by kernel_rfl
theorem gl_row {W : World} (h : laidMetH Tryz.prog Rows.droppedRow.laid W) : Gl W := by
  rw [MakeChecks.laidMetH_plain _ _ _ laid_plain] at h
  exact gl_of_laid h (by simp [Rows.droppedRow]) (by simp [Rows.droppedRow]) (by simp [Rows.droppedRow]) (by simp [Rows.droppedRow]) (by simp [Rows.droppedRow]) (by simp [Rows.droppedRow]) (by simp [Rows.droppedRow])
theorem door_met (os : Os) (args : Array Value) : laidMetH Tryz.prog Rows.droppedRow.laid ((World.doorLaid Tryz.prog 400 os).forCall (fun _ _ => 0) ⟨#[], args, []⟩).memory :=
  laidMetH_of_parts3 (fuel := 8) (laidMet_of_run' 8 (by kernel_rfl) (by kernel_rfl)) (by kernel_rfl) (by kernel_rfl)
theorem undConfig : ∃ n0 n1 n2 n3 : Field, Tryz.prog.underlying 23 = some (.struct #[n0, n1, n2, n3]) ∧ n0.type = 3 ∧ n1.type = 3 ∧ n2.type = 3 ∧ n3.type = 3 ∧ Deep.oneCellFields Tryz.prog #[n0, n1, n2, n3] = true :=
  ⟨_, _, _, _, Tryz.underlying23, rfl, rfl, rfl, rfl, by kernel_rfl⟩
theorem cellsConfig : Tryz.prog.cellsOf 23 = 4 := by kernel_rfl
theorem laidOut : laidOutB Tryz.prog = true := droppedRow_laid
theorem int_of {H : Type} {enc : TypeId × Value → H} {W : World} {n : Nat} {v : Value} {y : DataW H × List MemPlace} (h : DataW.trod enc Tryz.prog W 0 (fun _ => true) true n 3 [v] = some y) : ∃ k, v = .int .i64 k ∧ I64 k := by
  obtain ⟨k0, e0, _, w0⟩ := DataW.trod_int Tryz.underlying3 h
  simp only [List.cons.injEq, and_true] at e0
  exact ⟨k0, e0, bounds_i64 w0⟩
set_option maxRecDepth 100000 in
theorem lifted (os : Os) (started : os.Started) (H : Type) (enc : TypeId × Value → H) :
    ReturnsInHanded {} Tryz.checked os 3 .any (fun w args => (Rows.droppedSpec.pre enc Tryz.prog Tryz.f3 [] false w args ∧ laidMetH Tryz.prog Rows.droppedRow.laid w) ∧ sizedMet enc Tryz.prog Tryz.f3 (OpenSpec.ofChange Rows.droppedSpec) false w args)
      (Rows.droppedSpec.post enc Tryz.prog Tryz.f3 false true false false) := by
  refine returnsInHanded_of_change_and (C := Tryz.checked) (X := fun w _ => laidMetH Tryz.prog Rows.droppedRow.laid w) (fun _ _ _ hh h => h.of_heap hh) own started (by kernel_rfl) Tryz.func3
    (ChangeSpec.witness_shaped (enc := enc) (C := Tryz.checked) (os := os) (X := fun w _ => laidMetH Tryz.prog Rows.droppedRow.laid w) false (World.doorLaid Tryz.prog 400 os) #[.agg #[.int .i64 0, .int .i64 0, .int .i64 0, .int .i64 0], .string .empty, .string .empty, .bool false] 8 rfl (World.shaped_of_RefB (by kernel_rfl) (by kernel_rfl)) (by kernel_rfl) (by kernel_rfl) (by kernel_rfl) (door_met os _)) ?_
  intro W base args ds gs before hval0 hW _ _ hL _
  have hval : ∀ (j : Nat) t v, Tryz.f3.params[j]? = some t → args[j]? = some v → Value.okWide Tryz.prog W .any base t v := hval0
  have hW' := hW
  obtain ⟨p, q, hA0, hV, rfl, hfz, hnd⟩ := hW
  have hA : DataW.TrodAll enc Tryz.prog W 0 (fun _ => true) true Tryz.f3.params.toList args.toList ds p := hA0
  rw [Tryz.params3] at hA hval
  obtain ⟨v0, vs0, d0, ds0, p0, q0, hargs, rfl, rfl, h0, r0⟩ := trodAll_cons hA
  obtain ⟨v1, vs1, d1, ds1, p1, q1, rfl, rfl, rfl, h1, r1⟩ := trodAll_cons r0
  obtain ⟨v2, vs2, d2, ds2, p2, q2, rfl, rfl, rfl, h2, r2⟩ := trodAll_cons r1
  obtain ⟨v3, vs3, d3, ds3, p3, q3, rfl, rfl, rfl, h3, r3⟩ := trodAll_cons r2
  obtain ⟨rfl, rfl, rfl⟩ := trodAll_nil r3
  obtain rfl : args = #[v0, v1, v2, v3] := by cases args; simp_all
  obtain ⟨rfl, rfl⟩ := trodVars_none hV
  have k0 := h0
  have k1 := h1
  have k2 := h2
  have k3 := h3
  have lt0 : ∀ x ∈ p0, x.block < W.heap.size := by obtain ⟨m, hm⟩ := k0; exact DataW.trod_lt m _ _ _ hm
  have lt1 : ∀ x ∈ p1, x.block < W.heap.size := by obtain ⟨m, hm⟩ := k1; exact DataW.trod_lt m _ _ _ hm
  have lt2 : ∀ x ∈ p2, x.block < W.heap.size := by obtain ⟨m, hm⟩ := k2; exact DataW.trod_lt m _ _ _ hm
  have lt3 : ∀ x ∈ p3, x.block < W.heap.size := by obtain ⟨m, hm⟩ := k3; exact DataW.trod_lt m _ _ _ hm
  obtain ⟨n0, n1, n2, n3, hu, t0, t1, t2, t3, hone⟩ := undConfig
  obtain ⟨u0, u1, u2, u3, y0, y1, y2, y3, fu, rfl, -, -, e0, e1, e2, e3⟩ := Joins.open_agg4 hu hone cellsConfig (hval 0 23 v0 rfl rfl) h0
  rw [t0] at e0
  rw [t1] at e1
  rw [t2] at e2
  rw [t3] at e3
  obtain ⟨x0, rfl, b0⟩ := int_of e0
  obtain ⟨x1, rfl, b1⟩ := int_of e1
  obtain ⟨x2, rfl, b2⟩ := int_of e2
  obtain ⟨x3, rfl, b3⟩ := int_of e3
  obtain ⟨s1, rfl, -, -, -⟩ := open_string Tryz.underlying9 (hval 1 9 v1 rfl rfl) h1
  obtain ⟨s2, rfl, -, -, -⟩ := open_string Tryz.underlying9 (hval 2 9 v2 rfl rfl) h2
  obtain ⟨by_, rfl, -, -⟩ := open_bool Tryz.underlying4 (hval 3 4 v3 rfl rfl) h3
  clear hA0 hval0
  refine (dropped_all x0 x1 x2 x3 s1 s2 by_ W b0 b1 b2 b3 (gl_row hL) (gl_row hL).lt).mono fun e W' ⟨he, bel⟩ => ?_
  subst he
  exact ⟨_, rfl, _, _, _, [], _, [], hW', trodAll_mk1 (shut_bool Tryz.underlying4 _), trodAll_cons_mk (Below.trod laidOut (by kernel_rfl) (of_decide_eq_true (by kernel_rfl)) k0 bel lt0) (trodAll_cons_mk (Below.trod laidOut (by kernel_rfl) (of_decide_eq_true (by kernel_rfl)) k1 bel lt1) (trodAll_cons_mk (Below.trod laidOut (by kernel_rfl) (of_decide_eq_true (by kernel_rfl)) k2 bel lt2) (trodAll_cons_mk (Below.trod laidOut (by kernel_rfl) (of_decide_eq_true (by kernel_rfl)) k3 bel lt3) trodAll_mk0))), rfl, bel.frame _, fun h => by cases h⟩

theorem dropped_said : Rows.DroppedSaid :=
  OpenClaim.holds_of_wide 3 Tryz.f3 rfl rfl rfl rfl rfl rfl rfl ⟨rfl, rfl, rfl, rfl, rfl⟩ rfl rfl rfl rfl rfl (by kernel_rfl) Tryz.func3 droppedRow_closed
    (of_decide_eq_true (by kernel_rfl)) (by unfold Func.isWrapper; first | (rw [if_pos (by decide +kernel)]; kernel_rfl) | (rw [if_neg (by decide +kernel)]; exact ⟨rfl, rfl⟩))
    (fun os started H enc _ => lifted os started H enc)

theorem dropped_holds : Rows.DroppedCardSaid :=
  Claim7.holds_tied_plain_at .later [] [.wider, .wider, .data, .wider, .data, .wider, .data] true Rows.droppedCard.stood.harness true
    dropped_said (fun _ h => by cases h) droppedRow_wfT (fun _ h => by cases h) dropped_row_tie rfl ⟨rfl, rfl⟩ (by kernel_rfl) rfl
    (fun f fn hf hfn => by
      obtain rfl : f = 3 := Option.some.inj ((show Tryz.prog.funcNamed "sluice/sluicekeep.Dropped" = some 3 by kernel_rfl).symm.trans hf) |>.symm
      obtain rfl : fn = Tryz.f3 := (Option.some.inj (Tryz.func3.symm.trans hfn)).symm
      exact ⟨droppedRow_looks, fun j t ht => by
        rw [Tryz.params3] at ht
        have hm : t ∈ [23, 9, 9, 4] := by simpa using Array.mem_of_getElem? ht
        have hall : ([23, 9, 9, 4].all fun u => !Tryz.prog.wantsStandIn u) = true := by kernel_rfl
        exact (show Tryz.prog.wantsStandIn t = false by simpa using List.all_eq_true.1 hall t hm)⟩)
    droppedRow_goes
#print axioms dropped_holds
end Go.Proofs.YtiphkngfbpdeoaaGreatDoor
