import Derived.Test.YtdccldbefdfppaaGreatDoorQGbg
import Derived.Test.YtdccldbefdfppaaGreatDoorCards
import Derived.Test.YtdccldbefdfppaaGreatDoorTie
import Derived.SevenTiedAt
import Derived.SizedLaws
import Derived.Stop.Joined
import Derived.ShutString
import Derived.ChangeMaps5
import Derived.Lib.SmallJoins
set_option linter.unusedVariables false
set_option linter.unusedSimpArgs false
/-
  THE STATEMENT: Rows.LedgerCardSaid.
-/
namespace Go.Proofs.YtdccldbefdfppaaGreatDoor
set_option linter.unusedVariables false
set_option linter.unusedSimpArgs false
open Go.ChangeShapes Go.WideShapes Go.ChangeAt Go.RowKit Go.ChangeMaps

theorem own : ownKnob Tryz.prog.godebug = none := by kernel_rfl
theorem laid_plain : (Rows.ledgerRow.laid.all fun x => x.2.handleName?.isNone) = true := by kernel_rfl
theorem gl_row {W : World} (h : laidMetH Tryz.prog Rows.ledgerRow.laid W) : Gl W := by
  rw [MakeChecks.laidMetH_plain _ _ _ laid_plain] at h
  exact gl_of_laid h (by simp [Rows.ledgerRow]) (by simp [Rows.ledgerRow]) (by simp [Rows.ledgerRow]) (by simp [Rows.ledgerRow]) (by simp [Rows.ledgerRow]) (by simp [Rows.ledgerRow]) (by simp [Rows.ledgerRow])
theorem door_met (os : Os) (args : Array Value) : laidMetH Tryz.prog Rows.ledgerRow.laid ((World.doorLaid Tryz.prog 400 os).forCall (fun _ _ => 0) ⟨#[], args, []⟩).memory :=
  laidMetH_of_parts3 (fuel := 8) (laidMet_of_run' 8 (by kernel_rfl) (by kernel_rfl)) (by kernel_rfl) (by kernel_rfl)
theorem undConfig : ∃ n0 n1 n2 n3 : Field, Tryz.prog.underlying 23 = some (.struct #[n0, n1, n2, n3]) ∧ n0.type = 3 ∧ n1.type = 3 ∧ n2.type = 3 ∧ n3.type = 3 ∧ Deep.oneCellFields Tryz.prog #[n0, n1, n2, n3] = true :=
  ⟨_, _, _, _, Tryz.underlying23, rfl, rfl, rfl, rfl, by kernel_rfl⟩
theorem cellsConfig : Tryz.prog.cellsOf 23 = 4 := by kernel_rfl
theorem laidOut : laidOutB Tryz.prog = true := ledgerRow_laid
theorem int_of {H : Type} {enc : TypeId × Value → H} {W : World} {n : Nat} {v : Value} {y : DataW H × List MemPlace} (h : DataW.trod enc Tryz.prog W 0 (fun _ => true) true n 3 [v] = some y) : ∃ k, v = .int .i64 k ∧ I64 k := by
  obtain ⟨k0, e0, _, w0⟩ := DataW.trod_int Tryz.underlying3 h
  simp only [List.cons.injEq, and_true] at e0
  exact ⟨k0, e0, bounds_i64 w0⟩
set_option maxRecDepth 100000 in
theorem lifted (os : Os) (started : os.Started) (H : Type) (enc : TypeId × Value → H) :
    ReturnsInHanded {} Tryz.checked os 3 .any (fun w args => (Rows.ledgerSpec.pre enc Tryz.prog Tryz.f3 [] false w args ∧ laidMetH Tryz.prog Rows.ledgerRow.laid w) ∧ sizedMet enc Tryz.prog Tryz.f3 (OpenSpec.ofChange Rows.ledgerSpec) false w args)
      (Rows.ledgerSpec.post enc Tryz.prog Tryz.f3 false true false false) := by
  refine returnsInHanded_of_change_and (C := Tryz.checked) (X := fun w _ => laidMetH Tryz.prog Rows.ledgerRow.laid w) (fun _ _ _ hh h => h.of_heap hh) own started (by kernel_rfl) Tryz.func3
    (ChangeSpec.witness_shaped (enc := enc) (C := Tryz.checked) (os := os) (X := fun w _ => laidMetH Tryz.prog Rows.ledgerRow.laid w) false (World.doorLaid Tryz.prog 400 os) #[.agg #[.int .i64 0, .int .i64 0, .int .i64 0, .int .i64 0], .int .i64 0, .slice none 0 0] 8 rfl (World.shaped_of_RefB (by kernel_rfl) (by kernel_rfl)) (by kernel_rfl) (by kernel_rfl) (by kernel_rfl) (door_met os _)) ?_
  intro W base args ds gs before hval0 hW _ hsz0 hL _
  have hval : ∀ (j : Nat) t v, Tryz.f3.params[j]? = some t → args[j]? = some v → Value.okWide Tryz.prog W .any base t v := hval0
  have hW' := hW
  obtain ⟨p, q, hA0, hV, rfl, hfz, hnd⟩ := hW
  have hA : DataW.TrodAll enc Tryz.prog W 0 (fun _ => true) true Tryz.f3.params.toList args.toList ds p := hA0
  rw [Tryz.params3] at hA hval
  obtain ⟨v0, vs0, d0, ds0, p0, q0, hargs, rfl, rfl, h0, r0⟩ := trodAll_cons hA
  obtain ⟨vi, vsi, di, dsi, pi, qi, rfl, rfl, rfl, hi, ri⟩ := trodAll_cons r0
  obtain ⟨v1, vs1, d1, ds1, p1, q1, rfl, rfl, rfl, h1, r1⟩ := trodAll_cons ri
  obtain ⟨rfl, rfl, rfl⟩ := trodAll_nil r1
  obtain rfl : args = #[v0, vi, v1] := by cases args; simp_all
  obtain ⟨rfl, rfl⟩ := trodVars_none hV
  have k0 := h0
  have ki := hi
  have k1 := h1
  have lt0 : ∀ x ∈ p0, x.block < W.heap.size := by obtain ⟨m, hm⟩ := k0; exact DataW.trod_lt m _ _ _ hm
  have lti : ∀ x ∈ pi, x.block < W.heap.size := by obtain ⟨m, hm⟩ := ki; exact DataW.trod_lt m _ _ _ hm
  have lt1 : ∀ x ∈ p1, x.block < W.heap.size := by obtain ⟨m, hm⟩ := k1; exact DataW.trod_lt m _ _ _ hm
  obtain ⟨n0, n1, n2, n3, hu, t0, t1, t2, t3, hone⟩ := undConfig
  obtain ⟨u0, u1, u2, u3, y0, y1, y2, y3, fu, rfl, -, -, e0, e1, e2, e3⟩ := Joins.open_agg4 hu hone cellsConfig (hval 0 23 v0 rfl rfl) h0
  rw [t0] at e0
  rw [t1] at e1
  rw [t2] at e2
  rw [t3] at e3
  obtain ⟨x0, rfl, b0⟩ := int_of e0
  obtain ⟨x1, rfl, b1⟩ := int_of e1
  obtain ⟨x2, rfl, b2⟩ := int_of e2
  obtain ⟨x3, rfl, b3⟩ := int_of e3
  obtain ⟨ini, rfl, -, -, hwi⟩ := open_int Tryz.underlying3 (hval 1 3 vi rfl rfl) hi
  have bi : I64 ini := bounds_i64 hwi
  obtain ⟨a1, len1, cap1, rfl⟩ := okWide_slice Tryz.underlying24 (hval 2 24 v1 rfl rfl)
  obtain ⟨fuel1, hf1⟩ := h1
  simp only [Value.cells] at hf1
  have hsz : (DataW.weightsEach Tryz.prog (Tryz.f3.params.toList ++ Rows.ledgerSpec.plain.varTypes Tryz.prog) ([d0, di, d1] ++ [])).all (· ≤ reachBytes) = true := hsz0
  have hwd : ∀ n ∈ d1.weights Tryz.prog 24, n ≤ reachBytes := fun n hn => by
    have := List.all_eq_true.1 hsz n (DataW.weights_mem_each (j := 2) (t := 24) (by rw [Tryz.params3]; rfl) rfl n hn)
    simpa using this
  obtain ⟨l, hll, hlb, hsc, hvl⟩ := lopen_moves hf1 hwd
  subst hll
  clear hA0 hval0
  refine (ledger_all x0 x1 x2 x3 ini a1 cap1 l W b0 b1 b2 b3 bi hsc hlb hvl (gl_row hL) (gl_row hL).lt).mono fun e W' ⟨he, bel⟩ => ?_
  subst he
  exact ⟨_, rfl, _, _, _, [], _, [], hW', trodAll_mk1 (shut_bool Tryz.underlying4 _), trodAll_cons_mk (Below.trod laidOut (by kernel_rfl) (of_decide_eq_true (by kernel_rfl)) k0 bel lt0) (trodAll_cons_mk (Below.trod laidOut (by kernel_rfl) (of_decide_eq_true (by kernel_rfl)) ki bel lti) (trodAll_cons_mk (Below.trod laidOut (by kernel_rfl) (of_decide_eq_true (by kernel_rfl)) k1 bel lt1) trodAll_mk0)), rfl, bel.frame _, fun h => by cases h⟩

theorem ledger_said : Rows.LedgerSaid :=
  OpenClaim.holds_of_wide 3 Tryz.f3 rfl rfl rfl rfl rfl rfl rfl ⟨rfl, rfl, rfl, rfl, rfl⟩ rfl rfl rfl rfl rfl (by kernel_rfl) Tryz.func3 ledgerRow_closed
    (of_decide_eq_true (by kernel_rfl)) (by unfold Func.isWrapper; first | (rw [if_pos (by decide +kernel)]; kernel_rfl) | (rw [if_neg (by decide +kernel)]; exact ⟨rfl, rfl⟩))
    (fun os started H enc _ => lifted os started H enc)

theorem ledger_full : Rows.LedgerCardSaid :=
  Claim7.holds_tied_plain_at .later [] [.wider, .wider, .data, .wider, .data, .wider, .data] true Rows.ledgerCard.stood.harness true
    ledger_said (fun _ h => by cases h) ledgerRow_wfT (fun _ h => by cases h) ledger_row_tie rfl ⟨rfl, rfl⟩ (by kernel_rfl) rfl
    (fun f fn hf hfn => by
      obtain rfl : f = 3 := Option.some.inj ((show Tryz.prog.funcNamed "sluice/sluicekeep.Ledger" = some 3 by kernel_rfl).symm.trans hf) |>.symm
      obtain rfl : fn = Tryz.f3 := (Option.some.inj (Tryz.func3.symm.trans hfn)).symm
      exact ⟨ledgerRow_looks, fun j t ht => by
        rw [Tryz.params3] at ht
        have hm : t ∈ [23, 3, 24] := by simpa using Array.mem_of_getElem? ht
        have hall : ([23, 3, 24].all fun u => !Tryz.prog.wantsStandIn u) = true := by kernel_rfl
        exact (show Tryz.prog.wantsStandIn t = false by simpa using List.all_eq_true.1 hall t hm)⟩)
    ledgerRow_goes
#print axioms ledger_full
end Go.Proofs.YtdccldbefdfppaaGreatDoor
