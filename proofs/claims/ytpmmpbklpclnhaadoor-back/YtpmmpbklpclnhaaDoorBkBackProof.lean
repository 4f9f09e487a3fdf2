import Derived.Test.YtpmmpbklpclnhaaDoorBkBackF
import Derived.Test.YtpmmpbklpclnhaaDoorBkOpen
import Derived.Test.YtpmmpbklpclnhaaDoorCards
import Derived.Test.YtpmmpbklpclnhaaDoorTie
import Derived.SevenTiedAt
import Derived.SizedLaws
import Derived.Lib.SmallJoins
import Derived.Stop.Joined
set_option linter.unusedVariables false
set_option linter.unusedSimpArgs false
/-
  THE STATEMENT: Rows.BackCardSaid.
-/
namespace Go.Proofs.YtpmmpbklpclnhaaDoor
set_option linter.unusedVariables false
set_option linter.unusedSimpArgs false
open Go.ChangeShapes Go.WideShapes Go.ChangeAt Go.RowKit

theorem own : ownKnob Tryd.prog.godebug = none := by kernel_rfl
theorem laidOut : laidOutB Tryd.prog = true := by kernel_rfl
theorem laid_plain : (Rows.backRow.laid.all fun x => x.2.handleName?.isNone) = true := by kernel_rfl
theorem gl_row {W : World} (h : laidMetH Tryd.prog Rows.backRow.laid W) : Gl W := by
  rw [MakeChecks.laidMetH_plain _ _ _ laid_plain] at h
  exact gl_of_laid h (by simp [Rows.backRow]) (by simp [Rows.backRow]) (by simp [Rows.backRow]) (by simp [Rows.backRow]) (by simp [Rows.backRow]) (by simp [Rows.backRow]) (by simp [Rows.backRow])
theorem door_met (os : Os) (args : Array Value) : laidMetH Tryd.prog Rows.backRow.laid ((World.doorLaid Tryd.prog 400 os).forCall (fun _ _ => 0) ⟨#[], args, []⟩).memory :=
  laidMetH_of_parts3 (fuel := 8) (laidMet_of_run' 8 (by kernel_rfl) (by kernel_rfl)) (by kernel_rfl) (by kernel_rfl)

theorem cellsHds : Tryd.prog.cellsOf 34 = 1 := by kernel_rfl
theorem bytesInt : Tryd.prog.bytesOf 3 = 8 := by kernel_rfl
theorem bytesHds : Tryd.prog.bytesOf 34 = 24 := by kernel_rfl

section
variable {H : Type} {enc : TypeId × Value → H} {W : World}
theorem spot_none {a : Addr} {v : Value} (h : W.cell? (a.add 0) = some v) : ∃ b off, a = ⟨b, off, none⟩ ∧ b < W.heap.size := by
  obtain ⟨b, off, spot⟩ := a
  have hspot : spot = none := by simpa [Addr.add] using World.cell?_spot h
  subst hspot
  refine ⟨b, off, rfl, ?_⟩
  have := World.block_lt_of_cell? W _ h
  simpa [Addr.add] using this
theorem add_at (b off i : Nat) : (⟨b, off, none⟩ : Addr).add i = ⟨b, off + i, none⟩ := by unfold Addr.add; split <;> simp_all
/-- Numbers, as they read. -/
theorem open_is {fuel : Nat} {sa : Option Addr} {len cap : Nat} {x : DataW H × List MemPlace} (h : DataW.trod enc Tryd.prog W 0 (fun _ => true) true fuel 22 [.slice sa len cap] = some x) :
    ∃ xs : List Int, xs.length = len ∧ IsIn W sa xs ∧ (len = 0 ∨ ∃ el sp, x.1 = .slice el sp ∧ el.length = len) := by
  rcases Deep.open_slice1 Tryd.underlying22 bcellsInt h with ⟨hcs, _⟩ | ⟨a, len', cap', m, n, V, D, Pl, hcs, _, hl, hmx, hm, hx, hel⟩
  · simp at hcs
    obtain ⟨rfl, rfl, rfl⟩ := hcs
    exact ⟨[], rfl, Or.inl rfl, Or.inl rfl⟩
  · simp at hcs
    obtain ⟨rfl, rfl, rfl⟩ := hcs
    simp only [if_true] at hm
    have hone : ∀ i, i < len → ∃ z : Int, W.cell? (a.add i) = some (.int .i64 z) ∧ -9223372036854775808 ≤ z ∧ z ≤ 9223372036854775807 := by
      intro i hi
      obtain ⟨h1, h2⟩ := hel i (by omega)
      obtain ⟨k0, e0, _, w0⟩ := DataW.trod_int Tryd.underlying3 h2
      simp at e0
      have hb := bounds_i64 w0
      exact ⟨k0, by rw [h1, e0], hb.1, hb.2⟩
    obtain ⟨f, hf⟩ := @Deep.choose_lt Int ⟨0⟩ _ _ hone
    refine ⟨(List.range len).map f, by simp, ?_, Or.inr ⟨_, _, congrArg Prod.fst hx, by simp⟩⟩
    rcases Nat.eq_zero_or_pos len with h0 | h0
    · exact Or.inl (by simpa using h0)
    · right
      obtain ⟨b, off, rfl, hb⟩ := spot_none (hf 0 h0).1
      refine ⟨b, off, rfl, hb, fun i hi => ?_⟩
      simp at hi
      obtain ⟨e0, e1, e2⟩ := hf i hi
      rw [add_at] at e0
      simp only [List.getElem_map, List.getElem_range]
      exact ⟨e0, e1, e2⟩
/-- Lists of pairs, as they read. -/
theorem open_lls {fuel : Nat} {sa : Option Addr} {len cap : Nat} {x : DataW H × List MemPlace} (h : DataW.trod enc Tryd.prog W 0 (fun _ => true) true fuel 23 [.slice sa len cap] = some x) :
    ∃ ll : List LV, ll.length = len ∧ LLIn W sa ll ∧ (len = 0 ∨ ∃ el sp, x.1 = .slice el sp ∧ el.length = len) := by
  rcases Deep.open_slice1 Tryd.underlying23 cellsHds h with ⟨hcs, _⟩ | ⟨a, len', cap', m, n, V, D, Pl, hcs, _, hl, hmx, hm, hx, hel⟩
  · simp at hcs
    obtain ⟨rfl, rfl, rfl⟩ := hcs
    exact ⟨[], rfl, Or.inl rfl, Or.inl rfl⟩
  · simp at hcs
    obtain ⟨rfl, rfl, rfl⟩ := hcs
    simp only [if_true] at hm
    have hone : ∀ i, i < len → ∃ z : LV, W.cell? (a.add i) = some (.slice z.s z.hs.length z.c) ∧ HdIn W z.s z.hs := by
      intro i hi
      obtain ⟨h1, h2⟩ := hel i (by omega)
      obtain ⟨sk, lk, ck, hk⟩ := Joins.slice_form Tryd.underlying34 h2
      rw [hk] at h2
      simp at hk
      obtain ⟨hs, hhl, hl9, hok, hc⟩ := open_heads h2
      subst hhl
      exact ⟨⟨sk, ck, hs⟩, by rw [h1, hk], hl9, hok, hc⟩
    obtain ⟨f, hf⟩ := @Deep.choose_lt LV ⟨⟨none, 0, []⟩⟩ _ _ hone
    refine ⟨(List.range len).map f, by simp, ?_, Or.inr ⟨_, _, congrArg Prod.fst hx, by simp⟩⟩
    rcases Nat.eq_zero_or_pos len with h0 | h0
    · exact Or.inl (by simpa using h0)
    · right
      obtain ⟨b, off, rfl, hb⟩ := spot_none (hf 0 h0).1
      refine ⟨b, off, rfl, hb, fun i hi => ?_⟩
      simp at hi
      obtain ⟨e0, e1⟩ := hf i hi
      rw [add_at] at e0
      simp only [List.getElem_map, List.getElem_range]
      exact ⟨e0, e1⟩
end

set_option maxRecDepth 100000 in
theorem lifted (os : Os) (started : os.Started) (H : Type) (enc : TypeId × Value → H) :
    ReturnsInHanded {} Tryd.checked os 3 .any (fun w args => (Rows.backSpec.pre enc Tryd.prog Tryd.f3 [] false w args ∧ laidMetH Tryd.prog Rows.backRow.laid w) ∧ sizedMet enc Tryd.prog Tryd.f3 (OpenSpec.ofChange Rows.backSpec) false w args)
      (Rows.backSpec.post enc Tryd.prog Tryd.f3 false true false false) := by
  refine returnsInHanded_of_change_and (C := Tryd.checked) (X := fun w _ => laidMetH Tryd.prog Rows.backRow.laid w) (fun _ _ _ hh h => h.of_heap hh) own started (by kernel_rfl) Tryd.func3
    (ChangeSpec.witness_shaped (enc := enc) (C := Tryd.checked) (os := os) (X := fun w _ => laidMetH Tryd.prog Rows.backRow.laid w) false (World.doorLaid Tryd.prog 400 os) #[.slice none 0 0, .slice none 0 0] 8 rfl (World.shaped_of_RefB (by kernel_rfl) (by kernel_rfl)) (by kernel_rfl) (by kernel_rfl) (by kernel_rfl) (door_met os _)) ?_
  intro W base args ds gs before hval0 hW _ hsz0 hL _
  have hval : ∀ (j : Nat) t v, Tryd.f3.params[j]? = some t → args[j]? = some v → Value.okWide Tryd.prog W .any base t v := hval0
  have hsz : (DataW.weightsEach Tryd.prog (Tryd.f3.params.toList ++ Rows.backSpec.plain.varTypes Tryd.prog) (ds ++ gs)).all (· ≤ reachBytes) = true := hsz0
  have hW' := hW
  obtain ⟨p, q, hA0, hV, rfl, hfz, hnd⟩ := hW
  have hA : DataW.TrodAll enc Tryd.prog W 0 (fun _ => true) true Tryd.f3.params.toList args.toList ds p := hA0
  rw [Tryd.params3] at hA hval hsz
  obtain ⟨v0, vs0, d0, ds0, p0, q0, hargs, rfl, rfl, h0, r0⟩ := trodAll_cons hA
  obtain ⟨v1, vs1, d1, ds1, p1, q1, rfl, rfl, rfl, h1, r1⟩ := trodAll_cons r0
  obtain ⟨rfl, rfl, rfl⟩ := trodAll_nil r1
  obtain rfl : args = #[v0, v1] := by cases args; simp_all
  obtain ⟨rfl, rfl⟩ := trodVars_none hV
  obtain ⟨a0, len0, cap0, rfl⟩ := okWide_slice Tryd.underlying22 (hval 0 22 v0 rfl rfl)
  obtain ⟨a1, len1, cap1, rfl⟩ := okWide_slice Tryd.underlying23 (hval 1 23 v1 rfl rfl)
  have k0 := h0
  have k1 := h1
  have lt0 : ∀ x ∈ p0, x.block < W.heap.size := by obtain ⟨m, hm⟩ := k0; exact DataW.trod_lt m _ _ _ hm
  have lt1 : ∀ x ∈ p1, x.block < W.heap.size := by obtain ⟨m, hm⟩ := k1; exact DataW.trod_lt m _ _ _ hm
  obtain ⟨fuel0, hf0⟩ := h0
  obtain ⟨fuel1, hf1⟩ := h1
  simp only [Value.cells] at hf0 hf1
  obtain ⟨xs, hxl, hxs, hx9⟩ := open_is hf0
  obtain ⟨ll, hll, hls, hl9⟩ := open_lls hf1
  have hn0 : len0 ≤ 35184372088832 := by
    rcases hx9 with e | ⟨el, sp, e1, e2⟩
    · omega
    · have := sized_slice (j := 0) (t := 22) hsz rfl (by simp only at e1; rw [e1]; rfl) Tryd.underlying22
      rw [bytesInt, e2] at this
      have h9 := reachBytes_lt
      omega
  have hn1 : len1 ≤ 35184372088832 := by
    rcases hl9 with e | ⟨el, sp, e1, e2⟩
    · omega
    · have := sized_slice (j := 1) (t := 23) hsz rfl (by simp only at e1; rw [e1]; rfl) Tryd.underlying23
      rw [bytesHds, e2] at this
      have h9 := reachBytes_lt
      omega
  subst hxl
  subst hll
  clear hA0 hval0
  refine (back_walk a0 cap0 xs a1 cap1 ll W (gl_row hL) hxs hn0 hls hn1).mono fun e W' ⟨he, bel⟩ => ?_
  subst he
  exact ⟨_, rfl, _, _, _, [], _, [], hW', trodAll_mk1 (shut_bool Tryd.underlying4 _), (trodAll_cons_mk (Below.trod laidOut (by kernel_rfl) (of_decide_eq_true (by kernel_rfl)) k0 bel lt0) (trodAll_cons_mk (Below.trod laidOut (by kernel_rfl) (of_decide_eq_true (by kernel_rfl)) k1 bel lt1) trodAll_mk0)), rfl, bel.frame _, fun h => by cases h⟩

theorem back_said : Rows.BackSaid :=
  OpenClaim.holds_of_wide 3 Tryd.f3 rfl rfl rfl rfl rfl rfl rfl ⟨rfl, rfl, rfl, rfl, rfl⟩ rfl rfl rfl rfl rfl (by kernel_rfl) Tryd.func3 (by kernel_rfl)
    (of_decide_eq_true (by kernel_rfl)) (by unfold Func.isWrapper; first | (rw [if_pos (by decide +kernel)]; kernel_rfl) | (rw [if_neg (by decide +kernel)]; exact ⟨rfl, rfl⟩))
    (fun os started H enc _ => lifted os started H enc)

theorem back_holds : Rows.BackCardSaid :=
  Claim7.holds_tied_plain_at .later [] [.wider, .wider, .data, .wider, .data, .wider, .data] true Rows.backCard.stood.harness true
    back_said (fun _ h => by cases h) (by kernel_rfl) (fun _ h => by cases h) back_row_tie rfl ⟨rfl, rfl⟩ (by kernel_rfl) rfl
    (fun f fn hf hfn => by
      obtain rfl : f = 3 := Option.some.inj ((show Tryd.prog.funcNamed "sluice/sluicekeep.Back" = some 3 by kernel_rfl).symm.trans hf) |>.symm
      obtain rfl : fn = Tryd.f3 := (Option.some.inj (Tryd.func3.symm.trans hfn)).symm
      exact ⟨by kernel_rfl, fun j t ht => by
        rw [Tryd.params3] at ht
        have hm : t ∈ [22, 23] := by simpa using Array.mem_of_getElem? ht
        have hall : ([22, 23].all fun u => !Tryd.prog.wantsStandIn u) = true := by kernel_rfl
        exact (show Tryd.prog.wantsStandIn t = false by simpa using List.all_eq_true.1 hall t hm)⟩)
    (by kernel_rfl)
#print axioms back_holds
end Go.Proofs.YtpmmpbklpclnhaaDoor
