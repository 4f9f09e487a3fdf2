/-
  THE STATEMENT: Rows.ReadsUptoSaid.
-/
import Derived.Test.YtckeblkadiehbaaGreatLift
import Derived.Test.YtckeblkadiehbaaGreatPlays
import Derived.Test.YtckeblkadiehbaaGreatStepR
namespace Go.Proofs.YtckeblkadiehbaaGreat
open Go.ChangeShapes Go.WideShapes Go.ChangeAt Go.RowKit
open Go.ChangeMaps (open_string shut_string)

set_option maxRecDepth 100000 in
set_option maxHeartbeats 6400000 in
theorem reads_walk (sF sH sC sS : Option Addr) (cF nH cH nC cC nS cS : Nat) (qs : List (Fr × Value)) (so : Option Addr) (co : Nat) (ops : List OpV) (W : World) (hO : OpsIn W so ops) (hn : ops.length ≤ 1048576) (hwt : wt ops ≤ 1048576) :
    Calls Tryz.prog 4 #[.agg #[.slice sF qs.length cF, .slice sH nH cH, .slice sC nC cC, .slice sS nS cS], .slice so ops.length co] W fun e w' => e = .returned (.bool true) ∧ Below W.heap.size W w' := by
  have HO := hide hO
  clear hO
  go_enter Tryz.func4, Tryz.ntmps4
  go_wp2_with fail
  have hb1 : ∀ o, Below W.heap.size W (W.alloc o) := fun o => (Below.refl _ W).alloc (Nat.le_refl _) _
  refine (plays_true reads_played sF sH sC sS qs.length cF nH cH nC cC nS cS so co ops _ trivial (HO.out.below (hb1 _)) hn (by omega)).mono ?_
  rintro e w' ⟨rfl, hb⟩
  have HB := hide ((hb1 _).trans (hb.mono (hb1 _).size))
  clear hb hb1
  go_wp2
  go_ret
  exact ⟨rfl, HB.out⟩

set_option maxRecDepth 100000 in
theorem contract (H : Type) (enc : TypeId × Value → H) (W : World) (base : Nat) (args : Array Value) (ds gs : List (DataW H)) (before : List MemPlace)
    (hval : ∀ (j : Nat) t v, Tryz.f4.params[j]? = some t → args[j]? = some v → Value.okWide Tryz.prog W .any base t v)
    (hW : DataW.Whole enc Tryz.prog Tryz.f4.params.toList Rows.readsSpec.vars false W args.toList ds gs before) (hk : Rows.uptoSmall H (ds ++ gs) = true) :
    Calls Tryz.prog 4 args W fun e W' => ∃ v, e = .returned v ∧ Rows.readsSpec.post enc Tryz.prog Tryz.f4 false true false false W args v W' := by
  have hW' := hW
  obtain ⟨p, q, hA0, hV, rfl, hfz, hnd⟩ := hW
  have hA : DataW.TrodAll enc Tryz.prog W 0 (fun _ => true) true Tryz.f4.params.toList args.toList ds p := hA0
  rw [Tryz.params4] at hA hval
  obtain ⟨v0, vs0, d0, ds0, p0, q0, hargs, rfl, rfl, h0, r0⟩ := trodAll_cons hA
  obtain ⟨v1, vs1, d1, ds1, p1, q1, rfl, rfl, rfl, h1, r1⟩ := trodAll_cons r0
  obtain ⟨rfl, rfl, rfl⟩ := trodAll_nil r1
  obtain rfl : args = #[v0, v1] := by cases args; simp_all
  obtain ⟨rfl, rfl⟩ := trodVars_none hV
  have hbulk : Rows.uptoBulkAll [d0, d1] ≤ 1048576 := by
    have h : Rows.uptoBulkAll ([d0, d1] ++ []) ≤ 1048576 := of_decide_eq_true hk
    exact h
  simp only [Rows.uptoBulkAll] at hbulk
  have k0 := h0
  have k1 := h1
  have lt0 : ∀ x ∈ p0, x.block < W.heap.size := by obtain ⟨m, hm⟩ := k0; exact DataW.trod_lt m _ _ _ hm
  have lt1 : ∀ x ∈ p1, x.block < W.heap.size := by obtain ⟨m, hm⟩ := k1; exact DataW.trod_lt m _ _ _ hm
  obtain ⟨n0, n1, n2, n3, hu, t0, t1, t2, t3, hone⟩ := undGoods
  obtain ⟨u0, u1, u2, u3, y0, y1, y2, y3, fu, rfl, rfl, rfl, e0, e1, e2, e3⟩ := Joins.open_agg4 hu hone cellsGoods (hval 0 27 v0 rfl rfl) h0
  rw [t0] at e0
  rw [t1] at e1
  rw [t2] at e2
  rw [t3] at e3
  obtain ⟨sF, nF, cF, hs0⟩ := Joins.slice_form Tryz.underlying22 e0
  obtain ⟨sH, nH, cH, hs1⟩ := Joins.slice_form Tryz.underlying23 e1
  obtain ⟨sC, nC, cC, hs2⟩ := Joins.slice_form Tryz.underlying24 e2
  obtain ⟨sS, nS, cS, hs3⟩ := Joins.slice_form Tryz.underlying25 e3
  simp only [List.cons.injEq, and_true] at hs0 hs1 hs2 hs3
  subst hs0 hs1 hs2 hs3
  obtain ⟨a1, len1, cap1, rfl⟩ := okWide_slice Tryz.underlying28 (hval 1 28 v1 rfl rfl)
  obtain ⟨fuel1, hf1⟩ := h1
  simp only [Value.cells] at hf1
  simp only [Rows.uptoBulk, Rows.uptoBulkAll] at hbulk
  obtain ⟨qs, hql, hqn, hfs⟩ := open_frames e0 (by omega)
  obtain ⟨ops, hol, hon, how, hos⟩ := open_ops hf1 (by show Rows.uptoBulk d1 ≤ _; omega)
  subst hql
  subst hol
  clear hA0
  refine (reads_walk sF sH sC sS cF nH cH nC cC nS cS qs a1 cap1 ops W hos hon how).mono fun e W' ⟨he, bel⟩ => ?_
  subst he
  exact ⟨_, rfl, _, _, _, [], _, [], hW', trodAll_mk1 (shut_bool Tryz.underlying4 _), (trodAll_cons_mk (Below.trod laidOut (by kernel_rfl) (of_decide_eq_true (by kernel_rfl)) k0 bel lt0) (trodAll_cons_mk (Below.trod laidOut (by kernel_rfl) (of_decide_eq_true (by kernel_rfl)) k1 bel lt1) trodAll_mk0)), rfl, bel.frame _, fun h => by cases h⟩

set_option maxRecDepth 100000 in
theorem lifted (os : Os) (started : os.Started) (H : Type) (enc : TypeId × Value → H) (F : Stop.Interp) :
    ReturnsInHanded {} Tryz.checked os 4 .any ((Rows.OpenSpec.upto Rows.readsSpec).pre6 enc Tryz.prog Tryz.f4 Rows.readsUptoRow.domain false) (((Rows.OpenSpec.upto Rows.readsSpec).at F).post enc Tryz.prog Tryz.f4 false true false false) := by
  refine returnsInHanded_of_cond (C := Tryz.checked) (s := Rows.OpenSpec.upto Rows.readsSpec) (k := Rows.uptoSmall) rfl own started (by kernel_rfl) Tryz.func4
    (OpenSpec.witness (enc := enc) (C := Tryz.checked) (s := Rows.OpenSpec.upto Rows.readsSpec) (k := Rows.uptoSmall) rfl false ⟨#[], #[.agg #[.slice none 0 0, .slice none 0 0, .slice none 0 0, .slice none 0 0], .slice none 0 0], []⟩ 8 (by kernel_rfl) (by kernel_rfl) (by kernel_rfl)
      (x := ([.agg [.nil, .nil, .nil, .nil], .nil], [], [])) (by kernel_rfl) rfl (by kernel_rfl)) ?_
  intro W base args ds gs before hval hW _ hk _
  exact contract H enc W base args ds gs before hval hW hk

theorem reads_upto : Rows.ReadsUptoSaid :=
  OpenClaim.holds_of_cond 4 Tryz.f4 rfl rfl rfl rfl rfl rfl rfl ⟨rfl, rfl, rfl, rfl, rfl⟩ rfl rfl rfl rfl rfl (by kernel_rfl) Tryz.func4 (by kernel_rfl)
    (of_decide_eq_true (by kernel_rfl)) (by unfold Func.isWrapper; first | (rw [if_pos (by decide +kernel)]; kernel_rfl) | (rw [if_neg (by decide +kernel)]; exact ⟨rfl, rfl⟩))
    (fun os started H enc _ F => lifted os started H enc F)
#print axioms reads_upto
end Go.Proofs.YtckeblkadiehbaaGreat
