import Derived.Test.YtdccldbefdfppaaGreatDoorQGav
import Derived.Test.YtdccldbefdfppaaGreatDoorQEnNew3
set_option linter.unusedVariables false
set_option linter.unusedSimpArgs false
/-
  The end that the law makes: what it says first, four streams, its first credit.
-/
namespace Go.Proofs.YtdccldbefdfppaaGreatDoor
set_option linter.unusedVariables false
set_option linter.unusedSimpArgs false
open Go.RowKit

theorem lay_len (k f s : Int) (b : List UInt8) : (lay k f s b).length = 6 + b.length := lay_length k f s b
/-- What it says first. -/
def firstB (i : Int) : List UInt8 := lay 3 0 0 (four4 i.toNat) ++ lay 3 1 0 []
theorem firstB_len (i : Int) : (firstB i).length = 16 := by unfold firstB; rw [List.length_append, lay_len, lay_len]; rfl
theorem right_heads (n : Int) (h0 : 1 ≤ n) (h1 : n ≤ 7) : Right 1 4 n [] := by
  refine ⟨by omega, by omega, by omega, by omega, by omega, by omega, ?_, by simp, by decide, by decide⟩
  unfold sFits
  simp
  omega
end Go.Proofs.YtdccldbefdfppaaGreatDoor
/-
  The law's own: pick, tameConfig.
-/
namespace Go.Proofs.YtdccldbefdfppaaGreatDoor
set_option linter.unusedVariables false
set_option linter.unusedSimpArgs false
open Go.RowKit

theorem kpick_neg {c n : Int} (hc : c < 0) (hn : 0 < n) : 0 ≤ -(c + 1).tmod n ∧ -(c + 1).tmod n < n := by
  have e : -(c + 1).tmod n = (-(c + 1)) % n := by
    rw [← Int.neg_tmod]
    exact Int.tmod_eq_emod_of_nonneg (by omega)
  rw [e]
  exact ⟨Int.emod_nonneg _ (by omega), Int.emod_lt_of_pos _ hn⟩
/-- A configuration that may be. -/
structure CfgOk (i c b k : Int) : Prop where
  i0 : 0 ≤ i
  i1 : i ≤ 1000
  c0 : 32 ≤ c
  c1 : c ≤ 1000
  b0 : 1 ≤ b
  b1 : b ≤ 1000
  k0 : c ≤ k
  k1 : k ≤ 1000

set_option maxHeartbeats 400000 in
theorem kpick_fun (c n : Int) (w : World) (hn : 0 < n) (hc : I64 c) :
    Calls Tryz.prog 5 #[.int .i64 c, .int .i64 n] w fun e w' => e = .returned (.int .i64 (pkI c n)) ∧ w' = w := by
  obtain ⟨hc1, hc2⟩ := hc
  have hnz : ¬ n = 0 := by omega
  by_cases hneg : c < 0
  · have e : pkI c n = -(c + 1).tmod n := by unfold pkI; rw [if_pos hneg]
    rw [e]
    clear e
    go_enter Tryz.func5, Tryz.ntmps5
    go_wp2
    go_ret
    exact ⟨rfl, rfl⟩
  · have e : pkI c n = c % n := by unfold pkI; rw [if_neg hneg]
    rw [e]
    clear e
    go_enter Tryz.func5, Tryz.ntmps5
    go_wp2
    go_ret
    exact ⟨rfl, rfl⟩
theorem blk_alloc {W : World} {b : Nat} {o x : Obj} (h : W.heap[b]? = some x) : (W.alloc o).heap[b]? = some x := by
  rw [heap_alloc_old _ _ (Array.getElem?_eq_some_iff.1 h).1]
  exact h
set_option maxRecDepth 100000 in
set_option maxHeartbeats 1600000 in
theorem tameConfig_any (x0 x1 x2 x3 : Int) (w : World) (h0 : I64 x0) (h1 : I64 x1) (h2 : I64 x2) (h3 : I64 x3) :
    Calls Tryz.prog 7 #[.agg #[.int .i64 x0, .int .i64 x1, .int .i64 x2, .int .i64 x3]] w fun e w' => ∃ i c b k, e = .returned (.agg #[.int .i64 i, .int .i64 c, .int .i64 b, .int .i64 k]) ∧ CfgOk i c b k ∧ Below w.heap.size w w' := by
  have HPK : Hid (∀ c n w, 0 < n → I64 c → Calls Tryz.prog 5 #[.int .i64 c, .int .i64 n] w fun e w' => e = .returned (.int .i64 (pkI c n)) ∧ w' = w) := fun c n w hn hc => kpick_fun c n w hn hc
  obtain ⟨i, hi⟩ : ∃ i, i = pkI x0 1001 := ⟨_, rfl⟩
  obtain ⟨b0, hb0⟩ : ∃ b, b = pkI x2 1000 := ⟨_, rfl⟩
  obtain ⟨c0, hc0⟩ : ∃ c, c = pkI x1 969 := ⟨_, rfl⟩
  have qi := pkI_bounds x0 (n := 1001) (by omega)
  have qb := pkI_bounds x2 (n := 1000) (by omega)
  have qc := pkI_bounds x1 (n := 969) (by omega)
  rw [← hi] at qi
  rw [← hb0] at qb
  rw [← hc0] at qc
  obtain ⟨qi0, qi1⟩ := qi
  obtain ⟨qb0, qb1⟩ := qb
  obtain ⟨qc0, qc1⟩ := qc
  have qk := pkI_bounds x3 (n := 1000 - (32 + c0) + 1) (by omega)
  obtain ⟨k0, hk0⟩ : ∃ k, k = pkI x3 (1000 - (32 + c0) + 1) := ⟨_, rfl⟩
  rw [← hk0] at qk
  obtain ⟨qk0, qk1⟩ := qk
  have w1 : IntKind.i64.wrap (1 + b0) = 1 + b0 := by rw [IntKind.wrap_i64]; omega
  have w2 : IntKind.i64.wrap (32 + c0) = 32 + c0 := by rw [IntKind.wrap_i64]; omega
  have w3 : IntKind.i64.wrap (1000 - (32 + c0)) = 1000 - (32 + c0) := by rw [IntKind.wrap_i64]; omega
  have w4 : IntKind.i64.wrap (1000 - (32 + c0) + 1) = 1000 - (32 + c0) + 1 := by rw [IntKind.wrap_i64]; omega
  have w5 : IntKind.i64.wrap (32 + c0 + k0) = 32 + c0 + k0 := by rw [IntKind.wrap_i64]; omega
  have n4 : 0 < 1000 - (32 + c0) + 1 := by omega
  have hi' : pkI x0 1001 = i := hi.symm
  have hb' : pkI x2 1000 = b0 := hb0.symm
  have hc' : pkI x1 969 = c0 := hc0.symm
  have hk' : pkI x3 (1000 - (32 + c0) + 1) = k0 := hk0.symm
  have hOK : CfgOk i (32 + c0) (1 + b0) (32 + c0 + k0) := ⟨by omega, by omega, by omega, by omega, by omega, by omega, by omega, by omega⟩
  have HOK := hide hOK
  clear hOK hi hb0 hc0 hk0
  go_enter Tryz.func7, Tryz.ntmps7
  go_upto_region 1 with fail
  go_cut [3] (fun s3 wx => s3 = .pointer (some ⟨w.heap.size + 1 + 1, 0, none⟩) ∧ wx = (((w.alloc (.cells #[.int .i64 x0, .int .i64 x1, .int .i64 x2, .int .i64 x3] 23)).alloc (.cells #[.int .i64 0, .int .i64 0, .int .i64 0, .int .i64 0] 23)).alloc (.cells #[.int .i64 i, .int .i64 0, .int .i64 (1 + b0), .int .i64 0] 23)).drew)
  case first =>
    go_region_held3 (fun w' => w'.cell? ⟨w.heap.size, 0, none⟩ = some (.int .i64 x0) ∧ w'.cell? ⟨w.heap.size, 1, none⟩ = some (.int .i64 x1) ∧ w'.cell? ⟨w.heap.size, 2, none⟩ = some (.int .i64 x2) ∧ w'.cell? ⟨w.heap.size, 3, none⟩ = some (.int .i64 x3)) (go_keep)
      (first | (go_at_call 5; refine (HPK.out _ _ _ (by first | decide | assumption) (by assumption)).mono ?_; rintro e w' ⟨rfl, rfl⟩))
    all_goals (go_wp2_with fail; go_meet)
    all_goals (simp only [hi', hb', w1]; exact ⟨trivial, trivial⟩)
  case rest =>
    obtain ⟨rfl, hwc⟩ := hcut
    rw [hwc]
    clear hwc
    go_wp2_with fail
    refine (HPK.out _ _ _ (by decide) h1).mono ?_
    rintro e w' ⟨rfl, hw'⟩
    rw [hw', hc']
    clear hw' w'
    go_upto_region 3 with fail
    obtain ⟨wB, hwB⟩ : ∃ wB, wB = (((w.alloc (.cells #[.int .i64 x0, .int .i64 x1, .int .i64 x2, .int .i64 x3] 23)).alloc (.cells #[.int .i64 0, .int .i64 0, .int .i64 0, .int .i64 0] 23)).alloc (.cells #[.int .i64 i, .int .i64 (32 + c0), .int .i64 (1 + b0), .int .i64 0] 23)).drew := ⟨_, rfl⟩
    rw [← hwB]
    have ha : wB.heap[w.heap.size]? = some (.cells #[.int .i64 x0, .int .i64 x1, .int .i64 x2, .int .i64 x3] 23 (0, 0)) := by
      rw [hwB]
      exact blk_alloc (blk_alloc (heap_alloc_new w _))
    have hb : wB.heap[w.heap.size + 1]? = some (.cells #[.int .i64 0, .int .i64 0, .int .i64 0, .int .i64 0] 23 (0, 0)) := by
      rw [hwB]
      have := heap_alloc_new (w.alloc (.cells #[.int .i64 x0, .int .i64 x1, .int .i64 x2, .int .i64 x3] 23)) (.cells #[.int .i64 0, .int .i64 0, .int .i64 0, .int .i64 0] 23)
      rw [World.size_alloc] at this
      exact blk_alloc this
    have hc : wB.heap[w.heap.size + 1 + 1]? = some (.cells #[.int .i64 i, .int .i64 (32 + c0), .int .i64 (1 + b0), .int .i64 0] 23 (0, 0)) := by
      rw [hwB]
      have := heap_alloc_new ((w.alloc (.cells #[.int .i64 x0, .int .i64 x1, .int .i64 x2, .int .i64 x3] 23)).alloc (.cells #[.int .i64 0, .int .i64 0, .int .i64 0, .int .i64 0] 23)) (.cells #[.int .i64 i, .int .i64 (32 + c0), .int .i64 (1 + b0), .int .i64 0] 23)
      rw [World.size_alloc, World.size_alloc] at this
      exact this
    have hbe : Below w.heap.size w wB := by
      rw [hwB]
      have := (((Below.refl w.heap.size w).alloc (Nat.le_refl _) (.cells #[.int .i64 x0, .int .i64 x1, .int .i64 x2, .int .i64 x3] 23)).alloc (by simp) (.cells #[.int .i64 0, .int .i64 0, .int .i64 0, .int .i64 0] 23)).alloc (by simp; omega) (.cells #[.int .i64 i, .int .i64 (32 + c0), .int .i64 (1 + b0), .int .i64 0] 23)
      exact ⟨this.os, this.tape, this.output, this.size, this.block⟩
    have y3 : wB.cell? ⟨w.heap.size, 3, none⟩ = some (.int .i64 x3) := by rw [cell_of_row _ _ _ _ _ _ ha]; rfl
    have y1 : wB.cell? ⟨w.heap.size + 1 + 1, 1, none⟩ = some (.int .i64 (32 + c0)) := by rw [cell_of_row _ _ _ _ _ _ hc]; rfl
    have z3 : wB.cell? ⟨w.heap.size + 1 + 1, 3, none⟩ = some (.int .i64 0) := by rw [cell_of_row _ _ _ _ _ _ hc]; rfl
    have zf : wB.frozen? ⟨w.heap.size + 1 + 1, 3, none⟩ = false := by simp [World.frozen?, hc]
    have hKP : (wB.setCell ⟨w.heap.size + 1 + 1, 3, none⟩ (.int .i64 (32 + c0 + k0))).cell? ⟨w.heap.size, 3, none⟩ = some (.int .i64 x3) ∧ (wB.setCell ⟨w.heap.size + 1 + 1, 3, none⟩ (.int .i64 (32 + c0 + k0))).cell? ⟨w.heap.size + 1 + 1, 1, none⟩ = some (.int .i64 (32 + c0)) := by
      have hset : Chg (fun j => j = w.heap.size + 1 + 1) wB (wB.setCell ⟨w.heap.size + 1 + 1, 3, none⟩ (.int .i64 (32 + c0 + k0))) := chg_set (Chg.refl _ _) rfl
      refine ⟨?_, ?_⟩
      · rw [hset.cell (p := ⟨w.heap.size, 3, none⟩) (lt_of_block ha) (by show ¬ w.heap.size = w.heap.size + 1 + 1; omega)]
        exact y3
      · rw [cell_of_row _ _ _ _ _ _ (blk_set hc)]
        rfl
    have HKP := hide hKP
    have HB := hide hb
    have HC := hide hc
    have HBE := hide hbe
    clear hwB ha hb hc hbe hKP
    go_cut [] (fun wx => wx.heap[w.heap.size + 1 + 1]? = some (.cells #[.int .i64 i, .int .i64 (32 + c0), .int .i64 (1 + b0), .int .i64 (32 + c0 + k0)] 23 (0, 0)) ∧ wx.heap[w.heap.size + 1]? = some (.cells #[.int .i64 0, .int .i64 0, .int .i64 0, .int .i64 0] 23 (0, 0)) ∧ Below w.heap.size w wx)
    case first =>
      go_region_held3 (fun w' => w'.cell? ⟨w.heap.size, 3, none⟩ = some (.int .i64 x3) ∧ w'.cell? ⟨w.heap.size + 1 + 1, 1, none⟩ = some (.int .i64 (32 + c0))) (first | exact HKP.out | go_keep)
        (first | (go_at_call 5; refine (HPK.out _ _ _ (by first | assumption | (rw [w3, w4]; assumption)) (by assumption)).mono ?_; rintro e w' ⟨rfl, rfl⟩))
      all_goals (go_wp2_with fail; go_meet)
      all_goals
        skip
        have hset : Chg (fun j => j = w.heap.size + 1 + 1) wB (wB.setCell ⟨w.heap.size + 1 + 1, 3, none⟩ (.int .i64 (32 + c0 + k0))) := chg_set (Chg.refl _ _) rfl
        refine ⟨blk_set HC.out, ?_, ?_⟩
        · have := hset.block (w.heap.size + 1) (lt_of_block HB.out) (by omega)
          exact this.trans HB.out
        · have := below_of_chg HBE.out hset (fun j e => by omega)
          exact ⟨this.os, this.tape, this.output, this.size, this.block⟩
    case rest =>
      obtain ⟨hc, hb, hbe⟩ := hcut
      obtain ⟨wD, hwD⟩ : ∃ wD, wD = wc := ⟨wc, rfl⟩
      subst hwD
      have c0' : wD.cell? ⟨w.heap.size + 1 + 1, 0, none⟩ = some (.int .i64 i) := by rw [cell_of_row _ _ _ _ _ _ hc]; rfl
      have c1' : wD.cell? ⟨w.heap.size + 1 + 1, 1, none⟩ = some (.int .i64 (32 + c0)) := by rw [cell_of_row _ _ _ _ _ _ hc]; rfl
      have c2' : wD.cell? ⟨w.heap.size + 1 + 1, 2, none⟩ = some (.int .i64 (1 + b0)) := by rw [cell_of_row _ _ _ _ _ _ hc]; rfl
      have c3' : wD.cell? ⟨w.heap.size + 1 + 1, 3, none⟩ = some (.int .i64 (32 + c0 + k0)) := by rw [cell_of_row _ _ _ _ _ _ hc]; rfl
      have r0 : wD.cell? ⟨w.heap.size + 1, 0, none⟩ = some (.int .i64 0) := by rw [cell_of_row _ _ _ _ _ _ hb]; rfl
      have r1 : wD.cell? ⟨w.heap.size + 1, 1, none⟩ = some (.int .i64 0) := by rw [cell_of_row _ _ _ _ _ _ hb]; rfl
      have r2 : wD.cell? ⟨w.heap.size + 1, 2, none⟩ = some (.int .i64 0) := by rw [cell_of_row _ _ _ _ _ _ hb]; rfl
      have r3 : wD.cell? ⟨w.heap.size + 1, 3, none⟩ = some (.int .i64 0) := by rw [cell_of_row _ _ _ _ _ _ hb]; rfl
      have f0 : wD.frozen? ⟨w.heap.size + 1, 0, none⟩ = false := by simp [World.frozen?, hb]
      have f1 : wD.frozen? ⟨w.heap.size + 1, 1, none⟩ = false := by simp [World.frozen?, hb]
      have f2 : wD.frozen? ⟨w.heap.size + 1, 2, none⟩ = false := by simp [World.frozen?, hb]
      have f3 : wD.frozen? ⟨w.heap.size + 1, 3, none⟩ = false := by simp [World.frozen?, hb]
      have hbb : ((((wD.setCell ⟨w.heap.size + 1, 0, none⟩ (.int .i64 i)).setCell ⟨w.heap.size + 1, 1, none⟩ (.int .i64 (32 + c0))).setCell ⟨w.heap.size + 1, 2, none⟩ (.int .i64 (1 + b0))).setCell ⟨w.heap.size + 1, 3, none⟩ (.int .i64 (32 + c0 + k0))).heap[w.heap.size + 1]? = some (.cells #[.int .i64 i, .int .i64 (32 + c0), .int .i64 (1 + b0), .int .i64 (32 + c0 + k0)] 23 (0, 0)) := blk_set (blk_set (blk_set (blk_set hb)))
      have s0 := cell_of_row _ _ 0 _ _ _ hbb
      have s1 := cell_of_row _ _ 1 _ _ _ hbb
      have s2 := cell_of_row _ _ 2 _ _ _ hbb
      have s3 := cell_of_row _ _ 3 _ _ _ hbb
      have HS0 := hide s0
      have HS1 := hide s1
      have HS2 := hide s2
      have HS3 := hide s3
      have HBE2 := hide hbe
      clear hc hb hbe hbb s0 s1 s2 s3
      go_wp2
      refine bodyPost_ret (v := .agg #[.int .i64 i, .int .i64 (32 + c0), .int .i64 (1 + b0), .int .i64 (32 + c0 + k0)]) ?_ rfl ⟨_, _, _, _, rfl, HOK.out, ?_⟩
      · have e0 := HS0.out
        have e1 := HS1.out
        have e2 := HS2.out
        have e3 := HS3.out
        simp [results, Tryz.results7, go_sem, e0, e1, e2, e3]
      · have hset : Chg (fun j => j = w.heap.size + 1) wD ((((wD.setCell ⟨w.heap.size + 1, 0, none⟩ (.int .i64 i)).setCell ⟨w.heap.size + 1, 1, none⟩ (.int .i64 (32 + c0))).setCell ⟨w.heap.size + 1, 2, none⟩ (.int .i64 (1 + b0))).setCell ⟨w.heap.size + 1, 3, none⟩ (.int .i64 (32 + c0 + k0))) := chg_set (chg_set (chg_set (chg_set (Chg.refl _ _) rfl) rfl) rfl) rfl
        exact below_of_chg HBE2.out hset (fun j e => by omega)
end Go.Proofs.YtdccldbefdfppaaGreatDoor
/-
  Package sluice: NewEnd, of an end that is not first.
-/
namespace Go.Proofs.YtdccldbefdfppaaGreatDoor
set_option linter.unusedVariables false
set_option linter.unusedSimpArgs false
open Go.RowKit

set_option maxHeartbeats 400000 in
theorem isWithin_ok (n l : Int) (w : World) (h : l ≤ n ∧ n ≤ 1000) : Calls Tryz.prog 47 #[.int .i64 n, .int .i64 l] w fun e w' => e = .returned (.bool true) ∧ w' = w := by
  have h1 : n ≥ l := h.1
  have h2 := h.2
  go_enter Tryz.func47, Tryz.ntmps47
  go_wp2
  go_ret
  exact ⟨rfl, rfl⟩
set_option maxHeartbeats 800000 in
theorem cfgFits_ok (i c b k : Int) (w : World) (h : CfgOk i c b k) : Calls Tryz.prog 27 #[.agg #[.int .i64 i, .int .i64 c, .int .i64 b, .int .i64 k]] w fun e w' => e = .returned (.bool true) ∧ Below w.heap.size w w' := by
  have hcf := heap_alloc_new w (.cells #[.int .i64 i, .int .i64 c, .int .i64 b, .int .i64 k] 23)
  obtain ⟨y0, y1, y2, y3⟩ := cfgs' hcf
  have HB : Hid (Below w.heap.size w (w.alloc (.cells #[.int .i64 i, .int .i64 c, .int .i64 b, .int .i64 k] 23))) := (Below.refl _ _).alloc (Nat.le_refl _) _
  clear hcf
  have HW := hide (fun n l w h => isWithin_ok n l w h)
  have H := hide h
  clear h
  go_enter Tryz.func27, Tryz.ntmps27
  go_wp2_with (go_at_call 47; refine (HW.out _ _ _ (by obtain ⟨h1, h2, h3, h4, h5, h6, h7, h8⟩ := H.out; omega)).mono ?_; rintro e w' ⟨rfl, rfl⟩)
  go_ret
  exact ⟨rfl, HB.out⟩
theorem stE_new {i c b k : Int} {w : World} {eb mb : Nat} (he : w.heap[eb]? = some (.cells (EndM.new i c b k mb).cells 103 (0, 0))) (hm : w.heap[mb]? = some (.map #[] 0)) : StE w eb (fun j => j = eb ∨ j = mb) (pNew i c b k) := by
  refine ⟨mb, ⟨EndM.new i c b k mb, [], [], [], [], [], []⟩, ?_, ?_, ?_, ?_⟩
  · constructor
    · exact ⟨he⟩
    · exact ⟨⟨#[], 0, hm, rfl, fun e h => by simp at h, by simp⟩, fun p h => by cases h⟩
    · rfl
    · exact List.nodup_nil
    · exact List.nodup_nil
    · exact List.nodup_nil
    · exact fun n h => by cases h
    · exact (World.ownsRow_nil _ _ _ _)
    · exact (World.ownsRow_nil _ _ _ _)
    · exact (World.ownsRow_nil _ _ _ _)
    · exact fun p h => by cases h
    · exact fun p h => by cases h
    · exact RowAt.of_owns (World.ownsRow_nil _ _ _ _)
    · exact fun p h => by cases h
    · exact RowAt.of_owns (World.ownsRow_nil _ _ _ _)
    · exact ⟨fun _ => 0, by constructor <;> simp [EndM.new, Value.ownBlock]⟩
  · exact RdOk.nil rfl
  · rfl
  · intro j
    unfold Foot
    simp [EndM.new, Value.ownBlock]
set_option maxHeartbeats 1600000 in
theorem newEnd_ok (i c b k : Int) (w : World) (h : CfgOk i c b k) : Calls Tryz.prog 12 #[.bool false, .agg #[.int .i64 i, .int .i64 c, .int .i64 b, .int .i64 k]] w fun e w' => ∃ eb F, e = .returned (.tuple #[.pointer (some ⟨eb, 0, none⟩), .int .i64 0]) ∧ StE w' eb F (pNew i c b k) ∧ Below w.heap.size w w' ∧ ∀ j, F j → w.heap.size ≤ j := by
  obtain ⟨w0, hw0⟩ : ∃ w0, w0 = w.alloc (.cells #[.int .i64 i, .int .i64 c, .int .i64 b, .int .i64 k] 23) := ⟨_, rfl⟩
  have hcf : w0.heap[w.heap.size]? = some (.cells #[.int .i64 i, .int .i64 c, .int .i64 b, .int .i64 k] 23 (0, 0)) := by rw [hw0]; exact heap_alloc_new w _
  have HB : Hid (Below w.heap.size w w0) := by rw [hw0]; exact (Below.refl _ _).alloc (Nat.le_refl _) _
  obtain ⟨y0, y1, y2, y3⟩ := cfgs' hcf
  have HCF := hide hcf
  have HF := hide (fun w => cfgFits_ok i c b k w h)
  have HN := hide (fun w => eNew_any i c b k w ⟨h.c0, h.c1⟩)
  clear hcf h
  have HW0 := hide hw0
  clear hw0
  go_enter Tryz.func12, Tryz.ntmps12
  go_upto_region 1 with fail
  rw [← HW0.out]
  go_wp2_with fail
  refine (HF.out _).mono ?_
  rintro e w1 ⟨rfl, hb1⟩
  have hcf1 : w1.heap[w.heap.size]? = some (.cells #[.int .i64 i, .int .i64 c, .int .i64 b, .int .i64 k] 23 (0, 0)) := kept_told HCF.out hb1
  obtain ⟨z0, z1, z2, z3⟩ := cfgs' hcf1
  have HB1 : Hid (Below w.heap.size w w1) := HB.out.trans (hb1.mono HB.out.size)
  clear hb1 hcf1
  go_wp2_with fail
  refine (HN.out _).mono ?_
  rintro e w2 ⟨mb, rfl, hm1, hm2, hb2⟩
  have HM1 : Hid (w.heap.size ≤ mb) := Nat.le_trans HB1.out.size hm1
  have HM2 := hide hm2
  have HB2 : Hid (Below w.heap.size w w2) := HB1.out.trans (hb2.mono HB1.out.size)
  clear hb2 hm1 hm2
  simp only [EndM.cells, EndM.new]
  go_wp2_with fail
  refine bodyPost_ret (v := .tuple #[.pointer (some ⟨w2.heap.size, 0, none⟩), .int .i64 0]) ?_ rfl ⟨w2.heap.size, _, rfl, stE_new (mb := mb) (heap_alloc_new w2 _) (cfg_alloc HM2.out), below_al HB2.out, ?_⟩
  · simp [results, Tryz.results12, go_sem]
  · rintro j (rfl | rfl)
    · exact HB2.out.size
    · exact HM1.out
end Go.Proofs.YtdccldbefdfppaaGreatDoor
/-
  The law's own: begun.
-/
namespace Go.Proofs.YtdccldbefdfppaaGreatDoor
set_option linter.unusedVariables false
set_option linter.unusedSimpArgs false
open Go.RowKit

theorem owns_ge {w : World} {base e size n : Nat} {v : Value} {xs : List Value} (h : w.ownsRow base e size v n xs) {j : Nat} (hj : v.ownBlock = some j) : base ≤ j := by
  rcases h.2 with ⟨rfl, -⟩ | ⟨g, cap, cur, rfl, h2, _⟩
  · simp [Value.ownBlock] at hj
  · simp [Value.ownBlock] at hj; omega
theorem conv_str {w : World} {bv : Value} {l : List UInt8} (h : BytesIn w bv l) : (convert 44 9 bv).run Tryz.prog w = .ok (.string ⟨l.toArray⟩) w := by
  rcases h with ⟨rfl, rfl⟩ | ⟨bb, off, cap, rfl, h1, h2, h3⟩
  · exact run_convert_bytes_nil w 44 5 Tryz.underlying44 Tryz.underlying5 0 0 9 Tryz.underlying9
  · refine run_convert_bytes_back w 44 9 5 ⟨bb, off, none⟩ cap l Tryz.underlying44 Tryz.underlying5 Tryz.underlying9 (fun j hj => ?_)
    have e : (⟨bb, off, none⟩ : Addr).add j = ⟨bb, off + j, none⟩ := by unfold Addr.add; split <;> simp_all
    rw [e, h3 j hj, getD_lt _ _ _ hj]
end Go.Proofs.YtdccldbefdfppaaGreatDoor
