import Derived.Test.YtiphkngfbpdeoaaGreatDoorVGas
import Derived.Test.YtiphkngfbpdeoaaGreatDoorVEnNew3
import Derived.Test.YtiphkngfbpdeoaaGreatDoorVGar
import Derived.Test.YtiphkngfbpdeoaaGreatDoorVGan
set_option linter.unusedVariables false
set_option linter.unusedSimpArgs false
namespace Go.Proofs.YtiphkngfbpdeoaaGreatDoor
set_option linter.unusedVariables false
set_option linter.unusedSimpArgs false
open Go.RowKit
theorem lay_len (k f s : Int) (b : List UInt8) : (lay k f s b).length = 6 + b.length := lay_length k f s b
def firstB (i : Int) : List UInt8 := lay 3 0 0 (four4 i.toNat) ++ lay 3 1 0 []
theorem firstB_len (i : Int) : (firstB i).length = 16 := by unfold firstB; rw [List.length_append, lay_len, lay_len]; rfl
theorem runs_said (i c b k : Int) : Runs 16 (pHeard i c b k) { pSaid i c b k with out := firstB i } := by
  refine .step (q := { pHeard i c b k with m := (pHeard i c b k).m.setd, out := lay 3 0 0 (four4 i.toNat) }) (by show (0 : Int) < 16; omega) rfl ?_
  refine .step (q := { pSaid i c b k with out := firstB i }) ?_ rfl (.stop ?_)
  · show ((lay 3 0 0 (four4 i.toNat)).length : Int) < 16
    rw [lay_len]
    show ((6 + 4 : Nat) : Int) < 16
    omega
  · show (16 : Int) ≤ ((firstB i).length : Int)
    rw [firstB_len]
    omega
def pOpen (i c b k : Int) : Nat → GEnd
  | 0 => pSaid i c b k
  | j + 1 => (pOpen i c b k j).begin.opened (2 * j + 1) false
theorem right_heads (n : Int) (h0 : 1 ≤ n) (h1 : n ≤ 7) : Right 1 4 n [] := by
  refine ⟨by omega, by omega, by omega, by omega, by omega, by omega, ?_, by simp, by decide, by decide⟩
  unfold sFits
  simp
  omega
theorem feed_open0 (i c b k : Int) : FeedR (pOpen i c b k 0) (lay 1 4 1 []) (pOpen i c b k 1) :=
  feedR_lay (right_heads 1 (by omega) (by omega)) rfl rfl rfl (Come.headers 4 1 ⟨by omega, by omega⟩ (by decide) rfl (by show (0 : Int) < 1; omega) (by show (0 : Nat) < 4; omega) (fun x hx => by cases hx) (fun i h => by simp [pOpen, pSaid, pNew] at h) rfl rfl)
theorem feed_open1 (i c b k : Int) : FeedR (pOpen i c b k 1) (lay 1 4 3 []) (pOpen i c b k 2) :=
  feedR_lay (right_heads 3 (by omega) (by omega)) rfl rfl rfl (Come.headers 4 3 ⟨by omega, by omega⟩ (by decide) rfl (by show (1 : Int) < 3; omega) (by show (1 : Nat) < 4; omega) (fun x hx => by
    have : x = ⟨0, StM.fresh 1 false, [], []⟩ := by simpa [pOpen, pSaid, pNew, GEnd.opened, GEnd.begin] using hx
    rw [this]; decide) (by
    show ∀ i (h : i + 1 < ([1, 3] : List Int).length), ([1, 3] : List Int)[i] ≤ ([1, 3] : List Int)[i + 1]
    intro i h
    have hc : i = 0 := by simp at h; omega
    subst hc; simp) rfl rfl)
theorem feed_open2 (i c b k : Int) : FeedR (pOpen i c b k 2) (lay 1 4 5 []) (pOpen i c b k 3) :=
  feedR_lay (right_heads 5 (by omega) (by omega)) rfl rfl rfl (Come.headers 4 5 ⟨by omega, by omega⟩ (by decide) rfl (by show (3 : Int) < 5; omega) (by show (2 : Nat) < 4; omega) (fun x hx => by
    have : x = ⟨0, StM.fresh 1 false, [], []⟩ ∨ x = ⟨0, StM.fresh 3 false, [], []⟩ := by simpa [pOpen, pSaid, pNew, GEnd.opened, GEnd.begin] using hx
    rcases this with rfl | rfl <;> decide) (by
    show ∀ i (h : i + 1 < ([1, 3, 5] : List Int).length), ([1, 3, 5] : List Int)[i] ≤ ([1, 3, 5] : List Int)[i + 1]
    intro i h
    have hc : i = 0 ∨ i = 1 := by simp at h; omega
    rcases hc with rfl | rfl <;> simp) rfl rfl)
theorem feed_open3 (i c b k : Int) : FeedR (pOpen i c b k 3) (lay 1 4 7 []) (pOpen i c b k 4) :=
  feedR_lay (right_heads 7 (by omega) (by omega)) rfl rfl rfl (Come.headers 4 7 ⟨by omega, by omega⟩ (by decide) rfl (by show (5 : Int) < 7; omega) (by show (3 : Nat) < 4; omega) (fun x hx => by
    have : x = ⟨0, StM.fresh 1 false, [], []⟩ ∨ x = ⟨0, StM.fresh 3 false, [], []⟩ ∨ x = ⟨0, StM.fresh 5 false, [], []⟩ := by simpa [pOpen, pSaid, pNew, GEnd.opened, GEnd.begin] using hx
    rcases this with rfl | rfl | rfl <;> decide) (by
    show ∀ i (h : i + 1 < ([1, 3, 5, 7] : List Int).length), ([1, 3, 5, 7] : List Int)[i] ≤ ([1, 3, 5, 7] : List Int)[i + 1]
    intro i h
    have hc : i = 0 ∨ i = 1 ∨ i = 2 := by simp at h; omega
    rcases hc with rfl | rfl | rfl <;> simp) rfl rfl)
theorem next_calm {p : GEnd} (ht : p.m.told = true) (ha : p.ans = []) (hw : p.m.waits = true) : p.next = p.oPing.or (p.oCredit.or (p.oStream.or p.oReset)) := by
  have h1 : p.oFirst = none := by unfold GEnd.oFirst; rw [ht]; rfl
  have h2 : p.oAnswer = none := by unfold GEnd.oAnswer; rw [ha]
  have h3 : p.oSettings = none := by unfold GEnd.oSettings; rw [hw]; rfl
  unfold GEnd.next
  rw [h1, h2, h3]
  rfl
end Go.Proofs.YtiphkngfbpdeoaaGreatDoor
namespace Go.Proofs.YtiphkngfbpdeoaaGreatDoor
set_option linter.unusedVariables false
set_option linter.unusedSimpArgs false
open Go.RowKit
theorem kpick_neg {c n : Int} (hc : c < 0) (hn : 0 < n) : 0 ≤ -(c + 1).tmod n ∧ -(c + 1).tmod n < n := by
  have e : -(c + 1).tmod n = (-(c + 1)) % n := by
    rw [← Int.neg_tmod]
    exact Int.tmod_eq_emod_of_nonneg (by omega)
  rw [e]
  exact ⟨Int.emod_nonneg _ (by omega), Int.emod_lt_of_pos _ hn⟩
set_option maxHeartbeats 400000 in
theorem kpick_any (c n : Int) (w : World) (hn : 0 < n) (hn2 : n ≤ 4611686018427387904) (hc : -9223372036854775808 ≤ c ∧ c ≤ 9223372036854775807) :
    Calls Tryz.prog 16 #[.int .i64 c, .int .i64 n] w fun e w' => ∃ r : Int, e = .returned (.int .i64 r) ∧ 0 ≤ r ∧ r < n ∧ w' = w := by
  obtain ⟨hc1, hc2⟩ := hc
  have hnz : ¬ n = 0 := by omega
  by_cases hneg : c < 0
  · obtain ⟨h0, h1⟩ := kpick_neg hneg hn
    have H0 : Hid (0 ≤ -(c + 1).tmod n) := h0
    have H1 : Hid (-(c + 1).tmod n < n) := h1
    clear h0 h1
    go_enter Tryz.func16, Tryz.ntmps16
    go_wp2
    go_ret
    exact ⟨_, rfl, H0.out, H1.out, rfl⟩
  · go_enter Tryz.func16, Tryz.ntmps16
    go_wp2
    go_ret
    exact ⟨_, rfl, Int.emod_nonneg _ (by omega), Int.emod_lt_of_pos _ hn, rfl⟩
structure CfgOk (i c b k : Int) : Prop where
  i0 : 0 ≤ i
  i1 : i ≤ 1000
  c0 : 32 ≤ c
  c1 : c ≤ 1000
  b0 : 1 ≤ b
  b1 : b ≤ 1000
  k0 : c ≤ k
  k1 : k ≤ 1000
set_option maxHeartbeats 400000 in
theorem kpick_fun (c n : Int) (w : World) (hn : 0 < n) (hc : I64 c) :
    Calls Tryz.prog 16 #[.int .i64 c, .int .i64 n] w fun e w' => e = .returned (.int .i64 (pkI c n)) ∧ w' = w := by
  obtain ⟨hc1, hc2⟩ := hc
  have hnz : ¬ n = 0 := by omega
  by_cases hneg : c < 0
  · have e : pkI c n = -(c + 1).tmod n := by unfold pkI; rw [if_pos hneg]
    rw [e]
    clear e
    go_enter Tryz.func16, Tryz.ntmps16
    go_wp2
    go_ret
    exact ⟨rfl, rfl⟩
  · have e : pkI c n = c % n := by unfold pkI; rw [if_neg hneg]
    rw [e]
    clear e
    go_enter Tryz.func16, Tryz.ntmps16
    go_wp2
    go_ret
    exact ⟨rfl, rfl⟩
theorem blk_alloc {W : World} {b : Nat} {o x : Obj} (h : W.heap[b]? = some x) : (W.alloc o).heap[b]? = some x := by
  rw [heap_alloc_old _ _ (Array.getElem?_eq_some_iff.1 h).1]
  exact h
set_option maxRecDepth 100000 in
set_option maxHeartbeats 1600000 in
theorem tameConfig_any (x0 x1 x2 x3 : Int) (w : World) (h0 : I64 x0) (h1 : I64 x1) (h2 : I64 x2) (h3 : I64 x3) :
    Calls Tryz.prog 5 #[.agg #[.int .i64 x0, .int .i64 x1, .int .i64 x2, .int .i64 x3]] w fun e w' => ∃ i c b k, e = .returned (.agg #[.int .i64 i, .int .i64 c, .int .i64 b, .int .i64 k]) ∧ CfgOk i c b k ∧ Below w.heap.size w w' := by
  have HPK : Hid (∀ c n w, 0 < n → I64 c → Calls Tryz.prog 16 #[.int .i64 c, .int .i64 n] w fun e w' => e = .returned (.int .i64 (pkI c n)) ∧ w' = w) := fun c n w hn hc => kpick_fun c n w hn hc
  obtain ⟨i, hi⟩ : ∃ i, i = pkI x0 1001 := ⟨_, rfl⟩
  obtain ⟨b0, hb0⟩ : ∃ b, b = pkI x2 1000 := ⟨_, rfl⟩
  obtain ⟨c0, hc0⟩ : ∃ c, c = pkI x1 969 := ⟨_, rfl⟩
  have qi := pkI_bounds x0 (n := 1001) (by omega)
  have qb := pkI_bounds x2 (n := 1000) (by omega)
  have qc := pkI_bounds x1 (n := 969) (by omega)
  rw [← hi] at qi
  rw [← hb0] at qb
  rw [← hc0] at qc
  obtain ⟨qi0, qi1⟩ := qi
  obtain ⟨qb0, qb1⟩ := qb
  obtain ⟨qc0, qc1⟩ := qc
  have qk := pkI_bounds x3 (n := 1000 - (32 + c0) + 1) (by omega)
  obtain ⟨k0, hk0⟩ : ∃ k, k = pkI x3 (1000 - (32 + c0) + 1) := ⟨_, rfl⟩
  rw [← hk0] at qk
  obtain ⟨qk0, qk1⟩ := qk
  have w1 : IntKind.i64.wrap (1 + b0) = 1 + b0 := by rw [IntKind.wrap_i64]; omega
  have w2 : IntKind.i64.wrap (32 + c0) = 32 + c0 := by rw [IntKind.wrap_i64]; omega
  have w3 : IntKind.i64.wrap (1000 - (32 + c0)) = 1000 - (32 + c0) := by rw [IntKind.wrap_i64]; omega
  have w4 : IntKind.i64.wrap (1000 - (32 + c0) + 1) = 1000 - (32 + c0) + 1 := by rw [IntKind.wrap_i64]; omega
  have w5 : IntKind.i64.wrap (32 + c0 + k0) = 32 + c0 + k0 := by rw [IntKind.wrap_i64]; omega
  have n4 : 0 < 1000 - (32 + c0) + 1 := by omega
  have hi' : pkI x0 1001 = i := hi.symm
  have hb' : pkI x2 1000 = b0 := hb0.symm
  have hc' : pkI x1 969 = c0 := hc0.symm
  have hk' : pkI x3 (1000 - (32 + c0) + 1) = k0 := hk0.symm
  have hOK : CfgOk i (32 + c0) (1 + b0) (32 + c0 + k0) := ⟨by omega, by omega, by omega, by omega, by omega, by omega, by omega, by omega⟩
  have HOK := hide hOK
  clear hOK hi hb0 hc0 hk0
  go_enter Tryz.func5, Tryz.ntmps5
  go_upto_region 1 with fail
  go_cut [3] (fun s3 wx => s3 = .pointer (some ⟨w.heap.size + 1 + 1, 0, none⟩) ∧ wx = (((w.alloc (.cells #[.int .i64 x0, .int .i64 x1, .int .i64 x2, .int .i64 x3] 23)).alloc (.cells #[.int .i64 0, .int .i64 0, .int .i64 0, .int .i64 0] 23)).alloc (.cells #[.int .i64 i, .int .i64 0, .int .i64 (1 + b0), .int .i64 0] 23)).drew)
  case first =>
    go_region_held3 (fun w' => w'.cell? ⟨w.heap.size, 0, none⟩ = some (.int .i64 x0) ∧ w'.cell? ⟨w.heap.size, 1, none⟩ = some (.int .i64 x1) ∧ w'.cell? ⟨w.heap.size, 2, none⟩ = some (.int .i64 x2) ∧ w'.cell? ⟨w.heap.size, 3, none⟩ = some (.int .i64 x3)) (go_keep)
      (first | (go_at_call 16; refine (HPK.out _ _ _ (by first | decide | assumption) (by assumption)).mono ?_; rintro e w' ⟨rfl, rfl⟩))
    all_goals (go_wp2_with fail; go_meet)
    all_goals (simp only [hi', hb', w1]; exact ⟨trivial, trivial⟩)
  case rest =>
    obtain ⟨rfl, hwc⟩ := hcut
    rw [hwc]
    clear hwc
    go_wp2_with fail
    refine (HPK.out _ _ _ (by decide) h1).mono ?_
    rintro e w' ⟨rfl, hw'⟩
    rw [hw', hc']
    clear hw' w'
    go_upto_region 3 with fail
    obtain ⟨wB, hwB⟩ : ∃ wB, wB = (((w.alloc (.cells #[.int .i64 x0, .int .i64 x1, .int .i64 x2, .int .i64 x3] 23)).alloc (.cells #[.int .i64 0, .int .i64 0, .int .i64 0, .int .i64 0] 23)).alloc (.cells #[.int .i64 i, .int .i64 (32 + c0), .int .i64 (1 + b0), .int .i64 0] 23)).drew := ⟨_, rfl⟩
    rw [← hwB]
    have ha : wB.heap[w.heap.size]? = some (.cells #[.int .i64 x0, .int .i64 x1, .int .i64 x2, .int .i64 x3] 23 (0, 0)) := by
      rw [hwB]
      exact blk_alloc (blk_alloc (heap_alloc_new w _))
    have hb : wB.heap[w.heap.size + 1]? = some (.cells #[.int .i64 0, .int .i64 0, .int .i64 0, .int .i64 0] 23 (0, 0)) := by
      rw [hwB]
      have := heap_alloc_new (w.alloc (.cells #[.int .i64 x0, .int .i64 x1, .int .i64 x2, .int .i64 x3] 23)) (.cells #[.int .i64 0, .int .i64 0, .int .i64 0, .int .i64 0] 23)
      rw [World.size_alloc] at this
      exact blk_alloc this
    have hc : wB.heap[w.heap.size + 1 + 1]? = some (.cells #[.int .i64 i, .int .i64 (32 + c0), .int .i64 (1 + b0), .int .i64 0] 23 (0, 0)) := by
      rw [hwB]
      have := heap_alloc_new ((w.alloc (.cells #[.int .i64 x0, .int .i64 x1, .int .i64 x2, .int .i64 x3] 23)).alloc (.cells #[.int .i64 0, .int .i64 0, .int .i64 0, .int .i64 0] 23)) (.cells #[.int .i64 i, .int .i64 (32 + c0), .int .i64 (1 + b0), .int .i64 0] 23)
      rw [World.size_alloc, World.size_alloc] at this
      exact this
    have hbe : Below w.heap.size w wB := by
      rw [hwB]
      have := (((Below.refl w.heap.size w).alloc (Nat.le_refl _) (.cells #[.int .i64 x0, .int .i64 x1, .int .i64 x2, .int .i64 x3] 23)).alloc (by simp) (.cells #[.int .i64 0, .int .i64 0, .int .i64 0, .int .i64 0] 23)).alloc (by simp; omega) (.cells #[.int .i64 i, .int .i64 (32 + c0), .int .i64 (1 + b0), .int .i64 0] 23)
      exact ⟨this.os, this.tape, this.output, this.size, this.block⟩
    have y3 : wB.cell? ⟨w.heap.size, 3, none⟩ = some (.int .i64 x3) := by rw [cell_of_row _ _ _ _ _ _ ha]; rfl
    have y1 : wB.cell? ⟨w.heap.size + 1 + 1, 1, none⟩ = some (.int .i64 (32 + c0)) := by rw [cell_of_row _ _ _ _ _ _ hc]; rfl
    have z3 : wB.cell? ⟨w.heap.size + 1 + 1, 3, none⟩ = some (.int .i64 0) := by rw [cell_of_row _ _ _ _ _ _ hc]; rfl
    have zf : wB.frozen? ⟨w.heap.size + 1 + 1, 3, none⟩ = false := by simp [World.frozen?, hc]
    have hKP : (wB.setCell ⟨w.heap.size + 1 + 1, 3, none⟩ (.int .i64 (32 + c0 + k0))).cell? ⟨w.heap.size, 3, none⟩ = some (.int .i64 x3) ∧ (wB.setCell ⟨w.heap.size + 1 + 1, 3, none⟩ (.int .i64 (32 + c0 + k0))).cell? ⟨w.heap.size + 1 + 1, 1, none⟩ = some (.int .i64 (32 + c0)) := by
      have hset : Chg (fun j => j = w.heap.size + 1 + 1) wB (wB.setCell ⟨w.heap.size + 1 + 1, 3, none⟩ (.int .i64 (32 + c0 + k0))) := chg_set (Chg.refl _ _) rfl
      refine ⟨?_, ?_⟩
      · rw [hset.cell (p := ⟨w.heap.size, 3, none⟩) (lt_of_block ha) (by show ¬ w.heap.size = w.heap.size + 1 + 1; omega)]
        exact y3
      · rw [cell_of_row _ _ _ _ _ _ (blk_set hc)]
        rfl
    have HKP := hide hKP
    have HB := hide hb
    have HC := hide hc
    have HBE := hide hbe
    clear hwB ha hb hc hbe hKP
    go_cut [] (fun wx => wx.heap[w.heap.size + 1 + 1]? = some (.cells #[.int .i64 i, .int .i64 (32 + c0), .int .i64 (1 + b0), .int .i64 (32 + c0 + k0)] 23 (0, 0)) ∧ wx.heap[w.heap.size + 1]? = some (.cells #[.int .i64 0, .int .i64 0, .int .i64 0, .int .i64 0] 23 (0, 0)) ∧ Below w.heap.size w wx)
    case first =>
      go_region_held3 (fun w' => w'.cell? ⟨w.heap.size, 3, none⟩ = some (.int .i64 x3) ∧ w'.cell? ⟨w.heap.size + 1 + 1, 1, none⟩ = some (.int .i64 (32 + c0))) (first | exact HKP.out | go_keep)
        (first | (go_at_call 16; refine (HPK.out _ _ _ (by first | assumption | (rw [w3, w4]; assumption)) (by assumption)).mono ?_; rintro e w' ⟨rfl, rfl⟩))
      all_goals (go_wp2_with fail; go_meet)
      all_goals
        skip
        have hset : Chg (fun j => j = w.heap.size + 1 + 1) wB (wB.setCell ⟨w.heap.size + 1 + 1, 3, none⟩ (.int .i64 (32 + c0 + k0))) := chg_set (Chg.refl _ _) rfl
        refine ⟨blk_set HC.out, ?_, ?_⟩
        · have := hset.block (w.heap.size + 1) (lt_of_block HB.out) (by omega)
          exact this.trans HB.out
        · have := below_of_chg HBE.out hset (fun j e => by omega)
          exact ⟨this.os, this.tape, this.output, this.size, this.block⟩
    case rest =>
      obtain ⟨hc, hb, hbe⟩ := hcut
      obtain ⟨wD, hwD⟩ : ∃ wD, wD = wc := ⟨wc, rfl⟩
      subst hwD
      have c0' : wD.cell? ⟨w.heap.size + 1 + 1, 0, none⟩ = some (.int .i64 i) := by rw [cell_of_row _ _ _ _ _ _ hc]; rfl
      have c1' : wD.cell? ⟨w.heap.size + 1 + 1, 1, none⟩ = some (.int .i64 (32 + c0)) := by rw [cell_of_row _ _ _ _ _ _ hc]; rfl
      have c2' : wD.cell? ⟨w.heap.size + 1 + 1, 2, none⟩ = some (.int .i64 (1 + b0)) := by rw [cell_of_row _ _ _ _ _ _ hc]; rfl
      have c3' : wD.cell? ⟨w.heap.size + 1 + 1, 3, none⟩ = some (.int .i64 (32 + c0 + k0)) := by rw [cell_of_row _ _ _ _ _ _ hc]; rfl
      have r0 : wD.cell? ⟨w.heap.size + 1, 0, none⟩ = some (.int .i64 0) := by rw [cell_of_row _ _ _ _ _ _ hb]; rfl
      have r1 : wD.cell? ⟨w.heap.size + 1, 1, none⟩ = some (.int .i64 0) := by rw [cell_of_row _ _ _ _ _ _ hb]; rfl
      have r2 : wD.cell? ⟨w.heap.size + 1, 2, none⟩ = some (.int .i64 0) := by rw [cell_of_row _ _ _ _ _ _ hb]; rfl
      have r3 : wD.cell? ⟨w.heap.size + 1, 3, none⟩ = some (.int .i64 0) := by rw [cell_of_row _ _ _ _ _ _ hb]; rfl
      have f0 : wD.frozen? ⟨w.heap.size + 1, 0, none⟩ = false := by simp [World.frozen?, hb]
      have f1 : wD.frozen? ⟨w.heap.size + 1, 1, none⟩ = false := by simp [World.frozen?, hb]
      have f2 : wD.frozen? ⟨w.heap.size + 1, 2, none⟩ = false := by simp [World.frozen?, hb]
      have f3 : wD.frozen? ⟨w.heap.size + 1, 3, none⟩ = false := by simp [World.frozen?, hb]
      have hbb : ((((wD.setCell ⟨w.heap.size + 1, 0, none⟩ (.int .i64 i)).setCell ⟨w.heap.size + 1, 1, none⟩ (.int .i64 (32 + c0))).setCell ⟨w.heap.size + 1, 2, none⟩ (.int .i64 (1 + b0))).setCell ⟨w.heap.size + 1, 3, none⟩ (.int .i64 (32 + c0 + k0))).heap[w.heap.size + 1]? = some (.cells #[.int .i64 i, .int .i64 (32 + c0), .int .i64 (1 + b0), .int .i64 (32 + c0 + k0)] 23 (0, 0)) := blk_set (blk_set (blk_set (blk_set hb)))
      have s0 := cell_of_row _ _ 0 _ _ _ hbb
      have s1 := cell_of_row _ _ 1 _ _ _ hbb
      have s2 := cell_of_row _ _ 2 _ _ _ hbb
      have s3 := cell_of_row _ _ 3 _ _ _ hbb
      have HS0 := hide s0
      have HS1 := hide s1
      have HS2 := hide s2
      have HS3 := hide s3
      have HBE2 := hide hbe
      clear hc hb hbe hbb s0 s1 s2 s3
      go_wp2
      refine bodyPost_ret (v := .agg #[.int .i64 i, .int .i64 (32 + c0), .int .i64 (1 + b0), .int .i64 (32 + c0 + k0)]) ?_ rfl ⟨_, _, _, _, rfl, HOK.out, ?_⟩
      · have e0 := HS0.out
        have e1 := HS1.out
        have e2 := HS2.out
        have e3 := HS3.out
        simp [results, Tryz.results5, go_sem, e0, e1, e2, e3]
      · have hset : Chg (fun j => j = w.heap.size + 1) wD ((((wD.setCell ⟨w.heap.size + 1, 0, none⟩ (.int .i64 i)).setCell ⟨w.heap.size + 1, 1, none⟩ (.int .i64 (32 + c0))).setCell ⟨w.heap.size + 1, 2, none⟩ (.int .i64 (1 + b0))).setCell ⟨w.heap.size + 1, 3, none⟩ (.int .i64 (32 + c0 + k0))) := chg_set (chg_set (chg_set (chg_set (Chg.refl _ _) rfl) rfl) rfl) rfl
        exact below_of_chg HBE2.out hset (fun j e => by omega)
end Go.Proofs.YtiphkngfbpdeoaaGreatDoor
namespace Go.Proofs.YtiphkngfbpdeoaaGreatDoor
set_option linter.unusedVariables false
set_option linter.unusedSimpArgs false
open Go.RowKit
set_option maxHeartbeats 400000 in
theorem isWithin_ok (n l : Int) (w : World) (h : l ≤ n ∧ n ≤ 1000) : Calls Tryz.prog 52 #[.int .i64 n, .int .i64 l] w fun e w' => e = .returned (.bool true) ∧ w' = w := by
  have h1 : n ≥ l := h.1
  have h2 := h.2
  go_enter Tryz.func52, Tryz.ntmps52
  go_wp2
  go_ret
  exact ⟨rfl, rfl⟩
set_option maxHeartbeats 800000 in
theorem cfgFits_ok (i c b k : Int) (w : World) (h : CfgOk i c b k) : Calls Tryz.prog 33 #[.agg #[.int .i64 i, .int .i64 c, .int .i64 b, .int .i64 k]] w fun e w' => e = .returned (.bool true) ∧ Below w.heap.size w w' := by
  have hcf := heap_alloc_new w (.cells #[.int .i64 i, .int .i64 c, .int .i64 b, .int .i64 k] 23)
  obtain ⟨y0, y1, y2, y3⟩ := cfgs' hcf
  have HB : Hid (Below w.heap.size w (w.alloc (.cells #[.int .i64 i, .int .i64 c, .int .i64 b, .int .i64 k] 23))) := (Below.refl _ _).alloc (Nat.le_refl _) _
  clear hcf
  have HW := hide (fun n l w h => isWithin_ok n l w h)
  have H := hide h
  clear h
  go_enter Tryz.func33, Tryz.ntmps33
  go_wp2_with (go_at_call 52; refine (HW.out _ _ _ (by obtain ⟨h1, h2, h3, h4, h5, h6, h7, h8⟩ := H.out; omega)).mono ?_; rintro e w' ⟨rfl, rfl⟩)
  go_ret
  exact ⟨rfl, HB.out⟩
theorem stE_new {i c b k : Int} {w : World} {eb mb : Nat} (he : w.heap[eb]? = some (.cells (EndM.new i c b k mb).cells 98 (0, 0))) (hm : w.heap[mb]? = some (.map #[] 0)) : StE w eb (fun j => j = eb ∨ j = mb) (pNew i c b k) := by
  refine ⟨mb, ⟨EndM.new i c b k mb, [], [], [], [], [], []⟩, ?_, ?_, ?_, ?_⟩
  · constructor
    · exact ⟨he⟩
    · exact ⟨⟨#[], 0, hm, rfl, fun e h => by simp at h⟩, fun p h => by cases h⟩
    · rfl
    · exact List.nodup_nil
    · exact List.nodup_nil
    · exact List.nodup_nil
    · exact fun n h => by cases h
    · exact (World.ownsRow_nil _ _ _ _)
    · exact (World.ownsRow_nil _ _ _ _)
    · exact (World.ownsRow_nil _ _ _ _)
    · exact fun p h => by cases h
    · exact fun p h => by cases h
    · exact RowAt.of_owns (World.ownsRow_nil _ _ _ _)
    · exact fun p h => by cases h
    · exact RowAt.of_owns (World.ownsRow_nil _ _ _ _)
    · exact ⟨fun _ => 0, by constructor <;> simp [EndM.new, Value.ownBlock]⟩
  · exact RdOk.nil rfl
  · rfl
  · intro j
    unfold Foot
    simp [EndM.new, Value.ownBlock]
set_option maxHeartbeats 1600000 in
theorem newEnd_ok (i c b k : Int) (w : World) (h : CfgOk i c b k) : Calls Tryz.prog 13 #[.bool false, .agg #[.int .i64 i, .int .i64 c, .int .i64 b, .int .i64 k]] w fun e w' => ∃ eb F, e = .returned (.tuple #[.pointer (some ⟨eb, 0, none⟩), .int .i64 0]) ∧ StE w' eb F (pNew i c b k) ∧ Below w.heap.size w w' ∧ ∀ j, F j → w.heap.size ≤ j := by
  obtain ⟨w0, hw0⟩ : ∃ w0, w0 = w.alloc (.cells #[.int .i64 i, .int .i64 c, .int .i64 b, .int .i64 k] 23) := ⟨_, rfl⟩
  have hcf : w0.heap[w.heap.size]? = some (.cells #[.int .i64 i, .int .i64 c, .int .i64 b, .int .i64 k] 23 (0, 0)) := by rw [hw0]; exact heap_alloc_new w _
  have HB : Hid (Below w.heap.size w w0) := by rw [hw0]; exact (Below.refl _ _).alloc (Nat.le_refl _) _
  obtain ⟨y0, y1, y2, y3⟩ := cfgs' hcf
  have HCF := hide hcf
  have HF := hide (fun w => cfgFits_ok i c b k w h)
  have HN := hide (fun w => eNew_any i c b k w ⟨h.c0, h.c1⟩)
  clear hcf h
  have HW0 := hide hw0
  clear hw0
  go_enter Tryz.func13, Tryz.ntmps13
  go_upto_region 1 with fail
  rw [← HW0.out]
  go_wp2_with fail
  refine (HF.out _).mono ?_
  rintro e w1 ⟨rfl, hb1⟩
  have hcf1 : w1.heap[w.heap.size]? = some (.cells #[.int .i64 i, .int .i64 c, .int .i64 b, .int .i64 k] 23 (0, 0)) := kept_told HCF.out hb1
  obtain ⟨z0, z1, z2, z3⟩ := cfgs' hcf1
  have HB1 : Hid (Below w.heap.size w w1) := HB.out.trans (hb1.mono HB.out.size)
  clear hb1 hcf1
  go_wp2_with fail
  refine (HN.out _).mono ?_
  rintro e w2 ⟨mb, rfl, hm1, hm2, hb2⟩
  have HM1 : Hid (w.heap.size ≤ mb) := Nat.le_trans HB1.out.size hm1
  have HM2 := hide hm2
  have HB2 : Hid (Below w.heap.size w w2) := HB1.out.trans (hb2.mono HB1.out.size)
  clear hb2 hm1 hm2
  simp only [EndM.cells, EndM.new]
  go_wp2_with fail
  refine bodyPost_ret (v := .tuple #[.pointer (some ⟨w2.heap.size, 0, none⟩), .int .i64 0]) ?_ rfl ⟨w2.heap.size, _, rfl, stE_new (mb := mb) (heap_alloc_new w2 _) (cfg_alloc HM2.out), below_al HB2.out, ?_⟩
  · simp [results, Tryz.results13, go_sem]
  · rintro j (rfl | rfl)
    · exact HB2.out.size
    · exact HM1.out
end Go.Proofs.YtiphkngfbpdeoaaGreatDoor
namespace Go.Proofs.YtiphkngfbpdeoaaGreatDoor
set_option linter.unusedVariables false
set_option linter.unusedSimpArgs false
open Go.RowKit
theorem fine_heard {i c b k : Int} (h : CfgOk i c b k) : Fine (pHeard i c b k) where
  greets := rfl
  wanted := ⟨h.i0, h.i1⟩
  owed := by show 0 ≤ c - 32 ∧ c - 32 ≤ 4294967295; have := h.c0; have := h.c1; omega
  receive := by show -1099511627776 ≤ (32 : Int) ∧ 32 + (c - 32) ≤ 1099511627776; have := h.c0; have := h.c1; omega
  pnum := by show (0 : Nat) < 4294967296; decide
  own := by show -1099511627776 ≤ (32 : Int) ∧ (32 : Int) ≤ 1099511627776; decide
  other := by show -1099511627776 ≤ (0 : Int) ∧ (0 : Int) ≤ 1099511627776; decide
  ans := fun a ha => by
    have : a = ⟨3, 1, [], .slice none 0 0⟩ := by simpa [pHeard] using ha
    rw [this]; decide
  res := fun n hn => by cases hn
  st := fun s hs => by cases hs
  few := by show (0 : Nat) ≤ 1048576; decide
theorem owns_ge {w : World} {base e size n : Nat} {v : Value} {xs : List Value} (h : w.ownsRow base e size v n xs) {j : Nat} (hj : v.ownBlock = some j) : base ≤ j := by
  rcases h.2 with ⟨rfl, -⟩ | ⟨g, cap, cur, rfl, h2, _⟩
  · simp [Value.ownBlock] at hj
  · simp [Value.ownBlock] at hj; omega
theorem conv_str {w : World} {bv : Value} {l : List UInt8} (h : BytesIn w bv l) : (convert 38 9 bv).run Tryz.prog w = .ok (.string ⟨l.toArray⟩) w := by
  rcases h with ⟨rfl, rfl⟩ | ⟨bb, off, cap, rfl, h1, h2, h3⟩
  · exact run_convert_bytes_nil w 38 5 Tryz.underlying38 Tryz.underlying5 0 0 9 Tryz.underlying9
  · refine run_convert_bytes_back w 38 9 5 ⟨bb, off, none⟩ cap l Tryz.underlying38 Tryz.underlying5 Tryz.underlying9 (fun j hj => ?_)
    have e : (⟨bb, off, none⟩ : Addr).add j = ⟨bb, off + j, none⟩ := by unfold Addr.add; split <;> simp_all
    rw [e, h3 j hj, getD_lt _ _ _ hj]
set_option maxRecDepth 100000 in
set_option maxHeartbeats 1600000 in
theorem kbegun_any (i c b k : Int) (w : World) (h : CfgOk i c b k) (hgl : Gl w) (hg : 7 ≤ w.heap.size) :
    Calls Tryz.prog 19 #[.agg #[.int .i64 i, .int .i64 c, .int .i64 b, .int .i64 k], .int .i64 0] w fun e w' => ∃ eb F, e = .returned (.tuple #[.pointer (some ⟨eb, 0, none⟩), .bool true]) ∧ StE w' eb F (pSaid i c b k) ∧ Below w.heap.size w w' ∧ ∀ j, F j → w.heap.size ≤ j := by
  have kc : ∀ (w : World) (C : Array Value) (n c : Nat), (convert 38 38 (.slice (some ⟨w.heap.size, 0, none⟩) n c)).run Tryz.prog (w.alloc (.cells C 5)) = .ok (.slice (some ⟨w.heap.size, 0, none⟩) n c) (w.alloc (.cells C 5 (C.size, C.size + 1))) := fun w C n c => Lib.run_convert_bytes_const (P := Tryz.prog) w 38 5 C n c Tryz.underlying38 Tryz.underlying5
  obtain ⟨i0, hi, hz0, hz1, hz2⟩ := info_parts Tryz.info5
  obtain ⟨w0, hw0⟩ : ∃ w0, w0 = w.alloc (.cells #[.int .i64 i, .int .i64 c, .int .i64 b, .int .i64 k] 23) := ⟨_, rfl⟩
  have hcf : w0.heap[w.heap.size]? = some (.cells #[.int .i64 i, .int .i64 c, .int .i64 b, .int .i64 k] 23 (0, 0)) := by rw [hw0]; exact heap_alloc_new w _
  have hb0 : Below w.heap.size w w0 := by rw [hw0]; exact (Below.refl _ _).alloc (Nat.le_refl _) _
  obtain ⟨y0, y1, y2, y3⟩ := cfgs' hcf
  have HCF := hide hcf
  have HB0 := hide hb0
  have HW0 := hide hw0
  have HN := hide (newEnd_ok i c b k w0 h)
  have HOK := hide h
  have HGL := hide hgl
  clear hcf hb0 hw0 h hgl
  go_enter Tryz.func19, Tryz.ntmps19
  go_upto_region 1 with fail
  rw [← HW0.out]
  go_wp2_with fail
  refine HN.out.mono ?_
  rintro e w1 ⟨eb, F, rfl, hst, hb1, hF⟩
  have HST := hide hst
  have HF : Hid (∀ j, F j → w0.heap.size ≤ j) := hF
  have h0lt : w.heap.size < w0.heap.size := lt_of_block HCF.out
  have HB1 : Hid (Below w.heap.size w w1) := HB0.out.trans (hb1.mono HB0.out.size)
  have HCF1 : Hid (w1.heap[w.heap.size]? = some (.cells #[.int .i64 i, .int .i64 c, .int .i64 b, .int .i64 k] 23 (0, 0))) := kept_told HCF.out hb1
  clear hst hF hb1 y0 y1 y2 y3
  go_upto_region 5 with fail
  have hgb : (w1.alloc (.cells #[.int .u8 115, .int .u8 108, .int .u8 117, .int .u8 105, .int .u8 99, .int .u8 101, .int .u8 10] 5 (7, 8))).heap[w1.heap.size]? = some (.cells #[.int .u8 115, .int .u8 108, .int .u8 117, .int .u8 105, .int .u8 99, .int .u8 101, .int .u8 10] 5 (7, 8)) := heap_alloc_new w1 _
  have hb2 : Below w1.heap.size w1 (w1.alloc (.cells #[.int .u8 115, .int .u8 108, .int .u8 117, .int .u8 105, .int .u8 99, .int .u8 101, .int .u8 10] 5 (7, 8))) := (Below.refl _ _).alloc (Nat.le_refl _) _
  generalize (w1.alloc (.cells #[.int .u8 115, .int .u8 108, .int .u8 117, .int .u8 105, .int .u8 99, .int .u8 101, .int .u8 10] 5 (7, 8))) = w2 at *
  have HGB := hide hgb
  have HB2 := hide hb2
  have HK4 : Hid (Calls Tryz.prog 14 #[.int .i64 0] w2 fun e w' => e = .returned (.slice (some ⟨w2.heap.size, 0, none⟩) 4 4) ∧ BytesIn w' (.slice (some ⟨w2.heap.size, 0, none⟩) 4 4) (four4 0) ∧ Below w2.heap.size w2 w') := kfour_any 0 w2 (by omega)
  clear hgb hb2
  go_wp2_with fail
  refine HK4.out.mono ?_
  rintro e w3 ⟨rfl, hby3, hb3⟩
  have HL3 : Hid (Calls Tryz.prog 9 #[.int .i64 3, .int .i64 0, .int .i64 0, .slice (some ⟨w2.heap.size, 0, none⟩) 4 4] w3 fun e w' => ∃ v, e = .returned v ∧ w'.ownsRow w3.heap.size 5 1 v (lay 3 0 0 (four4 0)).length ((lay 3 0 0 (four4 0)).map B) ∧ Below w3.heap.size w3 w') := klay_any 3 0 0 (some ⟨w2.heap.size, 0, none⟩) (four4 0) 4 w3 (by omega) (by omega) (by omega) (by omega) (by omega) (by omega) (by decide) hby3
  have HB3 : Hid (Below w1.heap.size w1 w3) := HB2.out.trans (hb3.mono HB2.out.size)
  have HGB3 := hide (kept_told HGB.out hb3)
  clear hby3 hb3
  go_wp2_with fail
  refine HL3.out.mono ?_
  rintro e w4 ⟨v4, rfl, hown4, hb4⟩
  have HB4 : Hid (Below w1.heap.size w1 w4) := HB3.out.trans (hb4.mono HB3.out.size)
  have hgb4 := kept_told HGB3.out hb4
  rw [lay_len] at hown4
  obtain ⟨s4, c4, rfl⟩ := slice_len hown4
  have hby4 := bytesIn_of_owns hown4 (by rw [lay_len])
  obtain ⟨b4, rfl⟩ : ∃ b4, s4 = some b4 := by
    rcases hown4.2 with ⟨-, h0⟩ | ⟨g, cap, cur, h1, _⟩
    · simp [four4] at h0
    · exact ⟨_, (by simp at h1; exact h1.1)⟩
  have hlen4 : (four4 0).length = 4 := rfl
  rw [hlen4] at hown4 hby4 ⊢
  have hn4 : ∀ j v, ((lay 3 0 0 (four4 0)).map B)[j]? = some v → w4.cell? (b4.add j) = some v := by
    rcases lies_of_bytesIn hby4 with ⟨-, h0⟩ | ⟨ad, cap, h1, h2⟩
    · rw [lay_len] at h0; exact absurd h0.1 (by simp)
    · simp only [Value.slice.injEq, Option.some.injEq] at h1
      rw [h1.1]
      exact h2
  have hg4 : ∀ j v, (greetB.map B)[j]? = some v → w4.cell? ((⟨w1.heap.size, 0, none⟩ : Addr).add j) = some v := fun j v hv => by
    rw [Addr.add_mid, Nat.zero_add, cell_of_row _ _ _ _ _ _ hgb4, ← hv]
    exact List.getElem?_toArray
  have HN4 := hide hn4
  have HG4 := hide hg4
  have HB4' := hide hb4
  clear hn4 hg4 hgb4 hown4 hby4 hb4
  go_wp2_with (at_builtin; refine wpList_grow _ rfl (.tmp 29) (.tmp 30) 38 rfl i0 Tryz.underlying38 hi hz0 hz1 hz2 ⟨w1.heap.size, 0, none⟩ 7 7 (greetB.map B) rfl rfl HG4.out b4 10 c4 ((lay 3 0 0 (four4 0)).map B) (by rw [List.length_map, lay_len]; rfl) rfl HN4.out (by omega) (by omega) ?_)
  intro v5 w5 hown5 hb5
  obtain ⟨s5, c5, rfl⟩ := slice_len hown5
  have HB5 : Hid (Below w1.heap.size w1 w5) := HB4.out.trans (hb5.mono HB4.out.size)
  have hby5 : BytesIn w5 (.slice s5 17 c5) (greetB ++ lay 3 0 0 (four4 0)) := bytesIn_of_owns (by rw [List.map_append]; exact hown5) (by rw [List.length_append, lay_len]; rfl)
  have hbn5 : ∀ j, (Value.slice s5 17 c5).ownBlock = some j → ¬ F j := fun j hj hf => by
    have h1 := HST.out.lt hf
    have h2 := owns_ge hown5 hj
    have h3 := HB4.out.size
    omega
  have HFD := hide (c_feed (HST.out.below HB5.out) (feed_heard i c b k) rfl (HGL.out.below (HB1.out.trans (HB5.out.mono HB1.out.size))) (fun j hj hf => by have := HF.out j hf; omega) hby5 hbn5 (by rw [List.length_append, lay_len]; decide))
  clear hown5 hb5 hby5 hbn5
  go_wp2_with fail
  refine HFD.out.mono ?_
  rintro e w6 ⟨rfl, F6, hst6, hch6, hF6⟩
  have HFS : Hid (∀ j, F6 j → w0.heap.size ≤ j) := fun j hj => by
    rcases hF6 j hj with h | h
    · exact HF.out j h
    · have := HCF1.out; have := kept_told HCF1.out HB5.out; have := lt_of_block this; have h2 := HW0.out; have : w0.heap.size = w.heap.size + 1 := (by rw [h2]; simp); omega
  have HF6' : Hid (∀ j, F6 j → w.heap.size ≤ j) := fun j hj => by
    rcases hF6 j hj with h | h
    · have := HF.out j h; omega
    · exact Nat.le_trans (Nat.le_trans HB1.out.size HB5.out.size) h
  have hb6 : Below w.heap.size w w6 := below_of_chg (HB1.out.trans (HB5.out.mono HB1.out.size)) hch6 (fun j hj => by have := HF.out j hj; omega)
  have HCF6 : Hid (w6.heap[w.heap.size]? = some (.cells #[.int .i64 i, .int .i64 c, .int .i64 b, .int .i64 k] 23 (0, 0))) := by
    have h5 := kept_told HCF1.out HB5.out
    have := hch6.block w.heap.size (lt_of_block h5) (fun hf => by have := HF.out _ hf; omega)
    rw [this]; exact h5
  have hl16 : cutN 16 (firstB i).length = 16 := by rw [firstB_len]; decide
  have HT6 : Hid (Calls Tryz.prog 29 #[.pointer (some ⟨eb, 0, none⟩), .int .i64 16] w6 fun e w' => (∃ s, e = .returned (.slice s 16 16) ∧ BytesIn w' (.slice s 16 16) (firstB i)) ∧ GoE w6 w' eb F6 (pSaid i c b k)) := by
    refine (c_take (n := 16) hst6 (fine_heard HOK.out) rfl rfl rfl (runs_said i c b k) (by show (firstB i).length ≤ _; rw [firstB_len]; decide)).mono ?_
    rintro e w' ⟨⟨s, rfl, h1⟩, h2⟩
    change BytesIn w' (.slice s (cutN 16 (firstB i).length) (cutN 16 (firstB i).length)) ((firstB i).take (cutN 16 (firstB i).length)) at h1
    change GoE w6 w' eb F6 { pSaid i c b k with out := (firstB i).drop (cutN 16 (firstB i).length) } at h2
    rw [hl16, List.take_of_length_le (by rw [firstB_len]; decide)] at h1
    rw [hl16, List.drop_of_length_le (by rw [firstB_len]; decide)] at h2
    exact ⟨⟨s, by show Ending.returned (.slice s (cutN 16 (firstB i).length) (cutN 16 (firstB i).length)) = _; rw [hl16], h1⟩, h2⟩
  have HB6 := hide hb6
  clear hst6 hch6 hF6 hb6 hl16
  go_wp2_with fail
  refine HT6.out.mono ?_
  rintro e w7 ⟨⟨s7, rfl, hby7⟩, F7, hst7, hch7, hF7⟩
  have HF7 : Hid (∀ j, F7 j → w.heap.size ≤ j) := fun j hj => by
    rcases hF7 j hj with h | h
    · exact HF6'.out j h
    · exact Nat.le_trans HB6.out.size h
  have HB7 : Hid (Below w.heap.size w w7) := below_of_chg HB6.out hch7 HF6'.out
  have hcf7 : w7.heap[w.heap.size]? = some (.cells #[.int .i64 i, .int .i64 c, .int .i64 b, .int .i64 k] 23 (0, 0)) := by
    have := hch7.block w.heap.size (lt_of_block HCF6.out) (fun hf => by have := HFS.out _ hf; omega)
    rw [this]; exact HCF6.out
  obtain ⟨y0, -, -, -⟩ := cfgs' hcf7
  have hin : ((i.toNat : Nat) : Int) = i := by have := HOK.out.i0; omega
  have HK8 : Hid (Calls Tryz.prog 14 #[.int .i64 i] w7 fun e w' => e = .returned (.slice (some ⟨w7.heap.size, 0, none⟩) 4 4) ∧ BytesIn w' (.slice (some ⟨w7.heap.size, 0, none⟩) 4 4) (four4 i.toNat) ∧ Below w7.heap.size w7 w') := by
    have := kfour_any i.toNat w7 (by have := HOK.out.i1; omega)
    rw [hin] at this
    exact this
  have HBY7 := hide hby7
  have HST7 := hide hst7
  clear hby7 hst7 hch7 hF7 hcf7 hin
  go_wp2_with fail
  refine HK8.out.mono ?_
  rintro e w8 ⟨rfl, hby8, hb8⟩
  have HL8 : Hid (Calls Tryz.prog 9 #[.int .i64 3, .int .i64 0, .int .i64 0, .slice (some ⟨w7.heap.size, 0, none⟩) 4 4] w8 fun e w' => ∃ v, e = .returned v ∧ w'.ownsRow w8.heap.size 5 1 v (lay 3 0 0 (four4 i.toNat)).length ((lay 3 0 0 (four4 i.toNat)).map B) ∧ Below w8.heap.size w8 w') := klay_any 3 0 0 (some ⟨w7.heap.size, 0, none⟩) (four4 i.toNat) 4 w8 (by omega) (by omega) (by omega) (by omega) (by omega) (by omega) (by simp [four4]) hby8
  have HB8 := hide hb8
  clear hby8 hb8
  go_wp2_with fail
  refine HL8.out.mono ?_
  rintro e w9 ⟨v9, rfl, hown9, hb9⟩
  have hlen9 : (lay 3 0 0 (four4 i.toNat)).length = 10 := by rw [lay_len]; rfl
  rw [hlen9] at hown9
  obtain ⟨s9, c9, rfl⟩ := slice_len hown9
  have HO9 := hide hown9
  have HB9 : Hid (Below w7.heap.size w7 w9) := HB8.out.trans (hb9.mono HB8.out.size)
  have HL9 : Hid (Calls Tryz.prog 9 #[.int .i64 3, .int .i64 1, .int .i64 0, .slice none 0 0] w9 fun e w' => ∃ v, e = .returned v ∧ w'.ownsRow w9.heap.size 5 1 v (lay 3 1 0 []).length ((lay 3 1 0 []).map B) ∧ Below w9.heap.size w9 w') := klay_any 3 1 0 none [] 0 w9 (by omega) (by omega) (by omega) (by omega) (by omega) (by omega) (by decide) (Or.inl ⟨rfl, rfl⟩)
  clear hown9 hb9
  go_wp2_with fail
  refine HL9.out.mono ?_
  rintro e w10 ⟨v10, rfl, hown10, hb10⟩
  have hlen10 : (lay 3 1 0 []).length = 6 := by rw [lay_len]; rfl
  rw [hlen10] at hown10
  obtain ⟨s10, c10, rfl⟩ := slice_len hown10
  have HB10 : Hid (Below w7.heap.size w7 w10) := HB9.out.trans (hb10.mono HB9.out.size)
  have ho9 : w10.ownsRow 0 5 1 (.slice s9 10 c9) 10 ((lay 3 0 0 (four4 i.toNat)).map B) := owns_base (owns_chg HO9.out (Chg.of_below (S := fun _ => False) hb10) (fun _ _ => id)) (fun _ _ => Nat.zero_le _)
  have HO9' := hide ho9
  have HLI := hide (lies_of_bytesIn (bytesIn_of_owns hown10 hlen10.symm))
  rw [hlen10] at HLI
  have HF9 : Hid (∀ j, (Value.slice s9 10 c9).ownBlock = some j → w7.heap.size ≤ j) := fun j hj => Nat.le_trans HB8.out.size (owns_ge HO9.out hj)
  clear hown10 hb10 ho9
  go_wp2_with (at_builtin; refine wpList_app _ rfl (.tmp 42) (.tmp 43) 38 rfl 5 i0 (.int .u8 0) 1 1 Tryz.underlying38 hi hz0 hz1 hz2 rfl (by decide) _ 10 _ rfl HO9'.out _ 6 ((lay 3 1 0 []).map B) rfl ?c1 HLI.out ?c3 ?c4 ?c5 ?_)
  case c1 => simp [lay_len]
  case c3 => intro u hu; obtain ⟨x, -, rfl⟩ := List.mem_map.1 hu; rfl
  case c4 => unfold maxLen; omega
  case c5 => omega
  intro v11 w11 hown11 hg11 hfr11
  obtain ⟨s11, c11, rfl⟩ := slice_len hown11
  have hch11 : Chg (fun j => (Value.slice s9 10 c9).ownBlock = some j) w10 w11 := Chg.of_grown hg11 (fun j hj => hj)
  have hb11 : Below w7.heap.size w7 w11 := below_of_chg HB10.out hch11 HF9.out
  have hby11 : BytesIn w11 (.slice s11 16 c11) (firstB i) := bytesIn_of_owns (by unfold firstB; rw [List.map_append]; exact hown11) (by rw [firstB_len])
  have hby7' : BytesIn w11 (.slice s7 16 16) (firstB i) := HBY7.out.chg (Chg.of_below (S := fun _ => False) hb11) (fun _ _ => id)
  have q1 := conv_str hby11
  have q2 := conv_str hby7'
  have q3 := conv_str (w := w11.drew) hby11
  have q4 := conv_str (w := w11.drew) hby7'
  have HEND : Hid (StE w11 eb F7 (pSaid i c b k) ∧ Below w.heap.size w w11 ∧ ∀ j, F7 j → w.heap.size ≤ j) := ⟨HST7.out.below hb11, HB7.out.trans (hb11.mono HB7.out.size), HF7.out⟩
  clear hown11 hg11 hfr11 hch11 hb11 hby11 hby7'
  go_wp2
  have HKK : Hid ((convert 38 9 (.slice s7 16 16)).run Tryz.prog w11.drew = .ok (.string ⟨(firstB i).toArray⟩) w11.drew ∧ (convert 38 9 (.slice s11 16 c11)).run Tryz.prog w11.drew = .ok (.string ⟨(firstB i).toArray⟩) w11.drew) := ⟨q4, q3⟩
  clear q1 q2 q3 q4
  go_region_held3 (fun w' => (convert 38 9 (.slice s7 16 16)).run Tryz.prog w' = .ok (.string ⟨(firstB i).toArray⟩) w' ∧ (convert 38 9 (.slice s11 16 c11)).run Tryz.prog w' = .ok (.string ⟨(firstB i).toArray⟩) w') (exact HKK.out) (fail)
  all_goals go_wp2
  all_goals go_ret2
  all_goals (have hb := HEND.out.2.1; exact ⟨eb, F7, rfl, (show StE w11.drew eb F7 (pSaid i c b k) from HEND.out.1.below (below_dr (Below.refl _ _))), below_dr hb, HEND.out.2.2⟩)
end Go.Proofs.YtiphkngfbpdeoaaGreatDoor
namespace Go.Proofs.YtiphkngfbpdeoaaGreatDoor
set_option linter.unusedVariables false
set_option linter.unusedSimpArgs false
open Go.RowKit
theorem FeedF.app {p q : GEnd} {l r : List UInt8} {code : Int} (h : FeedF p l code q) : FeedF p (l ++ r) code q := by
  induction h using FeedF.ind with
  | fault hf hb => exact .fault hf hb
  | step hf hb _ ih => exact .step hf hb ih
theorem feedF_of_feed {p : GEnd} {f : Fr} {code : Int} (hg : p.m.greeted = 7) (hf : p.m.fault = 0) (hc : ComeF { p with got := [] } f code) : ∀ (l got : List UInt8), feed got l = ([f], ⟨[], 0⟩) → FeedF { p with got := got } l code (p.died code) := by
  intro l
  induction l with
  | nil =>
    intro got h
    unfold feed at h
    simp at h
  | cons c r ih =>
    intro got h
    unfold feed at h
    cases hs : step got c with
    | inl x =>
      rw [hs] at h
      cases x with
      | inl g1 => exact .step hf (.more hg hs) (ih g1 h)
      | inr f1 =>
        simp only [Prod.mk.injEq, List.cons.injEq] at h
        obtain ⟨⟨h1, h2⟩, h3⟩ := h
        subst h1
        exact .fault hf (.frame hg hs hc)
    | inr code =>
      rw [hs] at h
      simp at h
theorem feedF_lay {p : GEnd} {k f s : Int} {body : List UInt8} {code : Int} (hr : Right k f s body) (hg : p.m.greeted = 7) (hf : p.m.fault = 0) (hgot : p.got = []) (hc : ComeF p ⟨k, f, s, body⟩ code) : FeedF p (lay k f s body) code (p.died code) := by
  have e : p = { p with got := [] } := by rw [← hgot]
  rw [e] at hc
  have := feedF_of_feed hg hf hc (lay k f s body) [] (feed_right hr)
  rw [← e] at this
  exact this
theorem feedF_bad {p : GEnd} {code : Int} (hg : p.m.greeted = 7) (hf : p.m.fault = 0) : ∀ (l got : List UInt8), feed got l = ([], ⟨(feed got l).2.got, code⟩) → code ≠ 0 → FeedF { p with got := got } l code (p.died code) := by
  intro l
  induction l with
  | nil =>
    intro got h h0
    unfold feed at h
    simp at h
    exact absurd h.symm h0
  | cons c r ih =>
    intro got h h0
    unfold feed at h
    cases hs : step got c with
    | inl x =>
      rw [hs] at h
      cases x with
      | inl g1 => exact .step hf (.more hg hs) (ih g1 h h0)
      | inr f1 => simp at h
    | inr code' =>
      rw [hs] at h
      simp at h
      subst h
      exact .fault hf (.head hg hs)
end Go.Proofs.YtiphkngfbpdeoaaGreatDoor
namespace Go.Proofs.YtiphkngfbpdeoaaGreatDoor
set_option linter.unusedVariables false
set_option linter.unusedSimpArgs false
open Go.RowKit
def pSet (i c b k : Int) : GEnd := { pNew i c b k with m := { (pNew i c b k).m with greeted := 7, begun := true, other := 100, answers := .tuple #[] }, ans := [⟨3, 1, [], .slice none 0 0⟩] }
def pOne (i c b k : Int) : GEnd := (pSet i c b k).begin.opened 1 false
def sText (t : List UInt8) : GSt := (⟨0, StM.fresh 1 false, [], []⟩ : GSt).more t false
def pText (i c b k : Int) (t : List UInt8) : GEnd := { pOne i c b k with m := (pOne i c b k).begin.m.got_ t.length, K := [sText t] }
theorem feed_set (i c b k : Int) : FeedR (pNew i c b k) (greetB ++ lay 3 0 0 (four4 100)) (pSet i c b k) := by
  refine (feedR_greet rfl rfl).app ?_
  refine feedR_lay ?_ rfl rfl rfl ?_
  · constructor <;> decide
  · have h0 : num4 (four4 100) = 100 := by decide
    have := Come.settings (p := { pNew i c b k with m := { (pNew i c b k).m with greeted := 7 } }) 0 (four4 100) ⟨by omega, by omega⟩ (by decide) rfl rfl rfl rfl
    rw [h0] at this
    exact this
theorem feed_one (i c b k : Int) : FeedR (pSet i c b k) (lay 1 4 1 []) (pOne i c b k) :=
  feedR_lay (right_heads 1 (by omega) (by omega)) rfl rfl rfl (Come.headers 4 1 ⟨by omega, by omega⟩ (by decide) rfl (by show (0 : Int) < 1; omega) (by show (0 : Nat) < 4; omega) (fun x hx => by cases hx) (fun i h => by simp [pSet, pNew] at h) rfl rfl)
theorem right_text {n : Int} {b : List UInt8} (h0 : 1 ≤ n) (h1 : n ≤ 32767) (hb : b.length ≤ 64) : Right 0 0 n b := by
  refine ⟨by omega, by omega, by omega, by omega, by omega, by omega, ?_, by simpa using hb, ?_, by unfold bodyCode; simp [hasB]⟩
  · unfold sFits
    simp
    omega
  · unfold lFits
    simp
theorem feed_first (i c b k : Int) (t : List UInt8) (h : CfgOk i c b k) (ht : t.length ≤ 30) : FeedR (pOne i c b k) (lay 0 0 1 t) (pText i c b k t) := by
  have h1 := feedR_lay (right_text (n := 1) (b := t) (by omega) (by omega) (by omega)) (p := pOne i c b k) rfl rfl rfl (Come.kept 0 ⟨0, StM.fresh 1 false, [], []⟩ t (by show (⟨0, StM.fresh 1 false, [], []⟩ : GSt) ∈ [(⟨0, StM.fresh 1 false, [], []⟩ : GSt)]; simp) ⟨by omega, by omega⟩ (by decide) rfl rfl rfl rfl (by omega) (by show 0 ≤ 1073741824; omega) (.inr ⟨by show (t.length : Int) ≤ 32; omega, by show (t.length : Int) ≤ 32 + 0; omega⟩) (by show -1099511627776 ≤ (32 : Int) ∧ (32 : Int) ≤ 1099511627776; omega) (by have := h.c0; have := h.c1; show -1099511627776 ≤ c - 32 ∧ c - 32 ≤ 1099511627776; omega) (by show (0 : Int) ≤ 0 ∧ (0 : Int) ≤ 1099511627776; omega) (by show -1099511627776 ≤ (32 : Int) ∧ (32 : Int) ≤ 1099511627776; omega) (by show -1099511627776 ≤ (0 : Int) ∧ (0 : Int) ≤ 1099511627776; omega) (by show -1099511627776 ≤ (0 : Int) ∧ (0 : Int) ≤ 1099511627776; omega) rfl rfl)
  exact h1
theorem got_rest (m : EndM) (n : Nat) : (m.got_ n).fault = m.fault ∧ (m.got_ n).greeted = m.greeted ∧ (m.got_ n).begun = m.begun ∧ (m.got_ n).bstream = m.bstream ∧ (m.got_ n).receive = m.receive - n ∧ (m.got_ n).waits = m.waits ∧ (m.got_ n).send = m.send ∧ (m.got_ n).newest = m.newest ∧ (m.got_ n).utab = m.utab ∧ (m.got_ n).first = m.first := by
  unfold EndM.got_ EndM.counted
  split
  · exact ⟨rfl, rfl, rfl, rfl, rfl, rfl, rfl, rfl, rfl, rfl⟩
  · split <;> exact ⟨rfl, rfl, rfl, rfl, rfl, rfl, rfl, rfl, rfl, rfl⟩
def spoilB (n : Nat) : Nat → List UInt8
  | 0 => [0, 1, 2, 0, 0, 0]
  | 1 => [0, 5, 6, 0, 0, 1]
  | 2 => lay 0 0 9 []
  | 3 => lay 0 0 1 (List.replicate (33 - n) 0)
  | 4 => lay 1 4 3 [192]
  | 5 => lay 7 4 1 []
  | 6 => lay 3 1 0 []
  | 7 => lay 6 0 0 (four4 2147483647)
  | 8 => (List.range 8).flatMap fun i => lay 4 0 0 (four4 i)
  | 9 => lay 0 8 1 [1, 1]
  | 10 => lay 1 4 1 []
  | _ => lay 5 0 0 [1]
def spoilC : Nat → Int
  | 0 => 9
  | 1 => 10
  | 2 => 11
  | 3 => 12
  | 4 => 13
  | 5 => 11
  | 6 => 11
  | 7 => 12
  | 8 => 14
  | 9 => 9
  | 10 => 11
  | _ => 7
def pingsN (j n : Nat) : List UInt8 := ((List.range n).map (· + j)).flatMap fun i => lay 4 0 0 (four4 i)
theorem right_ping (i : Nat) : Right 4 0 0 (four4 i) := ⟨by omega, by omega, by omega, by omega, by omega, by omega, by decide, by show 4 ≤ 64; omega, by show lFits 4 4 0 = true; decide, rfl⟩
def pPings (p : GEnd) (j : Nat) : Nat → GEnd
  | 0 => p
  | n + 1 => pPings { p with m := { p.m with begun := true, answers := .tuple #[] }, ans := p.ans ++ [⟨4, 1, four4 j, .slice none 0 0⟩] } (j + 1) n
theorem died_pings (code : Int) : ∀ (n j : Nat) (p : GEnd), (pPings p j n).died code = p.died code
  | 0, _, _ => rfl
  | n + 1, j, p => by rw [pPings, died_pings code n]; rfl
theorem feed_pings : ∀ (n j : Nat) (p : GEnd), p.m.greeted = 7 → p.m.fault = 0 → p.got = [] → p.m.bstream = 0 → p.m.begun = true → p.ans.length + n ≤ 8 → FeedR p (((List.range' j n)).flatMap fun i => lay 4 0 0 (four4 i)) (pPings p j n)
  | 0, _, _, _, _, _, _, _, _ => .nil
  | n + 1, j, p, h1, h2, h3, h4, h5, h6 => by
    rw [List.range'_succ, List.flatMap_cons]
    refine (feedR_lay (right_ping j) h1 h2 h3 (Come.ping 0 (four4 j) ⟨by omega, by omega⟩ (by decide) (by omega) h4 h5)).app ?_
    exact feed_pings n (j + 1) _ h1 h2 h3 h4 rfl (by simp; omega)
theorem pPings_keep : ∀ (n j : Nat) (p : GEnd), (pPings p j n).m.greeted = p.m.greeted ∧ (pPings p j n).m.fault = p.m.fault ∧ (pPings p j n).got = p.got ∧ (pPings p j n).m.bstream = p.m.bstream ∧ ((pPings p j n).m.begun = p.m.begun ∨ (pPings p j n).m.begun = true) ∧ (pPings p j n).ans.length = p.ans.length + n
  | 0, _, _ => ⟨rfl, rfl, rfl, rfl, Or.inl rfl, rfl⟩
  | n + 1, j, p => by
    obtain ⟨h1, h2, h3, h4, h5, h6⟩ := pPings_keep n (j + 1) { p with m := { p.m with begun := true, answers := .tuple #[] }, ans := p.ans ++ [⟨4, 1, four4 j, .slice none 0 0⟩] }
    refine ⟨h1, h2, h3, h4, Or.inr ?_, ?_⟩
    · rcases h5 with e | e
      · exact e
      · exact e
    · rw [pPings, h6]; simp; omega
section
variable {i c b k : Int} {t : List UInt8}
theorem spoil_F (ht : t.length ≤ 30) : ∀ j, j < 11 → FeedF (pText i c b k t) (spoilB t.length j) (spoilC j) ((pText i c b k t).died (spoilC j)) := by
  obtain ⟨g1, g2, g3, g4, g5, g6, g7, g8, g9, g10⟩ := got_rest (pOne i c b k).begin.m t.length
  have q1 : (pText i c b k t).m.fault = 0 := g1
  have q2 : (pText i c b k t).m.greeted = 7 := g2
  have q3 : (pText i c b k t).m.begun = true := g3
  have q4 : (pText i c b k t).m.bstream = 0 := g4
  have q5 : (pText i c b k t).m.receive = 32 - t.length := g5
  have q6 : (pText i c b k t).m.waits = false := g6
  have q7 : (pText i c b k t).m.send = 32 := g7
  have q8 : (pText i c b k t).m.newest = 1 := g8
  have q9 : (pText i c b k t).m.utab = .slice none 0 0 := g9
  have q10 : (pText i c b k t).m.first = false := g10
  have hop : ∀ n : Int, n.tmod 2 = 1 → (pText i c b k t).m.opensN n = false := fun n hn => by unfold EndM.opensN; rw [q10, hn]; rfl
  intro j hj
  match j, hj with
  | 0, _ => exact feedF_bad (p := pText i c b k t) q2 q1 [0, 1, 2, 0, 0, 0] [] rfl (by decide)
  | 1, _ => exact feedF_bad (p := pText i c b k t) q2 q1 [0, 5, 6, 0, 0, 1] [] rfl (by decide)
  | 2, _ => exact feedF_lay (right_text (by omega) (by omega) (by simp)) q2 q1 rfl (ComeF.none 0 9 [] (fun s hs => by
      have : s = sText t := by simpa [pText] using hs
      rw [this]
      show (1 : Int) ≠ 9
      decide) (by decide) q4 q3)
  | 3, _ => exact feedF_lay (right_text (by omega) (by omega) (by simp; omega)) q2 q1 rfl (ComeF.flow 0 (sText t) (List.replicate (33 - t.length) 0) (by show sText t ∈ [sText t]; simp) (by decide) rfl rfl rfl (by rw [q5, List.length_replicate]; omega) q4 q3)
  | 4, _ => exact feedF_lay (by constructor <;> decide) q2 q1 rfl (ComeF.block 4 3 ⟨by omega, by omega⟩ (by decide) (hop 3 rfl) (by rw [q8]; omega) (by show 1 < 4; omega) q9 q4 q3)
  | 5, _ => exact feedF_lay (by constructor <;> decide) q2 q1 rfl (ComeF.cont 4 1 [] (by decide) q4 q3)
  | 6, _ => exact feedF_lay (by constructor <;> decide) q2 q1 rfl (ComeF.ack 1 [] ⟨by omega, by omega⟩ (by decide) q6 q4 q3)
  | 7, _ =>
    have h0 : num4 (four4 2147483647) = 2147483647 := by decide
    exact feedF_lay (by constructor <;> decide) q2 q1 rfl (ComeF.credit 0 (four4 2147483647) (by rw [q7, h0]; omega) (by rw [q7]; omega) (by rw [h0]; omega) q4 q3)
  | 8, _ =>
    have e : spoilB t.length 8 = ((List.range' 0 7).flatMap fun i => lay 4 0 0 (four4 i)) ++ lay 4 0 0 (four4 7) := rfl
    rw [e]
    have h1 := feed_pings 7 0 (pText i c b k t) q2 q1 rfl q4 q3 (by show 1 + 7 ≤ 8; omega)
    obtain ⟨k1, k2, k3, k4, k5, k6⟩ := pPings_keep 7 0 (pText i c b k t)
    have hbg : (pPings (pText i c b k t) 0 7).m.begun = true := by
      rcases k5 with e | e
      · rw [e]; exact q3
      · exact e
    have h2 := feedF_lay (p := pPings (pText i c b k t) 0 7) (right_ping 7) (by rw [k1]; exact q2) (by rw [k2]; exact q1) k3 (ComeF.calm 0 (four4 7) ⟨by omega, by omega⟩ (by decide) (by rw [k6]; show 8 ≤ 1 + 7; omega) (by rw [k4]; exact q4) hbg)
    rw [died_pings] at h2
    exact h1.fault h2
  | 9, _ => exact feedF_bad (p := pText i c b k t) q2 q1 (lay 0 8 1 [1, 1]) [] rfl (by decide)
  | 10, _ => exact feedF_lay (right_heads 1 (by omega) (by omega)) q2 q1 rfl (ComeF.again 4 1 [] (hop 1 rfl) (by rw [q8]; omega) q4 q3)
end
end Go.Proofs.YtiphkngfbpdeoaaGreatDoor
namespace Go.Proofs.YtiphkngfbpdeoaaGreatDoor
set_option linter.unusedVariables false
set_option linter.unusedSimpArgs false
open Go.RowKit
def NewB (w w' : World) (v : Value) (l : List UInt8) : Prop := w'.ownsRow w.heap.size 5 1 v l.length (l.map B) ∧ Below w.heap.size w w'
theorem newB_row {w : World} {l : List UInt8} (hl : l.length ≤ maxLen) : NewB w (w.alloc (.cells (l.map B).toArray 5)) (.slice (some ⟨w.heap.size, 0, none⟩) l.length l.length) l := by
  refine ⟨⟨by simp, Or.inr ⟨w.heap.size, l.length, (l.map B).toArray, rfl, Nat.le_refl _, heap_alloc_new w _, Nat.le_refl _, hl, by simp, by rw [Nat.mul_one]; exact List.take_of_length_le (by simp)⟩⟩, (Below.refl _ _).alloc (Nat.le_refl _) _⟩
set_option maxRecDepth 100000 in
set_option maxHeartbeats 400000 in
theorem khead_0 (w : World) : Calls Tryz.prog 35 #[.int .i64 1, .int .i64 2, .int .i64 0, .int .i64 0] w fun e w' => ∃ v, e = .returned v ∧ NewB w w' v [0, 1, 2, 0, 0, 0] := by
  have HN : Hid (NewB w (w.alloc (.cells #[.int .u8 0, .int .u8 1, .int .u8 2, .int .u8 0, .int .u8 0, .int .u8 0] 5)) (.slice (some ⟨w.heap.size, 0, none⟩) 6 6) [0, 1, 2, 0, 0, 0]) := newB_row (by decide)
  go_enter Tryz.func35, Tryz.ntmps35
  go_wp2
  go_ret
  exact ⟨_, rfl, HN.out⟩
set_option maxRecDepth 100000 in
set_option maxHeartbeats 400000 in
theorem khead_1 (w : World) : Calls Tryz.prog 35 #[.int .i64 5, .int .i64 6, .int .i64 0, .int .i64 1] w fun e w' => ∃ v, e = .returned v ∧ NewB w w' v [0, 5, 6, 0, 0, 1] := by
  have HN : Hid (NewB w (w.alloc (.cells #[.int .u8 0, .int .u8 5, .int .u8 6, .int .u8 0, .int .u8 0, .int .u8 1] 5)) (.slice (some ⟨w.heap.size, 0, none⟩) 6 6) [0, 5, 6, 0, 0, 1]) := newB_row (by decide)
  go_enter Tryz.func35, Tryz.ntmps35
  go_wp2
  go_ret
  exact ⟨_, rfl, HN.out⟩
theorem klay_new {k f s : Int} {sa : Option Addr} {body : List UInt8} {cap : Nat} {w0 w : World} (hb0 : Below w0.heap.size w0 w) (hk0 : 0 ≤ k) (hk1 : k ≤ 255) (hf0 : 0 ≤ f) (hf1 : f ≤ 255) (hs0 : 0 ≤ s) (hs1 : s ≤ 32767) (hn : body.length ≤ 64) (hb : BytesIn w (.slice sa body.length cap) body) :
    Calls Tryz.prog 9 #[.int .i64 k, .int .i64 f, .int .i64 s, .slice sa body.length cap] w fun e w' => ∃ v, e = .returned v ∧ NewB w0 w' v (lay k f s body) := by
  refine (klay_any k f s sa body cap w hk0 hk1 hf0 hf1 hs0 hs1 hn hb).mono ?_
  rintro e w' ⟨v, rfl, hown, hbl⟩
  exact ⟨v, rfl, owns_base hown (fun j hj => Nat.le_trans hb0.size (owns_ge hown hj)), hb0.trans (hbl.mono hb0.size)⟩
set_option maxRecDepth 100000 in
set_option maxHeartbeats 800000 in
theorem kspoilt_0 (n : Nat) (w : World) (hn : n ≤ 30) : Calls Tryz.prog 15 #[.int .i64 0, .int .i64 n] w fun e w' => ∃ v, e = .returned (.tuple #[v, .int .i64 (spoilC 0)]) ∧ NewB w w' v (spoilB n 0) := by
  have HC := hide (khead_0 w)
  go_enter Tryz.func15, Tryz.ntmps15
  go_wp2_with fail
  refine HC.out.mono ?_
  rintro e w' ⟨v, rfl, hx⟩
  have HX := hide hx
  clear hx
  go_wp2
  refine bodyPost_ret (v := .tuple #[v, .int .i64 9]) ?_ rfl ⟨v, rfl, HX.out⟩
  simp [results, Tryz.results15, go_sem]
set_option maxRecDepth 100000 in
set_option maxHeartbeats 800000 in
theorem kspoilt_1 (n : Nat) (w : World) (hn : n ≤ 30) : Calls Tryz.prog 15 #[.int .i64 1, .int .i64 n] w fun e w' => ∃ v, e = .returned (.tuple #[v, .int .i64 (spoilC 1)]) ∧ NewB w w' v (spoilB n 1) := by
  have HC := hide (khead_1 w)
  go_enter Tryz.func15, Tryz.ntmps15
  go_wp2_with fail
  refine HC.out.mono ?_
  rintro e w' ⟨v, rfl, hx⟩
  have HX := hide hx
  clear hx
  go_wp2
  refine bodyPost_ret (v := .tuple #[v, .int .i64 10]) ?_ rfl ⟨v, rfl, HX.out⟩
  simp [results, Tryz.results15, go_sem]
set_option maxRecDepth 100000 in
set_option maxHeartbeats 800000 in
theorem kspoilt_2 (n : Nat) (w : World) (hn : n ≤ 30) : Calls Tryz.prog 15 #[.int .i64 2, .int .i64 n] w fun e w' => ∃ v, e = .returned (.tuple #[v, .int .i64 (spoilC 2)]) ∧ NewB w w' v (spoilB n 2) := by
  have HC := hide (klay_new (sa := none) (cap := 0) (body := []) (k := 0) (f := 0) (s := 9) (Below.refl w.heap.size w) (by omega) (by omega) (by omega) (by omega) (by omega) (by omega) (by simp) (Or.inl ⟨rfl, rfl⟩))
  go_enter Tryz.func15, Tryz.ntmps15
  go_wp2_with fail
  refine HC.out.mono ?_
  rintro e w' ⟨v, rfl, hx⟩
  have HX := hide hx
  clear hx
  go_wp2
  refine bodyPost_ret (v := .tuple #[v, .int .i64 11]) ?_ rfl ⟨v, rfl, HX.out⟩
  simp [results, Tryz.results15, go_sem]
set_option maxRecDepth 100000 in
set_option maxHeartbeats 800000 in
theorem kspoilt_3 (n : Nat) (w : World) (hn : n ≤ 30) : Calls Tryz.prog 15 #[.int .i64 3, .int .i64 n] w fun e w' => ∃ v, e = .returned (.tuple #[v, .int .i64 (spoilC 3)]) ∧ NewB w w' v (spoilB n 3) := by
  obtain ⟨i0, hi, hz0, hz1, hz2⟩ := info_parts Tryz.info5
  obtain ⟨m, hm⟩ : ∃ m, m = 33 - n := ⟨_, rfl⟩
  have hw : IntKind.i64.wrap (33 - (n : Int)) = (m : Int) := by rw [IntKind.wrap_i64]; omega
  obtain ⟨M, hM⟩ : ∃ M, M = madeCells (Value.int .u8 0).cells (((m : Nat) : Int).toNat * i0.size) := ⟨_, rfl⟩
  have hmk : ∀ W : World, (Instr.makeSlice 38 (.int .i64 (m : Int)) (.int .i64 (m : Int))).run Tryz.prog W = .ok (.slice (some ⟨W.heap.size, 0, none⟩) m m) (W.alloc (.cells M 5)) := fun W => by
    have h := run_make (P := Tryz.prog) W 38 5 i0 (.int .u8 0) Tryz.underlying38 hi hz0 .i64 .i64 (m : Int) (m : Int) (by omega) (by omega) (by rw [hz2]; omega) (by omega)
    rw [← hM] at h
    simpa using h
  have hMl : M = ((List.replicate m (0 : UInt8)).map B).toArray := by
    rw [hM, hz1]
    apply Array.ext
    · rw [size_madeCells]; simp
    · intro j h1 h2
      simp [madeCells, B, Value.cells, Nat.mod_one]
  have hby : BytesIn (w.alloc (.cells M 5)) (.slice (some ⟨w.heap.size, 0, none⟩) (List.replicate m (0 : UInt8)).length (List.replicate m (0 : UInt8)).length) (List.replicate m (0 : UInt8)) := by
    refine bytesIn_of_owns (b := w.heap.size) ?_ rfl
    rw [hMl]
    exact (newB_row (w := w) (l := List.replicate m (0 : UInt8)) (by simp [maxLen]; omega)).1
  have hb2 : Below w.heap.size w (w.alloc (.cells M 5)) := (Below.refl _ _).alloc (Nat.le_refl _) _
  have hc := klay_new (k := 0) (f := 0) (s := 1) hb2 (by omega) (by omega) (by omega) (by omega) (by omega) (by omega) (by simp; omega) hby
  rw [List.length_replicate] at hc
  rw [hm] at hc
  have HC : Hid (Calls Tryz.prog 9 #[.int .i64 0, .int .i64 0, .int .i64 1, .slice (some ⟨w.heap.size, 0, none⟩) m m] (w.alloc (.cells M 5)) fun e w' => ∃ v, e = .returned v ∧ NewB w w' v (spoilB n 3)) := by rw [hm]; exact hc
  clear hM hMl hby hb2 hc hm
  go_enter Tryz.func15, Tryz.ntmps15
  go_wp2_with fail
  refine HC.out.mono ?_
  rintro e w' ⟨v, rfl, hx⟩
  have HX := hide hx
  clear hx
  go_wp2
  refine bodyPost_ret (v := .tuple #[v, .int .i64 12]) ?_ rfl ⟨v, rfl, HX.out⟩
  simp [results, Tryz.results15, go_sem]
set_option maxRecDepth 100000 in
set_option maxHeartbeats 800000 in
theorem kspoilt_4 (n : Nat) (w : World) (hn : n ≤ 30) : Calls Tryz.prog 15 #[.int .i64 4, .int .i64 n] w fun e w' => ∃ v, e = .returned (.tuple #[v, .int .i64 (spoilC 4)]) ∧ NewB w w' v (spoilB n 4) := by
  have hb2 : Below w.heap.size w (w.alloc (.cells #[.int .u8 192] 5)) := (Below.refl _ _).alloc (Nat.le_refl _) _
  have hby : BytesIn (w.alloc (.cells #[.int .u8 192] 5)) (.slice (some ⟨w.heap.size, 0, none⟩) ([192] : List UInt8).length ([192] : List UInt8).length) [192] := bytesIn_of_owns (newB_row (w := w) (l := [192]) (by decide)).1 rfl
  have HC := hide (klay_new (k := 1) (f := 4) (s := 3) hb2 (by omega) (by omega) (by omega) (by omega) (by omega) (by omega) (by simp) hby)
  clear hb2 hby
  go_enter Tryz.func15, Tryz.ntmps15
  go_wp2_with fail
  refine HC.out.mono ?_
  rintro e w' ⟨v, rfl, hx⟩
  have HX := hide hx
  clear hx
  go_wp2
  refine bodyPost_ret (v := .tuple #[v, .int .i64 13]) ?_ rfl ⟨v, rfl, HX.out⟩
  simp [results, Tryz.results15, go_sem]
set_option maxRecDepth 100000 in
set_option maxHeartbeats 800000 in
theorem kspoilt_5 (n : Nat) (w : World) (hn : n ≤ 30) : Calls Tryz.prog 15 #[.int .i64 5, .int .i64 n] w fun e w' => ∃ v, e = .returned (.tuple #[v, .int .i64 (spoilC 5)]) ∧ NewB w w' v (spoilB n 5) := by
  have HC := hide (klay_new (sa := none) (cap := 0) (body := []) (k := 7) (f := 4) (s := 1) (Below.refl w.heap.size w) (by omega) (by omega) (by omega) (by omega) (by omega) (by omega) (by simp) (Or.inl ⟨rfl, rfl⟩))
  go_enter Tryz.func15, Tryz.ntmps15
  go_wp2_with fail
  refine HC.out.mono ?_
  rintro e w' ⟨v, rfl, hx⟩
  have HX := hide hx
  clear hx
  go_wp2
  refine bodyPost_ret (v := .tuple #[v, .int .i64 11]) ?_ rfl ⟨v, rfl, HX.out⟩
  simp [results, Tryz.results15, go_sem]
set_option maxRecDepth 100000 in
set_option maxHeartbeats 800000 in
theorem kspoilt_6 (n : Nat) (w : World) (hn : n ≤ 30) : Calls Tryz.prog 15 #[.int .i64 6, .int .i64 n] w fun e w' => ∃ v, e = .returned (.tuple #[v, .int .i64 (spoilC 6)]) ∧ NewB w w' v (spoilB n 6) := by
  have HC := hide (klay_new (sa := none) (cap := 0) (body := []) (k := 3) (f := 1) (s := 0) (Below.refl w.heap.size w) (by omega) (by omega) (by omega) (by omega) (by omega) (by omega) (by simp) (Or.inl ⟨rfl, rfl⟩))
  go_enter Tryz.func15, Tryz.ntmps15
  go_wp2_with fail
  refine HC.out.mono ?_
  rintro e w' ⟨v, rfl, hx⟩
  have HX := hide hx
  clear hx
  go_wp2
  refine bodyPost_ret (v := .tuple #[v, .int .i64 11]) ?_ rfl ⟨v, rfl, HX.out⟩
  simp [results, Tryz.results15, go_sem]
set_option maxRecDepth 100000 in
set_option maxHeartbeats 800000 in
theorem kspoilt_7 (n : Nat) (w : World) (hn : n ≤ 30) : Calls Tryz.prog 15 #[.int .i64 7, .int .i64 n] w fun e w' => ∃ v, e = .returned (.tuple #[v, .int .i64 (spoilC 7)]) ∧ NewB w w' v (spoilB n 7) := by
  have HF : Hid (Calls Tryz.prog 14 #[.int .i64 2147483647] w fun e w' => e = .returned (.slice (some ⟨w.heap.size, 0, none⟩) 4 4) ∧ Calls Tryz.prog 9 #[.int .i64 6, .int .i64 0, .int .i64 0, .slice (some ⟨w.heap.size, 0, none⟩) 4 4] w' fun e w'' => ∃ v, e = .returned v ∧ NewB w w'' v (spoilB n 7)) := by
    refine (kfour_any 2147483647 w (by omega)).mono ?_
    rintro e w' ⟨rfl, hby, hb⟩
    exact ⟨rfl, klay_new (k := 6) (f := 0) (s := 0) (body := four4 2147483647) hb (by omega) (by omega) (by omega) (by omega) (by omega) (by omega) (by decide) hby⟩
  go_enter Tryz.func15, Tryz.ntmps15
  go_wp2_with fail
  refine HF.out.mono ?_
  rintro e w1 ⟨rfl, hc⟩
  have HC := hide hc
  clear hc
  go_wp2_with fail
  refine HC.out.mono ?_
  rintro e w' ⟨v, rfl, hx⟩
  have HX := hide hx
  clear hx
  go_wp2
  refine bodyPost_ret (v := .tuple #[v, .int .i64 12]) ?_ rfl ⟨v, rfl, HX.out⟩
  simp [results, Tryz.results15, go_sem]
set_option maxRecDepth 100000 in
set_option maxHeartbeats 800000 in
theorem kspoilt_9 (n : Nat) (w : World) (hn : n ≤ 30) : Calls Tryz.prog 15 #[.int .i64 9, .int .i64 n] w fun e w' => ∃ v, e = .returned (.tuple #[v, .int .i64 (spoilC 9)]) ∧ NewB w w' v (spoilB n 9) := by
  have hb2 : Below w.heap.size w (w.alloc (.cells #[.int .u8 1, .int .u8 1] 5)) := (Below.refl _ _).alloc (Nat.le_refl _) _
  have hby : BytesIn (w.alloc (.cells #[.int .u8 1, .int .u8 1] 5)) (.slice (some ⟨w.heap.size, 0, none⟩) ([1, 1] : List UInt8).length ([1, 1] : List UInt8).length) [1, 1] := bytesIn_of_owns (newB_row (w := w) (l := [1, 1]) (by decide)).1 rfl
  have HC := hide (klay_new (k := 0) (f := 8) (s := 1) hb2 (by omega) (by omega) (by omega) (by omega) (by omega) (by omega) (by simp) hby)
  clear hb2 hby
  go_enter Tryz.func15, Tryz.ntmps15
  go_wp2_with fail
  refine HC.out.mono ?_
  rintro e w' ⟨v, rfl, hx⟩
  have HX := hide hx
  clear hx
  go_wp2
  refine bodyPost_ret (v := .tuple #[v, .int .i64 9]) ?_ rfl ⟨v, rfl, HX.out⟩
  simp [results, Tryz.results15, go_sem]
set_option maxRecDepth 100000 in
set_option maxHeartbeats 800000 in
theorem kspoilt_10 (n : Nat) (w : World) (hn : n ≤ 30) : Calls Tryz.prog 15 #[.int .i64 10, .int .i64 n] w fun e w' => ∃ v, e = .returned (.tuple #[v, .int .i64 (spoilC 10)]) ∧ NewB w w' v (spoilB n 10) := by
  have HC := hide (klay_new (sa := none) (cap := 0) (body := []) (k := 1) (f := 4) (s := 1) (Below.refl w.heap.size w) (by omega) (by omega) (by omega) (by omega) (by omega) (by omega) (by simp) (Or.inl ⟨rfl, rfl⟩))
  go_enter Tryz.func15, Tryz.ntmps15
  go_wp2_with fail
  refine HC.out.mono ?_
  rintro e w' ⟨v, rfl, hx⟩
  have HX := hide hx
  clear hx
  go_wp2
  refine bodyPost_ret (v := .tuple #[v, .int .i64 11]) ?_ rfl ⟨v, rfl, HX.out⟩
  simp [results, Tryz.results15, go_sem]
set_option maxRecDepth 100000 in
set_option maxHeartbeats 800000 in
theorem kspoilt_11 (n : Nat) (w : World) (hn : n ≤ 30) : Calls Tryz.prog 15 #[.int .i64 11, .int .i64 n] w fun e w' => ∃ v, e = .returned (.tuple #[v, .int .i64 (spoilC 11)]) ∧ NewB w w' v (spoilB n 11) := by
  have hb2 : Below w.heap.size w (w.alloc (.cells #[.int .u8 1] 5)) := (Below.refl _ _).alloc (Nat.le_refl _) _
  have hby : BytesIn (w.alloc (.cells #[.int .u8 1] 5)) (.slice (some ⟨w.heap.size, 0, none⟩) ([1] : List UInt8).length ([1] : List UInt8).length) [1] := bytesIn_of_owns (newB_row (w := w) (l := [1]) (by decide)).1 rfl
  have HC := hide (klay_new (k := 5) (f := 0) (s := 0) hb2 (by omega) (by omega) (by omega) (by omega) (by omega) (by omega) (by simp) hby)
  clear hb2 hby
  go_enter Tryz.func15, Tryz.ntmps15
  go_wp2_with fail
  refine HC.out.mono ?_
  rintro e w' ⟨v, rfl, hx⟩
  have HX := hide hx
  clear hx
  go_wp2
  refine bodyPost_ret (v := .tuple #[v, .int .i64 7]) ?_ rfl ⟨v, rfl, HX.out⟩
  simp [results, Tryz.results15, go_sem]
def pgB (k : Nat) : List UInt8 := (List.range' 0 k).flatMap fun i => lay 4 0 0 (four4 i)
theorem pgB_succ (k : Nat) : pgB (k + 1) = pgB k ++ lay 4 0 0 (four4 k) := by
  unfold pgB
  rw [List.range'_concat, List.flatMap_append]
  simp
theorem pgB_len : ∀ k, (pgB k).length = 10 * k
  | 0 => rfl
  | k + 1 => by rw [pgB_succ, List.length_append, pgB_len k, lay_length]; show 10 * k + (6 + 4) = _; omega
set_option maxRecDepth 100000 in
set_option maxHeartbeats 1600000 in
theorem kspoilt_8 (n : Nat) (w : World) (hn : n ≤ 30) : Calls Tryz.prog 15 #[.int .i64 8, .int .i64 n] w fun e w' => ∃ v, e = .returned (.tuple #[v, .int .i64 (spoilC 8)]) ∧ NewB w w' v (spoilB n 8) := by
  obtain ⟨i0, hi, hz0, hz1, hz2⟩ := info_parts Tryz.info5
  go_enter Tryz.func15, Tryz.ntmps15
  go_wp2
  go_loopw [6, 7] (fun bv i wr => ∃ (k : Nat) (wv : World), wv = wr ∧ i = .int .i64 (k : Int) ∧ k ≤ 8 ∧ wv.ownsRow 0 5 1 bv (10 * k) ((pgB k).map B) ∧ (∀ j, bv.ownBlock = some j → w.heap.size ≤ j) ∧ Below w.heap.size w wv) (fun _ i _ => 8 - (intOf i).toNat)
  case atStart => exact ⟨0, _, rfl, rfl, by omega, World.ownsRow_nil _ _ _ _, fun j hj => by simp [Value.ownBlock] at hj, Below.refl _ _⟩
  case round =>
    rename_i bv _ _ _
    obtain ⟨k, wv, hwv, rfl, hk, hown, hfr, hb⟩ := hrel
    subst hwv
    obtain ⟨sb, cb, hsb⟩ := slice_len hown
    subst hsb
    by_cases hk8 : k < 8
    · have HF : Hid (Calls Tryz.prog 14 #[.int .i64 k] wv fun e w' => e = .returned (.slice (some ⟨wv.heap.size, 0, none⟩) 4 4) ∧ Calls Tryz.prog 9 #[.int .i64 4, .int .i64 0, .int .i64 0, .slice (some ⟨wv.heap.size, 0, none⟩) 4 4] w' fun e w'' => ∃ v, e = .returned v ∧ NewB wv w'' v (lay 4 0 0 (four4 k))) := by
        refine (kfour_any k wv (by omega)).mono ?_
        rintro e w' ⟨rfl, hby, hb⟩
        exact ⟨rfl, klay_new (k := 4) (f := 0) (s := 0) (body := four4 k) hb (by omega) (by omega) (by omega) (by omega) (by omega) (by omega) (by show 4 ≤ 64; omega) hby⟩
      have HO := hide hown
      have HFR := hide hfr
      have HB := hide hb
      have hki : (k : Int) < 8 := by omega
      clear hown hfr hb
      go_wp2_with fail
      refine HF.out.mono ?_
      rintro e w1 ⟨rfl, hc⟩
      have HC := hide hc
      clear hc
      go_wp2_with fail
      refine HC.out.mono ?_
      rintro e w2 ⟨v2, rfl, hnb⟩
      obtain ⟨s2, c2, hs2⟩ := slice_len hnb.1
      subst hs2
      have hlen : (lay 4 0 0 (four4 k)).length = 10 := by rw [lay_length]; rfl
      have HO2 : Hid (w2.ownsRow 0 5 1 (.slice sb (10 * k) cb) (10 * k) ((pgB k).map B)) := owns_chg HO.out (Chg.of_below (S := fun _ => False) hnb.2) (fun _ _ => id)
      have HLI : Hid (Lies w2 (.slice s2 (lay 4 0 0 (four4 k)).length c2) (lay 4 0 0 (four4 k)).length ((lay 4 0 0 (four4 k)).map B)) := lies_of_bytesIn (bytesIn_of_owns hnb.1 rfl)
      have HNB := hide hnb.2
      rw [hlen] at HLI ⊢
      have HL := hide (show ((lay 4 0 0 (four4 k)).map B).length = 10 * 1 from by rw [List.length_map, hlen])
      clear hnb
      generalize hX : (lay 4 0 0 (four4 k)).map B = X at *
      have HX := hide hX
      have H1 : Hid (∀ u ∈ X, u.oneCell' = true) := fun u hu => by
        rw [← HX.out] at hu
        obtain ⟨c, -, rfl⟩ := List.mem_map.1 hu
        rfl
      clear hX
      go_wp2_with (at_builtin; refine wpList_app _ rfl (.tmp 48) (.tmp 49) 38 rfl 5 i0 (.int .u8 0) 1 1 Tryz.underlying38 hi hz0 hz1 hz2 rfl (by decide) (.slice sb (10 * k) cb) (10 * k) ((pgB k).map B) rfl HO2.out _ 10 X rfl HL.out HLI.out H1.out (by unfold maxLen; omega) (by omega) ?_)
      intro v3 w3 hown3 hg3 hfr3
      have HREL : Hid (w3.ownsRow 0 5 1 v3 (10 * (k + 1)) ((pgB (k + 1)).map B) ∧ (∀ j, v3.ownBlock = some j → w.heap.size ≤ j) ∧ Below w.heap.size w w3) := by
        refine ⟨?_, fun j hj => ?_, ?_⟩
        · rw [pgB_succ, List.map_append, HX.out]
          exact hown3
        · rcases hfr3 with e | e
          · rw [e] at hj; exact HFR.out j hj
          · rw [e] at hj
            simp at hj
            have := HB.out.size
            have := HNB.out.size
            omega
        · exact below_of_chg (HB.out.trans (HNB.out.mono HB.out.size)) (Chg.of_grown (S := fun j => w.heap.size ≤ j) hg3 (fun j hj => by first | exact Or.inl (HFR.out j hj) | exact HFR.out j hj | exact Or.inr (HFR.out j hj))) (fun j hj => hj)
      clear hown3 hg3 hfr3
      go_wp2
      all_goals go_roundw
      case rel => exact ⟨k + 1, _, rfl, by go_num, by omega, HREL.out⟩
      case measure => simp [intOf]; omega
    · have hke : k = 8 := by omega
      subst hke
      have HX : Hid (NewB w wv (.slice sb 80 cb) (spoilB n 8)) := by
        have e : spoilB n 8 = pgB 8 := rfl
        rw [e]
        refine ⟨?_, hb⟩
        rw [pgB_len]
        exact owns_base hown hfr
      clear hown hfr hb
      go_wp2
      refine bodyPost_ret (v := .tuple #[.slice sb 80 cb, .int .i64 14]) ?_ rfl ⟨_, rfl, HX.out⟩
      simp [results, Tryz.results15, go_sem]
theorem kspoilt_any (n : Nat) (w : World) (hn : n ≤ 30) : ∀ j : Nat, j < 12 → Calls Tryz.prog 15 #[.int .i64 j, .int .i64 n] w fun e w' => ∃ v, e = .returned (.tuple #[v, .int .i64 (spoilC j)]) ∧ NewB w w' v (spoilB n j)
  | 0, _ => kspoilt_0 n w hn
  | 1, _ => kspoilt_1 n w hn
  | 2, _ => kspoilt_2 n w hn
  | 3, _ => kspoilt_3 n w hn
  | 4, _ => kspoilt_4 n w hn
  | 5, _ => kspoilt_5 n w hn
  | 6, _ => kspoilt_6 n w hn
  | 7, _ => kspoilt_7 n w hn
  | 8, _ => kspoilt_8 n w hn
  | 9, _ => kspoilt_9 n w hn
  | 10, _ => kspoilt_10 n w hn
  | 11, _ => kspoilt_11 n w hn
end Go.Proofs.YtiphkngfbpdeoaaGreatDoor
namespace Go.Proofs.YtiphkngfbpdeoaaGreatDoor
set_option linter.unusedVariables false
set_option linter.unusedSimpArgs false
open Go.RowKit
structure DeadQ (q : GEnd) (s : GSt) (code : Int) : Prop where
  fault : q.m.fault = code
  K : q.K = [s]
  num : s.st.number = 1
  reset : s.st.reset = 0
  has : s.st.hasAll = false
  greets : q.m.greets = false
  out : q.out = []
  got : q.got = []
section
variable {w : World} {eb : Nat} {F : Nat → Prop} {q : GEnd} {s : GSt} {code : Int}
theorem dq_read (h : StE w eb F q) (hd : DeadQ q s code) (hu : 0 < s.un.length ∧ s.un.length ≤ 1000) (b1 : -1099511627776 ≤ q.m.owed ∧ q.m.owed ≤ 1099511627776) (b2 : -1099511627776 ≤ s.st.owed ∧ s.st.owed ≤ 1099511627776) :
    Calls Tryz.prog 10 #[.pointer (some ⟨eb, 0, none⟩), .int .i64 1, .int .i64 1099511627776] w fun e w' => (∃ a, e = .returned (.tuple #[.slice a s.un.length s.un.length, .bool false, .int .i64 0]) ∧ BytesIn w' (.slice a s.un.length s.un.length) s.un) ∧ ∃ q' s', DeadQ q' s' code ∧ s'.un = [] ∧ q'.m.parted = q.m.parted ∧ GoE w w' eb F q' := by
  have h1 := c_read_any (s := s) (n := 1099511627776) h (by rw [hd.K]; simp) (Or.inr (Or.inr hu.1)) hd.got hd.reset (by omega) (by omega) b1 b2
  have hcut : cutN 1099511627776 s.un.length = s.un.length := by unfold cutN; omega
  rw [hcut, hd.num] at h1
  refine h1.mono ?_
  rintro e w' ⟨⟨a, rfl, hb⟩, hgo⟩
  rw [List.take_of_length_le (Nat.le_refl _)] at hb
  have hK : updN 1 (fun x => x.took s.un.length) q.K = [s.took s.un.length] := by
    rw [hd.K]
    simp [updN, hd.num]
  refine ⟨⟨a, by rw [hd.has]; rfl, hb⟩, { q with m := q.m.owes s.un.length, K := updN 1 (fun x => x.took s.un.length) q.K }, s.took s.un.length, ⟨hd.fault, hK, hd.num, hd.reset, hd.has, hd.greets, hd.out, hd.got⟩, ?_, rfl, hgo⟩
  show s.un.drop s.un.length = []
  exact List.drop_of_length_le (Nat.le_refl _)
theorem dq_none (h : StE w eb F q) (hd : DeadQ q s code) (hc : code ≠ 0) (hu : s.un = []) :
    Calls Tryz.prog 10 #[.pointer (some ⟨eb, 0, none⟩), .int .i64 1, .int .i64 1099511627776] w fun e w' => e = .returned (.tuple #[.slice none 0 0, .bool false, .int .i64 7]) ∧ w' = w := by
  have := d_read_none (s := s) (n := 1099511627776) h (by rw [hd.K]; simp) (by rw [hd.fault]; exact hc) hd.reset hd.has hu (by omega)
  rw [hd.num] at this
  exact this
def sayB (code : Int) : List UInt8 := if code = 7 then [] else lay 5 0 0 [UInt8.ofNat code.toNat]
theorem sayB_len (code : Int) : (sayB code).length ≤ 7 := by
  unfold sayB
  split
  · simp
  · rw [lay_length]; simp
theorem dq_take (h : StE w eb F q) (hd : DeadQ q s code) (hc : code ≠ 0) (hcc : 0 ≤ code ∧ code ≤ 255) (hp : q.m.parted = false) :
    Calls Tryz.prog 29 #[.pointer (some ⟨eb, 0, none⟩), .int .i64 1099511627776] w fun e w' => (∃ a, e = .returned (.slice a (sayB code).length (sayB code).length) ∧ BytesIn w' (.slice a (sayB code).length (sayB code).length) (sayB code) ∧ ∃ q' F', DeadQ q' s code ∧ (code = 7 ∨ q'.m.parted = true) ∧ StE w' eb F' q' ∧ Chg F w w' ∧ (∀ j, F' j → F j ∨ w.heap.size ≤ j) ∧ ∀ j, (Value.slice a (sayB code).length (sayB code).length).ownBlock = some j → ¬ F' j) := by
  have hl := sayB_len code
  obtain ⟨q1, hq1, ho, hd1, hp1⟩ : ∃ q1, ((q.oGoaway = none ∧ q1 = q) ∨ q.oGoaway = some q1) ∧ q1.out = sayB code ∧ (∀ o, o = [] → DeadQ { q1 with out := o } s code) ∧ (code = 7 ∨ q1.m.parted = true) := by
    by_cases h7 : code = 7
    · refine ⟨q, Or.inl ⟨?_, rfl⟩, ?_, fun o ho => by subst ho; exact ⟨hd.fault, hd.K, hd.num, hd.reset, hd.has, hd.greets, rfl, hd.got⟩, Or.inl h7⟩
      · unfold GEnd.oGoaway; rw [if_pos (Or.inl (by rw [hd.fault]; exact h7))]
      · rw [hd.out]; unfold sayB; rw [if_pos h7]
    · refine ⟨{ q with m := { q.m with parted := true }, out := q.out ++ lay 5 0 0 [UInt8.ofNat q.m.fault.toNat] }, Or.inr ?_, ?_, fun o ho => by subst ho; exact ⟨hd.fault, hd.K, hd.num, hd.reset, hd.has, hd.greets, rfl, hd.got⟩, Or.inr rfl⟩
      · unfold GEnd.oGoaway; rw [if_neg (by rw [hd.fault, hp]; simp [h7])]
      · rw [hd.out, hd.fault]; unfold sayB; rw [if_neg h7]; rfl
  have hg1 : q1.got = [] := (hd1 [] rfl).got
  have h1 := d_take (n := 1099511627776) (q := q1) h hd.greets (by rw [hd.fault]; exact hc) (by rw [hd.fault]; exact hcc) hd.got hq1 hg1 (by rw [ho]; omega) (by rw [ho]; omega)
  have hcut : cutN 1099511627776 q1.out.length = (sayB code).length := by rw [ho]; unfold cutN; omega
  rw [hcut, ho, List.take_of_length_le (Nat.le_refl _), List.drop_of_length_le (Nat.le_refl _)] at h1
  refine h1.mono ?_
  rintro e w' ⟨a, h2, h3, F', h4, h5, h6, h7⟩
  exact ⟨a, h2, h3, _, F', hd1 [] rfl, hp1, h4, h5, h6, h7⟩
theorem dq_take2 (h : StE w eb F q) (hd : DeadQ q s code) (hc : code ≠ 0) (hcc : 0 ≤ code ∧ code ≤ 255) (hp : code = 7 ∨ q.m.parted = true) :
    Calls Tryz.prog 29 #[.pointer (some ⟨eb, 0, none⟩), .int .i64 1099511627776] w fun e w' => (∃ a, e = .returned (.slice a 0 0)) ∧ Chg F w w' := by
  have hn : q.oGoaway = none := by unfold GEnd.oGoaway; rw [if_pos (by rw [hd.fault]; exact hp)]
  have h1 := d_take (n := 1099511627776) (q := q) h hd.greets (by rw [hd.fault]; exact hc) (by rw [hd.fault]; exact hcc) hd.got (Or.inl ⟨hn, rfl⟩) hd.got (by rw [hd.out]; simp) (by rw [hd.out]; simp)
  have hcut : cutN 1099511627776 q.out.length = 0 := by rw [hd.out]; rfl
  rw [hcut] at h1
  refine h1.mono ?_
  rintro e w' ⟨a, h2, -, F', -, h3, -⟩
  exact ⟨⟨a, h2⟩, h3⟩
end
set_option maxRecDepth 100000 in
set_option maxHeartbeats 1600000 in
theorem kquiet_true (eb : Nat) (F : Nat → Prop) (q : GEnd) (s : GSt) (code : Int) (w : World) (he : StE w eb F q) (hd : DeadQ q s code) (hc : code ≠ 0) (hcc : 0 ≤ code ∧ code ≤ 255) (hp : q.m.parted = false) (hu : s.un.length ≤ 1000) (b1 : -1099511627776 ≤ q.m.owed ∧ q.m.owed ≤ 1099511627776) (b2 : -1099511627776 ≤ s.st.owed ∧ s.st.owed ≤ 1099511627776) :
    Calls Tryz.prog 18 #[.pointer (some ⟨eb, 0, none⟩), .string ⟨s.un.toArray⟩, .int .i64 code] w fun e w' => e = .returned (.bool true) ∧ Chg F w w' := by
  have HR1 : Hid (Calls Tryz.prog 10 #[.pointer (some ⟨eb, 0, none⟩), .int .i64 1, .int .i64 1099511627776] w fun e w' => (∃ a n c x, e = .returned (.tuple #[.slice a n n, .bool false, .int .i64 x]) ∧ (s.un ≠ [] → x = 0 ∧ (convert 38 9 (.slice a n n)).run Tryz.prog w' = .ok (.string ⟨s.un.toArray⟩) w') ∧ c = 0) ∧ ∃ q' s' F', DeadQ q' s' code ∧ s'.un = [] ∧ q'.m.parted = false ∧ StE w' eb F' q' ∧ Chg F w w' ∧ ∀ j, F' j → F j ∨ w.heap.size ≤ j) := by
    by_cases h0 : s.un = []
    · refine (dq_none he hd hc h0).mono ?_
      rintro e w' ⟨rfl, rfl⟩
      exact ⟨⟨none, 0, 0, 7, rfl, fun h => absurd h0 h, rfl⟩, q, s, F, hd, h0, hp, he, Chg.refl _ _, fun j hj => Or.inl hj⟩
    · refine (dq_read he hd ⟨List.length_pos_iff.2 h0, hu⟩ b1 b2).mono ?_
      rintro e w' ⟨⟨a, rfl, hb⟩, q', s', h1, h2, h3, F', h4, h5, h6⟩
      exact ⟨⟨a, _, 0, 0, rfl, fun _ => ⟨rfl, conv_str hb⟩, rfl⟩, q', s', F', h1, h2, h3.trans hp, h4, h5, h6⟩
  obtain ⟨t, ht⟩ : ∃ t, t = s.un := ⟨_, rfl⟩
  rw [← ht] at HR1 ⊢
  clear ht he hd hp hu b1 b2
  obtain ⟨str, hstr⟩ : ∃ str, str = ByteArray.mk t.toArray := ⟨_, rfl⟩
  rw [← hstr] at HR1 ⊢
  have HNE : Hid (str.toList = t) := by rw [hstr, ByteArray.toList_eq]; rfl
  have hwr : IntKind.u8.wrap code = code := by rw [IntKind.wrap_u8]; omega
  have HSTR := hide hstr
  clear hstr
  go_enter Tryz.func18, Tryz.ntmps18
  go_wp2_with fail
  refine HR1.out.mono ?_
  rintro e w1 ⟨⟨a1, n1, c1, x1, rfl, hcv, -⟩, q1, s1, F1, hd1, hu1, hp1, hst1, hch1, hF1⟩
  have HCV := hide hcv
  have HD1 := hide hd1
  have HST1 := hide hst1
  have HCH1 := hide hch1
  have HF1 := hide hF1
  have HU1 := hide hu1
  have HP1 := hide hp1
  clear hcv hd1 hst1 hch1 hF1 hu1 hp1 HR1
  go_upto_region 2 with fail
  go_cut [33] from 34 (fun s33 wx => s33 = .bool false ∧ wx = w1)
  case first =>
    by_cases h0 : t = []
    · have hie : str.toList.isEmpty = true := by rw [HNE.out, h0]; rfl
      go_wp2
      all_goals go_meet
      all_goals exact ⟨rfl, rfl⟩
    · have hie : str.toList.isEmpty = false := by rw [HNE.out]; cases t with
        | nil => exact absurd rfl h0
        | cons a b => rfl
      obtain ⟨hx, kcv⟩ := HCV.out h0
      subst hx
      go_wp2
      all_goals go_meet
      all_goals exact ⟨rfl, rfl⟩
  case rest =>
    obtain ⟨rfl, hwc⟩ := hcut
    rw [hwc]
    clear hwc wc HCV HNE HSTR
    go_wp2_with fail
    have HN := hide (dq_none HST1.out HD1.out hc HU1.out)
    refine HN.out.mono ?_
    rintro e w' ⟨rfl, hw'⟩
    rw [hw']
    clear hw' w' HN
    have hbn : BytesIn (w1.alloc (.cells #[.int .u8 code] 5)) (.slice (some ⟨w1.heap.size, 0, none⟩) [UInt8.ofNat code.toNat].length 1) [UInt8.ofNat code.toNat] := by
      have hrow : #[Value.int .u8 code] = ([UInt8.ofNat code.toNat].map B).toArray := by
        have : B (UInt8.ofNat code.toNat) = .int .u8 code := by
          show Value.int .u8 ((UInt8.ofNat code.toNat).toNat : Int) = _
          rw [UInt8.toNat_ofNat']
          congr 1
          omega
        rw [List.map_cons, this]; rfl
      rw [hrow]
      exact bytesIn_of_owns (newB_row (w := w1) (l := [UInt8.ofNat code.toNat]) (show 1 ≤ maxLen by decide)).1 rfl
    have HL := hide (klay_new (k := 5) (f := 0) (s := 0) (w0 := w1) ((Below.refl _ _).alloc (Nat.le_refl _) _) (by decide) (by decide) (by decide) (by decide) (by decide) (by decide) (by simp) hbn)
    clear hbn
    go_wp2_with fail
    refine HL.out.mono ?_
    rintro e w2 ⟨v, rfl, hnb⟩
    have HSAY : Hid (∀ u, (code = 7 → u = .slice none 0 0) → (code ≠ 7 → u = v) → BytesIn w2 u (sayB code) ∧ ∀ j, u.ownBlock = some j → w1.heap.size ≤ j) := fun u h1 h2 => by
      unfold sayB
      by_cases h7 : code = 7
      · rw [h1 h7, if_pos h7]; exact ⟨Or.inl ⟨rfl, rfl⟩, fun j hj => by simp [Value.ownBlock] at hj⟩
      · rw [h2 h7, if_neg h7]; exact ⟨bytesIn_of_owns hnb.1 rfl, fun j hj => owns_ge hnb.1 hj⟩
    have HNB := hide hnb
    have hcb : (code == 7) = decide (code = 7) := rfl
    clear hnb HL
    go_upto_if 52 with fail
    go_cut [10] from 53 (fun s10 wx => BytesIn w2 s10 (sayB code) ∧ (∀ j, s10.ownBlock = some j → w1.heap.size ≤ j) ∧ wx = w2)
    case first =>
      by_cases h7 : code = 7
      · have hc7 : (code == 7) = true := by rw [h7]; rfl
        have H7 := hide h7
        clear h7
        go_wp2
        all_goals go_meet
        all_goals exact ⟨(HSAY.out _ (fun _ => rfl) (fun h => absurd H7.out h)).1, (HSAY.out _ (fun _ => rfl) (fun h => absurd H7.out h)).2, rfl⟩
      · have hc7 : (code == 7) = false := by simp [h7]
        have H7 := hide h7
        go_wp2
        all_goals go_meet
        all_goals exact ⟨(HSAY.out _ (fun h => absurd h H7.out) (fun _ => rfl)).1, (HSAY.out _ (fun h => absurd h H7.out) (fun _ => rfl)).2, rfl⟩
    case rest =>
      obtain ⟨hsb, hsn, hwc⟩ := hcut
      rw [hwc]
      clear hwc wc
      have HST2 := hide (HST1.out.below HNB.out.2)
      have HCH2 := hide (HCH1.out.then_below HNB.out.2)
      have HSN : Hid (∀ j, u10.ownBlock = some j → ¬ F1 j) := fun j hj hf => by
        have := hsn j hj
        have := HST1.out.lt hf
        omega
      have HSB := hide hsb
      have HT := hide (dq_take HST2.out HD1.out hc hcc HP1.out)
      clear HST1 HCH1 hsn hsb HSAY HNB
      go_wp2_with fail
      refine HT.out.mono ?_
      rintro e w3 ⟨a3, rfl, hb3, q3, F3, hd3, hp3, hst3, hch3, hF3, hn3⟩
      have HSB3 := hide (HSB.out.chg hch3 HSN.out)
      have HSN3 : Hid (∀ j, u10.ownBlock = some j → ¬ F3 j) := fun j hj hf => by
        rcases hF3 j hf with a | a
        · exact HSN.out j hj a
        · have := HSB.out.lt hj; omega
      have HN3 := hide hn3
      have HB3 := hide hb3
      have HCH3 : Hid (Chg F w w3) := HCH2.out.trans (hch3.mono fun j _ hj => (HF1.out j hj).symm)
      have HF3 : Hid (∀ j, F3 j → F j ∨ w.heap.size ≤ j) := fun j hj => by
        rcases hF3 j hj with a | a
        · exact HF1.out j a
        · exact Or.inr (Nat.le_trans HCH2.out.size a)
      have HT2 := hide (dq_take2 hst3 hd3 hc hcc hp3)
      clear hch3 hF3 hn3 hb3 hst3 hd3 hp3 HT HSB HSN HCH2 HST2 HF1
      go_wp2_with fail
      refine HT2.out.mono ?_
      rintro e w4 ⟨⟨a4, rfl⟩, hch4⟩
      have kc1 := conv_str (HSB3.out.chg hch4 HSN3.out)
      have kc2 := conv_str (HB3.out.chg hch4 HN3.out)
      have HCH4 : Hid (Chg F w w4) := HCH3.out.trans (hch4.mono fun j _ hj => (HF3.out j hj).symm)
      clear hch4 HT2 HCH3 HF3 HSB3 HB3 HN3 HSN3
      generalize ByteArray.mk (sayB code).toArray = say at *
      go_wp2
      go_ret
      exact ⟨rfl, HCH4.out⟩
end Go.Proofs.YtiphkngfbpdeoaaGreatDoor
