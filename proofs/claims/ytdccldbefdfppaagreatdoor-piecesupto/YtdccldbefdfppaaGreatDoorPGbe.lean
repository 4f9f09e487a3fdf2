import Derived.Test.YtdccldbefdfppaaGreatDoorPGao
import Derived.Test.YtdccldbefdfppaaGreatDoorPFxNew
import Derived.Test.YtdccldbefdfppaaGreatDoorPGbc
import Derived.Test.YtdccldbefdfppaaGreatDoorPGak
import Derived.Test.YtdccldbefdfppaaGreatDoorPGac
import Derived.Test.YtdccldbefdfppaaGreatDoorPGaw
import Derived.Test.YtdccldbefdfppaaGreatDoorPGah
import Derived.Test.YtdccldbefdfppaaGreatDoorPGaf
import Derived.BigRegion
import Derived.Lib.SlBytesConst
import Derived.Laws.CopyOwn
set_option linter.unusedVariables false
set_option linter.unusedSimpArgs false
namespace Go.Proofs.YtdccldbefdfppaaGreatDoor
open Go.RowKit
section
structure CfgOk (i c b k : Int) : Prop where
 i0 : 0 ≤ i
 i1 : i ≤ 1000
 c0 : 32 ≤ c
 c1 : c ≤ 1000
 b0 : 1 ≤ b
 b1 : b ≤ 1000
 k0 : c ≤ k
 k1 : k ≤ 1000
set_option maxHeartbeats 400000 in
theorem kpick_fun (c n : Int) (w : World) (hn : 0 < n) (hc : I64 c) :
  Calls Tryz.prog 5 #[.int .i64 c, .int .i64 n] w fun e w' => e = .returned (.int .i64 (pkI c n)) ∧ w' = w := by
 obtain ⟨hc1, hc2⟩ := hc
 have hnz : ¬ n = 0 := by omega
 by_cases hneg : c < 0
 ·have e : pkI c n = -(c + 1).tmod n := by unfold pkI; rw [if_pos hneg]
  rw [e]
  clear e
  go_enter Tryz.func5, Tryz.ntmps5
  go_wp2
  go_ret
  exact ⟨rfl, rfl⟩
 ·have e : pkI c n = c % n := by unfold pkI; rw [if_neg hneg]
  rw [e]
  clear e
  go_enter Tryz.func5, Tryz.ntmps5
  go_wp2
  go_ret
  exact ⟨rfl, rfl⟩
theorem blk_alloc {W : World} {b : Nat} {o x : Obj} (h : W.heap[b]? = some x) : (W.alloc o).heap[b]? = some x := by
 rw [heap_alloc_old _ _ (Array.getElem?_eq_some_iff.1 h).1]
 exact h
set_option maxRecDepth 100000 in
set_option maxHeartbeats 1600000 in
theorem tameConfig_any (x0 x1 x2 x3 : Int) (w : World) (h0 : I64 x0) (h1 : I64 x1) (h2 : I64 x2) (h3 : I64 x3) :
  Calls Tryz.prog 7 #[.agg #[.int .i64 x0, .int .i64 x1, .int .i64 x2, .int .i64 x3]] w fun e w' => ∃ i c b k, e = .returned (.agg #[.int .i64 i, .int .i64 c, .int .i64 b, .int .i64 k]) ∧ CfgOk i c b k ∧ Below w.heap.size w w' := by
 have HPK : Hid (∀ c n w, 0 < n → I64 c → Calls Tryz.prog 5 #[.int .i64 c, .int .i64 n] w fun e w' => e = .returned (.int .i64 (pkI c n)) ∧ w' = w) := fun c n w hn hc => kpick_fun c n w hn hc
 obtain ⟨i, hi⟩ : ∃ i, i = pkI x0 1001 := ⟨_, rfl⟩
 obtain ⟨b0, hb0⟩ : ∃ b, b = pkI x2 1000 := ⟨_, rfl⟩
 obtain ⟨c0, hc0⟩ : ∃ c, c = pkI x1 969 := ⟨_, rfl⟩
 have qi := pkI_bounds x0 (n := 1001) (by omega)
 have qb := pkI_bounds x2 (n := 1000) (by omega)
 have qc := pkI_bounds x1 (n := 969) (by omega)
 rw [← hi] at qi
 rw [← hb0] at qb
 rw [← hc0] at qc
 obtain ⟨qi0, qi1⟩ := qi
 obtain ⟨qb0, qb1⟩ := qb
 obtain ⟨qc0, qc1⟩ := qc
 have qk := pkI_bounds x3 (n := 1000 - (32 + c0) + 1) (by omega)
 obtain ⟨k0, hk0⟩ : ∃ k, k = pkI x3 (1000 - (32 + c0) + 1) := ⟨_, rfl⟩
 rw [← hk0] at qk
 obtain ⟨qk0, qk1⟩ := qk
 have w1 : IntKind.i64.wrap (1 + b0) = 1 + b0 := by rw [IntKind.wrap_i64]; omega
 have w2 : IntKind.i64.wrap (32 + c0) = 32 + c0 := by rw [IntKind.wrap_i64]; omega
 have w3 : IntKind.i64.wrap (1000 - (32 + c0)) = 1000 - (32 + c0) := by rw [IntKind.wrap_i64]; omega
 have w4 : IntKind.i64.wrap (1000 - (32 + c0) + 1) = 1000 - (32 + c0) + 1 := by rw [IntKind.wrap_i64]; omega
 have w5 : IntKind.i64.wrap (32 + c0 + k0) = 32 + c0 + k0 := by rw [IntKind.wrap_i64]; omega
 have n4 : 0 < 1000 - (32 + c0) + 1 := by omega
 have hi' : pkI x0 1001 = i := hi.symm
 have hb' : pkI x2 1000 = b0 := hb0.symm
 have hc' : pkI x1 969 = c0 := hc0.symm
 have hk' : pkI x3 (1000 - (32 + c0) + 1) = k0 := hk0.symm
 have hOK : CfgOk i (32 + c0) (1 + b0) (32 + c0 + k0) := ⟨by omega, by omega, by omega, by omega, by omega, by omega, by omega, by omega⟩
 have HOK := hide hOK
 clear hOK hi hb0 hc0 hk0
 go_enter Tryz.func7, Tryz.ntmps7
 go_upto_region 1 with fail
 go_cut [3] (fun s3 wx => s3 = .pointer (some ⟨w.heap.size + 1 + 1, 0, none⟩) ∧ wx = (((w.alloc (.cells #[.int .i64 x0, .int .i64 x1, .int .i64 x2, .int .i64 x3] 23)).alloc (.cells #[.int .i64 0, .int .i64 0, .int .i64 0, .int .i64 0] 23)).alloc (.cells #[.int .i64 i, .int .i64 0, .int .i64 (1 + b0), .int .i64 0] 23)).drew)
 case first =>
  go_region_held3 (fun w' => w'.cell? ⟨w.heap.size, 0, none⟩ = some (.int .i64 x0) ∧ w'.cell? ⟨w.heap.size, 1, none⟩ = some (.int .i64 x1) ∧ w'.cell? ⟨w.heap.size, 2, none⟩ = some (.int .i64 x2) ∧ w'.cell? ⟨w.heap.size, 3, none⟩ = some (.int .i64 x3)) (go_keep)
   (first | (go_at_call 5; refine (HPK.out _ _ _ (by first | decide | assumption) (by assumption)).mono ?_; rintro e w' ⟨rfl, rfl⟩))
  all_goals (go_wp2_with fail; go_meet)
  all_goals (simp only [hi', hb', w1]; exact ⟨trivial, trivial⟩)
 case rest =>
  obtain ⟨rfl, hwc⟩ := hcut
  rw [hwc]
  clear hwc
  go_wp2_with fail
  refine (HPK.out _ _ _ (by decide) h1).mono ?_
  rintro e w' ⟨rfl, hw'⟩
  rw [hw', hc']
  clear hw' w'
  go_upto_region 3 with fail
  obtain ⟨wB, hwB⟩ : ∃ wB, wB = (((w.alloc (.cells #[.int .i64 x0, .int .i64 x1, .int .i64 x2, .int .i64 x3] 23)).alloc (.cells #[.int .i64 0, .int .i64 0, .int .i64 0, .int .i64 0] 23)).alloc (.cells #[.int .i64 i, .int .i64 (32 + c0), .int .i64 (1 + b0), .int .i64 0] 23)).drew := ⟨_, rfl⟩
  rw [← hwB]
  have ha : wB.heap[w.heap.size]? = some (.cells #[.int .i64 x0, .int .i64 x1, .int .i64 x2, .int .i64 x3] 23 (0, 0)) := by
   rw [hwB]
   exact blk_alloc (blk_alloc (heap_alloc_new w _))
  have hb : wB.heap[w.heap.size + 1]? = some (.cells #[.int .i64 0, .int .i64 0, .int .i64 0, .int .i64 0] 23 (0, 0)) := by
   rw [hwB]
   have := heap_alloc_new (w.alloc (.cells #[.int .i64 x0, .int .i64 x1, .int .i64 x2, .int .i64 x3] 23)) (.cells #[.int .i64 0, .int .i64 0, .int .i64 0, .int .i64 0] 23)
   rw [World.size_alloc] at this
   exact blk_alloc this
  have hc : wB.heap[w.heap.size + 1 + 1]? = some (.cells #[.int .i64 i, .int .i64 (32 + c0), .int .i64 (1 + b0), .int .i64 0] 23 (0, 0)) := by
   rw [hwB]
   have := heap_alloc_new ((w.alloc (.cells #[.int .i64 x0, .int .i64 x1, .int .i64 x2, .int .i64 x3] 23)).alloc (.cells #[.int .i64 0, .int .i64 0, .int .i64 0, .int .i64 0] 23)) (.cells #[.int .i64 i, .int .i64 (32 + c0), .int .i64 (1 + b0), .int .i64 0] 23)
   rw [World.size_alloc, World.size_alloc] at this
   exact this
  have hbe : Below w.heap.size w wB := by
   rw [hwB]
   have := (((Below.refl w.heap.size w).alloc (Nat.le_refl _) (.cells #[.int .i64 x0, .int .i64 x1, .int .i64 x2, .int .i64 x3] 23)).alloc (by simp) (.cells #[.int .i64 0, .int .i64 0, .int .i64 0, .int .i64 0] 23)).alloc (by simp; omega) (.cells #[.int .i64 i, .int .i64 (32 + c0), .int .i64 (1 + b0), .int .i64 0] 23)
   exact ⟨this.os, this.tape, this.output, this.size, this.block⟩
  have y3 : wB.cell? ⟨w.heap.size, 3, none⟩ = some (.int .i64 x3) := by rw [cell_of_row _ _ _ _ _ _ ha]; rfl
  have y1 : wB.cell? ⟨w.heap.size + 1 + 1, 1, none⟩ = some (.int .i64 (32 + c0)) := by rw [cell_of_row _ _ _ _ _ _ hc]; rfl
  have z3 : wB.cell? ⟨w.heap.size + 1 + 1, 3, none⟩ = some (.int .i64 0) := by rw [cell_of_row _ _ _ _ _ _ hc]; rfl
  have zf : wB.frozen? ⟨w.heap.size + 1 + 1, 3, none⟩ = false := by simp [World.frozen?, hc]
  have hKP : (wB.setCell ⟨w.heap.size + 1 + 1, 3, none⟩ (.int .i64 (32 + c0 + k0))).cell? ⟨w.heap.size, 3, none⟩ = some (.int .i64 x3) ∧ (wB.setCell ⟨w.heap.size + 1 + 1, 3, none⟩ (.int .i64 (32 + c0 + k0))).cell? ⟨w.heap.size + 1 + 1, 1, none⟩ = some (.int .i64 (32 + c0)) := by
   have hset : Chg (fun j => j = w.heap.size + 1 + 1) wB (wB.setCell ⟨w.heap.size + 1 + 1, 3, none⟩ (.int .i64 (32 + c0 + k0))) := chg_set (Chg.refl _ _) rfl
   refine ⟨?_, ?_⟩
   ·rw [hset.cell (p := ⟨w.heap.size, 3, none⟩) (lt_of_block ha) (by show ¬ w.heap.size = w.heap.size + 1 + 1; omega)]
    exact y3
   ·rw [cell_of_row _ _ _ _ _ _ (blk_set hc)]
    rfl
  have HKP := hide hKP
  have HB := hide hb
  have HC := hide hc
  have HBE := hide hbe
  clear hwB ha hb hc hbe hKP
  go_cut [] (fun wx => wx.heap[w.heap.size + 1 + 1]? = some (.cells #[.int .i64 i, .int .i64 (32 + c0), .int .i64 (1 + b0), .int .i64 (32 + c0 + k0)] 23 (0, 0)) ∧ wx.heap[w.heap.size + 1]? = some (.cells #[.int .i64 0, .int .i64 0, .int .i64 0, .int .i64 0] 23 (0, 0)) ∧ Below w.heap.size w wx)
  case first =>
   go_region_held3 (fun w' => w'.cell? ⟨w.heap.size, 3, none⟩ = some (.int .i64 x3) ∧ w'.cell? ⟨w.heap.size + 1 + 1, 1, none⟩ = some (.int .i64 (32 + c0))) (first | exact HKP.out | go_keep)
    (first | (go_at_call 5; refine (HPK.out _ _ _ (by first | assumption | (rw [w3, w4]; assumption)) (by assumption)).mono ?_; rintro e w' ⟨rfl, rfl⟩))
   all_goals (go_wp2_with fail; go_meet)
   all_goals
    skip
    have hset : Chg (fun j => j = w.heap.size + 1 + 1) wB (wB.setCell ⟨w.heap.size + 1 + 1, 3, none⟩ (.int .i64 (32 + c0 + k0))) := chg_set (Chg.refl _ _) rfl
    refine ⟨blk_set HC.out, ?_, ?_⟩
    ·have := hset.block (w.heap.size + 1) (lt_of_block HB.out) (by omega)
     exact this.trans HB.out
    ·have := below_of_chg HBE.out hset (fun j e => by omega)
     exact ⟨this.os, this.tape, this.output, this.size, this.block⟩
  case rest =>
   obtain ⟨hc, hb, hbe⟩ := hcut
   obtain ⟨wD, hwD⟩ : ∃ wD, wD = wc := ⟨wc, rfl⟩
   subst hwD
   have c0' : wD.cell? ⟨w.heap.size + 1 + 1, 0, none⟩ = some (.int .i64 i) := by rw [cell_of_row _ _ _ _ _ _ hc]; rfl
   have c1' : wD.cell? ⟨w.heap.size + 1 + 1, 1, none⟩ = some (.int .i64 (32 + c0)) := by rw [cell_of_row _ _ _ _ _ _ hc]; rfl
   have c2' : wD.cell? ⟨w.heap.size + 1 + 1, 2, none⟩ = some (.int .i64 (1 + b0)) := by rw [cell_of_row _ _ _ _ _ _ hc]; rfl
   have c3' : wD.cell? ⟨w.heap.size + 1 + 1, 3, none⟩ = some (.int .i64 (32 + c0 + k0)) := by rw [cell_of_row _ _ _ _ _ _ hc]; rfl
   have r0 : wD.cell? ⟨w.heap.size + 1, 0, none⟩ = some (.int .i64 0) := by rw [cell_of_row _ _ _ _ _ _ hb]; rfl
   have r1 : wD.cell? ⟨w.heap.size + 1, 1, none⟩ = some (.int .i64 0) := by rw [cell_of_row _ _ _ _ _ _ hb]; rfl
   have r2 : wD.cell? ⟨w.heap.size + 1, 2, none⟩ = some (.int .i64 0) := by rw [cell_of_row _ _ _ _ _ _ hb]; rfl
   have r3 : wD.cell? ⟨w.heap.size + 1, 3, none⟩ = some (.int .i64 0) := by rw [cell_of_row _ _ _ _ _ _ hb]; rfl
   have f0 : wD.frozen? ⟨w.heap.size + 1, 0, none⟩ = false := by simp [World.frozen?, hb]
   have f1 : wD.frozen? ⟨w.heap.size + 1, 1, none⟩ = false := by simp [World.frozen?, hb]
   have f2 : wD.frozen? ⟨w.heap.size + 1, 2, none⟩ = false := by simp [World.frozen?, hb]
   have f3 : wD.frozen? ⟨w.heap.size + 1, 3, none⟩ = false := by simp [World.frozen?, hb]
   have hbb : ((((wD.setCell ⟨w.heap.size + 1, 0, none⟩ (.int .i64 i)).setCell ⟨w.heap.size + 1, 1, none⟩ (.int .i64 (32 + c0))).setCell ⟨w.heap.size + 1, 2, none⟩ (.int .i64 (1 + b0))).setCell ⟨w.heap.size + 1, 3, none⟩ (.int .i64 (32 + c0 + k0))).heap[w.heap.size + 1]? = some (.cells #[.int .i64 i, .int .i64 (32 + c0), .int .i64 (1 + b0), .int .i64 (32 + c0 + k0)] 23 (0, 0)) := blk_set (blk_set (blk_set (blk_set hb)))
   have s0 := cell_of_row _ _ 0 _ _ _ hbb
   have s1 := cell_of_row _ _ 1 _ _ _ hbb
   have s2 := cell_of_row _ _ 2 _ _ _ hbb
   have s3 := cell_of_row _ _ 3 _ _ _ hbb
   have HS0 := hide s0
   have HS1 := hide s1
   have HS2 := hide s2
   have HS3 := hide s3
   have HBE2 := hide hbe
   clear hc hb hbe hbb s0 s1 s2 s3
   go_wp2
   refine bodyPost_ret (v := .agg #[.int .i64 i, .int .i64 (32 + c0), .int .i64 (1 + b0), .int .i64 (32 + c0 + k0)]) ?_ rfl ⟨_, _, _, _, rfl, HOK.out, ?_⟩
   ·have e0 := HS0.out
    have e1 := HS1.out
    have e2 := HS2.out
    have e3 := HS3.out
    simp [results, Tryz.results7, go_sem, e0, e1, e2, e3]
   ·have hset : Chg (fun j => j = w.heap.size + 1) wD ((((wD.setCell ⟨w.heap.size + 1, 0, none⟩ (.int .i64 i)).setCell ⟨w.heap.size + 1, 1, none⟩ (.int .i64 (32 + c0))).setCell ⟨w.heap.size + 1, 2, none⟩ (.int .i64 (1 + b0))).setCell ⟨w.heap.size + 1, 3, none⟩ (.int .i64 (32 + c0 + k0))) := chg_set (chg_set (chg_set (chg_set (Chg.refl _ _) rfl) rfl) rfl) rfl
    exact below_of_chg HBE2.out hset (fun j e => by omega)
end
section
set_option maxHeartbeats 400000 in
theorem isWithin_ok (n l : Int) (w : World) (h : l ≤ n ∧ n ≤ 1000) : Calls Tryz.prog 47 #[.int .i64 n, .int .i64 l] w fun e w' => e = .returned (.bool true) ∧ w' = w := by
 have h1 : n ≥ l := h.1
 have h2 := h.2
 go_enter Tryz.func47, Tryz.ntmps47
 go_wp2
 go_ret
 exact ⟨rfl, rfl⟩
set_option maxHeartbeats 800000 in
theorem cfgFits_ok (i c b k : Int) (w : World) (h : CfgOk i c b k) : Calls Tryz.prog 27 #[.agg #[.int .i64 i, .int .i64 c, .int .i64 b, .int .i64 k]] w fun e w' => e = .returned (.bool true) ∧ Below w.heap.size w w' := by
 have hcf := heap_alloc_new w (.cells #[.int .i64 i, .int .i64 c, .int .i64 b, .int .i64 k] 23)
 obtain ⟨y0, y1, y2, y3⟩ := cfgs' hcf
 have HB : Hid (Below w.heap.size w (w.alloc (.cells #[.int .i64 i, .int .i64 c, .int .i64 b, .int .i64 k] 23))) := (Below.refl _ _).alloc (Nat.le_refl _) _
 clear hcf
 have HW := hide (fun n l w h => isWithin_ok n l w h)
 have H := hide h
 clear h
 go_enter Tryz.func27, Tryz.ntmps27
 go_wp2_with (go_at_call 47; refine (HW.out _ _ _ (by obtain ⟨h1, h2, h3, h4, h5, h6, h7, h8⟩ := H.out; omega)).mono ?_; rintro e w' ⟨rfl, rfl⟩)
 go_ret
 exact ⟨rfl, HB.out⟩
def xNew (fi : Bool) (i c b k : Int) (mb : Nat) : GX := ⟨⟨EndM.newX fi i c b k mb, [], [], [], [], [], []⟩, 128, [], 128, [], fun _ => []⟩
def pNewX (fi : Bool) (i c b k : Int) : GX := (xNew fi i c b k 0).bare
theorem newX_keep (fi : Bool) (i c b k : Int) (mb : Nat) : (EndM.newX fi i c b k mb).known = .map (some mb) ∧ (EndM.newX fi i c b k mb).opn = .slice none 0 0 ∧ (EndM.newX fi i c b k mb).got = .slice none 0 0 ∧ (EndM.newX fi i c b k mb).out = .slice none 0 0 ∧ (EndM.newX fi i c b k mb).answers = .slice none 0 0 ∧ (EndM.newX fi i c b k mb).resets = .slice none 0 0 ∧ (EndM.newX fi i c b k mb).utab = .slice none 0 0 ∧ (EndM.newX fi i c b k mb).bbytes = .slice none 0 0 ∧ (EndM.newX fi i c b k mb).ulim = 128 ∧ (EndM.newX fi i c b k mb).usz = 0 ∧ (EndM.newX fi i c b k mb).umost = 128 := by
 cases fi <;> exact ⟨rfl, rfl, rfl, rfl, rfl, rfl, rfl, rfl, rfl, rfl, rfl⟩
theorem stF_new {fi : Bool} {i c b k : Int} {w : World} {eb mb : Nat} (he : w.heap[eb]? = some (.cells (EndM.newX fi i c b k mb).cells 103 (0, 0))) (hm : w.heap[mb]? = some (.map #[] 0)) : StF w eb (fun j => j = eb ∨ j = mb) (pNewX fi i c b k) := by
 obtain ⟨e1, e2, e3, e4, e5, e6, e7, e8, e9, e10, e11⟩ := newX_keep fi i c b k mb
 have hnil : ∀ (e : TypeId) (sz : Nat), w.ownsRow 0 e sz (.slice none 0 0) 0 [] := fun e sz => owns_none w e sz
 have hinv : Inv w eb mb (xNew fi i c b k mb).g := by
  constructor
  ·exact ⟨he⟩
  ·exact ⟨⟨#[], 0, hm, rfl, fun e h => by simp at h, by simp⟩, fun p h => by cases h⟩
  ·exact e1
  ·exact List.nodup_nil
  ·exact List.nodup_nil
  ·exact List.nodup_nil
  ·exact fun n h => by cases h
  ·show w.ownsRow 0 _ 1 (EndM.newX fi i c b k mb).opn _ _
   rw [e2]; exact hnil _ _
  ·show w.ownsRow 0 _ 1 (EndM.newX fi i c b k mb).out _ _
   rw [e4]; exact hnil _ _
  ·show w.ownsRow 0 _ 1 (EndM.newX fi i c b k mb).got _ _
   rw [e3]; exact hnil _ _
  ·exact fun p h => by cases h
  ·exact fun p h => by cases h
  ·show RowAt w _ 4 (EndM.newX fi i c b k mb).answers _ _
   rw [e5]; exact rowAt_nil _ _ _
  ·exact fun p h => by cases h
  ·show RowAt w _ 1 (EndM.newX fi i c b k mb).resets _ _
   rw [e6]; exact rowAt_nil _ _ _
  ·refine ⟨fun _ => 0, ?_⟩
   constructor
   ·intro j hj
    rfl
   ·intro j hj
    have hj : (EndM.newX fi i c b k mb).got.ownBlock = some j := hj
    rw [e3] at hj; cases hj
   ·intro p hp; cases hp
   ·intro p hp; cases hp
   ·intro p hp; cases hp
 have hft : ∀ j, Foot eb mb (xNew fi i c b k mb).g j ↔ j = eb ∨ j = mb := fun j => by
  unfold Foot
  show (j = eb ∨ j = mb ∨ (EndM.newX fi i c b k mb).out.ownBlock = some j ∨ (EndM.newX fi i c b k mb).got.ownBlock = some j ∨ (EndM.newX fi i c b k mb).opn.ownBlock = some j ∨ (EndM.newX fi i c b k mb).answers.ownBlock = some j ∨ (EndM.newX fi i c b k mb).resets.ownBlock = some j ∨ _ ∨ _) ↔ _
  rw [e2, e3, e4, e5, e6]
  simp [xNew, Value.ownBlock]
 have hbk : ∀ j, ¬ (xNew fi i c b k mb).blk j := fun j hj => by
  rcases hj with e | e | ⟨s, hs, -⟩
  ·have e : (EndM.newX fi i c b k mb).utab.ownBlock = some j := e
   rw [e7] at e; cases e
  ·have e : (EndM.newX fi i c b k mb).bbytes.ownBlock = some j := e
   rw [e8] at e; cases e
  ·cases hs
 refine ⟨mb, xNew fi i c b k mb, ⟨hinv, e9, e10, e11, by show 128 ≤ 256; omega, ?_, by show szT [] ≤ 128; simp [szT], by show 128 ≤ 256; omega, ?_, by show ([] : List UInt8).length ≤ 700; simp, fun s hs => (by cases hs), fun j hj => absurd hj (hbk j), fun s hs => (by cases hs)⟩, RdOk.nil rfl, ?_, fun j => ?_⟩
 ·show w.ownsRow 0 _ 2 (EndM.newX fi i c b k mb).utab _ _
  rw [e7]; exact hnil _ _
 ·show w.ownsRow 0 _ 1 (EndM.newX fi i c b k mb).bbytes _ _
  rw [e8]; exact hnil _ _
 ·cases fi <;> rfl
 ·unfold FootX
  rw [hft]
  exact ⟨fun e => Or.inl e, fun e => e.elim id (fun a => absurd a (hbk j))⟩
theorem ok_new {fi : Bool} {i c b k : Int} (h : CfgOk i c b k) : OkG (pNewX fi i c b k).g := by
 obtain ⟨h1, h2, h3, h4, h5, h6, h7, h8⟩ := h
 have hG : GoodG (xNew fi i c b k 0).g := by
  have hm : GoodM (EndM.newX fi i c b k 0) := by
   cases fi <;> (constructor <;> simp [EndM.newX, EndM.newR] <;> omega)
  refine ⟨hm, ?_, by simp [xNew, Rise], by simp [xNew], by simp [xNew, GEnd.there], fun hb => ?_, by simp [xNew], fun s hs => (by cases hs), fun n hn => (by cases hn), fun a ha => (by cases ha), by simp [xNew], fun n hn => (by cases hn)⟩
  ·cases fi <;> (simp [xNew, EndM.newX, EndM.newR, sumU] <;> omega)
  ·exfalso
   apply hb
   cases fi <;> rfl
 have hC : CalmG (xNew fi i c b k 0).g := by
  refine ⟨fun s hs => (by cases hs), rfl, fun _ => ⟨rfl, by cases fi <;> rfl⟩, fun s hs => (by cases hs), by cases fi <;> rfl, rfl, ?_⟩
  cases fi
  ·exact ⟨by show (1 : Int) ≤ 2; omega, by show (2 : Int) ≤ 2; omega, rfl⟩
  ·exact ⟨by show (1 : Int) ≤ 1; omega, by show (1 : Int) ≤ 2; omega, rfl⟩
 exact OkG.crude.2 ⟨hG, hC⟩
theorem sound_new {fi : Bool} {i c b k : Int} (h : CfgOk i c b k) : SoundX (pNewX fi i c b k) := fun _ => ok_new h
theorem bare_new (fi : Bool) (i c b k : Int) : (pNewX fi i c b k).bare = pNewX fi i c b k := gbare_bare _
set_option maxHeartbeats 1600000 in
theorem newEnd_any (fi : Bool) (i c b k : Int) (w : World) (h : CfgOk i c b k) : Calls Tryz.prog 12 #[.bool fi, .agg #[.int .i64 i, .int .i64 c, .int .i64 b, .int .i64 k]] w fun e w' => ∃ eb F, e = .returned (.tuple #[.pointer (some ⟨eb, 0, none⟩), .int .i64 0]) ∧ StF w' eb F (pNewX fi i c b k) ∧ Below w.heap.size w w' ∧ ∀ j, F j → w.heap.size ≤ j := by
 obtain ⟨w0, hw0⟩ : ∃ w0, w0 = w.alloc (.cells #[.int .i64 i, .int .i64 c, .int .i64 b, .int .i64 k] 23) := ⟨_, rfl⟩
 have hcf : w0.heap[w.heap.size]? = some (.cells #[.int .i64 i, .int .i64 c, .int .i64 b, .int .i64 k] 23 (0, 0)) := by rw [hw0]; exact heap_alloc_new w _
 have HB : Hid (Below w.heap.size w w0) := by rw [hw0]; exact (Below.refl _ _).alloc (Nat.le_refl _) _
 obtain ⟨y0, y1, y2, y3⟩ := cfgs' hcf
 have HCF := hide hcf
 have HF := hide (fun w => cfgFits_ok i c b k w h)
 have HN := hide (fun w => eNew_any fi i c b k w ⟨h.c0, h.c1⟩)
 clear hcf h
 have HW0 := hide hw0
 clear hw0
 go_enter Tryz.func12, Tryz.ntmps12
 go_upto_region 1 with fail
 rw [← HW0.out]
 go_wp2_with fail
 refine (HF.out _).mono ?_
 rintro e w1 ⟨rfl, hb1⟩
 have hcf1 : w1.heap[w.heap.size]? = some (.cells #[.int .i64 i, .int .i64 c, .int .i64 b, .int .i64 k] 23 (0, 0)) := kept_told HCF.out hb1
 obtain ⟨z0, z1, z2, z3⟩ := cfgs' hcf1
 have HB1 : Hid (Below w.heap.size w w1) := HB.out.trans (hb1.mono HB.out.size)
 clear hb1 hcf1
 go_wp2_with fail
 refine (HN.out _).mono ?_
 rintro e w2 ⟨mb, rfl, hm1, hm2, hb2⟩
 have HM1 : Hid (w.heap.size ≤ mb) := Nat.le_trans HB1.out.size hm1
 have HM2 := hide hm2
 have HB2 : Hid (Below w.heap.size w w2) := HB1.out.trans (hb2.mono HB1.out.size)
 clear hb2 hm1 hm2
 obtain ⟨CC, hCC⟩ : ∃ CC, CC = EndM.newX fi i c b k mb := ⟨_, rfl⟩
 rw [← hCC]
 have HCC := hide hCC
 clear hCC
 obtain ⟨q0, q1, q2, q3, q4, q5, q6, q7, q8, q9, q10, q11, q12, q13, q14, q15, q16, q17, q18, q19, q20, q21, q22, q23, q24, q25, q26, q27, q28, q29, q30, q31, q32, q33, q34, q35, q36, q37, q38, q39, q40, q41, q42, q43, q44, q45, q46, q47, q48, q49⟩ := CC
 simp only [EndM.cells]
 go_wp2_with fail
 refine bodyPost_ret (v := .tuple #[.pointer (some ⟨w2.heap.size, 0, none⟩), .int .i64 0]) ?_ rfl ⟨w2.heap.size, _, rfl, stF_new (mb := mb) (by rw [← HCC.out]; exact heap_alloc_new w2 _) (cfg_alloc HM2.out), below_al HB2.out, ?_⟩
 ·simp [results, Tryz.results12, go_sem]
 ·rintro j (rfl | rfl)
  ·exact HB2.out.size
  ·exact HM1.out
end
section
theorem rdPairs_len : ∀ (f : Nat) (acc tab : List HP) (lim : Nat) (r : List UInt8) (hs tab' : List HP), rdPairs f acc tab lim r = some (hs, tab') → hs.length ≤ acc.length + f
 | 0, _, _, _, _, _, _, h => by simp [rdPairs] at h
 | f + 1, acc, tab, lim, [], hs, tab', h => by
  simp [rdPairs] at h
  rw [← h.1]; omega
 | f + 1, acc, tab, lim, c :: r, hs, tab', h => by
  rw [rdPairs] at h
  split at h
  ·cases h
  ·split at h
   ·have := rdPairs_len f _ _ _ _ _ _ h
    simp at this
    omega
   ·cases h
theorem unpack_len {u : Up} {b : List UInt8} {hs : List HP} {lim : Nat} {tab : List HP} (h : u.unpack b = some (hs, lim, tab)) : hs.length ≤ 9 := by
 unfold Up.unpack at h
 split at h
 ·cases h
 ·split at h
  ·cases h
  ·rename_i hx
   simp only [Option.some.injEq, Prod.mk.injEq] at h
   have := rdPairs_len _ _ _ _ _ _ _ hx
   rw [h.1] at this
   simpa using this
theorem more_got {g : List UInt8} {c : UInt8} {l : List UInt8} (hg : Got g) (h : step g c = .more l) : Got l := by
 unfold step at h
 simp only at h
 have hl : (g ++ [c]).length = g.length + 1 := by simp
 split at h
 ·cases h
 rename_i h1
 split at h
 ·rename_i h2
  simp only [Sum.inl.injEq] at h
  subst h
  intro h6
  by_cases e : (g ++ [c]).length = 6
  ·refine ⟨?_, by omega⟩
   by_cases e2 : (hdOf (g ++ [c])).code = 0
   ·exact e2
   ·exact absurd ⟨e, e2⟩ h1
  ·have h7 : 6 ≤ g.length := by omega
   obtain ⟨a1, a2⟩ := hg h7
   refine ⟨by rw [hdOf_append h7]; exact a1, by omega⟩
 split at h
 ·cases h
 ·cases h
theorem counted_fault (m : EndM) (n : Int) : (m.counted n).fault = m.fault := by
 unfold EndM.counted
 split
 ·rfl
 ·split <;> rfl
theorem answd_fault (m : EndM) (n : Nat) : (m.answd n).fault = m.fault := by
 unfold EndM.answd
 split
 ·split
  ·split <;> rfl
  ·rfl
 ·rfl
def HsOk (X : GX) : Prop := ∀ n, (X.hs n).length ≤ 9
theorem come_more {X Y : GX} {f : Fr} (hh : HsOk X) (hr : X.come f = .inl Y) : (Y.g.m.fault = X.g.m.fault ∨ Y = X.begin.died 7) ∧ HsOk Y := by
 unfold GX.come at hr
 by_cases ht : X.g.m.turn (decide (f.kind = 3) && !hasB f.flags 1) (if f.kind = 7 then f.stream else 0) = false
 ·rw [if_pos ht] at hr; cases hr
 rw [if_neg ht] at hr
 have piece : ∀ {n bl l0 l la}, X.begin.comePiece n bl l0 l la = .inl Y → (Y.g.m.fault = X.g.m.fault ∨ Y = X.begin.died 7) ∧ HsOk Y := fun {n bl l0 l la} hr => by
  unfold GX.comePiece at hr
  split at hr
  ·cases hr
  split at hr
  ·simp only [Sum.inl.injEq] at hr
   subst hr
   exact ⟨Or.inl rfl, hh⟩
  ·cases hu : (Up.mk X.begin.ul X.begin.ut X.begin.um).unpack (l0 ++ l) with
   | none => rw [hu] at hr; cases hr
   | some r =>
    obtain ⟨hs, lim, tab⟩ := r
    rw [hu] at hr
    simp only [Sum.inl.injEq] at hr
    subst hr
    refine ⟨Or.inl rfl, fun k => ?_⟩
    show (if k = n then hs else X.hs k).length ≤ 9
    split
    ·exact unpack_len hu
    ·exact hh k
 by_cases k0 : f.kind = 0
 ·rw [if_pos k0] at hr
  unfold GX.comeData at hr
  cases ht : X.begin.g.told? f.stream with
  | none => rw [ht] at hr; cases hr
  | some s =>
   rw [ht] at hr
   simp only at hr
   repeat' split at hr
   all_goals first
    | (cases hr; done)
    | (simp only [Sum.inl.injEq] at hr; subst hr; exact ⟨Or.inl (counted_fault _ _), hh⟩)
 rw [if_neg k0] at hr
 by_cases k1 : f.kind = 1
 ·rw [if_pos k1] at hr
  unfold GX.comeHeaders at hr
  split at hr
  ·cases hr
  ·exact piece hr
 rw [if_neg k1] at hr
 by_cases k2 : f.kind = 2
 ·rw [if_pos k2] at hr
  unfold GX.comeReset at hr
  cases ht : X.begin.g.told? f.stream with
  | none => rw [ht] at hr; cases hr
  | some s =>
   rw [ht] at hr
   simp only at hr
   repeat' split at hr
   all_goals (simp only [Sum.inl.injEq] at hr; subst hr; exact ⟨Or.inl rfl, hh⟩)
 rw [if_neg k2] at hr
 by_cases k3 : f.kind = 3
 ·rw [if_pos k3] at hr
  unfold GX.comeSettings at hr
  repeat' split at hr
  all_goals first
   | (cases hr; done)
   | (simp only [Sum.inl.injEq] at hr; subst hr; exact ⟨Or.inl rfl, hh⟩)
 rw [if_neg k3] at hr
 by_cases k4 : f.kind = 4
 ·rw [if_pos k4] at hr
  unfold GX.comePing at hr
  split at hr
  ·simp only [Sum.inl.injEq] at hr
   subst hr
   exact ⟨Or.inl (answd_fault _ _), hh⟩
  split at hr
  ·cases hr
  ·simp only [Sum.inl.injEq] at hr
   subst hr
   exact ⟨Or.inl rfl, hh⟩
 rw [if_neg k4] at hr
 by_cases k5 : f.kind = 5
 ·rw [if_pos k5] at hr
  simp only [Sum.inl.injEq] at hr
  subst hr
  exact ⟨Or.inr rfl, hh⟩
 rw [if_neg k5] at hr
 by_cases k6 : f.kind = 6
 ·rw [if_pos k6] at hr
  unfold GX.comeCredit at hr
  split at hr
  ·split at hr
   ·cases hr
   simp only [Sum.inl.injEq] at hr
   subst hr
   exact ⟨Or.inl rfl, hh⟩
  ·cases ht : X.begin.g.told? f.stream with
   | none => rw [ht] at hr; cases hr
   | some s =>
    rw [ht] at hr
    simp only at hr
    repeat' split at hr
    all_goals first
     | (cases hr; done)
     | (simp only [Sum.inl.injEq] at hr; subst hr; exact ⟨Or.inl rfl, hh⟩)
 rw [if_neg k6] at hr
 by_cases k7 : f.kind = 7
 ·rw [if_pos k7] at hr
  exact piece hr
 ·rw [if_neg k7] at hr
  simp only [Sum.inl.injEq] at hr
  subst hr
  exact ⟨Or.inl rfl, hh⟩
structure WellX (X : GX) : Prop where
 ok : SoundX X
 meek : MeekG X.g
 hs : HsOk X
 got : Got X.g.got
theorem well_fed1 {X : GX} (h : WellX X) (c : UInt8) : WellX (X.fed1 c) := by
 unfold GX.fed1
 by_cases hf : X.g.m.fault = 0
 ·rw [if_pos hf]
  have ho := h.ok hf
  cases hb : X.byte c with
  | inr code =>
   have hc := byte_code hb
   refine ⟨fun e => ?_, meek_died h.meek (by omega), h.hs, got_nil⟩
   have e : code = 0 := e
   omega
  | inl Y =>
   have hY := ok_byte ho h.got hb
   have hb2 := hb
   unfold GX.byte at hb
   split at hb
   ·split at hb
    ·simp only [Sum.inl.injEq] at hb
     subst hb
     have ho2 : OkG _ := hY.elim id (fun e => absurd (show X.g.m.fault = 0 from hf) e)
     exact ⟨fun _ => ho2, meek_ok ho2, h.hs, h.got⟩
    ·cases hb
   ·cases hs : step X.g.got c with
    | inr code => rw [hs] at hb; cases hb
    | inl x =>
     cases x with
     | inl l =>
      rw [hs] at hb
      simp only [Sum.inl.injEq] at hb
      subst hb
      have ho2 : OkG _ := hY.elim id (fun e => absurd (show X.g.m.fault = 0 from hf) e)
      exact ⟨fun _ => ho2, meek_ok ho2, h.hs, more_got h.got hs⟩
     | inr f =>
      rw [hs] at hb
      have hg : Y.g.got = [] := come_got (X := X.to { X.g with got := [] }) rfl hb
      obtain ⟨h1, h2⟩ := come_more (X := X.to { X.g with got := [] }) h.hs hb
      rcases h1 with h1 | h1
      ·have hf2 : Y.g.m.fault = 0 := h1.trans hf
       have ho2 : OkG Y.g := hY.elim id (fun e => absurd hf2 e)
       exact ⟨fun _ => ho2, meek_ok ho2, h2, by rw [hg]; exact got_nil⟩
      ·refine ⟨fun e => ?_, ?_, h2, by rw [hg]; exact got_nil⟩
       ·rw [h1] at e
        have e : (7 : Int) = 0 := e
        omega
       ·rw [h1]
        have hm := h.meek
        have hmb : MeekG (X.to { X.g with got := [] }).begin.g := ⟨hm.fault, hm.told, hm.out, hm.wanted, hm.pnum, hm.own, hm.other, hm.receive, hm.owed, hm.sum, hm.nn, hm.st, hm.calm, hm.cls, hm.few, hm.ans, hm.alen, hm.res⟩
        exact meek_died hmb (by omega)
 ·rw [if_neg hf]
  exact h
theorem well_fed {X : GX} (h : WellX X) : ∀ l : List UInt8, WellX (X.fed l) := by
 intro l
 induction l generalizing X with
 | nil => exact h
 | cons c r ih => exact ih (well_fed1 h c)
end
section
set_option maxHeartbeats 400000 in
theorem indexFunc_nil (f : Value) (w : World) : Calls Tryz.prog 106 #[.slice none 0 0, f] w fun e w' => e = .returned (.int .i64 (-1)) ∧ w' = w := by
 go_enter Tryz.func106, Tryz.ntmps106
 go_wp2
 refine wp_loop_rounds 1 ?_
 rw [rounds_succ]
 go_wp2
 go_ret
 exact ⟨rfl, rfl⟩
set_option maxHeartbeats 400000 in
theorem containsFunc_nil (f : Value) (w : World) : Calls Tryz.prog 74 #[.slice none 0 0, f] w fun e w' => e = .returned (.bool false) ∧ w' = w := by
 have HC := hide (indexFunc_nil f w)
 go_enter Tryz.func74, Tryz.ntmps74
 go_wp2_with fail
 refine HC.out.mono ?_
 rintro e w1 ⟨rfl, hw1⟩
 rw [hw1]
 clear hw1 w1
 go_wp2
 go_ret
 exact ⟨rfl, rfl⟩
set_option maxHeartbeats 400000 in
theorem isList_nil (w : World) : Calls Tryz.prog 59 #[.slice none 0 0] w fun e w' => e = .returned (.bool true) ∧ w' = w := by
 have HC := hide (fun f => containsFunc_nil f w)
 go_enter Tryz.func59, Tryz.ntmps59
 go_wp2_with fail
 refine (HC.out _).mono ?_
 rintro e w1 ⟨rfl, hw1⟩
 rw [hw1]
 clear hw1 w1
 go_wp2
 go_ret
 exact ⟨rfl, rfl⟩
set_option maxRecDepth 100000 in
set_option maxHeartbeats 400000 in
theorem copyOf_nil (w : World) : Calls Tryz.prog 61 #[.slice none 0 0] w fun e w' => (∃ a, e = .returned (.slice (some a) 0 0)) ∧ Below w.heap.size w w' := by
 obtain ⟨i0, hi, hz0, hz1, hz2⟩ := info_parts Tryz.info130
 obtain ⟨M, hM⟩ : ∃ M, M = madeCells (Value.agg #[.string ⟨#[]⟩, .string ⟨#[]⟩]).cells (((0 : Nat) : Int).toNat * i0.size) := ⟨_, rfl⟩
 have hmk : ∀ W : World, (Instr.makeSlice 88 (.int .i64 0) (.int .i64 0)).run Tryz.prog W = .ok (.slice (some ⟨W.heap.size, 0, none⟩) 0 0) (W.alloc (.cells M 130)) := fun W => by
  have h := run_make (P := Tryz.prog) W 88 130 i0 (.agg #[.string ⟨#[]⟩, .string ⟨#[]⟩]) Tryz.underlying88 hi hz0 .i64 .i64 ((0 : Nat) : Int) ((0 : Nat) : Int) (by omega) (by omega) (by rw [hz2]; decide) (by decide)
  rw [← hM] at h
  simpa using h
 clear hM
 go_enter Tryz.func61, Tryz.ntmps61
 go_wp2
 refine wp_loop_rounds 1 ?_
 rw [rounds_succ]
 go_wp2
 go_ret
 exact ⟨⟨_, rfl⟩, (Below.refl _ _).alloc (Nat.le_refl _) _⟩
def StM.mine (n : Int) (hv : Value) : StM := ⟨0, 0, 0, n, hv, false, false, false, false, false, 0, .slice none 0 0, .slice none 0 0⟩
def GEnd.opens (g : GEnd) (hv : Value) : GEnd := { g with m := { g.m with next := g.m.next + 2 }, K := g.K ++ [⟨0, StM.mine g.m.next hv, [], []⟩], L := insL g.m.next g.L }
set_option maxRecDepth 100000 in
set_option maxHeartbeats 3200000 in
theorem eOpen_ok (eb mb : Nat) (g : GEnd) (w : World) (h : Inv w eb mb g) (hl : g.m.fault = 0) (hm : (g.L.countP fun k => g.m.opensN k) < 4) (hnx : 0 ≤ g.m.next ∧ g.m.next ≤ 32767) (hn : ∀ x ∈ g.K, x.st.number ≠ g.m.next) (hup : Rise g.L) (hL : g.L.length ≤ 11) :
  Calls Tryz.prog 40 #[.pointer (some ⟨eb, 0, none⟩), .slice none 0 0, .bool false] w fun e w' => e = .returned (.tuple #[.int .i64 g.m.next, .int .i64 0]) ∧ ∃ a g', g'.bare = (g.opens (.slice (some a) 0 0)).bare ∧ Next w w' eb mb g g' := by
 have HD := hide (isDead_any eb g.m w h.en)
 have hb : (g.m.fault == 0) = true := by simp [hl]
 rw [hb] at HD
 have HI := hide (isList_nil w)
 have HH := hide (openHere_any eb g.m (openS g.K g.L) w h.en h.open (by rw [openS_length]; omega))
 have HCO := hide (fun wx => copyOf_nil wx)
 rw [← h.here] at hm
 have c44 := h.en.c44
 have hlt := h.en.lt
 have H := hide h
 generalize g.m.hereN (openS g.K g.L) = c at *
 clear h hb
 go_enter Tryz.func40, Tryz.ntmps40
 go_wp2_with fail
 refine HD.out.mono ?_
 rintro e w1 ⟨rfl, hw1⟩
 rw [hw1]
 clear hw1 w1
 go_wp2_with fail
 refine HI.out.mono ?_
 rintro e w1 ⟨rfl, hw1⟩
 rw [hw1]
 clear hw1 w1
 go_wp2_with fail
 refine HH.out.mono ?_
 rintro e w1 ⟨rfl, hw1⟩
 rw [hw1]
 clear hw1 w1
 go_upto_region 7 with fail
 go_cut [8] (fun s8 wx => ∃ sb a, s8 = .pointer (some ⟨sb, 0, none⟩) ∧ w.heap.size ≤ sb ∧ StB wx sb (StM.mine g.m.next (.slice (some a) 0 0)) ∧ Below w.heap.size w wx)
 case first =>
  go_region_held3 (fun w' => w'.cell? ⟨eb, 44, none⟩ = some (.int .i64 g.m.next)) (go_keep)
   (first | (go_at_call 61; refine (HCO.out _).mono ?_; rintro e w3 ⟨⟨a, rfl⟩, hb3⟩; have hbx : Below w.heap.size w w3 := ⟨hb3.os, hb3.tape, hb3.output, hb3.size, hb3.block⟩; have t1 : w3.cell? ⟨eb, 44, none⟩ = some (.int .i64 g.m.next) := (by rw [Below.cell hbx (p := ⟨eb, 44, none⟩) hlt]; exact c44)))
  all_goals (go_wp2_with fail; go_meet; exact ⟨w3.heap.size, a, rfl, hbx.size, ⟨heap_alloc_new w3 _⟩, hbx.alloc hbx.size _⟩)
 case rest =>
  obtain ⟨sb, a, hs8, hsb, hst, hbc⟩ := hcut
  subst hs8
  obtain ⟨w2, hw2⟩ : ∃ w2, w2 = wc := ⟨wc, rfl⟩
  rw [← hw2] at hst hbc ⊢
  clear hw2
  have hI2 := H.out.below hbc
  have d44 := hI2.en.c44
  have f44 := hI2.en.fr 44
  have hwr : IntKind.i64.wrap (g.m.next + 2) = g.m.next + 2 := by rw [IntKind.wrap_i64]; omega
  obtain ⟨w3, hw3⟩ : ∃ w3, w3 = w2.setCell ⟨eb, 44, none⟩ (.int .i64 (g.m.next + 2)) := ⟨_, rfl⟩
  have hc3 : Chg (fun j => j = eb) w2 w3 := by rw [hw3]; exact chg_set (Chg.refl _ _) rfl
  have hn3 := hI2.onM (m' := { g.m with next := g.m.next + 2 }) hc3 ⟨by rw [hw3]; exact (blk_set hI2.en.blk).trans (by simp [EndM.cells])⟩ rfl rfl rfl rfl rfl rfl
  have hst3 : StB w3 sb (StM.mine g.m.next (.slice (some a) 0 0)) := hst.chg hc3 (by omega)
  have hN3 := hn3.pre hbc
  have hIx := hN3.inv
  have HADD : Hid (Calls Tryz.prog 62 #[.pointer (some ⟨eb, 22, none⟩), .pointer (some ⟨sb, 0, none⟩)] w3 fun e w' => e = .returned (.tuple #[]) ∧ w'.cell? ⟨sb, 3, none⟩ = some (.int .i64 g.m.next) ∧ ∃ a g', g'.bare = (g.opens (.slice (some a) 0 0)).bare ∧ Next w w' eb mb g g') := by
   refine (sadd_any eb mb sb _ (g.K.map GSt.str) (openS g.K g.L) (StM.mine g.m.next (.slice (some a) 0 0)) w3 hIx.en hIx.km hIx.kn hIx.open hst3 ?_ ?_ (by rw [openS_length]; exact hL)).mono ?_
   ·rw [findK_str]
    rw [List.find?_eq_none.2 fun x hx => by simpa [StM.mine] using hn x hx]
    rfl
   ·have hmap : (openS g.K g.L).map (fun p => p.2.number) = g.L := by
     unfold openS
     rw [List.map_map]
     conv => rhs; rw [← List.map_id g.L]
     apply List.map_congr_left
     intro k hk
     exact (H.out.at hk).2
    rw [hmap]
    exact hup
   ·rintro e w' ⟨rfl, v, hA⟩
    have hN := Inv.added hN3 hsb hst3 (n := g.m.next) rfl rfl rfl (fun hf => by
     have := Foot.lt H.out (show Foot eb mb g sb from hf)
     omega) hn hA
    refine ⟨rfl, (hN.inv.st (p := ⟨sb, StM.mine g.m.next (.slice (some a) 0 0), [], []⟩) (List.mem_append_right _ (List.mem_singleton.2 rfl))).c3, a, _, ?_, hN⟩
    unfold GEnd.opens GEnd.bare
    simp only [GEnd.mk.injEq, true_and, and_true]
    refine ⟨rfl, ?_⟩
    rw [List.map_append, List.map_append]
    rfl
  have HW3 := hide hw3
  clear hI2 hc3 hn3 hst3 hN3 hIx hw3 hbc hst
  go_upto_region 9 with fail
  rw [← HW3.out]
  go_wp2_with fail
  refine HADD.out.mono ?_
  rintro e w4 ⟨rfl, k3, hq⟩
  have HQ := hide hq
  clear hq
  go_wp2
  refine bodyPost_ret (v := .tuple #[.int .i64 g.m.next, .int .i64 0]) ?_ rfl ⟨rfl, HQ.out⟩
  simp [results, Tryz.results40, go_sem]
set_option maxHeartbeats 400000 in
theorem xOpen_of (eb : Nat) (v b : Value) (w : World) {R : Value → Value → World → Prop} (h : Calls Tryz.prog 40 #[.pointer (some ⟨eb, 0, none⟩), v, b] w fun e w' => ∃ a c, e = .returned (.tuple #[a, c]) ∧ R a c w') :
  Calls Tryz.prog 18 #[.pointer (some ⟨eb, 0, none⟩), v, b] w fun e w' => ∃ a c, e = .returned (.tuple #[a, c]) ∧ R a c w' := by
 have HC := hide h
 clear h
 go_enter Tryz.func18, Tryz.ntmps18
 go_wp2_with fail
 refine HC.out.mono ?_
 rintro e w' ⟨a, c, rfl, h⟩
 have H := hide h
 clear h
 go_wp2
 refine bodyPost_ret (v := .tuple #[a, c]) ?_ rfl ⟨a, c, rfl, H.out⟩
 simp [results, Tryz.results18, go_sem]
end
section
set_option maxRecDepth 100000 in
set_option maxHeartbeats 800000 in
theorem kfour_any (n : Nat) (w : World) (hn : n ≤ 4294967295) : Calls Tryz.prog 14 #[.int .i64 n] w fun e w' => e = .returned (.slice (some ⟨w.heap.size, 0, none⟩) 4 4) ∧ BytesIn w' (.slice (some ⟨w.heap.size, 0, none⟩) 4 4) (four4 n) ∧ Below w.heap.size w w' := by
 go_enter Tryz.func14, Tryz.ntmps14
 go_wp2
 go_ret
 have hh : (w.alloc (.cells #[.int .u8 (n / 16777216), .int .u8 (n / 65536 % 256), .int .u8 (n / 256 % 256), .int .u8 (n % 256)] 5)).heap[w.heap.size]? = some (.cells #[.int .u8 (n / 16777216), .int .u8 (n / 65536 % 256), .int .u8 (n / 256 % 256), .int .u8 (n % 256)] 5 (0, 0)) := heap_alloc_new w _
 refine ⟨rfl, Or.inr ⟨w.heap.size, 0, 4, rfl, lt_of_block hh, Nat.le_refl _, fun i hi => ?_⟩, (Below.refl _ _).alloc (Nat.le_refl _) _⟩
 rw [cell_of_row _ _ _ _ _ _ hh]
 have hi' : i < 4 := hi
 have e0 : (n / 16777216 : Nat) % 256 = n / 16777216 := Nat.mod_eq_of_lt (by omega)
 match i, hi' with
 | 0, _ => simp [four4, UInt8.toNat_ofNat', e0]
 | 1, _ => simp [four4, UInt8.toNat_ofNat']
 | 2, _ => simp [four4, UInt8.toNat_ofNat']
 | 3, _ => simp [four4, UInt8.toNat_ofNat']
set_option maxRecDepth 100000 in
set_option maxHeartbeats 1600000 in
theorem klay_any (k f s : Int) (sa : Option Addr) (body : List UInt8) (cap : Nat) (w : World) (hk0 : 0 ≤ k) (hk1 : k ≤ 255) (hf0 : 0 ≤ f) (hf1 : f ≤ 255) (hs0 : 0 ≤ s) (hs1 : s ≤ 32767) (hn : body.length ≤ 64) (hb : BytesIn w (.slice sa body.length cap) body) :
  Calls Tryz.prog 13 #[.int .i64 k, .int .i64 f, .int .i64 s, .slice sa body.length cap] w fun e w' => ∃ v, e = .returned v ∧ w'.ownsRow w.heap.size 5 1 v (lay k f s body).length ((lay k f s body).map B) ∧ Below w.heap.size w w' := by
 obtain ⟨i0, hi, hz0, hz1, hz2⟩ := info_parts Tryz.info5
 have HB := hide hb
 clear hb
 go_enter Tryz.func13, Tryz.ntmps13
 have hrow : (w.alloc (.cells #[.int .u8 ((body.length : Int) / 256), .int .u8 (body.length : Int), .int .u8 k, .int .u8 f, .int .u8 (s / 256), .int .u8 (s % 256)] 5)).ownsRow 0 5 1 (.slice (some ⟨w.heap.size, 0, none⟩) 6 6) 6 [.int .u8 ((body.length : Int) / 256), .int .u8 (body.length : Int), .int .u8 k, .int .u8 f, .int .u8 (s / 256), .int .u8 (s % 256)] := ⟨rfl, Or.inr ⟨w.heap.size, 6, _, rfl, Nat.zero_le _, heap_alloc_new w _, Nat.le_refl _, by decide, rfl, rfl⟩⟩
 have hlb : Lies (w.alloc (.cells #[.int .u8 ((body.length : Int) / 256), .int .u8 (body.length : Int), .int .u8 k, .int .u8 f, .int .u8 (s / 256), .int .u8 (s % 256)] 5)) (.slice sa body.length cap) body.length (body.map B) := lies_of_bytesIn (HB.out.chg (Chg.of_below (S := fun _ => False) ((Below.refl _ _).alloc (Nat.le_refl _) _)) (fun _ _ => id))
 have HROW := hide hrow
 have HLB := hide hlb
 clear hrow hlb
 go_wp2_with (at_builtin; refine wpList_app _ rfl (.tmp 28) (.tmp 29) 44 rfl 5 i0 (.int .u8 0) 1 1 Tryz.underlying44 hi hz0 hz1 hz2 rfl (by decide) _ 6 _ rfl HROW.out _ body.length (body.map B) rfl ?c1 HLB.out ?c3 ?c4 ?c5 ?_)
 case c1 => simp
 case c3 => intro u hu; obtain ⟨x, -, rfl⟩ := List.mem_map.1 hu; rfl
 case c4 => unfold maxLen; omega
 case c5 => omega
 intro v2 w2 hown2 hg2 hfr2
 obtain ⟨s2, c2, rfl⟩ := slice_len hown2
 have hb2 : Below w.heap.size w w2 := below_of_chg ((Below.refl _ _).alloc (Nat.le_refl _) _) (Chg.of_grown (S := fun j => j = w.heap.size) hg2 (fun j hj => by simp [Value.ownBlock] at hj; exact hj.symm)) (fun j e => by rw [e]; exact Nat.le_refl _)
 have hown3 := owns_base (base' := w.heap.size) hown2 (fun j hj => by
  rcases hfr2 with e | e
  ·rw [e] at hj; simp [Value.ownBlock] at hj; omega
  ·rw [e] at hj; simp at hj; omega)
 have HO := hide hown3
 have HB2 := hide hb2
 clear hown2 hg2 hfr2 hb2 hown3
 go_wp2
 go_ret
 refine ⟨_, rfl, ?_, HB2.out⟩
 have e1 : (lay k f s body).length = 6 + body.length := by simp [lay]; omega
 rw [e1]
 have e2 : (lay k f s body).map B = [.int .u8 ((body.length : Int) / 256), .int .u8 (body.length : Int), .int .u8 k, .int .u8 f, .int .u8 (s / 256), .int .u8 (s % 256)] ++ body.map B := by
  unfold lay
  rw [List.map_append]
  simp only [List.map_cons, List.map_nil]
  rw [B_ofI (by omega) (by omega), B_ofI (by omega) (by omega), B_ofI hk0 hk1, B_ofI hf0 hf1, B_ofI (by omega) (by omega), B_ofI (by omega) (by omega)]
 rw [e2]
 exact HO.out
end
section
theorem run_app_grow (w : World) (t ty : TypeId) (i : TypeInfo) (ht : Tryz.prog.underlying t = some (.slice 5)) (hi : Tryz.prog.info? 5 = some i) (hz : i.zero = some (.int .u8 0)) (hs : i.size = 1) (hby : i.bytes = 1)
  (b : Addr) (n cap : Nat) (xs : List Value) (hl : xs.length = n) (holds : ∀ j v, xs[j]? = some v → w.cell? (b.add j) = some v)
  (a : Addr) (m c : Nat) (news : List Value) (hm : news.length = m) (hnews : ∀ j v, news[j]? = some v → w.cell? (a.add j) = some v) (hg : cap < n + m) (h63 : n + m ≤ 1073741824) :
  ∃ v' w', (Builtin.append_ #[t, t] ty #[.slice (some b) n cap, .slice (some a) m c]).run Tryz.prog w = .ok v' w' ∧ w'.ownsRow w.heap.size 5 1 v' (n + m) (xs ++ news) ∧ Below w.heap.size w w' := by
 have h := run_append_grow (P := Tryz.prog) (w := w) t ty 5 i (.int .u8 0) ht hi hz b n cap xs (by rw [hs, hl, Nat.mul_one]) holds a m c news (by rw [hs, hm, Nat.mul_one]) hnews hg (by omega) (growslice_fits (by omega) (by rw [hby]; omega))
 refine ⟨_, _, h, ?_, ?_⟩
 ·have hge := grownCap_ge w (n + m) cap 5
  have hcm : grownCap w (n + m) cap 5 ≤ maxLen := grownCap_le_maxLen w (n + m) cap 5 (by unfold maxLen; omega)
  have hlen : (xs ++ news).length = (n + m) * 1 := by rw [List.length_append, hl, hm, Nat.mul_one]
  refine ⟨hlen, .inr ⟨w.heap.size, _, _, rfl, Nat.le_refl _, heap_alloc_new w.drew _, hge, hcm, ?_, ?_⟩⟩
  ·simp only [Array.size_append, List.size_toArray, size_zeroCells, hl, hm]
   show n + m + (grownCap w (n + m) cap 5 - (n + m)) * 1 = _
   omega
  ·simp only [Array.toList_append, List.append_assoc]
   rw [← List.append_assoc, ← hlen]
   exact List.take_left
 ·have := (Below.refl w.heap.size w).alloc (Nat.le_refl _) (.cells (xs.toArray ++ news.toArray ++ Builtin.zeroCells (Value.int .u8 0).cells (grownCap w (n + m) cap 5 - (n + m))) 5)
  exact ⟨this.os, this.tape, this.output, this.size, this.block⟩
theorem wpList_grow (w : World) {ops : Array Oper} {rest : List Oper} {o : Oper} {a : Act} {Q : Exit → Act → World → Prop} (hgd : o.guard = none) (s y : Operand) (t : TypeId)
  (ho : o.op = .call { callee := .builtin .append, args := #[s, y], argTypes := #[t, t] })
  (i : TypeInfo) (ht : Tryz.prog.underlying t = some (.slice 5)) (hi : Tryz.prog.info? 5 = some i) (hz : i.zero = some (.int .u8 0)) (hs : i.size = 1) (hby : i.bytes = 1)
  (b : Addr) (n cap : Nat) (xs : List Value) (hl : xs.length = n) (hsv : a.eval s = .slice (some b) n cap) (holds : ∀ j v, xs[j]? = some v → w.cell? (b.add j) = some v)
  (ad : Addr) (m c : Nat) (news : List Value) (hm : news.length = m) (hyv : a.eval y = .slice (some ad) m c) (hnews : ∀ j v, news[j]? = some v → w.cell? (ad.add j) = some v) (hg : cap < n + m) (h63 : n + m ≤ 1073741824)
  (hK : ∀ v' w', w'.ownsRow w.heap.size 5 1 v' (n + m) (xs ++ news) → Below w.heap.size w w' → wpList Tryz.prog ops Q rest (a.put o.dst v') w') :
  wpList Tryz.prog ops Q (o :: rest) a w := by
 obtain ⟨v', w', hr, h2, h3⟩ := run_app_grow w t o.type i ht hi hz hs hby b n cap xs hl holds ad m c news hm hnews hg h63
 refine wpList_plain hgd fun K hK' => ?_
 unfold Oper.wp
 simp [execOp, ho, resolve, invoke, builtin, hsv, hyv, hr, Result.andThen]
 exact hK' _ _ (hK v' w' h2 h3)
end
section
set_option maxHeartbeats 400000 in
theorem pick_fun (c n : Int) (w : World) (hn : 0 < n) (hc : -9223372036854775808 ≤ c ∧ c ≤ 9223372036854775807) :
  Calls Tryz.prog 5 #[.int .i64 c, .int .i64 n] w fun e w' => e = .returned (.int .i64 (pkI c n)) ∧ w' = w := by
 obtain ⟨hc1, hc2⟩ := hc
 have hnz : ¬ n = 0 := by omega
 by_cases hneg : c < 0
 ·have e : pkI c n = -(c + 1).tmod n := by unfold pkI; rw [if_pos hneg]
  rw [e]
  clear e
  go_enter Tryz.func5, Tryz.ntmps5
  go_wp2
  go_ret
  exact ⟨rfl, rfl⟩
 ·have e : pkI c n = c % n := by unfold pkI; rw [if_neg hneg]
  rw [e]
  clear e
  go_enter Tryz.func5, Tryz.ntmps5
  go_wp2
  go_ret
  exact ⟨rfl, rfl⟩
set_option maxHeartbeats 400000 in
theorem kflag_any (k f s b : Int) (sa : Option Addr) (n cap : Nat) (w : World) (h0 : 0 ≤ f) (h1 : f < 256) (hb : b = 1 ∨ b = 8) :
  Calls Tryz.prog 45 #[.agg #[.int .i64 k, .int .i64 f, .int .i64 s, .slice sa n cap], .int .i64 b] w fun e w' => e = .returned (.bool (hasB f b)) ∧ Below w.heap.size w w' := by
 rcases hb with rfl | rfl
 all_goals go_enter Tryz.func45, Tryz.ntmps45
 all_goals go_wp2
 all_goals go_ret
 all_goals refine ⟨ret_bool ?_, (Below.refl _ _).alloc (Nat.le_refl _) _⟩
 all_goals simp only [hasB, Int.ediv_one]
 all_goals (rw [Bool.eq_iff_iff]; simp)
set_option maxHeartbeats 800000 in
theorem value_any (g off n cap : Nat) (x0 x1 x2 x3 : UInt8) (w : World) (hn : 4 ≤ n)
  (c0 : w.cell? ⟨g, off, none⟩ = some (.int .u8 x0.toNat)) (c1 : w.cell? ⟨g, off + 1, none⟩ = some (.int .u8 x1.toNat)) (c2 : w.cell? ⟨g, off + 2, none⟩ = some (.int .u8 x2.toNat))
  (c3 : w.cell? ⟨g, off + 3, none⟩ = some (.int .u8 x3.toNat)) :
  Calls Tryz.prog 53 #[.slice (some ⟨g, off, none⟩) n cap] w fun e w' => e = .returned (.int .i64 (be4 x0 x1 x2 x3)) ∧ ∃ k, w' = w.drewN k := by
 have h0 : x0.toNat < 256 := x0.toNat_lt
 have h1 : x1.toNat < 256 := x1.toNat_lt
 have h2 : x2.toNat < 256 := x2.toNat_lt
 have h3 : x3.toNat < 256 := x3.toNat_lt
 go_enter Tryz.func53, Tryz.ntmps53
 go_wp2
 go_quiet (fail)
 go_wp2
 go_ret
 exact ⟨rfl, _, rfl⟩
def fixedL (l : List UInt8) (n : Nat) : List UInt8 := l.take n ++ List.replicate (n - l.length) 0
theorem fixedL_length (l : List UInt8) (n : Nat) : (fixedL l n).length = n := by simp [fixedL]; omega
theorem made_row {w : World} {b g n : Nat} (h : w.ownsRow b 5 1 (.slice (some ⟨g, 0, none⟩) n n) n (madeCells #[Value.int .u8 0] n).toList) :
  w.heap[g]? = some (.cells (List.replicate n (Value.int .u8 0)).toArray 5 (0, 0)) ∧ n ≤ maxLen := by
 rcases h.2 with ⟨h0, _⟩ | ⟨g', cap, cur, h0, _, hgg, hle, hmx, hs, ht⟩
 ·cases h0
 ·simp only [Value.slice.injEq, Option.some.injEq, Addr.mk.injEq, and_true, true_and] at h0
  obtain ⟨rfl, rfl⟩ := h0
  refine ⟨?_, hmx⟩
  rw [hgg]
  have e1 : cur.toList.take (n * 1) = cur.toList := by rw [List.take_of_length_le]; simp; omega
  rw [e1] at ht
  have e2 : cur = (List.replicate n (Value.int .u8 0)).toArray := by
   apply Array.toList_inj.1
   rw [ht]
   simp only [madeCells]
   rw [List.eq_replicate_iff]
   refine ⟨by simp, fun x hx => ?_⟩
   simp at hx
   obtain ⟨a, _, rfl⟩ := hx
   simp [Nat.mod_one]
  rw [e2]
theorem copy_src {w : World} {sa : Option Addr} {l : List UInt8} {cap n : Nat} (h : BytesA w (.slice sa l.length cap) l) (h0 : 0 < ((l.take n).map B).length) :
  ∃ ad, sa = some ad ∧ ∀ j v, ((l.take n).map B)[j]? = some v → w.cell? (ad.add j) = some v := by
 rcases h with (⟨_, rfl⟩ | ⟨bb, off, cap', he, h1, h2, h3⟩) | ⟨_, _, rfl⟩
 ·simp at h0
 rotate_left
 ·simp at h0
 ·simp only [Value.slice.injEq] at he
  obtain ⟨rfl, _, rfl⟩ := he
  refine ⟨_, rfl, fun j v hv => ?_⟩
  have hj := (List.getElem?_eq_some_iff.1 hv).1
  simp at hj
  have hj1 : j < n := by omega
  have hj2 : j < l.length := by omega
  have e : (⟨bb, off, none⟩ : Addr).add j = ⟨bb, off + j, none⟩ := by unfold Addr.add; split <;> simp_all
  rw [e, h3 j (by omega), ← hv]
  simp [hj1, List.getD, hj2]
theorem fixed_row {w : World} {b g n : Nat} {l : List UInt8} (h : w.heap[g]? = some (.cells (splice (List.replicate n (Value.int .u8 0)) 0 ((l.take n).map B)).toArray 5 (0, 0))) (hm : n ≤ maxLen) (hb : b ≤ g) :
  w.ownsRow b 5 1 (.slice (some ⟨g, 0, none⟩) n n) n ((fixedL l n).map B) := by
 have e : splice (List.replicate n (Value.int .u8 0)) 0 ((l.take n).map B) = (fixedL l n).map B := by
  unfold splice fixedL
  simp only [List.take_zero, List.nil_append, Nat.zero_add, List.length_map, List.length_take, List.drop_replicate, List.map_append, List.map_replicate]
  congr 2
  omega
 rw [e] at h
 refine ⟨by simp [fixedL_length], Or.inr ⟨g, n, _, rfl, hb, h, Nat.le_refl _, hm, by simp [fixedL_length], ?_⟩⟩
 rw [List.take_of_length_le (by simp [fixedL_length])]
set_option maxHeartbeats 800000 in
theorem fixed_any (sa : Option Addr) (l : List UInt8) (cap n : Nat) (w : World) (hn : n ≤ 64) (hb : BytesA w (.slice sa l.length cap) l) :
  Calls Tryz.prog 52 #[.slice sa l.length cap, .int .i64 n] w fun e w' => ∃ g cap', e = .returned (.slice (some ⟨g, 0, none⟩) n cap') ∧ w'.ownsRow w.heap.size 5 1 (.slice (some ⟨g, 0, none⟩) n cap') n ((fixedL l n).map B) ∧ Below w.heap.size w w' := by
 obtain ⟨i0, hi, hz0, hz1, hz2⟩ := info_parts Tryz.info5
 have hsz : (Tryz.prog.info? 5).map (·.size) = some 1 := by rw [hi]; simp [hz1]
 have HB : Hid (BytesA w (.slice sa l.length cap) l) := hb
 clear hb
 go_enter Tryz.func52, Tryz.ntmps52
 go_wp2_with (at_make; refine wpList_make_full _ rfl _ _ 44 rfl w.heap.size 5 i0 (.int .u8 0) 1 Tryz.underlying44 hi hz0 hz1 _ _ _ _ n rfl rfl ?m1 ?m2 ?m3 ?m4 ?m5 ?_)
 case m1 => rfl
 case m2 => rfl
 case m3 => rw [hz2]; omega
 case m4 => unfold maxLen; omega
 case m5 => simp
 intro w1 hown1 hg1
 have hbel1 : Below w.heap.size w w1 := (Below.refl _ _).grown hg1 (Nat.le_refl _) (fun k h => by cases h)
 obtain ⟨hh, hmx⟩ := made_row hown1
 have hsz1 : w.heap.size < w1.heap.size := lt_of_block hh
 clear hown1
 obtain ⟨X, hX⟩ : ∃ X, X = (l.take n).map B := ⟨_, rfl⟩
 have HX : Hid (X = (l.take n).map B) := hX
 clear hX
 go_wp2_with (refine wpList_copy_splice rfl (.tmp 8) (.tmp 9) 44 44 rfl 5 Tryz.underlying44 hsz (some ⟨w.heap.size, 0, none⟩) sa n n l.length cap rfl rfl w.heap.size 0 (List.replicate n (.int .u8 0)) 5 hh X ?c1 ?c2 ?c3 ?c4 w.heap.size w hbel1 (Nat.le_refl _) ?_)
 case c1 => rw [HX.out, List.length_map, List.length_take]; exact Nat.min_comm _ _
 case c2 =>
  intro h
  rw [HX.out] at h ⊢
  first | exact ⟨rfl, copy_src (HB.out.chg (Chg.of_below (S := fun _ => False) hbel1)) h⟩ | exact copy_src (HB.out.chg (Chg.of_below (S := fun _ => False) hbel1)) h
 case c3 => rw [HX.out]; simp; omega
 case c4 => rw [HX.out]; exact bytes_one _
 intro w2 HG2 hB2
 go_wp2
 go_ret
 have hg2 := HG2.out
 rw [HX.out] at hg2
 exact ⟨w.heap.size, n, rfl, fixed_row hg2 hmx (Nat.le_refl _), hB2⟩
end
section
structure TB (k f : Int) (body : List UInt8) : Prop where
 n : body.length ≤ 64
 ln : lFits body.length k f = true
 bd : bodyCode k f body = 0
def Tamed (w w' : World) (k f : Int) (e : Ending) : Prop := ∃ v body, e = .returned v ∧ w'.ownsRow w.heap.size 5 1 v body.length (body.map B) ∧ TB k f body ∧ Below w.heap.size w w'
theorem bytesIn_cut {w : World} {bb off cap : Nat} {l : List UInt8} (h : BytesA w (.slice (some ⟨bb, off, none⟩) l.length cap) l) (hl : 64 ≤ l.length) : BytesA w (.slice (some ⟨bb, off, none⟩) 64 cap) (l.take 64) := by
 rcases h with (⟨h, _⟩ | ⟨bb', off', cap', he, h1, h2, h3⟩) | ⟨_, _, rfl⟩
 ·cases h
 ·simp only [Value.slice.injEq, Option.some.injEq, Addr.mk.injEq, and_true, true_and] at he
  obtain ⟨⟨rfl, rfl⟩, rfl⟩ := he
  have hlen : (l.take 64).length = 64 := by simp; omega
  refine Or.inl (Or.inr ⟨bb, off, cap, by rw [hlen], h1, by omega, fun i hi => ?_⟩)
  rw [h3 i (by omega)]
  have : (l.take 64).getD i 0 = l.getD i 0 := by
   rw [hlen] at hi
   simp [List.getD, hi]
  rw [this]
 ·simp at hl
theorem bytesIn_addr {w : World} {sa : Option Addr} {cap : Nat} {l : List UInt8} (h : BytesA w (.slice sa l.length cap) l) (hl : 0 < l.length) : ∃ bb off, sa = some ⟨bb, off, none⟩ ∧ l.length ≤ cap ∧ bb < w.heap.size := by
 rcases h with (⟨_, rfl⟩ | ⟨bb, off, cap', he, h1, h2, h3⟩) | ⟨_, _, rfl⟩
 ·simp at hl
 ·simp only [Value.slice.injEq] at he
  exact ⟨bb, off, he.1, by omega, h1⟩
 ·simp at hl
theorem tb_one {k f : Int} {body : List UInt8} (hk : k = 2 ∨ k = 5) (hl : body.length = 1) : TB k f body := by
 refine ⟨by omega, ?_, ?_⟩
 ·rcases hk with rfl | rfl <;> simp [lFits, hl]
 ·rcases hk with rfl | rfl <;> simp [bodyCode]
theorem tb_four {f : Int} {body : List UInt8} (hl : body.length = 4) : TB 4 f body := ⟨by omega, by simp [lFits, hl], by simp [bodyCode]⟩
theorem tb_ack {f : Int} (h : hasB f 1 = true) : TB 3 f [] := ⟨by simp, by simp [lFits, h], by simp [bodyCode, h]⟩
theorem tb_bare {f : Int} {body : List UInt8} (hl : body.length ≤ 64) (h : hasB f 8 = false) : TB 0 f body := ⟨hl, by simp [lFits], by simp [bodyCode, h]⟩
theorem tb_else {k f : Int} {body : List UInt8} (hl : body.length ≤ 64) (h : ¬ k = 0 ∧ ¬ k = 2 ∧ ¬ k = 3 ∧ ¬ k = 4 ∧ ¬ k = 5 ∧ ¬ k = 6) : TB k f body := by
 obtain ⟨a, b, c, d, e, g⟩ := h
 exact ⟨hl, by simp [lFits, b, c, d, e, g], by simp [bodyCode, a, c, g]⟩
theorem tb_num {k f : Int} {x0 x1 x2 x3 : UInt8} (hk : (k = 3 ∧ hasB f 1 = false) ∨ k = 6) (h1 : 1 ≤ be4 x0 x1 x2 x3) (h2 : be4 x0 x1 x2 x3 ≤ 2147483647) : TB k f [x0, x1, x2, x3] := by
 refine ⟨by simp, ?_, ?_⟩
 ·rcases hk with ⟨rfl, h⟩ | rfl
  ·simp [lFits, h]
  ·simp [lFits]
 ·rcases hk with ⟨rfl, h⟩ | rfl
  ·simp [bodyCode, h, numCode, num4, nCode]; omega
  ·simp [bodyCode, numCode, num4, nCode]; omega
theorem tb_pad {f : Int} {body : List UInt8} (hl : body.length ≤ 64) (h : hasB f 8 = true) (hp : padCode body = 0) : TB 0 f body := ⟨hl, by simp [lFits], by simp [bodyCode, h, hp]⟩
theorem pad_ok {p : UInt8} {r : List UInt8} (hp : p.toNat ≤ r.length) (h : ∀ j, r.length + 1 - p.toNat ≤ j → j < r.length + 1 → (p :: r).getD j 0 = 0) : padCode (p :: r) = 0 := by
 simp only [padCode]
 rw [if_neg (by omega), if_pos]
 rw [List.all_eq_true]
 intro x hx
 rw [List.mem_drop_iff_getElem] at hx
 obtain ⟨j, hj, rfl⟩ := hx
 simp only [List.length_cons] at hj
 have h1 := h (r.length + 1 - p.toNat + j) (by omega) (by omega)
 rw [getD_lt _ _ _ (by simp; omega)] at h1
 simpa using h1
theorem tb_set {w : World} {base g n cap : Nat} {l : List UInt8} (h : w.ownsRow base 5 1 (.slice (some ⟨g, 0, none⟩) n cap) n (l.map B)) (j : Nat) (c : UInt8) :
  (w.setCell ⟨g, j, none⟩ (B c)).ownsRow base 5 1 (.slice (some ⟨g, 0, none⟩) n cap) n ((l.set j c).map B) := by
 have := h.stored j (B c)
 rw [List.map_set]
 exact this.1
theorem tb_cell {w : World} {base g n cap : Nat} {l : List UInt8} (h : w.ownsRow base 5 1 (.slice (some ⟨g, 0, none⟩) n cap) n (l.map B)) {j : Nat} (hj : j < n) : w.cell? ⟨g, j, none⟩ = some (.int .u8 (l.getD j 0).toNat) := by
 have hl : l.length = n := by have := h.1; simpa using this
 rw [h.cellAt j (by omega)]
 simp [List.getD, hl, hj]
end
end Go.Proofs.YtdccldbefdfppaaGreatDoor
