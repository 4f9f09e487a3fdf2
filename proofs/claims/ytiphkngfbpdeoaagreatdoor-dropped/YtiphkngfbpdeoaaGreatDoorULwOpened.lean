import Derived.Test.YtiphkngfbpdeoaaGreatDoorULwTaken
import Derived.Test.YtiphkngfbpdeoaaGreatDoorUGao
import Derived.Test.YtiphkngfbpdeoaaGreatDoorUGaq
set_option linter.unusedVariables false
set_option linter.unusedSimpArgs false
/-
  The law's own: opened.
-/
namespace Go.Proofs.YtiphkngfbpdeoaaGreatDoor
set_option linter.unusedVariables false
set_option linter.unusedSimpArgs false
open Go.RowKit

theorem feed_openN (i c b k : Int) : ∀ (j : Nat), j < 4 → FeedR (pOpen i c b k j) (lay 1 4 (2 * (j : Int) + 1) []) (pOpen i c b k (j + 1))
  | 0, _ => feed_open0 i c b k
  | 1, _ => feed_open1 i c b k
  | 2, _ => feed_open2 i c b k
  | 3, _ => feed_open3 i c b k
theorem pOpen_fault (i c b k : Int) : ∀ j : Nat, (pOpen i c b k j).m.fault = 0
  | 0 => rfl
  | j + 1 => pOpen_fault i c b k j
/-- The end's own, behind its four streams. -/
def dy0 (c : Int) : Dy := ⟨32, c - 32, 0, false, false, 0, 0, .slice none 0 0⟩
theorem dy0_b (c : Int) : DyB (dy0 c) 0 32 (c - 32) := ⟨rfl, rfl, Nat.le_refl _, by show (0 : Int) ≤ 0 ∧ (0 : Int) ≤ 2147483647; omega⟩
theorem dy0_made (c : Int) (h : 32 ≤ c) : DyB (dy0 c).made 0 c 0 := by
  have := (dy0_b c).made (by omega)
  rw [show 32 + (c - 32) = c from by omega] at this
  exact this
theorem made_resets (d : Dy) : d.made.resets = d.resets := by
  unfold Dy.made Dy.cred Dy.ping
  split <;> split <;> rfl
theorem madeF_dy0 (c : Int) : (∀ f ∈ madeF (dy0 c), f = ⟨6, 0, 0, f.body⟩ ∧ f.body.length = 4) ∧ (madeF (dy0 c)).length ≤ 1 := by
  have e : madeF (dy0 c) = credF (dy0 c) := rfl
  rw [e]
  unfold credF
  split
  · refine ⟨fun f hf => ?_, by simp⟩
    rw [List.mem_singleton] at hf
    subst hf
    exact ⟨rfl, rfl⟩
  · exact ⟨fun f hf => (by cases hf), by simp⟩
theorem run_opened (i c k : Int) : Runs 1099511627776 (pOpen i c 1 k 4) (gS i c k (dy0 c).made [kF 1, kF 3, kF 5, kF 7] [1, 3, 5, 7] (layFs (madeF (dy0 c))) []) := by
  rw [pOpen_gS]
  exact run_made (d := dy0 c) (run_done made_off made_owed due_none4)
theorem fine_open (i c k : Int) (h : CfgOk i c 1 k) : Fine (pOpen i c 1 k 4) := by
  rw [pOpen_gS]
  have := h.c0
  have := h.k0
  have := h.k1
  exact fine_o (d := dy0 c) h (dy0_b c) (by omega) (by omega) (by omega) (fun n hn => by cases hn) (by simp) (kF_o 1) (kF_o 3)

set_option maxRecDepth 100000 in
set_option maxHeartbeats 1600000 in
theorem kopened_any (i c k : Int) (w : World) (h : CfgOk i c 1 k) (hgl : Gl w) (hg : 7 ≤ w.heap.size) :
    Calls Tryz.prog 6 #[.agg #[.int .i64 i, .int .i64 c, .int .i64 1, .int .i64 k]] w fun e w' => ∃ xb eb F, e = .returned (.tuple #[.pointer (some ⟨xb, 0, none⟩), .bool true]) ∧ XB w' xb (.pointer (some ⟨eb, 0, none⟩)) i c k (c - 32) ∧ StE w' eb F (gS i c k (dy0 c).made [kF 1, kF 3, kF 5, kF 7] [1, 3, 5, 7] [] []) ∧ ¬ F xb ∧ w.heap.size ≤ xb ∧ Below w.heap.size w w' ∧ ∀ j, F j → w.heap.size ≤ j := by
  obtain ⟨w0, hw0⟩ : ∃ w0, w0 = (w.alloc (.cells #[.int .i64 i, .int .i64 c, .int .i64 1, .int .i64 k] 23)).alloc (.cells #[Value.pointer none, .int .i64 i, .int .i64 c, .int .i64 1, .int .i64 k, .string ⟨#[]⟩, .int .i64 0, .int .i64 0, .int .i64 0, .string ⟨#[]⟩, .int .i64 0, .int .i64 0, .int .i64 0, .string ⟨#[]⟩, .int .i64 0, .int .i64 0, .int .i64 0, .string ⟨#[]⟩, .int .i64 0, .int .i64 0, .int .i64 0, .int .i64 32, .int .i64 i, .bool true, .int .i64 0, .int .i64 0, .int .i64 0, .slice none 0 0, .int .i64 0, .bool false, .bool false, .int .i64 0, .bool true] 35) := ⟨_, rfl⟩
  dsimp only at hw0
  have hcf : w0.heap[w.heap.size]? = some (.cells #[.int .i64 i, .int .i64 c, .int .i64 1, .int .i64 k] 23 (0, 0)) := by
    rw [hw0, heap_alloc_old _ _ (by simp)]
    exact heap_alloc_new w _
  have hx0 : XB w0 (w.heap.size + 1) (.pointer none) i c k 0 := ⟨by
    rw [hw0, show w.heap.size + 1 = (w.alloc (.cells #[.int .i64 i, .int .i64 c, .int .i64 1, .int .i64 k] 23)).heap.size from by simp]
    exact heap_alloc_new _ _⟩
  have hb0 : Below w.heap.size w w0 := by rw [hw0]; exact ((Below.refl _ _).alloc (Nat.le_refl _) _).alloc (by simp) _
  have hs0 : w0.heap.size = w.heap.size + 2 := by rw [hw0]; simp
  obtain ⟨y0, y1, y2, y3⟩ := cfgs' hcf
  have HBG := hide (kbegun_any i c 1 k w0 h (hgl.below hb0) (by omega))
  have HOK := hide h
  have HGL := hide hgl
  have HW0 := hide hw0
  have HB0 := hide hb0
  have HX0 := hide hx0
  clear h hgl hw0 hb0 hx0 hcf
  go_enter Tryz.func6, Tryz.ntmps6
  go_upto_region 2 with fail
  rw [← HW0.out]
  go_wp2_with fail
  refine HBG.out.mono ?_
  rintro e w1 ⟨eb, F, rfl, hst, hb1, hF⟩
  have hx1 := HX0.out.below hb1
  have x0 : w1.cell? ⟨w.heap.size + 1, 0, none⟩ = some (.pointer none) := hx1.cell (j := 0) rfl
  have q0 := hx1.fr 0
  have hxlt : w.heap.size + 1 < w1.heap.size := lt_of_block hx1.blk
  have hset : XB (w1.setCell ⟨w.heap.size + 1, 0, none⟩ (.pointer (some ⟨eb, 0, none⟩))) (w.heap.size + 1) (.pointer (some ⟨eb, 0, none⟩)) i c k 0 := ⟨by rw [blk_set hx1.blk]; rfl⟩
  have hcs : Chg (fun j => j = w.heap.size + 1) w1 (w1.setCell ⟨w.heap.size + 1, 0, none⟩ (.pointer (some ⟨eb, 0, none⟩))) := chg_set (Chg.refl _ _) rfl
  have hFx : ¬ F (w.heap.size + 1) := fun hf => by have := hF _ hf; omega
  have hst2 := hst.chg hcs (fun j hj e => by subst e; exact hFx hj)
  have hb2 : Below w.heap.size w (w1.setCell ⟨w.heap.size + 1, 0, none⟩ (.pointer (some ⟨eb, 0, none⟩))) := below_of_chg (HB0.out.trans (hb1.mono HB0.out.size)) hcs (fun j hj => by omega)
  have hsz2 : w0.heap.size ≤ (w1.setCell ⟨w.heap.size + 1, 0, none⟩ (.pointer (some ⟨eb, 0, none⟩))).heap.size := Nat.le_trans hb1.size hcs.size
  obtain ⟨w2, hw2⟩ : ∃ w2, w2 = w1.setCell ⟨w.heap.size + 1, 0, none⟩ (.pointer (some ⟨eb, 0, none⟩)) := ⟨_, rfl⟩
  rw [← hw2] at hset hst2 hb2 hsz2
  have HX2 := hide hset
  have HST2 := hide hst2
  have HB2 := hide hb2
  have HF : Hid (∀ j, F j → w.heap.size + 2 ≤ j) := fun j hj => by have := hF j hj; omega
  have HW2 := hide hw2
  clear hx1 hst hb1 hF hset hcs hst2 hb2 hw2 hFx y0 y1 y2 y3
  go_upto_region 4 with fail
  rw [← HW2.out]
  clear x0 q0
  go_wp2
  go_loopw [6, 7] (fun ok s wr => ∃ (j : Nat) (wv : World) (Fv : Nat → Prop), wv = wr ∧ ok = .bool true ∧ s = .int .i64 (2 * (j : Int) + 1) ∧ j ≤ 4 ∧ StE wv eb Fv (pOpen i c 1 k j) ∧ XB wv (w.heap.size + 1) (.pointer (some ⟨eb, 0, none⟩)) i c k 0 ∧ Below w.heap.size w wv ∧ ∀ n, Fv n → w.heap.size + 2 ≤ n) (fun _ s _ => 9 - (intOf s).toNat)
  case atStart => exact ⟨0, _, F, rfl, rfl, rfl, by omega, HST2.out, HX2.out, HB2.out, HF.out⟩
  case round =>
    obtain ⟨j, wv, Fv, hwv, rfl, rfl, hj, hstv, hxv, hbv, hFv⟩ := hrel
    subst hwv
    by_cases hj4 : j < 4
    · have HLF := hide (klay_feed (w1 := wv) (sa := none) (cap := 0) hstv (feed_openN i c 1 k j hj4) (pOpen_fault i c 1 k (j + 1)) (HGL.out.below hbv) (fun n hn hf => by have := hFv n hf; omega) (Below.refl _ _) (by omega) (by omega) (by omega) (by omega) (by omega) (by omega) (by simp) (Or.inl ⟨rfl, rfl⟩))
      have HXV := hide hxv
      have HBV := hide hbv
      have HFV := hide hFv
      have hs1 : 2 * (j : Int) + 1 ≤ 7 := by omega
      have hs2 : IntKind.i64.wrap (2 * (j : Int) + 1 + 2) = 2 * (j : Int) + 1 + 2 := by rw [IntKind.wrap_i64]; omega
      clear hstv hxv hbv hFv
      go_wp2_with fail
      refine HLF.out.mono ?_
      rintro e w3 ⟨v, rfl, hb3, hfd⟩
      have HFD := hide (hfd w3 (Below.refl _ _))
      clear hb3 hfd
      go_wp2_with fail
      refine HFD.out.mono ?_
      rintro e w4 ⟨rfl, F4, hst4, hch4, hF4⟩
      have HREL : Hid (StE w4 eb F4 (pOpen i c 1 k (j + 1)) ∧ XB w4 (w.heap.size + 1) (.pointer (some ⟨eb, 0, none⟩)) i c k 0 ∧ Below w.heap.size w w4 ∧ ∀ n, F4 n → w.heap.size + 2 ≤ n) := by
        refine ⟨hst4, HXV.out.chg hch4 (fun hf => by have := HFV.out _ hf; omega), below_of_chg HBV.out hch4 (fun n hn => by have := HFV.out n hn; omega), fun n hn => ?_⟩
        rcases hF4 n hn with a | a
        · exact HFV.out n a
        · have := lt_of_block HXV.out.blk; omega
      clear hst4 hch4 hF4
      go_wp2
      all_goals go_roundw
      case rel => exact ⟨j + 1, _, F4, rfl, rfl, by congr 1, by omega, HREL.out⟩
      case measure => simp [intOf]; omega
    · have hj0 : j = 4 := by omega
      subst hj0
      have hfs := madeF_dy0 c
      have h32 := HOK.out.c0
      have h10 := HOK.out.c1
      have hck := HOK.out.k0
      have hcr : crSum (madeF (dy0 c)) = c - 32 := madeF_cr (dy0_b c) (by omega)
      have hlen := made_len (d := dy0 c)
      have HTK := hide (ktaken_open (w.heap.size + 1) eb Fv (pOpen i c 1 k 4) (gS i c k (dy0 c).made [kF 1, kF 3, kF 5, kF 7] [1, 3, 5, 7] (layFs (madeF (dy0 c))) []) i c k (madeF (dy0 c)) wv hxv (fun hf => by have := hFv _ hf; omega) hstv (fine_open i c k HOK.out) rfl rfl rfl (run_opened i c k) rfl hfs.1 hfs.2 (by show (layFs (madeF (dy0 c))).length ≤ 1073741824; omega) (by omega) HOK.out)
      rw [hcr] at HTK
      have HXV := hide hxv
      have HBV := hide hbv
      have HFV := hide hFv
      clear hstv hxv hbv hFv hfs hcr hlen
      go_wp2_with fail
      refine HTK.out.mono ?_
      rintro e w5 ⟨rfl, hx5, F5, hst5, hch5, hF5⟩
      have HEND : Hid (XB w5 (w.heap.size + 1) (.pointer (some ⟨eb, 0, none⟩)) i c k (c - 32) ∧ StE w5 eb F5 (gS i c k (dy0 c).made [kF 1, kF 3, kF 5, kF 7] [1, 3, 5, 7] [] []) ∧ ¬ F5 (w.heap.size + 1) ∧ w.heap.size ≤ w.heap.size + 1 ∧ Below w.heap.size w w5 ∧ ∀ n, F5 n → w.heap.size ≤ n) := by
        have h5 : ∀ n, F5 n → w.heap.size + 2 ≤ n := fun n hn => by
          rcases hF5 n hn with a | a
          · exact HFV.out n a
          · have := lt_of_block HXV.out.blk; omega
        refine ⟨hx5, hst5, fun hf => by have := h5 _ hf; omega, by omega, below_of_chg HBV.out hch5 (fun n hn => ?_), fun n hn => by have := h5 n hn; omega⟩
        rcases hn with a | a
        · have := HFV.out n a; omega
        · omega
      clear hx5 hst5 hch5 hF5
      go_wp2
      refine bodyPost_ret (v := .tuple #[.pointer (some ⟨w.heap.size + 1, 0, none⟩), .bool true]) ?_ rfl ⟨_, eb, F5, rfl, HEND.out⟩
      simp [results, Tryz.results6, go_sem]
end Go.Proofs.YtiphkngfbpdeoaaGreatDoor
