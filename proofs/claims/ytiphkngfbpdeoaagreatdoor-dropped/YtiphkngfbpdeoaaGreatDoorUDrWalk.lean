import Derived.Test.YtiphkngfbpdeoaaGreatDoorUGaq
import Derived.Test.YtiphkngfbpdeoaaGreatDoorULwOpened
import Derived.Deep.RegionWith
set_option linter.unusedVariables false
set_option linter.unusedSimpArgs false
/-
  Dropped: the walk.
-/
namespace Go.Proofs.YtiphkngfbpdeoaaGreatDoor
set_option linter.unusedVariables false
set_option linter.unusedSimpArgs false
open Go.RowKit

theorem text_list (b : ByteArray) (h : b.size ≤ 32) : ∃ t : List UInt8, Value.string b = .string ⟨t.toArray⟩ ∧ t.length ≤ 32 := ⟨b.data.toList, (by cases b with | mk d => show Value.string ⟨d⟩ = .string ⟨d.toList.toArray⟩; rw [Array.toArray_toList]), (by rw [Array.length_toList]; exact h)⟩
theorem text_cut (b : ByteArray) : (b.extract 0 32).size ≤ 32 := by rw [ByteArray.size_extract]; omega
set_option maxRecDepth 100000 in
set_option maxHeartbeats 1600000 in
theorem dropped_all (x0 x1 x2 x3 : Int) (text more : ByteArray) (by_ : Bool) (w : World) (h0 : I64 x0) (h1 : I64 x1) (h2 : I64 x2) (h3 : I64 x3) (hgl : Gl w) (hg : 7 ≤ w.heap.size) :
    Calls Tryz.prog 3 #[.agg #[.int .i64 x0, .int .i64 x1, .int .i64 x2, .int .i64 x3], .string text, .string more, .bool by_] w fun e w' => e = .returned (.bool true) ∧ Below w.heap.size w w' := by
  obtain ⟨w0, hw0⟩ : ∃ w0, w0 = w.alloc (.cells #[.int .i64 x0, .int .i64 x1, .int .i64 x2, .int .i64 x3] 23) := ⟨_, rfl⟩
  have hcf : w0.heap[w.heap.size]? = some (.cells #[.int .i64 x0, .int .i64 x1, .int .i64 x2, .int .i64 x3] 23 (0, 0)) := by rw [hw0]; exact heap_alloc_new w _
  have hb0 : Below w.heap.size w w0 := by rw [hw0]; exact (Below.refl _ _).alloc (Nat.le_refl _) _
  have hs0 : w0.heap.size = w.heap.size + 1 := by rw [hw0]; simp
  obtain ⟨y0, y1, y2, y3⟩ := cfgs' hcf
  have HTC := hide (tameConfig_any x0 x1 x2 x3 w0 h0 h1 h2 h3)
  have HW0 := hide hw0
  have HB0 := hide hb0
  have HCF := hide hcf
  have HGL := hide hgl
  clear hw0 hb0 hcf hgl h0 h1 h2 h3
  go_enter Tryz.func3, Tryz.ntmps3
  go_upto_region 1 with fail
  rw [← HW0.out]
  go_wp2_with fail
  refine HTC.out.mono ?_
  rintro e w1 ⟨i, c, b, k, rfl, hok, hb1⟩
  have hcf1 := kept_told HCF.out hb1
  obtain ⟨z0, z1, z2, z3⟩ := cfgs' hcf1
  have u0 : w1.frozen? ⟨w.heap.size, 0, none⟩ = false := by simp [World.frozen?, hcf1]
  have u1 : w1.frozen? ⟨w.heap.size, 1, none⟩ = false := by simp [World.frozen?, hcf1]
  have u2 : w1.frozen? ⟨w.heap.size, 2, none⟩ = false := by simp [World.frozen?, hcf1]
  have u3 : w1.frozen? ⟨w.heap.size, 3, none⟩ = false := by simp [World.frozen?, hcf1]
  have hlt1 := lt_of_block hcf1
  have HOK : Hid (CfgOk i c 1 k) := ⟨hok.i0, hok.i1, hok.c0, hok.c1, by omega, by omega, hok.k0, hok.k1⟩
  have HCF1 := hide hcf1
  have HB1 := hide hb1
  clear hok hcf1 hb1 y0 y1 y2 y3
  obtain ⟨w2, hw2⟩ : ∃ w2, w2 = (((((w1).setCell ⟨w.heap.size, 0, none⟩ (.int .i64 i)).setCell ⟨w.heap.size, 1, none⟩ (.int .i64 c)).setCell ⟨w.heap.size, 2, none⟩ (.int .i64 b)).setCell ⟨w.heap.size, 3, none⟩ (.int .i64 k)).setCell ⟨w.heap.size, 2, none⟩ (.int .i64 1) := ⟨_, rfl⟩
  have hcf2 : w2.heap[w.heap.size]? = some (.cells #[.int .i64 i, .int .i64 c, .int .i64 1, .int .i64 k] 23 (0, 0)) := by
    rw [hw2, blk_set (blk_set (blk_set (blk_set (blk_set HCF1.out))))]
    rfl
  have hch2 : Chg (fun j => j = w.heap.size) w1 w2 := by
    rw [hw2]
    exact chg_set (chg_set (chg_set (chg_set (chg_set (Chg.refl _ _) rfl) rfl) rfl) rfl) rfl
  have hb2 : Below w.heap.size w w2 := below_of_chg (HB0.out.trans (HB1.out.mono HB0.out.size)) hch2 (fun j hj => by omega)
  have HW2 := hide hw2
  have HCF2 := hide hcf2
  have HB2 := hide hb2
  clear hw2 hcf2 hch2 hb2
  go_upto_if 23 with fail
  rw [← HW2.out]
  clear z0 z1 z2 z3 u0 u1 u2 u3
  go_cut [1] from 18 (fun s1 wx => ∃ t : List UInt8, s1 = .string ⟨t.toArray⟩ ∧ t.length ≤ 32 ∧ wx = w2)
  case first =>
    by_cases ht : 32 < (text.size : Int)
    · go_wp2
      go_meet
      obtain ⟨t, h1, h2⟩ := text_list (text.extract 0 32) (text_cut text)
      exact ⟨t, h1, h2, rfl⟩
    · go_wp2
      go_meet
      obtain ⟨t, h1, h2⟩ := text_list text (by omega)
      exact ⟨t, h1, h2, rfl⟩
  case rest =>
    obtain ⟨t, rfl, ht, hwc⟩ := hcut
    rw [hwc]
    clear hwc wc
    go_upto_if 28 with fail
    go_cut [2] from 18 (fun s2 wx => ∃ m : List UInt8, s2 = .string ⟨m.toArray⟩ ∧ m.length ≤ 32 ∧ wx = w2)
    case first =>
      by_cases ht : 32 < (more.size : Int)
      · go_wp2
        go_meet
        obtain ⟨t, h1, h2⟩ := text_list (more.extract 0 32) (text_cut more)
        exact ⟨t, h1, h2, rfl⟩
      · go_wp2
        go_meet
        obtain ⟨t, h1, h2⟩ := text_list more (by omega)
        exact ⟨t, h1, h2, rfl⟩
    case rest =>
      obtain ⟨m, rfl, hm, hwc⟩ := hcut
      rw [hwc]
      clear hwc wc
      have hg2 : 7 ≤ w2.heap.size := Nat.le_trans hg HB2.out.size
      have HGL2 := hide (HGL.out.below HB2.out)
      have HOP := hide (kopened_any i c k w2 HOK.out HGL2.out hg2)
      obtain ⟨y0, y1, y2, y3⟩ := cfgs' HCF2.out
      clear HTC HW0 HB0 HCF HGL HB1 HCF1 HW2
      go_wp2_with fail
      refine HOP.out.mono ?_
      rintro e w3 ⟨xb, eb, F, rfl, hx3, hst3, hxF, hxge, hb3, hF⟩
      have x0 : w3.cell? ⟨xb, 0, none⟩ = some (.pointer (some ⟨eb, 0, none⟩)) := hx3.cell (j := 0) rfl
      have hxlt := lt_of_block hx3.blk
      have hgl3 := HGL2.out.below hb3
      have hge3 : ∀ j, j < 7 → ¬ F j := fun j hj hf => by have := hF j hf; omega
      have HDR := hide (kdropped_any i c k (dy0 c).made t by_ eb F w3 HOK.out (dy0_made c HOK.out.c0) (by rw [made_resets]; rfl) ht hgl3 hge3 hst3)
      have HX3 := hide hx3
      have HXF := hide hxF
      have HGL3 := hide hgl3
      have HGE3 := hide hge3
      have HBW3 : Hid (Below w.heap.size w w3) := HB2.out.trans (hb3.mono HB2.out.size)
      have HFW3 : Hid (∀ j, F j → w.heap.size ≤ j) := fun j hj => Nat.le_trans HB2.out.size (hF j hj)
      clear hx3 hst3 hxF hxge hb3 hF hgl3 hge3 HOP y0 y1 y2 y3
      go_wp2_with fail
      refine HDR.out.mono ?_
      rintro e w4 ⟨rfl, d4, hd4, F4, hst4, hch4, hF4⟩
      have hx4 := HX3.out.chg hch4 HXF.out
      have hxF4 : ¬ F4 xb := fun hf => by
        rcases hF4 _ hf with a | a
        · exact HXF.out a
        · omega
      have hgl4 := HGL3.out.chg hch4 HGE3.out
      have hge4 : ∀ j, j < 7 → ¬ F4 j := fun j hj hf => by
        rcases hF4 _ hf with a | a
        · exact HGE3.out j hj a
        · have := HGL3.out.lt; omega
      have HBW4 : Hid (Below w.heap.size w w4) := below_of_chg HBW3.out hch4 HFW3.out
      have HFW4 : Hid (∀ j, F4 j → w.heap.size ≤ j) := fun j hj => by
        rcases hF4 j hj with a | a
        · exact HFW3.out j a
        · exact Nat.le_trans HBW3.out.size a
      have hc0 := HOK.out.c0
      have hc1 := HOK.out.c1
      -- the other stream
      have hbd : Below w4.heap.size w4 (World.drew (w4.alloc (.cells #[.int .u8 111, .int .u8 116, .int .u8 104, .int .u8 101, .int .u8 114] 5 (5, 6)))) := ((Below.refl _ _).alloc (Nat.le_refl _) _).drew
      have HLF : Hid (Calls Tryz.prog 9 #[.int .i64 0, .int .i64 0, .int .i64 3, .slice (some ⟨w4.heap.size, 0, none⟩) 5 5] (World.drew (w4.alloc (.cells #[.int .u8 111, .int .u8 116, .int .u8 104, .int .u8 101, .int .u8 114] 5 (5, 6)))) fun e w' => ∃ v, e = .returned v ∧ Below w4.heap.size w4 w' ∧ Hid (Calls Tryz.prog 8 #[.pointer (some ⟨eb, 0, none⟩), v] w' fun e w'' => e = .returned (.int .i64 0) ∧ GoE w4 w'' eb F4 (gS i c k (d4.got c k 5) [sGone t by_, sOther, kF 5, kF 7] [3, 5, 7] [] []))) := by
        have hby : BytesIn (World.drew (w4.alloc (.cells #[.int .u8 111, .int .u8 116, .int .u8 104, .int .u8 101, .int .u8 114] 5 (5, 6)))) (.slice (some ⟨w4.heap.size, 0, none⟩) otherB.length otherB.length) otherB := bytes_row (show (w4.alloc _).heap[w4.heap.size]? = _ from heap_alloc_new w4 _) rfl
        refine (klay_feed (w1 := World.drew (w4.alloc (.cells #[.int .u8 111, .int .u8 116, .int .u8 104, .int .u8 101, .int .u8 114] 5 (5, 6)))) hst4 (feed_other (t := t) (by_ := by_) HOK.out hd4) rfl (hgl4.below hbd) hge4 hbd (by omega) (by omega) (by omega) (by omega) (by omega) (by omega) (by show 5 ≤ 64; omega) hby).mono ?_
        rintro e w' ⟨v, rfl, hb', hfd⟩
        exact ⟨v, rfl, hbd.trans (hb'.mono hbd.size), hfd w' (Below.refl _ _)⟩
      have HK0 : Hid (w4.drew.cell? ⟨xb, 0, none⟩ = some (.pointer (some ⟨eb, 0, none⟩))) := hx4.cell (j := 0) rfl
      have HKA : Hid ((World.drew (w4.alloc (.cells #[.int .u8 111, .int .u8 116, .int .u8 104, .int .u8 101, .int .u8 114] 5 (5, 6)))).cell? ⟨xb, 0, none⟩ = some (.pointer (some ⟨eb, 0, none⟩))) := (hx4.below hbd).cell (j := 0) rfl
      have HKC : Hid ((World.drew (w4.alloc (.cells #[.int .u8 111, .int .u8 116, .int .u8 104, .int .u8 101, .int .u8 114] 5))).cell? ⟨xb, 0, none⟩ = some (.pointer (some ⟨eb, 0, none⟩))) := (hx4.below (((Below.refl _ _).alloc (Nat.le_refl _) _).drew)).cell (j := 0) rfl
      have HKB : Hid (∀ w', Below w4.heap.size w4 w' → w'.cell? ⟨xb, 0, none⟩ = some (.pointer (some ⟨eb, 0, none⟩))) := fun w' hb => (hx4.below hb).cell (j := 0) rfl
      have HKG : Hid (∀ w' q, GoE w4 w' eb F4 q → w'.cell? ⟨xb, 0, none⟩ = some (.pointer (some ⟨eb, 0, none⟩))) := fun w' q hgo => by
        obtain ⟨F', -, h2, -⟩ := hgo
        exact (hx4.chg h2 hxF4).cell (j := 0) rfl
      have kc : ∀ (w : World) (C : Array Value) (n c : Nat), (convert 38 38 (.slice (some ⟨w.heap.size, 0, none⟩) n c)).run Tryz.prog (w.alloc (.cells C 5)) = .ok (.slice (some ⟨w.heap.size, 0, none⟩) n c) (w.alloc (.cells C 5 (C.size, C.size + 1))) := fun w C n c => Lib.run_convert_bytes_const (P := Tryz.prog) w 38 5 C n c Tryz.underlying38 Tryz.underlying5
      have kcd : ∀ (w : World) (C : Array Value) (n c : Nat), (convert 38 38 (.slice (some ⟨w.heap.size, 0, none⟩) n c)).run Tryz.prog (World.drew (w.alloc (.cells C 5))) = .ok (.slice (some ⟨w.heap.size, 0, none⟩) n c) (World.drew (w.alloc (.cells C 5 (C.size, C.size + 1)))) := fun w C n c => kc w.drew C n c
      have HX4 := hide hx4
      have HXF4 := hide hxF4
      have HGL4 := hide hgl4
      have HGE4 := hide hge4
      have HD4 := hide hd4
      have hxlt4 := lt_of_block hx4.blk
      clear hx4 hst4 hch4 hF4 hxF4 hgl4 hge4 hbd hd4 x0 hxlt HDR
      have x4 : w4.cell? ⟨xb, 0, none⟩ = some (.pointer (some ⟨eb, 0, none⟩)) := HK0.out
      go_upto_region 13 with fail
      go_cut [11] from 18 (fun s11 wx => s11 = .int .i64 0 ∧ GoE w4 wx eb F4 (gS i c k (d4.got c k 5) [sGone t by_, sOther, kF 5, kF 7] [3, 5, 7] [] []))
      case first =>
        go_region_with (first
          | (go_at_call 9; refine HLF.out.mono ?_; rintro e w' ⟨v, rfl, hbL, hfdL⟩; have hcL := HKB.out _ hbL)
          | (go_at_call 8; refine hfdL.out.mono ?_; rintro e w5 ⟨rfl, hgoL⟩))
        all_goals go_wp2_with fail
        all_goals go_meet
        all_goals exact ⟨rfl, by assumption⟩
      case rest =>
        obtain ⟨rfl, hgo5⟩ := hcut
        clear HLF HK0 HKA HKC HKB HKG kc kcd x4
        obtain ⟨F5, hst5, hch5, hF5⟩ := hgo5
        have hx5 := HX4.out.chg hch5 HXF4.out
        have hxF5 : ¬ F5 xb := fun hf => by
          rcases hF5 _ hf with a | a
          · exact HXF4.out a
          · omega
        have hgl5 := HGL4.out.chg hch5 HGE4.out
        have hge5 : ∀ j, j < 7 → ¬ F5 j := fun j hj hf => by
          rcases hF5 _ hf with a | a
          · exact HGE4.out j hj a
          · have := HGL4.out.lt; omega
        have HBW5 : Hid (Below w.heap.size w wc) := below_of_chg HBW4.out hch5 HFW4.out
        have HFW5 : Hid (∀ j, F5 j → w.heap.size ≤ j) := fun j hj => by
          rcases hF5 j hj with a | a
          · exact HFW4.out j a
          · exact Nat.le_trans HBW4.out.size a
        have x5 : wc.cell? ⟨xb, 0, none⟩ = some (.pointer (some ⟨eb, 0, none⟩)) := hx5.cell (j := 0) rfl
        have hxlt5 := lt_of_block hx5.blk
        have hd5 : DyB (d4.got c k 5) 2 (c - 5) 0 := HD4.out.got (by omega)
        have HRD := hide (read_other (t := t) (by_ := by_) hd5 hst5)
        have HX5 := hide hx5
        have HXF5 := hide hxF5
        have HGL5 := hide hgl5
        have HGE5 := hide hge5
        have HD5 := hide hd5
        generalize d4.got c k 5 = d5 at *
        clear hst5 hch5 hF5 hx5 hxF5 hgl5 hge5 hd5 HX4 HXF4 HGL4 HGE4 HD4
        go_wp2_with fail
        refine HRD.out.mono ?_
        rintro e w6 ⟨⟨a6, rfl, hby6⟩, F6, hst6, hch6, hF6⟩
        have hx6 := HX5.out.chg hch6 HXF5.out
        have hxF6 : ¬ F6 xb := fun hf => by
          rcases hF6 _ hf with a | a
          · exact HXF5.out a
          · omega
        have hgl6 := HGL5.out.chg hch6 HGE5.out
        have hge6 : ∀ j, j < 7 → ¬ F6 j := fun j hj hf => by
          rcases hF6 _ hf with a | a
          · exact HGE5.out j hj a
          · have := HGL5.out.lt; omega
        have HBW6 : Hid (Below w.heap.size w w6) := below_of_chg HBW5.out hch6 HFW5.out
        have HFW6 : Hid (∀ j, F6 j → w.heap.size ≤ j) := fun j hj => by
          rcases hF6 j hj with a | a
          · exact HFW5.out j a
          · exact Nat.le_trans HBW5.out.size a
        have x6 : w6.cell? ⟨xb, 0, none⟩ = some (.pointer (some ⟨eb, 0, none⟩)) := hx6.cell (j := 0) rfl
        have hxlt6 := lt_of_block hx6.blk
        have hcv6 : (convert 38 9 (.slice a6 5 5)).run Tryz.prog w6 = .ok (.string ⟨#[111, 116, 104, 101, 114]⟩) w6 := conv_str hby6
        have hd6 : DyB (d5.owes 5) 2 (c - 5) 5 := by
          have := HD5.out.owes 5
          rw [Int.zero_add] at this
          exact this
        have HGV := hide (given_stream HOK.out hd6 (by omega) (by omega) (by omega) (sGone_o t ht by_) sRead_o rfl (by show (1 : Int) ≤ 0 + 5; omega) hst6)
        have hd7 : DyB (d5.owes 5).made 2 c 0 := by
          have := hd6.made (by omega)
          rw [Int.sub_add_cancel] at this
          exact this
        have HX6 := hide hx6
        have HXF6 := hide hxF6
        have HGL6 := hide hgl6
        have HGE6 := hide hge6
        have HD7 := hide hd7
        generalize (d5.owes 5).made = d7 at *
        clear hst6 hch6 hF6 hx6 hxF6 hgl6 hge6 hd6 hd7 hby6 HX5 HXF5 HGL5 HGE5 HD5 x5 hxlt5 HRD
        go_wp2_with fail
        refine HGV.out.mono ?_
        rintro e w7 ⟨rfl, F7, hst7, hch7, hF7⟩
        have hx7 := HX6.out.chg hch7 HXF6.out
        have hxF7 : ¬ F7 xb := fun hf => by
          rcases hF7 _ hf with a | a
          · exact HXF6.out a
          · omega
        have hgl7 := HGL6.out.chg hch7 HGE6.out
        have hge7 : ∀ j, j < 7 → ¬ F7 j := fun j hj hf => by
          rcases hF7 _ hf with a | a
          · exact HGE6.out j hj a
          · have := HGL6.out.lt; omega
        have HBW7 : Hid (Below w.heap.size w w7) := below_of_chg HBW6.out hch7 HFW6.out
        have HFW7 : Hid (∀ j, F7 j → w.heap.size ≤ j) := fun j hj => by
          rcases hF7 j hj with a | a
          · exact HFW6.out j a
          · exact Nat.le_trans HBW6.out.size a
        have x7 : w7.cell? ⟨xb, 0, none⟩ = some (.pointer (some ⟨eb, 0, none⟩)) := hx7.cell (j := 0) rfl
        have hxlt7 := lt_of_block hx7.blk
        clear HGV hcv6 x6 hxlt6
        obtain ⟨wC, capC, hconv0, hbyC0, hbC⟩ := conv_text w7.drew m
        have hconv : (convert 9 38 (.string ⟨m.toArray⟩)).run Tryz.prog w7.drew = .ok (.slice (some ⟨w7.heap.size, 0, none⟩) m.length capC) wC := hconv0
        have hbyC : BytesIn wC (.slice (some ⟨w7.heap.size, 0, none⟩) m.length capC) m := hbyC0
        have hb7C : Below w7.heap.size w7 wC := (show Below w7.heap.size w7 w7.drew from (Below.refl _ _).drew).trans hbC
        have xC0 : wC.cell? ⟨xb, 0, none⟩ = some (.pointer (some ⟨eb, 0, none⟩)) := (hx7.below hb7C).cell (j := 0) rfl
        have hsz : (ByteArray.mk m.toArray).size = m.length := by simp [ByteArray.size]
        clear hconv0 hbyC0
        cases by_ with
        | false =>
          have HLF : Hid (Calls Tryz.prog 9 #[.int .i64 0, .int .i64 0, .int .i64 1, .slice (some ⟨w7.heap.size, 0, none⟩) m.length capC] wC fun e w' => ∃ v, e = .returned v ∧ Below w7.heap.size w7 w' ∧ Hid (Calls Tryz.prog 8 #[.pointer (some ⟨eb, 0, none⟩), v] w' fun e w'' => e = .returned (.int .i64 11) ∧ GoE w7 w'' eb F7 ((gS i c k d7 [sGone t false, sRead.granted, kF 5, kF 7] [3, 5, 7] [] []).died 11))) := by
            refine (klay_feedF (w1 := wC) hst7 (feed_refused hm) (by show 3 ≤ 1048576; omega) (hgl7.below hb7C) hge7 hb7C (by omega) (by omega) (by omega) (by omega) (by omega) (by omega) (by omega) hbyC).mono ?_
            rintro e w' ⟨v, rfl, hb', hfd⟩
            exact ⟨v, rfl, hb7C.trans (hb'.mono hb7C.size), hfd w' (Below.refl _ _)⟩
          have HKB : Hid (∀ w', Below w7.heap.size w7 w' → w'.cell? ⟨xb, 0, none⟩ = some (.pointer (some ⟨eb, 0, none⟩))) := fun w' hb => (hx7.below hb).cell (j := 0) rfl
          have HX7 := hide hx7
          have HXF7 := hide hxF7
          have HGL7 := hide hgl7
          have HGE7 := hide hge7
          clear hst7 hch7 hF7 hx7 hxF7 hgl7 hge7 hbC hb7C hbyC HX6 HXF6 HGL6 HGE6
          generalize ByteArray.mk m.toArray = mstr at *
          go_upto_region 20 with fail
          go_cut [11] from 18 (fun s11 wx => s11 = .int .i64 11 ∧ GoE w7 wx eb F7 ((gS i c k d7 [sGone t false, sRead.granted, kF 5, kF 7] [3, 5, 7] [] []).died 11))
          case first =>
            go_region_with (first
              | (go_at_call 9; refine HLF.out.mono ?_; rintro e w' ⟨v, rfl, hbL, hfdL⟩; have hcL := HKB.out _ hbL)
              | (go_at_call 8; refine hfdL.out.mono ?_; rintro e w8 ⟨rfl, hgoL⟩))
            all_goals go_wp2_with fail
            all_goals go_meet
            all_goals exact ⟨rfl, by assumption⟩
          case rest =>
            obtain ⟨rfl, F8, -, hch8, -⟩ := hcut
            have HEND : Hid (Below w.heap.size w wc) := below_of_chg HBW7.out hch8 HFW7.out
            clear hch8
            go_wp2
            go_ret
            exact ⟨rfl, HEND.out⟩
        | true =>
          have HLF : Hid (Calls Tryz.prog 9 #[.int .i64 0, .int .i64 0, .int .i64 1, .slice (some ⟨w7.heap.size, 0, none⟩) m.length capC] wC fun e w' => ∃ v, e = .returned v ∧ Below w7.heap.size w7 w' ∧ Hid (Calls Tryz.prog 8 #[.pointer (some ⟨eb, 0, none⟩), v] w' fun e w'' => e = .returned (.int .i64 0) ∧ GoE w7 w'' eb F7 (gS i c k ((d7.got c k m.length).owes m.length) [sGone t true, sRead.granted, kF 5, kF 7] [3, 5, 7] [] []))) := by
            refine (klay_feed (w1 := wC) hst7 (feed_more HOK.out HD7.out hm) rfl (hgl7.below hb7C) hge7 hb7C (by omega) (by omega) (by omega) (by omega) (by omega) (by omega) (by omega) hbyC).mono ?_
            rintro e w' ⟨v, rfl, hb', hfd⟩
            exact ⟨v, rfl, hb7C.trans (hb'.mono hb7C.size), hfd w' (Below.refl _ _)⟩
          have HKB : Hid (∀ w', Below w7.heap.size w7 w' → w'.cell? ⟨xb, 0, none⟩ = some (.pointer (some ⟨eb, 0, none⟩))) := fun w' hb => (hx7.below hb).cell (j := 0) rfl
          have HX7 := hide hx7
          have HXF7 := hide hxF7
          have HGL7 := hide hgl7
          have HGE7 := hide hge7
          clear hst7 hch7 hF7 hx7 hxF7 hgl7 hge7 hbC hb7C hbyC HX6 HXF6 HGL6 HGE6
          generalize ByteArray.mk m.toArray = mstr at *
          go_upto_region 20 with fail
          go_cut [11] from 18 (fun s11 wx => s11 = .int .i64 0 ∧ GoE w7 wx eb F7 (gS i c k ((d7.got c k m.length).owes m.length) [sGone t true, sRead.granted, kF 5, kF 7] [3, 5, 7] [] []))
          case first =>
            go_region_with (first
              | (go_at_call 9; refine HLF.out.mono ?_; rintro e w' ⟨v, rfl, hbL, hfdL⟩; have hcL := HKB.out _ hbL)
              | (go_at_call 8; refine hfdL.out.mono ?_; rintro e w8 ⟨rfl, hgoL⟩))
            all_goals go_wp2_with fail
            all_goals go_meet
            all_goals exact ⟨rfl, by assumption⟩
          case rest =>
            obtain ⟨rfl, F8, hst8, hch8, hF8⟩ := hcut
            have HBW8 : Hid (Below w.heap.size w wc) := below_of_chg HBW7.out hch8 HFW7.out
            have HFW8 : Hid (∀ j, F8 j → w.heap.size ≤ j) := fun j hj => by
              rcases hF8 j hj with a | a
              · exact HFW7.out j a
              · exact Nat.le_trans HBW7.out.size a
            have hx8 := HX7.out.chg hch8 HXF7.out
            have x8 : wc.cell? ⟨xb, 0, none⟩ = some (.pointer (some ⟨eb, 0, none⟩)) := hx8.cell (j := 0) rfl
            have hd8 : DyB ((d7.got c k m.length).owes m.length) 3 (c - m.length) m.length := by
              have := (HD7.out.got (c := c) (k := k) (n := m.length) (by omega)).owes m.length
              rw [Int.zero_add] at this
              exact this
            generalize ((d7.got c k m.length).owes m.length) = d8 at *
            have HGN := hide (kgone_true eb F8 _ (sGone t true) wc hst8 (by show sGone t true ∈ [sGone t true, sRead.granted, kF 5, kF 7]; simp) (by exact (by decide : (1 : Int) ≠ 0)) rfl)
            have HGV : Hid (∀ w9, Below wc.heap.size wc w9 → w9.cell? ⟨xb, 0, none⟩ = some (.pointer (some ⟨eb, 0, none⟩)) ∧ Calls Tryz.prog 11 #[.pointer (some ⟨eb, 0, none⟩), .int .i64 1] w9 fun e w' => e = .returned (.tuple #[.int .i64 m.length, .int .i64 0]) ∧ Below w.heap.size w w') := fun w9 hb9 => by
              refine ⟨(hx8.below hb9).cell (j := 0) rfl, (given_reset HOK.out hd8 (by omega) (by omega) (by omega) (sGone_o t ht true) sGranted_o rfl false (hst8.below hb9)).mono ?_⟩
              rintro e w' ⟨rfl, F9, -, hch9, -⟩
              exact ⟨rfl, below_of_chg (HBW8.out.trans (hb9.mono HBW8.out.size)) hch9 HFW8.out⟩
            clear hst8 hch8 hF8 hx8 hd8
            go_wp2_with fail
            refine HGN.out.mono ?_
            rintro e w9 ⟨rfl, hb9⟩
            obtain ⟨x9, hgv9⟩ := HGV.out w9 hb9
            have HGV9 := hide hgv9
            clear hgv9 hb9 x8
            go_wp2_with fail
            refine HGV9.out.mono ?_
            rintro e w10 ⟨rfl, hb10⟩
            have HEND := hide hb10
            clear hb10
            go_wp2
            go_ret
            exact ⟨by simp [hsz], HEND.out⟩
end Go.Proofs.YtiphkngfbpdeoaaGreatDoor
