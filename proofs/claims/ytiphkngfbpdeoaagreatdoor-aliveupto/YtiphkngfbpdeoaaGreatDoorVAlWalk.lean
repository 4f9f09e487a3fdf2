import Derived.Test.YtiphkngfbpdeoaaGreatDoorVGaw
import Derived.Deep.RegionWith
set_option linter.unusedVariables false
set_option linter.unusedSimpArgs false
namespace Go.Proofs.YtiphkngfbpdeoaaGreatDoor
set_option linter.unusedVariables false
set_option linter.unusedSimpArgs false
open Go.RowKit
theorem list30 (b : ByteArray) (h : b.size ≤ 30) : ∃ t : List UInt8, Value.string b = .string ⟨t.toArray⟩ ∧ t.length ≤ 30 := ⟨b.data.toList, (by cases b with | mk d => show Value.string ⟨d⟩ = .string ⟨d.toList.toArray⟩; rw [Array.toArray_toList]), (by rw [Array.length_toList]; exact h)⟩
theorem cut30 (b : ByteArray) : (b.extract 0 30).size ≤ 30 := by rw [ByteArray.size_extract]; omega
theorem grown_bel {W0 w w' : World} {row : Option Nat} (h : Below W0.heap.size W0 w) (hg : w.grownBy w' row) (hr : ∀ j, row = some j → W0.heap.size ≤ j) : Below W0.heap.size W0 w' := below_of_chg (S := fun j => row = some j) h (Chg.of_grown hg (fun _ e => e)) hr
def RowB (Bw w : World) (v : Value) (l : List UInt8) : Prop := w.ownsRow Bw.heap.size 5 1 v l.length (l.map B)
theorem one_bytes (l : List UInt8) : ∀ u ∈ l.map B, u.oneCell' = true := fun u hu => by
  obtain ⟨x, -, rfl⟩ := List.mem_map.1 hu
  rfl
theorem bytes_bel {w w' : World} {v : Value} {l : List UInt8} (h : BytesIn w v l) (hb : Below w.heap.size w w') : BytesIn w' v l := h.chg (Chg.of_below (S := fun _ => False) hb) (fun _ _ => id)
theorem rowB_app {Bw w w' : World} {v v' : Value} {l r : List UInt8} (h : RowB Bw w v l) (hb : Below Bw.heap.size Bw w) (hown : w'.ownsRow 0 5 1 v' (l.length + r.length) (l.map B ++ r.map B)) (hg : w.grownBy w' v.ownBlock) (ho : v'.ownBlock = v.ownBlock ∨ v'.ownBlock = some w.heap.size) : RowB Bw w' v' (l ++ r) ∧ Below Bw.heap.size Bw w' := by
  refine ⟨?_, grown_bel hb hg (fun j hj => owns_ge h hj)⟩
  unfold RowB
  rw [List.map_append, List.length_append]
  refine owns_base hown (fun j hj => ?_)
  rcases ho with e | e
  · rw [e] at hj; exact owns_ge h hj
  · rw [e] at hj; injection hj with hj; rw [← hj]; exact hb.size
def BeforeF (w wx : World) (eb : Nat) (i c b k : Int) (t : List UInt8) (j : Nat) (s12 s13 : Value) : Prop := ∃ p F l, s12 = .int .i64 0 ∧ StE wx eb F p ∧ Kills p l (spoilC j) ((pText i c b k t).died (spoilC j)) ∧ BytesIn wx s13 l ∧ (∀ n, s13.ownBlock = some n → ¬ F n) ∧ l.length ≤ 2000000 ∧ Gl wx ∧ (∀ n, n < 7 → ¬ F n) ∧ Below w.heap.size w wx ∧ ∀ n, F n → w.heap.size ≤ n
set_option maxRecDepth 100000 in
set_option maxHeartbeats 3200000 in
theorem alive_all (x0 x1 x2 x3 : Int) (text more : ByteArray) (last : Bool) (which : Int) (w : World) (h0 : I64 x0) (h1 : I64 x1) (h2 : I64 x2) (h3 : I64 x3) (hwh : I64 which) (hmore : more.size ≤ 1048576) (hgl : Gl w) (hg : 7 ≤ w.heap.size) :
    Calls Tryz.prog 4 #[.agg #[.int .i64 x0, .int .i64 x1, .int .i64 x2, .int .i64 x3], .string text, .bool last, .int .i64 which, .string more] w fun e w' => e = .returned (.bool true) ∧ Below w.heap.size w w' := by
  have kc : ∀ (w : World) (C : Array Value) (n c : Nat), (convert 38 38 (.slice (some ⟨w.heap.size, 0, none⟩) n c)).run Tryz.prog (w.alloc (.cells C 5)) = .ok (.slice (some ⟨w.heap.size, 0, none⟩) n c) (w.alloc (.cells C 5 (C.size, C.size + 1))) := fun w C n c => Lib.run_convert_bytes_const (P := Tryz.prog) w 38 5 C n c Tryz.underlying38 Tryz.underlying5
  obtain ⟨i0, hi, hz0, hz1, hz2⟩ := info_parts Tryz.info5
  obtain ⟨w0, hw0⟩ : ∃ w0, w0 = w.alloc (.cells #[.int .i64 x0, .int .i64 x1, .int .i64 x2, .int .i64 x3] 23) := ⟨_, rfl⟩
  have hcf : w0.heap[w.heap.size]? = some (.cells #[.int .i64 x0, .int .i64 x1, .int .i64 x2, .int .i64 x3] 23 (0, 0)) := by rw [hw0]; exact heap_alloc_new w _
  have hb0 : Below w.heap.size w w0 := by rw [hw0]; exact (Below.refl _ _).alloc (Nat.le_refl _) _
  obtain ⟨y0, y1, y2, y3⟩ := cfgs' hcf
  have HTC := hide (tameConfig_any x0 x1 x2 x3 w0 h0 h1 h2 h3)
  have HW0 := hide hw0
  have HB0 := hide hb0
  have HCF := hide hcf
  have HGL := hide hgl
  have HWH := hide hwh
  clear hw0 hb0 hcf hgl h0 h1 h2 h3 hwh
  go_enter Tryz.func4, Tryz.ntmps4
  go_upto_region 1 with fail
  rw [← HW0.out]
  go_wp2_with fail
  refine HTC.out.mono ?_
  rintro e w1 ⟨i, c, b, k, rfl, hok, hb1⟩
  have hcf1 := kept_told HCF.out hb1
  obtain ⟨z0, z1, z2, z3⟩ := cfgs' hcf1
  have u0 : w1.frozen? ⟨w.heap.size, 0, none⟩ = false := by simp [World.frozen?, hcf1]
  have u1 : w1.frozen? ⟨w.heap.size, 1, none⟩ = false := by simp [World.frozen?, hcf1]
  have u2 : w1.frozen? ⟨w.heap.size, 2, none⟩ = false := by simp [World.frozen?, hcf1]
  have u3 : w1.frozen? ⟨w.heap.size, 3, none⟩ = false := by simp [World.frozen?, hcf1]
  have hlt1 := lt_of_block hcf1
  have HOK := hide hok
  have HCF1 := hide hcf1
  have HB1 := hide hb1
  clear hok hcf1 hb1 y0 y1 y2 y3
  obtain ⟨w2, hw2⟩ : ∃ w2, w2 = ((((w1).setCell ⟨w.heap.size, 0, none⟩ (.int .i64 i)).setCell ⟨w.heap.size, 1, none⟩ (.int .i64 c)).setCell ⟨w.heap.size, 2, none⟩ (.int .i64 b)).setCell ⟨w.heap.size, 3, none⟩ (.int .i64 k) := ⟨_, rfl⟩
  have hcf2 : w2.heap[w.heap.size]? = some (.cells #[.int .i64 i, .int .i64 c, .int .i64 b, .int .i64 k] 23 (0, 0)) := by
    rw [hw2, blk_set (blk_set (blk_set (blk_set HCF1.out)))]
    rfl
  have hch2 : Chg (fun j => j = w.heap.size) w1 w2 := by
    rw [hw2]
    exact chg_set (chg_set (chg_set (chg_set (Chg.refl _ _) rfl) rfl) rfl) rfl
  have HB2 : Hid (Below w.heap.size w w2) := below_of_chg (HB0.out.trans (HB1.out.mono HB0.out.size)) hch2 (fun j hj => by omega)
  have HW2 := hide hw2
  have HCF2 := hide hcf2
  clear hw2 hcf2 hch2
  go_upto_region 2 with fail
  rw [← HW2.out]
  clear z0 z1 z2 z3 u0 u1 u2 u3 HTC HW0 HB0 HCF HCF1 HB1 HW2
  have HNE := hide (newEnd_ok i c b k w2 HOK.out)
  obtain ⟨y0, y1, y2, y3⟩ := cfgs' HCF2.out
  go_wp2_with fail
  refine HNE.out.mono ?_
  rintro e w3 ⟨eb, F, rfl, hst3, hb3, hF⟩
  have HST := hide hst3
  have HB3 : Hid (Below w.heap.size w w3) := HB2.out.trans (hb3.mono HB2.out.size)
  have HF : Hid (∀ j, F j → w.heap.size ≤ j) := fun j hj => Nat.le_trans HB2.out.size (hF j hj)
  have HGL3 := hide (HGL.out.below HB3.out)
  clear hst3 hb3 hF y0 y1 y2 y3 HNE HCF2 HB2
  go_upto_if 35 with fail
  go_cut [1] from 36 (fun s1 wx => ∃ t : List UInt8, s1 = .string ⟨t.toArray⟩ ∧ t.length ≤ 30 ∧ wx = w3)
  case first =>
    by_cases ht : 30 < (text.size : Int)
    · go_wp2
      go_meet
      obtain ⟨t, h1, h2⟩ := list30 (text.extract 0 30) (cut30 text)
      exact ⟨t, h1, h2, rfl⟩
    · go_wp2
      go_meet
      obtain ⟨t, h1, h2⟩ := list30 text (by omega)
      exact ⟨t, h1, h2, rfl⟩
  case rest =>
    obtain ⟨t, rfl, ht, hwc⟩ := hcut
    rw [hwc]
    clear hwc wc
    go_upto_region 8 with fail
    have hgb : (w3.alloc (.cells #[.int .u8 115, .int .u8 108, .int .u8 117, .int .u8 105, .int .u8 99, .int .u8 101, .int .u8 10] 5 (7, 8))).heap[w3.heap.size]? = some (.cells #[.int .u8 115, .int .u8 108, .int .u8 117, .int .u8 105, .int .u8 99, .int .u8 101, .int .u8 10] 5 (7, 8)) := heap_alloc_new w3 _
    have hb4 : Below w3.heap.size w3 (w3.alloc (.cells #[.int .u8 115, .int .u8 108, .int .u8 117, .int .u8 105, .int .u8 99, .int .u8 101, .int .u8 10] 5 (7, 8))) := (Below.refl _ _).alloc (Nat.le_refl _) _
    generalize (w3.alloc (.cells #[.int .u8 115, .int .u8 108, .int .u8 117, .int .u8 105, .int .u8 99, .int .u8 101, .int .u8 10] 5 (7, 8))) = w4 at *
    have HGB := hide hgb
    have HB4 := hide hb4
    have HK4 : Hid (Calls Tryz.prog 14 #[.int .i64 100] w4 fun e w' => e = .returned (.slice (some ⟨w4.heap.size, 0, none⟩) 4 4) ∧ BytesIn w' (.slice (some ⟨w4.heap.size, 0, none⟩) 4 4) (four4 100) ∧ Below w4.heap.size w4 w') := kfour_any 100 w4 (by omega)
    clear hgb hb4
    go_wp2_with fail
    refine HK4.out.mono ?_
    rintro e w5 ⟨rfl, hby5, hb5⟩
    have HB5 : Hid (Below w4.heap.size w4 w5) := hb5
    have HL5 : Hid (Calls Tryz.prog 9 #[.int .i64 3, .int .i64 0, .int .i64 0, .slice (some ⟨w4.heap.size, 0, none⟩) 4 4] w5 fun e w' => ∃ v, e = .returned v ∧ w'.ownsRow w5.heap.size 5 1 v (lay 3 0 0 (four4 100)).length ((lay 3 0 0 (four4 100)).map B) ∧ Below w5.heap.size w5 w') := klay_any 3 0 0 (some ⟨w4.heap.size, 0, none⟩) (four4 100) 4 w5 (by omega) (by omega) (by omega) (by omega) (by omega) (by omega) (by decide) hby5
    clear hby5 hb5 HK4
    go_wp2_with fail
    refine HL5.out.mono ?_
    rintro e w6 ⟨vs, rfl, hown6, hb6⟩
    have HB6 : Hid (Below w4.heap.size w4 w6) := HB5.out.trans (hb6.mono HB5.out.size)
    have HBS : Hid (BytesIn w6 vs (lay 3 0 0 (four4 100))) := bytesIn_of_owns hown6 rfl
    have HL6 := hide (klay_any 1 4 1 none [] 0 w6 (by omega) (by omega) (by omega) (by omega) (by omega) (by omega) (by decide) (Or.inl ⟨rfl, rfl⟩))
    clear hown6 hb6 HL5 HB5
    go_wp2_with fail
    refine HL6.out.mono ?_
    rintro e w7 ⟨vh, rfl, hown7, hb7⟩
    have HB7 : Hid (Below w4.heap.size w4 w7) := HB6.out.trans (hb7.mono HB6.out.size)
    have HBS7 := hide (bytes_bel HBS.out hb7)
    have HBH7 : Hid (BytesIn w7 vh (lay 1 4 1 [])) := bytesIn_of_owns hown7 rfl
    obtain ⟨w8, c8, kcT, hbT, hb8⟩ := conv_tx w7 t
    have HL8 := hide (klay_any 0 0 1 (some ⟨w7.heap.size, 0, none⟩) t c8 w8 (by omega) (by omega) (by omega) (by omega) (by omega) (by omega) (by omega) hbT)
    have HB8 : Hid (Below w4.heap.size w4 w8) := HB7.out.trans (hb8.mono HB7.out.size)
    have HBS8 := hide (bytes_bel HBS7.out hb8)
    have HBH8 := hide (bytes_bel HBH7.out hb8)
    clear hown7 hb7 hbT hb8 HL6 HB6 HB7 HBS HBS7 HBH7
    go_wp2_with fail
    refine HL8.out.mono ?_
    rintro e w9 ⟨vd, rfl, hown9, hb9⟩
    have HB9 : Hid (Below w4.heap.size w4 w9) := HB8.out.trans (hb9.mono HB8.out.size)
    have HBS9 := hide (bytes_bel HBS8.out hb9)
    have HBH9 := hide (bytes_bel HBH8.out hb9)
    have HBD9 : Hid (BytesIn w9 vd (lay 0 0 1 t)) := bytesIn_of_owns hown9 rfl
    have HGB9 := hide (kept_told HGB.out HB9.out)
    clear hown9 hb9 HL8 HB8 HBS8 HBH8 kcT HGB
    obtain ⟨a9, c9, hvs, hns⟩ : ∃ a9 c9, vs = .slice (some a9) 10 c9 ∧ ∀ j v, ((lay 3 0 0 (four4 100)).map B)[j]? = some v → w9.cell? (a9.add j) = some v := by
      rcases lies_of_bytesIn HBS9.out with ⟨-, h0⟩ | ⟨ad, cap, h1, h2⟩
      · rw [lay_len] at h0; exact absurd h0.1 (by simp [four4])
      · exact ⟨ad, cap, h1, h2⟩
    have hgr : ∀ j v, (greetB.map B)[j]? = some v → w9.cell? ((⟨w3.heap.size, 0, none⟩ : Addr).add j) = some v := fun j v hv => by
      rw [Addr.add_mid, Nat.zero_add, cell_of_row _ _ _ _ _ _ HGB9.out, ← hv]
      exact List.getElem?_toArray
    have HNS := hide hns
    have HGR := hide hgr
    clear hns hgr HBS9 HGB9
    subst hvs
    go_wp2_with (at_builtin; refine wpList_grow _ rfl (.tmp 46) (.tmp 47) 38 rfl i0 Tryz.underlying38 hi hz0 hz1 hz2 ⟨w3.heap.size, 0, none⟩ 7 7 (greetB.map B) rfl rfl HGR.out a9 10 c9 ((lay 3 0 0 (four4 100)).map B) (by rw [List.length_map, lay_len]; rfl) rfl HNS.out (by omega) (by omega) ?_)
    intro v10 w10 hown10 hb10
    have HR10 : Hid (RowB w9 w10 v10 (greetB ++ lay 3 0 0 (four4 100))) := by
      unfold RowB
      rw [List.map_append, List.length_append, lay_len]
      exact hown10
    have HB10 : Hid (Below w9.heap.size w9 w10) := hb10
    clear hown10 hb10 HNS HGR
    have HLI10 := hide (lies_of_bytesIn (bytes_bel HBH9.out HB10.out))
    go_wp2_with (at_builtin; refine wpList_app _ rfl (.tmp 49) (.tmp 50) 38 rfl 5 i0 (.int .u8 0) 1 1 Tryz.underlying38 hi hz0 hz1 hz2 rfl (by decide) v10 _ _ rfl (owns_base HR10.out (fun _ _ => Nat.zero_le _)) vh _ _ rfl ?c1 HLI10.out (one_bytes _) ?c4 ?c5 ?_)
    case c1 => simp
    case c4 => decide
    case c5 => decide
    intro v11 w11 hown11 hg11 ho11
    have h11 := rowB_app HR10.out HB10.out hown11 hg11 ho11
    have HR11 := hide h11.1
    have HB11 := hide h11.2
    clear h11 hown11 hg11 ho11 HLI10 HR10 HB10
    have HLI11 := hide (lies_of_bytesIn (bytes_bel HBD9.out HB11.out))
    go_wp2_with (at_builtin; refine wpList_app _ rfl (.tmp 52) (.tmp 53) 38 rfl 5 i0 (.int .u8 0) 1 1 Tryz.underlying38 hi hz0 hz1 hz2 rfl (by decide) v11 _ _ rfl (owns_base HR11.out (fun _ _ => Nat.zero_le _)) vd _ _ rfl ?c1 HLI11.out (one_bytes _) ?c4 ?c5 ?_)
    case c1 => simp
    case c4 => rw [lay_len, List.length_append, List.length_append, lay_len, lay_len]; show 7 + (6 + 4) + (6 + 0) + (6 + t.length) ≤ maxLen; unfold maxLen; omega
    case c5 => rw [lay_len, List.length_append, List.length_append, lay_len, lay_len]; show (7 + (6 + 4) + (6 + 0) + (6 + t.length)) * 1 ≤ 140737488355328; omega
    intro v12 w12 hown12 hg12 ho12
    have h12 := rowB_app HR11.out HB11.out hown12 hg12 ho12
    have HR12 : Hid (RowB w9 w12 v12 (aheadB t)) := h12.1
    have HB12 := hide h12.2
    clear h12 hown12 hg12 ho12 HLI11 HR11 HB11 HBH9 HBD9
    have HPK := hide (kpick_any which 12 w12 (by omega) (by omega) HWH.out)
    go_wp2_with fail
    refine HPK.out.mono ?_
    rintro e w' ⟨r, rfl, hr0, hr1, hw'⟩
    rw [hw']
    clear hw' w' HPK
    obtain ⟨j, rfl⟩ : ∃ j : Nat, r = j := ⟨r.toNat, by omega⟩
    have hj : j < 12 := by omega
    have HSP : Hid (Calls Tryz.prog 15 #[.int .i64 j, .int .i64 (ByteArray.mk t.toArray).size] w12 fun e w' => ∃ v, e = .returned (.tuple #[v, .int .i64 (spoilC j)]) ∧ NewB w12 w' v (spoilB t.length j)) := kspoilt_any t.length w12 ht j hj
    clear hr0 hr1
    go_wp2_with fail
    refine HSP.out.mono ?_
    rintro e w13 ⟨vx, rfl, hnb⟩
    have HNB := hide hnb
    clear hnb HSP
    go_upto_if 63 with fail
    have HB39 : Hid (Below w3.heap.size w3 w9) := HB4.out.trans (HB9.out.mono HB4.out.size)
    have HB312 : Hid (Below w3.heap.size w3 w12) := HB39.out.trans (HB12.out.mono HB39.out.size)
    have HB313 : Hid (Below w3.heap.size w3 w13) := HB312.out.trans (HNB.out.2.mono HB312.out.size)
    have HB913 : Hid (Below w9.heap.size w9 w13) := HB12.out.trans (HNB.out.2.mono HB12.out.size)
    have HBW13 : Hid (Below w.heap.size w w13) := HB3.out.trans (HB313.out.mono HB3.out.size)
    have HST13 := hide (HST.out.below HB313.out)
    have HGL13 := hide (HGL.out.below HBW13.out)
    have HR13 : Hid (RowB w9 w13 v12 (aheadB t)) := owns_chg HR12.out (Chg.of_below (S := fun _ => False) HNB.out.2) (fun _ _ => id)
    have HBX : Hid (BytesIn w13 vx (spoilB t.length j)) := bytesIn_of_owns HNB.out.1 rfl
    have HGE : Hid (∀ n, n < 7 → ¬ F n) := fun n hn hf => by have := HF.out n hf; omega
    have HAN : Hid (∀ n, w9.heap.size ≤ n → ¬ F n) := fun n hn hf => by
      have h1 := HST.out.lt hf
      have h2 := HB39.out.size
      omega
    have hal := aheadB_le t ht
    have hsl := spoilB_le t.length ht j hj
    go_cut [12, 13] from 63 (fun s12 s13 wx => BeforeF w wx eb i c b k t j s12 s13)
    case first =>
      cases last with
      | true =>
        have HLI13 := hide (lies_of_bytesIn HBX.out)
        go_wp2_with (at_builtin; refine wpList_app _ rfl (.tmp 64) (.tmp 65) 38 rfl 5 i0 (.int .u8 0) 1 1 Tryz.underlying38 hi hz0 hz1 hz2 rfl (by decide) v12 _ _ rfl (owns_base HR13.out (fun _ _ => Nat.zero_le _)) vx _ _ rfl ?c1 HLI13.out (one_bytes _) ?c4 ?c5 ?_)
        case c1 => simp
        case c4 => unfold maxLen; omega
        case c5 => omega
        intro v14 w14 hown14 hg14 ho14
        have h14 := rowB_app HR13.out HB913.out hown14 hg14 ho14
        have HR14 := hide h14.1
        have HB14 := hide h14.2
        clear h14 hown14 hg14 ho14 HLI13
        have hl14 : (aheadB t ++ spoilB t.length j).length ≤ 300 := by rw [List.length_append]; omega
        have hsz14 := HB14.out.size
        go_wp2_with (at_builtin; refine Lib.wpList_append_own_string _ rfl (.tmp 67) (.tmp 68) 38 9 rfl w9.heap.size 5 i0 Tryz.underlying38 Tryz.underlying9 hi hz0 hz1 hz2 v14 _ _ rfl HR14.out more rfl ?d1 ?d2 ?d3 ?_)
        case d1 => unfold maxLen; omega
        case d2 => omega
        case d3 => exact hsz14
        intro v15 w15 hown15 hg15 _
        have HB15 : Hid (Below w9.heap.size w9 w15) := grown_bel HB14.out hg15 (fun n hn => owns_ge HR14.out hn)
        have HR15 : Hid (RowB w9 w15 v15 (aheadB t ++ spoilB t.length j ++ more.data.toList)) := by
          have e1 : (aheadB t ++ spoilB t.length j ++ more.data.toList).map B = (aheadB t).map B ++ ((spoilB t.length j).map B ++ Lib.strCells more) := by simp [Lib.strCells]
          have e2 : (aheadB t ++ spoilB t.length j ++ more.data.toList).length = (aheadB t).length + (spoilB t.length j).length + more.size := by simp [← ByteArray.size_data]; omega
          unfold RowB
          rw [e1, e2]
          exact hown15
        clear hown15 hg15
        go_wp2
        go_meet
        have hb315 : Below w3.heap.size w3 w15 := HB39.out.trans (HB15.out.mono HB39.out.size)
        have hbw : Below w.heap.size w w15 := HB3.out.trans (hb315.mono HB3.out.size)
        refine ⟨pNew i c b k, F, _, rfl, HST.out.below hb315, ((feed_ahead i c b k t HOK.out ht).kills (spoil_K ht j hj)).app _, bytesIn_of_owns HR15.out rfl, fun n hn => HAN.out n (owns_ge HR15.out hn), ?_, HGL.out.below hbw, HGE.out, hbw, HF.out⟩
        have e3 : (more.data.toList).length = more.size := by simp [← ByteArray.size_data]
        rw [List.length_append]
        omega
      | false =>
        have HFD := hide (c_feed HST13.out (feed_ahead i c b k t HOK.out ht) (got_rest (pOne i c b k).begin.m t.length).1 HGL13.out HGE.out (bytesIn_of_owns HR13.out rfl) (fun n hn => HAN.out n (owns_ge HR13.out hn)) (by omega))
        go_wp2_with fail
        refine HFD.out.mono ?_
        rintro e w14 ⟨rfl, F14, hst14, hch14, hF14⟩
        have HST14 := hide hst14
        have HCH14 := hide hch14
        have HF14 := hide hF14
        clear hst14 hch14 hF14 HFD
        go_wp2
        go_meet
        have hgx : ∀ n, vx.ownBlock = some n → ¬ F n := fun n hn hf => by
          have h1 := HST.out.lt hf
          have h2 := owns_ge HNB.out.1 hn
          have h3 := HB312.out.size
          omega
        refine ⟨pText i c b k t, F14, _, rfl, HST14.out, spoil_K ht j hj, HBX.out.chg HCH14.out hgx, fun n hn hf => ?_, by omega, HGL13.out.chg HCH14.out HGE.out, fun n hn hf => ?_, below_of_chg HBW13.out HCH14.out HF.out, fun n hf => ?_⟩
        · rcases HF14.out n hf with a | a
          · exact hgx n hn a
          · have := HBX.out.lt hn; omega
        · rcases HF14.out n hf with a | a
          · exact HGE.out n hn a
          · have := HGL13.out.lt; omega
        · rcases HF14.out n hf with a | a
          · exact HF.out n a
          · exact Nat.le_trans HBW13.out.size a
    case rest =>
      obtain ⟨p, F15, l, rfl, hst, hki, hby, hbn, hll, hglx, hgex, hbw, hFw⟩ := hcut
      clear HB39 HB312 HB313 HB913 HBW13 HST13 HGL13 HR13 HBX HGE HAN hal hsl HR12 HB12 HNB HST HB3 HB4 HB9 HF HGL3 HGL
      obtain ⟨hc0, hcc⟩ := spoilC_ok j hj
      have HFD := hide (c_kills hst hki (by show 1 ≤ 1048576; omega) hglx hgex hby hbn (by omega))
      have HBW := hide hbw
      have HFW := hide hFw
      clear hst hki hby hbn hglx hgex hbw hFw
      go_wp2_with fail
      refine HFD.out.mono ?_
      rintro e w16 ⟨rfl, F16, hst16, hch16, hF16⟩
      have HST16 := hide hst16
      have HBW16 : Hid (Below w.heap.size w w16) := below_of_chg HBW.out hch16 HFW.out
      have HFW16 : Hid (∀ n, F16 n → w.heap.size ≤ n) := fun n hf => by
        rcases hF16 n hf with a | a
        · exact HFW.out n a
        · exact Nat.le_trans HBW.out.size a
      clear hst16 hch16 hF16 HFD HBW HFW
      obtain ⟨w17, c17, kcM, hbM, hb17⟩ := conv_tx w16 more.data.toList
      have hmt : (⟨more.data.toList.toArray⟩ : ByteArray) = more := by cases more with | mk d => rw [Array.toArray_toList]
      rw [hmt] at kcM
      have hlm : more.data.toList.length = more.size := by simp [← ByteArray.size_data]
      have HST17 := hide (HST16.out.below hb17)
      have HB17 : Hid (Below w.heap.size w w17) := HBW16.out.trans (hb17.mono HBW16.out.size)
      have HKD := hide (kdead_true eb F16 ((pText i c b k t).died (spoilC j)) (sText t).mute (spoilC j) _ _ w17 HST17.out rfl hc0 (dead_text _).K rfl rfl hbM (by omega))
      clear hbM hb17 HST16 HBW16 hmt
      go_wp2_with fail
      refine HKD.out.mono ?_
      rintro e w18 ⟨rfl, hb18⟩
      have HST18 := hide (HST17.out.below hb18)
      have HB18 : Hid (Below w.heap.size w w18) := HB17.out.trans (hb18.mono HB17.out.size)
      have HKQ := hide (kquiet_true eb F16 ((pText i c b k t).died (spoilC j)) (sText t).mute (spoilC j) w18 HST18.out (dead_text _) hc0 hcc rfl (by show t.length ≤ 1000; omega) (dead_owed _ HOK.out) (by show -1099511627776 ≤ (0 : Int) ∧ (0 : Int) ≤ 1099511627776; omega))
      clear hb18 HST17 HKD kcM HST18 HB17
      have hne : (spoilC j != spoilC j) = false := by simp
      go_wp2_with fail
      refine HKQ.out.mono ?_
      rintro e w19 ⟨rfl, hch19⟩
      have HEND : Hid (Below w.heap.size w w19) := below_of_chg HB18.out hch19 HFW16.out
      clear hch19
      go_wp2
      go_ret
      exact ⟨rfl, HEND.out⟩
end Go.Proofs.YtiphkngfbpdeoaaGreatDoor
