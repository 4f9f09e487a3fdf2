import Derived.Test.YtdccldbefdfppaaGreatDoorPPcRel
import Derived.Deep.RegionWith
set_option linter.unusedVariables false
set_option linter.unusedSimpArgs false
namespace Go.Proofs.YtdccldbefdfppaaGreatDoor
open Go.RowKit
set_option maxRecDepth 100000 in
set_option maxHeartbeats 6400000 in
theorem pieces_walk (fi : Bool) (x0 x1 x2 x3 : Int) (sa : Option Addr) (cf : Nat) (qs : List (Fr × Value)) (tail : ByteArray) (sc : Option Addr) (nc cc : Nat) (w : World) (h0 : I64 x0) (h1 : I64 x1) (h2 : I64 x2) (h3 : I64 x3) (hf : FsArg w sa qs) (hn : qs.length ≤ 1048576) (htl : tail.size ≤ 1048576) (hc : ∀ i, i < nc → ∃ cb coff z, sc = some ⟨cb, coff, none⟩ ∧ cb < w.heap.size ∧ w.cell? ⟨cb, coff + i, none⟩ = some (.int .i64 z) ∧ I64 z) (hnc : nc ≤ 1073741824) (hgl : Gl w) (hg : 7 ≤ w.heap.size) :
  Calls Tryz.prog 4 #[.bool fi, .agg #[.int .i64 x0, .int .i64 x1, .int .i64 x2, .int .i64 x3], .slice sa qs.length cf, .string tail, .slice sc nc cc] w fun e w' => e = .returned (.bool true) ∧ Below w.heap.size w w' := by
 have kc : ∀ (w : World) (C : Array Value) (n c : Nat), (convert 44 44 (.slice (some ⟨w.heap.size, 0, none⟩) n c)).run Tryz.prog (w.alloc (.cells C 5)) = .ok (.slice (some ⟨w.heap.size, 0, none⟩) n c) (w.alloc (.cells C 5 (C.size, C.size + 1))) := fun w C n c => Lib.run_convert_bytes_const (P := Tryz.prog) w 44 5 C n c Tryz.underlying44 Tryz.underlying5
 obtain ⟨i0, hi, hz0, hz1, hz2⟩ := info_parts Tryz.info5
 obtain ⟨w0, hw0⟩ : ∃ w0, w0 = w.alloc (.cells #[.int .i64 x0, .int .i64 x1, .int .i64 x2, .int .i64 x3] 23) := ⟨_, rfl⟩
 have hcf : w0.heap[w.heap.size]? = some (.cells #[.int .i64 x0, .int .i64 x1, .int .i64 x2, .int .i64 x3] 23 (0, 0)) := by rw [hw0]; exact heap_alloc_new w _
 have hb0 : Below w.heap.size w w0 := by rw [hw0]; exact (Below.refl _ _).alloc (Nat.le_refl _) _
 obtain ⟨y0, y1, y2, y3⟩ := cfgs' hcf
 have HTC := hide (tameConfig_any x0 x1 x2 x3 w0 h0 h1 h2 h3)
 have HW0 := hide hw0
 have HB0 := hide hb0
 have HCF := hide hcf
 have HGL := hide hgl
 have HFS := hide hf
 have HCU := hide hc
 clear hw0 hb0 hcf hgl h0 h1 h2 h3 hf hc
 go_enter Tryz.func4, Tryz.ntmps4
 go_upto_region 1 with fail
 rw [← HW0.out]
 go_wp2_with fail
 refine HTC.out.mono ?_
 rintro e w1 ⟨i, c, b, k, rfl, hok, hb1⟩
 have hcf1 := kept_told HCF.out hb1
 obtain ⟨z0, z1, z2, z3⟩ := cfgs' hcf1
 have u0 : w1.frozen? ⟨w.heap.size, 0, none⟩ = false := by simp [World.frozen?, hcf1]
 have u1 : w1.frozen? ⟨w.heap.size, 1, none⟩ = false := by simp [World.frozen?, hcf1]
 have u2 : w1.frozen? ⟨w.heap.size, 2, none⟩ = false := by simp [World.frozen?, hcf1]
 have u3 : w1.frozen? ⟨w.heap.size, 3, none⟩ = false := by simp [World.frozen?, hcf1]
 have hlt1 := lt_of_block hcf1
 have HOK := hide hok
 have HCF1 := hide hcf1
 have HB1 := hide hb1
 clear hok hcf1 hb1 y0 y1 y2 y3
 obtain ⟨w2, hw2⟩ : ∃ w2, w2 = ((((w1).setCell ⟨w.heap.size, 0, none⟩ (.int .i64 i)).setCell ⟨w.heap.size, 1, none⟩ (.int .i64 c)).setCell ⟨w.heap.size, 2, none⟩ (.int .i64 b)).setCell ⟨w.heap.size, 3, none⟩ (.int .i64 k) := ⟨_, rfl⟩
 have hcf2 : w2.heap[w.heap.size]? = some (.cells #[.int .i64 i, .int .i64 c, .int .i64 b, .int .i64 k] 23 (0, 0)) := by
  rw [hw2, blk_set (blk_set (blk_set (blk_set HCF1.out)))]
  rfl
 have hch2 : Chg (fun j => j = w.heap.size) w1 w2 := by
  rw [hw2]
  exact chg_set (chg_set (chg_set (chg_set (Chg.refl _ _) rfl) rfl) rfl) rfl
 have HB2 : Hid (Below w.heap.size w w2) := below_of_chg (HB0.out.trans (HB1.out.mono HB0.out.size)) hch2 (fun j hj => by omega)
 have HW2 := hide hw2
 have HCF2 := hide hcf2
 clear hw2 hcf2 hch2
 go_upto_region 2 with fail
 rw [← HW2.out]
 clear z0 z1 z2 z3 u0 u1 u2 u3 HTC HW0 HB0 HCF HCF1 HB1 HW2
 have HNE := hide (newEnd_any fi i c b k w2 HOK.out)
 obtain ⟨y0, y1, y2, y3⟩ := cfgs' HCF2.out
 go_wp2_with fail
 refine HNE.out.mono ?_
 rintro e w2a ⟨ea, Fa, rfl, hsta, hb2a, hFa⟩
 have hcf2a := kept_told HCF2.out hb2a
 obtain ⟨z0, z1, z2, z3⟩ := cfgs' hcf2a
 have HNE2 := hide (newEnd_any fi i c b k w2a HOK.out)
 have HSTA := hide hsta
 have HB2A := hide hb2a
 have HFA := hide hFa
 clear hsta hb2a hFa y0 y1 y2 y3 HNE hcf2a
 go_wp2_with fail
 refine HNE2.out.mono ?_
 rintro e w3 ⟨eb, Fb, rfl, hstb, hb3, hFb⟩
 have HSA := hide (HSTA.out.below hb3)
 have HSB := hide hstb
 have HSEP : Hid (∀ j, Fa j → ¬ Fb j) := fun j hj e => by
  have := HSTA.out.st.lt hj
  have := hFb j e
  omega
 have HB3 : Hid (Below w.heap.size w w3) := by
  have h1 := HB2.out.trans (HB2A.out.mono HB2.out.size)
  exact h1.trans (hb3.mono h1.size)
 have HFAW : Hid (∀ j, Fa j → w.heap.size ≤ j) := fun j hj => Nat.le_trans HB2.out.size (HFA.out j hj)
 have HFBW : Hid (∀ j, Fb j → w.heap.size ≤ j) := fun j hj => Nat.le_trans (Nat.le_trans HB2.out.size HB2A.out.size) (hFb j hj)
 have HGL3 := hide (HGL.out.below HB3.out)
 have HWN : Hid (WellX (pNewX fi i c b k)) := well_new HOK.out
 have HFO : Hid (((pNewX fi i c b k).fed (l0 fi)).g.m.fault = 0) := first_ok fi i c b k
 have HPB : Hid ((pNewX fi i c b k).bare = pNewX fi i c b k) := bare_new fi i c b k
 clear hstb hb3 hFb z0 z1 z2 z3 HNE2 HCF2 HB2 HB2A HSTA HFA hlt1
 obtain ⟨P0, hP0⟩ : ∃ P0, P0 = pNewX fi i c b k := ⟨_, rfl⟩
 rw [← hP0] at HSA HSB HWN HFO HPB
 clear hP0 HOK
 go_upto_if 54 with fail
 go_cut [15] from 55 (fun s15 wx => (fi = true ∧ s15 = .slice none 0 0 ∧ wx = w3) ∨ (fi = false ∧ s15 = .slice (some ⟨w3.heap.size, 0, none⟩) 7 7 ∧ wx = w3.alloc (.cells #[.int .u8 115, .int .u8 108, .int .u8 117, .int .u8 105, .int .u8 99, .int .u8 101, .int .u8 10] 5 (7, 8))))
 case first =>
  cases fi with
  | true =>
   go_wp2
   go_meet
   simp
  | false =>
   go_wp2
   go_meet
   simp
 case rest =>
  obtain ⟨w4, hw4⟩ : ∃ w4, w4 = wc := ⟨wc, rfl⟩
  rw [← hw4] at hcut ⊢
  clear hw4
  have hb4 : Below w3.heap.size w3 w4 := by
   rcases hcut with ⟨-, -, e⟩ | ⟨-, -, e⟩
   ·rw [e]; exact Below.refl _ _
   ·rw [e]; exact (Below.refl _ _).alloc (Nat.le_refl _) _
  obtain ⟨sl, nl, cl, hsl⟩ : ∃ sl nl cl, u15 = .slice sl nl cl := by
   rcases hcut with ⟨-, e, -⟩ | ⟨-, e, -⟩
   ·exact ⟨_, _, _, e⟩
   ·exact ⟨_, _, _, e⟩
  subst hsl
  have HCUT := hide hcut
  have HB4 := hide hb4
  have HK4 : Hid (Calls Tryz.prog 14 #[.int .i64 100] w4 fun e w' => e = .returned (.slice (some ⟨w4.heap.size, 0, none⟩) 4 4) ∧ BytesIn w' (.slice (some ⟨w4.heap.size, 0, none⟩) 4 4) (four4 100) ∧ Below w4.heap.size w4 w') := kfour_any 100 w4 (by omega)
  clear hcut hb4
  go_wp2_with fail
  refine HK4.out.mono ?_
  rintro e w5 ⟨rfl, hby5, hb5⟩
  have HB5 : Hid (Below w4.heap.size w4 w5) := hb5
  have HL5 : Hid (Calls Tryz.prog 13 #[.int .i64 3, .int .i64 0, .int .i64 0, .slice (some ⟨w4.heap.size, 0, none⟩) 4 4] w5 fun e w' => ∃ v, e = .returned v ∧ w'.ownsRow w5.heap.size 5 1 v (lay 3 0 0 (four4 100)).length ((lay 3 0 0 (four4 100)).map B) ∧ Below w5.heap.size w5 w') := klay_any 3 0 0 (some ⟨w4.heap.size, 0, none⟩) (four4 100) 4 w5 (by omega) (by omega) (by omega) (by omega) (by omega) (by omega) (by decide) hby5
  clear hby5 hb5 HK4
  go_wp2_with fail
  refine HL5.out.mono ?_
  rintro e w6 ⟨vs, rfl, hown6, hb6⟩
  have HB6 : Hid (Below w4.heap.size w4 w6) := HB5.out.trans (hb6.mono HB5.out.size)
  have HBS : Hid (BytesIn w6 vs (lay 3 0 0 (four4 100))) := bytesIn_of_owns hown6 rfl
  obtain ⟨ss, cs, hvs⟩ := slice_len hown6
  rw [lay_length, show 6 + (four4 100).length = 10 from rfl] at hvs
  subst hvs
  clear hown6 hb6 HL5 HB5
  go_upto_region 10 with fail
  go_cut [15] from 59 (fun s15 wx => RowB w3 wx s15 (l0 fi) ∧ Below w3.heap.size w3 wx)
  case first =>
   rcases HCUT.out with ⟨e1, e2, e3⟩ | ⟨e1, e2, e3⟩
   ·subst e1
    simp only [Value.slice.injEq] at e2
    obtain ⟨rfl, rfl, rfl⟩ := e2
    have HB6' : Hid (Below w3.heap.size w3 w6) := by rw [e3] at HB6; exact HB6.out
    clear e3 HCUT HB4 HB6
    have HLI := hide (lies_of_bytesIn HBS.out)
    go_wp2_with (at_builtin; refine wpList_app _ rfl (.tmp 59) (.tmp 60) 44 rfl 5 i0 (.int .u8 0) 1 1 Tryz.underlying44 hi hz0 hz1 hz2 rfl (by decide) (.slice none 0 0) 0 [] rfl (owns_none _ _ _) _ 10 ((lay 3 0 0 (four4 100)).map B) rfl (by rw [List.length_map, lay_length]; rfl) HLI.out (one_bytes _) ?c4 ?c5 ?_)
    case c4 => decide
    case c5 => decide
    intro v11 w11 hown11 hg11 ho11
    have HEND : Hid (RowB w3 w11 v11 (l0 true) ∧ Below w3.heap.size w3 w11) := by
     have hr : RowB w3 w6 (.slice none 0 0) [] := ⟨rfl, .inl ⟨rfl, rfl⟩⟩
     exact rowB_app (l := []) (r := lay 3 0 0 (four4 100)) hr HB6'.out hown11 hg11 ho11
    clear hown11 hg11 ho11
    go_wp2
    go_meet
    exact HEND.out
   ·subst e1
    simp only [Value.slice.injEq] at e2
    obtain ⟨rfl, rfl, rfl⟩ := e2
    have hgb : w4.heap[w3.heap.size]? = some (.cells #[.int .u8 115, .int .u8 108, .int .u8 117, .int .u8 105, .int .u8 99, .int .u8 101, .int .u8 10] 5 (7, 8)) := by rw [e3]; exact heap_alloc_new w3 _
    have hgb6 := kept_told hgb HB6.out
    have HB6' : Hid (Below w3.heap.size w3 w6) := HB4.out.trans (HB6.out.mono HB4.out.size)
    obtain ⟨a9, hvs, hns⟩ : ∃ a9, ss = some a9 ∧ ∀ j v, ((lay 3 0 0 (four4 100)).map B)[j]? = some v → w6.cell? (a9.add j) = some v := by
     rcases lies_of_bytesIn HBS.out with ⟨-, h0⟩ | ⟨ad, cap, h1, h2⟩
     ·rw [lay_length] at h0; exact absurd h0.1 (by simp [four4])
     ·simp only [Value.slice.injEq] at h1
      exact ⟨ad, h1.1, h2⟩
    subst hvs
    have hgr : ∀ j v, (greetB.map B)[j]? = some v → w6.cell? ((⟨w3.heap.size, 0, none⟩ : Addr).add j) = some v := fun j v hv => by
     rw [Addr.add_mid, Nat.zero_add, cell_of_row _ _ _ _ _ _ hgb6, ← hv]
     exact List.getElem?_toArray
    have HNS := hide hns
    have HGR := hide hgr
    clear hns hgr hgb hgb6 e3 HCUT HB4 HB6 HBS
    go_wp2_with (at_builtin; refine wpList_grow _ rfl (.tmp 59) (.tmp 60) 44 rfl i0 Tryz.underlying44 hi hz0 hz1 hz2 ⟨w3.heap.size, 0, none⟩ 7 7 (greetB.map B) rfl rfl HGR.out a9 10 cs ((lay 3 0 0 (four4 100)).map B) (by rw [List.length_map, lay_length]; rfl) rfl HNS.out (by omega) (by omega) ?_)
    intro v10 w10 hown10 hb10
    have HEND : Hid (RowB w3 w10 v10 (l0 false) ∧ Below w3.heap.size w3 w10) := by
     refine ⟨?_, HB6'.out.trans (hb10.mono HB6'.out.size)⟩
     unfold RowB l0
     rw [List.map_append, List.length_append, lay_length]
     exact owns_base hown10 (fun j hj => Nat.le_trans HB6'.out.size (owns_ge hown10 hj))
    clear hown10 hb10
    go_wp2
    go_meet
    exact HEND.out
  case rest =>
   obtain ⟨hrow0, hbel0⟩ := hcut
   obtain ⟨w7, hw7⟩ : ∃ w7, w7 = wc := ⟨wc, rfl⟩
   rw [← hw7] at hrow0 hbel0 ⊢
   clear hw7
   have hl0 := l0_len fi
   obtain ⟨L0, hL0⟩ : ∃ L0, L0 = l0 fi := ⟨_, rfl⟩
   rw [← hL0] at hrow0 hl0 HFO
   obtain ⟨sv0, cv0, hsv0⟩ := slice_len hrow0
   subst hsv0
   have HR0 := hide hrow0
   have HBL0 := hide hbel0
   clear hrow0 hbel0 hL0 HCUT HB4 HB6 HBS
   go_wp2
   go_loopw [15, 17] (fun lv j wr => ∃ (k : Nat) (L : List UInt8) (wv : World), wv = wr ∧ k ≤ qs.length ∧ j = .int .i64 (k : Int) ∧ RowB w3 wv lv L ∧ Below w3.heap.size w3 wv ∧ 10 ≤ L.length ∧ L.length ≤ 17 + 70 * k ∧ (k = 0 → L = L0)) (fun _ j _ => qs.length - (intOf j).toNat)
   case atStart => exact ⟨0, L0, _, rfl, Nat.zero_le _, rfl, HR0.out, HBL0.out, hl0.1, by omega, fun _ => rfl⟩
   case round =>
    obtain ⟨m, L, wv, hwv, hm, rfl, hrl, hbl, hl1, hl2, hl3⟩ := hrel
    subst hwv
    obtain ⟨svl, cvl, hsvl⟩ := slice_len hrl
    subst hsvl
    by_cases hlt : m < qs.length
    ·obtain ⟨fb, off, hsa, hfb, a0, a1, a2, a3⟩ := HFS.out.cell m hlt
     subst hsa
     obtain ⟨q, hq⟩ : ∃ q, q = qs[m] := ⟨_, rfl⟩
     have hqm : q ∈ qs := by rw [hq]; exact List.getElem_mem _
     rw [← hq] at a0 a1 a2 a3
     obtain ⟨i1, i2, i3⟩ := HFS.out.ok q hqm
     have hbw : Below w.heap.size w wv := HB3.out.trans (hbl.mono HB3.out.size)
     have hbq := (HFS.out.body q hqm).chg (Chg.of_below (S := fun _ => False) hbw)
     have b0 := (hbw.cell (p := ⟨fb, off + m * 4, none⟩) hfb).trans a0
     have b1 := (hbw.cell (p := ⟨fb, off + m * 4 + 1, none⟩) hfb).trans a1
     have b2 := (hbw.cell (p := ⟨fb, off + m * 4 + 2, none⟩) hfb).trans a2
     have b3 := (hbw.cell (p := ⟨fb, off + m * 4 + 3, none⟩) hfb).trans a3
     obtain ⟨⟨qk, qf, qst, qb⟩, qv⟩ := q
     simp only at b0 b1 b2 b3 i1 i2 i3 hbq
     obtain ⟨sq, cq, rfl⟩ := bytesA_len hbq
     have HRL := hide hrl
     have HBL := hide hbl
     have HTA := hide (tame_any qk qf qst sq qb cq wv i1 i2 i3 hbq)
     clear hrl hbl i1 i2 i3 hbq a0 a1 a2 a3 hq hqm hbw hl3
     go_wp2_with fail
     refine HTA.out.mono ?_
     rintro e w1 ⟨tk, tf, ts, tsa, tn, tc, tb, rfl, hto, htr, htb⟩
     obtain ⟨sx, cx, hsx⟩ := slice_len hto
     simp only [Value.slice.injEq] at hsx
     obtain ⟨rfl, rfl, rfl⟩ := hsx
     have hbx : Below w1.heap.size w1 (w1.alloc (.cells #[.int .i64 tk, .int .i64 tf, .int .i64 ts, .slice tsa tb.length tc] 48)) := (Below.refl _ _).alloc (Nat.le_refl _) _
     have HLY := hide (klay_any tk tf ts tsa tb tc _ htr.k0 htr.k1 htr.f0 htr.f1 htr.s0 htr.s1 htr.n (bytes_bel (bytesIn_of_owns hto rfl) hbx))
     have hly := lay_length tk tf ts tb
     have hlyn : (lay tk tf ts tb).length ≤ 70 := by have := htr.n; omega
     have HBX : Hid (Below wv.heap.size wv (w1.alloc (.cells #[.int .i64 tk, .int .i64 tf, .int .i64 ts, .slice tsa tb.length tc] 48))) := htb.trans (hbx.mono htb.size)
     obtain ⟨T, hT⟩ : ∃ T, T = lay tk tf ts tb := ⟨_, rfl⟩
     rw [← hT] at HLY hlyn
     clear hto htr htb b0 b1 b2 b3 HTA hbx hly hT
     go_wp2_with fail
     refine HLY.out.mono ?_
     rintro e w2 ⟨vx, rfl, hownx, hb2⟩
     obtain ⟨sx, cx, hsx⟩ := slice_len hownx
     subst hsx
     have hbv2 : Below wv.heap.size wv w2 := HBX.out.trans (hb2.mono HBX.out.size)
     have HB2 : Hid (Below w3.heap.size w3 w2) := HBL.out.trans (hbv2.mono HBL.out.size)
     have HR2 : Hid (RowB w3 w2 (.slice svl L.length cvl) L) := owns_chg HRL.out (Chg.of_below (S := fun _ => False) hbv2) (fun _ _ => id)
     have HLI := hide (lies_of_bytesIn (bytesIn_of_owns hownx rfl))
     clear hownx hb2 hbv2 HRL HBL HLY HBX
     go_wp2_with (at_builtin; refine wpList_app _ rfl (.tmp 82) (.tmp 83) 44 rfl 5 i0 (.int .u8 0) 1 1 Tryz.underlying44 hi hz0 hz1 hz2 rfl (by decide) _ L.length (L.map B) rfl (owns_base HR2.out (fun _ _ => Nat.zero_le _)) _ T.length (T.map B) rfl (by simp) HLI.out (one_bytes _) ?c4 ?c5 ?_)
     case c4 => unfold maxLen; omega
     case c5 => omega
     intro v11 w11 hown11 hg11 ho11
     have h11 := rowB_app HR2.out HB2.out hown11 hg11 ho11
     have HE : Hid (RowB w3 w11 v11 (L ++ T) ∧ Below w3.heap.size w3 w11) := h11
     clear h11 hown11 hg11 ho11 HR2 HB2 HLI
     go_wp2
     all_goals go_roundw
     case rel => exact ⟨m + 1, L ++ T, _, rfl, by omega, by go_num, HE.out.1, HE.out.2, by rw [List.length_append]; omega, by rw [List.length_append]; omega, fun e => by omega⟩
     case measure => simp [intOf]; omega
    ·have hme : m = qs.length := by omega
     have hstr : Lib.strCells tail = tail.data.toList.map B := strCells_eq tail
     have htz : tail.data.toList.length = tail.size := by rw [Array.length_toList]; rfl
     have HRL := hide hrl
     have HBL := hide hbl
     have HL3 := hide hl3
     have HME := hide hme
     have HSTR := hide hstr
     have HTZ := hide htz
     clear hrl hbl hl3 hme hstr htz
     go_wp2_with (at_builtin; refine wpList_app_str _ rfl (.tmp 85) (.tmp 86) 44 9 rfl 5 i0 Tryz.underlying44 Tryz.underlying9 hi hz0 hz1 hz2 _ L.length (L.map B) rfl (owns_base HRL.out (fun _ _ => Nat.zero_le _)) tail rfl ?c3 ?c4 ?_)
     case c3 => unfold maxLen; omega
     case c4 => omega
     intro v8 w8 hown8 hg8 hfr8
     rw [HSTR.out] at hown8
     have h8 := rowB_app (r := tail.data.toList) HRL.out HBL.out (by rw [HTZ.out]; exact hown8) hg8 hfr8
     obtain ⟨A, hA⟩ : ∃ A, A = L ++ tail.data.toList := ⟨_, rfl⟩
     have hAl : A.length ≤ 17 + 70 * m + tail.size := by rw [hA, List.length_append, HTZ.out]; omega
     have hA1 : 10 ≤ A.length := by rw [hA, List.length_append]; omega
     have hA0 : qs.length = 0 → tail.size = 0 → A = L0 := fun e1 e2 => by
      have e3 : tail.data.toList = [] := List.eq_nil_of_length_eq_zero (by rw [HTZ.out]; exact e2)
      rw [hA, e3, List.append_nil]
      exact HL3.out (by have := HME.out; omega)
     rw [← hA] at h8
     obtain ⟨hr8, hb8⟩ := h8
     obtain ⟨ab, acap, hv8, hacap, hablt, habge⟩ : ∃ ab acap, v8 = .slice (some ⟨ab, 0, none⟩) A.length acap ∧ A.length ≤ acap ∧ ab < w8.heap.size ∧ w3.heap.size ≤ ab := by
      rcases hr8.2 with ⟨-, e⟩ | ⟨g, cap, cur, e1, e2, e3, e4, -⟩
      ·omega
      ·exact ⟨g, cap, e1, e4, lt_of_block e3, e2⟩
     subst hv8
     have htail8 : Tail w8 ab 0 acap A := ⟨hablt, hacap, fun i hi => by
      have := hr8.cellAt i (by omega)
      rw [Nat.zero_add, this, List.getElem?_map, List.getElem?_eq_getElem hi]
      show some (B A[i]) = _
      rw [getD_lt _ _ _ hi]⟩
     have hnA : ∀ j, (Value.slice (some ⟨ab, 0, none⟩) A.length acap).ownBlock = some j → ¬ Fa j := fun j hj e => by
      simp [Value.ownBlock] at hj
      have := HSA.out.st.lt e
      omega
     have hsa8 := HSA.out.below hb8
     have hsb8 := HSB.out.below hb8
     have hgl8 : Gl w8 := HGL3.out.below hb8
     have hgeA : ∀ j, j < 7 → ¬ Fa j := fun j hj e => by have := HFAW.out j e; omega
     have hgeB : ∀ j, j < 7 → ¬ Fb j := fun j hj e => by have := HFBW.out j e; omega
     have HFEED := hide (cx_feed hsa8 HWN.out.ok hgl8 hgeA (htail8.bytes (Below.refl _ _)) hnA (by omega))
     -- behind the first Feed
     have HAFT : Hid (∀ w9, GoF w8 w9 ea Fa (P0.fed A) → ∃ Fa', StF w9 ea Fa' (P0.fed A) ∧ StF w9 eb Fb P0 ∧ (∀ j, Fa' j → ¬ Fb j) ∧ Tail w9 ab 0 acap A ∧ ¬ Fb ab ∧ ab < w9.heap.size ∧ Gl w9 ∧ (∀ j, Fa' j → w.heap.size ≤ j) ∧ Below w.heap.size w w9) := fun w9 h9 => by
      obtain ⟨Fa', a1, a2, a3⟩ := h9
      have hbw8 : Below w.heap.size w w8 := HB3.out.trans (hb8.mono HB3.out.size)
      refine ⟨Fa', a1, hsb8.chg a2 (fun j hj e => HSEP.out j e hj), fun j hj e => ?_, ⟨Nat.lt_of_lt_of_le hablt a2.size, hacap, fun i hi => ?_⟩, fun e => ?_, Nat.lt_of_lt_of_le hablt a2.size, hgl8.chg a2 hgeA, fun j hj => ?_, below_of_chg hbw8 a2 HFAW.out⟩
      ·rcases a3 j hj with c | c
       ·exact HSEP.out j c e
       ·have := hsb8.st.lt e; omega
      ·rw [a2.cell (p := ⟨ab, 0 + i, none⟩) hablt (hnA ab rfl)]
       exact htail8.cell i hi
      ·have := HSB.out.st.lt e; omega
      ·rcases a3 j hj with c | c
       ·exact HFAW.out j c
       ·exact Nat.le_trans hbw8.size c
     have HGEB := hide hgeB
     have HA0 := hide hA0
     have hwA := well_fed HWN.out A
     have HWA := hide hwA
     have HFAB : Hid ((P0.fed A).bare = P0.fed A) := fed_is P0 HPB.out A
     generalize hfau : (P0.fed A).g.m.fault = fau at *
     have HFAU := hide hfau
     clear hown8 hg8 hfr8 hA hA0 hr8 hb8 htail8 hnA hsa8 hsb8 hgl8 hgeA hgeB hwA hfau HRL HBL HL3 HSTR HTZ HSA HSB HGL3
     go_wp2_with fail
     refine HFEED.out.mono ?_
     rintro e w9 ⟨rfl, hgo⟩
     obtain ⟨Fa', hA9, hB9, hsep9, htl9, hab9, hablt9, hgl9, hFaw9, hbw9⟩ := HAFT.out w9 hgo
     have HA9 := hide hA9
     have HB9 := hide hB9
     have HSEP9 := hide hsep9
     have HTL9 := hide htl9
     have HAB9 := hide hab9
     have HGL9 := hide hgl9
     have HFAW9 := hide hFaw9
     have HBW9 := hide hbw9
     clear hgo hA9 hB9 hsep9 htl9 hab9 hgl9 hFaw9 hbw9 HAFT HFEED HSEP HFAW
     go_wp2
     go_loopw [15, 20] (fun lv j wr => ∃ (k : Nat) (done rest : List UInt8) (off cap : Nat) (wv : World), wv = wr ∧ k ≤ nc ∧ j = .int .i64 (k : Int) ∧ lv = .slice (some ⟨ab, off, none⟩) rest.length cap ∧ done ++ rest = A ∧ Tail wv ab off cap rest ∧ GoF w9 wv eb Fb (P0.fed done)) (fun _ j _ => nc - (intOf j).toNat)
     case atStart => exact ⟨0, [], A, 0, acap, _, rfl, Nat.zero_le _, rfl, rfl, rfl, HTL9.out, Fb, HB9.out, Chg.refl _ _, fun j hj => Or.inl hj⟩
     case round =>
      obtain ⟨m2, done, rest, off2, cap2, wv2, hwv2, hm2, rfl, rfl, hda, htl2, hgo2⟩ := hrel
      subst hwv2
      have hrl2 : rest.length ≤ A.length := by rw [← hda, List.length_append]; omega
      have hcap2 := htl2.cap
      -- one more Feed of the second end
      have HSTEP : Hid (∀ n, n ≤ rest.length → Calls Tryz.prog 16 #[.pointer (some ⟨eb, 0, none⟩), .slice (some ⟨ab, off2, none⟩) n cap2] wv2 fun e w' => e = .returned (.int .i64 (P0.fed (done ++ rest.take n)).g.m.fault) ∧ GoF w9 w' eb Fb (P0.fed (done ++ rest.take n)) ∧ Tail w' ab off2 cap2 rest) := fun n hn => by
       obtain ⟨Fb', b1, b2, b3⟩ := hgo2
       have hnb : ¬ Fb' ab := fun e => by
        rcases b3 ab e with c | c
        ·exact HAB9.out c
        ·omega
       have hwd := well_fed HWN.out done
       have hbyt := (htl2.take hn).bytes (Below.refl _ _)
       rw [show (rest.take n).length = n from by simp; omega] at hbyt
       refine (cx_feed b1 hwd.ok (HGL9.out.chg b2 HGEB.out) (fun j hj e => ?_) hbyt (fun j hj e => ?_) (by simp; omega)).mono ?_
       ·rcases b3 j e with c | c
        ·exact HGEB.out j hj c
        ·have := HGL9.out.lt; omega
       ·simp [Value.ownBlock] at hj
        subst hj
        exact hnb e
       rintro e w' ⟨rfl, hg⟩
       rw [← fed_append] at hg ⊢
       refine ⟨rfl, GoF.trans b2 b3 hg, ?_⟩
       obtain ⟨Fb2, c1, c2, c3⟩ := hg
       exact ⟨Nat.lt_of_lt_of_le htl2.lt c2.size, htl2.cap, fun i hi => by rw [c2.cell (p := ⟨ab, off2 + i, none⟩) htl2.lt hnb]; exact htl2.cell i hi⟩
      by_cases hlt2 : m2 < nc ∧ 0 < rest.length
      ·obtain ⟨hlt3, hlt4⟩ := hlt2
       obtain ⟨cb, coff, zk, hsc, hcb, hck, hzk⟩ := HCU.out m2 hlt3
       subst hsc
       have hbwv : Below w.heap.size w wv2 := by
        obtain ⟨Fb', b1, b2, b3⟩ := hgo2
        exact below_of_chg HBW9.out b2 HFBW.out
       have hck2 := (hbwv.cell (p := ⟨cb, coff + m2, none⟩) hcb).trans hck
       have HZ := hide hzk
       have HTL2 := hide htl2
       have HDA := hide hda
       clear hck hzk htl2 hgo2 hbwv hda
       go_wp2_with fail
       refine (pick_fun zk ((rest.length : Int) + 1) _ (by omega) HZ.out).mono ?_
       rintro e w' ⟨rfl, hw'⟩
       subst hw'
       obtain ⟨b0, b1⟩ := pkI_bounds zk (n := (rest.length : Int) + 1) (by omega)
       obtain ⟨n, hn3⟩ := Int.eq_ofNat_of_zero_le b0
       rw [hn3] at b1 ⊢
       have hn4 : n ≤ rest.length := by omega
       have HST := hide (HSTEP.out n hn4)
       clear hn3 b0 b1 HSTEP
       go_wp2_with fail
       refine HST.out.mono ?_
       rintro e w10 ⟨rfl, hg10, ht10⟩
       have HG10 := hide hg10
       have HT10 := hide ht10
       clear hg10 ht10 HST hck2
       go_wp2
       refine ⟨?_, by simp [intOf]; omega⟩
       have hdl : (rest.drop n).length = rest.length - n := by simp
       have hdd : (done ++ rest.take n) ++ rest.drop n = A := by rw [List.append_assoc, List.take_append_drop]; exact HDA.out
       by_cases hcn : cap2 = n
       ·rw [if_pos hcn]
        refine ⟨m2 + 1, done ++ rest.take n, rest.drop n, off2, cap2 - n, _, rfl, by omega, by go_num, by rw [hdl], hdd, ?_, HG10.out⟩
        have h9 := HT10.out
        rw [hcn] at h9
        rw [hcn, Nat.sub_self]
        exact h9.dropAll hn4
       ·rw [if_neg hcn]
        exact ⟨m2 + 1, done ++ rest.take n, rest.drop n, off2 + n, cap2 - n, _, rfl, by omega, by go_num, by rw [hdl], hdd, HT10.out.drop hn4, HG10.out⟩
      ·have hst := HSTEP.out rest.length (Nat.le_refl _)
       rw [List.take_length, hda] at hst
       rw [HFAU.out] at hst
       have HST := hide hst
       -- behind the last Feed
       have HFIN : Hid (∀ w10, GoF w9 w10 eb Fb (P0.fed A) → Calls Tryz.prog 17 #[.pointer (some ⟨ea, 0, none⟩), .pointer (some ⟨eb, 0, none⟩)] w10 fun e w11 => e = .returned (.bool true) ∧ Calls Tryz.prog 18 #[.pointer (some ⟨ea, 0, none⟩), .slice none 0 0, .bool false] w11 fun e w12 => (∃ n : Int, e = .returned (.tuple #[.int .i64 n, .int .i64 (if fau = 0 then 0 else 7)]) ∧ (fau = 0 → 0 < n)) ∧ Below w.heap.size w w12) := fun w10 h10 => by
        obtain ⟨Fb2, b1, b2, b3⟩ := h10
        have hbw10 : Below w.heap.size w w10 := below_of_chg HBW9.out b2 HFBW.out
        have htw : Two w10 ea eb Fa' Fb2 (P0.fed A) := by
         refine ⟨(HA9.out.chg b2 (fun j hj e => HSEP9.out j hj e)).st, b1.st, fun j hj e => ?_⟩
         rcases b3 j e with c | c
         ·exact HSEP9.out j hj c
         ·have := HA9.out.st.lt hj; omega
        refine (kalike_any ea eb Fa' Fb2 (P0.fed A) w10 htw HWA.out.meek (fun n => Nat.le_trans (HWA.out.hs n) (by omega))).mono ?_
        rintro e w11 ⟨rfl, Q, hgt, hqf, hqo⟩
        obtain ⟨⟨Ga, Gb, g1, g2, g3⟩, gc⟩ := hgt
        have hbw11 : Below w.heap.size w w11 := below_of_chg hbw10 gc (fun j hj => by
         rcases hj with e | e
         ·exact HFAW9.out j e
         ·rcases b3 j e with c | c
          ·exact HFBW.out j c
          ·exact Nat.le_trans HBW9.out.size c)
        have hqf : Q.g.m.fault = fau := hqf.trans HFAU.out
        refine ⟨rfl, (cx_open g1.a (fun e => hqo (ok_open (HWA.out.ok (HFAU.out.trans (hqf.symm.trans e)))))).mono ?_⟩
        rintro e w12 ⟨h1, h2⟩
        rw [hqf] at h1
        refine ⟨h1, below_of_chg hbw11 h2 (fun j hj => ?_)⟩
        rcases g2 j hj with c | c
        ·exact HFAW9.out j c
        ·exact Nat.le_trans hbw10.size c
       have HF00 : Hid (qs.length = 0 → tail.size = 0 → fau = 0) := fun e1 e2 => by
        rw [← HFAU.out, HA0.out e1 e2]; exact HFO.out
       clear hst htl2 hgo2 hda HSTEP HA9 HB9 HSEP9 HTL9 HAB9 HGL9 HFAW9 HBW9 HWA HFAB HFAU HFS HCU HGEB HA0 HWN HFO HPB HFBW HME
       by_cases hlt3 : m2 < nc
       ·have hz1 : rest.length ≤ 0 := by omega
        clear hlt2
        go_wp2_with fail
        refine HST.out.mono ?_
        rintro e w10 ⟨rfl, hg10, -⟩
        have HAL := hide (HFIN.out w10 hg10)
        clear hg10 HFIN HST
        go_upto_region 26 with fail
        go_cut [136] from 121 (fun s136 wx => s136 = .bool false ∧ wx = w10)
        case first =>
         by_cases hq0 : qs.length = 0
         ·by_cases ht0 : tail.size = 0
          ·have hf0 := HF00.out hq0 ht0
           have he : tail.toList.isEmpty = true := by
            have : tail.toList.length = tail.size := by rw [ba_toList]; rw [Array.length_toList]; rfl
            rw [List.isEmpty_iff]
            exact List.eq_nil_of_length_eq_zero (by omega)
           have hq1 : ((qs.length : Int) == 0) = true := by simp [hq0]
           subst hf0
           clear HF00 hq0 ht0
           go_wp2
           go_meet
           simp
          ·have he : tail.toList.isEmpty = false := by
            have : tail.toList.length = tail.size := by rw [ba_toList]; rw [Array.length_toList]; rfl
            cases hx : tail.toList with
            | nil => rw [hx] at this; simp at this; omega
            | cons y r => rfl
           have hq1 : ((qs.length : Int) == 0) = true := by simp [hq0]
           clear HF00 hq0
           go_wp2
           go_meet
           simp
         ·have hq1 : ((qs.length : Int) == 0) = false := beq_eq_false_iff_ne.2 (by omega)
          clear HF00 hq0
          go_wp2
          go_meet
          simp
        case rest =>
         obtain ⟨hs136, hwc⟩ := hcut
         subst hs136
         rw [hwc]
         clear hwc HF00
         go_wp2_with fail
         refine HAL.out.mono ?_
         rintro e w11 ⟨rfl, hr⟩
         have HOP := hide hr
         clear hr HAL
         go_wp2_with fail
         refine HOP.out.mono ?_
         rintro e w12 ⟨⟨n, rfl, hnp⟩, hb12⟩
         have HB12 := hide hb12
         clear hb12 HOP
         by_cases hf0 : fau = 0
         ·have hn0 := hnp hf0
          subst hf0
          rw [if_pos rfl]
          clear hnp
          go_wp2
          go_ret
          exact ⟨rfl, HB12.out⟩
         ·have hf1 : (fau == 0) = false := by simp [hf0]
          rw [if_neg hf0]
          clear hnp hf0
          go_wp2
          go_ret
          exact ⟨rfl, HB12.out⟩
       ·clear hlt2
        go_wp2_with fail
        refine HST.out.mono ?_
        rintro e w10 ⟨rfl, hg10, -⟩
        have HAL := hide (HFIN.out w10 hg10)
        clear hg10 HFIN HST
        go_upto_region 26 with fail
        go_cut [136] from 121 (fun s136 wx => s136 = .bool false ∧ wx = w10)
        case first =>
         by_cases hq0 : qs.length = 0
         ·by_cases ht0 : tail.size = 0
          ·have hf0 := HF00.out hq0 ht0
           have he : tail.toList.isEmpty = true := by
            have : tail.toList.length = tail.size := by rw [ba_toList]; rw [Array.length_toList]; rfl
            rw [List.isEmpty_iff]
            exact List.eq_nil_of_length_eq_zero (by omega)
           have hq1 : ((qs.length : Int) == 0) = true := by simp [hq0]
           subst hf0
           clear HF00 hq0 ht0
           go_wp2
           go_meet
           simp
          ·have he : tail.toList.isEmpty = false := by
            have : tail.toList.length = tail.size := by rw [ba_toList]; rw [Array.length_toList]; rfl
            cases hx : tail.toList with
            | nil => rw [hx] at this; simp at this; omega
            | cons y r => rfl
           have hq1 : ((qs.length : Int) == 0) = true := by simp [hq0]
           clear HF00 hq0
           go_wp2
           go_meet
           simp
         ·have hq1 : ((qs.length : Int) == 0) = false := beq_eq_false_iff_ne.2 (by omega)
          clear HF00 hq0
          go_wp2
          go_meet
          simp
        case rest =>
         obtain ⟨hs136, hwc⟩ := hcut
         subst hs136
         rw [hwc]
         clear hwc HF00
         go_wp2_with fail
         refine HAL.out.mono ?_
         rintro e w11 ⟨rfl, hr⟩
         have HOP := hide hr
         clear hr HAL
         go_wp2_with fail
         refine HOP.out.mono ?_
         rintro e w12 ⟨⟨n, rfl, hnp⟩, hb12⟩
         have HB12 := hide hb12
         clear hb12 HOP
         by_cases hf0 : fau = 0
         ·have hn0 := hnp hf0
          subst hf0
          rw [if_pos rfl]
          clear hnp
          go_wp2
          go_ret
          exact ⟨rfl, HB12.out⟩
         ·have hf1 : (fau == 0) = false := by simp [hf0]
          rw [if_neg hf0]
          clear hnp hf0
          go_wp2
          go_ret
          exact ⟨rfl, HB12.out⟩
end Go.Proofs.YtdccldbefdfppaaGreatDoor
