import Derived.Test.YtdifgcppmnmagaaGreatDoorWGab
import Derived.Test.YtdifgcppmnmagaaGreatDoorWGad
import Derived.Deep.RegionWith
import Derived.Deep.DeepCutAuto
import Derived.Deep.RegionHeld3
import Derived.Lib.SliceRun
set_option linter.unusedVariables false
set_option linter.unusedSimpArgs false
/-
  (*sluicelaw.World).frames, at KWrite.
-/
namespace Go.Proofs.YtdifgcppmnmagaaGreatDoor
open Go.RowKit

theorem KeptB.chg {w w' : World} {b len : Nat} {cs : Array Value} {kv v : Value} {recs : List RecB} (h : KeptB w w' b cs kv v recs len) : Chg (fun j => j = b ∨ kv.ownBlock = some j ∨ v.ownBlock = some j) w w' := by
  obtain ⟨_, _, _, _, _, _, _, _, _, h, _⟩ := h
  exact h
theorem kept_other {w w' : World} {b len : Nat} {cs : Array Value} {kv v : Value} {recs : List RecB} (h : KeptB w w' b cs kv v recs len) {w0 base j : Nat} (hj : j < w.heap.size) (h0 : w0 ≤ j) (hb : b < w0) (hk : ∀ i, kv.ownBlock = some i → i < w0) (hv : ∀ i, v.ownBlock = some i → base ≤ i) (hjb : j < base) : w'.heap[j]? = w.heap[j]? := by
  refine h.chg.block j hj ?_
  rintro (e | e | e)
  · omega
  · have := hk j e; omega
  · have := hv j e; omega
theorem lpick_at (c : Int) (n j : Nat) (w : World) (hn : 0 < n) (hc : I64 c) (hj : pkI c n = (j : Int)) :
    Calls Tryz.prog 20 #[.int .i64 c, .int .i64 n] w fun e w' => e = .returned (.int .i64 j) ∧ w' = w := by
  rw [← hj]; exact lpick_fun c n w (by omega) hc
theorem pk_nat (c : Int) {n : Nat} (hn : 0 < n) : ∃ j : Nat, pkI c n = (j : Int) ∧ j < n := by
  obtain ⟨h0, h1⟩ := pkI_bounds c (n := (n : Int)) (by omega)
  exact ⟨(pkI c n).toNat, by omega, by omega⟩

set_option maxRecDepth 100000 in
set_option maxHeartbeats 6400000 in
theorem frames_none (b : Nat) (gH gC gS rv kv fv : Value) (sf : Option Addr) (cf : Nat) (A B' C : Int) (S : ByteArray) (w : World) (hb : w.heap[b]? = some (.cells (lw (.slice sf 0 cf) gH gC gS rv kv fv) 46 (0, 0))) :
    Calls Tryz.prog 10 #[.pointer (some ⟨b, 0, none⟩), .agg #[.int .i64 1, .int .i64 A, .int .i64 B', .int .i64 C, .string S]] w fun e w' => e = .returned (.bool true) ∧ Below w.heap.size w w' := by
  have hlt := lt_of_block hb
  have g0 : w.cell? ⟨b, 0, none⟩ = some (.slice sf 0 cf) := by rw [cell_of_row w b _ _ _ _ hb]; rfl
  clear hb
  go_enter Tryz.func10, Tryz.ntmps10
  go_wp2
  go_ret
  exact ⟨rfl, (Below.refl _ _).alloc (Nat.le_refl _) _⟩

set_option maxRecDepth 100000 in
set_option maxHeartbeats 6400000 in
theorem frames_write (W0 V0 : World) (b : Nat) (gH gC gS kv : Value) (sf : Option Addr) (cf : Nat) (qs : List (Fr × Value)) (A B' C : Int) (S : ByteArray) (recs : List RecB) (w : World) (hA : I64 A) (hq0 : 0 < qs.length)
    (hf : FsIn W0 sf qs) (_hql : qs.length ≤ 4194304) (hI : WInv W0 V0 w b (.slice sf qs.length cf) gH gC gS kv recs) (hn : recs.length ≤ 67108864) :
    Calls Tryz.prog 10 #[.pointer (some ⟨b, 0, none⟩), .agg #[.int .i64 1, .int .i64 A, .int .i64 B', .int .i64 C, .string S]] w fun e w' => e = .returned (.bool true) ∧ ∃ kv' r, WInv W0 V0 w' b (.slice sf qs.length cf) gH gC gS kv' (recs ++ [r]) := by
  have hlt := lt_of_block hI.bk.blk
  have g0 : w.cell? ⟨b, 0, none⟩ = some (.slice sf qs.length cf) := by rw [cell_of_row w b _ _ _ _ hI.bk.blk]; rfl
  obtain ⟨j, hj, hjl⟩ := pk_nat A hq0
  obtain ⟨fb, off, hsf, hfb, a0, a1, a2, a3⟩ := (hf.below hI.bel).cell j hjl
  subst hsf
  obtain ⟨q, hq⟩ : ∃ q, q = qs[j] := ⟨_, rfl⟩
  have hqm : q ∈ qs := by rw [hq]; exact List.getElem_mem _
  rw [← hq] at a0 a1 a2 a3
  have hqb := hf.body q hqm
  have hqn := hf.len q hqm
  obtain ⟨⟨qk, qf, qst, qb⟩, qv⟩ := q
  simp only at a0 a1 a2 a3 hqb hqn
  obtain ⟨sq, cq, rfl⟩ := bytesA_len hqb
  have HQ := hide hqb
  have HI := hide hI
  have HF := hide hf
  have HJ := hide hj
  have HA := hide hA
  clear hqb hI hf hq hqm hj hA
  go_enter Tryz.func10, Tryz.ntmps10
  go_upto_region 2 with fail
  go_cut [5] (fun s5 wx => s5 = .pointer (some ⟨w.heap.size + 1, 0, none⟩) ∧ wx = ((w.alloc (.cells #[.int .i64 1, .int .i64 A, .int .i64 B', .int .i64 C, .string S] 49)).alloc (.cells #[.int .i64 qk, .int .i64 qf, .int .i64 qst, .slice sq qb.length cq] 56)).drew)
  case first =>
    go_region_held3 (fun w' => w'.cell? ⟨b, 0, none⟩ = some (.slice (some ⟨fb, off, none⟩) qs.length cf) ∧ w'.cell? ⟨w.heap.size, 1, none⟩ = some (.int .i64 A) ∧ w'.cell? ⟨fb, off + j * 4, none⟩ = some (.int .i64 qk) ∧ w'.cell? ⟨fb, off + j * 4 + 1, none⟩ = some (.int .i64 qf) ∧
        w'.cell? ⟨fb, off + j * 4 + 2, none⟩ = some (.int .i64 qst) ∧ w'.cell? ⟨fb, off + j * 4 + 3, none⟩ = some (.slice sq qb.length cq)) (go_keep)
      (first | (go_at_call 20; refine (lpick_at A qs.length j _ hq0 HA.out HJ.out).mono ?_; rintro e w' ⟨rfl, rfl⟩))
    all_goals (go_wp2_with fail; go_meet; exact ⟨rfl, rfl⟩)
  case rest =>
    obtain ⟨rfl, hwc⟩ := hcut
    obtain ⟨wa, hwa⟩ : ∃ wa, wa = wc := ⟨wc, rfl⟩
    subst hwa
    have hbc : Below w.heap.size w wa := by
      rw [hwc]
      have h := ((Below.refl w.heap.size w).alloc (Nat.le_refl _) (.cells #[.int .i64 1, .int .i64 A, .int .i64 B', .int .i64 C, .string S] 49)).alloc (by simp) (.cells #[.int .i64 qk, .int .i64 qf, .int .i64 qst, .slice sq qb.length cq] 56)
      exact ⟨h.os, h.tape, h.output, h.size, h.block⟩
    have hfc : wa.heap[w.heap.size + 1]? = some (.cells #[.int .i64 qk, .int .i64 qf, .int .i64 qst, .slice sq qb.length cq] 56 (0, 0)) := by
      have h := heap_alloc_new (w.alloc (.cells #[.int .i64 1, .int .i64 A, .int .i64 B', .int .i64 C, .string S] 49)) (.cells #[.int .i64 qk, .int .i64 qf, .int .i64 qst, .slice sq qb.length cq] 56)
      have e : (w.alloc (.cells #[.int .i64 1, .int .i64 A, .int .i64 B', .int .i64 C, .string S] 49)).heap.size = w.heap.size + 1 := by simp
      rw [e] at h
      rw [hwc]
      exact h
    have hszc := lt_of_block hfc
    obtain ⟨f0, f1, f2, f3, -⟩ := frame_block hfc
    have HBW := hide (HI.out.bel.trans (hbc.mono HI.out.bel.size))
    have hcv := conv_bytesA (HQ.out.chg (Chg.of_below HBW.out))
    have HFC := hide hfc
    have HBC := hide hbc
    clear hwc hfc hbc a0 a1 a2 a3 g0
    go_wp2_with fail
    refine (lent_any qb wa (by omega)).mono ?_
    rintro e w1 ⟨rfl, hlent, hb1⟩
    have hfc1 := told_kept HFC.out hb1
    have HL1 := hide hlent
    have HFC1 := hide hfc1
    have hsz1 := lt_of_block hfc1
    have hsl1 := lt_of_block hlent
    have HB1 := hide hb1
    obtain ⟨g0, g1, g2, g3, -⟩ := frame_block hfc1
    clear hcv f0 f1 f2 f3 hlent hfc1 hb1
    have hnil : ∀ w' : World, (binOp .eql 54 (.slice sq qb.length cq) (.slice none 0 0)).run Tryz.prog w' = .ok (.bool sq.isNone) w' := fun w' => Lib.run_eql_slice_nil w' 54 5 sq _ _ _ _ Tryz.underlying54
    go_upto_if 61 with fail
    go_cut [] (fun wx => ∃ sv cv, wx.heap[w1.heap.size]? = some (.cells #[.int .i64 qk, .int .i64 qf, .int .i64 qst, .slice sv qb.length cv] 56 (0, 0)) ∧ BytesIn wx (.slice sv qb.length cv) qb ∧ Below w1.heap.size w1 wx)
    case first =>
      rcases sq with - | ad
      · obtain ⟨hq0', hc0⟩ : qb = [] ∧ cq = 0 := by
          rcases HQ.out with (⟨h1, h2⟩ | ⟨_, _, _, h1, _⟩) | ⟨_, h1, _⟩
          · simp only [Value.slice.injEq] at h1
            exact ⟨h2, h1.2.2⟩
          · simp at h1
          · simp at h1
        subst hq0' hc0
        go_wp2_with fail
        go_meet
        exact ⟨none, 0, heap_at rfl, Or.inl ⟨rfl, rfl⟩, (Below.refl _ _).alloc (Nat.le_refl _) _⟩
      · go_wp2_with fail
        go_meet
        exact ⟨some ⟨wa.heap.size, 0, none⟩, qb.length + 4, heap_at rfl, lent_bytes (told_kept HL1.out ((Below.refl _ _).alloc (Nat.le_refl _) _)) (by omega), (Below.refl _ _).alloc (Nat.le_refl _) _⟩
    case rest =>
      obtain ⟨sv, cv, hin, hsv, hbx⟩ := hcut
      obtain ⟨w3, hw3⟩ : ∃ w3, w3 = wc := ⟨wc, rfl⟩
      subst hw3
      have hfc3 := told_kept HFC1.out hbx
      have hl3 := told_kept HL1.out hbx
      have hB3 : Below w.heap.size w w3 := HBC.out.trans ((HB1.out.trans (hbx.mono HB1.out.size)).mono HBC.out.size)
      have hs3 := lt_of_block hfc3
      have hs4 := lt_of_block hl3
      have HL3 := hide hl3
      have HFC3 := hide hfc3
      have HB3 := hide hB3
      have HSV := hide hsv
      obtain ⟨i0, i1, i2, i3, -⟩ := frame_block hin
      clear hin hsv hbx hfc3 hl3 hB3 g0 g1 g2 g3 HL1 HFC1 HB1 HFC
      obtain ⟨cc, hcc⟩ : ∃ cc : Int, cc = if wOk qk qf qst qb then 0 else 1 := ⟨_, rfl⟩
      obtain ⟨ll, hll⟩ : ∃ ll : List UInt8, ll = if wOk qk qf qst qb then lay qk qf qst qb else [] := ⟨_, rfl⟩
      have HCC := hide hcc
      have HLL := hide hll
      clear hcc hll
      go_wp2_with fail
      refine (write_any qk qf qst sv qb cv _ HSV.out).mono ?_
      rintro e w4 ⟨lv, he, hlv, hlnil, hb4⟩
      rw [← HCC.out] at he
      rw [← HLL.out] at hlv
      subst he
      have hfc4 := told_kept HFC3.out hb4
      have hl4 := told_kept HL3.out hb4
      have hB4 : Below w.heap.size w w4 := HB3.out.trans (hb4.mono HB3.out.size)
      have HL4 := hide hl4
      have HFC4 := hide hfc4
      have HB4 := hide hB4
      have HLV := hide hlv
      have HLN := hide hlnil
      have h34 : w3.heap.size ≤ w4.heap.size := hb4.size
      obtain ⟨g0, g1, g2, g3, -⟩ := frame_block hfc4
      clear hfc4 hl4 hb4 hB4 hlv hlnil i0 i1 i2 i3 HSV HL3 HFC3
      go_wp2_with fail
      refine (rWrite_any qk qf qst sq qb cq _ (by omega) (HQ.out.chg (Chg.of_below (HI.out.bel.trans (HB4.out.mono HI.out.bel.size))))).mono ?_
      rintro e w5 ⟨mv, he, hmv, hb5⟩
      rw [← HCC.out] at he
      rw [← HLL.out] at hmv
      subst he
      have hfc5 := told_kept HFC4.out hb5
      have hl5 := told_kept HL4.out hb5
      have hlv5 := owns_chg (HLV.out) (Chg.of_below (S := fun _ => False) hb5) (fun _ _ => id)
      have HB5 := hide (HB4.out.trans (hb5.mono HB4.out.size))
      have h45 : w4.heap.size ≤ w5.heap.size := hb5.size
      have HL5 := hide hl5
      have HFC5 := hide hfc5
      obtain ⟨sl, cl, rfl⟩ := slice_len hlv5
      obtain ⟨sm, cm, rfl⟩ := slice_len hmv
      have HLV5 := hide hlv5
      have HMV := hide hmv
      clear hfc5 hl5 hb5 hlv5 hmv g0 g1 g2 g3 HLV HL4 HFC4 HB4
      have hnil2 : ∀ w' : World, (binOp .eql 54 (.slice sl ll.length cl) (.slice none 0 0)).run Tryz.prog w' = .ok (.bool sl.isNone) w' := fun w' => Lib.run_eql_slice_nil w' 54 5 sl _ _ _ _ Tryz.underlying54
      go_upto_region 10 with fail
      go_cut [12] (fun s12 wx => s12 = .bool true ∧ wx = w5)
      case first =>
        go_wp2_with fail
        refine (sameBytes_true (.slice sl ll.length cl) (.slice sm ll.length cm) ll _ (bytesIn_of_owns (by simpa using HLV5.out) rfl) (bytesIn_of_owns (by simpa using HMV.out) rfl)).mono ?_
        rintro e w' ⟨rfl, hw'⟩
        rw [hw']
        clear hw' w'
        go_wp2_with fail
        refine (num_any cc _).mono ?_
        rintro e w' ⟨rfl, hw'⟩
        rw [hw']
        clear hw' w'
        rcases sl with - | ad
        · go_wp2_with fail
          go_meet
          exact ⟨rfl, rfl⟩
        · have hc0 : (cc == 0) = true := by
            cases hok : wOk qk qf qst qb with
            | true => rw [HCC.out, hok]; rfl
            | false => have := HLN.out hok; simp at this
          go_wp2_with fail
          go_meet
          exact ⟨rfl, rfl⟩
      case rest =>
        obtain ⟨rfl, hwx⟩ := hcut
        rw [hwx]
        clear hwx wc hnil hnil2
        have hI5 := HI.out.below HB5.out
        have hlb : ∀ i, (Value.slice sl ll.length cl).ownBlock = some i → w3.heap.size ≤ i := fun i hi => (HLV5.out.lt i hi).1
        have hkb : ∀ i, kv.ownBlock = some i → i < w.heap.size := fun i hi => owns_lt HI.out.bk.rowB hi
        have hlen : ll.length ≤ 4294967296 := by
          rw [HLL.out]
          split
          · rw [lay_length]; omega
          · simp
        have HI5 := hide hI5
        have HLB := hide hlb
        have HKB := hide hkb
        clear hI5 hlb hkb
        go_wp2_with fail
        refine (keepBytes_any b (lw (.slice (some ⟨fb, off, none⟩) qs.length cf) gH gC gS (.slice none 0 0) kv (.slice none 0 0)) kv (.slice sl ll.length cl) recs ll w3.heap.size _ HI5.out.bk.blk rfl HI5.out.bk.rowB HLV5.out (by omega) hlen).mono ?_
        rintro e w6 ⟨rfl, hkept⟩
        have hfc6 : w6.heap[w.heap.size + 1]? = some (.cells #[.int .i64 qk, .int .i64 qf, .int .i64 qst, .slice sq qb.length cq] 56 (0, 0)) := by
          rw [kept_other hkept (w0 := w.heap.size) (base := w3.heap.size) (lt_of_block HFC5.out) (by omega) hlt HKB.out HLB.out (by omega)]; exact HFC5.out
        have hl6 : w6.heap[wa.heap.size]? = some (.cells (lentL qb).toArray 5 (0, 0)) := by
          rw [kept_other hkept (w0 := w.heap.size) (base := w3.heap.size) (lt_of_block HL5.out) HBC.out.size hlt HKB.out HLB.out (by omega)]; exact HL5.out
        have hbw6 : Below W0.heap.size W0 w6 := below_of_chg HI5.out.bel hkept.chg fun i hi => by
          rcases hi with rfl | hi | hi
          · exact HI.out.b0
          · exact HI.out.kv0 i hi
          · have h1 := HLB.out i hi
            have h2 := HI.out.bel.size
            have h3 := HB3.out.size
            omega
        have hcv6 := conv_bytesA (HQ.out.chg (Chg.of_below hbw6))
        obtain ⟨g0, g1, g2, g3, -⟩ := frame_block hfc6
        have HK := hide hkept
        have HL6 := hide hl6
        clear hfc6 hl6 hbw6 hkept
        go_wp2_with fail
        refine (wholeBytes_any wa.heap.size qb _ (by omega) HL6.out).mono ?_
        rintro e w7 ⟨rfl, hch7⟩
        clear hcv6 g0 g1 g2 g3
        go_wp2
        go_ret
        exact ⟨rfl, winv_next HI.out (by omega) hlen HB5.out HLV5.out HBC.out.size hs4 (by omega) HK.out hch7⟩
end Go.Proofs.YtdifgcppmnmagaaGreatDoor
/-
  (*sluicelaw.World).step, at KWrite.
-/
namespace Go.Proofs.YtdifgcppmnmagaaGreatDoor
open Go.RowKit

/-- What stands of a script's world, by the count of steps. -/
def WI (W0 V0 w : World) (b : Nat) (gF gH gC gS : Value) (m : Nat) : Prop := ∃ kv recs, recs.length ≤ m ∧ WInv W0 V0 w b gF gH gC gS kv recs
/-- The goods of Writes. -/
def WG (w : World) (gF _ : Value) : Prop := ∃ sf cf qs, gF = .slice sf qs.length cf ∧ FsIn w sf qs ∧ qs.length ≤ 4194304

theorem frames_one (W0 V0 : World) (b : Nat) (gF gH gC gS : Value) (A B' C : Int) (S : ByteArray) (m : Nat) (w : World) (hA : I64 A) (hG : WG W0 gF gH) (hm : m ≤ 16777216) (hI : WI W0 V0 w b gF gH gC gS m) :
    Calls Tryz.prog 10 #[.pointer (some ⟨b, 0, none⟩), .agg #[.int .i64 1, .int .i64 A, .int .i64 B', .int .i64 C, .string S]] w fun e w' => e = .returned (.bool true) ∧ WI W0 V0 w' b gF gH gC gS (m + 1) := by
  obtain ⟨sf, cf, qs, rfl, hf, hq⟩ := hG
  obtain ⟨kv, recs, hr, hi⟩ := hI
  by_cases h0 : 0 < qs.length
  · refine (frames_write W0 V0 b gH gC gS kv sf cf qs A B' C S recs w hA h0 hf hq hi (by omega)).mono ?_
    rintro e w' ⟨rfl, kv', r, h⟩
    exact ⟨rfl, kv', _, by simp; omega, h⟩
  · have hz : qs.length = 0 := by omega
    have hb := hi.bk.blk
    rw [hz] at hb
    refine (frames_none b gH gC gS _ kv _ sf cf A B' C S w hb).mono ?_
    rintro e w' ⟨rfl, h⟩
    exact ⟨rfl, kv, recs, by omega, hi.below h⟩

set_option maxRecDepth 100000 in
set_option maxHeartbeats 6400000 in
theorem step_one (W0 V0 : World) (b : Nat) (gF gH gC gS : Value) (A B' C : Int) (S : ByteArray) (m : Nat) (w : World) (hA : I64 A) (hG : WG W0 gF gH) (hm : m ≤ 16777216) (hI : WI W0 V0 w b gF gH gC gS m) :
    Calls Tryz.prog 8 #[.pointer (some ⟨b, 0, none⟩), .agg #[.int .i64 1, .int .i64 A, .int .i64 B', .int .i64 C, .string S]] w fun e w' => e = .returned (.bool true) ∧ WI W0 V0 w' b gF gH gC gS (m + 1) := by
  have HG := hide hG
  have HI := hide hI
  have HA := hide hA
  clear hG hI hA
  have hI1 : ∀ o, WI W0 V0 (w.alloc o) b gF gH gC gS m := fun o => by
    obtain ⟨kv, recs, hr, hi⟩ := HI.out
    exact ⟨kv, recs, hr, hi.below ((Below.refl _ _).alloc (Nat.le_refl _) _)⟩
  have HI1 := hide hI1
  clear hI1
  go_enter Tryz.func8, Tryz.ntmps8
  go_wp2_with fail
  refine (frames_one W0 V0 b gF gH gC gS A B' C S m _ HA.out HG.out hm (HI1.out _)).mono ?_
  rintro e w' ⟨rfl, h⟩
  go_wp2
  go_ret
  exact ⟨rfl, h⟩

theorem writes_played : Played 1 1 (fun _ => True) WG WI where
  kb := fun _ _ _ _ => trivial
  new := by
    intro W0 V0 b gF gH gC gS h h0 hb
    refine ⟨.slice none 0 0, [], Nat.le_refl _, ⟨⟨h, rfl, rfl, rfl, rfl, rfl, World.ownsRow_nil _ _ _ _, World.ownsRow_nil _ _ _ _, by simp, by simp, by simp, by simp⟩, fun j hj => by simp [Value.ownBlock] at hj, h0, hb, Chg.refl _ _⟩⟩
  below := by
    rintro W0 V0 w w' b gF gH gC gS m ⟨kv, recs, hr, hi⟩ hb
    exact ⟨kv, recs, hr, hi.below hb⟩
  bel := by
    rintro W0 V0 w b gF gH gC gS m ⟨kv, recs, hr, hi⟩
    exact ⟨hi.bel, hi.chV⟩
  mono := by
    rintro W0 V0 w b gF gH gC gS m n hmn ⟨kv, recs, hr, hi⟩
    exact ⟨kv, recs, by omega, hi⟩
  bks := by
    rintro W0 V0 w b gF gH gC gS m ⟨kv, recs, hr, hi⟩ hm
    exact whole_true b _ kv _ recs [] _ hi.bk (by omega) (by simp)
  step := by
    intro W0 V0 w b gF gH gC gS m o h1 h2 hok _ hG hm hI
    obtain ⟨ok, oa, ob, oc, os⟩ := o
    obtain rfl : ok = 1 := by simp only at h1 h2; omega
    refine (step_one W0 V0 b gF gH gC gS oa ob oc os m w hok.2.1 hG (by omega) hI).mono ?_
    rintro e w' ⟨rfl, kv, recs, hr, hi⟩
    exact ⟨rfl, kv, recs, by omega, hi⟩
  known := by
    intro w' n h6 h2 _ _
    have hbd : BytesIn w' (.slice (some ⟨n + 2, 0, none⟩) 2 2) [104, 105] := by
      refine Or.inr ⟨n + 2, 0, 2, rfl, lt_of_block h2, by simp, fun i hi => ?_⟩
      have hi' : i < 2 := by simpa using hi
      rw [cell_of_row w' _ _ _ _ _ h2]
      match i, hi' with
      | 0, _ => rfl
      | 1, _ => rfl
    refine ⟨some ⟨n + 6, 0, none⟩, 1, [(⟨0, 1, 1, [104, 105]⟩, .slice (some ⟨n + 2, 0, none⟩) 2 2)], rfl, ⟨fun k hk => ?_, fun q hq => ?_, fun q hq => ?_⟩, by simp⟩
    · have hk' : k = 0 := by simpa using hk
      subst hk'
      obtain ⟨a0, a1, a2, a3, -⟩ := frame_block h6
      exact ⟨n + 6, 0, rfl, lt_of_block h6, a0, a1, a2, a3⟩
    · simp only [List.mem_cons, List.not_mem_nil, or_false] at hq
      subst hq
      exact Or.inl hbd
    · simp only [List.mem_cons, List.not_mem_nil, or_false] at hq
      subst hq
      simp
end Go.Proofs.YtdifgcppmnmagaaGreatDoor
