/-
  sluiceref.Frames.
-/
import Derived.Test.YtckeblkadiehbaaGreatKeep
import Derived.Test.YtckeblkadiehbaaGreatPureRef
import Derived.Deep.RegionWith
import Derived.Deep.DeepCutAuto
import Derived.Deep.RegionHeld3
namespace Go.Proofs.YtckeblkadiehbaaGreat
open Go.RowKit

/-- Frames, as they are read. -/
structure FrsL (w : World) (lo : Nat) (v : Value) (ps : List (Fr × Value)) : Prop where
  row : w.ownsRow lo 56 4 v ps.length (cellsOf ps)
  body : ∀ p ∈ ps, w.ownsRow lo 5 1 p.2 p.1.body.length (p.1.body.map B)

theorem FrsL.below {w w' : World} {lo : Nat} {v : Value} {ps : List (Fr × Value)} (h : FrsL w lo v ps) (hb : Below w.heap.size w w') : FrsL w' lo v ps :=
  ⟨owns_chg h.row (Chg.of_below (S := fun _ => False) hb) (fun _ _ => id), fun p hp => owns_chg (h.body p hp) (Chg.of_below (S := fun _ => False) hb) (fun _ _ => id)⟩

theorem addr_add (b o j : Nat) : (⟨b, o, none⟩ : Addr).add j = ⟨b, o + j, none⟩ := by unfold Addr.add; split <;> simp_all

theorem splice_all {bd : List UInt8} {n : Nat} {t : TypeId} (h : bd.length = n) : (some (.cells (splice (List.replicate n (Value.int .u8 0)) 0 (bd.map B)).toArray t (0, 0)) : Option Obj) = some (.cells (bd.map B).toArray t (0, 0)) := by
  have : splice (List.replicate n (Value.int .u8 0)) 0 (bd.map B) = bd.map B := by
    unfold splice
    rw [List.drop_of_length_le (by simp [h])]
    simp
  rw [this]

/-- A head, as its six bytes say it. -/
theorem hd_drop {l : List UInt8} {a : Nat} (h : a + 6 ≤ l.length) : hdOf (l.drop a) = ⟨(nOf ((l.drop a).take 2) : Int), ((l.getD (a + 2) 0).toNat : Int), ((l.getD (a + 3) 0).toNat : Int), (nOf ((l.drop (a + 4)).take 2) : Int)⟩ := by
  have hl : 6 ≤ (l.drop a).length := by simp; omega
  have e2 : l.getD (a + 2) 0 = (l.drop a).getD 2 0 := by simp [List.getD]
  have e3 : l.getD (a + 3) 0 = (l.drop a).getD 3 0 := by simp [List.getD]
  have e4 : l.drop (a + 4) = (l.drop a).drop 4 := by simp
  rw [e2, e3, e4]
  generalize l.drop a = k at hl
  match k, hl with
  | x0 :: x1 :: x2 :: x3 :: x4 :: x5 :: r, _ =>
    simp [hdOf, be2, nOf]

theorem number_int (sa : Option Addr) (cap : Nat) (l : List UInt8) (x : Int) (n : Nat) (w : World) (h : BytesA w (.slice sa l.length cap) l) (h0 : 0 ≤ x) (hn : x.toNat + n ≤ l.length) (h4 : n ≤ 4) (hl : l.length ≤ 4294967296) :
    Calls Tryz.prog 121 #[.slice sa l.length cap, .int .i64 x, .int .i64 n] w fun e w' => e = .returned (.int .i64 (nOf ((l.drop x.toNat).take n))) ∧ w' = w := by
  have := number_any sa cap l x.toNat n w h hn h4 hl
  rwa [Int.toNat_of_nonneg h0] at this

theorem code9 {n k f s : Int} (h0 : 0 ≤ s) (h : stR k s = false) : Hd.code ⟨n, k, f, s⟩ = 9 := by
  show headCode n k f s = 9
  unfold headCode
  rw [if_pos]
  unfold stR at h
  by_cases h1 : s ≤ 32767
  · right
    simpa [h0, h1] using h
  · left; omega
theorem stR_true {k s : Int} (h : stR k s = true) : s ≤ 32767 ∧ sFits k s = true := by
  unfold stR at h
  simp only [Bool.and_eq_true, decide_eq_true_eq] at h
  exact ⟨h.1.2, h.2⟩
theorem leR_true {n : Nat} {k f : Int} (h : leR n k f = true) : n ≤ 64 ∧ lFits n k f = true := by
  unfold leR at h
  simp only [Bool.and_eq_true, decide_eq_true_eq] at h
  exact ⟨by omega, h.2⟩
theorem code10 {n k f s : Int} (_h0 : 0 ≤ s) (h : stR k s = true) (hl : leR n k f = false) : Hd.code ⟨n, k, f, s⟩ = 10 := by
  show headCode n k f s = 10
  obtain ⟨h1, h2⟩ := stR_true h
  unfold headCode
  rw [if_neg (by simp [h2]; omega), if_pos]
  unfold leR at hl
  by_cases h3 : n ≤ 64
  · right
    simpa [h3] using hl
  · left; omega
theorem code0 {n : Nat} {k f s : Int} (_h0 : 0 ≤ s) (h : stR k s = true) (hl : leR n k f = true) : Hd.code ⟨n, k, f, s⟩ = 0 := by
  obtain ⟨h1, h2⟩ := stR_true h
  obtain ⟨h3, h4⟩ := leR_true hl
  show headCode n k f s = 0
  exact headCode_of h1 h2 (by omega) h4
theorem told_kept' {w w' : World} {b : Nat} {cs : Array Value} {t : TypeId} {fr : Nat × Nat} (h : w.heap[b]? = some (.cells cs t fr)) (hb : Below w.heap.size w w') : w'.heap[b]? = some (.cells cs t fr) := by
  rw [hb.block b (lt_of_block h)]; exact h

theorem below_chg {S : Nat → Prop} {W0 w w' : World} (h : Below W0.heap.size W0 w) (hc : Chg S w w') (hs : ∀ j, S j → W0.heap.size ≤ j) : Below W0.heap.size W0 w' :=
  ⟨hc.os.trans h.os, hc.tape.trans h.tape, hc.output.trans h.output, Nat.le_trans h.size hc.size, fun k hk => by
    rw [hc.block k (Nat.lt_of_lt_of_le hk h.size) (fun e => absurd (hs k e) (Nat.not_le.2 hk))]; exact h.block k hk⟩

def FrRel (w : World) (l : List UInt8) (v : Value) (a : Nat) (ps : List (Fr × Value)) (wr : World) : Prop :=
  a ≤ l.length ∧ FrsL wr w.heap.size v ps ∧ feed [] l = (ps.map Prod.fst ++ (feed [] (l.drop a)).1, (feed [] (l.drop a)).2) ∧ ps.length ≤ a ∧ Below w.heap.size w wr

/-- The end of Frames. -/
def FrEnd (w w' : World) (l : List UInt8) (e : Ending) : Prop :=
  ∃ v ps, e = .returned (.tuple #[v, .int .i64 (feed [] l).2.code]) ∧ ps.map Prod.fst = (feed [] l).1 ∧ FrsL w' w.heap.size v ps ∧ ps.length ≤ l.length ∧ Below w.heap.size w w'

theorem FrRel.ends {w wr w' : World} {l : List UInt8} {v : Value} {a : Nat} {ps : List (Fr × Value)} {c : Int} {rd : Rd} (h : FrRel w l v a ps wr) (hf : feed [] (l.drop a) = ([], rd)) (hc : rd.code = c) (hb : Below wr.heap.size wr w') : FrEnd w w' l (.returned (.tuple #[v, .int .i64 c])) := by
  obtain ⟨h1, h2, h3, h4, h5⟩ := h
  rw [hf] at h3
  refine ⟨v, ps, ?_, ?_, h2.below hb, by omega, h5.trans (hb.mono h5.size)⟩
  · rw [h3, ← hc]
  · rw [h3]; simp

/-- A frame more. -/
theorem frRel_next {w wr w9 w10 : World} {l : List UInt8} {v v' bv : Value} {a n : Nat} {ps : List (Fr × Value)} {f : Fr} {o1 : Obj} (h : FrRel w l v a ps wr) (hal : a + (6 + n) ≤ l.length) (hf : feed [] (l.drop a) = (f :: (feed [] ((l.drop a).drop (6 + n))).1, (feed [] ((l.drop a).drop (6 + n))).2)) (hb9 : Below wr.heap.size wr w9)
    (hbv : w9.ownsRow 0 5 1 bv f.body.length (f.body.map B)) (hbf : ∀ j, bv.ownBlock = some j → wr.heap.size ≤ j) (hown : w10.ownsRow 0 56 4 v' (ps.length + 1) (cellsOf ps ++ cellsOf [(f, bv)])) (hg : (w9.alloc o1).grownBy w10 v.ownBlock) (hfr : v'.ownBlock = v.ownBlock ∨ v'.ownBlock = some (w9.heap.size + 1)) :
    FrRel w l v' (a + (6 + n)) (ps ++ [(f, bv)]) w10 := by
  obtain ⟨h1, h2, h3, h4, h5⟩ := h
  have hc : Chg (fun j => v.ownBlock = some j) w9 w10 := Chg.trans ((Chg.refl _ _).alloc o1) (Chg.of_grown hg (fun j hj => Or.inr hj))
  have hv : ∀ j, v.ownBlock = some j → w.heap.size ≤ j := fun j hj => (h2.row.lt j hj).1
  have hsz := h5.size
  have hsz9 := hb9.size
  have c9 : Chg (fun _ => False) wr w9 := Chg.of_below hb9
  have hrow9 := owns_chg h2.row c9 (fun _ _ => id)
  refine ⟨hal, ⟨?_, ?_⟩, ?_, by simp; omega, ?_⟩
  · rw [cellsOf_append]
    simp only [List.length_append, List.length_cons, List.length_nil, Nat.zero_add]
    refine owns_base hown (fun j hj => ?_)
    rcases hfr with e | e
    · rw [e] at hj; exact hv j hj
    · rw [e] at hj; simp at hj; omega
  · intro p hp
    rcases List.mem_append.1 hp with hp | hp
    · have hp9 := owns_chg (h2.body p hp) c9 (fun _ _ => id)
      exact owns_chg hp9 hc (fun j hj e => rows_ne hrow9 hp9 (by decide) e hj)
    · simp at hp; subst hp
      exact owns_base (owns_chg hbv hc (fun j hj e => rows_ne hrow9 hbv (by decide) e hj)) (fun j hj => by have := hbf j hj; omega)
  · rw [h3, hf, List.drop_drop]
    simp
  · have hb : Below w.heap.size w w9 := h5.trans (hb9.mono h5.size)
    exact below_chg hb hc hv

set_option maxRecDepth 100000 in
set_option maxHeartbeats 6400000 in
theorem rFrames_any (sa : Option Addr) (cap : Nat) (l : List UInt8) (w : World) (h : BytesIn w (.slice sa l.length cap) l) (hl : l.length ≤ 4294967296) :
    Calls Tryz.prog 71 #[.slice sa l.length cap] w fun e w' => FrEnd w w' l e := by
  have H := hide h
  clear h
  obtain ⟨i0, hi, hz0, hz1, hz2⟩ := info_parts Tryz.info5
  obtain ⟨j0, ji, jz0, jz1, jz2⟩ := info_parts Tryz.info56
  have hsz : (Tryz.prog.info? 5).map (·.size) = some 1 := by rw [hi]; simp [hz1]
  go_enter Tryz.func71, Tryz.ntmps71
  go_wp2
  go_loopw [4, 5] (fun v i wr => ∃ (a : Nat) (ps : List (Fr × Value)), i = .int .i64 a ∧ FrRel w l v a ps wr) (fun _ i _ => l.length - (intOf i).toNat)
  case atStart => exact ⟨0, [], rfl, Nat.zero_le _, ⟨World.ownsRow_nil _ _ _ _, by simp⟩, by simp, by simp, Below.refl _ _⟩
  case round =>
    obtain ⟨a, ps, rfl, hR⟩ := hrel
    have hal := hR.1
    obtain ⟨sv, cv, rfl⟩ := slice_len hR.2.1.row
    have HR := hide hR
    clear hR
    by_cases h6 : 6 ≤ l.length - a
    · rcases H.out with ⟨_, h0⟩ | ⟨bb, off, cap', he, hbb, hca, hcell⟩
      · rw [h0] at h6; simp at h6
      · simp only [Value.slice.injEq] at he
        obtain ⟨rfl, -, rfl⟩ := he
        have hB := HR.out.2.2.2.2
        have HB := hide hB
        have hw2 := (hB.cell (p := ⟨bb, off + (a + 2), none⟩) hbb).trans (hcell (a + 2) (by omega))
        have hw3 := (hB.cell (p := ⟨bb, off + (a + 3), none⟩) hbb).trans (hcell (a + 3) (by omega))
        have HC := hide hcell
        clear hB hcell
        go_wp2_with fail
        refine (number_any (some ⟨bb, off, none⟩) cap l a 2 _ (Or.inl (H.out.chg (Chg.of_below (S := fun _ => False) HB.out) (fun _ _ => id))) (by omega) (by omega) hl).mono ?_
        rintro e w1 ⟨rfl, hw1⟩
        rw [hw1]
        clear hw1 w1
        have hb2 : (l.getD (a + 2) 0).toNat ≤ 255 := Nat.le_of_lt_succ (l.getD (a + 2) 0).toNat_lt
        have hb3 : (l.getD (a + 3) 0).toNat ≤ 255 := Nat.le_of_lt_succ (l.getD (a + 3) 0).toNat_lt
        generalize hx2 : (l.getD (a + 2) 0).toNat = x2 at hw2 hb2
        generalize hx3 : (l.getD (a + 3) 0).toNat = x3 at hw3 hb3
        have HX2 := hide hx2
        have HX3 := hide hx3
        clear hx2 hx3
        go_upto_region 5 with fail
        go_cut [7] (fun s7 wx => s7 = .pointer (some ⟨wr.heap.size, 0, none⟩) ∧ wx = (wr.alloc (.cells #[.int .i64 x2, .int .i64 x3, .int .i64 0, .slice none 0 0] 56)).drew)
        case first =>
          have hw2a : (wr.alloc (.cells #[.int .i64 0, .int .i64 0, .int .i64 0, .slice none 0 0] 56)).drew.cell? ⟨bb, off + (a + 2), none⟩ = some (.int .u8 x2) := (((Below.refl wr.heap.size wr).alloc (Nat.le_refl _) _).cell (p := ⟨bb, off + (a + 2), none⟩) (Nat.lt_of_lt_of_le hbb HB.out.size)).trans hw2
          have hw3a : (wr.alloc (.cells #[.int .i64 0, .int .i64 0, .int .i64 0, .slice none 0 0] 56)).drew.cell? ⟨bb, off + (a + 3), none⟩ = some (.int .u8 x3) := (((Below.refl wr.heap.size wr).alloc (Nat.le_refl _) _).cell (p := ⟨bb, off + (a + 3), none⟩) (Nat.lt_of_lt_of_le hbb HB.out.size)).trans hw3
          go_region
          all_goals (go_wp2_with fail; go_meet; exact ⟨rfl, rfl⟩)
        case rest =>
          obtain ⟨rfl, hwc⟩ := hcut
          obtain ⟨w2, hw2e⟩ : ∃ w2, w2 = wc := ⟨wc, rfl⟩
          subst hw2e
          have hb2 : Below wr.heap.size wr w2 := by
            rw [hwc]
            have h := (Below.refl wr.heap.size wr).alloc (Nat.le_refl _) (.cells #[.int .i64 x2, .int .i64 x3, .int .i64 0, .slice none 0 0] 56)
            exact ⟨h.os, h.tape, h.output, h.size, h.block⟩
          have hf2 : w2.heap[wr.heap.size]? = some (.cells #[.int .i64 x2, .int .i64 x3, .int .i64 0, .slice none 0 0] 56 (0, 0)) := by
            rw [hwc]
            exact heap_alloc_new wr _
          have HB2 := hide (HB.out.trans (hb2.mono HB.out.size))
          have HBR := hide hb2
          have HF2 := hide hf2
          obtain ⟨f0, f1, f2, f3, ff⟩ := frame_block hf2
          have ff2 := ff 2
          clear hwc hb2 hf2 hw2 hw3 ff
          have hnl := nOf_lt ((l.drop a).take 2)
          have hn2 : nOf ((l.drop a).take 2) < 65536 := by
            have h2 : ((l.drop a).take 2).length = 2 := by simp; omega
            rw [h2] at hnl; simpa using hnl
          have hsl := nOf_lt ((l.drop (a + 4)).take 2)
          have hs2 : nOf ((l.drop (a + 4)).take 2) < 65536 := by
            have h2 : ((l.drop (a + 4)).take 2).length = 2 := by simp; omega
            rw [h2] at hsl; simpa using hsl
          have hhd := hd_drop (l := l) (a := a) (by omega)
          rw [HX2.out, HX3.out] at hhd
          clear hnl hsl
          generalize nOf ((l.drop a).take 2) = n at hn2 hhd ⊢
          generalize hst0 : nOf ((l.drop (a + 4)).take 2) = st at hs2 hhd
          have HST := hide hst0
          have HHD := hide hhd
          clear hst0 hhd HX2 HX3
          go_wp2_with fail
          refine (number_int (some ⟨bb, off, none⟩) cap l _ 2 _ (Or.inl (H.out.chg (Chg.of_below (S := fun _ => False) HB2.out) (fun _ _ => id))) (by omega) (by omega) (by omega) hl).mono ?_
          rintro e w1 ⟨he, hw1⟩
          rw [hw1]
          have ht4 : ((a : Int) + 4).toNat = a + 4 := by omega
          rw [ht4, HST.out] at he
          subst he
          clear hw1 w1 ht4
          go_wp2_with fail
          obtain ⟨w3, hw3e⟩ : ∃ w3, w3 = w2.setCell ⟨wr.heap.size, 2, none⟩ (.int .i64 st) := ⟨_, rfl⟩
          have hf3 : w3.heap[wr.heap.size]? = some (.cells #[.int .i64 x2, .int .i64 x3, .int .i64 st, .slice none 0 0] 56 (0, 0)) := by rw [hw3e]; exact block_setCell HF2.out
          have hb3' : Below wr.heap.size wr w3 := by rw [hw3e]; exact HBR.out.setCell (Nat.le_refl _) _
          rw [← hw3e]
          have HF3 := hide hf3
          have HB3 := hide hb3'
          obtain ⟨g0, g1, g2, g3, -⟩ := frame_block hf3
          clear hw3e hf3 hb3' f0 f1 f2 f3 ff2 HF2 HBR HB2
          have h6' : 6 ≤ (l.drop a).length := by simp; omega
          have H6 := hide h6'
          clear h6'
          cases hst : stR x2 st with
          | false =>
            have hcd : (hdOf (l.drop a)).code = 9 := by rw [HHD.out]; exact code9 (by omega) hst
            have hend := fun (w' : World) (hb : Below wr.heap.size wr w') => HR.out.ends (rf_head H6.out (by rw [hcd]; decide)) hcd hb
            have HE := hide hend
            refine (streamRight_any x2 st _ (by omega)).mono ?_
            rintro e w1 ⟨he, hw1⟩
            rw [hst] at he
            subst he
            rw [hw1]
            clear hw1 w1 hcd hend hst
            go_wp2
            go_ret2
            exact HE.out _ HB3.out
          | true =>
            refine (streamRight_any x2 st _ (by omega)).mono ?_
            rintro e w1 ⟨he, hw1⟩
            rw [hst] at he
            subst he
            rw [hw1]
            clear hw1 w1
            have HS := hide hst
            clear hst
            go_wp2_with fail
            refine (lengthRight_any x2 x3 st n none 0 0 _ (by omega) (by omega)).mono ?_
            rintro e w4 ⟨he, hb4⟩
            have HF4 := hide (told_kept' HF3.out hb4)
            have HB4 := hide (HB3.out.trans (hb4.mono HB3.out.size))
            obtain ⟨k0, k1, k2, k3, kf⟩ := frame_block HF4.out
            have kf3 := kf 3
            clear hb4 g0 g1 g2 g3 kf HF3 HB3
            cases hle : leR n x2 x3 with
            | false =>
              have hcd : (hdOf (l.drop a)).code = 10 := by rw [HHD.out]; exact code10 (by omega) HS.out hle
              have hend := fun (w' : World) (hb : Below wr.heap.size wr w') => HR.out.ends (rf_head H6.out (by rw [hcd]; decide)) hcd hb
              have HE := hide hend
              rw [hle] at he
              subst he
              clear hcd hend hle
              go_wp2
              go_ret2
              exact HE.out _ HB4.out
            | true =>
              have hcd : (hdOf (l.drop a)).code = 0 := by rw [HHD.out]; exact code0 (by omega) HS.out hle
              have hn64 : n ≤ 64 := (leR_true hle).1
              have hlf := (leR_true hle).2
              rw [hle] at he
              subst he
              have HCD := hide hcd
              have HLF := hide hlf
              clear hcd hlf hle HS
              by_cases hw : l.length < a + 6 + n
              · have hend := fun (w' : World) (hb : Below wr.heap.size wr w') => HR.out.ends (c := 0) (rf_wait H6.out HCD.out (by rw [HHD.out]; simp; omega)) rfl hb
                have HE := hide hend
                clear hend
                go_wp2
                go_ret2
                exact HE.out _ HB4.out
              · have hfb : wr.heap.size < w4.heap.size := lt_of_block HF4.out
                go_wp2_with (at_make; refine wpList_make_full _ rfl _ _ 54 rfl wr.heap.size 5 i0 (.int .u8 0) 1 Tryz.underlying54 hi hz0 hz1 _ _ _ _ n rfl rfl ?m1 ?m2 ?m3 ?m4 ?m5 ?_)
                case m1 => go_num
                case m2 => go_num
                case m3 => rw [hz2]; omega
                case m4 => unfold maxLen; omega
                case m5 => omega
                intro w5 hown5 hg5
                have hbl5 : Below w4.heap.size w4 w5 := (Below.refl _ _).grown hg5 (Nat.le_refl _) (fun k h => by cases h)
                have hh5 := made_list hown5
                have hf5 := told_kept' HF4.out hbl5
                have HB5 := hide (HB4.out.trans (hbl5.mono HB4.out.size))
                have HH5 := hide hh5
                have HF5 := hide hf5
                have hs5 := lt_of_block hh5
                obtain ⟨g0, g1, g2, g3, gf⟩ := frame_block hf5
                have gf3 := gf 3
                clear hown5 hg5 hbl5 hh5 hf5 k0 k1 k2 k3 kf3 gf HF4 HB4
                go_upto_region 17 with fail
                obtain ⟨w6, hw6⟩ : ∃ w6, w6 = w5.setCell ⟨wr.heap.size, 3, none⟩ (.slice (some ⟨w4.heap.size, 0, none⟩) n n) := ⟨_, rfl⟩
                have hf6 : w6.heap[wr.heap.size]? = some (.cells #[.int .i64 x2, .int .i64 x3, .int .i64 st, .slice (some ⟨w4.heap.size, 0, none⟩) n n] 56 (0, 0)) := by rw [hw6]; exact block_setCell HF5.out
                have hb6 : Below wr.heap.size wr w6 := by rw [hw6]; exact HB5.out.setCell (Nat.le_refl _) _
                have hh6 : w6.heap[w4.heap.size]? = some (.cells (List.replicate n (Value.int .u8 0)).toArray 5 (0, 0)) := by
                  rw [hw6, Chg.block ((Chg.refl (fun j => j = wr.heap.size) w5).setCell (p := ⟨wr.heap.size, 3, none⟩) (Or.inr rfl) _) _ hs5 (by omega)]; exact HH5.out
                rw [← hw6]
                have HF6 := hide hf6
                have HB6 := hide hb6
                have HH6 := hide hh6
                obtain ⟨m0, m1, m2, m3, -⟩ := frame_block hf6
                clear hw6 hf6 hb6 hh6 g0 g1 g2 g3 gf3 HF5 HB5 HH5
                obtain ⟨bd, hbd⟩ : ∃ bd : List UInt8, bd = (l.drop (a + 6)).take n := ⟨_, rfl⟩
                have hbl : bd.length = n := by rw [hbd]; simp; omega
                have HBD := hide hbd
                have HBL := hide hbl
                clear hbd hbl
                go_cut [0] (fun s0 wx => s0 = .slice (some ⟨bb, off, none⟩) l.length cap ∧ wx.heap[wr.heap.size]? = some (.cells #[.int .i64 x2, .int .i64 x3, .int .i64 st, .slice (some ⟨w4.heap.size, 0, none⟩) n n] 56 (0, 0)) ∧ wx.heap[w4.heap.size]? = some (.cells (bd.map B).toArray 5 (0, 0)) ∧ Below wr.heap.size wr wx)
                case first =>
                  have q1 : IntKind.i64.wrap ((a : Int) + 6 + n) = a + 6 + n := wraps_i64 _ (by omega) (by omega)
                  have q2 : (0 : Int) ≤ a + 6 + n := by omega
                  have q3 : (a : Int) + 6 + n ≤ cap := by omega
                  have q4 : (0 : Int) ≤ a + 6 := by omega
                  have q5 : max ((a : Int) + 6 + n) 0 = a + 6 + n := by omega
                  have q8 : (a : Int) + 6 ≤ a + 6 + n := by omega
                  have q6 : ((a : Int) + 6 + n).toNat - ((a : Int) + 6).toNat = n := by omega
                  have q7 : ((a : Int) + 6).toNat = a + 6 := by omega
                  have HH6d : Hid (w6.drew.heap[w4.heap.size]? = some (.cells (List.replicate n (Value.int .u8 0)).toArray 5 (0, 0))) := HH6.out
                  have HB6d : Hid (Below wr.heap.size wr w6.drew) := ⟨HB6.out.os, HB6.out.tape, HB6.out.output, HB6.out.size, HB6.out.block⟩
                  have N1 : Hid ((bd.map B).length = Nat.min (((a : Int) + 6 + n).toNat - (a + 6)) n) := by
                    have e1 : ((a : Int) + 6 + n).toNat - (a + 6) = n := by omega
                    have e2 := HBL.out
                    show (bd.map B).length = _
                    rw [e1, List.length_map, e2]
                    exact (Nat.min_self n).symm
                  have N2 : Hid (0 < (bd.map B).length → some (⟨w4.heap.size, 0, none⟩ : Addr) = some ⟨w4.heap.size, 0, none⟩ ∧ ∃ ad, (if cap = a + 6 then some (⟨bb, off, none⟩ : Addr) else some ⟨bb, off + (a + 6), none⟩) = some ad ∧ ∀ j v, (bd.map B)[j]? = some v → w6.drew.cell? (ad.add j) = some v) := by
                    intro h0
                    have e2 := HBL.out
                    rw [List.length_map, e2] at h0
                    refine ⟨rfl, ⟨bb, off + (a + 6), none⟩, by rw [if_neg (by omega)], fun j v hj => ?_⟩
                    have hjl : j < bd.length := by
                      have := (List.getElem?_eq_some_iff.1 hj).1
                      simpa using this
                    have e3 : (⟨bb, off + (a + 6), none⟩ : Addr).add j = ⟨bb, off + (a + 6 + j), none⟩ := by rw [addr_add, Nat.add_assoc off]
                    have hlt : a + 6 + j < l.length := by omega
                    have hc := HC.out (a + 6 + j) hlt
                    have e4 : (l.getD (a + 6 + j) 0) = bd.getD j 0 := by
                      rw [HBD.out]
                      have hjn : j < n := by omega
                      simp [List.getD, hjn]
                    rw [e3]
                    show w6.cell? _ = _
                    rw [(HB6.out.cell (p := ⟨bb, off + (a + 6 + j), none⟩) (Nat.lt_of_lt_of_le hbb HB.out.size)), (HB.out.cell (p := ⟨bb, off + (a + 6 + j), none⟩) hbb), hc, e4]
                    rw [← hj]
                    simp [List.getD, hjl]
                  have N3 : Hid (0 + (bd.map B).length ≤ (List.replicate n (Value.int .u8 0)).length) := by
                    have e2 := HBL.out
                    show _ ≤ _
                    simp [e2]
                  have N4 : Hid (∀ v ∈ bd.map B, v.oneCell' = true) := by
                    intro v hv
                    obtain ⟨x, _, rfl⟩ := List.mem_map.1 hv
                    rfl
                  have N5 : Hid (wr.heap.size ≤ w4.heap.size) := Nat.le_of_lt hfb
                  go_region_law (refine step_copy_splice rfl (.tmp 62) (.tmp 68) 54 54 rfl 5 Tryz.underlying54 hsz (some ⟨w4.heap.size, 0, none⟩) _ n n _ _ rfl rfl w4.heap.size 0 (List.replicate n (Value.int .u8 0)) 5 HH6d.out (bd.map B) N1.out N2.out N3.out N4.out (wr.heap.size + 1) w6.drew (Below.refl _ _) hfb ?_; intro w7 hg7 hb7)
                  all_goals (go_wp2_with fail)
                  all_goals (go_meet; refine ⟨by first | rfl | (congr 1; omega), (hb7.block _ (Nat.lt_succ_self _)).trans HF6.out, hg7.out.trans (splice_all HBL.out), HB6d.out.trans (hb7.mono (Nat.le_succ _))⟩)
                case rest =>
                  obtain ⟨rfl, hf8, hh8, hb8⟩ := hcut
                  obtain ⟨w8, hw8⟩ : ∃ w8, w8 = wc := ⟨wc, rfl⟩
                  subst hw8
                  obtain ⟨g0, g1, g2, g3, -⟩ := frame_block hf8
                  have hs8 := lt_of_block hf8
                  have hs8' := lt_of_block hh8
                  have howb : w8.ownsRow 0 5 1 (.slice (some ⟨w4.heap.size, 0, none⟩) n n) n (bd.map B) := by
                    have h := owns_row (b := 0) hh8 (by have := HBL.out; simp [maxLen]; omega) (Nat.zero_le _)
                    rw [List.length_map, HBL.out] at h
                    exact h
                  have HF8 := hide hf8
                  have HB8 := hide hb8
                  have HO8 := hide howb
                  clear hf8 hh8 hb8 howb m0 m1 m2 m3 HF6 HB6 HH6
                  have hbyt : BytesA w8 (.slice (some ⟨w4.heap.size, 0, none⟩) bd.length n) bd := by
                    have h := HO8.out
                    have e := HBL.out
                    rw [e]
                    exact Or.inl (bytesIn_of_owns h e.symm)
                  have hbr := bodyRight_any x2 x3 st (some ⟨w4.heap.size, 0, none⟩) bd n w8 (by omega) (by omega) (by have := HBL.out; omega) (by have := HBL.out; have h := HLF.out; rw [this]; exact h) hbyt
                  rw [HBL.out] at hbr
                  have HBY := hide hbr
                  clear hbyt hbr
                  have hdd : ((l.drop a).drop 6).take n = bd := by rw [List.drop_drop, HBD.out]
                  have hrf := rf_body (n := n) H6.out HCD.out (by rw [HHD.out]) (by simp; omega)
                  rw [hdd, HHD.out] at hrf
                  have HRF := hide hrf
                  clear hdd hrf
                  go_wp2_with fail
                  refine HBY.out.mono ?_
                  rintro e w9 ⟨he, hb9⟩
                  have HF9 := hide (told_kept' HF8.out hb9)
                  have HB9 := hide (HB8.out.trans (hb9.mono HB8.out.size))
                  have HO9 := hide (owns_chg HO8.out (Chg.of_below (S := fun _ => False) hb9) (fun _ _ => id))
                  obtain ⟨k0, k1, k2, k3, -⟩ := frame_block HF9.out
                  have hs9 : w4.heap.size < w9.heap.size := by have := hb9.size; omega
                  clear hb9 g0 g1 g2 g3 HF8 HB8 HO8 HBY
                  by_cases hbc : bodyCode x2 x3 bd = 0
                  · rw [decide_eq_true hbc] at he
                    subst he
                    have hrf := HRF.out
                    rw [if_pos hbc] at hrf
                    have HRF2 := hide hrf
                    clear hrf HRF
                    have hps : ps.length ≤ a := HR.out.2.2.2.1
                    have hfr := fun (v' : Value) (w10 : World) (o1 : Obj) => frRel_next (o1 := o1) (v' := v') (w10 := w10) (a := a) (f := ⟨x2, x3, st, bd⟩) (bv := .slice (some ⟨w4.heap.size, 0, none⟩) n n) HR.out (by show a + (6 + n) ≤ l.length; omega) HRF2.out HB9.out (by have h := HO9.out; rw [HBL.out]; exact h) (fun j hj => by simp [Value.ownBlock] at hj; omega)
                    have hown : w9.ownsRow 0 56 4 (.slice sv ps.length cv) ps.length (cellsOf ps) := owns_base (owns_chg HR.out.2.1.row (Chg.of_below (S := fun _ => False) HB9.out) (fun _ _ => id)) (fun _ _ => Nat.zero_le _)
                    have HFR := hide hfr
                    have HOW := hide hown
                    clear hfr hown hbc
                    go_wp2_with (at_builtin; refine wpList_app _ rfl (.tmp 75) (.tmp 77) 22 rfl 56 j0 (.agg #[.int .i64 0, .int .i64 0, .int .i64 0, .slice none 0 0]) 4 48 Tryz.underlying22 ji jz0 jz1 jz2 rfl (by decide) _ _ _ rfl (HOW.out.alloc _) (.slice (some ⟨w9.heap.size, 0, none⟩) 1 1) 1 (cellsOf [(⟨x2, x3, st, bd⟩, .slice (some ⟨w4.heap.size, 0, none⟩) n n)]) rfl rfl ?c1 ?c2 ?c3 ?c4 ?_)
                    case c1 => exact Or.inr ⟨_, _, rfl, fun j u hu => lies_row (xs := cellsOf [(⟨x2, x3, st, bd⟩, .slice (some ⟨w4.heap.size, 0, none⟩) n n)]) j u hu⟩
                    case c2 => exact frame_one _ _ _ _
                    case c3 => unfold maxLen; omega
                    case c4 => omega
                    intro v' w10 hown10 hg10 hfr10
                    have hrel' := HFR.out v' w10 _ hown10 hg10 (by simpa using hfr10)
                    have HREL := hide hrel'
                    clear hown10 hg10 hfr10 hrel' k0 k1 k2 k3
                    go_wp2
                    go_roundw
                    case rel => exact ⟨a + (6 + n), _, by go_num, HREL.out⟩
                    case measure => simp [intOf]; omega
                  · rw [decide_eq_false hbc] at he
                    subst he
                    have hc9 : bodyCode x2 x3 bd = 9 := (bodyCode_cases x2 x3 bd).resolve_left hbc
                    have hrf := HRF.out
                    rw [if_neg hbc] at hrf
                    have hend := fun (w' : World) (hb : Below wr.heap.size wr w') => HR.out.ends hrf hc9 hb
                    have HE := hide hend
                    clear hend hrf hc9 hbc
                    go_wp2
                    go_ret2
                    exact HE.out _ HB9.out
    · have hend := HR.out.ends (c := 0) (feed_short [] (l.drop a) (by simp; omega)) rfl (Below.refl _ _)
      go_wp2
      go_ret2
      exact hend
end Go.Proofs.YtckeblkadiehbaaGreat
