import Derived.Test.YtdccldbefdfppaaGreatDoorQGal
import Derived.Test.YtdccldbefdfppaaGreatDoorQGaj
import Derived.Test.YtdccldbefdfppaaGreatDoorQGan
import Derived.Test.YtdccldbefdfppaaGreatDoorQGac
import Derived.BigRegion
set_option linter.unusedVariables false
set_option linter.unusedSimpArgs false
/-
  Package ends: makeData, where there is something to send.
-/
namespace Go.Proofs.YtdccldbefdfppaaGreatDoor
set_option linter.unusedVariables false
set_option linter.unusedSimpArgs false
open Go.RowKit

/-- How many bytes of a stream go next, and whether all is sent then. -/
def EndM.goN (m : EndM) (s : GSt) : Nat := cutN (min (min 64 (m.other + s.st.send)) m.send) s.wa.length
def EndM.goE (m : EndM) (s : GSt) : Bool := decide (m.goN s = s.wa.length) && s.st.shut
def GSt.went (s : GSt) (k : Nat) (fin : Bool) : GSt := { s with st := { s.st with send := s.st.send - k, sentAll := if fin then true else s.st.sentAll }, wa := s.wa.drop k }
def EndM.went (m : EndM) (k : Nat) (n : Int) : EndM := { m with send := m.send - k, lastData := n }
/-- The end, behind that Data. -/
def GEnd.goes (g : GEnd) (s : GSt) : GEnd := { g with m := g.m.went (g.m.goN s) s.st.number, K := updN s.st.number (fun x => x.went (g.m.goN s) (g.m.goE s)) g.K, out := g.out ++ lay 0 (if g.m.goE s then 1 else 0) s.st.number (s.wa.take (g.m.goN s)) }
set_option maxRecDepth 100000 in
set_option maxHeartbeats 6400000 in
theorem makeData_yes (eb mb : Nat) (g : GEnd) (s : GSt) (w : World) (h : Inv w eb mb g) (hs : s ∈ g.K) (hL : g.L.length ≤ 1048576) (hg : g.m.greets = false) (hl : g.out.length ≤ 1073741824) (hwl : s.wa.length ≤ 1048576) (hnum : 0 ≤ s.st.number ∧ s.st.number ≤ 32767) (hh : s.st.hasAll = false) (hr : s.st.reset = 0)
    (hwv : ∀ p ∈ openS g.K g.L, p.2.some? (lenV' p.2.waiting)) (b1 : -1099511627776 ≤ g.m.other ∧ g.m.other ≤ 1099511627776) (b2 : ∀ p ∈ openS g.K g.L, -1099511627776 ≤ p.2.send ∧ p.2.send ≤ 1099511627776) (b3 : -1099511627776 ≤ s.st.send ∧ s.st.send ≤ 1099511627776) (b4 : -1099511627776 ≤ g.m.send ∧ g.m.send ≤ 1099511627776)
    (hnx : nextS g.m.lastData (fun p => g.m.hasD p.2 (lenV' p.2.waiting)) (openS g.K g.L) none = some s.sb) :
    Calls Tryz.prog 90 #[.pointer (some ⟨eb, 0, none⟩)] w fun e w' => e = .returned (.bool true) ∧ ∃ g', g'.bare = (g.goes s).bare ∧ Next w w' eb mb g g' := by
  have hst := h.st hs
  have hnt := nextToSend_any eb g.m (openS g.K g.L) (fun p => lenV' p.2.waiting) w h.en h.open (by rw [openS_length]; exact hL) hwv (by omega) (by omega) (fun p hp => by have := b2 p hp; omega)
  rw [hnx] at hnt
  have HNT := hide hnt
  have HI := hide h
  have HS := hide hs
  have HSW : Hid (∀ w1, Below w.heap.size w w1 → Calls Tryz.prog 66 #[.pointer (some ⟨eb, 0, none⟩), .pointer (some ⟨s.sb, 0, none⟩)] w1 fun e w' => e = .returned (.int .i64 (g.m.other + s.st.send)) ∧ Below w1.heap.size w1 w') := fun w1 hb => sendWindow_any eb s.sb g.m s.st w1 (h.en.below hb) (hst.below hb) (by omega) (by omega) (by omega) (by omega)
  obtain ⟨sw, cw, hwa⟩ := slice_len (h.wa s hs)
  have HCT : Hid (∀ w1 n, Below w.heap.size w w1 → Calls Tryz.prog 64 #[.pointer (some ⟨s.sb, 12, none⟩), .int .i64 n] w1 fun e w' => ∃ v', CutOff w1 w' s.sb 12 s.st.waiting v' s.wa (cutN n s.wa.length) e) := fun w1 n hb =>
    ecut_any s.sb 12 s.st.waiting s.wa n w1 (hst.below hb).c12 ((hst.below hb).fr 12) (hst.below hb).lt (h.below hb |>.wa s hs) (fun e => owns_ne ((h.below hb).wa s hs) (hst.below hb).blk (by decide) e) (by omega)
  have HB := hide (And.intro b3 b4)
  have HHR := hide (And.intro hr hh)
  clear h hs hst hnt hnx hwv b2 hr hh
  go_enter Tryz.func90, Tryz.ntmps90
  go_wp2_with fail
  refine HNT.out.mono ?_
  rintro e w1 ⟨rfl, hb1⟩
  have HB1 := hide hb1
  have c4 : w1.cell? ⟨eb, 4, none⟩ = some (.int .i64 g.m.send) := (HI.out.below hb1).en.c4
  have HSW1 := hide (HSW.out w1.drew hb1.drew)
  clear hb1
  simp only [ptrO, Option.map_some]
  go_upto_region 4 with fail
  go_cut [4] (fun s4 wx => s4 = .int .i64 (min (min 64 (g.m.other + s.st.send)) g.m.send) ∧ Below w1.heap.size w1 wx)
  case first =>
    go_region_law (refine step_call rfl 66 Tryz.f66 Tryz.func66 (by kernel_rfl) rfl [.tmp 10, .tmp 11] #[123, 124] rfl [.pointer (some ⟨eb, 0, none⟩), .pointer (some ⟨s.sb, 0, none⟩)] (by simp [Act.eval, Act.put]) HSW1.out ?_; rintro e w2 ⟨rfl, hb2⟩; refine ⟨_, rfl, ?_⟩; have hbx : Below w1.heap.size w1 w2 := ⟨hb2.os, hb2.tape, hb2.output, hb2.size, hb2.block⟩; have d4 : w2.cell? ⟨eb, 4, none⟩ = some (.int .i64 g.m.send) := ((HI.out.below HB1.out).below hbx).en.c4; have HB2 := hide hbx; clear hb2 hbx)
    all_goals go_wp2_with fail
    all_goals go_meet
    all_goals exact ⟨by congr 1; omega, HB2.out⟩
  case rest =>
    obtain ⟨hs4, hbc⟩ := hcut
    subst hs4
    obtain ⟨w2, hw2⟩ : ∃ w2, w2 = wc := ⟨wc, rfl⟩
    rw [← hw2] at hbc ⊢
    clear hw2
    have hb2 := HB1.out.trans (hbc.mono HB1.out.size)
    obtain ⟨k, hk⟩ : ∃ k, k = g.m.goN s := ⟨_, rfl⟩
    have hkl : k ≤ s.wa.length := by rw [hk]; unfold EndM.goN cutN; omega
    have hct := HCT.out w2.drew (min (min 64 (g.m.other + s.st.send)) g.m.send) hb2.drew
    rw [show cutN (min (min 64 (g.m.other + s.st.send)) g.m.send) s.wa.length = k from hk.symm] at hct
    have HCT2 := hide hct
    have hKN : cutN (min (min 64 (g.m.other + s.st.send)) g.m.send) s.wa.length = k := hk.symm
    have HCT0 : Hid (∀ w1 n, Below w.heap.size w w1 → Calls Tryz.prog 64 #[.pointer (some ⟨s.sb, 12, none⟩), .int .i64 n] w1 fun e w' => ∃ v', CutOff w1 w' s.sb 12 s.st.waiting v' s.wa (cutN n s.wa.length) e) := HCT.out
    have hst2 := (HI.out.below hb2).st HS.out
    have HSL : Hid (s.sb < w2.heap.size) := hst2.lt
    have c3 : w2.cell? ⟨s.sb, 3, none⟩ = some (.int .i64 s.st.number) := hst2.c3
    have HB2 := hide hb2
    have HK := hide hk
    clear hbc hb2 hct hst2 c4 HSW1 HCT HSW hk
    generalize min (min 64 (g.m.other + s.st.send)) g.m.send = NN at *
    have HKN := hide hKN
    clear hKN
    go_upto_region 5 with fail
    have HW2 : Hid (∀ W v' (w3 w4 : World) a, Below w2.heap.size w2 W → BytesIn w3 (.slice a k k) (s.wa.take k) → w3 = w4.setCell ⟨s.sb, 12, none⟩ v' → Below W.heap.size W w4 → w4.ownsRow W.heap.size 5 1 v' (s.wa.length - k) ((s.wa.drop k).map B) → StB w3 s.sb { s.st with waiting := v' } ∧ Chg (fun j => j = s.sb) w2 w3 ∧ w3.ownsRow w2.heap.size 5 1 v' (s.wa.length - k) ((s.wa.drop k).map B) ∧ Chg (fun j => j = s.sb) W w3) := fun W v' w3 w4 a hW hby e hb hrow => by
      have hst := (((HI.out.below HB2.out).below hW).below hb).st HS.out
      have hset : Chg (fun j => j = s.sb) w4 (w4.setCell ⟨s.sb, 12, none⟩ v') := chg_set (Chg.refl _ _) rfl
      rw [e]
      have hc : Chg (fun j => j = s.sb) W (w4.setCell ⟨s.sb, 12, none⟩ v') := (Chg.of_below hb).trans (hset.mono fun _ _ e => Or.inr e)
      have hr2 := owns_chg hrow hset (fun j hj e => by rw [e] at hj; exact owns_ne hrow hst.blk (by decide) hj)
      refine ⟨⟨by rw [blk_set hst.blk]; simp [StM.cells]⟩, (Chg.of_below hW).trans (hc.mono fun _ _ e => Or.inr e), owns_base hr2 (fun j hj => Nat.le_trans hW.size (hr2.lt j hj).1), hc⟩
    have HFA : Hid (∀ (w3 : World) (a : Option Addr) v', BytesIn w3 (.slice a k k) (s.wa.take k) ∧ (∀ j, (Value.slice a k k).ownBlock = some j → s.st.waiting.ownBlock = some j) ∧ StB w3 s.sb { s.st with waiting := v' } ∧ Chg (fun j => j = s.sb) w2 w3 ∧ w3.ownsRow w2.heap.size 5 1 v' (s.wa.length - k) ((s.wa.drop k).map B) → ∃ a_1 fb v', Value.pointer (some ⟨w3.heap.size, 0, none⟩) = .pointer (some ⟨fb, 0, none⟩) ∧ w2.heap.size ≤ fb ∧ (w3.alloc (.cells #[.int .i64 0, .int .i64 0, .int .i64 s.st.number, .slice a k k] 48)).heap[fb]? = some (.cells #[.int .i64 0, .int .i64 0, .int .i64 s.st.number, .slice a_1 k k] 48 (0, 0)) ∧ StB (w3.alloc (.cells #[.int .i64 0, .int .i64 0, .int .i64 s.st.number, .slice a k k] 48)) s.sb { s.st with waiting := v' } ∧ Chg (fun j => j = s.sb) w2 (w3.alloc (.cells #[.int .i64 0, .int .i64 0, .int .i64 s.st.number, .slice a k k] 48)) ∧ (w3.alloc (.cells #[.int .i64 0, .int .i64 0, .int .i64 s.st.number, .slice a k k] 48)).ownsRow w2.heap.size 5 1 v' (s.wa.length - k) ((s.wa.drop k).map B) ∧ BytesIn (w3.alloc (.cells #[.int .i64 0, .int .i64 0, .int .i64 s.st.number, .slice a k k] 48)) (.slice a_1 k k) (s.wa.take k) ∧ ∀ j, (Value.slice a_1 k k).ownBlock = some j → s.st.waiting.ownBlock = some j) := fun w3 a v' ⟨q1, q2, q3, q4, q5⟩ => by
      have hb : Below w3.heap.size w3 (w3.alloc (.cells #[.int .i64 0, .int .i64 0, .int .i64 s.st.number, .slice a k k] 48)) := (Below.refl _ _).alloc (Nat.le_refl _) _
      exact ⟨a, w3.heap.size, v', rfl, q4.size, heap_alloc_new w3 _, q3.below hb, q4.then_below hb, owns_chg q5 (Chg.of_below (S := fun _ => False) hb) (fun _ _ => id), q1.chg (Chg.of_below (S := fun _ => False) hb) (fun _ _ => id), q2⟩
    have HFB : Hid (∀ (w3 wx : World) (a : Option Addr) v', (BytesIn w3 (.slice a k k) (s.wa.take k) ∧ (∀ j, (Value.slice a k k).ownBlock = some j → s.st.waiting.ownBlock = some j) ∧ StB w3 s.sb { s.st with waiting := v' } ∧ Chg (fun j => j = s.sb) w2 w3 ∧ w3.ownsRow w2.heap.size 5 1 v' (s.wa.length - k) ((s.wa.drop k).map B)) → w3.heap[w2.heap.size]? = some (.cells #[.int .i64 0, .int .i64 0, .int .i64 0, .slice none 0 0] 48 (0, 0)) → wx = ((((w3.setCell ⟨w2.heap.size, 0, none⟩ (.int .i64 0)).setCell ⟨w2.heap.size, 1, none⟩ (.int .i64 0)).setCell ⟨w2.heap.size, 2, none⟩ (.int .i64 s.st.number)).setCell ⟨w2.heap.size, 3, none⟩ (.slice a k k)) → ∃ a_1 fb v', Value.pointer (some ⟨w2.heap.size, 0, none⟩) = .pointer (some ⟨fb, 0, none⟩) ∧ w2.heap.size ≤ fb ∧ wx.heap[fb]? = some (.cells #[.int .i64 0, .int .i64 0, .int .i64 s.st.number, .slice a_1 k k] 48 (0, 0)) ∧ StB wx s.sb { s.st with waiting := v' } ∧ Chg (fun j => j = s.sb) w2 wx ∧ wx.ownsRow w2.heap.size 5 1 v' (s.wa.length - k) ((s.wa.drop k).map B) ∧ BytesIn wx (.slice a_1 k k) (s.wa.take k) ∧ ∀ j, (Value.slice a_1 k k).ownBlock = some j → s.st.waiting.ownBlock = some j) := fun w3 wx a v' ⟨q1, q2, q3, q4, q5⟩ hf hx => by
      have hc : Chg (fun j => j = w2.heap.size) w3 wx := by rw [hx]; exact chg_set (chg_set (chg_set (chg_set (Chg.refl _ _) rfl) rfl) rfl) rfl
      have hsl := HSL.out
      refine ⟨a, w2.heap.size, v', rfl, Nat.le_refl _, ?_, q3.chg hc (by omega), q4.trans (hc.mono fun j _ e => Or.inl (by omega)), owns_chg q5 hc (fun j hj e => by rw [e] at hj; exact owns_ne q5 hf (by decide) hj), q1.chg hc (fun j hj e => ?_), q2⟩
      · rw [hx, blk_set (blk_set (blk_set (blk_set hf)))]
        rfl
      · have h1 := q2 j hj
        have h2 := ((HI.out.below HB2.out).wa s HS.out).lt j h1
        omega
    have hal : Below w2.heap.size w2 (w2.alloc (.cells #[.int .i64 0, .int .i64 0, .int .i64 0, .slice none 0 0] 48)) := (Below.refl _ _).alloc (Nat.le_refl _) _
    have HCT3 := hide (HCT0.out (w2.alloc (.cells #[.int .i64 0, .int .i64 0, .int .i64 0, .slice none 0 0] 48)).drew NN (HB2.out.trans (hal.drew.mono HB2.out.size)))
    rw [HKN.out] at HCT3
    have c3a : (w2.alloc (.cells #[.int .i64 0, .int .i64 0, .int .i64 0, .slice none 0 0] 48)).cell? ⟨s.sb, 3, none⟩ = some (.int .i64 s.st.number) := (((HI.out.below HB2.out).below hal).st HS.out).c3
    clear hal
    go_cut [5] (fun s5 wx => ∃ a fb v', s5 = .pointer (some ⟨fb, 0, none⟩) ∧ w2.heap.size ≤ fb ∧ wx.heap[fb]? = some (.cells #[.int .i64 0, .int .i64 0, .int .i64 s.st.number, .slice a k k] 48 (0, 0)) ∧ StB wx s.sb { s.st with waiting := v' } ∧ Chg (fun j => j = s.sb) w2 wx ∧ wx.ownsRow w2.heap.size 5 1 v' (s.wa.length - k) ((s.wa.drop k).map B) ∧ BytesIn wx (.slice a k k) (s.wa.take k) ∧ ∀ j, (Value.slice a k k).ownBlock = some j → s.st.waiting.ownBlock = some j)
    case first =>
      go_region_law (first
        | (refine step_call rfl 64 Tryz.f64 Tryz.func64 (by kernel_rfl) rfl [.tmp 25, .tmp 26] #[135, 3] rfl [.pointer (some ⟨s.sb, 12, none⟩), .int .i64 NN] (by simp [Act.eval, Act.put]) HCT2.out ?_; rintro e w3 ⟨v', ⟨a, he, hby, hob⟩, w4, hw4, hb4, hrow⟩; subst he; refine ⟨_, rfl, ?_⟩; obtain ⟨t1, t2, t3, t4⟩ := HW2.out _ v' w3 w4 a (Below.drew (Below.refl _ _)) hby hw4 hb4 hrow; have d3 : w3.cell? ⟨s.sb, 3, none⟩ = some (.int .i64 s.st.number) := t1.c3; have d3a : (w3.alloc (.cells #[.int .i64 0, .int .i64 0, .int .i64 0, .slice none 0 0] 48)).cell? ⟨s.sb, 3, none⟩ = some (.int .i64 s.st.number) := (t1.below ((Below.refl _ _).alloc (Nat.le_refl _) _)).c3; have HX := hide (And.intro hby (And.intro hob (And.intro t1 (And.intro t2 t3)))); clear hby hob hw4 hb4 hrow t1 t2 t3 t4)
        | (refine step_call rfl 64 Tryz.f64 Tryz.func64 (by kernel_rfl) rfl [.tmp 25, .tmp 26] #[135, 3] rfl [.pointer (some ⟨s.sb, 12, none⟩), .int .i64 NN] (by simp [Act.eval, Act.put]) HCT3.out ?_; rintro e w3 ⟨v', ⟨a, he, hby, hob⟩, w4, hw4, hb4, hrow⟩; subst he; refine ⟨_, rfl, ?_⟩; obtain ⟨t1, t2, t3, t4⟩ := HW2.out _ v' w3 w4 a (((Below.refl _ _).alloc (Nat.le_refl _) _).drew) hby hw4 hb4 hrow; have hfb0 : w3.heap[w2.heap.size]? = some (.cells #[.int .i64 0, .int .i64 0, .int .i64 0, .slice none 0 0] 48 (0, 0)) := (by rw [t4.block w2.heap.size (by simp) (fun e => by have := HSL.out; omega)]; exact heap_alloc_new w2 _); obtain ⟨p0, p1, p2, p3, pf⟩ := frame_block hfb0; have pf0 := pf 0; have pf1 := pf 1; have pf2 := pf 2; have pf3 := pf 3; have HFB0 := hide hfb0; clear hfb0 pf; have d3 : w3.cell? ⟨s.sb, 3, none⟩ = some (.int .i64 s.st.number) := t1.c3; have HX := hide (And.intro hby (And.intro hob (And.intro t1 (And.intro t2 t3)))); clear hby hob hw4 hb4 hrow t1 t2 t3 t4))
      all_goals go_wp2_with fail
      all_goals go_meet
      all_goals first
        | exact HFB.out w3 _ a v' HX.out HFB0.out rfl
        | exact HFA.out w3 a v' HX.out
    case rest =>
      obtain ⟨a, fb, v', hs5, hfb, hfr, hst, hch, hrow, hby, hob⟩ := hcut
      subst hs5
      obtain ⟨w3, hw3⟩ : ∃ w3, w3 = wc := ⟨wc, rfl⟩
      rw [← hw3] at hfr hst hch hrow hby ⊢
      clear hw3 c3 c3a HCT2 HCT3 HFA HFB HW2
      have hi2 := HI.out.below HB2.out
      have hne : eb ≠ s.sb := fun e => hi2.st_eb HS.out e.symm
      have hsl := HSL.out
      have hebl := hi2.en.lt
      have hen3 : EnB w3 eb g.m := hi2.en.chg hch (fun e => hne e)
      obtain ⟨sv, cv, hv⟩ := slice_len hrow
      obtain ⟨b3, b4⟩ := HB.out
      have hw1 : IntKind.i64.wrap (s.st.send - (k : Int)) = s.st.send - (k : Int) := by rw [IntKind.wrap_i64]; omega
      have hw2 : IntKind.i64.wrap (g.m.send - (k : Int)) = g.m.send - (k : Int) := by rw [IntKind.wrap_i64]; omega
      -- the state behind the two windows
      obtain ⟨w4, hw4⟩ : ∃ w4, w4 = (w3.setCell ⟨s.sb, 0, none⟩ (.int .i64 (s.st.send - (k : Int)))).drew := ⟨_, rfl⟩
      obtain ⟨w5, hw5⟩ : ∃ w5, w5 = (w4.setCell ⟨eb, 4, none⟩ (.int .i64 (g.m.send - (k : Int)))).drew := ⟨_, rfl⟩
      have hc4 : Chg (fun j => j = s.sb) w3 w4 := by rw [hw4]; exact Chg.drew (chg_set (S := fun j => j = s.sb) (Chg.refl _ _) rfl)
      have hc5 : Chg (fun j => j = eb) w4 w5 := by rw [hw5]; exact Chg.drew (chg_set (S := fun j => j = eb) (Chg.refl _ _) rfl)
      have hst4 : StB w4 s.sb { s.st with send := s.st.send - (k : Int), waiting := v' } := ⟨by rw [hw4]; exact (blk_set hst.blk).trans (by simp [StM.cells])⟩
      have hen4 : EnB w4 eb g.m := hen3.chg hc4 (fun e => hne e)
      have hfr4 : w4.heap[fb]? = some (.cells #[.int .i64 0, .int .i64 0, .int .i64 s.st.number, .slice a k k] 48 (0, 0)) := by rw [hc4.block fb (lt_of_block hfr) (by omega)]; exact hfr
      have hst5 : StB w5 s.sb { s.st with send := s.st.send - (k : Int), waiting := v' } := hst4.chg hc5 (fun e => hne e.symm)
      have hen5 : EnB w5 eb { g.m with send := g.m.send - (k : Int) } := ⟨by rw [hw5]; exact (blk_set hen4.blk).trans (by simp [EndM.cells])⟩
      have hfr5 : w5.heap[fb]? = some (.cells #[.int .i64 0, .int .i64 0, .int .i64 s.st.number, .slice a k k] 48 (0, 0)) := by rw [hc5.block fb (lt_of_block hfr4) (by omega)]; exact hfr4
      have hc35 : Chg (fun j => j = eb ∨ j = s.sb) w3 w5 := (hc4.mono fun _ _ e => Or.inr e).trans (hc5.mono fun _ _ e => Or.inr (Or.inl e))
      have hrow5 := owns_chg hrow hc35 (fun j hj e => by
        rcases e with e | e
        · rw [e] at hj; exact owns_ne hrow hen3.blk (by decide) hj
        · rw [e] at hj; exact owns_ne hrow hst.blk (by decide) hj)
      have hby5 : BytesIn w5 (.slice a k k) (s.wa.take k) := hby.chg hc35 (fun j hj e => by
        have h1 := hob j hj
        rcases e with e | e
        · rw [e] at h1; exact owns_ne (hi2.wa s HS.out) hi2.en.blk (by decide) h1
        · rw [e] at h1; exact owns_ne (hi2.wa s HS.out) (hi2.st HS.out).blk (by decide) h1)
      have hc25 : Chg (fun j => j = eb ∨ j = s.sb) w2 w5 := (hch.mono fun _ _ e => Or.inr e).trans (hc35.mono fun _ _ e => Or.inr e)
      obtain ⟨p0, p1, p2, p3, pf⟩ := frame_block hfr
      have y0 : w3.cell? ⟨s.sb, 0, none⟩ = some (.int .i64 s.st.send) := hst.c0
      have y1 := hst.fr 0
      have z0 : w3.drew.cell? ⟨s.sb, 0, none⟩ = some (.int .i64 s.st.send) := y0
      have z1 : w3.drew.frozen? ⟨s.sb, 0, none⟩ = false := y1
      have z2 : w3.drew.cell? ⟨fb, 3, none⟩ = some (.slice a k k) := p3
      have HW4 := hide hw4
      have HW5 := hide hw5
      have HF5 := hide hfr5
      have HST5 := hide hst5
      have HEN5 := hide hen5
      have HR5 := hide hrow5
      have HBY5 := hide hby5
      have HC25 := hide hc25
      have HV := hide hv
      have x0 : w4.cell? ⟨eb, 4, none⟩ = some (.int .i64 g.m.send) := hen4.c4
      have x1 := hen4.fr 4
      have x2 : w4.cell? ⟨fb, 3, none⟩ = some (.slice a k k) := (frame_block hfr4).2.2.2.1
      have u0 : w4.drew.cell? ⟨eb, 4, none⟩ = some (.int .i64 g.m.send) := x0
      have u1 : w4.drew.frozen? ⟨eb, 4, none⟩ = false := x1
      have u2 : w4.drew.cell? ⟨fb, 3, none⟩ = some (.slice a k k) := x2
      clear hfr hst hch hrow hby hen3 hc4 hc5 hst4 hen4 hfr4 hst5 hen5 hfr5 hc35 hrow5 hby5 hc25 hw4 hw5 hv p0 p1 p2 pf
      go_upto_region 6 with fail
      go_cut [] (fun wx => wx = w4)
      case first =>
        go_region
        all_goals (go_wp2_with fail; go_meet; exact HW4.out.symm)
      case rest =>
        rw [hcut]
        clear hcut y0 y1 z0 z1 z2 p3
        go_upto_region 7 with fail
        go_cut [] (fun wx => wx = w5)
        case first =>
          go_region
          all_goals (go_wp2_with fail; go_meet; exact HW5.out.symm)
        case rest =>
          rw [hcut]
          clear hcut x0 x1 x2 u0 u1 u2
          obtain ⟨fin, hfin⟩ : ∃ fin, fin = g.m.goE s := ⟨_, rfl⟩
          have hfv : fin = (decide (s.wa.length - k = 0) && s.st.shut) := by
            rw [hfin]
            unfold EndM.goE
            rw [← HK.out]
            congr 1
            exact decide_eq_decide.2 (by omega)
          have HFIN := hide hfin
          clear hfin
          have y12 : w5.cell? ⟨s.sb, 12, none⟩ = some (.slice sv (s.wa.length - k) cv) := by rw [HST5.out.c12]; exact congrArg some HV.out
          have y6 : w5.cell? ⟨s.sb, 6, none⟩ = some (.bool s.st.shut) := HST5.out.c6
          go_upto_region 8 with fail
          go_cut [64] (fun s64 wx => s64 = .bool fin ∧ wx = w5)
          case first =>
            by_cases hz : s.wa.length - k = 0
            · have hzI : (((s.wa.length - k : Nat) : Int) == 0) = true := by simp [hz]
              have HFV := hide hfv
              clear hfv
              cases hsh : s.st.shut
              all_goals rw [hsh] at y6
              all_goals go_wp2_with fail
              all_goals go_meet
              all_goals exact ⟨by rw [HFV.out, hsh]; simp [hz], rfl⟩
            · have hzI : (((s.wa.length - k : Nat) : Int) == 0) = false := by simp; omega
              have HFV := hide hfv
              clear hfv
              go_wp2_with fail
              go_meet
              exact ⟨by rw [HFV.out]; simp [hz], rfl⟩
          case rest =>
            obtain ⟨hs64, hw64⟩ := hcut
            subst hs64
            rw [hw64]
            clear hw64 y12 y6 hfv
            go_upto_if 64 with fail
            go_cut [] (fun wx => StB wx s.sb { s.st with send := s.st.send - (k : Int), waiting := v', sentAll := if fin then true else s.st.sentAll } ∧ EnB wx eb { g.m with send := g.m.send - (k : Int) } ∧ wx.heap[fb]? = some (.cells #[.int .i64 0, .int .i64 (if fin then 1 else 0), .int .i64 s.st.number, .slice a k k] 48 (0, 0)) ∧ wx.ownsRow w2.heap.size 5 1 v' (s.wa.length - k) ((s.wa.drop k).map B) ∧ BytesIn wx (.slice a k k) (s.wa.take k) ∧ Chg (fun j => j = eb ∨ j = s.sb) w2 wx)
            case first =>
              cases fin with
              | false =>
                go_wp2_with fail
                go_meet
                exact ⟨HST5.out, HEN5.out, HF5.out, HR5.out, HBY5.out, HC25.out⟩
              | true =>
                obtain ⟨w6, hw6⟩ : ∃ w6, w6 = w5.setCell ⟨fb, 1, none⟩ (.int .i64 1) := ⟨_, rfl⟩
                obtain ⟨w7, hw7⟩ : ∃ w7, w7 = w6.setCell ⟨s.sb, 8, none⟩ (.bool true) := ⟨_, rfl⟩
                have hc6 : Chg (fun j => j = fb) w5 w6 := by rw [hw6]; exact chg_set (Chg.refl _ _) rfl
                have hc7 : Chg (fun j => j = s.sb) w6 w7 := by rw [hw7]; exact chg_set (Chg.refl _ _) rfl
                have hst6 := HST5.out.chg hc6 (fun e => by omega)
                have hst7 : StB w7 s.sb { s.st with send := s.st.send - (k : Int), waiting := v', sentAll := true } := ⟨by rw [hw7]; exact (blk_set hst6.blk).trans (by simp [StM.cells])⟩
                have hen7 : EnB w7 eb { g.m with send := g.m.send - (k : Int) } := (HEN5.out.chg hc6 (fun e => by omega)).chg hc7 (fun e => hne e)
                have hfr6 : w6.heap[fb]? = some (.cells #[.int .i64 0, .int .i64 1, .int .i64 s.st.number, .slice a k k] 48 (0, 0)) := by rw [hw6, blk_set HF5.out]; rfl
                have hfr7 : w7.heap[fb]? = some (.cells #[.int .i64 0, .int .i64 1, .int .i64 s.st.number, .slice a k k] 48 (0, 0)) := by rw [hc7.block fb (lt_of_block hfr6) (by omega)]; exact hfr6
                have hrow7 : w7.ownsRow w2.heap.size 5 1 v' (s.wa.length - k) ((s.wa.drop k).map B) := by
                  have h6 := owns_chg HR5.out hc6 (fun j hj e => by rw [e] at hj; exact owns_ne HR5.out HF5.out (by decide) hj)
                  exact owns_chg h6 hc7 (fun j hj e => by rw [e] at hj; exact owns_ne h6 hst6.blk (by decide) hj)
                have hwab := hi2.wa s HS.out
                have hby7 : BytesIn w7 (.slice a k k) (s.wa.take k) := (HBY5.out.chg hc6 (fun j hj e => by have h1 := (hwab.lt j (hob j hj)).2; omega)).chg hc7 (fun j hj e => by
                  have h1 := hob j hj
                  rw [e] at h1
                  exact owns_ne hwab (hi2.st HS.out).blk (by decide) h1)
                have hc27 : Chg (fun j => j = eb ∨ j = s.sb) w2 w7 := (HC25.out.trans (hc6.mono fun j _ e => Or.inl (by omega))).trans (hc7.mono fun _ _ e => Or.inr (Or.inr e))
                have HSE := hide (settle_no eb s.sb _ w7 hst7 (by unfold StM.closed; simp [HHR.out.1, HHR.out.2]))
                have g1 : w5.cell? ⟨fb, 1, none⟩ = some (.int .i64 0) := (frame_block HF5.out).2.1
                have g2 : w5.frozen? ⟨fb, 1, none⟩ = false := (frame_block HF5.out).2.2.2.2 1
                have g3 : w6.cell? ⟨s.sb, 8, none⟩ = some (.bool s.st.sentAll) := hst6.c8
                have g4 := hst6.fr 8
                have HW6 := hide hw6
                have HW7 := hide hw7
                have HALL := hide (And.intro hst7 (And.intro hen7 (And.intro hfr7 (And.intro hrow7 (And.intro hby7 hc27)))))
                clear hc6 hc7 hst6 hst7 hen7 hfr6 hfr7 hrow7 hby7 hc27 hw6 hw7 hwab
                go_upto_region 10 with fail
                rw [← HW6.out]
                go_upto_region 11 with fail
                rw [← HW7.out]
                go_wp2_with fail
                refine HSE.out.mono ?_
                rintro e w8 ⟨rfl, hb8⟩
                have HB8 := hide hb8
                clear hb8
                go_wp2_with fail
                go_meet
                obtain ⟨q1, q2, q3, q4, q5, q6⟩ := HALL.out
                exact ⟨q1.below HB8.out, q2.below HB8.out, kept_told q3 HB8.out, owns_chg q4 (Chg.of_below (S := fun _ => False) HB8.out) (fun _ _ => id), q5.chg (Chg.of_below (S := fun _ => False) HB8.out) (fun _ _ => id), q6.then_below HB8.out⟩
            case rest =>
              obtain ⟨hst, hen, hfr, hrow, hby, hch⟩ := hcut
              obtain ⟨w8, hw8⟩ : ∃ w8, w8 = wc := ⟨wc, rfl⟩
              rw [← hw8] at hst hen hfr hrow hby hch ⊢
              clear hw8
              obtain ⟨fl, hfl⟩ : ∃ fl : Int, fl = if fin then 1 else 0 := ⟨_, rfl⟩
              have HFL := hide hfl
              have hfl2 : 0 ≤ fl ∧ fl ≤ 255 := by rw [hfl]; split <;> omega
              rw [← hfl] at hfr
              have hout : w8.ownsRow 0 5 1 g.m.out g.out.length (g.out.map B) := owns_chg hi2.out hch (fun j hj e => by
                rcases e with e | e
                · rw [e] at hj; exact owns_ne hi2.out hi2.en.blk (by decide) hj
                · rw [e] at hj; exact owns_ne hi2.out (hi2.st HS.out).blk (by decide) hj)
              have htk : (s.wa.take k).length = k := by rw [List.length_take, Nat.min_eq_left hkl]
              have hk64 : k ≤ 64 := by rw [HK.out]; unfold EndM.goN cutN; omega
              have hput := en_put eb { g.m with send := g.m.send - (k : Int) } g.out 0 fl s.st.number a (s.wa.take k) k w8 hen hg hout hl (by omega) (by omega) hfl2.1 hfl2.2 hnum.1 hnum.2 (by omega) (by rw [htk]; exact hby)
              rw [htk] at hput
              -- the stream's change
              have keep : ∀ {q : Nat} {v'' : Value} {xs : List Value} {ty : TypeId}, ty ≠ 103 → ty ≠ 127 → w2.ownsRow 0 ty 1 v'' q xs → w8.ownsRow 0 ty 1 v'' q xs := fun h1 h2 hr => owns_chg hr hch (fun j hj e => by
                rcases e with e | e
                · rw [e] at hj; exact owns_ne hr hi2.en.blk h1 hj
                · rw [e] at hj; exact owns_ne hr (hi2.st HS.out).blk h2 hj)
              have hn1 := hi2.onSt (S := fun j => j = eb ∨ j = s.sb) (m' := { g.m with send := g.m.send - (k : Int) }) (s := s) (s' := ⟨s.sb, { s.st with send := s.st.send - (k : Int), waiting := v', sentAll := if fin then true else s.st.sentAll }, s.un, s.wa.drop k⟩) (L' := g.L) (o' := g.out) (4 + 2 * s.sb) HS.out hch (by
                  rintro j (e | e)
                  · exact Or.inl e
                  · exact Or.inr (Or.inl e)) hen hst rfl rfl rfl rfl rfl rfl
                (keep (by decide) (by decide) hi2.row) (fun j hj => Or.inl hj) (List.Sublist.refl _) hout (fun j hj => Or.inl hj) (keep (by decide) (by decide) (hi2.un s HS.out)) (fun j hj => Or.inl hj)
                (by rw [List.length_drop]; exact owns_base hrow (fun _ _ => Nat.zero_le _)) (fun j hj => Or.inr ⟨(hrow.lt j hj).1, rfl⟩)
              have HN1 := hide hn1
              have HPT := hide hput
              obtain ⟨c0, c1, c2, c3', -⟩ := frame_block hfr
              have HST8 := hide hst
              clear hst hen hfr hrow hby hch hout hput keep hn1 hfl
              go_wp2_with fail
              refine HPT.out.mono ?_
              rintro e w9 ⟨rfl, v9, hp9⟩
              have hn2 := HN1.out.inv.put (m' := { g.m with send := g.m.send - (k : Int) }) rfl rfl rfl rfl rfl rfl hp9
              have hst9 : StB w9 s.sb _ := HST8.out.chg hp9.chg (fun e => by
                rcases e with e | e
                · exact hne e.symm
                · exact owns_ne hi2.out (hi2.st HS.out).blk (by decide) e)
              have z3 : w9.cell? ⟨s.sb, 3, none⟩ = some (.int .i64 s.st.number) := hst9.c3
              have e45 := hn2.inv.en
              have z45 : w9.cell? ⟨eb, 45, none⟩ = some (.int .i64 g.m.lastData) := e45.c45
              have zf := e45.fr 45
              have hset : Chg (fun j => j = eb) w9 (w9.setCell ⟨eb, 45, none⟩ (.int .i64 s.st.number)) := chg_set (Chg.refl _ _) rfl
              have hn3 := hn2.inv.onM (m' := { g.m with send := g.m.send - (k : Int), out := v9, lastData := s.st.number }) hset ⟨(blk_set e45.blk).trans (by simp [EndM.cells])⟩ rfl rfl rfl rfl rfl rfl
              have HEND : Hid (∃ g', g'.bare = (g.goes s).bare ∧ Next w (w9.setCell ⟨eb, 45, none⟩ (.int .i64 s.st.number)) eb mb g g') := by
                refine ⟨_, ?_, ((HN1.out.trans hn2).trans hn3).pre HB2.out⟩
                unfold GEnd.goes
                rw [← HK.out, ← HFIN.out, ← HFL.out]
                unfold GEnd.bare
                simp only [GEnd.mk.injEq, true_and, and_true]
                refine ⟨rfl, ?_⟩
                rw [← updN_const (f := fun x => x.went k fin) hi2.nn HS.out rfl]
                unfold updN
                rw [List.map_map, List.map_map]
                apply List.map_congr_left
                intro y hy
                show (if y.st.number = s.st.number then _ else y).bare = (if y.st.number = s.st.number then _ else y).bare
                split <;> rfl
              clear hn2 hn3 hst9 e45 hset hp9
              go_wp2
              go_ret
              exact ⟨rfl, HEND.out⟩
end Go.Proofs.YtdccldbefdfppaaGreatDoor
