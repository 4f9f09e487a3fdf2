/-
  (*frames.Reader).Take: the byte with which a frame ends.
-/
import Derived.Test.YtckeblkadiehbaaGreatTake
namespace Go.Proofs.YtckeblkadiehbaaGreat
open Go.RowKit
set_option linter.unusedVariables false
set_option linter.unusedSimpArgs false

theorem bytes_one (l : List UInt8) : ∀ u ∈ l.map B, u.oneCell' = true := by
  intro u hu
  obtain ⟨x, _, rfl⟩ := List.mem_map.1 hu
  rfl

theorem Pushed.lies {w w2 w3 : World} {rb : Nat} {gv : Value} {g cap : Nat} {got : List UInt8} {c : UInt8} {L K F S : Int} (h : Pushed w w2 rb gv g cap (got ++ [c]) L K F S) (cp : Nat) (hb : Below w2.heap.size w2 w3) (hl : 6 ≤ got.length + 1) :
    Lies w3 (.slice (some ⟨g, 6, none⟩) (got.length - 5) cp) (got.length - 5) (((got ++ [c]).drop 6).map B) := by
  refine Or.inr ⟨_, _, rfl, fun j u hu => ?_⟩
  have hj : j < got.length - 5 := by
    have := (List.getElem?_eq_some_iff.1 hu).1
    simp at this; omega
  have e : (⟨g, 6, none⟩ : Addr).add j = ⟨g, 6 + j, none⟩ := by unfold Addr.add; split <;> simp_all
  rw [e, hb.cell (p := ⟨g, 6 + j, none⟩) h.lt, h.cell (6 + j) (by simp; omega), ← hu, List.getElem?_map, List.getElem?_drop, List.getElem?_eq_getElem (by simp; omega), getD_lt _ _ _ (by simp; omega)]
  rfl

/-- Behind 'f.Body = append(f.Body, body...)'. -/
theorem told {w w3 w5 : World} {rb : Nat} {gv v' : Value} {g cap m : Nat} {l : List UInt8} {L K F S k f s : Int} {xs : List Value} (hp : Pushed w w3 rb gv g cap l L K F S)
    (hown : w5.ownsRow 0 5 1 v' m xs) (hg : ((w3.alloc (.cells #[.int .i64 k, .int .i64 f, .int .i64 s, .slice none 0 0] 56)).drew).grownBy w5 none) :
    Pushed w w5 rb gv g cap l L K F S ∧ w5.heap[w3.heap.size]? = some (.cells #[.int .i64 k, .int .i64 f, .int .i64 s, .slice none 0 0] 56 (0, 0)) ∧ ∃ sa n c, v' = .slice sa n c := by
  have hb : Below w3.heap.size w3 w5 := (((Below.refl _ _).alloc (Nat.le_refl _) _).drew).grown hg (by simp) (fun k h => by cases h)
  refine ⟨hp.below hb, ?_, ?_⟩
  · rw [hg.block w3.heap.size (by simp) (by simp)]
    exact heap_alloc_new w3 _
  · rcases hown.2 with ⟨rfl, _⟩ | ⟨g, cap, cur, rfl, _⟩
    · exact ⟨_, _, _, rfl⟩
    · exact ⟨_, _, _, rfl⟩

/-- The end of a call that tells a frame. -/
def Ends (w w' : World) (rb : Nat) (gv : Value) (e : Ending) (K F S : Int) (body : List UInt8) : Prop :=
  ∃ bv gv' L' K' F' S', e = .returned (.tuple #[.agg #[.int .i64 K, .int .i64 F, .int .i64 S, bv], .bool true]) ∧ w'.ownsRow 0 5 1 bv body.length (body.map B) ∧ (∀ k, bv.ownBlock = some k → w.heap.size ≤ k) ∧
    RdB w' rb gv' L' K' F' S' 0 ∧ w'.ownsRow 0 5 1 gv' 0 [] ∧ Chg (Touch rb gv) w w' ∧ (∀ k, gv'.ownBlock = some k → gv.ownBlock = some k ∨ w.heap.size ≤ k) ∧ (∀ k, bv.ownBlock = some k → gv'.ownBlock ≠ some k)

/-- The last steps of a call that tells a frame. -/
theorem ends_of {w w5 : World} {rb N m : Nat} {gv bv : Value} {g cap : Nat} {l : List UInt8} {L K F S k f s : Int} {xs : List Value} {cs : Array Value} (hp : Pushed w w5 rb gv g cap l L K F S) (hN : w.heap.size + 2 ≤ N)
    (hfb : w5.heap[N]? = some (.cells cs 56 (0, 0))) (hown : w5.ownsRow 0 5 1 bv m xs) (hfr : bv.ownBlock = none ∨ bv.ownBlock = some (N + 1)) (hgN : g < N) (hrb : rb < w.heap.size) :
    ∀ W, W = ((((((w5.setCell ⟨N, 3, none⟩ bv).setCell ⟨rb, 0, none⟩ (.slice (some ⟨g, 0, none⟩) 0 cap)).setCell ⟨w.heap.size, 0, none⟩ (.int .i64 k)).setCell ⟨w.heap.size, 1, none⟩ (.int .i64 f)).setCell ⟨w.heap.size, 2, none⟩ (.int .i64 s)).setCell ⟨w.heap.size, 3, none⟩ bv) →
      W.ownsRow 0 5 1 bv m xs ∧ (∀ k, bv.ownBlock = some k → w.heap.size ≤ k) ∧ RdB W rb (.slice (some ⟨g, 0, none⟩) 0 cap) L K F S 0 ∧ W.ownsRow 0 5 1 (.slice (some ⟨g, 0, none⟩) 0 cap) 0 [] ∧
        Chg (Touch rb gv) w W ∧ (∀ k, (Value.slice (some ⟨g, 0, none⟩) 0 cap).ownBlock = some k → gv.ownBlock = some k ∨ w.heap.size ≤ k) ∧ (∀ k, bv.ownBlock = some k → (Value.slice (some ⟨g, 0, none⟩) 0 cap).ownBlock ≠ some k) := by
  intro W hW
  have hbk : ∀ k, bv.ownBlock = some k → k = N + 1 := fun k hk => by
    rcases hfr with h | h
    · rw [h] at hk; cases hk
    · rw [h] at hk; simp at hk; exact hk.symm
  have hc1 : Chg (fun k => k = N) w5 (w5.setCell ⟨N, 3, none⟩ bv) := (Chg.refl (fun k => k = N) w5).setCell (p := ⟨N, 3, none⟩) (Or.inr rfl) _
  have hrd1 : RdB (w5.setCell ⟨N, 3, none⟩ bv) rb _ L K F S 0 := hp.rd.chg hc1 (by omega)
  have hrd2 := hrd1.set0 (.slice (some ⟨g, 0, none⟩) 0 cap)
  have hc2 : Chg (fun k => k = N ∨ k = rb) w5 ((w5.setCell ⟨N, 3, none⟩ bv).setCell ⟨rb, 0, none⟩ (.slice (some ⟨g, 0, none⟩) 0 cap)) :=
    Chg.setCell (S := fun k => k = N ∨ k = rb) (p := ⟨rb, 0, none⟩) (hc1.mono (fun k _ h => Or.inl h)) (Or.inr (Or.inr rfl)) _
  have hc3 := (Chg.refl (fun k => k = w.heap.size) ((w5.setCell ⟨N, 3, none⟩ bv).setCell ⟨rb, 0, none⟩ (.slice (some ⟨g, 0, none⟩) 0 cap))).set4 (b := w.heap.size) (Or.inr rfl) (.int .i64 k) (.int .i64 f) (.int .i64 s) bv
  rw [← hW] at hc3
  have hcw : Chg (fun k => k = N ∨ k = rb ∨ k = w.heap.size) w5 W := Chg.trans (hc2.mono (fun k _ h => h.elim Or.inl (fun h => Or.inr (Or.inl h)))) (hc3.mono (fun k _ h => Or.inr (Or.inr (Or.inr h))))
  have hg1 := hp.ne
  have hg2 := hp.nef
  refine ⟨owns_chg hown hcw (fun k hk => ?_), fun k hk => ?_, hrd2.chg hc3 (by omega), ?_, hp.chg.trans (hcw.mono (fun k _ h => ?_)), fun k hk => ?_, fun k hk => ?_⟩
  · have := hbk k hk; omega
  · have := hbk k hk; omega
  · have h0 := owns_chg hp.own hcw (fun k hk => by simp [Value.ownBlock] at hk; omega)
    refine ⟨rfl, ?_⟩
    rcases h0.2 with ⟨h, _⟩ | ⟨g', cap', cur, h, hb, hgg, hn, hm, hs, ht⟩
    · cases h
    · simp only [Value.slice.injEq, Option.some.injEq, Addr.mk.injEq, and_true, true_and] at h
      obtain ⟨rfl, rfl⟩ := h
      exact Or.inr ⟨g, cap, cur, rfl, hb, hgg, Nat.zero_le _, hm, hs, by simp⟩
  · rcases h with h | h | h
    · exact Or.inl (by omega)
    · exact Or.inr (Or.inl h)
    · exact Or.inl (by omega)
  · simp [Value.ownBlock] at hk; subst hk
    rcases hp.old with a | a
    · exact Or.inl a
    · exact Or.inr (by omega)
  · have := hbk k hk
    simp [Value.ownBlock]; omega

set_option maxRecDepth 100000 in
set_option maxHeartbeats 1600000 in
theorem take_done_bad (rb : Nat) (gv : Value) (L K F S : Int) (got : List UInt8) (c : UInt8) (w : World) (hr : RdB w rb gv L K F S 0) (hown : w.ownsRow 0 5 1 gv got.length (got.map B)) (hl : 6 ≤ got.length) (hm : (got.length : Int) + 1 = 6 + L) (hh : headCode L K F S = 0) (hF0 : 0 ≤ F) (hF1 : F < 256) (hbad : bodyCode K F ((got ++ [c]).drop 6) ≠ 0) :
    Calls Tryz.prog 70 #[.pointer (some ⟨rb, 0, none⟩), .int .u8 c.toNat] w fun e w' => e = .panicked [{ v := .iface 83 (.int .i64 (bodyCode K F ((got ++ [c]).drop 6))), recovered := false }] ∧ Gave w w' rb gv := by
  have hL : L ≤ 64 := (headCode_zero hh).2.2.1
  have HM : Hid ((got.length : Int) + 1 = 6 + L) := hm
  have hm1 : (got.length : Int) + 1 ≤ 6 + L := by omega
  have hm2 : 6 + L ≤ (got.length : Int) + 1 := by omega
  clear hm
  obtain ⟨i0, hi, hz0, hz1, hz2⟩ := info_parts Tryz.info5
  obtain ⟨c0, c1, c2, c3, c4, c5⟩ := hr.cells
  have f0 := hr.free 0
  have hrb := hr.lt
  go_enter Tryz.func70, Tryz.ntmps70
  go_wp2_with (at_builtin; refine wpList_app _ rfl (.tmp 12) (.tmp 14) 54 rfl 5 i0 (.int .u8 0) 1 1 Tryz.underlying54 hi hz0 hz1 hz2 rfl (by decide) _ _ _ rfl ((hown.alloc _).alloc _) (.slice (some ⟨w.heap.size + 1, 0, none⟩) 1 1) 1 [.int .u8 c.toNat] rfl rfl (lies_one (by simp)) ?c2 ?c3 ?c4 ?_)
  case c2 => intro u hu; simp at hu; subst hu; rfl
  case c3 => unfold maxLen; omega
  case c4 => omega
  intro v' w1 hown' hgrow hfr
  obtain ⟨hr1, g, cap, hv, hp⟩ := pushed hr hown hown' hgrow hfr
  subst hv
  obtain ⟨d0, -, -, -, -, -⟩ := hr1.cells
  have e0 := hr1.free 0
  obtain ⟨w2, hw2⟩ : ∃ w2, w1.setCell ⟨rb, 0, none⟩ (.slice (some ⟨g, 0, none⟩) (got.length + 1) cap) = w2 := ⟨_, rfl⟩
  rw [hw2] at hp
  have hnef := hp.nef
  have hrd := hp.rd
  have hlen : (got ++ [c]).length = got.length + 1 := by simp
  rw [hlen] at hrd
  clear hlen
  obtain ⟨p0, p1, p2, p3, p4, -⟩ := hrd.cells
  obtain ⟨z0, z1, z2, z3, zf⟩ := frame_block hp.fr
  have zf0 := zf 0
  have zf1 := zf 1
  have zf2 := zf 2
  have zf3 := zf 3
  clear c0 c1 c2 c3 c4 c5 hown' hgrow hfr hr1 hown hr hrd zf f0
  have hs6 : ((got.length : Int) + 1 == 6) = false := by simp; omega
  have hd : decide ((got.length : Int) + 1 < 6) = false := by simp; omega
  have hd2 : decide ((got.length : Int) + 1 < 6 + L) = false := by simp; omega
  have hbl : ((got ++ [c]).drop 6).length = got.length + 1 - 6 := by simp
  have hcb : ∀ i, i < ((got ++ [c]).drop 6).length → w2.cell? ⟨g, 6 + i, none⟩ = some (.int .u8 (((got ++ [c]).drop 6).getD i 0).toNat) := fun i hi => by
    rw [hp.cell (6 + i) (by simp at hi ⊢; omega)]; simp [List.getD]
  have hcap : got.length + 1 ≤ cap := by have := hp.room; simpa using this
  have hgl2 := hp.lt
  have HC : Hid (∀ i, i < ((got ++ [c]).drop 6).length → w2.cell? ⟨g, 6 + i, none⟩ = some (.int .u8 (((got ++ [c]).drop 6).getD i 0).toNat)) := hcb
  have HB : Hid (((got ++ [c]).drop 6).length = got.length + 1 - 6) := hbl
  have HH : Hid (headCode L K F S = 0) := hh
  clear hcb hbl hh
  go_wp2
  go_quiet (fail)
  go_wp2_with fail
  have hck := checkBody_any g 6 (cap - 6) ((got ++ [c]).drop 6) L K F S (w2.drewN nq) (by rw [HB.out]; omega) (by rw [HB.out]; omega) hF0 hF1 hgl2 (fun h => by have := len_four HH.out h; rw [HB.out]; omega) HC.out
  rw [show ((got ++ [c]).drop 6).length = got.length - 5 from by rw [HB.out]; omega] at hck
  refine hck.mono ?_
  clear hck
  rintro e w3 ⟨he, hb3⟩
  have hp3 := hp.below (((below_drewN (Below.refl _ _) nq)).trans hb3)
  rw [endOf_ne hbad] at he
  subst he
  exact ⟨rfl, rfl, _, _, _, _, _, hp3.rd, hp3.chg⟩

set_option maxRecDepth 100000 in
set_option maxHeartbeats 1600000 in
theorem take_done_ok (rb : Nat) (gv : Value) (L K F S : Int) (got : List UInt8) (c : UInt8) (w : World) (hr : RdB w rb gv L K F S 0) (hown : w.ownsRow 0 5 1 gv got.length (got.map B)) (hl : 6 ≤ got.length) (hm : (got.length : Int) + 1 = 6 + L) (hh : headCode L K F S = 0) (hF0 : 0 ≤ F) (hF1 : F < 256) (hok : bodyCode K F ((got ++ [c]).drop 6) = 0) :
    Calls Tryz.prog 70 #[.pointer (some ⟨rb, 0, none⟩), .int .u8 c.toNat] w fun e w' => Ends w w' rb gv e K F S ((got ++ [c]).drop 6) := by
  have hL : L ≤ 64 := (headCode_zero hh).2.2.1
  have HM : Hid ((got.length : Int) + 1 = 6 + L) := hm
  have hm1 : (got.length : Int) + 1 ≤ 6 + L := by omega
  have hm2 : 6 + L ≤ (got.length : Int) + 1 := by omega
  clear hm
  obtain ⟨i0, hi, hz0, hz1, hz2⟩ := info_parts Tryz.info5
  obtain ⟨c0, c1, c2, c3, c4, c5⟩ := hr.cells
  have f0 := hr.free 0
  have hrb := hr.lt
  go_enter Tryz.func70, Tryz.ntmps70
  go_wp2_with (at_builtin; refine wpList_app _ rfl (.tmp 12) (.tmp 14) 54 rfl 5 i0 (.int .u8 0) 1 1 Tryz.underlying54 hi hz0 hz1 hz2 rfl (by decide) _ _ _ rfl ((hown.alloc _).alloc _) (.slice (some ⟨w.heap.size + 1, 0, none⟩) 1 1) 1 [.int .u8 c.toNat] rfl rfl (lies_one (by simp)) ?c2 ?c3 ?c4 ?_)
  case c2 => intro u hu; simp at hu; subst hu; rfl
  case c3 => unfold maxLen; omega
  case c4 => omega
  intro v' w1 hown' hgrow hfr
  obtain ⟨hr1, g, cap, hv, hp⟩ := pushed hr hown hown' hgrow hfr
  subst hv
  obtain ⟨d0, -, -, -, -, -⟩ := hr1.cells
  have e0 := hr1.free 0
  obtain ⟨w2, hw2⟩ : ∃ w2, w1.setCell ⟨rb, 0, none⟩ (.slice (some ⟨g, 0, none⟩) (got.length + 1) cap) = w2 := ⟨_, rfl⟩
  rw [hw2] at hp
  have hnef := hp.nef
  have hrd := hp.rd
  have hlen : (got ++ [c]).length = got.length + 1 := by simp
  rw [hlen] at hrd
  clear hlen
  obtain ⟨p0, p1, p2, p3, p4, -⟩ := hrd.cells
  obtain ⟨z0, z1, z2, z3, zf⟩ := frame_block hp.fr
  have zf0 := zf 0
  have zf1 := zf 1
  have zf2 := zf 2
  have zf3 := zf 3
  clear c0 c1 c2 c3 c4 c5 hown' hgrow hfr hr1 hown hr hrd zf f0
  have hs6 : ((got.length : Int) + 1 == 6) = false := by simp; omega
  have hd : decide ((got.length : Int) + 1 < 6) = false := by simp; omega
  have hd2 : decide ((got.length : Int) + 1 < 6 + L) = false := by simp; omega
  have hbl : ((got ++ [c]).drop 6).length = got.length + 1 - 6 := by simp
  have hcb : ∀ i, i < ((got ++ [c]).drop 6).length → w2.cell? ⟨g, 6 + i, none⟩ = some (.int .u8 (((got ++ [c]).drop 6).getD i 0).toNat) := fun i hi => by
    rw [hp.cell (6 + i) (by simp at hi ⊢; omega)]; simp [List.getD]
  have hcap : got.length + 1 ≤ cap := by have := hp.room; simpa using this
  have hgl2 := hp.lt
  have HC : Hid (∀ i, i < ((got ++ [c]).drop 6).length → w2.cell? ⟨g, 6 + i, none⟩ = some (.int .u8 (((got ++ [c]).drop 6).getD i 0).toNat)) := hcb
  have HB : Hid (((got ++ [c]).drop 6).length = got.length + 1 - 6) := hbl
  have HH : Hid (headCode L K F S = 0) := hh
  clear hcb hbl hh
  go_wp2
  go_quiet (fail)
  go_wp2_with fail
  have hck := checkBody_any g 6 (cap - 6) ((got ++ [c]).drop 6) L K F S (w2.drewN nq) (by rw [HB.out]; omega) (by rw [HB.out]; omega) hF0 hF1 hgl2 (fun h => by have := len_four HH.out h; rw [HB.out]; omega) HC.out
  rw [show ((got ++ [c]).drop 6).length = got.length - 5 from by rw [HB.out]; omega] at hck
  refine hck.mono ?_
  clear hck
  rintro e w3 ⟨he, hb3⟩
  have hp3 := hp.below (((below_drewN (Below.refl _ _) nq)).trans hb3)
  rw [hok, endOf0] at he
  subst he
  clear p0 p1 p2 p3 p4
  have hrd3 := hp3.rd
  have hlen : (got ++ [c]).length = got.length + 1 := by simp
  rw [hlen] at hrd3
  clear hlen
  obtain ⟨p0, p1, p2, p3, p4, -⟩ := hrd3.cells
  have hrb3 : rb < w3.heap.size := hp3.rd.lt
  have hsz3 := hp3.size
  have HO : Hid (bodyCode K F ((got ++ [c]).drop 6) = 0) := hok
  clear hok hb3 HC zf0 zf1 zf2 zf3 z0 z1 z2 z3 hp hw2 d0 e0 hd hd2 hrd3 hgl2
  go_wp2
  go_region
  go_wp2_with (at_builtin; refine wpList_app _ rfl (.tmp 86) (.tmp 87) 54 rfl 5 i0 (.int .u8 0) 1 1 Tryz.underlying54 hi hz0 hz1 hz2 rfl (by decide) _ _ _ rfl (World.ownsRow_nil _ _ _ _) (.slice (some ⟨g, 6, none⟩) (got.length - 5) (cap - 6)) (got.length - 5) (((got ++ [c]).drop 6).map B) rfl ?d1 ?d2 ?d3 ?d4 ?d5 ?_)
  case d1 => rw [List.length_map, HB.out]; omega
  case d2 => exact hp3.lies _ ((Below.refl _ _).alloc (Nat.le_refl _) _).drew (by omega)
  case d3 => exact bytes_one _
  case d4 => unfold maxLen; omega
  case d5 => omega
  intro v' w5 hown5 hgrow5 hfr5
  obtain ⟨hp5, hfb5, sa, n5, c5, hv5⟩ := told hp3 hown5 hgrow5
  subst hv5
  have hrd5 := hp5.rd
  have hlen : (got ++ [c]).length = got.length + 1 := by simp
  rw [hlen] at hrd5
  clear hlen
  clear p0 p1 p2 p3 p4
  obtain ⟨p0, p1, p2, p3, p4, -⟩ := hrd5.cells
  have rf := hrd5.free 0
  obtain ⟨z0, z1, z2, z3, zf⟩ := frame_block hp5.fr
  have zf0 := zf 0
  have zf1 := zf 1
  have zf2 := zf 2
  have zf3 := zf 3
  obtain ⟨y0, y1, y2, y3, yf⟩ := frame_block hfb5
  have yf3 := yf 3
  have hne1 : w3.heap.size ≠ rb := by omega
  have hne2 : w3.heap.size ≠ w.heap.size := by omega
  have hne3 : rb ≠ w.heap.size := by omega
  clear zf yf
  have hgN : g < w3.heap.size := hp3.lt
  have hown6 : w5.ownsRow 0 5 1 (.slice sa n5 c5) ((got ++ [c]).drop 6).length (((got ++ [c]).drop 6).map B) := by
    rw [show ((got ++ [c]).drop 6).length = got.length - 5 from by rw [HB.out]; omega]; simpa using hown5
  have hfr6 : (Value.slice sa n5 c5).ownBlock = none ∨ (Value.slice sa n5 c5).ownBlock = some (w3.heap.size + 1) := hfr5
  have H := ends_of (k := K) (f := F) (s := S) hp5 (by omega) hfb5 hown6 hfr6 hgN hrb _ rfl
  clear hown5 hown6 hfr5 hfr6 hgrow5 hrd5
  go_wp2
  refine bodyPost_ret (v := .tuple #[.agg #[.int .i64 K, .int .i64 F, .int .i64 S, .slice sa n5 c5], .bool true]) ?_ rfl ⟨_, _, _, _, _, _, rfl, H⟩
  simp [results, Tryz.results70, go_sem, z0, z1, z2, z3, p0, y0, y1, y2, y3, hne1, hne2, hne3]
end Go.Proofs.YtckeblkadiehbaaGreat
