/-
  (*frames.Reader).Take: one byte more.
-/
import Derived.Test.YtckeblkadiehbaaGreatApp
import Derived.Test.YtckeblkadiehbaaGreatLeafHead
import Derived.Test.YtckeblkadiehbaaGreatLeafBody
namespace Go.Proofs.YtckeblkadiehbaaGreat
open Go.RowKit

theorem Tryz.info5 : (Tryz.prog.info? 5).map (fun i => (i.zero, i.size, i.bytes)) = some (some (.int .u8 0), 1, 1) := by kernel_rfl

/-- The new frame's block. -/
abbrev zeroFr : Obj := .cells #[.int .i64 0, .int .i64 0, .int .i64 0, .slice none 0 0] 56

/-- What a reader's call may touch of what was there. -/
abbrev Touch (rb : Nat) (gv : Value) : Nat → Prop := fun k => k = rb ∨ gv.ownBlock = some k

/-- What is known behind 'r.got = append(r.got, c)'. -/
structure Pushed (w w2 : World) (rb : Nat) (gv : Value) (g cap : Nat) (l : List UInt8) (L K F S : Int) : Prop where
  rd : RdB w2 rb (.slice (some ⟨g, 0, none⟩) l.length cap) L K F S 0
  own : w2.ownsRow 0 5 1 (.slice (some ⟨g, 0, none⟩) l.length cap) l.length (l.map B)
  fr : w2.heap[w.heap.size]? = some zeroFr
  chg : Chg (Touch rb gv) w w2
  size : w.heap.size + 2 ≤ w2.heap.size
  room : l.length ≤ cap
  old : gv.ownBlock = some g ∨ w.heap.size + 2 ≤ g

theorem pushed {w w1 : World} {rb : Nat} {gv v' : Value} {got : List UInt8} {c : UInt8} {L K F S : Int} (hr : RdB w rb gv L K F S 0) (hown : w.ownsRow 0 5 1 gv got.length (got.map B))
    (hown' : w1.ownsRow 0 5 1 v' (got.length + 1) (got.map B ++ [.int .u8 c.toNat])) (hg : ((w.alloc zeroFr).alloc (.cells #[.int .u8 c.toNat] 5)).grownBy w1 gv.ownBlock)
    (hfr : v'.ownBlock = gv.ownBlock ∨ v'.ownBlock = some (w.heap.size + 1 + 1)) :
    RdB w1 rb gv L K F S 0 ∧ ∃ g cap, v' = .slice (some ⟨g, 0, none⟩) (got.length + 1) cap ∧ Pushed w (w1.setCell ⟨rb, 0, none⟩ (.slice (some ⟨g, 0, none⟩) (got.length + 1) cap)) rb gv g cap (got ++ [c]) L K F S := by
  have hrb := hr.lt
  have hlt : ∀ k, gv.ownBlock = some k → k < w.heap.size := fun k hk => owns_lt hown hk
  have hne := owns_ne hown hr (by decide)
  have hb : ∀ k, k < w.heap.size → gv.ownBlock ≠ some k → w1.heap[k]? = w.heap[k]? := fun k hk hn => by
    rw [hg.block k (by simp; omega) (fun e => hn e.symm), Below.heap_alloc _ _ _ (by simp; omega), Below.heap_alloc _ _ _ hk]
  have hr1 : RdB w1 rb gv L K F S 0 := by unfold RdB; rw [hb rb hrb hne]; exact hr
  have hfb : w1.heap[w.heap.size]? = some zeroFr := by
    rw [hg.block w.heap.size (by simp; omega) (fun e => by have := hlt _ e.symm; omega), Below.heap_alloc _ _ _ (by simp)]
    exact heap_alloc_new w _
  have hsz := hg.size
  simp only [World.size_alloc] at hsz
  refine ⟨hr1, ?_⟩
  rcases hown'.2 with ⟨_, h⟩ | ⟨g, cap, cur, rfl, _, hgg, hroom, hmax, hcur, htake⟩
  · omega
  · have hgr : g ≠ rb := by
      rintro rfl
      exact owns_ne hown' hr1 (by decide) rfl
    refine ⟨g, cap, rfl, ?_⟩
    have hown2 : (w1.setCell ⟨rb, 0, none⟩ (.slice (some ⟨g, 0, none⟩) (got.length + 1) cap)).ownsRow 0 5 1 (.slice (some ⟨g, 0, none⟩) (got.length + 1) cap) (got.length + 1) (got.map B ++ [.int .u8 c.toNat]) :=
      ownsRow_setCell_other hown' (fun e => by simp [Value.ownBlock] at e; exact hgr e) _
    refine ⟨?_, ?_, ?_, ?_, ?_, ?_, ?_⟩
    · have := hr1.set0 (.slice (some ⟨g, 0, none⟩) (got.length + 1) cap)
      simpa using this
    · simpa using hown2
    · rw [Below.heap_setCell _ _ _ _ (by simp; omega)]; exact hfb
    · exact Chg.setCell (S := Touch rb gv) (p := ⟨rb, 0, none⟩) (Chg.trans (((Chg.refl _ _).alloc _).alloc _) (Chg.of_grown hg (fun k hk => Or.inr (Or.inr hk)))) (Or.inr (Or.inl rfl)) _
    · simp; omega
    · simpa using hroom
    · rcases hfr with h | h
      · exact Or.inl h.symm
      · simp [Value.ownBlock] at h; exact Or.inr (by omega)

theorem Pushed.lt {w w2 : World} {rb : Nat} {gv : Value} {g cap : Nat} {l : List UInt8} {L K F S : Int} (h : Pushed w w2 rb gv g cap l L K F S) : g < w2.heap.size := owns_lt h.own rfl
theorem Pushed.cell {w w2 : World} {rb : Nat} {gv : Value} {g cap : Nat} {l : List UInt8} {L K F S : Int} (h : Pushed w w2 rb gv g cap l L K F S) : ∀ i, i < l.length → w2.cell? ⟨g, i, none⟩ = some (.int .u8 (l.getD i 0).toNat) := by
  intro i hi
  have := h.own.cells (g := g) rfl i (B (l.getD i 0)) (by simp [List.getD, hi])
  rw [← this]
  congr 1
  unfold Addr.add; split <;> simp_all

/-- A frame's block. -/
theorem frame_block {w : World} {b : Nat} {v0 v1 v2 v3 : Value} (h : w.heap[b]? = some (.cells #[v0, v1, v2, v3] 56 (0, 0))) :
    w.cell? ⟨b, 0, none⟩ = some v0 ∧ w.cell? ⟨b, 1, none⟩ = some v1 ∧ w.cell? ⟨b, 2, none⟩ = some v2 ∧ w.cell? ⟨b, 3, none⟩ = some v3 ∧ ∀ o, w.frozen? ⟨b, o, none⟩ = false := by
  refine ⟨?_, ?_, ?_, ?_, fun o => by simp [World.frozen?, h]⟩ <;> rw [cell_of_row w b _ _ _ _ h] <;> rfl

theorem Chg.set4 {S : Nat → Prop} {a w : World} {b : Nat} (h : Chg S a w) (hp : a.heap.size ≤ b ∨ S b) (v0 v1 v2 v3 : Value) :
    Chg S a ((((w.setCell ⟨b, 0, none⟩ v0).setCell ⟨b, 1, none⟩ v1).setCell ⟨b, 2, none⟩ v2).setCell ⟨b, 3, none⟩ v3) :=
  (((h.setCell (p := ⟨b, 0, none⟩) hp v0).setCell (p := ⟨b, 1, none⟩) hp v1).setCell (p := ⟨b, 2, none⟩) hp v2).setCell (p := ⟨b, 3, none⟩) hp v3

theorem Pushed.step {T : Nat → Prop} {w w2 w3 : World} {rb : Nat} {gv : Value} {g cap : Nat} {l : List UInt8} {L K F S : Int} (h : Pushed w w2 rb gv g cap l L K F S) (hb : Chg T w2 w3)
    (h1 : ¬ T rb) (h2 : ¬ T g) (h3 : ¬ T w.heap.size) (h4 : ∀ k, k < w2.heap.size → T k → w.heap.size ≤ k ∨ Touch rb gv k) : Pushed w w3 rb gv g cap l L K F S :=
  ⟨h.rd.chg hb h1, owns_chg h.own hb (fun k hk => by simp [Value.ownBlock] at hk; subst hk; exact h2), by rw [hb.block _ (by have := h.size; omega) h3]; exact h.fr,
    h.chg.trans (hb.mono h4), Nat.le_trans h.size hb.size, h.room, h.old⟩
theorem Pushed.below {w w2 w3 : World} {rb : Nat} {gv : Value} {g cap : Nat} {l : List UInt8} {L K F S : Int} (h : Pushed w w2 rb gv g cap l L K F S) (hb : Below w2.heap.size w2 w3) : Pushed w w3 rb gv g cap l L K F S :=
  h.step (T := fun _ => False) (Chg.of_below hb) id id id (fun _ _ x => x.elim)
theorem Pushed.ne {w w2 : World} {rb : Nat} {gv : Value} {g cap : Nat} {l : List UInt8} {L K F S : Int} (h : Pushed w w2 rb gv g cap l L K F S) : g ≠ rb := by
  rintro rfl
  exact owns_ne h.own h.rd (by decide) rfl
theorem Pushed.nef {w w2 : World} {rb : Nat} {gv : Value} {g cap : Nat} {l : List UInt8} {L K F S : Int} (h : Pushed w w2 rb gv g cap l L K F S) : g ≠ w.heap.size := by
  rintro rfl
  exact owns_ne h.own h.fr (by decide) rfl
theorem Pushed.head {w w2 : World} {rb : Nat} {gv : Value} {g cap : Nat} {l : List UInt8} {L K F S : Int} (h : Pushed w w2 rb gv g cap l L K F S) (hrb : rb < w.heap.size) (ln k f s : Int) :
    Pushed w ((((w2.setCell ⟨rb, 1, none⟩ (.int .i64 ln)).setCell ⟨rb, 2, none⟩ (.int .i64 k)).setCell ⟨rb, 3, none⟩ (.int .i64 f)).setCell ⟨rb, 4, none⟩ (.int .i64 s)) rb gv g cap l ln k f s := by
  have hc : Chg (fun i => i = rb) w2 ((((w2.setCell ⟨rb, 1, none⟩ (.int .i64 ln)).setCell ⟨rb, 2, none⟩ (.int .i64 k)).setCell ⟨rb, 3, none⟩ (.int .i64 f)).setCell ⟨rb, 4, none⟩ (.int .i64 s)) :=
    ((((Chg.refl (fun i => i = rb) w2).setCell (p := ⟨rb, 1, none⟩) (Or.inr rfl) _).setCell (p := ⟨rb, 2, none⟩) (Or.inr rfl) _).setCell (p := ⟨rb, 3, none⟩) (Or.inr rfl) _).setCell (p := ⟨rb, 4, none⟩) (Or.inr rfl) _
  exact ⟨h.rd.set14 ln k f s, owns_chg h.own hc (fun i hi => by simp [Value.ownBlock] at hi; subst hi; exact h.ne), by rw [hc.block _ (by have := h.size; omega) (by omega)]; exact h.fr,
    h.chg.trans (hc.mono (fun i _ hi => Or.inr (Or.inl hi))), Nat.le_trans h.size hc.size, h.room, h.old⟩

theorem six_cells {w w2 : World} {rb : Nat} {gv : Value} {g cap : Nat} {l : List UInt8} {L K F S : Int} (h : Pushed w w2 rb gv g cap l L K F S) (hl : l.length = 6) :
    ∃ x0 x1 x2 x3 x4 x5 : UInt8, hdOf l = ⟨be2 x0 x1, x2.toNat, x3.toNat, be2 x4 x5⟩ ∧ w2.cell? ⟨g, 0, none⟩ = some (.int .u8 x0.toNat) ∧ w2.cell? ⟨g, 0 + 1, none⟩ = some (.int .u8 x1.toNat) ∧ w2.cell? ⟨g, 0 + 2, none⟩ = some (.int .u8 x2.toNat) ∧
      w2.cell? ⟨g, 0 + 3, none⟩ = some (.int .u8 x3.toNat) ∧ w2.cell? ⟨g, 0 + 4, none⟩ = some (.int .u8 x4.toNat) ∧ w2.cell? ⟨g, 0 + 5, none⟩ = some (.int .u8 x5.toNat) := by
  have hc := h.cell
  match l, hl, hc with
  | [x0, x1, x2, x3, x4, x5], _, hc =>
    exact ⟨x0, x1, x2, x3, x4, x5, rfl, by simpa using hc 0 (by simp), by simpa using hc 1 (by simp), by simpa using hc 2 (by simp), by simpa using hc 3 (by simp), by simpa using hc 4 (by simp), by simpa using hc 5 (by simp)⟩

/-- The end of a call that gives up. -/
def Gave (w w' : World) (rb : Nat) (gv : Value) : Prop := ∃ gv' L K F S, RdB w' rb gv' L K F S 0 ∧ Chg (Touch rb gv) w w'

/-- The end of a call that tells no frame. -/
def More (w w' : World) (rb : Nat) (gv : Value) (l : List UInt8) (L K F S : Int) : Prop :=
  ∃ gv', RdB w' rb gv' L K F S 0 ∧ w'.ownsRow 0 5 1 gv' l.length (l.map B) ∧ Chg (Touch rb gv) w w' ∧ (∀ k, gv'.ownBlock = some k → gv.ownBlock = some k ∨ w.heap.size ≤ k)

theorem Pushed.more {w w2 w3 : World} {rb : Nat} {gv : Value} {g cap : Nat} {l : List UInt8} {L K F S : Int} (h : Pushed w w2 rb gv g cap l L K F S) (hb : Chg (fun k => k = w.heap.size) w2 w3) (hrb : rb < w.heap.size) (hg : g ≠ w.heap.size) : More w w3 rb gv l L K F S :=
  ⟨_, h.rd.chg hb (by omega), owns_chg h.own hb (fun k hk => by simp [Value.ownBlock] at hk; omega), h.chg.trans (hb.mono (fun k _ hk => Or.inl (by omega))), fun k hk => by
    simp [Value.ownBlock] at hk; subst hk; rcases h.old with a | a
    · exact Or.inl a
    · exact Or.inr (by omega)⟩

set_option maxRecDepth 100000 in
set_option maxHeartbeats 1600000 in
theorem take_short (rb : Nat) (gv : Value) (L K F S : Int) (got : List UInt8) (c : UInt8) (w : World) (hr : RdB w rb gv L K F S 0) (hown : w.ownsRow 0 5 1 gv got.length (got.map B)) (hl : got.length + 1 < 6) :
    Calls Tryz.prog 70 #[.pointer (some ⟨rb, 0, none⟩), .int .u8 c.toNat] w fun e w' => e = .returned (.tuple #[.agg #[.int .i64 0, .int .i64 0, .int .i64 0, .slice none 0 0], .bool false]) ∧ More w w' rb gv (got ++ [c]) L K F S := by
  obtain ⟨i0, hi, hz0, hz1, hz2⟩ := info_parts Tryz.info5
  obtain ⟨c0, c1, c2, c3, c4, c5⟩ := hr.cells
  have f0 := hr.free 0
  have hrb := hr.lt
  go_enter Tryz.func70, Tryz.ntmps70
  go_wp2_with (at_builtin; refine wpList_app _ rfl (.tmp 12) (.tmp 14) 54 rfl 5 i0 (.int .u8 0) 1 1 Tryz.underlying54 hi hz0 hz1 hz2 rfl (by decide) _ _ _ rfl ((hown.alloc _).alloc _) (.slice (some ⟨w.heap.size + 1, 0, none⟩) 1 1) 1 [.int .u8 c.toNat] rfl rfl (lies_one (by simp)) ?c2 ?c3 ?c4 ?_)
  case c2 => intro u hu; simp at hu; subst hu; rfl
  case c3 => unfold maxLen; omega
  case c4 => omega
  intro v' w1 hown' hgrow hfr
  obtain ⟨hr1, g, cap, hv, hp⟩ := pushed hr hown hown' hgrow hfr
  subst hv
  obtain ⟨d0, -, -, -, -, -⟩ := hr1.cells
  have e0 := hr1.free 0
  obtain ⟨w2, hw2⟩ : ∃ w2, w1.setCell ⟨rb, 0, none⟩ (.slice (some ⟨g, 0, none⟩) (got.length + 1) cap) = w2 := ⟨_, rfl⟩
  rw [hw2] at hp
  have hnef := hp.nef
  have hrd := hp.rd
  have hlen : (got ++ [c]).length = got.length + 1 := by simp
  rw [hlen] at hrd
  clear hlen
  obtain ⟨p0, p1, p2, p3, p4, -⟩ := hrd.cells
  obtain ⟨z0, z1, z2, z3, zf⟩ := frame_block hp.fr
  have zf0 := zf 0
  have zf1 := zf 1
  have zf2 := zf 2
  have zf3 := zf 3
  clear c0 c1 c2 c3 c4 c5 hown' hgrow hfr hr1 hown hr hrd zf f0
  have hd : decide ((got.length : Int) + 1 < 6) = true := by simp; omega
  go_wp2
  go_quiet (fail)
  go_wp2
  refine bodyPost_ret (v := .tuple #[.agg #[.int .i64 0, .int .i64 0, .int .i64 0, .slice none 0 0], .bool false]) ?_ rfl ⟨rfl, hp.more (((Chg.refl (fun k => k = w.heap.size) _).drewN _).set4 (Or.inr rfl) _ _ _ _) hrb hnef⟩
  simp [results, Tryz.results70, go_sem, z0, z1, z2, z3]

set_option maxRecDepth 100000 in
set_option maxHeartbeats 1600000 in
theorem take_more (rb : Nat) (gv : Value) (L K F S : Int) (got : List UInt8) (c : UInt8) (w : World) (hr : RdB w rb gv L K F S 0) (hown : w.ownsRow 0 5 1 gv got.length (got.map B)) (hl : 6 ≤ got.length) (hm : (got.length : Int) + 1 < 6 + L) (hL : L ≤ 64) :
    Calls Tryz.prog 70 #[.pointer (some ⟨rb, 0, none⟩), .int .u8 c.toNat] w fun e w' => e = .returned (.tuple #[.agg #[.int .i64 0, .int .i64 0, .int .i64 0, .slice none 0 0], .bool false]) ∧ More w w' rb gv (got ++ [c]) L K F S := by
  obtain ⟨i0, hi, hz0, hz1, hz2⟩ := info_parts Tryz.info5
  obtain ⟨c0, c1, c2, c3, c4, c5⟩ := hr.cells
  have f0 := hr.free 0
  have hrb := hr.lt
  go_enter Tryz.func70, Tryz.ntmps70
  go_wp2_with (at_builtin; refine wpList_app _ rfl (.tmp 12) (.tmp 14) 54 rfl 5 i0 (.int .u8 0) 1 1 Tryz.underlying54 hi hz0 hz1 hz2 rfl (by decide) _ _ _ rfl ((hown.alloc _).alloc _) (.slice (some ⟨w.heap.size + 1, 0, none⟩) 1 1) 1 [.int .u8 c.toNat] rfl rfl (lies_one (by simp)) ?c2 ?c3 ?c4 ?_)
  case c2 => intro u hu; simp at hu; subst hu; rfl
  case c3 => unfold maxLen; omega
  case c4 => omega
  intro v' w1 hown' hgrow hfr
  obtain ⟨hr1, g, cap, hv, hp⟩ := pushed hr hown hown' hgrow hfr
  subst hv
  obtain ⟨d0, -, -, -, -, -⟩ := hr1.cells
  have e0 := hr1.free 0
  obtain ⟨w2, hw2⟩ : ∃ w2, w1.setCell ⟨rb, 0, none⟩ (.slice (some ⟨g, 0, none⟩) (got.length + 1) cap) = w2 := ⟨_, rfl⟩
  rw [hw2] at hp
  have hnef := hp.nef
  have hrd := hp.rd
  have hlen : (got ++ [c]).length = got.length + 1 := by simp
  rw [hlen] at hrd
  clear hlen
  obtain ⟨p0, p1, p2, p3, p4, -⟩ := hrd.cells
  obtain ⟨z0, z1, z2, z3, zf⟩ := frame_block hp.fr
  have zf0 := zf 0
  have zf1 := zf 1
  have zf2 := zf 2
  have zf3 := zf 3
  clear c0 c1 c2 c3 c4 c5 hown' hgrow hfr hr1 hown hr hrd zf f0
  have hs6 : ((got.length : Int) + 1 == 6) = false := by simp; omega
  have hd : decide ((got.length : Int) + 1 < 6) = false := by simp; omega
  have hd2 : decide ((got.length : Int) + 1 < 6 + L) = true := by simp; omega
  go_wp2
  go_quiet (fail)
  go_wp2
  refine bodyPost_ret (v := .tuple #[.agg #[.int .i64 0, .int .i64 0, .int .i64 0, .slice none 0 0], .bool false]) ?_ rfl ⟨rfl, hp.more (((Chg.refl (fun k => k = w.heap.size) _).drewN _).set4 (Or.inr rfl) _ _ _ _) hrb hnef⟩
  simp [results, Tryz.results70, go_sem, z0, z1, z2, z3]

set_option maxRecDepth 100000 in
set_option maxHeartbeats 1600000 in
theorem take_six_bad (rb : Nat) (gv : Value) (L K F S : Int) (got : List UInt8) (c : UInt8) (w : World) (hr : RdB w rb gv L K F S 0) (hown : w.ownsRow 0 5 1 gv got.length (got.map B)) (hl : 5 ≤ got.length) (hl5 : got.length ≤ 5) (hc : (hdOf (got ++ [c])).code ≠ 0) :
    Calls Tryz.prog 70 #[.pointer (some ⟨rb, 0, none⟩), .int .u8 c.toNat] w fun e w' => e = .panicked [{ v := .iface 83 (.int .i64 (hdOf (got ++ [c])).code), recovered := false }] ∧ Gave w w' rb gv := by
  obtain ⟨i0, hi, hz0, hz1, hz2⟩ := info_parts Tryz.info5
  obtain ⟨c0, c1, c2, c3, c4, c5⟩ := hr.cells
  have f0 := hr.free 0
  have hrb := hr.lt
  go_enter Tryz.func70, Tryz.ntmps70
  go_wp2_with (at_builtin; refine wpList_app _ rfl (.tmp 12) (.tmp 14) 54 rfl 5 i0 (.int .u8 0) 1 1 Tryz.underlying54 hi hz0 hz1 hz2 rfl (by decide) _ _ _ rfl ((hown.alloc _).alloc _) (.slice (some ⟨w.heap.size + 1, 0, none⟩) 1 1) 1 [.int .u8 c.toNat] rfl rfl (lies_one (by simp)) ?c2 ?c3 ?c4 ?_)
  case c2 => intro u hu; simp at hu; subst hu; rfl
  case c3 => unfold maxLen; omega
  case c4 => omega
  intro v' w1 hown' hgrow hfr
  obtain ⟨hr1, g, cap, hv, hp⟩ := pushed hr hown hown' hgrow hfr
  subst hv
  obtain ⟨d0, -, -, -, -, -⟩ := hr1.cells
  have e0 := hr1.free 0
  obtain ⟨w2, hw2⟩ : ∃ w2, w1.setCell ⟨rb, 0, none⟩ (.slice (some ⟨g, 0, none⟩) (got.length + 1) cap) = w2 := ⟨_, rfl⟩
  rw [hw2] at hp
  have hnef := hp.nef
  have hrd := hp.rd
  have hlen : (got ++ [c]).length = got.length + 1 := by simp
  rw [hlen] at hrd
  clear hlen
  obtain ⟨p0, p1, p2, p3, p4, -⟩ := hrd.cells
  obtain ⟨z0, z1, z2, z3, zf⟩ := frame_block hp.fr
  have zf0 := zf 0
  have zf1 := zf 1
  have zf2 := zf 2
  have zf3 := zf 3
  clear c0 c1 c2 c3 c4 c5 hown' hgrow hfr hr1 hown hr hrd zf f0
  obtain ⟨x0, x1, x2, x3, x4, x5, hx, y0, y1, y2, y3, y4, y5⟩ := six_cells hp (by simp; omega)
  have hs6 : ((got.length : Int) + 1 == 6) = true := by simp; omega
  have hgl2 := hp.lt
  have HX : Hid (hdOf (got ++ [c]) = ⟨be2 x0 x1, x2.toNat, x3.toNat, be2 x4 x5⟩) := hx
  clear hx
  go_wp2_with fail
  refine (headOf_any g 0 (got.length + 1) cap x0 x1 x2 x3 x4 x5 w2 (by omega) y0 y1 y2 y3 y4 y5 hgl2).mono ?_
  rintro e w3 ⟨rfl, hb3⟩
  have hp3 := hp.below hb3
  have hrd3 := hp3.rd
  obtain ⟨-, r1, r2, r3, r4, -⟩ := hrd3.cells
  have s1 := hrd3.free 1
  have s2 := hrd3.free 2
  have s3 := hrd3.free 3
  have s4 := hrd3.free 4
  have hp4 := hp3.head hrb (be2 x0 x1) x2.toNat x3.toNat (be2 x4 x5)
  obtain ⟨w4, hw4⟩ : ∃ w4, ((((w3.setCell ⟨rb, 1, none⟩ (.int .i64 (be2 x0 x1))).setCell ⟨rb, 2, none⟩ (.int .i64 x2.toNat)).setCell ⟨rb, 3, none⟩ (.int .i64 x3.toNat)).setCell ⟨rb, 4, none⟩ (.int .i64 (be2 x4 x5))) = w4 := ⟨_, rfl⟩
  rw [hw4] at hp4
  have hrd4 := hp4.rd
  obtain ⟨t0, t1, t2, t3, t4, -⟩ := hrd4.cells
  clear p0 p1 p2 p3 p4 z0 z1 z2 z3 zf0 zf1 zf2 zf3 y0 y1 y2 y3 y4 y5 hrd4 hrd3
  go_wp2_with fail
  have hx3 : x3.toNat < 256 := x3.toNat_lt
  refine (checkHead_any (be2 x0 x1) x2.toNat x3.toNat (be2 x4 x5) w4 (by omega) (by omega)).mono ?_
  rintro e w5 ⟨he, hb5⟩
  have hp5 := hp4.below hb5
  have hcode : (hdOf (got ++ [c])).code = headCode (be2 x0 x1) x2.toNat x3.toNat (be2 x4 x5) := by rw [HX.out]; rfl
  rw [hcode] at hc
  rw [endOf_ne hc] at he
  subst he
  exact ⟨rfl, by rw [hcode], _, _, _, _, _, hp5.rd, hp5.chg⟩

set_option maxRecDepth 100000 in
set_option maxHeartbeats 1600000 in
theorem take_six_more (rb : Nat) (gv : Value) (L K F S : Int) (got : List UInt8) (c : UInt8) (w : World) (hr : RdB w rb gv L K F S 0) (hown : w.ownsRow 0 5 1 gv got.length (got.map B)) (hl : 5 ≤ got.length) (hl5 : got.length ≤ 5) (hc : (hdOf (got ++ [c])).code = 0) (hm : 0 < (hdOf (got ++ [c])).length) (hL : (hdOf (got ++ [c])).length ≤ 64) :
    Calls Tryz.prog 70 #[.pointer (some ⟨rb, 0, none⟩), .int .u8 c.toNat] w fun e w' => e = .returned (.tuple #[.agg #[.int .i64 0, .int .i64 0, .int .i64 0, .slice none 0 0], .bool false]) ∧ More w w' rb gv (got ++ [c]) (hdOf (got ++ [c])).length (hdOf (got ++ [c])).kind (hdOf (got ++ [c])).flags (hdOf (got ++ [c])).stream := by
  obtain ⟨i0, hi, hz0, hz1, hz2⟩ := info_parts Tryz.info5
  obtain ⟨c0, c1, c2, c3, c4, c5⟩ := hr.cells
  have f0 := hr.free 0
  have hrb := hr.lt
  go_enter Tryz.func70, Tryz.ntmps70
  go_wp2_with (at_builtin; refine wpList_app _ rfl (.tmp 12) (.tmp 14) 54 rfl 5 i0 (.int .u8 0) 1 1 Tryz.underlying54 hi hz0 hz1 hz2 rfl (by decide) _ _ _ rfl ((hown.alloc _).alloc _) (.slice (some ⟨w.heap.size + 1, 0, none⟩) 1 1) 1 [.int .u8 c.toNat] rfl rfl (lies_one (by simp)) ?c2 ?c3 ?c4 ?_)
  case c2 => intro u hu; simp at hu; subst hu; rfl
  case c3 => unfold maxLen; omega
  case c4 => omega
  intro v' w1 hown' hgrow hfr
  obtain ⟨hr1, g, cap, hv, hp⟩ := pushed hr hown hown' hgrow hfr
  subst hv
  obtain ⟨d0, -, -, -, -, -⟩ := hr1.cells
  have e0 := hr1.free 0
  obtain ⟨w2, hw2⟩ : ∃ w2, w1.setCell ⟨rb, 0, none⟩ (.slice (some ⟨g, 0, none⟩) (got.length + 1) cap) = w2 := ⟨_, rfl⟩
  rw [hw2] at hp
  have hnef := hp.nef
  have hrd := hp.rd
  have hlen : (got ++ [c]).length = got.length + 1 := by simp
  rw [hlen] at hrd
  clear hlen
  obtain ⟨p0, p1, p2, p3, p4, -⟩ := hrd.cells
  obtain ⟨z0, z1, z2, z3, zf⟩ := frame_block hp.fr
  have zf0 := zf 0
  have zf1 := zf 1
  have zf2 := zf 2
  have zf3 := zf 3
  clear c0 c1 c2 c3 c4 c5 hown' hgrow hfr hr1 hown hr hrd zf f0
  obtain ⟨x0, x1, x2, x3, x4, x5, hx, y0, y1, y2, y3, y4, y5⟩ := six_cells hp (by simp; omega)
  have hs6 : ((got.length : Int) + 1 == 6) = true := by simp; omega
  have hgl2 := hp.lt
  have HX : Hid (hdOf (got ++ [c]) = ⟨be2 x0 x1, x2.toNat, x3.toNat, be2 x4 x5⟩) := hx
  clear hx
  go_wp2_with fail
  refine (headOf_any g 0 (got.length + 1) cap x0 x1 x2 x3 x4 x5 w2 (by omega) y0 y1 y2 y3 y4 y5 hgl2).mono ?_
  rintro e w3 ⟨rfl, hb3⟩
  have hp3 := hp.below hb3
  have hrd3 := hp3.rd
  obtain ⟨-, r1, r2, r3, r4, -⟩ := hrd3.cells
  have s1 := hrd3.free 1
  have s2 := hrd3.free 2
  have s3 := hrd3.free 3
  have s4 := hrd3.free 4
  have hp4 := hp3.head hrb (be2 x0 x1) x2.toNat x3.toNat (be2 x4 x5)
  obtain ⟨w4, hw4⟩ : ∃ w4, ((((w3.setCell ⟨rb, 1, none⟩ (.int .i64 (be2 x0 x1))).setCell ⟨rb, 2, none⟩ (.int .i64 x2.toNat)).setCell ⟨rb, 3, none⟩ (.int .i64 x3.toNat)).setCell ⟨rb, 4, none⟩ (.int .i64 (be2 x4 x5))) = w4 := ⟨_, rfl⟩
  rw [hw4] at hp4
  have hrd4 := hp4.rd
  obtain ⟨t0, t1, t2, t3, t4, -⟩ := hrd4.cells
  clear p0 p1 p2 p3 p4 z0 z1 z2 z3 zf0 zf1 zf2 zf3 y0 y1 y2 y3 y4 y5 hrd4 hrd3
  go_wp2_with fail
  have hx3 : x3.toNat < 256 := x3.toNat_lt
  refine (checkHead_any (be2 x0 x1) x2.toNat x3.toNat (be2 x4 x5) w4 (by omega) (by omega)).mono ?_
  rintro e w5 ⟨he, hb5⟩
  have hp5 := hp4.below hb5
  have hcode : (hdOf (got ++ [c])).code = headCode (be2 x0 x1) x2.toNat x3.toNat (be2 x4 x5) := by rw [HX.out]; rfl
  rw [hcode] at hc
  rw [hc, endOf0] at he
  subst he
  have hlen : (hdOf (got ++ [c])).length = be2 x0 x1 := by rw [HX.out]
  rw [hlen] at hm hL
  clear hcode hlen t0 t1 t2 t3 t4 hc
  have hrd5 := hp5.rd
  have hlen : (got ++ [c]).length = got.length + 1 := by simp
  rw [hlen] at hrd5
  clear hlen
  obtain ⟨p0, p1, p2, p3, p4, -⟩ := hrd5.cells
  obtain ⟨z0, z1, z2, z3, zf⟩ := frame_block hp5.fr
  have zf0 := zf 0
  have zf1 := zf 1
  have zf2 := zf 2
  have zf3 := zf 3
  clear hrd5 zf
  have hd : decide ((got.length : Int) + 1 < 6) = false := by simp; omega
  have hd2 : decide ((got.length : Int) + 1 < 6 + be2 x0 x1) = true := by simp; omega
  have hfin : hdOf (got ++ [c]) = ⟨be2 x0 x1, x2.toNat, x3.toNat, be2 x4 x5⟩ := HX.out
  clear hp hp3 hp4
  have hp := hp5
  go_wp2
  go_quiet (fail)
  go_wp2
  rw [HX.out]
  refine bodyPost_ret (v := .tuple #[.agg #[.int .i64 0, .int .i64 0, .int .i64 0, .slice none 0 0], .bool false]) ?_ rfl ⟨rfl, hp.more (((Chg.refl (fun k => k = w.heap.size) _).drewN _).set4 (Or.inr rfl) _ _ _ _) hrb hnef⟩
  simp [results, Tryz.results70, go_sem, z0, z1, z2, z3]
end Go.Proofs.YtckeblkadiehbaaGreat
