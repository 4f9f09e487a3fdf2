import Derived.Test.YtjccnikmcoidhaaApp
import Derived.Test.YtjccnikmcoidhaaFrameOf2
set_option linter.unusedVariables false
set_option linter.unusedSimpArgs false
/-
  A reader of package frames, wherever it lies: five cells of a block.
-/
namespace Go.Proofs.Ytjccnikmcoidhaa
set_option linter.unusedVariables false
set_option linter.unusedSimpArgs false
open Go.RowKit

/-- The reader's cells: from o on in the block rb, whose cells are cs and whose type is T. -/
structure RdG (w : World) (rb o : Nat) (T : TypeId) (cs : Array Value) (gv : Value) (L K F S : Int) : Prop where
  blk : w.heap[rb]? = some (.cells cs T (0, 0))
  ty : 5 ≠ T
  c0 : cs[o]? = some gv
  c1 : cs[o + 1]? = some (.int .i64 L)
  c2 : cs[o + 2]? = some (.int .i64 K)
  c3 : cs[o + 3]? = some (.int .i64 F)
  c4 : cs[o + 4]? = some (.int .i64 S)
/-- The same but for the reader's cells. -/
def Alike (o : Nat) (cs cs' : Array Value) : Prop := cs'.size = cs.size ∧ ∀ i, i < o ∨ o + 5 ≤ i → cs'[i]? = cs[i]?
theorem Alike.refl (o : Nat) (cs : Array Value) : Alike o cs cs := ⟨rfl, fun _ _ => rfl⟩
theorem Alike.trans {o : Nat} {a b c : Array Value} (h : Alike o a b) (h2 : Alike o b c) : Alike o a c := ⟨h2.1.trans h.1, fun i hi => (h2.2 i hi).trans (h.2 i hi)⟩
theorem Alike.set {o : Nat} {cs : Array Value} (j : Nat) (hj : o ≤ j ∧ j < o + 5) (u : Value) : Alike o cs (cs.setIfInBounds j u) := by
  refine ⟨by simp, fun i hi => ?_⟩
  rw [Array.getElem?_setIfInBounds_ne (by omega)]
theorem RdG.lt {w : World} {rb o : Nat} {T : TypeId} {cs : Array Value} {gv : Value} {L K F S : Int} (h : RdG w rb o T cs gv L K F S) : rb < w.heap.size := lt_of_block h.blk
theorem RdG.cells {w : World} {rb o : Nat} {T : TypeId} {cs : Array Value} {gv : Value} {L K F S : Int} (h : RdG w rb o T cs gv L K F S) :
    w.cell? ⟨rb, o, none⟩ = some gv ∧ w.cell? ⟨rb, o + 1, none⟩ = some (.int .i64 L) ∧ w.cell? ⟨rb, o + 2, none⟩ = some (.int .i64 K) ∧ w.cell? ⟨rb, o + 3, none⟩ = some (.int .i64 F) ∧ w.cell? ⟨rb, o + 4, none⟩ = some (.int .i64 S) := by
  refine ⟨?_, ?_, ?_, ?_, ?_⟩ <;> rw [cell_of_row w rb _ _ _ _ h.blk]
  · exact h.c0
  · exact h.c1
  · exact h.c2
  · exact h.c3
  · exact h.c4
theorem RdG.free {w : World} {rb o : Nat} {T : TypeId} {cs : Array Value} {gv : Value} {L K F S : Int} (h : RdG w rb o T cs gv L K F S) (i : Nat) : w.frozen? ⟨rb, i, none⟩ = false := by simp [World.frozen?, h.blk]
theorem RdG.chg {Z : Nat → Prop} {w w' : World} {rb o : Nat} {T : TypeId} {cs : Array Value} {gv : Value} {L K F S : Int} (h : RdG w rb o T cs gv L K F S) (hc : Chg Z w w') (hs : ¬ Z rb) : RdG w' rb o T cs gv L K F S :=
  ⟨by rw [hc.block rb h.lt hs]; exact h.blk, h.ty, h.c0, h.c1, h.c2, h.c3, h.c4⟩
theorem RdG.set0 {w : World} {rb o : Nat} {T : TypeId} {cs : Array Value} {gv : Value} {L K F S : Int} (h : RdG w rb o T cs gv L K F S) (u : Value) : RdG (w.setCell ⟨rb, o, none⟩ u) rb o T (cs.setIfInBounds o u) u L K F S := by
  have ho : o < cs.size := (Array.getElem?_eq_some_iff.1 h.c0).1
  refine ⟨block_setCell h.blk, h.ty, by rw [Array.getElem?_setIfInBounds_self_of_lt ho], ?_, ?_, ?_, ?_⟩
  all_goals rw [Array.getElem?_setIfInBounds_ne (by omega)]
  · exact h.c1
  · exact h.c2
  · exact h.c3
  · exact h.c4
theorem RdG.set14 {w : World} {rb o : Nat} {T : TypeId} {cs : Array Value} {gv : Value} {L K F S : Int} (h : RdG w rb o T cs gv L K F S) (l k f s : Int) :
    RdG ((((w.setCell ⟨rb, o + 1, none⟩ (.int .i64 l)).setCell ⟨rb, o + 2, none⟩ (.int .i64 k)).setCell ⟨rb, o + 3, none⟩ (.int .i64 f)).setCell ⟨rb, o + 4, none⟩ (.int .i64 s)) rb o T
      ((((cs.setIfInBounds (o + 1) (.int .i64 l)).setIfInBounds (o + 2) (.int .i64 k)).setIfInBounds (o + 3) (.int .i64 f)).setIfInBounds (o + 4) (.int .i64 s)) gv l k f s := by
  have h1 := (Array.getElem?_eq_some_iff.1 h.c1).1
  have h2 := (Array.getElem?_eq_some_iff.1 h.c2).1
  have h3 := (Array.getElem?_eq_some_iff.1 h.c3).1
  have h4 := (Array.getElem?_eq_some_iff.1 h.c4).1
  refine ⟨block_setCell (block_setCell (block_setCell (block_setCell h.blk))), h.ty, ?_, ?_, ?_, ?_, ?_⟩
  · rw [Array.getElem?_setIfInBounds_ne (by omega), Array.getElem?_setIfInBounds_ne (by omega), Array.getElem?_setIfInBounds_ne (by omega), Array.getElem?_setIfInBounds_ne (by omega)]; exact h.c0
  · rw [Array.getElem?_setIfInBounds_ne (by omega), Array.getElem?_setIfInBounds_ne (by omega), Array.getElem?_setIfInBounds_ne (by omega), Array.getElem?_setIfInBounds_self_of_lt h1]
  · rw [Array.getElem?_setIfInBounds_ne (by omega), Array.getElem?_setIfInBounds_ne (by omega), Array.getElem?_setIfInBounds_self_of_lt (by simpa using h2)]
  · rw [Array.getElem?_setIfInBounds_ne (by omega), Array.getElem?_setIfInBounds_self_of_lt (by simpa using h3)]
  · rw [Array.getElem?_setIfInBounds_self_of_lt (by simpa using h4)]
theorem Alike.set14 {o : Nat} {cs : Array Value} (a b c d : Value) : Alike o cs ((((cs.setIfInBounds (o + 1) a).setIfInBounds (o + 2) b).setIfInBounds (o + 3) c).setIfInBounds (o + 4) d) :=
  (((Alike.set (o + 1) (by omega) _).trans (Alike.set (o + 2) (by omega) _)).trans (Alike.set (o + 3) (by omega) _)).trans (Alike.set (o + 4) (by omega) _)

/-- What a reader's call may touch of what was there. -/
abbrev Touch (rb : Nat) (gv : Value) : Nat → Prop := fun k => k = rb ∨ gv.ownBlock = some k

/-- What is known behind 'r.got = append(r.got, c)'. -/
structure Pushed (w w2 : World) (rb o : Nat) (T : TypeId) (cs : Array Value) (gv : Value) (cs2 : Array Value) (g cap : Nat) (l : List UInt8) (L K F S : Int) : Prop where
  rd : RdG w2 rb o T cs2 (.slice (some ⟨g, 0, none⟩) l.length cap) L K F S
  own : w2.ownsRow 0 5 1 (.slice (some ⟨g, 0, none⟩) l.length cap) l.length (l.map B)
  alike : Alike o cs cs2
  chg : Chg (Touch rb gv) w w2
  size : w.heap.size + 1 ≤ w2.heap.size
  room : l.length ≤ cap
  old : gv.ownBlock = some g ∨ w.heap.size + 1 ≤ g

theorem pushed {w w1 : World} {rb o : Nat} {T : TypeId} {cs : Array Value} {gv v' : Value} {got : List UInt8} {c : UInt8} {L K F S : Int} (hr : RdG w rb o T cs gv L K F S) (hown : w.ownsRow 0 5 1 gv got.length (got.map B))
    (hown' : w1.ownsRow 0 5 1 v' (got.length + 1) (got.map B ++ [.int .u8 c.toNat])) (hg : (w.alloc (.cells #[.int .u8 c.toNat] 5)).grownBy w1 gv.ownBlock)
    (hfr : v'.ownBlock = gv.ownBlock ∨ v'.ownBlock = some (w.heap.size + 1)) :
    RdG w1 rb o T cs gv L K F S ∧ ∃ g cap, v' = .slice (some ⟨g, 0, none⟩) (got.length + 1) cap ∧ Pushed w (w1.setCell ⟨rb, o, none⟩ (.slice (some ⟨g, 0, none⟩) (got.length + 1) cap)) rb o T cs gv (cs.setIfInBounds o (.slice (some ⟨g, 0, none⟩) (got.length + 1) cap)) g cap (got ++ [c]) L K F S := by
  have hrb := hr.lt
  have hlt : ∀ k, gv.ownBlock = some k → k < w.heap.size := fun k hk => owns_lt hown hk
  have hne := owns_ne hown hr.blk hr.ty
  have hb : ∀ k, k < w.heap.size → gv.ownBlock ≠ some k → w1.heap[k]? = w.heap[k]? := fun k hk hn => by
    rw [hg.block k (by simp; omega) (fun e => hn e.symm), Below.heap_alloc _ _ _ hk]
  have hr1 : RdG w1 rb o T cs gv L K F S := ⟨by rw [hb rb hrb hne]; exact hr.blk, hr.ty, hr.c0, hr.c1, hr.c2, hr.c3, hr.c4⟩
  have hsz := hg.size
  simp only [World.size_alloc] at hsz
  refine ⟨hr1, ?_⟩
  rcases hown'.2 with ⟨_, h⟩ | ⟨g, cap, cur, rfl, _, hgg, hroom, hmax, hcur, htake⟩
  · omega
  · have hgr : g ≠ rb := by
      rintro rfl
      exact owns_ne hown' hr1.blk hr.ty rfl
    refine ⟨g, cap, rfl, ?_⟩
    have hown2 : (w1.setCell ⟨rb, o, none⟩ (.slice (some ⟨g, 0, none⟩) (got.length + 1) cap)).ownsRow 0 5 1 (.slice (some ⟨g, 0, none⟩) (got.length + 1) cap) (got.length + 1) (got.map B ++ [.int .u8 c.toNat]) :=
      ownsRow_setCell_other hown' (fun e => by simp [Value.ownBlock] at e; exact hgr e) _
    refine ⟨?_, ?_, Alike.set o (by omega) _, ?_, ?_, ?_, ?_⟩
    · have := hr1.set0 (.slice (some ⟨g, 0, none⟩) (got.length + 1) cap)
      simpa using this
    · simpa using hown2
    · exact Chg.setCell (S := Touch rb gv) (p := ⟨rb, o, none⟩) (Chg.trans ((Chg.refl _ _).alloc _) (Chg.of_grown hg (fun k hk => Or.inr (Or.inr hk)))) (Or.inr (Or.inl rfl)) _
    · simp; omega
    · simpa using hroom
    · rcases hfr with h | h
      · exact Or.inl h.symm
      · simp [Value.ownBlock] at h; exact Or.inr (by omega)

section
variable {w w2 w3 : World} {rb o : Nat} {T : TypeId} {cs cs2 : Array Value} {gv : Value} {g cap : Nat} {l : List UInt8} {L K F S : Int}
theorem Pushed.lt (h : Pushed w w2 rb o T cs gv cs2 g cap l L K F S) : g < w2.heap.size := owns_lt h.own rfl
theorem Pushed.cell (h : Pushed w w2 rb o T cs gv cs2 g cap l L K F S) : ∀ i, i < l.length → w2.cell? ⟨g, i, none⟩ = some (.int .u8 (l.getD i 0).toNat) := by
  intro i hi
  have := h.own.cells (g := g) rfl i (B (l.getD i 0)) (by simp [List.getD, hi])
  rw [← this]
  congr 1
  unfold Addr.add; split <;> simp_all
theorem Pushed.step {Z : Nat → Prop} (h : Pushed w w2 rb o T cs gv cs2 g cap l L K F S) (hb : Chg Z w2 w3)
    (h1 : ¬ Z rb) (h2 : ¬ Z g) (h4 : ∀ k, k < w2.heap.size → Z k → w.heap.size ≤ k ∨ Touch rb gv k) : Pushed w w3 rb o T cs gv cs2 g cap l L K F S :=
  ⟨h.rd.chg hb h1, owns_chg h.own hb (fun k hk => by simp [Value.ownBlock] at hk; subst hk; exact h2), h.alike,
    h.chg.trans (hb.mono h4), Nat.le_trans h.size hb.size, h.room, h.old⟩
theorem Pushed.below (h : Pushed w w2 rb o T cs gv cs2 g cap l L K F S) (hb : Below w2.heap.size w2 w3) : Pushed w w3 rb o T cs gv cs2 g cap l L K F S :=
  h.step (Z := fun _ => False) (Chg.of_below hb) id id (fun _ _ x => x.elim)
theorem Pushed.ne (h : Pushed w w2 rb o T cs gv cs2 g cap l L K F S) : g ≠ rb := by
  rintro rfl
  exact owns_ne h.own h.rd.blk h.rd.ty rfl
theorem Pushed.head (h : Pushed w w2 rb o T cs gv cs2 g cap l L K F S) (ln k f s : Int) :
    Pushed w ((((w2.setCell ⟨rb, o + 1, none⟩ (.int .i64 ln)).setCell ⟨rb, o + 2, none⟩ (.int .i64 k)).setCell ⟨rb, o + 3, none⟩ (.int .i64 f)).setCell ⟨rb, o + 4, none⟩ (.int .i64 s)) rb o T cs gv
      ((((cs2.setIfInBounds (o + 1) (.int .i64 ln)).setIfInBounds (o + 2) (.int .i64 k)).setIfInBounds (o + 3) (.int .i64 f)).setIfInBounds (o + 4) (.int .i64 s)) g cap l ln k f s := by
  have hc : Chg (fun i => i = rb) w2 ((((w2.setCell ⟨rb, o + 1, none⟩ (.int .i64 ln)).setCell ⟨rb, o + 2, none⟩ (.int .i64 k)).setCell ⟨rb, o + 3, none⟩ (.int .i64 f)).setCell ⟨rb, o + 4, none⟩ (.int .i64 s)) :=
    ((((Chg.refl (fun i => i = rb) w2).setCell (p := ⟨rb, o + 1, none⟩) (Or.inr rfl) _).setCell (p := ⟨rb, o + 2, none⟩) (Or.inr rfl) _).setCell (p := ⟨rb, o + 3, none⟩) (Or.inr rfl) _).setCell (p := ⟨rb, o + 4, none⟩) (Or.inr rfl) _
  exact ⟨h.rd.set14 ln k f s, owns_chg h.own hc (fun i hi => by simp [Value.ownBlock] at hi; subst hi; exact h.ne), h.alike.trans (Alike.set14 _ _ _ _),
    h.chg.trans (hc.mono (fun i _ hi => Or.inr (Or.inl hi))), Nat.le_trans h.size hc.size, h.room, h.old⟩

theorem six_cells (h : Pushed w w2 rb o T cs gv cs2 g cap l L K F S) (hl : l.length = 6) :
    ∃ x0 x1 x2 x3 x4 x5 : UInt8, hdOf l = ⟨be2 x0 x1, x2.toNat, x3.toNat, be2 x4 x5⟩ ∧ w2.cell? ⟨g, 0, none⟩ = some (.int .u8 x0.toNat) ∧ w2.cell? ⟨g, 0 + 1, none⟩ = some (.int .u8 x1.toNat) ∧ w2.cell? ⟨g, 0 + 2, none⟩ = some (.int .u8 x2.toNat) ∧
      w2.cell? ⟨g, 0 + 3, none⟩ = some (.int .u8 x3.toNat) ∧ w2.cell? ⟨g, 0 + 4, none⟩ = some (.int .u8 x4.toNat) ∧ w2.cell? ⟨g, 0 + 5, none⟩ = some (.int .u8 x5.toNat) := by
  have hc := h.cell
  match l, hl, hc with
  | [x0, x1, x2, x3, x4, x5], _, hc =>
    exact ⟨x0, x1, x2, x3, x4, x5, rfl, by simpa using hc 0 (by simp), by simpa using hc 1 (by simp), by simpa using hc 2 (by simp), by simpa using hc 3 (by simp), by simpa using hc 4 (by simp), by simpa using hc 5 (by simp)⟩
end

/-- A frame's block. -/
theorem frame_block {w : World} {b : Nat} {v0 v1 v2 v3 : Value} (h : w.heap[b]? = some (.cells #[v0, v1, v2, v3] 26 (0, 0))) :
    w.cell? ⟨b, 0, none⟩ = some v0 ∧ w.cell? ⟨b, 1, none⟩ = some v1 ∧ w.cell? ⟨b, 2, none⟩ = some v2 ∧ w.cell? ⟨b, 3, none⟩ = some v3 ∧ ∀ o, w.frozen? ⟨b, o, none⟩ = false := by
  refine ⟨?_, ?_, ?_, ?_, fun o => by simp [World.frozen?, h]⟩ <;> rw [cell_of_row w b _ _ _ _ h] <;> rfl

theorem Chg.set4 {S : Nat → Prop} {a w : World} {b : Nat} (h : Chg S a w) (hp : a.heap.size ≤ b ∨ S b) (v0 v1 v2 v3 : Value) :
    Chg S a ((((w.setCell ⟨b, 0, none⟩ v0).setCell ⟨b, 1, none⟩ v1).setCell ⟨b, 2, none⟩ v2).setCell ⟨b, 3, none⟩ v3) :=
  (((h.setCell (p := ⟨b, 0, none⟩) hp v0).setCell (p := ⟨b, 1, none⟩) hp v1).setCell (p := ⟨b, 2, none⟩) hp v2).setCell (p := ⟨b, 3, none⟩) hp v3
end Go.Proofs.Ytjccnikmcoidhaa
