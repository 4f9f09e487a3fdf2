/-
  What stands of a script's world between two steps of Writes.
-/
import Derived.Test.YtckeblkadiehbaaGreatWhole
namespace Go.Proofs.YtckeblkadiehbaaGreat
open Go.RowKit

/-- A list of frames, as an argument. -/
structure FsIn (w : World) (sa : Option Addr) (qs : List (Fr × Value)) : Prop where
  cell : ∀ k (h : k < qs.length), ∃ fb off, sa = some ⟨fb, off, none⟩ ∧ fb < w.heap.size ∧ w.cell? ⟨fb, off + k * 4, none⟩ = some (.int .i64 qs[k].1.kind) ∧ w.cell? ⟨fb, off + k * 4 + 1, none⟩ = some (.int .i64 qs[k].1.flags) ∧
    w.cell? ⟨fb, off + k * 4 + 2, none⟩ = some (.int .i64 qs[k].1.stream) ∧ w.cell? ⟨fb, off + k * 4 + 3, none⟩ = some qs[k].2
  body : ∀ q ∈ qs, BytesA w q.2 q.1.body
  len : ∀ q ∈ qs, q.1.body.length ≤ 4194304

theorem FsIn.below {w w' : World} {sa : Option Addr} {qs : List (Fr × Value)} (h : FsIn w sa qs) (hb : Below w.heap.size w w') : FsIn w' sa qs := by
  refine ⟨fun k hk => ?_, fun q hq => (h.body q hq).chg (Chg.of_below hb), h.len⟩
  obtain ⟨fb, off, hs, hl, a, b, c, d⟩ := h.cell k hk
  exact ⟨fb, off, hs, Nat.lt_of_lt_of_le hl hb.size, (hb.cell (p := ⟨fb, off + k * 4, none⟩) hl).trans a, (hb.cell (p := ⟨fb, off + k * 4 + 1, none⟩) hl).trans b, (hb.cell (p := ⟨fb, off + k * 4 + 2, none⟩) hl).trans c, (hb.cell (p := ⟨fb, off + k * 4 + 3, none⟩) hl).trans d⟩

/-- The cells of a World of the law. -/
abbrev lw (gF gH gC gS rv kv fv : Value) : Array Value := #[gF, gH, gC, gS, rv, .slice none 0 0, .slice none 0 0, .slice none 0 0, .slice none 0 0, kv, .slice none 0 0, .slice none 0 0, fv, .slice none 0 0]

structure WInv (W0 V0 w : World) (b : Nat) (gF gH gC gS kv : Value) (recs : List RecB) : Prop where
  bk : BkS w b (lw gF gH gC gS (.slice none 0 0) kv (.slice none 0 0)) kv (.slice none 0 0) recs []
  kvV : ∀ j, kv.ownBlock = some j → V0.heap.size ≤ j
  b0 : W0.heap.size ≤ b
  belV : Below W0.heap.size W0 V0
  chV : Chg (fun j => j = b) V0 w

theorem WInv.below {W0 V0 w w' : World} {b : Nat} {gF gH gC gS kv : Value} {recs : List RecB} (h : WInv W0 V0 w b gF gH gC gS kv recs) (hb : Below w.heap.size w w') : WInv W0 V0 w' b gF gH gC gS kv recs :=
  ⟨h.bk.below hb, h.kvV, h.b0, h.belV, h.chV.then_below hb⟩

theorem below_of_chg {S : Nat → Prop} {W0 w w' : World} (h : Below W0.heap.size W0 w) (hc : Chg S w w') (hs : ∀ j, S j → W0.heap.size ≤ j) : Below W0.heap.size W0 w' :=
  ⟨hc.os.trans h.os, hc.tape.trans h.tape, hc.output.trans h.output, Nat.le_trans h.size hc.size, fun k hk => by
    rw [hc.block k (Nat.lt_of_lt_of_le hk h.size) (fun e => absurd (hs k e) (Nat.not_le.2 hk))]; exact h.block k hk⟩

theorem WInv.bel {W0 V0 w : World} {b : Nat} {gF gH gC gS kv : Value} {recs : List RecB} (h : WInv W0 V0 w b gF gH gC gS kv recs) : Below W0.heap.size W0 w :=
  below_of_chg h.belV h.chV fun j e => by rw [e]; exact h.b0
theorem WInv.kv0 {W0 V0 w : World} {b : Nat} {gF gH gC gS kv : Value} {recs : List RecB} (h : WInv W0 V0 w b gF gH gC gS kv recs) : ∀ j, kv.ownBlock = some j → W0.heap.size ≤ j :=
  fun j e => Nat.le_trans h.belV.size (h.kvV j e)

theorem winv_next {W0 V0 w w5 w6 w7 : World} {b g base len : Nat} {gF gH gC gS kv lv : Value} {recs : List RecB} {xs : List Value} (h : WInv W0 V0 w b gF gH gC gS kv recs) (hn : recs.length ≤ 1099511627776) (hlen : len ≤ 4294967296) (h5 : Below w.heap.size w w5)
    (hv : w5.ownsRow base 5 1 lv len xs) (hgw : w.heap.size ≤ g) (hgb : g < base) (hb5 : base ≤ w5.heap.size) (hk : KeptB w5 w6 b (lw gF gH gC gS (.slice none 0 0) kv (.slice none 0 0)) kv lv recs len) (h7 : Chg (fun k => k = g) w6 w7) :
    ∃ kv' r, WInv W0 V0 w7 b gF gH gC gS kv' (recs ++ [r]) := by
  obtain ⟨kv', r, hb6, hrow6, hrl, hrn, hrlen, hfam, hsep, hch, hkv'⟩ := hk
  have hblt : b < w.heap.size := lt_of_block h.bk.blk
  have hlvb : ∀ j, lv.ownBlock = some j → base ≤ j := fun j hj => (hv.lt j hj).1
  have h6 : Chg (fun j => j = b ∨ kv.ownBlock = some j) w w6 := (Chg.of_below h5).trans (hch.mono (fun j _ hj => by
    rcases hj with e | e | e
    · exact Or.inr (Or.inl e)
    · exact Or.inr (Or.inr e)
    · have := hlvb j e; left; omega))
  have hc : Chg (fun j => j = b ∨ kv.ownBlock = some j) w w7 := h6.trans (h7.mono (fun j _ e => by left; omega))
  have hkg : ∀ j, kv'.ownBlock = some j → ¬ j = g := by
    intro j hj e
    rcases hkv' j hj with a | a
    · have := owns_lt h.bk.rowB a; omega
    · omega
  have hrg : ∀ u ∈ [r.l, r.a, r.b, r.c], ∀ j, u.ownBlock = some j → ¬ j = g := by
    intro u hu j hj e
    rcases hsep u hu j hj with a | a
    · have := hlvb j a; omega
    · omega
  have sep : ∀ u k ys, w.ownsRow 0 5 1 u k ys → ∀ j, u.ownBlock = some j → ¬ (j = b ∨ kv.ownBlock = some j) := by
    rintro u k ys hu j hj (rfl | e)
    · exact owns_ne hu h.bk.blk (by decide) hj
    · exact rows_ne h.bk.rowB hu (by decide) e hj
  refine ⟨kv', r, ⟨⟨?_, rfl, rfl, rfl, rfl, rfl, owns_chg hrow6 h7 hkg, World.ownsRow_nil _ _ _ _, ?_, by simp, ?_, by simp⟩, ?_, h.b0, h.belV, ?_⟩⟩
  · rw [h7.block b (by have := h6.size; omega) (by omega), hb6]
    rfl
  · intro r' hr'
    rcases List.mem_append.1 hr' with hr' | hr'
    · have hf := h.bk.famB r' hr'
      refine hf.chg hc fun u hu => ?_
      simp only [List.mem_cons, List.not_mem_nil, or_false] at hu
      rcases hu with rfl | rfl | rfl | rfl
      · exact sep _ _ _ hf.l
      · exact sep _ _ _ hf.a
      · exact sep _ _ _ hf.b
      · exact sep _ _ _ hf.c
    · simp only [List.mem_cons, List.not_mem_nil, or_false] at hr'
      subst hr'
      exact hfam.chg h7 hrg
  · intro r' hr'
    rcases List.mem_append.1 hr' with hr' | hr'
    · exact h.bk.okB r' hr'
    · simp only [List.mem_cons, List.not_mem_nil, or_false] at hr'
      subst hr'
      rw [hrn, hrlen]
      exact ⟨hn, hlen⟩
  · intro j hj
    rcases hkv' j hj with a | a
    · exact h.kvV j a
    · have h1 := h.chV.size
      have h2 := h5.size
      omega
  · exact h.chV.trans (hc.mono fun j _ e => by
      rcases e with e | e
      · exact Or.inr e
      · exact Or.inl (h.kvV j e))
end Go.Proofs.YtckeblkadiehbaaGreat
