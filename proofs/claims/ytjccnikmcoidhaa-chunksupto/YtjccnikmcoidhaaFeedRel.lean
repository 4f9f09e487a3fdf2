import Derived.Test.YtjccnikmcoidhaaTold
set_option linter.unusedVariables false
set_option linter.unusedSimpArgs false
/-
  What holds at every round of Feed's loop, and what a round does to it.
-/
namespace Go.Proofs.Ytjccnikmcoidhaa
open Go.RowKit
set_option linter.unusedVariables false

/-- The two variables that Feed lays down. -/
structure Vars (w0 : Nat) (wr : World) (rb : Nat) : Prop where
  r : wr.heap[w0]? = some (.cells #[.pointer (some ⟨rb, 0, none⟩)] 41 (0, 0))
  f : wr.heap[w0 + 1]? = some (.cells #[.int .i64 0] 32 (0, 0))

theorem Vars.chg {S : Nat → Prop} {w0 : Nat} {w w' : World} {rb : Nat} (h : Vars w0 w rb) (hc : Chg S w w') (h1 : ¬ S w0) (h2 : ¬ S (w0 + 1)) : Vars w0 w' rb :=
  ⟨by rw [hc.block w0 (lt_of_block h.r) h1]; exact h.r, by rw [hc.block (w0 + 1) (lt_of_block h.f) h2]; exact h.f⟩

structure FeedRel (w : World) (rb : Nat) (gv : Value) (got l : List UInt8) (k : Nat) (v : Value) (wr : World) (ps : List (Fr × Value)) (gv' : Value) (got' : List UInt8) : Prop where
  le : k ≤ l.length
  st : RdS wr rb gv' got'
  frs : FrsOwn wr w.heap.size v ps
  eq : feed got l = (ps.map Prod.fst ++ (feed got' (l.drop k)).1, (feed got' (l.drop k)).2)
  chg : Chg (Touch rb gv) w wr
  fresh : ∀ j, gv'.ownBlock = some j → gv.ownBlock = some j ∨ w.heap.size ≤ j
  apart : ∀ j ∈ bodyBlocks ps, gv'.ownBlock ≠ some j
  vars : Vars w.heap.size wr rb
  few : ps.length ≤ k

theorem RdS.own {w : World} {rb : Nat} {gv : Value} {got : List UInt8} (h : RdS w rb gv got) : w.ownsRow 0 5 1 gv got.length (got.map B) := h.2.1
theorem RdS.chg {S : Nat → Prop} {w w' : World} {rb : Nat} {gv : Value} {got : List UInt8} (h : RdS w rb gv got) (hc : Chg S w w') (h1 : ¬ S rb) (h2 : ∀ k, gv.ownBlock = some k → ¬ S k) : RdS w' rb gv got := by
  obtain ⟨a, b, L, K, F, S', d, e⟩ := h
  exact ⟨a, owns_chg b hc h2, L, K, F, S', d.chg hc h1, e⟩
theorem RdS.rd {w : World} {rb : Nat} {gv : Value} {got : List UInt8} (h : RdS w rb gv got) : ∃ L K F S, RdB w rb gv L K F S 0 := by
  obtain ⟨_, _, L, K, F, S', d, _⟩ := h
  exact ⟨L, K, F, S', d⟩

section
variable {w : World} {rb : Nat} {gv : Value} {got l : List UInt8} {k : Nat} {v : Value} {wr : World} {ps : List (Fr × Value)} {gv' : Value} {got' : List UInt8}

theorem FeedRel.rlt (h : FeedRel w rb gv got l k v wr ps gv' got') (hrb : rb < w.heap.size) (hv : gv.ownBlock ≠ some w.heap.size) : w.heap.size + 1 < wr.heap.size := lt_of_block h.vars.f

/-- What was told is not touched by a call on the reader. -/
theorem FeedRel.touch (h : FeedRel w rb gv got l k v wr ps gv' got') (hrb : rb < w.heap.size) {w1 : World} (hc : Chg (Touch rb gv') wr w1) : FrsOwn w1 w.heap.size v ps ∧ Vars w.heap.size w1 rb ∧ Chg (Touch rb gv) w w1 := by
  refine ⟨h.frs.chg' hc ?_ ?_, h.vars.chg hc ?_ ?_, h.chg.trans (hc.mono ?_)⟩
  · rintro j hj (rfl | e)
    · have := (h.frs.row.lt _ hj).1; omega
    · exact rows_ne h.frs.row h.st.own (by decide) hj e
  · rintro j hj (rfl | e)
    · have := (h.frs.blocks hj).1; omega
    · exact h.apart j hj e
  · rintro (e | e)
    · omega
    · exact owns_ne h.st.own h.vars.r (by decide) e
  · rintro (e | e)
    · omega
    · exact owns_ne h.st.own h.vars.f (by decide) e
  · rintro j _ (rfl | e)
    · exact Or.inr (Or.inl rfl)
    · rcases h.fresh j e with a | a
      · exact Or.inr (Or.inr a)
      · exact Or.inl a

theorem FeedRel.more (h : FeedRel w rb gv got l k v wr ps gv' got') (hrb : rb < w.heap.size) (hk : k < l.length) {g' : List UInt8} (hs : step got' (l.getD k 0) = .more g') {w1 : World} {gv'' : Value} (hl : Left wr w1 rb gv' gv'' g') :
    FeedRel w rb gv got l (k + 1) v w1 ps gv'' g' := by
  obtain ⟨h1, h2, h3⟩ := h.touch hrb hl.chg
  refine ⟨hk, hl.st, h1, ?_, h3, ?_, ?_, h2, ?_⟩
  · rw [h.eq, drop_cons hk]; simp only [feed, hs]
  · intro j hj
    rcases hl.fresh j hj with a | a
    · exact h.fresh j a
    · exact Or.inr (by have := h.chg.size; omega)
  · intro j hj e
    rcases hl.fresh j e with a | a
    · exact h.apart j hj a
    · have := (h.frs.blocks hj).2; omega
  · have := h.few; omega

theorem FeedRel.frame (h : FeedRel w rb gv got l k v wr ps gv' got') (hrb : rb < w.heap.size) (hk : k < l.length) {f : Fr} (hs : step got' (l.getD k 0) = .frame f) {w1 w2 : World} {bv gv'' v' : Value} (hl : Left wr w1 rb gv' gv'' [])
    (hb : w1.ownsRow 0 5 1 bv f.body.length (f.body.map B)) (hbf : ∀ j, bv.ownBlock = some j → wr.heap.size ≤ j) (hne : ∀ j, bv.ownBlock = some j → gv''.ownBlock ≠ some j) {o2 : Obj} {wp : World} (hbp : Below w1.heap.size w1 wp)
    (hown : w2.ownsRow 0 26 4 v' (ps.length + 1) (cellsOf ps ++ cellsOf [(f, bv)])) (hg : (wp.alloc o2).grownBy w2 v.ownBlock) (hfr : v'.ownBlock = v.ownBlock ∨ v'.ownBlock = some (wp.heap.size + 1)) :
    FeedRel w rb gv got l (k + 1) v' w2 (ps ++ [(f, bv)]) gv'' [] := by
  obtain ⟨h1, h2, h3⟩ := h.touch hrb hl.chg
  have hsz := hl.chg.size
  have hsz0 := h.chg.size
  have hsz2 := hg.size
  simp only [World.size_alloc] at hsz2
  have hszp := hbp.size
  have hc : Chg (fun j => v.ownBlock = some j) w1 w2 := Chg.trans ((Chg.of_below hbp).alloc o2) (Chg.of_grown hg (fun j hj => Or.inr hj))
  have hv : ∀ j, v.ownBlock = some j → w.heap.size ≤ j := fun j hj => (h1.row.lt j hj).1
  have hb1 : ∀ j, bv.ownBlock = some j → v.ownBlock ≠ some j := fun j hj e => rows_ne h1.row hb (by decide) e hj
  have hg1 : ∀ j, gv''.ownBlock = some j → v.ownBlock ≠ some j := fun j hj e => rows_ne h1.row hl.st.own (by decide) e hj
  have hps : ∀ p ∈ ps, w2.ownsRow w.heap.size 5 1 p.2 p.1.body.length (p.1.body.map B) := fun p hp => owns_chg (h1.body p hp) hc (fun j hj e => rows_ne h1.row (h1.body p hp) (by decide) e hj)
  refine ⟨hk, hl.st.chg hc (fun e => by have := hv rb e; omega) hg1, ⟨?_, ?_, ?_⟩, ?_, h3.trans (hc.mono (fun j _ hj => Or.inl (hv j hj))), ?_, ?_, h2.chg hc ?_ ?_, ?_⟩
  · rw [cellsOf_append]
    simp only [List.length_append, List.length_cons, List.length_nil, Nat.zero_add]
    refine owns_base hown (fun j hj => ?_)
    rcases hfr with e | e
    · rw [e] at hj; exact hv j hj
    · rw [e] at hj; simp at hj; omega
  · intro p hp
    rcases List.mem_append.1 hp with hp | hp
    · exact hps p hp
    · simp at hp; subst hp
      exact owns_base (owns_chg hb hc hb1) (fun j hj => by have := hbf j hj; omega)
  · rw [bodyBlocks_append, List.nodup_append]
    refine ⟨h.frs.nodup, ?_, ?_⟩
    · unfold bodyBlocks
      cases e : bv.ownBlock <;> simp [e]
    · intro a ha b hb' e
      subst e
      obtain ⟨p, hp, e⟩ := mem_bodyBlocks.1 hb'
      simp at hp; subst hp
      have := hbf a e
      have := (h.frs.blocks ha).2
      omega
  · rw [h.eq, drop_cons hk]
    simp only [feed, hs, List.map_append, List.map_cons, List.map_nil, List.append_assoc, List.cons_append, List.nil_append]
  · intro j hj
    rcases hl.fresh j hj with a | a
    · exact h.fresh j a
    · exact Or.inr (by omega)
  · intro j hj e
    rw [bodyBlocks_append] at hj
    rcases List.mem_append.1 hj with hj | hj
    · rcases hl.fresh j e with a | a
      · exact h.apart j hj a
      · have := (h.frs.blocks hj).2; omega
    · obtain ⟨p, hp, e'⟩ := mem_bodyBlocks.1 hj
      simp at hp; subst hp
      exact hne j e' e
  · exact fun e => owns_ne h1.row h2.r (by decide) e
  · exact fun e => owns_ne h1.row h2.f (by decide) e
  · have := h.few; simp; omega
end
end Go.Proofs.Ytjccnikmcoidhaa
