/-
  A Feed more.
-/
import Derived.Test.YtckeblkadiehbaaGreatRdState
namespace Go.Proofs.YtckeblkadiehbaaGreat
open Go.RowKit

section
variable {W0 V0 w : World} {b N : Nat} {gF gH gC gS rv kv fv : Value} {rds : List RdR} {recs : List RecB} {frs : List FRec}

/-- The blocks of two readers. -/
theorem RInv.reader_apart (h : RInv W0 V0 w b gF gH gC gS rv kv fv rds recs frs N) {i j : Nat} (hi : i < rds.length) (hj : j < rds.length) (hne : i ≠ j) : ∀ k, RB rds[j] k → ¬ RB rds[i] k := by
  obtain ⟨a1, a2, _⟩ := h.rd rds[i] (List.getElem_mem _)
  obtain ⟨c1, c2, _⟩ := h.rd rds[j] (List.getElem_mem _)
  obtain ⟨p1, p2, p3, p4⟩ := h.ap1 i j hi hj hne
  obtain ⟨q1, q2, q3, q4⟩ := h.ap1 j i hj hi (Ne.symm hne)
  obtain ⟨xa, hxa⟩ := rdT_blk a1
  obtain ⟨xc, hxc⟩ := rdT_blk c1
  obtain ⟨na, ya, oa⟩ := rdT_own a1
  obtain ⟨nc, yc, oc⟩ := rdT_own c1
  have hty : ∀ k, k = rds[i].pb → k = rds[j].xb → False := fun k e1 e2 => by
    subst e1; rw [← e2, a2.blk] at hxc; simp at hxc
  have hty' : ∀ k, k = rds[i].xb → k = rds[j].pb → False := fun k e1 e2 => by
    subst e1; rw [e2, c2.blk] at hxa; simp at hxa
  rintro k (e | e | e | e) (f | f | f | f)
  · exact p1 (f.symm.trans e)
  · subst e; exact owns_ne oa hxc (by decide) f
  · exact hty k f e
  · subst e; exact owns_ne a2.row hxc (by decide) f
  · subst f; exact owns_ne oc hxa (by decide) e
  · exact (p3 k f).1 e
  · subst f; exact owns_ne oc a2.blk (by decide) e
  · exact (q3 k e).2 f
  · exact hty' k f e
  · subst e; exact owns_ne oa c2.blk (by decide) f
  · exact p2 (f.symm.trans e)
  · subst e; exact owns_ne a2.row c2.blk (by decide) f
  · subst f; exact owns_ne c2.row hxa (by decide) e
  · exact (p3 k f).2 e
  · subst f; exact owns_ne c2.row a2.blk (by decide) e
  · exact p4 k f e

/-- A reader's blocks are none of the books'. -/
theorem RInv.books_apart (h : RInv W0 V0 w b gF gH gC gS rv kv fv rds recs frs N) {r : RdR} (hr : r ∈ rds) : ∀ k, RB r k → k ≠ b ∧ kv.ownBlock ≠ some k ∧ fv.ownBlock ≠ some k := by
  intro k hk
  refine ⟨fun e => ?_, fun e => ?_, fun e => ?_⟩
  · subst e; exact h.not_blk hr h.bk.blk (by decide) (by decide) (by decide) hk
  · exact h.not_row hr h.bk.rowB (by decide) (by decide) (by decide) k e hk
  · exact h.not_row hr h.bk.rowF (by decide) (by decide) (by decide) k e hk

theorem mem_four {P : Value → Prop} {a c d e : Value} (h1 : P a) (h2 : P c) (h3 : P d) (h4 : P e) : ∀ u ∈ [a, c, d, e], P u := by
  intro u hu
  simp only [List.mem_cons, List.not_mem_nil, or_false] at hu
  rcases hu with rfl | rfl | rfl | rfl
  · exact h1
  · exact h2
  · exact h3
  · exact h4

set_option maxHeartbeats 1600000 in
theorem rinv_next {wL wF wC wR wS wK wE : World} {i g N' : Nat} {v gv' av' kv' fv' : Value} {ps : List (Fr × Value)} {all' : List UInt8} {rd' : Rd} {rs : List RecB} {q : FRec} (h : RInv W0 V0 w b gF gH gC gS rv kv fv rds recs frs N) (hi : i < rds.length)
    (hL : Below w.heap.size w wL) (hgw : w.heap.size ≤ g) (hgl : g < wL.heap.size)
    (hfrs : FrsOwn wF wL.heap.size v ps) (hrd : RdT wF rds[i].xb gv' rd') (hF : Chg (Touch rds[i].xb rds[i].gv) wL wF) (hgv : ∀ j, gv'.ownBlock = some j → rds[i].gv.ownBlock = some j ∨ wL.heap.size ≤ j) (hap : ∀ j ∈ bodyBlocks ps, gv'.ownBlock ≠ some j)
    (hC : Below wF.heap.size wF wC) (hrf : RfS wR rds[i].pb av' all') (hR : Chg (fun j => j = rds[i].pb ∨ rds[i].av.ownBlock = some j) wC wR) (hav : ∀ j, av'.ownBlock = some j → rds[i].av.ownBlock = some j ∨ wC.heap.size ≤ j) (hrd' : rd' = (feed [] all').2)
    (hS : Below wR.heap.size wR wS) (hK : KeptF wS wK b (lw gF gH gC gS rv kv fv) kv fv v ps recs frs kv' fv' rs q) (hE : Chg (fun j => j = g) wK wE)
    (hN : N ≤ N') (hall : all'.length ≤ N') (hrs : recs.length + ps.length ≤ N') (hfr : frs.length + 1 ≤ N') (hN2 : N' ≤ 1073741824) :
    RInv W0 V0 wE b gF gH gC gS rv kv' fv' (rds.set i ⟨rds[i].xb, rds[i].pb, gv', av', all'⟩) (recs ++ rs) (frs ++ [q]) N' := by
  have hr : rds[i] ∈ rds := List.getElem_mem _
  obtain ⟨rT, rS, rN⟩ := h.rd rds[i] hr
  have z1 := hL.size
  have z2 := hF.size
  have z3 := hC.size
  have z4 := hR.size
  have z5 := hS.size
  have z6 := hK.chg.size
  have z7 := hE.size
  have zV := h.chV.size
  -- what the calls on the reader leave
  have c1 : Chg (RB rds[i]) w wS := by
    have t1 : Chg (RB rds[i]) w wF := (Chg.of_below hL).trans (hF.mono (fun j _ e => by
      rcases e with e | e
      · exact Or.inr (Or.inl e)
      · exact Or.inr (Or.inr (Or.inl e))))
    have t2 : Chg (RB rds[i]) w wR := (t1.then_below hC).trans (hR.mono (fun j _ e => by
      rcases e with e | e
      · exact Or.inr (Or.inr (Or.inr (Or.inl e)))
      · exact Or.inr (Or.inr (Or.inr (Or.inr e)))))
    exact t2.then_below hS
  obtain ⟨bkS, rowS⟩ := h.others hr c1
  -- what is done behind them
  have c2 : Chg (fun j => (j = b ∨ kv.ownBlock = some j ∨ fv.ownBlock = some j ∨ v.ownBlock = some j ∨ j ∈ bodyBlocks ps) ∨ j = g) wS wE := (hK.chg.mono (fun j _ e => Or.inl e)).trans (hE.mono (fun j _ e => Or.inr (Or.inr e)))
  have vlo : ∀ j, v.ownBlock = some j → wL.heap.size ≤ j ∧ j < wF.heap.size := fun j e => ⟨(hfrs.row.lt j e).1, owns_lt hfrs.row e⟩
  have blo : ∀ j, j ∈ bodyBlocks ps → wL.heap.size ≤ j ∧ j < wF.heap.size := fun j e => hfrs.blocks e
  have klo : ∀ j, kv.ownBlock = some j → j < w.heap.size := fun j e => owns_lt h.bk.rowB e
  have flo : ∀ j, fv.ownBlock = some j → j < w.heap.size := fun j e => owns_lt h.bk.rowF e
  have blt := lt_of_block h.bk.blk
  have old : ∀ j, j < w.heap.size → j ≠ b → kv.ownBlock ≠ some j → fv.ownBlock ≠ some j → ¬ ((j = b ∨ kv.ownBlock = some j ∨ fv.ownBlock = some j ∨ v.ownBlock = some j ∨ j ∈ bodyBlocks ps) ∨ j = g) := by
    rintro j hj h1 h2 h3 ((e | e | e | e | e) | e)
    · exact h1 e
    · exact h2 e
    · exact h3 e
    · have := vlo j e; omega
    · have := blo j e; omega
    · omega
  have neu : ∀ j, w.heap.size ≤ j → j ≠ g → v.ownBlock ≠ some j → ¬ j ∈ bodyBlocks ps → ¬ ((j = b ∨ kv.ownBlock = some j ∨ fv.ownBlock = some j ∨ v.ownBlock = some j ∨ j ∈ bodyBlocks ps) ∨ j = g) := by
    rintro j hj h1 h2 h3 ((e | e | e | e | e) | e)
    · omega
    · have := klo j e; omega
    · have := flo j e; omega
    · exact h2 e
    · exact h3 e
    · exact h1 e
  have rlt : ∀ {r : RdR}, r ∈ rds → ∀ k, RB r k → k < w.heap.size := fun hr k hk => h.rb_lt hr hk
  have gold : ∀ k, rds[i].gv.ownBlock = some k → k < w.heap.size := fun k e => rlt hr k (Or.inr (Or.inl e))
  have aold : ∀ k, rds[i].av.ownBlock = some k → k < w.heap.size := fun k e => rlt hr k (Or.inr (Or.inr (Or.inr e)))
  have ghi : ∀ k, gv'.ownBlock = some k → k < wF.heap.size := by
    intro k e
    obtain ⟨n, ys, ho⟩ := rdT_own hrd
    exact owns_lt ho e
  have ahi : ∀ k, av'.ownBlock = some k → k < wR.heap.size := fun k e => owns_lt hrf.row e
  -- the reader itself
  have xbk := h.books_apart hr
  have rE : RdT wE rds[i].xb gv' rd' ∧ RfS wE rds[i].pb av' all' := by
    have t1 : RdT wC rds[i].xb gv' rd' := rdT_chg hrd (Chg.of_below (S := fun _ => False) hC) id (fun _ _ => id)
    have t2 : RdT wR rds[i].xb gv' rd' := by
      refine rdT_chg t1 hR ?_ ?_
      · rintro (e | e)
        · obtain ⟨cs, hb⟩ := rdT_blk rT
          rw [e, rS.blk] at hb
          simp at hb
        · obtain ⟨cs, hb⟩ := rdT_blk rT
          exact owns_ne rS.row hb (by decide) e
      · rintro k e (f | f)
        · have hk1 : k < w.heap.size := by rw [f]; exact rlt hr _ (Or.inr (Or.inr (Or.inl rfl)))
          rcases hgv k e with a | a
          · obtain ⟨n, ys, ho⟩ := rdT_own rT
            subst f
            exact owns_ne ho rS.blk (by decide) a
          · omega
        · rcases hgv k e with a | a
          · exact h.ap2 _ hr k a f
          · have := aold k f; omega
    have t3 : RdT wS rds[i].xb gv' rd' := rdT_chg t2 (Chg.of_below (S := fun _ => False) hS) id (fun _ _ => id)
    have t4 : RfS wS rds[i].pb av' all' := hrf.chg (Chg.of_below (S := fun _ => False) hS) id (fun _ _ => id)
    refine ⟨rdT_chg t3 c2 ?_ ?_, t4.chg c2 ?_ ?_⟩
    · obtain ⟨a1, a2, a3⟩ := xbk rds[i].xb (Or.inl rfl)
      exact old _ (rlt hr _ (Or.inl rfl)) a1 a2 a3
    · intro k e
      rcases hgv k e with a | a
      · obtain ⟨a1, a2, a3⟩ := xbk k (Or.inr (Or.inl a))
        exact old _ (gold k a) a1 a2 a3
      · refine neu k (by omega) (by omega) (fun f => ?_) (fun f => hap k f e)
        obtain ⟨n, ys, ho⟩ := rdT_own hrd
        exact rows_ne hfrs.row ho (by decide) f e
    · obtain ⟨a1, a2, a3⟩ := xbk rds[i].pb (Or.inr (Or.inr (Or.inl rfl)))
      exact old _ (rlt hr _ (Or.inr (Or.inr (Or.inl rfl)))) a1 a2 a3
    · intro k e
      rcases hav k e with a | a
      · obtain ⟨a1, a2, a3⟩ := xbk k (Or.inr (Or.inr (Or.inr a)))
        exact old _ (aold k a) a1 a2 a3
      · exact neu k (by omega) (by omega) (fun f => by have := vlo k f; omega) (fun f => by have := blo k f; omega)
  -- the other readers
  have oth : ∀ j (hj : j < rds.length), j ≠ i → RdT wE rds[j].xb rds[j].gv (feed [] rds[j].all).2 ∧ RfS wE rds[j].pb rds[j].av rds[j].all := by
    intro j hj hne
    obtain ⟨a1, a2, _⟩ := h.rd rds[j] (List.getElem_mem _)
    have sep := h.reader_apart hi hj (Ne.symm hne)
    have bkj := h.books_apart (List.getElem_mem hj)
    have o2 : ∀ k, RB rds[j] k → ¬ ((k = b ∨ kv.ownBlock = some k ∨ fv.ownBlock = some k ∨ v.ownBlock = some k ∨ k ∈ bodyBlocks ps) ∨ k = g) := fun k hk => by
      obtain ⟨b1, b2, b3⟩ := bkj k hk
      exact old k (rlt (List.getElem_mem hj) k hk) b1 b2 b3
    exact ⟨rdT_chg (rdT_chg a1 c1 (sep _ (Or.inl rfl)) (fun k e => sep k (Or.inr (Or.inl e)))) c2 (o2 _ (Or.inl rfl)) (fun k e => o2 k (Or.inr (Or.inl e))),
      (a2.chg c1 (sep _ (Or.inr (Or.inr (Or.inl rfl)))) (fun k e => sep k (Or.inr (Or.inr (Or.inr e))))).chg c2 (o2 _ (Or.inr (Or.inr (Or.inl rfl)))) (fun k e => o2 k (Or.inr (Or.inr (Or.inr e))))⟩
  have kvg : ∀ j, kv'.ownBlock = some j → ¬ j = g := fun j e f => by
    rcases hK.kvb j e with a | a
    · have := klo j a; omega
    · omega
  have fvg : ∀ j, fv'.ownBlock = some j → ¬ j = g := fun j e f => by
    rcases hK.fvb j e with a | a
    · have := flo j a; omega
    · omega
  have recb : ∀ x ∈ recs, ∀ u ∈ [x.l, x.a, x.b, x.c], ∃ n ys, w.ownsRow 0 5 1 u n ys := fun x hx => by
    have hf := h.bk.famB x hx
    exact mem_four ⟨_, _, hf.l⟩ ⟨_, _, hf.a⟩ ⟨_, _, hf.b⟩ ⟨_, _, hf.c⟩
  have frsb : ∀ x ∈ frs, ∀ u ∈ [x.l, x.a, x.b, x.c], ∃ n ys, w.ownsRow 0 56 4 u n ys := fun x hx => by
    have hf := h.bk.famF x hx
    exact mem_four ⟨_, _, hf.l⟩ ⟨_, _, hf.a⟩ ⟨_, _, hf.b⟩ ⟨_, _, hf.c⟩
  have hget : ∀ j (hj : j < (rds.set i ⟨rds[i].xb, rds[i].pb, gv', av', all'⟩).length), (j = i ∧ (rds.set i ⟨rds[i].xb, rds[i].pb, gv', av', all'⟩)[j] = ⟨rds[i].xb, rds[i].pb, gv', av', all'⟩) ∨ (j ≠ i ∧ ∃ hj' : j < rds.length, (rds.set i ⟨rds[i].xb, rds[i].pb, gv', av', all'⟩)[j] = rds[j]) := by
    intro j hj
    have hj' : j < rds.length := by simpa using hj
    by_cases e : j = i
    · left; subst e; exact ⟨rfl, by simp⟩
    · right; exact ⟨e, hj', by rw [List.getElem_set_ne (Ne.symm e)]⟩
  -- two values against each other
  have G1 : ∀ j (hj : j < rds.length), j ≠ i → (∀ k, gv'.ownBlock = some k → rds[j].gv.ownBlock ≠ some k ∧ rds[j].av.ownBlock ≠ some k) ∧ (∀ k, av'.ownBlock = some k → rds[j].av.ownBlock ≠ some k ∧ rds[j].gv.ownBlock ≠ some k) := by
    intro j hj hne
    obtain ⟨_, _, p3, p4⟩ := h.ap1 i j hi hj (Ne.symm hne)
    obtain ⟨_, _, q3, _⟩ := h.ap1 j i hj hi hne
    have lg : ∀ k, rds[j].gv.ownBlock = some k → k < w.heap.size := fun k e => rlt (List.getElem_mem hj) k (Or.inr (Or.inl e))
    have la : ∀ k, rds[j].av.ownBlock = some k → k < w.heap.size := fun k e => rlt (List.getElem_mem hj) k (Or.inr (Or.inr (Or.inr e)))
    refine ⟨fun k e => ?_, fun k e => ?_⟩
    · rcases hgv k e with a | a
      · exact p3 k a
      · exact ⟨fun f => by have := lg k f; omega, fun f => by have := la k f; omega⟩
    · rcases hav k e with a | a
      · exact ⟨p4 k a, fun f => (q3 k f).2 a⟩
      · exact ⟨fun f => by have := la k f; omega, fun f => by have := lg k f; omega⟩
  have G2 : ∀ k, gv'.ownBlock = some k → av'.ownBlock ≠ some k := by
    intro k e f
    rcases hgv k e with a | a
    · rcases hav k f with c | c
      · exact h.ap2 _ hr k a c
      · have := gold k a; omega
    · rcases hav k f with c | c
      · have := aold k c; omega
      · have := ghi k e; omega
  have newb : ∀ x ∈ rs, ∀ u ∈ [x.l, x.a, x.b, x.c], ∀ j, u.ownBlock = some j → (wL.heap.size ≤ j ∧ j < wF.heap.size ∧ j ∈ bodyBlocks ps) ∨ wS.heap.size ≤ j := by
    intro x hx u hu j hj
    rcases hK.blksB x hx u hu j hj with a | a
    · exact Or.inl ⟨(blo j a).1, (blo j a).2, a⟩
    · exact Or.inr a
  refine ⟨⟨?_, rfl, rfl, rfl, rfl, rfl, owns_chg hK.rowB hE kvg, owns_chg hK.rowF hE fvg, ?_, ?_, ?_, ?_⟩, ?_, ?_, ?_, ?_, ?_, ?_, h.rvV, ?_, ?_, h.b0, h.belV, ?_, ?_⟩
  · rw [hE.block b (by omega) (by omega), hK.blk]
    rfl
  · intro x hx
    rcases List.mem_append.1 hx with hx | hx
    · refine (bkS.famB x hx).chg c2 fun u hu j hj => ?_
      obtain ⟨n, ys, ho⟩ := recb x hx u hu
      refine old j (owns_lt ho hj) (fun e => ?_) (fun e => rows_ne h.bk.rowB ho (by decide) e hj) (fun e => rows_ne h.bk.rowF ho (by decide) e hj)
      subst e; exact owns_ne ho h.bk.blk (by decide) hj
    · refine (hK.famB x hx).chg hE fun u hu j hj e => ?_
      rcases newb x hx u hu j hj with a | a
      · omega
      · omega
  · intro x hx
    rcases List.mem_append.1 hx with hx | hx
    · refine (bkS.famF x hx).chg c2 fun u hu j hj => ?_
      obtain ⟨n, ys, ho⟩ := frsb x hx u hu
      refine old j (owns_lt ho hj) (fun e => ?_) (fun e => rows_ne h.bk.rowB ho (by decide) e hj) (fun e => rows_ne h.bk.rowF ho (by decide) e hj)
      subst e; exact owns_ne ho h.bk.blk (by decide) hj
    · simp only [List.mem_cons, List.not_mem_nil, or_false] at hx
      subst hx
      refine hK.famF.chg hE fun u hu j hj e => ?_
      rcases hK.blksF u hu j hj with a | a
      · have := vlo j a; omega
      · omega
  · intro x hx
    rcases List.mem_append.1 hx with hx | hx
    · exact h.bk.okB x hx
    · have := hK.okB x hx
      exact ⟨by omega, this.2⟩
  · intro x hx
    rcases List.mem_append.1 hx with hx | hx
    · exact h.bk.okF x hx
    · simp only [List.mem_cons, List.not_mem_nil, or_false] at hx
      subst hx
      rw [hK.okF]; omega
  · rw [List.length_set, rdCells_set (r := ⟨rds[i].xb, rds[i].pb, gv', av', all'⟩) hi rfl rfl]
    refine owns_chg rowS c2 fun j hj => ?_
    refine old j (owns_lt h.rowR hj) (fun e => ?_) (fun e => rows_ne h.bk.rowB h.rowR (by decide) e hj) (fun e => rows_ne h.bk.rowF h.rowR (by decide) e hj)
    subst e; exact owns_ne h.rowR h.bk.blk (by decide) hj
  · intro x hx
    obtain ⟨j, hj, rfl⟩ := List.mem_iff_getElem.1 hx
    rcases hget j hj with ⟨_, e⟩ | ⟨hne, hj', e⟩
    · rw [e]; exact ⟨by rw [← hrd']; exact rE.1, rE.2, hall⟩
    · rw [e]
      obtain ⟨o1, o2⟩ := oth j hj' hne
      exact ⟨o1, o2, Nat.le_trans (h.rd _ (List.getElem_mem hj')).2.2 hN⟩
  · intro j k hj hk hne
    rcases hget j hj with ⟨ej, e⟩ | ⟨nj, hj', e⟩
    · rcases hget k hk with ⟨ek, f⟩ | ⟨nk, hk', f⟩
      · exact absurd (ej.trans ek.symm) hne
      · rw [e, f]
        obtain ⟨p1, p2, _⟩ := h.ap1 i k hi hk' (Ne.symm nk)
        obtain ⟨g1, g2⟩ := G1 k hk' nk
        exact ⟨p1, p2, g1, fun m hm => (g2 m hm).1⟩
    · rcases hget k hk with ⟨ek, f⟩ | ⟨nk, hk', f⟩
      · rw [e, f]
        obtain ⟨p1, p2, _⟩ := h.ap1 j i hj' hi nj
        obtain ⟨g1, g2⟩ := G1 j hj' nj
        exact ⟨p1, p2, fun m hm => ⟨fun q => (g1 m q).1 hm, fun q => (g2 m q).2 hm⟩, fun m hm q => (g2 m q).1 hm⟩
      · rw [e, f]
        exact h.ap1 j k hj' hk' hne
  · intro x hx
    obtain ⟨j, hj, rfl⟩ := List.mem_iff_getElem.1 hx
    rcases hget j hj with ⟨_, e⟩ | ⟨hne, hj', e⟩
    · rw [e]; exact G2
    · rw [e]; exact h.ap2 _ (List.getElem_mem hj')
  · intro x hx k hk y hy u hu f
    obtain ⟨j, hj, rfl⟩ := List.mem_iff_getElem.1 hx
    rcases List.mem_append.1 hy with hy | hy
    · obtain ⟨n, ys, ho⟩ := recb y hy u hu
      have hu1 := owns_lt ho f
      rcases hget j hj with ⟨_, e⟩ | ⟨hne, hj', e⟩
      · rw [e] at hk
        rcases hk with a | a
        · rcases hgv k a with c | c
          · exact h.ap3 _ hr k (Or.inl c) y hy u hu f
          · omega
        · rcases hav k a with c | c
          · exact h.ap3 _ hr k (Or.inr c) y hy u hu f
          · omega
      · rw [e] at hk
        exact h.ap3 _ (List.getElem_mem hj') k hk y hy u hu f
    · have hnb := newb y hy u hu k f
      rcases hget j hj with ⟨_, e⟩ | ⟨hne, hj', e⟩
      · rw [e] at hk
        rcases hk with a | a
        · have h1 := ghi k a
          rcases hnb with ⟨_, _, c⟩ | c
          · exact hap k c a
          · omega
        · have h1 := ahi k a
          rcases hnb with ⟨c1', c2', _⟩ | c
          · rcases hav k a with d | d
            · have := aold k d; omega
            · omega
          · omega
      · rw [e] at hk
        have h1 : k < w.heap.size := by
          rcases hk with a | a
          · exact rlt (List.getElem_mem hj') k (Or.inr (Or.inl a))
          · exact rlt (List.getElem_mem hj') k (Or.inr (Or.inr (Or.inr a)))
        rcases hnb with ⟨c1', _, _⟩ | c
        · omega
        · omega
  · intro x hx
    obtain ⟨j, hj, rfl⟩ := List.mem_iff_getElem.1 hx
    rcases hget j hj with ⟨_, e⟩ | ⟨hne, hj', e⟩
    · rw [e]
      obtain ⟨n1, n2, n3⟩ := h.new _ hr
      refine ⟨n1, n2, fun k hk => ?_⟩
      rcases hk with a | a
      · rcases hgv k a with c | c
        · exact n3 k (Or.inl c)
        · omega
      · rcases hav k a with c | c
        · exact n3 k (Or.inr c)
        · omega
    · rw [e]; exact h.new _ (List.getElem_mem hj')
  · intro j hj
    rcases hK.kvb j hj with a | a
    · exact h.kvV j a
    · omega
  · intro j hj
    rcases hK.fvb j hj with a | a
    · exact h.fvV j a
    · omega
  · have t1 : Chg (fun j => j = b) V0 wS := h.chV.trans (c1.mono (fun j _ e => Or.inl (by
      obtain ⟨n1, n2, n3⟩ := h.new _ hr
      rcases e with e | e | e | e
      · omega
      · exact n3 j (Or.inl e)
      · omega
      · exact n3 j (Or.inr e))))
    refine t1.trans (c2.mono (fun j _ e => ?_))
    rcases e with (e | e | e | e | e) | e
    · exact Or.inr e
    · exact Or.inl (h.kvV j e)
    · exact Or.inl (h.fvV j e)
    · have := vlo j e; exact Or.inl (by omega)
    · have := blo j e; exact Or.inl (by omega)
    · exact Or.inl (by omega)
  · obtain ⟨f1, f2, f3⟩ := h.few
    refine ⟨by simp; omega, ?_, by simp; omega⟩
    rw [List.length_append, hK.len]; omega
end
end Go.Proofs.YtckeblkadiehbaaGreat
