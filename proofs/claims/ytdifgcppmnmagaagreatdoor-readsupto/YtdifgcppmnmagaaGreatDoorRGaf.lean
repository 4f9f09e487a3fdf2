import Derived.Test.YtdifgcppmnmagaaGreatDoorRGae
import Derived.Test.YtdifgcppmnmagaaGreatDoorRGab
import Derived.Test.YtdifgcppmnmagaaGreatDoorRGad
import Derived.Deep.MidRow
import Derived.Deep.RegionWith
import Derived.Deep.DeepCutAuto
import Derived.Deep.RegionHeld3
import Derived.Lib.SliceRun
set_option linter.unusedVariables false
set_option linter.unusedSimpArgs false
/-
  A Feed more.
-/
namespace Go.Proofs.YtdifgcppmnmagaaGreatDoor
open Go.RowKit

section
variable {W0 V0 w : World} {b N : Nat} {gF gH gC gS rv kv fv : Value} {rds : List RdR} {recs : List RecB} {frs : List FRec}

/-- The blocks of two readers. -/
theorem RInv.reader_apart (h : RInv W0 V0 w b gF gH gC gS rv kv fv rds recs frs N) {i j : Nat} (hi : i < rds.length) (hj : j < rds.length) (hne : i ≠ j) : ∀ k, RB rds[j] k → ¬ RB rds[i] k := by
  obtain ⟨a1, a2, _⟩ := h.rd rds[i] (List.getElem_mem _)
  obtain ⟨c1, c2, _⟩ := h.rd rds[j] (List.getElem_mem _)
  obtain ⟨p1, p2, p3, p4⟩ := h.ap1 i j hi hj hne
  obtain ⟨q1, q2, q3, q4⟩ := h.ap1 j i hj hi (Ne.symm hne)
  obtain ⟨xa, hxa⟩ := rdT_blk a1
  obtain ⟨xc, hxc⟩ := rdT_blk c1
  obtain ⟨na, ya, oa⟩ := rdT_own a1
  obtain ⟨nc, yc, oc⟩ := rdT_own c1
  have hty : ∀ k, k = rds[i].pb → k = rds[j].xb → False := fun k e1 e2 => by
    subst e1; rw [← e2, a2.blk] at hxc; simp at hxc
  have hty' : ∀ k, k = rds[i].xb → k = rds[j].pb → False := fun k e1 e2 => by
    subst e1; rw [e2, c2.blk] at hxa; simp at hxa
  rintro k (e | e | e | e) (f | f | f | f)
  · exact p1 (f.symm.trans e)
  · subst e; exact owns_ne oa hxc (by decide) f
  · exact hty k f e
  · subst e; exact owns_ne a2.row hxc (by decide) f
  · subst f; exact owns_ne oc hxa (by decide) e
  · exact (p3 k f).1 e
  · subst f; exact owns_ne oc a2.blk (by decide) e
  · exact (q3 k e).2 f
  · exact hty' k f e
  · subst e; exact owns_ne oa c2.blk (by decide) f
  · exact p2 (f.symm.trans e)
  · subst e; exact owns_ne a2.row c2.blk (by decide) f
  · subst f; exact owns_ne c2.row hxa (by decide) e
  · exact (p3 k f).2 e
  · subst f; exact owns_ne c2.row a2.blk (by decide) e
  · exact p4 k f e

/-- A reader's blocks are none of the books'. -/
theorem RInv.books_apart (h : RInv W0 V0 w b gF gH gC gS rv kv fv rds recs frs N) {r : RdR} (hr : r ∈ rds) : ∀ k, RB r k → k ≠ b ∧ kv.ownBlock ≠ some k ∧ fv.ownBlock ≠ some k := by
  intro k hk
  refine ⟨fun e => ?_, fun e => ?_, fun e => ?_⟩
  · subst e; exact h.not_blk hr h.bk.blk (by decide) (by decide) (by decide) hk
  · exact h.not_row hr h.bk.rowB (by decide) (by decide) (by decide) k e hk
  · exact h.not_row hr h.bk.rowF (by decide) (by decide) (by decide) k e hk

theorem mem_four {P : Value → Prop} {a c d e : Value} (h1 : P a) (h2 : P c) (h3 : P d) (h4 : P e) : ∀ u ∈ [a, c, d, e], P u := by
  intro u hu
  simp only [List.mem_cons, List.not_mem_nil, or_false] at hu
  rcases hu with rfl | rfl | rfl | rfl
  · exact h1
  · exact h2
  · exact h3
  · exact h4

set_option maxHeartbeats 1600000 in
theorem rinv_next {wL wF wC wR wS wK wE : World} {i g N' : Nat} {v gv' av' kv' fv' : Value} {ps : List (Fr × Value)} {all' : List UInt8} {rd' : Rd} {rs : List RecB} {q : FRec} (h : RInv W0 V0 w b gF gH gC gS rv kv fv rds recs frs N) (hi : i < rds.length)
    (hL : Below w.heap.size w wL) (hgw : w.heap.size ≤ g) (hgl : g < wL.heap.size)
    (hfrs : FrsOwn wF wL.heap.size v ps) (hrd : RdT wF rds[i].xb gv' rd') (hF : Chg (Touch rds[i].xb rds[i].gv) wL wF) (hgv : ∀ j, gv'.ownBlock = some j → rds[i].gv.ownBlock = some j ∨ wL.heap.size ≤ j) (hap : ∀ j ∈ bodyBlocks ps, gv'.ownBlock ≠ some j)
    (hC : Below wF.heap.size wF wC) (hrf : RfS wR rds[i].pb av' all') (hR : Chg (fun j => j = rds[i].pb ∨ rds[i].av.ownBlock = some j) wC wR) (hav : ∀ j, av'.ownBlock = some j → rds[i].av.ownBlock = some j ∨ wC.heap.size ≤ j) (hrd' : rd' = (feed [] all').2)
    (hS : Below wR.heap.size wR wS) (hK : KeptF wS wK b (lw gF gH gC gS rv kv fv) kv fv v ps recs frs kv' fv' rs q) (hE : Chg (fun j => j = g) wK wE)
    (hN : N ≤ N') (hall : all'.length ≤ N') (hrs : recs.length + ps.length ≤ N') (hfr : frs.length + 1 ≤ N') (hN2 : N' ≤ 1073741824) :
    RInv W0 V0 wE b gF gH gC gS rv kv' fv' (rds.set i ⟨rds[i].xb, rds[i].pb, gv', av', all'⟩) (recs ++ rs) (frs ++ [q]) N' := by
  have hr : rds[i] ∈ rds := List.getElem_mem _
  obtain ⟨rT, rS, rN⟩ := h.rd rds[i] hr
  have z1 := hL.size
  have z2 := hF.size
  have z3 := hC.size
  have z4 := hR.size
  have z5 := hS.size
  have z6 := hK.chg.size
  have z7 := hE.size
  have zV := h.chV.size
  -- what the calls on the reader leave
  have c1 : Chg (RB rds[i]) w wS := by
    have t1 : Chg (RB rds[i]) w wF := (Chg.of_below hL).trans (hF.mono (fun j _ e => by
      rcases e with e | e
      · exact Or.inr (Or.inl e)
      · exact Or.inr (Or.inr (Or.inl e))))
    have t2 : Chg (RB rds[i]) w wR := (t1.then_below hC).trans (hR.mono (fun j _ e => by
      rcases e with e | e
      · exact Or.inr (Or.inr (Or.inr (Or.inl e)))
      · exact Or.inr (Or.inr (Or.inr (Or.inr e)))))
    exact t2.then_below hS
  obtain ⟨bkS, rowS⟩ := h.others hr c1
  -- what is done behind them
  have c2 : Chg (fun j => (j = b ∨ kv.ownBlock = some j ∨ fv.ownBlock = some j ∨ v.ownBlock = some j ∨ j ∈ bodyBlocks ps) ∨ j = g) wS wE := (hK.chg.mono (fun j _ e => Or.inl e)).trans (hE.mono (fun j _ e => Or.inr (Or.inr e)))
  have vlo : ∀ j, v.ownBlock = some j → wL.heap.size ≤ j ∧ j < wF.heap.size := fun j e => ⟨(hfrs.row.lt j e).1, owns_lt hfrs.row e⟩
  have blo : ∀ j, j ∈ bodyBlocks ps → wL.heap.size ≤ j ∧ j < wF.heap.size := fun j e => hfrs.blocks e
  have klo : ∀ j, kv.ownBlock = some j → j < w.heap.size := fun j e => owns_lt h.bk.rowB e
  have flo : ∀ j, fv.ownBlock = some j → j < w.heap.size := fun j e => owns_lt h.bk.rowF e
  have blt := lt_of_block h.bk.blk
  have old : ∀ j, j < w.heap.size → j ≠ b → kv.ownBlock ≠ some j → fv.ownBlock ≠ some j → ¬ ((j = b ∨ kv.ownBlock = some j ∨ fv.ownBlock = some j ∨ v.ownBlock = some j ∨ j ∈ bodyBlocks ps) ∨ j = g) := by
    rintro j hj h1 h2 h3 ((e | e | e | e | e) | e)
    · exact h1 e
    · exact h2 e
    · exact h3 e
    · have := vlo j e; omega
    · have := blo j e; omega
    · omega
  have neu : ∀ j, w.heap.size ≤ j → j ≠ g → v.ownBlock ≠ some j → ¬ j ∈ bodyBlocks ps → ¬ ((j = b ∨ kv.ownBlock = some j ∨ fv.ownBlock = some j ∨ v.ownBlock = some j ∨ j ∈ bodyBlocks ps) ∨ j = g) := by
    rintro j hj h1 h2 h3 ((e | e | e | e | e) | e)
    · omega
    · have := klo j e; omega
    · have := flo j e; omega
    · exact h2 e
    · exact h3 e
    · exact h1 e
  have rlt : ∀ {r : RdR}, r ∈ rds → ∀ k, RB r k → k < w.heap.size := fun hr k hk => h.rb_lt hr hk
  have gold : ∀ k, rds[i].gv.ownBlock = some k → k < w.heap.size := fun k e => rlt hr k (Or.inr (Or.inl e))
  have aold : ∀ k, rds[i].av.ownBlock = some k → k < w.heap.size := fun k e => rlt hr k (Or.inr (Or.inr (Or.inr e)))
  have ghi : ∀ k, gv'.ownBlock = some k → k < wF.heap.size := by
    intro k e
    obtain ⟨n, ys, ho⟩ := rdT_own hrd
    exact owns_lt ho e
  have ahi : ∀ k, av'.ownBlock = some k → k < wR.heap.size := fun k e => owns_lt hrf.row e
  -- the reader itself
  have xbk := h.books_apart hr
  have rE : RdT wE rds[i].xb gv' rd' ∧ RfS wE rds[i].pb av' all' := by
    have t1 : RdT wC rds[i].xb gv' rd' := rdT_chg hrd (Chg.of_below (S := fun _ => False) hC) id (fun _ _ => id)
    have t2 : RdT wR rds[i].xb gv' rd' := by
      refine rdT_chg t1 hR ?_ ?_
      · rintro (e | e)
        · obtain ⟨cs, hb⟩ := rdT_blk rT
          rw [e, rS.blk] at hb
          simp at hb
        · obtain ⟨cs, hb⟩ := rdT_blk rT
          exact owns_ne rS.row hb (by decide) e
      · rintro k e (f | f)
        · have hk1 : k < w.heap.size := by rw [f]; exact rlt hr _ (Or.inr (Or.inr (Or.inl rfl)))
          rcases hgv k e with a | a
          · obtain ⟨n, ys, ho⟩ := rdT_own rT
            subst f
            exact owns_ne ho rS.blk (by decide) a
          · omega
        · rcases hgv k e with a | a
          · exact h.ap2 _ hr k a f
          · have := aold k f; omega
    have t3 : RdT wS rds[i].xb gv' rd' := rdT_chg t2 (Chg.of_below (S := fun _ => False) hS) id (fun _ _ => id)
    have t4 : RfS wS rds[i].pb av' all' := hrf.chg (Chg.of_below (S := fun _ => False) hS) id (fun _ _ => id)
    refine ⟨rdT_chg t3 c2 ?_ ?_, t4.chg c2 ?_ ?_⟩
    · obtain ⟨a1, a2, a3⟩ := xbk rds[i].xb (Or.inl rfl)
      exact old _ (rlt hr _ (Or.inl rfl)) a1 a2 a3
    · intro k e
      rcases hgv k e with a | a
      · obtain ⟨a1, a2, a3⟩ := xbk k (Or.inr (Or.inl a))
        exact old _ (gold k a) a1 a2 a3
      · refine neu k (by omega) (by omega) (fun f => ?_) (fun f => hap k f e)
        obtain ⟨n, ys, ho⟩ := rdT_own hrd
        exact rows_ne hfrs.row ho (by decide) f e
    · obtain ⟨a1, a2, a3⟩ := xbk rds[i].pb (Or.inr (Or.inr (Or.inl rfl)))
      exact old _ (rlt hr _ (Or.inr (Or.inr (Or.inl rfl)))) a1 a2 a3
    · intro k e
      rcases hav k e with a | a
      · obtain ⟨a1, a2, a3⟩ := xbk k (Or.inr (Or.inr (Or.inr a)))
        exact old _ (aold k a) a1 a2 a3
      · exact neu k (by omega) (by omega) (fun f => by have := vlo k f; omega) (fun f => by have := blo k f; omega)
  -- the other readers
  have oth : ∀ j (hj : j < rds.length), j ≠ i → RdT wE rds[j].xb rds[j].gv (feed [] rds[j].all).2 ∧ RfS wE rds[j].pb rds[j].av rds[j].all := by
    intro j hj hne
    obtain ⟨a1, a2, _⟩ := h.rd rds[j] (List.getElem_mem _)
    have sep := h.reader_apart hi hj (Ne.symm hne)
    have bkj := h.books_apart (List.getElem_mem hj)
    have o2 : ∀ k, RB rds[j] k → ¬ ((k = b ∨ kv.ownBlock = some k ∨ fv.ownBlock = some k ∨ v.ownBlock = some k ∨ k ∈ bodyBlocks ps) ∨ k = g) := fun k hk => by
      obtain ⟨b1, b2, b3⟩ := bkj k hk
      exact old k (rlt (List.getElem_mem hj) k hk) b1 b2 b3
    exact ⟨rdT_chg (rdT_chg a1 c1 (sep _ (Or.inl rfl)) (fun k e => sep k (Or.inr (Or.inl e)))) c2 (o2 _ (Or.inl rfl)) (fun k e => o2 k (Or.inr (Or.inl e))),
      (a2.chg c1 (sep _ (Or.inr (Or.inr (Or.inl rfl)))) (fun k e => sep k (Or.inr (Or.inr (Or.inr e))))).chg c2 (o2 _ (Or.inr (Or.inr (Or.inl rfl)))) (fun k e => o2 k (Or.inr (Or.inr (Or.inr e))))⟩
  have kvg : ∀ j, kv'.ownBlock = some j → ¬ j = g := fun j e f => by
    rcases hK.kvb j e with a | a
    · have := klo j a; omega
    · omega
  have fvg : ∀ j, fv'.ownBlock = some j → ¬ j = g := fun j e f => by
    rcases hK.fvb j e with a | a
    · have := flo j a; omega
    · omega
  have recb : ∀ x ∈ recs, ∀ u ∈ [x.l, x.a, x.b, x.c], ∃ n ys, w.ownsRow 0 5 1 u n ys := fun x hx => by
    have hf := h.bk.famB x hx
    exact mem_four ⟨_, _, hf.l⟩ ⟨_, _, hf.a⟩ ⟨_, _, hf.b⟩ ⟨_, _, hf.c⟩
  have frsb : ∀ x ∈ frs, ∀ u ∈ [x.l, x.a, x.b, x.c], ∃ n ys, w.ownsRow 0 56 4 u n ys := fun x hx => by
    have hf := h.bk.famF x hx
    exact mem_four ⟨_, _, hf.l⟩ ⟨_, _, hf.a⟩ ⟨_, _, hf.b⟩ ⟨_, _, hf.c⟩
  have hget : ∀ j (hj : j < (rds.set i ⟨rds[i].xb, rds[i].pb, gv', av', all'⟩).length), (j = i ∧ (rds.set i ⟨rds[i].xb, rds[i].pb, gv', av', all'⟩)[j] = ⟨rds[i].xb, rds[i].pb, gv', av', all'⟩) ∨ (j ≠ i ∧ ∃ hj' : j < rds.length, (rds.set i ⟨rds[i].xb, rds[i].pb, gv', av', all'⟩)[j] = rds[j]) := by
    intro j hj
    have hj' : j < rds.length := by simpa using hj
    by_cases e : j = i
    · left; subst e; exact ⟨rfl, by simp⟩
    · right; exact ⟨e, hj', by rw [List.getElem_set_ne (Ne.symm e)]⟩
  -- two values against each other
  have G1 : ∀ j (hj : j < rds.length), j ≠ i → (∀ k, gv'.ownBlock = some k → rds[j].gv.ownBlock ≠ some k ∧ rds[j].av.ownBlock ≠ some k) ∧ (∀ k, av'.ownBlock = some k → rds[j].av.ownBlock ≠ some k ∧ rds[j].gv.ownBlock ≠ some k) := by
    intro j hj hne
    obtain ⟨_, _, p3, p4⟩ := h.ap1 i j hi hj (Ne.symm hne)
    obtain ⟨_, _, q3, _⟩ := h.ap1 j i hj hi hne
    have lg : ∀ k, rds[j].gv.ownBlock = some k → k < w.heap.size := fun k e => rlt (List.getElem_mem hj) k (Or.inr (Or.inl e))
    have la : ∀ k, rds[j].av.ownBlock = some k → k < w.heap.size := fun k e => rlt (List.getElem_mem hj) k (Or.inr (Or.inr (Or.inr e)))
    refine ⟨fun k e => ?_, fun k e => ?_⟩
    · rcases hgv k e with a | a
      · exact p3 k a
      · exact ⟨fun f => by have := lg k f; omega, fun f => by have := la k f; omega⟩
    · rcases hav k e with a | a
      · exact ⟨p4 k a, fun f => (q3 k f).2 a⟩
      · exact ⟨fun f => by have := la k f; omega, fun f => by have := lg k f; omega⟩
  have G2 : ∀ k, gv'.ownBlock = some k → av'.ownBlock ≠ some k := by
    intro k e f
    rcases hgv k e with a | a
    · rcases hav k f with c | c
      · exact h.ap2 _ hr k a c
      · have := gold k a; omega
    · rcases hav k f with c | c
      · have := aold k c; omega
      · have := ghi k e; omega
  have newb : ∀ x ∈ rs, ∀ u ∈ [x.l, x.a, x.b, x.c], ∀ j, u.ownBlock = some j → (wL.heap.size ≤ j ∧ j < wF.heap.size ∧ j ∈ bodyBlocks ps) ∨ wS.heap.size ≤ j := by
    intro x hx u hu j hj
    rcases hK.blksB x hx u hu j hj with a | a
    · exact Or.inl ⟨(blo j a).1, (blo j a).2, a⟩
    · exact Or.inr a
  refine ⟨⟨?_, rfl, rfl, rfl, rfl, rfl, owns_chg hK.rowB hE kvg, owns_chg hK.rowF hE fvg, ?_, ?_, ?_, ?_⟩, ?_, ?_, ?_, ?_, ?_, ?_, h.rvV, ?_, ?_, h.b0, h.belV, ?_, ?_⟩
  · rw [hE.block b (by omega) (by omega), hK.blk]
    rfl
  · intro x hx
    rcases List.mem_append.1 hx with hx | hx
    · refine (bkS.famB x hx).chg c2 fun u hu j hj => ?_
      obtain ⟨n, ys, ho⟩ := recb x hx u hu
      refine old j (owns_lt ho hj) (fun e => ?_) (fun e => rows_ne h.bk.rowB ho (by decide) e hj) (fun e => rows_ne h.bk.rowF ho (by decide) e hj)
      subst e; exact owns_ne ho h.bk.blk (by decide) hj
    · refine (hK.famB x hx).chg hE fun u hu j hj e => ?_
      rcases newb x hx u hu j hj with a | a
      · omega
      · omega
  · intro x hx
    rcases List.mem_append.1 hx with hx | hx
    · refine (bkS.famF x hx).chg c2 fun u hu j hj => ?_
      obtain ⟨n, ys, ho⟩ := frsb x hx u hu
      refine old j (owns_lt ho hj) (fun e => ?_) (fun e => rows_ne h.bk.rowB ho (by decide) e hj) (fun e => rows_ne h.bk.rowF ho (by decide) e hj)
      subst e; exact owns_ne ho h.bk.blk (by decide) hj
    · simp only [List.mem_cons, List.not_mem_nil, or_false] at hx
      subst hx
      refine hK.famF.chg hE fun u hu j hj e => ?_
      rcases hK.blksF u hu j hj with a | a
      · have := vlo j a; omega
      · omega
  · intro x hx
    rcases List.mem_append.1 hx with hx | hx
    · exact h.bk.okB x hx
    · have := hK.okB x hx
      exact ⟨by omega, this.2⟩
  · intro x hx
    rcases List.mem_append.1 hx with hx | hx
    · exact h.bk.okF x hx
    · simp only [List.mem_cons, List.not_mem_nil, or_false] at hx
      subst hx
      rw [hK.okF]; omega
  · rw [List.length_set, rdCells_set (r := ⟨rds[i].xb, rds[i].pb, gv', av', all'⟩) hi rfl rfl]
    refine owns_chg rowS c2 fun j hj => ?_
    refine old j (owns_lt h.rowR hj) (fun e => ?_) (fun e => rows_ne h.bk.rowB h.rowR (by decide) e hj) (fun e => rows_ne h.bk.rowF h.rowR (by decide) e hj)
    subst e; exact owns_ne h.rowR h.bk.blk (by decide) hj
  · intro x hx
    obtain ⟨j, hj, rfl⟩ := List.mem_iff_getElem.1 hx
    rcases hget j hj with ⟨_, e⟩ | ⟨hne, hj', e⟩
    · rw [e]; exact ⟨by rw [← hrd']; exact rE.1, rE.2, hall⟩
    · rw [e]
      obtain ⟨o1, o2⟩ := oth j hj' hne
      exact ⟨o1, o2, Nat.le_trans (h.rd _ (List.getElem_mem hj')).2.2 hN⟩
  · intro j k hj hk hne
    rcases hget j hj with ⟨ej, e⟩ | ⟨nj, hj', e⟩
    · rcases hget k hk with ⟨ek, f⟩ | ⟨nk, hk', f⟩
      · exact absurd (ej.trans ek.symm) hne
      · rw [e, f]
        obtain ⟨p1, p2, _⟩ := h.ap1 i k hi hk' (Ne.symm nk)
        obtain ⟨g1, g2⟩ := G1 k hk' nk
        exact ⟨p1, p2, g1, fun m hm => (g2 m hm).1⟩
    · rcases hget k hk with ⟨ek, f⟩ | ⟨nk, hk', f⟩
      · rw [e, f]
        obtain ⟨p1, p2, _⟩ := h.ap1 j i hj' hi nj
        obtain ⟨g1, g2⟩ := G1 j hj' nj
        exact ⟨p1, p2, fun m hm => ⟨fun q => (g1 m q).1 hm, fun q => (g2 m q).2 hm⟩, fun m hm q => (g2 m q).1 hm⟩
      · rw [e, f]
        exact h.ap1 j k hj' hk' hne
  · intro x hx
    obtain ⟨j, hj, rfl⟩ := List.mem_iff_getElem.1 hx
    rcases hget j hj with ⟨_, e⟩ | ⟨hne, hj', e⟩
    · rw [e]; exact G2
    · rw [e]; exact h.ap2 _ (List.getElem_mem hj')
  · intro x hx k hk y hy u hu f
    obtain ⟨j, hj, rfl⟩ := List.mem_iff_getElem.1 hx
    rcases List.mem_append.1 hy with hy | hy
    · obtain ⟨n, ys, ho⟩ := recb y hy u hu
      have hu1 := owns_lt ho f
      rcases hget j hj with ⟨_, e⟩ | ⟨hne, hj', e⟩
      · rw [e] at hk
        rcases hk with a | a
        · rcases hgv k a with c | c
          · exact h.ap3 _ hr k (Or.inl c) y hy u hu f
          · omega
        · rcases hav k a with c | c
          · exact h.ap3 _ hr k (Or.inr c) y hy u hu f
          · omega
      · rw [e] at hk
        exact h.ap3 _ (List.getElem_mem hj') k hk y hy u hu f
    · have hnb := newb y hy u hu k f
      rcases hget j hj with ⟨_, e⟩ | ⟨hne, hj', e⟩
      · rw [e] at hk
        rcases hk with a | a
        · have h1 := ghi k a
          rcases hnb with ⟨_, _, c⟩ | c
          · exact hap k c a
          · omega
        · have h1 := ahi k a
          rcases hnb with ⟨c1', c2', _⟩ | c
          · rcases hav k a with d | d
            · have := aold k d; omega
            · omega
          · omega
      · rw [e] at hk
        have h1 : k < w.heap.size := by
          rcases hk with a | a
          · exact rlt (List.getElem_mem hj') k (Or.inr (Or.inl a))
          · exact rlt (List.getElem_mem hj') k (Or.inr (Or.inr (Or.inr a)))
        rcases hnb with ⟨c1', _, _⟩ | c
        · omega
        · omega
  · intro x hx
    obtain ⟨j, hj, rfl⟩ := List.mem_iff_getElem.1 hx
    rcases hget j hj with ⟨_, e⟩ | ⟨hne, hj', e⟩
    · rw [e]
      obtain ⟨n1, n2, n3⟩ := h.new _ hr
      refine ⟨n1, n2, fun k hk => ?_⟩
      rcases hk with a | a
      · rcases hgv k a with c | c
        · exact n3 k (Or.inl c)
        · omega
      · rcases hav k a with c | c
        · exact n3 k (Or.inr c)
        · omega
    · rw [e]; exact h.new _ (List.getElem_mem hj')
  · intro j hj
    rcases hK.kvb j hj with a | a
    · exact h.kvV j a
    · omega
  · intro j hj
    rcases hK.fvb j hj with a | a
    · exact h.fvV j a
    · omega
  · have t1 : Chg (fun j => j = b) V0 wS := h.chV.trans (c1.mono (fun j _ e => Or.inl (by
      obtain ⟨n1, n2, n3⟩ := h.new _ hr
      rcases e with e | e | e | e
      · omega
      · exact n3 j (Or.inl e)
      · omega
      · exact n3 j (Or.inr e))))
    refine t1.trans (c2.mono (fun j _ e => ?_))
    rcases e with (e | e | e | e | e) | e
    · exact Or.inr e
    · exact Or.inl (h.kvV j e)
    · exact Or.inl (h.fvV j e)
    · have := vlo j e; exact Or.inl (by omega)
    · have := blo j e; exact Or.inl (by omega)
    · exact Or.inl (by omega)
  · obtain ⟨f1, f2, f3⟩ := h.few
    refine ⟨by simp; omega, ?_, by simp; omega⟩
    rw [List.length_append, hK.len]; omega
end
end Go.Proofs.YtdifgcppmnmagaaGreatDoor
/-
  A reader more.
-/
namespace Go.Proofs.YtdifgcppmnmagaaGreatDoor
open Go.RowKit

section
variable {W0 V0 w : World} {b N : Nat} {gF gH gC gS rv kv fv : Value} {rds : List RdR} {recs : List RecB} {frs : List FRec}

theorem RInv.below (h : RInv W0 V0 w b gF gH gC gS rv kv fv rds recs frs N) {w' : World} (hb : Below w.heap.size w w') : RInv W0 V0 w' b gF gH gC gS rv kv fv rds recs frs N := by
  have hc : Chg (fun _ => False) w w' := Chg.of_below hb
  exact ⟨h.bk.below hb, owns_chg h.rowR hc (fun _ _ => id), fun r hr => ⟨rdT_chg (h.rd r hr).1 hc id (fun _ _ => id), (h.rd r hr).2.1.chg hc id (fun _ _ => id), (h.rd r hr).2.2⟩, h.ap1, h.ap2, h.ap3, h.new, h.rvV, h.kvV, h.fvV, h.b0, h.belV, h.chV.then_below hb, h.few⟩
theorem RInv.mono (h : RInv W0 V0 w b gF gH gC gS rv kv fv rds recs frs N) {N' : Nat} (hN : N ≤ N') : RInv W0 V0 w b gF gH gC gS rv kv fv rds recs frs N' :=
  ⟨h.bk, h.rowR, fun r hr => ⟨(h.rd r hr).1, (h.rd r hr).2.1, Nat.le_trans (h.rd r hr).2.2 hN⟩, h.ap1, h.ap2, h.ap3, h.new, h.rvV, h.kvV, h.fvV, h.b0, h.belV, h.chV, Nat.le_trans h.few.1 hN, Nat.le_trans h.few.2.1 hN, Nat.le_trans h.few.2.2 hN⟩

set_option maxHeartbeats 1600000 in
theorem rinv_reader {wX w3 : World} {xb pb : Nat} {rv' : Value} (h : RInv W0 V0 w b gF gH gC gS rv kv fv rds recs frs N) (hX : Below w.heap.size w wX) (hx0 : w.heap.size ≤ xb) (hp0 : w.heap.size ≤ pb) (hxb : RdB wX xb (.slice none 0 0) 0 0 0 0 0) (hpb : wX.heap[pb]? = some (.cells #[.slice none 0 0, .int .i64 0, .int .i64 0] 96 (0, 0)))
    (hown : w3.ownsRow 0 98 2 rv' (rds.length + 1) (rdCells rds ++ [.pointer (some ⟨xb, 0, none⟩), .pointer (some ⟨pb, 0, none⟩)])) (hg : wX.grownBy w3 rv.ownBlock) (hfr : rv'.ownBlock = rv.ownBlock ∨ rv'.ownBlock = some wX.heap.size) :
    RInv W0 V0 (w3.setCell ⟨b, 4, none⟩ rv') b gF gH gC gS rv' kv fv (rds ++ [⟨xb, pb, .slice none 0 0, .slice none 0 0, []⟩]) recs frs (N + 1) := by
  have zV := h.chV.size
  have zX := hX.size
  have blt := lt_of_block h.bk.blk
  have rlo : ∀ j, rv.ownBlock = some j → j < w.heap.size := fun j e => owns_lt h.rowR e
  have rowX : wX.ownsRow 0 98 2 rv rds.length (rdCells rds) := owns_chg h.rowR (Chg.of_below (S := fun _ => False) hX) (fun _ _ => id)
  have bX : wX.heap[b]? = some (.cells (lw gF gH gC gS rv kv fv) 46 (0, 0)) := told_kept h.bk.blk hX
  have b3 := kept_block rowX hg bX (by decide)
  have c3 : Chg (fun j => rv.ownBlock = some j) wX w3 := Chg.of_grown hg (fun j e => e)
  have hset : Chg (fun j => j = b) w3 (w3.setCell ⟨b, 4, none⟩ rv') := (Chg.refl (fun j => j = b) w3).setCell (p := ⟨b, 4, none⟩) (Or.inr rfl) _
  have cX : Chg (fun j => rv.ownBlock = some j ∨ j = b) wX (w3.setCell ⟨b, 4, none⟩ rv') := (c3.mono (fun j _ e => Or.inl e)).trans (hset.mono (fun j _ e => Or.inr (Or.inr e)))
  have c : Chg (fun j => rv.ownBlock = some j ∨ j = b) w (w3.setCell ⟨b, 4, none⟩ rv') := (Chg.of_below hX).trans (cX.mono (fun j _ e => Or.inr e))
  have keep : ∀ {base e s n : Nat} {u : Value} {ys : List Value}, w.ownsRow base e s u n ys → e ≠ 46 → 98 ≠ e → ∀ j, u.ownBlock = some j → ¬ (rv.ownBlock = some j ∨ j = b) := by
    rintro base e s n u ys hu h1 h2 j hj (q | q)
    · exact rows_ne h.rowR hu h2 q hj
    · subst q; exact owns_ne hu h.bk.blk h1 hj
  have rsep : ∀ {r : RdR}, r ∈ rds → ∀ k, RB r k → ¬ (rv.ownBlock = some k ∨ k = b) := by
    rintro r hr k hk (q | q)
    · exact h.not_row hr h.rowR (by decide) (by decide) (by decide) k q hk
    · exact (h.books_apart hr k hk).1 q
  have hnil : ∀ k, (Value.slice none 0 0).ownBlock ≠ some k := fun k e => by simp [Value.ownBlock] at e
  have hnew : RdT (w3.setCell ⟨b, 4, none⟩ rv') xb (.slice none 0 0) (feed [] []).2 ∧ RfS (w3.setCell ⟨b, 4, none⟩ rv') pb (.slice none 0 0) [] := by
    have t1 : RdT wX xb (.slice none 0 0) (feed [] []).2 := Or.inl ⟨rfl, ⟨fun h6 => by simp [feed] at h6, World.ownsRow_nil _ _ _ _, 0, 0, 0, 0, hxb, fun h6 => by simp [feed] at h6⟩⟩
    have t2 : RfS wX pb (.slice none 0 0) [] := ⟨hpb, World.ownsRow_nil _ _ _ _⟩
    refine ⟨rdT_chg t1 cX ?_ (fun k e => absurd e (hnil k)), t2.chg cX ?_ (fun k e => absurd e (hnil k))⟩
    · rintro (q | q)
      · have := rlo _ q; omega
      · omega
    · rintro (q | q)
      · have := rlo _ q; omega
      · omega
  have hget : ∀ j (hj : j < (rds ++ [(⟨xb, pb, .slice none 0 0, .slice none 0 0, []⟩ : RdR)]).length), (j = rds.length ∧ (rds ++ [(⟨xb, pb, .slice none 0 0, .slice none 0 0, []⟩ : RdR)])[j] = ⟨xb, pb, .slice none 0 0, .slice none 0 0, []⟩) ∨ ∃ hj' : j < rds.length, (rds ++ [(⟨xb, pb, .slice none 0 0, .slice none 0 0, []⟩ : RdR)])[j] = rds[j] := by
    intro j hj
    by_cases e : j < rds.length
    · right; exact ⟨e, by rw [List.getElem_append_left e]⟩
    · left
      have e2 : j = rds.length := by simp at hj; omega
      subst e2
      exact ⟨rfl, by simp⟩
  have hxl : ∀ {r : RdR}, r ∈ rds → r.xb < w.heap.size ∧ r.pb < w.heap.size := fun hr => ⟨h.rb_lt hr (Or.inl rfl), h.rb_lt hr (Or.inr (Or.inr (Or.inl rfl)))⟩
  refine ⟨⟨?_, rfl, rfl, rfl, rfl, rfl, owns_chg h.bk.rowB c (keep h.bk.rowB (by decide) (by decide)), owns_chg h.bk.rowF c (keep h.bk.rowF (by decide) (by decide)), ?_, ?_, h.bk.okB, h.bk.okF⟩, ?_, ?_, ?_, ?_, ?_, ?_, ?_, h.kvV, h.fvV, h.b0, h.belV, ?_, ?_⟩
  · rw [block_setCell b3]; rfl
  · intro x hx
    have hf := h.bk.famB x hx
    exact ⟨owns_chg hf.l c (keep hf.l (by decide) (by decide)), owns_chg hf.a c (keep hf.a (by decide) (by decide)), owns_chg hf.b c (keep hf.b (by decide) (by decide)), owns_chg hf.c c (keep hf.c (by decide) (by decide))⟩
  · intro x hx
    have hf := h.bk.famF x hx
    exact ⟨owns_chg hf.l c (keep hf.l (by decide) (by decide)), owns_chg hf.a c (keep hf.a (by decide) (by decide)), owns_chg hf.b c (keep hf.b (by decide) (by decide)), owns_chg hf.c c (keep hf.c (by decide) (by decide))⟩
  · rw [List.length_append, rdCells_append]
    exact owns_chg hown hset (fun j hj e => by subst e; exact owns_ne hown b3 (by decide) hj)
  · intro r hr
    rcases List.mem_append.1 hr with hr | hr
    · obtain ⟨a1, a2, a3⟩ := h.rd r hr
      exact ⟨rdT_chg a1 c (rsep hr _ (Or.inl rfl)) (fun k e => rsep hr k (Or.inr (Or.inl e))), a2.chg c (rsep hr _ (Or.inr (Or.inr (Or.inl rfl)))) (fun k e => rsep hr k (Or.inr (Or.inr (Or.inr e)))), by omega⟩
    · simp only [List.mem_cons, List.not_mem_nil, or_false] at hr
      subst hr
      exact ⟨hnew.1, hnew.2, by simp⟩
  · intro i j hi hj hne
    rcases hget i hi with ⟨ei, e⟩ | ⟨hi', e⟩
    · rcases hget j hj with ⟨ej, f⟩ | ⟨hj', f⟩
      · omega
      · rw [e, f]
        obtain ⟨l1, l2⟩ := hxl (List.getElem_mem hj')
        exact ⟨by show xb ≠ _; omega, by show pb ≠ _; omega, fun k q => absurd q (hnil k), fun k q => absurd q (hnil k)⟩
    · rcases hget j hj with ⟨ej, f⟩ | ⟨hj', f⟩
      · rw [e, f]
        obtain ⟨l1, l2⟩ := hxl (List.getElem_mem hi')
        exact ⟨by show _ ≠ xb; omega, by show _ ≠ pb; omega, fun k _ => ⟨hnil k, hnil k⟩, fun k _ => hnil k⟩
      · rw [e, f]
        exact h.ap1 i j hi' hj' hne
  · intro r hr
    rcases List.mem_append.1 hr with hr | hr
    · exact h.ap2 r hr
    · simp only [List.mem_cons, List.not_mem_nil, or_false] at hr
      subst hr
      exact fun k q => absurd q (hnil k)
  · intro r hr
    rcases List.mem_append.1 hr with hr | hr
    · exact h.ap3 r hr
    · simp only [List.mem_cons, List.not_mem_nil, or_false] at hr
      subst hr
      rintro k (q | q)
      · exact absurd q (hnil k)
      · exact absurd q (hnil k)
  · intro r hr
    rcases List.mem_append.1 hr with hr | hr
    · exact h.new r hr
    · simp only [List.mem_cons, List.not_mem_nil, or_false] at hr
      subst hr
      refine ⟨by show _ ≤ xb; omega, by show _ ≤ pb; omega, ?_⟩
      rintro k (q | q)
      · exact absurd q (hnil k)
      · exact absurd q (hnil k)
  · intro j hj
    rcases hfr with e | e
    · rw [e] at hj; exact h.rvV j hj
    · rw [e] at hj; simp at hj; omega
  · refine h.chV.trans (c.mono (fun j _ e => ?_))
    rcases e with e | e
    · exact Or.inl (h.rvV j e)
    · exact Or.inr e
  · obtain ⟨f1, f2, f3⟩ := h.few
    exact ⟨by simp; omega, by omega, by omega⟩
end
end Go.Proofs.YtdifgcppmnmagaaGreatDoor
/-
  sluicelaw.sameFrames.
-/
namespace Go.Proofs.YtdifgcppmnmagaaGreatDoor
open Go.RowKit

set_option maxRecDepth 100000 in
set_option maxHeartbeats 6400000 in
theorem sameFrames_true (va vb : Value) (ps qs : List (Fr × Value)) (w : World) (ha : FrsR w va ps) (hb : FrsR w vb qs) (he : ps.map Prod.fst = qs.map Prod.fst) (hn : ps.length ≤ 4294967296) :
    Calls Tryz.prog 31 #[va, vb] w fun e w' => e = .returned (.bool true) ∧ Below w.heap.size w w' := by
  have hlen : ps.length = qs.length := by have := congrArg List.length he; simpa using this
  obtain ⟨sa, ca, rfl⟩ := ha.form
  obtain ⟨sb, cb, rfl⟩ := hb.form
  have HA := hide ha
  have HB := hide hb
  have HE := hide he
  rw [← hlen]
  have HLEN := hide hlen
  clear ha hb he hlen
  go_enter Tryz.func31, Tryz.ntmps31
  go_wp2
  go_loopw [5] (fun i wr => ∃ k : Nat, k ≤ ps.length ∧ i = .int .i64 k ∧ Below w.heap.size w wr) (fun i _ => ps.length - (intOf i).toNat)
  case atStart => exact ⟨0, Nat.zero_le _, rfl, Below.refl _ _⟩
  case round =>
    obtain ⟨k, hk, rfl, hbel⟩ := hrel
    by_cases hlt : k < ps.length
    · have hkq : k < qs.length := by have := HLEN.out; omega
      obtain ⟨g, off, cv, he, hg, a0, a1, a2, a3⟩ := (HA.out.below hbel).cell k hlt
      obtain ⟨g', off', cv', he', hg', b0, b1, b2, b3⟩ := (HB.out.below hbel).cell k hkq
      simp only [Value.slice.injEq] at he he'
      obtain ⟨rfl, -, rfl⟩ := he
      obtain ⟨rfl, -, rfl⟩ := he'
      have hfst : ps[k].1 = (qs[k]'hkq).1 := by
        have h1 : (ps.map Prod.fst)[k]? = (qs.map Prod.fst)[k]? := by rw [HE.out]
        simpa [hlt, hkq] using h1
      have hba := (HA.out.below hbel).body ps[k] (List.getElem_mem _)
      have hbb := (HB.out.below hbel).body (qs[k]'hkq) (List.getElem_mem _)
      rw [← hfst] at b0 b1 b2 hbb
      generalize ps[k].2 = pv at a3 hba
      generalize (qs[k]'hkq).2 = qv at b3 hbb
      generalize ps[k].1 = f at a0 a1 a2 b0 b1 b2 hba hbb
      obtain ⟨fk, ff, fs, fb⟩ := f
      simp only at a0 a1 a2 b0 b1 b2 hba hbb
      obtain ⟨s1, n1, c1, rfl⟩ : ∃ sa na ca, pv = .slice sa na ca := by rcases hba with ⟨rfl, _⟩ | ⟨_, _, _, rfl, _⟩ <;> exact ⟨_, _, _, rfl⟩
      obtain ⟨s2, n2, c2, rfl⟩ : ∃ sa na ca, qv = .slice sa na ca := by rcases hbb with ⟨rfl, _⟩ | ⟨_, _, _, rfl, _⟩ <;> exact ⟨_, _, _, rfl⟩
      have HBA : Hid (BytesIn wr.drew (.slice s1 n1 c1) fb) := hba.chg ((Chg.refl (fun _ => False) wr).drew) (fun _ _ => id)
      have HBB : Hid (BytesIn wr.drew (.slice s2 n2 c2) fb) := hbb.chg ((Chg.refl (fun _ => False) wr).drew) (fun _ _ => id)
      have HBEL := hide hbel
      clear hba hbb hfst
      go_upto_region 6 with fail
      go_cut [6] (fun s6 wx => s6 = .bool true ∧ wx = wr.drew)
      case first =>
        go_region_held3 (fun w' => w'.cell? ⟨g, off + k * 4 + 3, none⟩ = some (.slice s1 n1 c1) ∧ w'.cell? ⟨g', off' + k * 4 + 3, none⟩ = some (.slice s2 n2 c2)) (go_keep)
          (first | (go_at_call 24; refine (sameBytes_true (.slice s1 n1 c1) (.slice s2 n2 c2) fb _ HBA.out HBB.out).mono ?_; rintro e w' ⟨rfl, rfl⟩))
        all_goals (go_wp2_with fail)
        all_goals (go_meet; exact ⟨rfl, rfl⟩)
      case rest =>
        obtain ⟨rfl, hwx⟩ := hcut
        rw [hwx]
        clear hwx wc a3 b3 HBA HBB
        have hd0 : (fk != fk) = false := by simp
        have hd1 : (ff != ff) = false := by simp
        have hd2 : (fs != fs) = false := by simp
        go_upto_region 7 with fail
        go_cut [69] (fun s69 wx => s69 = .bool false ∧ wx = wr.drew.drew)
        case first =>
          go_region
          all_goals (go_wp2_with fail)
          all_goals (go_meet; exact ⟨rfl, rfl⟩)
        case rest =>
          obtain ⟨rfl, hwx⟩ := hcut
          rw [hwx]
          clear hwx wc
          go_wp2
          go_roundw
          case rel => exact ⟨k + 1, by omega, by go_num, ⟨HBEL.out.os, HBEL.out.tape, HBEL.out.output, HBEL.out.size, HBEL.out.block⟩⟩
          case measure => simp [intOf]; omega
    · go_wp2
      go_ret
      exact ⟨rfl, hbel⟩
end Go.Proofs.YtdifgcppmnmagaaGreatDoor
/-
  (*sluicelaw.Books).keepFrames.
-/
namespace Go.Proofs.YtdifgcppmnmagaaGreatDoor
open Go.RowKit

theorem frame_ones (m : Int) (k : Nat) : ∀ u ∈ fillF m k, u.oneCell' = true := by
  induction k with
  | zero => simp [fillF]
  | succ k ih =>
    intro u hu
    simp only [fillF, List.mem_cons] at hu
    rcases hu with rfl | rfl | rfl | rfl | hu
    · rfl
    · rfl
    · rfl
    · rfl
    · exact ih u hu

theorem chg_setCells {S : Nat → Prop} {a : World} {g : Nat} (hp : a.heap.size ≤ g ∨ S g) : ∀ (vs : List Value) (o : Nat) (w : World), Chg S a w → Chg S a (w.setCells g o vs)
  | [], _, _, h => h
  | v :: r, o, _, h => chg_setCells hp r (o + 1) _ (h.setCell (p := ⟨g, o, none⟩) hp v)

theorem fill_stored {w : World} {base g n cap k : Nat} {m : Int} {xs : List Value} (h : w.ownsRow base 56 4 (.slice (some ⟨g, 0, none⟩) n cap) n (fillK m k xs)) (hk : k * 4 + 4 ≤ xs.length) :
    (w.setCells g (k * 4) [.int .i64 m, .int .i64 m, .int .i64 m, .slice none 0 0]).ownsRow base 56 4 (.slice (some ⟨g, 0, none⟩) n cap) n (fillK m (k + 1) xs) := by
  rw [← fillK_succ hk]
  exact ((((h.stored _ _).1.stored _ _).1.stored _ _).1.stored _ _).1

theorem take_fill {F0 : List Value} {M : Int} {n a c : Nat} (h : F0.length = n * 4) : F0 ++ fillF M a = (F0 ++ fillF M (a + c)).take ((n + a) * 4) := by
  rw [fillF_add, ← List.append_assoc, List.take_left']
  rw [List.length_append, h, fillF_length, Nat.add_mul]

set_option maxRecDepth 100000 in
set_option maxHeartbeats 6400000 in
theorem keepFrames_any (b : Nat) (cs : Array Value) (kv fv v : Value) (ps : List (Fr × Value)) (recs : List RecB) (frs : List FRec) (base : Nat) (w : World) (hb : w.heap[b]? = some (.cells cs 46 (0, 0))) (hkv : cs[9]? = some kv) (hfv : cs[12]? = some fv)
    (hrow : w.ownsRow 0 65 5 kv recs.length (recCells recs)) (hrowF : w.ownsRow 0 75 5 fv frs.length (frCells frs)) (hF : FrsOwn w base v ps) (hn : recs.length + ps.length ≤ 67108864) (hnf : frs.length ≤ 67108864) (hx : ∀ p ∈ ps, p.1.body.length ≤ 4294967296) :
    Calls Tryz.prog 32 #[.pointer (some ⟨b, 9, none⟩), v] w fun e w' => e = .returned (.tuple #[]) ∧ ∃ kv' fv' rs r, KeptF w w' b cs kv fv v ps recs frs kv' fv' rs r := by
  obtain ⟨i0, hi, hz0, hz1, hz2⟩ := info_parts Tryz.info56
  obtain ⟨j0, ji, jz0, jz1, jz2⟩ := info_parts Tryz.info75
  obtain ⟨sv, cv, rfl⟩ := slice_len hF.row
  obtain ⟨sf, cf, rfl⟩ := slice_len hrowF
  have HF := hide hF
  have HB := hide hb
  have HR := hide hrow
  have HRF := hide hrowF
  have HX := hide hx
  have hblt := lt_of_block hb
  clear hF hb hrow hrowF hx
  go_enter Tryz.func32, Tryz.ntmps32
  go_wp2
  go_loopw [4] (fun i wr => ∃ (k : Nat) (kvk : Value) (rs : List RecB), k ≤ ps.length ∧ i = .int .i64 k ∧ KLoop w wr b cs kv ps recs k kvk rs) (fun i _ => ps.length - (intOf i).toNat)
  case atStart =>
    refine ⟨0, kv, [], Nat.zero_le _, rfl, ⟨?_, by simpa using HR.out, rfl, by simp, by simp, by simp, Chg.refl _ _, fun j hj => Or.inl hj⟩⟩
    have e : cs.setIfInBounds 9 kv = cs := set_same hkv
    rw [e]; exact HB.out
  case round =>
    obtain ⟨k, kvk, rs, hk, rfl, hK⟩ := hrel
    have hrl := hK.len
    by_cases hlt : k < ps.length
    · have hbo := hK.body HF.out HB.out HR.out hlt
      obtain ⟨sq, cq, hq⟩ := slice_len hbo
      have hvr := vrow_at hK HF.out HB.out HR.out
      obtain ⟨g, hg, hcv⟩ := slice_some hvr (by omega)
      subst hg
      have hcell : wr.cell? ⟨g, k * 4 + 3, none⟩ = some ps[k].2 := by
        rw [hvr.cellAt _ (by have := cellsOf_length ps; omega)]
        exact (cellsOf_get4 hlt)
      rw [hq] at hcell
      have hc9 : (cs.setIfInBounds 9 kvk)[9]? = some kvk := set_at hkv
      have hkb := fun (w' : World) => kloop_next (w' := w') hK HF.out HX.out hlt
      rw [hq] at hbo
      have hlen := HX.out ps[k] (List.getElem_mem _)
      rw [hq] at hkb
      have HKB := hide hkb
      have HBO := hide hbo
      have HK := hide hK
      generalize ps[k].1.body = bd at hcell HBO HKB hlen
      clear hkb hbo hK hvr hq
      go_wp2_with fail
      refine (keepBytes_any b (cs.setIfInBounds 9 kvk) kvk (.slice sq bd.length cq) (recs ++ rs) bd base _ HK.out.blk hc9 HK.out.rowB HBO.out (by simp; omega) hlen).mono ?_
      rintro e w1 ⟨rfl, hkept⟩
      obtain ⟨kv', r, hK'⟩ := HKB.out w1 hkept
      have HK' := hide hK'
      clear hkept hK'
      go_wp2
      go_roundw
      case rel => exact ⟨k + 1, kv', _, by omega, by go_num, HK'.out⟩
      case measure => simp [intOf]; omega
    · have hke : k = ps.length := by omega
      subst hke
      obtain ⟨wo, hwo⟩ : ∃ wo, wo = wr := ⟨wr, rfl⟩
      subst hwo
      have hc12 : (cs.setIfInBounds 9 kvk)[12]? = some (.slice sf frs.length cf) := set_other hfv (by decide)
      have g12 : wo.cell? ⟨b, 12, none⟩ = some (.slice sf frs.length cf) := by rw [cell_of_row wo b _ _ _ _ hK.blk]; exact hc12
      have HC12 := hide hc12
      have HVR := hide (vrow_at hK HF.out HB.out HR.out)
      have HFR := hide (frow_at hK HF.out HB.out HR.out HRF.out)
      have hwo := hK.chg.size
      have HK := hide hK
      clear hK hlt hk hc12 hrl
      go_wp2
      obtain ⟨M, hM⟩ : ∃ M : Int, M = -1000 - (frs.length : Int) := ⟨_, rfl⟩
      rw [← hM]
      obtain ⟨wA, hwA⟩ : ∃ wA, wA = wo.alloc (.cells #[.int .i64 M, .int .i64 M, .int .i64 M, .slice none 0 0] 56) := ⟨_, rfl⟩
      have hfA : wA.heap[wo.heap.size]? = some (.cells #[.int .i64 M, .int .i64 M, .int .i64 M, .slice none 0 0] 56 (0, 0)) := by rw [hwA]; exact heap_alloc_new wo _
      have hcA : Chg (fun _ => False) wo wA := by rw [hwA]; exact (Chg.refl _ _).alloc _
      rw [← hwA]
      have HFA := hide hfA
      have HCA := hide hcA
      have hsA := lt_of_block hfA
      have hMb : -1000 - 67108864 ≤ M ∧ M ≤ -1000 := by omega
      clear hwA hfA hcA hM
      go_loopw [7] (fun i wr => ∃ k : Nat, k ≤ ps.length ∧ i = .int .i64 k ∧ Chg (fun j => (Value.slice sv ps.length cv).ownBlock = some j) wA wr ∧ wr.ownsRow base 56 4 (.slice sv ps.length cv) ps.length (fillK M k (cellsOf ps))) (fun i _ => ps.length - (intOf i).toNat)
      case atStart => exact ⟨0, Nat.zero_le _, rfl, Chg.refl _ _, by simpa [fillK, fillF] using owns_chg HVR.out HCA.out (fun _ _ => id)⟩
      case round =>
        obtain ⟨k, hk, rfl, hch, hown⟩ := hrel
        have hvlt : ∀ j, (Value.slice sv ps.length cv).ownBlock = some j → j < w.heap.size := fun j hj => owns_lt HF.out.row hj
        have hfr : wr.heap[wo.heap.size]? = some (.cells #[.int .i64 M, .int .i64 M, .int .i64 M, .slice none 0 0] 56 (0, 0)) := by
          rw [hch.block _ hsA (fun e => by have := hvlt _ e; omega)]; exact HFA.out
        obtain ⟨m0, m1, m2, m3, -⟩ := frame_block hfr
        by_cases hlt : k < ps.length
        · obtain ⟨g, hg, hcv⟩ := slice_some hown (by omega)
          subst hg
          have hfl := fillK_length (m := M) (cellsOf_length ps) hk
          have HTH : Hid (wr.there g (k * 4) 4) := fun i hi => ⟨by rw [hown.cellAt (k * 4 + i) (by omega), List.getElem?_eq_getElem (by omega)]; rfl, owns_free hown (k * 4 + i)⟩
          have HSZ : Hid ((Tryz.prog.info? 56).map (·.size) = some 4) := by show _ = _; rw [hi]; simp [hz1]
          have HS := hide (fill_stored hown (by have := cellsOf_length ps; omega))
          have HCH := hide (chg_setCells (S := fun j => (Value.slice (some ⟨g, 0, none⟩) ps.length cv).ownBlock = some j) (g := g) (Or.inr rfl) [.int .i64 M, .int .i64 M, .int .i64 M, .slice none 0 0] (k * 4) wr hch)
          clear hown hch hfl hfr hvlt
          have HON : Hid ((#[.int .i64 M, .int .i64 M, .int .i64 M, .slice none 0 0] : Array Value).all (·.oneCell') = true) := all_oneCell_toArray (frame_ones M 1)
          go_wp2_with (refine wpList_store_mid rfl 56 (.tmp 41) (.tmp 40) rfl g (k * 4) #[.int .i64 M, .int .i64 M, .int .i64 M, .slice none 0 0] rfl rfl HTH.out HSZ.out HON.out ?_)
          go_roundw
          case rel => exact ⟨k + 1, by omega, by go_num, HCH.out, HS.out⟩
          case measure => simp [intOf]; omega
        · have hke : k = ps.length := by omega
          subst hke
          rw [fillK_all (cellsOf_length ps)] at hown
          obtain ⟨F0, hF0⟩ : ∃ F, F = fillF M ps.length := ⟨_, rfl⟩
          have hown0 := owns_base hown (base' := 0) (fun _ _ => Nat.zero_le _)
          rw [← hF0] at hown0
          have HF0 := hide hF0
          have HCH := hide hch
          have HVL := hide hvlt
          have hsz0 := hch.size
          have hswr : wo.heap.size < wr.heap.size := by omega
          obtain ⟨N1, hN1⟩ : ∃ N, N = fillF M 1 := ⟨_, rfl⟩
          obtain ⟨N2, hN2⟩ : ∃ N, N = fillF M 2 := ⟨_, rfl⟩
          obtain ⟨N3, hN3⟩ : ∃ N, N = fillF M 3 := ⟨_, rfl⟩
          have HN1 := hide hN1
          have HN2 := hide hN2
          have HN3 := hide hN3
          have HO1 : Hid (∀ u ∈ N1, u.oneCell' = true) := by rw [hN1]; exact frame_ones M 1
          have HO2 : Hid (∀ u ∈ N2, u.oneCell' = true) := by rw [hN2]; exact frame_ones M 2
          have HO3 : Hid (∀ u ∈ N3, u.oneCell' = true) := by rw [hN3]; exact frame_ones M 3
          have HL1 : Hid (N1.length = 1 * 4) := by rw [hN1]; rfl
          have HL2 : Hid (N2.length = 2 * 4) := by rw [hN2]; rfl
          have HL3 : Hid (N3.length = 3 * 4) := by rw [hN3]; rfl
          have HE1 : Hid (∀ (W : World), ∀ j u, N1[j]? = some u → (W.alloc (.cells #[.int .i64 M, .int .i64 M, .int .i64 M, .slice none 0 0] 56)).cell? ((⟨W.heap.size, 0, none⟩ : Addr).add j) = some u) := by
            intro W; rw [hN1]; exact fun j u hu => lies_row (xs := fillF M 1) j u hu
          have HE2 : Hid (∀ (W : World), ∀ j u, N2[j]? = some u → (W.alloc (.cells #[.int .i64 M, .int .i64 M, .int .i64 M, .slice none 0 0, .int .i64 M, .int .i64 M, .int .i64 M, .slice none 0 0] 56)).cell? ((⟨W.heap.size, 0, none⟩ : Addr).add j) = some u) := by
            intro W; rw [hN2]; exact fun j u hu => lies_row (xs := fillF M 2) j u hu
          have HE3 : Hid (∀ (W : World), ∀ j u, N3[j]? = some u → (W.alloc (.cells #[.int .i64 M, .int .i64 M, .int .i64 M, .slice none 0 0, .int .i64 M, .int .i64 M, .int .i64 M, .slice none 0 0, .int .i64 M, .int .i64 M, .int .i64 M, .slice none 0 0] 56)).cell? ((⟨W.heap.size, 0, none⟩ : Addr).add j) = some u) := by
            intro W; rw [hN3]; exact fun j u hu => lies_row (xs := fillF M 3) j u hu
          clear hown hF0 hch hvlt hfr hN1 hN2 hN3 hk g12
          go_wp2_with (at_builtin; refine wpList_app_full _ rfl (.tmp 45) (.tmp 47) 22 rfl 56 i0 (.agg #[.int .i64 0, .int .i64 0, .int .i64 0, .slice none 0 0]) 4 48 Tryz.underlying22 hi hz0 hz1 hz2 rfl (by decide) _ _ _ rfl ((hown0.alloc _).alloc _) ⟨wr.heap.size + 1, 0, none⟩ 1 1 N1 rfl (by decide) HL1.out ?c0 HO1.out ?c2 ?c3 ?_)
          case c0 =>
            have := HE1.out (wr.alloc (.cells #[.slice sv ps.length cv, .slice none 0 0, .slice none 0 0, .slice none 0 0, .int .i64 M] 75))
            simpa using this
          case c2 => unfold maxLen; omega
          case c3 => omega
          intro va w1 hown1 hg1 happ1
          obtain ⟨hx2, hch2, hl2, ha2, -, hba⟩ := keepF_step (heap_alloc_new wr _) hsz0 (HCH.out.alloc _) (fun j hj => Or.inr hj) (hown0.alloc _) hown1 hg1 happ1 1
          have hra : ∀ g cap, Value.slice sv ps.length cv = .slice (some ⟨g, 0, none⟩) ps.length cap → ps.length + 1 ≤ cap → va = .slice (some ⟨g, 0, none⟩) (ps.length + 1) cap := fun g cap e h => happ1.room e h
          obtain ⟨sa, ca, rfl⟩ := slice_len hown1
          have hxw1 : w1.heap[wr.heap.size]? = some (.cells #[.slice sv ps.length cv, .slice none 0 0, .slice none 0 0, .slice none 0 0, .int .i64 M] 75 (0, 0)) := kept_block ((hown0.alloc _).alloc _) hg1 (alloc_block (heap_alloc_new wr _) _) (by decide)
          obtain ⟨y0, y1, y2, y3, y4, yf⟩ := lists_block hxw1
          have yf1 := yf 1
          obtain ⟨w2, hw2⟩ : ∃ w2, w1.setCell ⟨wr.heap.size, 1, none⟩ (.slice sa (ps.length + 1) ca) = w2 := ⟨_, rfl⟩
          rw [hw2] at hx2 hch2 hl2 ha2
          have hf2 : w2.heap[wo.heap.size]? = some (.cells #[.int .i64 M, .int .i64 M, .int .i64 M, .slice none 0 0] 56 (0, 0)) := by
            rw [hch2.block _ hsA (fun e => by have := HVL.out _ e; omega)]; exact HFA.out
          obtain ⟨n0, n1, n2, n3, -⟩ := frame_block hf2
          have HX2 := hide hx2
          have HC2 := hide hch2
          have HA2 := hide ha2
          have HRA := hide hra
          have HBA := hide hba
          clear hx2 hch2 ha2 hra hba hown1 hg1 happ1 hown0 hxw1 yf hf2 m0 m1 m2 m3
          go_wp2_with (at_builtin; refine wpList_app_full _ rfl (.tmp 50) (.tmp 53) 22 rfl 56 i0 (.agg #[.int .i64 0, .int .i64 0, .int .i64 0, .slice none 0 0]) 4 48 Tryz.underlying22 hi hz0 hz1 hz2 rfl (by decide) _ _ _ rfl (hl2.alloc _) ⟨w2.heap.size, 0, none⟩ 2 2 N2 rfl (by decide) HL2.out (HE2.out w2) HO2.out ?d2 ?d3 ?_)
          case d2 => unfold maxLen; omega
          case d3 => omega
          intro vb w3 hown3 hg3 happ3
          have hF0l : F0.length = ps.length * 4 := hl2.1
          obtain ⟨hx4, hch4, hl4, hb4, hk4, hbb⟩ := keepF_step HX2.out hsz0 HC2.out (fun j hj => Or.inr hj) hl2 hown3 hg3 happ3 2
          have ha4 := hk4 _ _ _ HA2.out (fun g cap e h => ⟨HRA.out g cap e (by omega), by omega, by rw [HN1.out, HN2.out]; exact take_fill (a := 1) (c := 1) hF0l⟩)
          have hrb : ∀ g cap, Value.slice sv ps.length cv = .slice (some ⟨g, 0, none⟩) ps.length cap → ps.length + 2 ≤ cap → vb = .slice (some ⟨g, 0, none⟩) (ps.length + 2) cap := fun g cap e h => happ3.room e h
          obtain ⟨sb, cb, rfl⟩ := slice_len hown3
          have hxw3 := kept_block (hl2.alloc _) hg3 (alloc_block HX2.out _) (by decide)
          obtain ⟨z0, z1, z2, z3, z4, zf⟩ := lists_block hxw3
          have zf2 := zf 2
          obtain ⟨w4, hw4⟩ : ∃ w4, w3.setCell ⟨wr.heap.size, 2, none⟩ (.slice sb (ps.length + 2) cb) = w4 := ⟨_, rfl⟩
          rw [hw4] at hx4 hch4 hl4 hb4 ha4
          have hf4 : w4.heap[wo.heap.size]? = some (.cells #[.int .i64 M, .int .i64 M, .int .i64 M, .slice none 0 0] 56 (0, 0)) := by
            rw [hch4.block _ hsA (fun e => by have := HVL.out _ e; omega)]; exact HFA.out
          obtain ⟨o0, o1, o2, o3, -⟩ := frame_block hf4
          have HX4 := hide hx4
          have HC4 := hide hch4
          have HA4 := hide ha4
          have HB4 := hide hb4
          have HRB := hide hrb
          have HBB := hide hbb
          have HF0L := hide hF0l
          clear hx4 hch4 ha4 hb4 hrb hbb hown3 hg3 happ3 hl2 hxw3 zf hk4 hf4 hF0l HX2 HC2 HA2 hw2 y0 y1 y2 y3 y4 yf1 n0 n1 n2 n3
          go_wp2_with (at_builtin; refine wpList_app_full _ rfl (.tmp 56) (.tmp 60) 22 rfl 56 i0 (.agg #[.int .i64 0, .int .i64 0, .int .i64 0, .slice none 0 0]) 4 48 Tryz.underlying22 hi hz0 hz1 hz2 rfl (by decide) _ _ _ rfl (hl4.alloc _) ⟨w4.heap.size, 0, none⟩ 3 3 N3 rfl (by decide) HL3.out (HE3.out w4) HO3.out ?e2 ?e3 ?_)
          case e2 => unfold maxLen; omega
          case e3 => omega
          intro vc w5 hown5 hg5 happ5
          obtain ⟨hx6, hch6, hl6, hc6, hk6, hbc⟩ := keepF_step HX4.out hsz0 HC4.out (fun j hj => Or.inr hj) hl4 hown5 hg5 happ5 3
          have ha6 := hk6 _ _ _ HA4.out (fun g cap e h => ⟨HRA.out g cap e (by omega), by omega, by rw [HN1.out, HN3.out]; exact take_fill (a := 1) (c := 2) HF0L.out⟩)
          have hb6 := hk6 _ _ _ HB4.out (fun g cap e h => ⟨HRB.out g cap e (by omega), by omega, by rw [HN2.out, HN3.out]; exact take_fill (a := 2) (c := 1) HF0L.out⟩)
          obtain ⟨sc, cc, rfl⟩ := slice_len hown5
          have hxw5 := kept_block (hl4.alloc _) hg5 (alloc_block HX4.out _) (by decide)
          obtain ⟨p0, p1, p2, p3, p4, pf⟩ := lists_block hxw5
          have pf3 := pf 3
          obtain ⟨w6, hw6⟩ : ∃ w6, w5.setCell ⟨wr.heap.size, 3, none⟩ (.slice sc (ps.length + 3) cc) = w6 := ⟨_, rfl⟩
          rw [hw6] at hx6 hch6 hl6 hc6 ha6 hb6
          have hch6o : Chg (fun j => (Value.slice sv ps.length cv).ownBlock = some j) wo w6 := (HCA.out.mono (fun _ _ => False.elim)).trans (hch6.mono (fun j _ hj => Or.inr hj))
          have HX6 := hide hx6
          have HC6 := hide hch6o
          have HA6 := hide ha6
          have HB6 := hide hb6
          have HC6' := hide hc6
          have HL6 := hide hl6
          have HBC := hide hbc
          obtain ⟨q0, q1, q2, q3, q4, qf⟩ := lists_block hx6
          have hb6w : w6.heap[b]? = some (.cells (cs.setIfInBounds 9 kvk) 46 (0, 0)) := by
            rw [hch6o.block b (lt_of_block HK.out.blk) (owns_ne HVR.out HK.out.blk (by decide))]; exact HK.out.blk
          have hrow6 := owns_chg HFR.out hch6o (fun j hj e => rows_ne HFR.out HVR.out (by decide) hj e)
          have hc12 : w6.cell? ⟨b, 12, none⟩ = some (.slice sf frs.length cf) := by rw [cell_of_row w6 b _ _ _ _ hb6w]; exact HC12.out
          have hf12 : w6.frozen? ⟨b, 12, none⟩ = false := by simp [World.frozen?, hb6w]
          have HB6w := hide hb6w
          clear hx6 hch6 hch6o ha6 hb6 hc6 hl6 hbc hown5 hg5 happ5 hl4 hxw5 pf hk6 HX4 HC4 HA4 HB4 hw4 z0 z1 z2 z3 z4 zf2 qf hb6w o0 o1 o2 o3
          have hbx : b ≠ wr.heap.size := by omega
          have HONE : Hid (∀ u ∈ [Value.slice sv ps.length cv, .slice sa (ps.length + 1) ca, .slice sb (ps.length + 2) cb, .slice sc (ps.length + 3) cc, .int .i64 M], u.oneCell' = true) := by
            intro u hu
            simp at hu
            rcases hu with rfl | rfl | rfl | rfl | rfl <;> rfl
          have HNA : Hid (frs.length + 1 ≤ maxLen) := by show _ ≤ _; unfold maxLen; omega
          have HNB : Hid ((frs.length + 1) * 104 ≤ 140737488355328) := by show _ ≤ _; omega
          obtain ⟨X, hX⟩ : ∃ X, X = [Value.slice sv ps.length cv, .slice sa (ps.length + 1) ca, .slice sb (ps.length + 2) cb, .slice sc (ps.length + 3) cc, .int .i64 M] := ⟨_, rfl⟩
          have HOWN : Hid ((w6.alloc (.cells #[.slice sv ps.length cv, .slice sa (ps.length + 1) ca, .slice sb (ps.length + 2) cb, .slice sc (ps.length + 3) cc, .int .i64 M] 75)).drew.ownsRow 0 75 5 (.slice sf frs.length cf) frs.length (frCells frs)) := hrow6.alloc _
          have HCEL : Hid (∀ j u, X[j]? = some u → (w6.alloc (.cells #[.slice sv ps.length cv, .slice sa (ps.length + 1) ca, .slice sb (ps.length + 2) cb, .slice sc (ps.length + 3) cc, .int .i64 M] 75)).drew.cell? ((⟨w6.heap.size, 0, none⟩ : Addr).add j) = some u) := by
            subst hX
            exact fun j u hu => lies_row j u hu
          have HBA6 : Hid ((w6.alloc (.cells #[.slice sv ps.length cv, .slice sa (ps.length + 1) ca, .slice sb (ps.length + 2) cb, .slice sc (ps.length + 3) cc, .int .i64 M] 75)).drew.heap[b]? = some (.cells (cs.setIfInBounds 9 kvk) 46 (0, 0))) := alloc_block HB6w.out _
          rw [← hX] at HONE
          have HXL : Hid (X.length = 1 * 5) := by rw [hX]; rfl
          have HXX := hide hX
          clear hX
          have c12a : (w6.alloc (.cells #[.slice sv ps.length cv, .slice sa (ps.length + 1) ca, .slice sb (ps.length + 2) cb, .slice sc (ps.length + 3) cc, .int .i64 M] 75)).cell? ⟨b, 12, none⟩ = some (.slice sf frs.length cf) := by
            rw [cell_of_row _ b _ _ _ _ (alloc_block HB6w.out _)]; exact HC12.out
          go_wp2
          go_region_law (refine step_app_full rfl (.tmp 67) (.tmp 69) 41 rfl 75 j0 (.agg #[.slice none 0 0, .slice none 0 0, .slice none 0 0, .slice none 0 0, .int .i64 0]) 5 104 Tryz.underlying41 ji jz0 jz1 jz2 rfl (by decide) (.slice sf frs.length cf) frs.length (frCells frs) (by simp [Act.eval]) HOWN.out ⟨w6.heap.size, 0, none⟩ 1 1 X (by simp [Act.eval]) (by decide) HXL.out HCEL.out HONE.out HNA.out HNB.out ?_; intro fv' w7 hown7 hg7 happ7; obtain ⟨sk', ck', hfv'⟩ := slice_len hown7; subst hfv'; have hb7 := kept_block HOWN.out hg7 HBA6.out (by decide); have c7 : w7.cell? ⟨b, 12, none⟩ = some (.slice sf frs.length cf) := (by rw [cell_of_row w7 b _ _ _ _ hb7]; exact HC12.out); have f7 : w7.frozen? ⟨b, 12, none⟩ = false := (by simp [World.frozen?, hb7]))
          all_goals go_wp2
          all_goals refine bodyPost_end (results_none rfl _ _ _) rfl ⟨rfl, ?_⟩
          all_goals
            have hfam : FamF w6 ⟨.slice sv ps.length cv, .slice sa (ps.length + 1) ca, .slice sb (ps.length + 2) cb, .slice sc (ps.length + 3) cc, M, ps.length⟩ := by
              refine ⟨?_, ?_, ?_, ?_⟩
              · have h := HL6.out; rw [HF0.out] at h; exact h
              · have h := HA6.out; rw [HF0.out, HN1.out, ← fillF_add] at h; exact h
              · have h := HB6.out; rw [HF0.out, HN2.out, ← fillF_add] at h; exact h
              · have h := HC6'.out; rw [HF0.out, HN3.out, ← fillF_add] at h; exact h
            obtain ⟨r, hr⟩ := keptF_end HK.out HF.out HB.out HR.out HRF.out HC6.out hfam (fun j hj => (HBA.out j hj).imp_right (fun h => by omega)) (fun j hj => (HBB.out j hj).imp_right (fun h => by omega)) (fun j hj => (HBC.out j hj).imp_right (fun h => by omega)) HXX.out hown7 hg7 happ7 hb7
            exact ⟨_, _, _, r, hr⟩
end Go.Proofs.YtdifgcppmnmagaaGreatDoor
/-
  (*sluicelaw.World).frames, at KWrite.
-/
namespace Go.Proofs.YtdifgcppmnmagaaGreatDoor
open Go.RowKit

theorem KeptB.chg {w w' : World} {b len : Nat} {cs : Array Value} {kv v : Value} {recs : List RecB} (h : KeptB w w' b cs kv v recs len) : Chg (fun j => j = b ∨ kv.ownBlock = some j ∨ v.ownBlock = some j) w w' := by
  obtain ⟨_, _, _, _, _, _, _, _, _, h, _⟩ := h
  exact h
theorem kept_other {w w' : World} {b len : Nat} {cs : Array Value} {kv v : Value} {recs : List RecB} (h : KeptB w w' b cs kv v recs len) {w0 base j : Nat} (hj : j < w.heap.size) (h0 : w0 ≤ j) (hb : b < w0) (hk : ∀ i, kv.ownBlock = some i → i < w0) (hv : ∀ i, v.ownBlock = some i → base ≤ i) (hjb : j < base) : w'.heap[j]? = w.heap[j]? := by
  refine h.chg.block j hj ?_
  rintro (e | e | e)
  · omega
  · have := hk j e; omega
  · have := hv j e; omega
theorem lpick_at (c : Int) (n j : Nat) (w : World) (hn : 0 < n) (hc : I64 c) (hj : pkI c n = (j : Int)) :
    Calls Tryz.prog 20 #[.int .i64 c, .int .i64 n] w fun e w' => e = .returned (.int .i64 j) ∧ w' = w := by
  rw [← hj]; exact lpick_fun c n w (by omega) hc
theorem pk_nat (c : Int) {n : Nat} (hn : 0 < n) : ∃ j : Nat, pkI c n = (j : Int) ∧ j < n := by
  obtain ⟨h0, h1⟩ := pkI_bounds c (n := (n : Int)) (by omega)
  exact ⟨(pkI c n).toNat, by omega, by omega⟩

set_option maxRecDepth 100000 in
set_option maxHeartbeats 6400000 in
theorem frames_none (b : Nat) (gH gC gS rv kv fv : Value) (sf : Option Addr) (cf : Nat) (A B' C : Int) (S : ByteArray) (w : World) (hb : w.heap[b]? = some (.cells (lw (.slice sf 0 cf) gH gC gS rv kv fv) 46 (0, 0))) :
    Calls Tryz.prog 10 #[.pointer (some ⟨b, 0, none⟩), .agg #[.int .i64 1, .int .i64 A, .int .i64 B', .int .i64 C, .string S]] w fun e w' => e = .returned (.bool true) ∧ Below w.heap.size w w' := by
  have hlt := lt_of_block hb
  have g0 : w.cell? ⟨b, 0, none⟩ = some (.slice sf 0 cf) := by rw [cell_of_row w b _ _ _ _ hb]; rfl
  clear hb
  go_enter Tryz.func10, Tryz.ntmps10
  go_wp2
  go_ret
  exact ⟨rfl, (Below.refl _ _).alloc (Nat.le_refl _) _⟩

set_option maxRecDepth 100000 in
set_option maxHeartbeats 6400000 in
theorem frames_write (W0 V0 : World) (b : Nat) (gH gC gS kv : Value) (sf : Option Addr) (cf : Nat) (qs : List (Fr × Value)) (A B' C : Int) (S : ByteArray) (recs : List RecB) (w : World) (hA : I64 A) (hq0 : 0 < qs.length)
    (hf : FsIn W0 sf qs) (_hql : qs.length ≤ 4194304) (hI : WInv W0 V0 w b (.slice sf qs.length cf) gH gC gS kv recs) (hn : recs.length ≤ 67108864) :
    Calls Tryz.prog 10 #[.pointer (some ⟨b, 0, none⟩), .agg #[.int .i64 1, .int .i64 A, .int .i64 B', .int .i64 C, .string S]] w fun e w' => e = .returned (.bool true) ∧ ∃ kv' r, WInv W0 V0 w' b (.slice sf qs.length cf) gH gC gS kv' (recs ++ [r]) := by
  have hlt := lt_of_block hI.bk.blk
  have g0 : w.cell? ⟨b, 0, none⟩ = some (.slice sf qs.length cf) := by rw [cell_of_row w b _ _ _ _ hI.bk.blk]; rfl
  obtain ⟨j, hj, hjl⟩ := pk_nat A hq0
  obtain ⟨fb, off, hsf, hfb, a0, a1, a2, a3⟩ := (hf.below hI.bel).cell j hjl
  subst hsf
  obtain ⟨q, hq⟩ : ∃ q, q = qs[j] := ⟨_, rfl⟩
  have hqm : q ∈ qs := by rw [hq]; exact List.getElem_mem _
  rw [← hq] at a0 a1 a2 a3
  have hqb := hf.body q hqm
  have hqn := hf.len q hqm
  obtain ⟨⟨qk, qf, qst, qb⟩, qv⟩ := q
  simp only at a0 a1 a2 a3 hqb hqn
  obtain ⟨sq, cq, rfl⟩ := bytesA_len hqb
  have HQ := hide hqb
  have HI := hide hI
  have HF := hide hf
  have HJ := hide hj
  have HA := hide hA
  clear hqb hI hf hq hqm hj hA
  go_enter Tryz.func10, Tryz.ntmps10
  go_upto_region 2 with fail
  go_cut [5] (fun s5 wx => s5 = .pointer (some ⟨w.heap.size + 1, 0, none⟩) ∧ wx = ((w.alloc (.cells #[.int .i64 1, .int .i64 A, .int .i64 B', .int .i64 C, .string S] 49)).alloc (.cells #[.int .i64 qk, .int .i64 qf, .int .i64 qst, .slice sq qb.length cq] 56)).drew)
  case first =>
    go_region_held3 (fun w' => w'.cell? ⟨b, 0, none⟩ = some (.slice (some ⟨fb, off, none⟩) qs.length cf) ∧ w'.cell? ⟨w.heap.size, 1, none⟩ = some (.int .i64 A) ∧ w'.cell? ⟨fb, off + j * 4, none⟩ = some (.int .i64 qk) ∧ w'.cell? ⟨fb, off + j * 4 + 1, none⟩ = some (.int .i64 qf) ∧
        w'.cell? ⟨fb, off + j * 4 + 2, none⟩ = some (.int .i64 qst) ∧ w'.cell? ⟨fb, off + j * 4 + 3, none⟩ = some (.slice sq qb.length cq)) (go_keep)
      (first | (go_at_call 20; refine (lpick_at A qs.length j _ hq0 HA.out HJ.out).mono ?_; rintro e w' ⟨rfl, rfl⟩))
    all_goals (go_wp2_with fail; go_meet; exact ⟨rfl, rfl⟩)
  case rest =>
    obtain ⟨rfl, hwc⟩ := hcut
    obtain ⟨wa, hwa⟩ : ∃ wa, wa = wc := ⟨wc, rfl⟩
    subst hwa
    have hbc : Below w.heap.size w wa := by
      rw [hwc]
      have h := ((Below.refl w.heap.size w).alloc (Nat.le_refl _) (.cells #[.int .i64 1, .int .i64 A, .int .i64 B', .int .i64 C, .string S] 49)).alloc (by simp) (.cells #[.int .i64 qk, .int .i64 qf, .int .i64 qst, .slice sq qb.length cq] 56)
      exact ⟨h.os, h.tape, h.output, h.size, h.block⟩
    have hfc : wa.heap[w.heap.size + 1]? = some (.cells #[.int .i64 qk, .int .i64 qf, .int .i64 qst, .slice sq qb.length cq] 56 (0, 0)) := by
      have h := heap_alloc_new (w.alloc (.cells #[.int .i64 1, .int .i64 A, .int .i64 B', .int .i64 C, .string S] 49)) (.cells #[.int .i64 qk, .int .i64 qf, .int .i64 qst, .slice sq qb.length cq] 56)
      have e : (w.alloc (.cells #[.int .i64 1, .int .i64 A, .int .i64 B', .int .i64 C, .string S] 49)).heap.size = w.heap.size + 1 := by simp
      rw [e] at h
      rw [hwc]
      exact h
    have hszc := lt_of_block hfc
    obtain ⟨f0, f1, f2, f3, -⟩ := frame_block hfc
    have HBW := hide (HI.out.bel.trans (hbc.mono HI.out.bel.size))
    have hcv := conv_bytesA (HQ.out.chg (Chg.of_below HBW.out))
    have HFC := hide hfc
    have HBC := hide hbc
    clear hwc hfc hbc a0 a1 a2 a3 g0
    go_wp2_with fail
    refine (lent_any qb wa (by omega)).mono ?_
    rintro e w1 ⟨rfl, hlent, hb1⟩
    have hfc1 := told_kept HFC.out hb1
    have HL1 := hide hlent
    have HFC1 := hide hfc1
    have hsz1 := lt_of_block hfc1
    have hsl1 := lt_of_block hlent
    have HB1 := hide hb1
    obtain ⟨g0, g1, g2, g3, -⟩ := frame_block hfc1
    clear hcv f0 f1 f2 f3 hlent hfc1 hb1
    have hnil : ∀ w' : World, (binOp .eql 54 (.slice sq qb.length cq) (.slice none 0 0)).run Tryz.prog w' = .ok (.bool sq.isNone) w' := fun w' => Lib.run_eql_slice_nil w' 54 5 sq _ _ _ _ Tryz.underlying54
    go_upto_if 61 with fail
    go_cut [] (fun wx => ∃ sv cv, wx.heap[w1.heap.size]? = some (.cells #[.int .i64 qk, .int .i64 qf, .int .i64 qst, .slice sv qb.length cv] 56 (0, 0)) ∧ BytesIn wx (.slice sv qb.length cv) qb ∧ Below w1.heap.size w1 wx)
    case first =>
      rcases sq with - | ad
      · obtain ⟨hq0', hc0⟩ : qb = [] ∧ cq = 0 := by
          rcases HQ.out with (⟨h1, h2⟩ | ⟨_, _, _, h1, _⟩) | ⟨_, h1, _⟩
          · simp only [Value.slice.injEq] at h1
            exact ⟨h2, h1.2.2⟩
          · simp at h1
          · simp at h1
        subst hq0' hc0
        go_wp2_with fail
        go_meet
        exact ⟨none, 0, heap_at rfl, Or.inl ⟨rfl, rfl⟩, (Below.refl _ _).alloc (Nat.le_refl _) _⟩
      · go_wp2_with fail
        go_meet
        exact ⟨some ⟨wa.heap.size, 0, none⟩, qb.length + 4, heap_at rfl, lent_bytes (told_kept HL1.out ((Below.refl _ _).alloc (Nat.le_refl _) _)) (by omega), (Below.refl _ _).alloc (Nat.le_refl _) _⟩
    case rest =>
      obtain ⟨sv, cv, hin, hsv, hbx⟩ := hcut
      obtain ⟨w3, hw3⟩ : ∃ w3, w3 = wc := ⟨wc, rfl⟩
      subst hw3
      have hfc3 := told_kept HFC1.out hbx
      have hl3 := told_kept HL1.out hbx
      have hB3 : Below w.heap.size w w3 := HBC.out.trans ((HB1.out.trans (hbx.mono HB1.out.size)).mono HBC.out.size)
      have hs3 := lt_of_block hfc3
      have hs4 := lt_of_block hl3
      have HL3 := hide hl3
      have HFC3 := hide hfc3
      have HB3 := hide hB3
      have HSV := hide hsv
      obtain ⟨i0, i1, i2, i3, -⟩ := frame_block hin
      clear hin hsv hbx hfc3 hl3 hB3 g0 g1 g2 g3 HL1 HFC1 HB1 HFC
      obtain ⟨cc, hcc⟩ : ∃ cc : Int, cc = if wOk qk qf qst qb then 0 else 1 := ⟨_, rfl⟩
      obtain ⟨ll, hll⟩ : ∃ ll : List UInt8, ll = if wOk qk qf qst qb then lay qk qf qst qb else [] := ⟨_, rfl⟩
      have HCC := hide hcc
      have HLL := hide hll
      clear hcc hll
      go_wp2_with fail
      refine (write_any qk qf qst sv qb cv _ HSV.out).mono ?_
      rintro e w4 ⟨lv, he, hlv, hlnil, hb4⟩
      rw [← HCC.out] at he
      rw [← HLL.out] at hlv
      subst he
      have hfc4 := told_kept HFC3.out hb4
      have hl4 := told_kept HL3.out hb4
      have hB4 : Below w.heap.size w w4 := HB3.out.trans (hb4.mono HB3.out.size)
      have HL4 := hide hl4
      have HFC4 := hide hfc4
      have HB4 := hide hB4
      have HLV := hide hlv
      have HLN := hide hlnil
      have h34 : w3.heap.size ≤ w4.heap.size := hb4.size
      obtain ⟨g0, g1, g2, g3, -⟩ := frame_block hfc4
      clear hfc4 hl4 hb4 hB4 hlv hlnil i0 i1 i2 i3 HSV HL3 HFC3
      go_wp2_with fail
      refine (rWrite_any qk qf qst sq qb cq _ (by omega) (HQ.out.chg (Chg.of_below (HI.out.bel.trans (HB4.out.mono HI.out.bel.size))))).mono ?_
      rintro e w5 ⟨mv, he, hmv, hb5⟩
      rw [← HCC.out] at he
      rw [← HLL.out] at hmv
      subst he
      have hfc5 := told_kept HFC4.out hb5
      have hl5 := told_kept HL4.out hb5
      have hlv5 := owns_chg (HLV.out) (Chg.of_below (S := fun _ => False) hb5) (fun _ _ => id)
      have HB5 := hide (HB4.out.trans (hb5.mono HB4.out.size))
      have h45 : w4.heap.size ≤ w5.heap.size := hb5.size
      have HL5 := hide hl5
      have HFC5 := hide hfc5
      obtain ⟨sl, cl, rfl⟩ := slice_len hlv5
      obtain ⟨sm, cm, rfl⟩ := slice_len hmv
      have HLV5 := hide hlv5
      have HMV := hide hmv
      clear hfc5 hl5 hb5 hlv5 hmv g0 g1 g2 g3 HLV HL4 HFC4 HB4
      have hnil2 : ∀ w' : World, (binOp .eql 54 (.slice sl ll.length cl) (.slice none 0 0)).run Tryz.prog w' = .ok (.bool sl.isNone) w' := fun w' => Lib.run_eql_slice_nil w' 54 5 sl _ _ _ _ Tryz.underlying54
      go_upto_region 10 with fail
      go_cut [12] (fun s12 wx => s12 = .bool true ∧ wx = w5)
      case first =>
        go_wp2_with fail
        refine (sameBytes_true (.slice sl ll.length cl) (.slice sm ll.length cm) ll _ (bytesIn_of_owns (by simpa using HLV5.out) rfl) (bytesIn_of_owns (by simpa using HMV.out) rfl)).mono ?_
        rintro e w' ⟨rfl, hw'⟩
        rw [hw']
        clear hw' w'
        go_wp2_with fail
        refine (num_any cc _).mono ?_
        rintro e w' ⟨rfl, hw'⟩
        rw [hw']
        clear hw' w'
        rcases sl with - | ad
        · go_wp2_with fail
          go_meet
          exact ⟨rfl, rfl⟩
        · have hc0 : (cc == 0) = true := by
            cases hok : wOk qk qf qst qb with
            | true => rw [HCC.out, hok]; rfl
            | false => have := HLN.out hok; simp at this
          go_wp2_with fail
          go_meet
          exact ⟨rfl, rfl⟩
      case rest =>
        obtain ⟨rfl, hwx⟩ := hcut
        rw [hwx]
        clear hwx wc hnil hnil2
        have hI5 := HI.out.below HB5.out
        have hlb : ∀ i, (Value.slice sl ll.length cl).ownBlock = some i → w3.heap.size ≤ i := fun i hi => (HLV5.out.lt i hi).1
        have hkb : ∀ i, kv.ownBlock = some i → i < w.heap.size := fun i hi => owns_lt HI.out.bk.rowB hi
        have hlen : ll.length ≤ 4294967296 := by
          rw [HLL.out]
          split
          · rw [lay_length]; omega
          · simp
        have HI5 := hide hI5
        have HLB := hide hlb
        have HKB := hide hkb
        clear hI5 hlb hkb
        go_wp2_with fail
        refine (keepBytes_any b (lw (.slice (some ⟨fb, off, none⟩) qs.length cf) gH gC gS (.slice none 0 0) kv (.slice none 0 0)) kv (.slice sl ll.length cl) recs ll w3.heap.size _ HI5.out.bk.blk rfl HI5.out.bk.rowB HLV5.out (by omega) hlen).mono ?_
        rintro e w6 ⟨rfl, hkept⟩
        have hfc6 : w6.heap[w.heap.size + 1]? = some (.cells #[.int .i64 qk, .int .i64 qf, .int .i64 qst, .slice sq qb.length cq] 56 (0, 0)) := by
          rw [kept_other hkept (w0 := w.heap.size) (base := w3.heap.size) (lt_of_block HFC5.out) (by omega) hlt HKB.out HLB.out (by omega)]; exact HFC5.out
        have hl6 : w6.heap[wa.heap.size]? = some (.cells (lentL qb).toArray 5 (0, 0)) := by
          rw [kept_other hkept (w0 := w.heap.size) (base := w3.heap.size) (lt_of_block HL5.out) HBC.out.size hlt HKB.out HLB.out (by omega)]; exact HL5.out
        have hbw6 : Below W0.heap.size W0 w6 := below_of_chg HI5.out.bel hkept.chg fun i hi => by
          rcases hi with rfl | hi | hi
          · exact HI.out.b0
          · exact HI.out.kv0 i hi
          · have h1 := HLB.out i hi
            have h2 := HI.out.bel.size
            have h3 := HB3.out.size
            omega
        have hcv6 := conv_bytesA (HQ.out.chg (Chg.of_below hbw6))
        obtain ⟨g0, g1, g2, g3, -⟩ := frame_block hfc6
        have HK := hide hkept
        have HL6 := hide hl6
        clear hfc6 hl6 hbw6 hkept
        go_wp2_with fail
        refine (wholeBytes_any wa.heap.size qb _ (by omega) HL6.out).mono ?_
        rintro e w7 ⟨rfl, hch7⟩
        clear hcv6 g0 g1 g2 g3
        go_wp2
        go_ret
        exact ⟨rfl, winv_next HI.out (by omega) hlen HB5.out HLV5.out HBC.out.size hs4 (by omega) HK.out hch7⟩
end Go.Proofs.YtdifgcppmnmagaaGreatDoor
/-
  (*sluicelaw.World).frames, at KReader and KRead.
-/
namespace Go.Proofs.YtdifgcppmnmagaaGreatDoor
open Go.RowKit

theorem Tryz.info98 : (Tryz.prog.info? 98).map (fun i => (i.zero, i.size, i.bytes)) = some (some (.agg #[.pointer none, .pointer none]), 2, 16) := by kernel_rfl

set_option maxRecDepth 100000 in
set_option maxHeartbeats 6400000 in
theorem frames_new (W0 V0 : World) (b N : Nat) (gF gH gC gS rv kv fv : Value) (rds : List RdR) (recs : List RecB) (frs : List FRec) (A B' C : Int) (S : ByteArray) (w : World) (hI : RInv W0 V0 w b gF gH gC gS rv kv fv rds recs frs N) (hn : rds.length ≤ 67108864) :
    Calls Tryz.prog 10 #[.pointer (some ⟨b, 0, none⟩), .agg #[.int .i64 2, .int .i64 A, .int .i64 B', .int .i64 C, .string S]] w fun e w' => e = .returned (.bool true) ∧ ∃ rv' rds', RInv W0 V0 w' b gF gH gC gS rv' kv fv rds' recs frs (N + 1) := by
  obtain ⟨j0, ji, jz0, jz1, jz2⟩ := info_parts Tryz.info98
  obtain ⟨sr, cr, rfl⟩ := slice_len hI.rowR
  have hlt := lt_of_block hI.bk.blk
  have g0 : w.cell? ⟨b, 4, none⟩ = some (.slice sr rds.length cr) := by rw [cell_of_row w b _ _ _ _ hI.bk.blk]; rfl
  have gf : w.frozen? ⟨b, 4, none⟩ = false := by simp [World.frozen?, hI.bk.blk]
  have HI := hide hI
  clear hI
  go_enter Tryz.func10, Tryz.ntmps10
  have HRR := hide HI.out.rowR
  go_wp2_with (first | (go_at_call 28; refine (newReader_any _).mono ?_; rintro e w3 ⟨rfl, hw3⟩; subst hw3) | (at_builtin; refine wpList_app _ rfl (.tmp 115) (.tmp 120) 33 rfl 98 j0 (.agg #[.pointer none, .pointer none]) 2 16 Tryz.underlying33 ji jz0 jz1 jz2 rfl (by decide) _ _ _ rfl ((((HRR.out.alloc _).alloc _).alloc _).alloc _) (.slice (some ⟨w.heap.size + 1 + 1 + 1, 0, none⟩) 1 1) 1 [.pointer (some ⟨w.heap.size + 1, 0, none⟩), .pointer (some ⟨w.heap.size + 1 + 1, 0, none⟩)] rfl rfl ?c1 ?c2 ?c3 ?c4 ?_))
  case c1 =>
    refine Or.inr ⟨_, _, rfl, fun j u hu => ?_⟩
    have := lies_row (w := ((w.alloc (.cells #[.int .i64 2, .int .i64 A, .int .i64 B', .int .i64 C, .string S] 49)).alloc (.cells #[.slice none 0 0, .int .i64 0, .int .i64 0, .int .i64 0, .int .i64 0, .int .i64 0] 163)).alloc (.cells #[.slice none 0 0, .int .i64 0, .int .i64 0] 96)) (xs := [.pointer (some ⟨w.heap.size + 1, 0, none⟩), .pointer (some ⟨w.heap.size + 1 + 1, 0, none⟩)]) (t := 98) j u hu
    simpa using this
  case c2 =>
    intro u hu
    simp at hu
    rcases hu with rfl | rfl <;> rfl
  case c3 => unfold maxLen; omega
  case c4 => omega
  intro rv' w3 hown3 hg3 hfr3
  obtain ⟨sr', cr', rfl⟩ := slice_len hown3
  have hX : Below w.heap.size w ((((w.alloc (.cells #[.int .i64 2, .int .i64 A, .int .i64 B', .int .i64 C, .string S] 49)).alloc (.cells #[.slice none 0 0, .int .i64 0, .int .i64 0, .int .i64 0, .int .i64 0, .int .i64 0] 163)).alloc (.cells #[.slice none 0 0, .int .i64 0, .int .i64 0] 96)).alloc (.cells #[.pointer (some ⟨w.heap.size + 1, 0, none⟩), .pointer (some ⟨w.heap.size + 1 + 1, 0, none⟩)] 98)) :=
    ((((Below.refl _ w).alloc (Nat.le_refl _) _).alloc (by simp) _).alloc (by simp; omega) _).alloc (by simp; omega) _
  have hb3 := kept_block ((((HRR.out.alloc _).alloc _).alloc _).alloc _) hg3 (told_kept HI.out.bk.blk hX) (by decide)
  have hrin := rinv_reader (xb := w.heap.size + 1) (pb := w.heap.size + 1 + 1) HI.out hX (by omega) (by omega) (heap_in (by simp) (heap_in (by simp) (heap_at (by simp)))) (heap_in (by simp) (heap_at (by simp))) hown3 hg3 (by simpa using hfr3)
  have HRI := hide hrin
  have q4 : w3.cell? ⟨b, 4, none⟩ = some (.slice sr rds.length cr) := by rw [cell_of_row w3 b _ _ _ _ hb3]; rfl
  have q4f : w3.frozen? ⟨b, 4, none⟩ = false := by simp [World.frozen?, hb3]
  clear hown3 hg3 hfr3 hX hb3 hrin g0 gf
  go_wp2
  go_ret
  exact ⟨rfl, _, _, HRI.out⟩

theorem feed_count (got l : List UInt8) : (feed got l).1.length ≤ l.length := by
  induction l generalizing got with
  | nil => simp [feed]
  | cons c r ih =>
    simp only [feed]
    split
    · have := ih (by assumption); simp; omega
    · have := ih []; simp; omega
    · simp
theorem step_body {got : List UInt8} {c : UInt8} {f : Fr} (h : step got c = .inl (.inr f)) : f.body.length ≤ got.length + 1 := by
  unfold step at h
  simp only at h
  split at h
  · cases h
  · split at h
    · cases h
    · split at h
      · cases h
      · simp only [Sum.inl.injEq, Sum.inr.injEq] at h
        rw [← h]
        simp
        omega
theorem step_len {got g : List UInt8} {c : UInt8} (h : step got c = .inl (.inl g)) : g.length = got.length + 1 := by
  unfold step at h
  simp only at h
  split at h
  · cases h
  · split at h
    · simp only [Sum.inl.injEq] at h
      rw [← h]; simp
    · split at h
      · cases h
      · cases h
theorem feed_bodies (got l : List UInt8) : ∀ f ∈ (feed got l).1, f.body.length ≤ got.length + l.length := by
  induction l generalizing got with
  | nil => simp [feed]
  | cons c r ih =>
    simp only [feed]
    split
    · next g hs =>
      have hl := step_len hs
      intro f hf
      have := ih g f hf
      simp; omega
    · next f' hs =>
      have hl := step_body hs
      intro f hf
      simp only [List.mem_cons] at hf
      rcases hf with rfl | hf
      · simp; omega
      · have := ih [] f hf
        simp at this ⊢; omega
    · simp
theorem feed_got (got l : List UInt8) : (feed got l).2.got.length ≤ got.length + l.length := by
  induction l generalizing got with
  | nil => simp [feed]
  | cons c r ih =>
    simp only [feed]
    split
    · next g hs =>
      have hl := step_len hs
      have := ih g
      simp; omega
    · have := ih []
      simp at this ⊢; omega
    · simp
theorem Rd.feed_count (r : Rd) (l : List UInt8) : (r.feed l).1.length ≤ l.length := by
  unfold Rd.feed
  split
  · exact Go.Proofs.YtdifgcppmnmagaaGreatDoor.feed_count _ _
  · simp
theorem Rd.feed_bodies (r : Rd) (l : List UInt8) : ∀ f ∈ (r.feed l).1, f.body.length ≤ r.got.length + l.length := by
  unfold Rd.feed
  split
  · exact Go.Proofs.YtdifgcppmnmagaaGreatDoor.feed_bodies _ _
  · simp

theorem conv_string (w : World) (l : List UInt8) : ∃ w' cap, (convert 9 54 (.string ⟨l.toArray⟩)).run Tryz.prog w = .ok (.slice (some ⟨w.heap.size, 0, none⟩) l.length cap) w' ∧ Lies w' (.slice (some ⟨w.heap.size, 0, none⟩) l.length cap) l.length (l.map B) ∧ Below w.heap.size w w' := by
  have h := run_bytes_of_string (P := Tryz.prog) w 9 54 5 ⟨l.toArray⟩ Tryz.underlying9 Tryz.underlying54 Tryz.underlying5
  have hs : (ByteArray.mk l.toArray).size = l.length := by simp [ByteArray.size]
  rw [hs] at h
  refine ⟨_, _, h, Or.inr ⟨_, _, rfl, fun j u hu => ?_⟩, ?_⟩
  · have hj : j < l.length := by
      have := (List.getElem?_eq_some_iff.1 hu).1
      simpa using this
    rw [addr_add]
    have hh := heap_alloc_new w.drew (.cells (bytesRow ⟨l.toArray⟩ (grownCap w l.length 0 5)) 5 ((bytesRow ⟨l.toArray⟩ (grownCap w l.length 0 5)).size, (bytesRow ⟨l.toArray⟩ (grownCap w l.length 0 5)).size + 1))
    rw [cell_of_row _ w.heap.size _ _ _ _ hh]
    rw [← hu]
    simp [bytesRow, hj]
    rw [Array.getElem?_append_left (by simpa using hj)]
    simp [hj, B]
  · have h2 := (Below.refl w.heap.size w.drew)
    have h1 : Below w.heap.size w w.drew := ⟨rfl, rfl, rfl, Nat.le_refl _, fun _ _ => rfl⟩
    exact h1.alloc (Nat.le_refl _) _

theorem pair_block {w : World} {b : Nat} {v0 v1 : Value} {t : TypeId} {fr : Nat × Nat} (h : w.heap[b]? = some (.cells #[v0, v1] t fr)) : w.cell? ⟨b, 0, none⟩ = some v0 ∧ w.cell? ⟨b, 1, none⟩ = some v1 := by
  refine ⟨?_, ?_⟩ <;> rw [cell_of_row w b _ _ _ _ h] <;> rfl

set_option maxRecDepth 100000 in
set_option maxHeartbeats 6400000 in
theorem frames_read (W0 V0 : World) (b N : Nat) (gF gH gC gS rv kv fv : Value) (rds : List RdR) (recs : List RecB) (frs : List FRec) (A B' C : Int) (l : List UInt8) (w : World) (hI : RInv W0 V0 w b gF gH gC gS rv kv fv rds recs frs N) (hA : I64 A) (hr0 : 0 < rds.length) (hN : N + 1 + l.length ≤ 16777216) :
    Calls Tryz.prog 10 #[.pointer (some ⟨b, 0, none⟩), .agg #[.int .i64 3, .int .i64 A, .int .i64 B', .int .i64 C, .string ⟨l.toArray⟩]] w fun e w' => e = .returned (.bool true) ∧ ∃ kv' fv' rds' recs' frs', RInv W0 V0 w' b gF gH gC gS rv kv' fv' rds' recs' frs' (N + 1 + l.length) := by
  obtain ⟨sr, cr, rfl⟩ := slice_len hI.rowR
  have hlt := lt_of_block hI.bk.blk
  have g0 : w.cell? ⟨b, 4, none⟩ = some (.slice sr rds.length cr) := by rw [cell_of_row w b _ _ _ _ hI.bk.blk]; rfl
  obtain ⟨j, hj, hjl⟩ := pk_nat A hr0
  obtain ⟨gr, hgr, hgc⟩ := slice_some hI.rowR hr0
  subst hgr
  have hgl : gr < w.heap.size := owns_lt hI.rowR rfl
  obtain ⟨e0, e1⟩ := rdCells_get hjl
  have a0 : w.cell? ⟨gr, j * 2, none⟩ = some (.pointer (some ⟨rds[j].xb, 0, none⟩)) := by rw [hI.rowR.cellAt _ (by have := rdCells_length rds; omega)]; exact e0
  have a1 : w.cell? ⟨gr, j * 2 + 1, none⟩ = some (.pointer (some ⟨rds[j].pb, 0, none⟩)) := by rw [hI.rowR.cellAt _ (by have := rdCells_length rds; omega)]; exact e1
  have HI := hide hI
  have HJ := hide hj
  have HA := hide hA
  have hxlt : rds[j].xb < w.heap.size := hI.rb_lt (List.getElem_mem hjl) (Or.inl rfl)
  have hplt : rds[j].pb < w.heap.size := hI.rb_lt (List.getElem_mem hjl) (Or.inr (Or.inr (Or.inl rfl)))
  obtain ⟨str, hstr⟩ : ∃ str, str = ByteArray.mk l.toArray := ⟨_, rfl⟩
  rw [← hstr]
  obtain ⟨xb, hxb⟩ : ∃ x, x = rds[j].xb := ⟨_, rfl⟩
  obtain ⟨pb, hpb⟩ : ∃ x, x = rds[j].pb := ⟨_, rfl⟩
  rw [← hxb] at a0 hxlt
  rw [← hpb] at a1 hplt
  have HXB := hide hxb
  have HPB := hide hpb
  have HSTR := hide hstr
  clear hI hj hA e0 e1 hstr hxb hpb
  go_enter Tryz.func10, Tryz.ntmps10
  go_upto_region 20 with fail
  go_cut [15] (fun s15 wx => s15 = .pointer (some ⟨w.heap.size + 1, 0, none⟩) ∧ wx = ((w.alloc (.cells #[.int .i64 3, .int .i64 A, .int .i64 B', .int .i64 C, .string str] 49)).alloc (.cells #[.pointer (some ⟨xb, 0, none⟩), .pointer (some ⟨pb, 0, none⟩)] 98)).drew)
  case first =>
    go_region_held3 (fun w' => w'.cell? ⟨b, 4, none⟩ = some (.slice (some ⟨gr, 0, none⟩) rds.length cr) ∧ w'.cell? ⟨w.heap.size, 1, none⟩ = some (.int .i64 A) ∧ w'.cell? ⟨gr, j * 2, none⟩ = some (.pointer (some ⟨xb, 0, none⟩)) ∧ w'.cell? ⟨gr, j * 2 + 1, none⟩ = some (.pointer (some ⟨pb, 0, none⟩))) (go_keep)
      (first | (go_at_call 20; refine (lpick_at A rds.length j _ hr0 HA.out HJ.out).mono ?_; rintro e w' ⟨rfl, rfl⟩))
    all_goals (go_wp2_with fail)
    all_goals (go_meet; exact ⟨rfl, rfl⟩)
  case rest =>
    obtain ⟨rfl, hwc⟩ := hcut
    obtain ⟨w2, hw2⟩ : ∃ w2, w2 = wc := ⟨wc, rfl⟩
    subst hw2
    have hb2 : Below w.heap.size w w2 := by
      rw [hwc]
      have h := ((Below.refl w.heap.size w).alloc (Nat.le_refl _) (.cells #[.int .i64 3, .int .i64 A, .int .i64 B', .int .i64 C, .string str] 49)).alloc (by simp) (.cells #[.pointer (some ⟨xb, 0, none⟩), .pointer (some ⟨pb, 0, none⟩)] 98)
      exact ⟨h.os, h.tape, h.output, h.size, h.block⟩
    have ho2 : w2.heap[w.heap.size]? = some (.cells #[.int .i64 3, .int .i64 A, .int .i64 B', .int .i64 C, .string str] 49 (0, 0)) := by rw [hwc]; exact heap_in (by simp) (heap_at rfl)
    have hp2 : w2.heap[w.heap.size + 1]? = some (.cells #[.pointer (some ⟨xb, 0, none⟩), .pointer (some ⟨pb, 0, none⟩)] 98 (0, 0)) := by rw [hwc]; exact heap_at (by simp)
    have HB2 := hide hb2
    have HO2 := hide ho2
    have HP2 := hide hp2
    obtain ⟨-, -, -, -, o4, -⟩ := lists_block ho2
    have hs2 := lt_of_block hp2
    clear hwc hb2 ho2 hp2 a0 a1 g0
    go_wp2_with fail
    rw [HSTR.out]
    refine (lent_any l w2 (by omega)).mono ?_
    rw [← HSTR.out]
    rintro e w3 ⟨rfl, hlent, hb3⟩
    have hrj : rds[j] ∈ rds := List.getElem_mem _
    obtain ⟨rT, rS, rN⟩ := HI.out.rd rds[j] hrj
    have hB3 : Below w.heap.size w w3 := HB2.out.trans (hb3.mono HB2.out.size)
    have ho3 := told_kept HO2.out hb3
    have hp3 := told_kept HP2.out hb3
    have hs3 := lt_of_block hlent
    have hsz3 := hB3.size
    have hz2 := HB2.out.size
    have hRT3 : RdT w3 xb rds[j].gv (feed [] rds[j].all).2 := by rw [HXB.out]; exact rdT_chg rT (Chg.of_below (S := fun _ => False) hB3) id (fun _ _ => id)
    have hRS3 : RfS w3 pb rds[j].av rds[j].all := by rw [HPB.out]; exact rS.chg (Chg.of_below (S := fun _ => False) hB3) id (fun _ _ => id)
    have hgvlt : ∀ k, rds[j].gv.ownBlock = some k → k < w.heap.size := fun k e => HI.out.rb_lt hrj (Or.inr (Or.inl e))
    have havlt : ∀ k, rds[j].av.ownBlock = some k → k < w.heap.size := fun k e => HI.out.rb_lt hrj (Or.inr (Or.inr (Or.inr e)))
    have hgl3 : (feed [] rds[j].all).2.got.length ≤ N := Nat.le_trans (by have := feed_got [] rds[j].all; simpa using this) rN
    obtain ⟨cc, hcc⟩ : ∃ cc : Int, cc = ((feed [] rds[j].all).2.feed l).2.code := ⟨_, rfl⟩
    have HCC := hide hcc
    have HRJ := hide hrj
    have HRT3 := hide hRT3
    have HRS3 := hide hRS3
    have HGL := hide hgvlt
    have HAL := hide havlt
    have HGN := hide hgl3
    have HRN := hide rN
    have HB3 := hide hB3
    have HL3 := hide hlent
    have HO3 := hide ho3
    have HP3 := hide hp3
    obtain ⟨q0, q1⟩ := pair_block hp3
    clear hb3 hlent hB3 ho3 hp3 hrj rT rS rN hRT3 hRS3 hgvlt havlt hgl3 hcc o4
    go_wp2_with fail
    refine (feed_any xb rds[j].gv (.slice (some ⟨w2.heap.size, 0, none⟩) l.length (l.length + 4)) (feed [] rds[j].all).2 l _ HRT3.out (lent_bytes HL3.out (by omega)) (by omega) (fun k hk => by
      simp [Value.ownBlock] at hk
      subst hk
      exact ⟨by omega, fun e => by have := HGL.out _ e; omega⟩)).mono ?_
    rintro e wF ⟨v, ps, gv', he, hps, hfrs, hrd, hchF, hgvf, hap⟩
    rw [← HCC.out] at he
    subst he
    obtain ⟨sv, cv, rfl⟩ := slice_len hfrs.row
    have tch : ∀ k, w.heap.size ≤ k → ¬ Touch xb rds[j].gv k := by
      rintro k hk (e | e)
      · omega
      · have := HGL.out k e; omega
    have hoF : wF.heap[w.heap.size]? = some (.cells #[.int .i64 3, .int .i64 A, .int .i64 B', .int .i64 C, .string str] 49 (0, 0)) := by rw [hchF.block _ (lt_of_block HO3.out) (tch _ (Nat.le_refl _))]; exact HO3.out
    have hpF : wF.heap[w.heap.size + 1]? = some (.cells #[.pointer (some ⟨xb, 0, none⟩), .pointer (some ⟨pb, 0, none⟩)] 98 (0, 0)) := by rw [hchF.block _ (lt_of_block HP3.out) (tch _ (Nat.le_succ _))]; exact HP3.out
    have hlF : wF.heap[w2.heap.size]? = some (.cells (lentL l).toArray 5 (0, 0)) := by rw [hchF.block _ hs3 (tch _ hz2)]; exact HL3.out
    obtain ⟨cs9, hxblk⟩ := rdT_blk HRT3.out
    obtain ⟨n9, y9, hgown⟩ := rdT_own HRT3.out
    have hRSF : RfS wF pb rds[j].av rds[j].all := by
      refine HRS3.out.chg hchF ?_ ?_
      · rintro (e | e)
        · rw [← e, HRS3.out.blk] at hxblk; simp at hxblk
        · exact owns_ne hgown HRS3.out.blk (by decide) e
      · rintro k ek (e | e)
        · subst e; exact owns_ne HRS3.out.row hxblk (by decide) ek
        · exact HI.out.ap2 _ HRJ.out k e ek
    obtain ⟨wC, capC, hconv, hlies, hbC⟩ := conv_string wF l
    rw [← HSTR.out] at hconv
    have hzF := hchF.size
    have hzC := hbC.size
    have HPS := hide hps
    have HFRS := hide hfrs
    have HRD := hide hrd
    have HCHF := hide hchF
    have HGVF := hide hgvf
    have HAP := hide hap
    have HLIES := hide hlies
    have HBC := hide hbC
    have HOC := hide (told_kept hoF hbC)
    have HLC := hide (told_kept hlF hbC)
    have HRSC := hide (hRSF.chg (Chg.of_below (S := fun _ => False) hbC) id (fun _ _ => id))
    obtain ⟨p0, p1⟩ := pair_block hpF
    obtain ⟨-, -, -, -, o4, -⟩ := lists_block hoF
    clear hps hfrs hrd hchF hgvf hap hlies hbC hoF hpF hlF hRSF hxblk hgown q0 q1 tch
    go_wp2_with fail
    refine (rFeed_any pb rds[j].av (some ⟨wF.heap.size, 0, none⟩) l.length capC rds[j].all l _ HRSC.out HLIES.out (by have := HRN.out; omega)).mono ?_
    rintro e wR ⟨mv, qs, av', all', he, hqs, hfr, hrf, hfeq, hall, hchR, havf⟩
    rw [← HCC.out] at he
    subst he
    obtain ⟨sm, cm, rfl⟩ := hfr.form
    have hzR := hchR.size
    have rch : ∀ k, w.heap.size ≤ k → ¬ (k = pb ∨ rds[j].av.ownBlock = some k) := by
      rintro k hk (e | e)
      · omega
      · have := HAL.out k e; omega
    have hfrsR : FrsOwn wR w3.heap.size (.slice sv ps.length cv) ps := by
      have h1 := HFRS.out.chg' (Chg.of_below (S := fun _ => False) HBC.out) (fun _ _ => id) (fun _ _ => id)
      exact h1.chg' hchR (fun k e => rch k (by have := (h1.row.lt k e).1; omega)) (fun k e => rch k (by have := (h1.blocks e).1; omega))
    have hoR : wR.heap[w.heap.size]? = some (.cells #[.int .i64 3, .int .i64 A, .int .i64 B', .int .i64 C, .string str] 49 (0, 0)) := by rw [hchR.block _ (lt_of_block HOC.out) (rch _ (Nat.le_refl _))]; exact HOC.out
    have hlR : wR.heap[w2.heap.size]? = some (.cells (lentL l).toArray 5 (0, 0)) := by rw [hchR.block _ (lt_of_block HLC.out) (rch _ hz2)]; exact HLC.out
    have hpsl : ps.length ≤ l.length := by
      have h1 := Rd.feed_count (feed [] rds[j].all).2 l
      rw [← HPS.out, List.length_map] at h1
      exact h1
    have HQS := hide hqs
    have HFR := hide hfr
    have HRF := hide hrf
    have HFEQ := hide hfeq
    have HALL := hide hall
    have HCHR := hide hchR
    have HAVF := hide havf
    have HFRSR := hide hfrsR
    have HOR := hide hoR
    have HLR := hide hlR
    clear hqs hfr hrf hfeq hall hchR havf hfrsR hoR hlR rch p0 p1 o4 hconv
    go_wp2_with fail
    refine (sameFrames_true (.slice sv ps.length cv) (.slice sm qs.length cm) ps qs _ (frsR_all ⟨HFRSR.out.row, HFRSR.out.body⟩) HFR.out (HPS.out.trans HQS.out.symm) (by omega)).mono ?_
    rintro e wS ⟨rfl, hbS⟩
    have HBS := hide hbS
    have hzS := hbS.size
    have HOS := hide (told_kept HOR.out hbS)
    have HLS := hide (told_kept HLR.out hbS)
    have HFRSS := hide (HFRSR.out.chg' (Chg.of_below (S := fun _ => False) hbS) (fun _ _ => id) (fun _ _ => id))
    clear hbS
    go_wp2_with fail
    refine (num_any cc _).mono ?_
    rintro e w' ⟨rfl, hw'⟩
    rw [hw']
    clear hw' w'
    have c1 : Chg (RB rds[j]) w wS := by
      have hx := HXB.out
      have hp := HPB.out
      have t1 : Chg (RB rds[j]) w wF := (Chg.of_below HB3.out).trans (HCHF.out.mono (fun k _ e => by
        rcases e with e | e
        · exact Or.inr (Or.inl (e.trans hx))
        · exact Or.inr (Or.inr (Or.inl e))))
      have t2 : Chg (RB rds[j]) w wR := (t1.then_below HBC.out).trans (HCHR.out.mono (fun k _ e => by
        rcases e with e | e
        · exact Or.inr (Or.inr (Or.inr (Or.inl (e.trans hp))))
        · exact Or.inr (Or.inr (Or.inr (Or.inr e)))))
      exact t2.then_below HBS.out
    have HBK := hide (HI.out.others HRJ.out c1).1
    have hbodies : ∀ p ∈ ps, p.1.body.length ≤ 4294967296 := by
      intro p hp
      have h1 := Rd.feed_bodies (feed [] rds[j].all).2 l p.1 (by rw [← HPS.out]; exact List.mem_map_of_mem hp)
      have h2 := HGN.out
      omega
    have hfew := HI.out.few
    have HBO := hide hbodies
    clear c1 hbodies
    go_wp2_with fail
    refine (keepFrames_any b (lw gF gH gC gS (.slice (some ⟨gr, 0, none⟩) rds.length cr) kv fv) kv fv (.slice sv ps.length cv) ps recs frs w3.heap.size _ HBK.out.blk rfl rfl HBK.out.rowB HBK.out.rowF HFRSS.out (by omega) (by omega) HBO.out).mono ?_
    rintro e wK ⟨rfl, kv', fv', rs, q, hK⟩
    have kch : ∀ k, w.heap.size ≤ k → k < w3.heap.size → ¬ (k = b ∨ kv.ownBlock = some k ∨ fv.ownBlock = some k ∨ (Value.slice sv ps.length cv).ownBlock = some k ∨ k ∈ bodyBlocks ps) := by
      rintro k h1 h2 (e | e | e | e | e)
      · omega
      · have := owns_lt HI.out.bk.rowB e; omega
      · have := owns_lt HI.out.bk.rowF e; omega
      · have := (HFRSS.out.row.lt k e).1; omega
      · have := (HFRSS.out.blocks e).1; omega
    have hoK : wK.heap[w.heap.size]? = some (.cells #[.int .i64 3, .int .i64 A, .int .i64 B', .int .i64 C, .string str] 49 (0, 0)) := by rw [hK.chg.block _ (lt_of_block HOS.out) (kch _ (Nat.le_refl _) (by omega))]; exact HOS.out
    have hlK : wK.heap[w2.heap.size]? = some (.cells (lentL l).toArray 5 (0, 0)) := by rw [hK.chg.block _ (lt_of_block HLS.out) (kch _ hz2 hs3)]; exact HLS.out
    obtain ⟨-, -, -, -, o4, -⟩ := lists_block hoK
    have HK := hide hK
    have HLK := hide hlK
    clear hK kch hoK hlK
    go_wp2_with fail
    rw [HSTR.out]
    refine (wholeBytes_any w2.heap.size l _ (by omega) HLK.out).mono ?_
    rw [← HSTR.out]
    rintro e wE ⟨rfl, hE⟩
    clear o4
    go_wp2
    go_ret
    have hx := HXB.out
    have hp := HPB.out
    subst hx
    subst hp
    have hrn := HRN.out
    have hall := HALL.out
    exact ⟨rfl, kv', fv', _, _, _, rinv_next (N' := N + 1 + l.length) HI.out hjl HB3.out hz2 hs3 HFRS.out HRD.out HCHF.out HGVF.out HAP.out HBC.out HRF.out HCHR.out HAVF.out HFEQ.out.symm HBS.out HK.out hE (by omega) (by omega) (by omega) (by omega) (by omega)⟩
end Go.Proofs.YtdifgcppmnmagaaGreatDoor
