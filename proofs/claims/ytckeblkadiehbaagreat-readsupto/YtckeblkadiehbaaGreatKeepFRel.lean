/-
  What holds within keepFrames.
-/
import Derived.Test.YtckeblkadiehbaaGreatWhole
import Derived.Test.YtckeblkadiehbaaGreatRefFrames
namespace Go.Proofs.YtckeblkadiehbaaGreat
open Go.RowKit

theorem Tryz.info75 : (Tryz.prog.info? 75).map (fun i => (i.zero, i.size, i.bytes)) = some (some (.agg #[.slice none 0 0, .slice none 0 0, .slice none 0 0, .slice none 0 0, .int .i64 0]), 5, 104) := by kernel_rfl

/-- The end of keepFrames. -/
structure KeptF (w w' : World) (b : Nat) (cs : Array Value) (kv fv v : Value) (ps : List (Fr × Value)) (recs : List RecB) (frs : List FRec) (kv' fv' : Value) (rs : List RecB) (r : FRec) : Prop where
  blk : w'.heap[b]? = some (.cells ((cs.setIfInBounds 9 kv').setIfInBounds 12 fv') 46 (0, 0))
  rowB : w'.ownsRow 0 65 5 kv' (recs ++ rs).length (recCells (recs ++ rs))
  rowF : w'.ownsRow 0 75 5 fv' (frs ++ [r]).length (frCells (frs ++ [r]))
  len : rs.length = ps.length
  famB : ∀ x ∈ rs, FamB w' x
  okB : ∀ x ∈ rs, x.n ≤ recs.length + ps.length ∧ x.len ≤ 4294967296
  famF : FamF w' r
  okF : r.len = ps.length
  blksB : ∀ x ∈ rs, ∀ u ∈ [x.l, x.a, x.b, x.c], ∀ j, u.ownBlock = some j → j ∈ bodyBlocks ps ∨ w.heap.size ≤ j
  blksF : ∀ u ∈ [r.l, r.a, r.b, r.c], ∀ j, u.ownBlock = some j → v.ownBlock = some j ∨ w.heap.size ≤ j
  chg : Chg (fun j => j = b ∨ kv.ownBlock = some j ∨ fv.ownBlock = some j ∨ v.ownBlock = some j ∨ j ∈ bodyBlocks ps) w w'
  kvb : ∀ j, kv'.ownBlock = some j → kv.ownBlock = some j ∨ w.heap.size ≤ j
  fvb : ∀ j, fv'.ownBlock = some j → fv.ownBlock = some j ∨ w.heap.size ≤ j

/-- The first loop: the bodies. -/
structure KLoop (w wr : World) (b : Nat) (cs : Array Value) (kv : Value) (ps : List (Fr × Value)) (recs : List RecB) (k : Nat) (kvk : Value) (rs : List RecB) : Prop where
  blk : wr.heap[b]? = some (.cells (cs.setIfInBounds 9 kvk) 46 (0, 0))
  rowB : wr.ownsRow 0 65 5 kvk (recs ++ rs).length (recCells (recs ++ rs))
  len : rs.length = k
  fam : ∀ x ∈ rs, FamB wr x
  ok : ∀ x ∈ rs, x.n ≤ recs.length + ps.length ∧ x.len ≤ 4294967296
  blks : ∀ x ∈ rs, ∀ u ∈ [x.l, x.a, x.b, x.c], ∀ j, u.ownBlock = some j → j ∈ bodyBlocks (ps.take k) ∨ w.heap.size ≤ j
  chg : Chg (fun j => j = b ∨ kv.ownBlock = some j ∨ j ∈ bodyBlocks (ps.take k)) w wr
  kvb : ∀ j, kvk.ownBlock = some j → kv.ownBlock = some j ∨ w.heap.size ≤ j

theorem mem_take_next {ps : List (Fr × Value)} {k j : Nat} (hk : k < ps.length) : j ∈ bodyBlocks (ps.take (k + 1)) ↔ j ∈ bodyBlocks (ps.take k) ∨ ps[k].2.ownBlock = some j := by
  rw [List.take_succ_eq_append_getElem hk, bodyBlocks_append, List.mem_append, mem_bodyBlocks (ps := [ps[k]])]
  simp
theorem body_apart {ps : List (Fr × Value)} {k j : Nat} (hn : (bodyBlocks ps).Nodup) (hk : k < ps.length) (h1 : j ∈ bodyBlocks (ps.take k)) (h2 : ps[k].2.ownBlock = some j) : False := by
  have e : ps = ps.take k ++ ps.drop k := (List.take_append_drop k ps).symm
  rw [e, bodyBlocks_append, List.nodup_append] at hn
  have h3 : j ∈ bodyBlocks (ps.drop k) := mem_bodyBlocks.2 ⟨ps[k], by rw [List.drop_eq_getElem_cons hk]; exact List.mem_cons_self, h2⟩
  exact hn.2.2 j h1 j h3 rfl

/-- A body that has not been kept yet is as it was. -/
theorem KLoop.body {w wr : World} {b base k : Nat} {cs : Array Value} {kv v kvk : Value} {ps : List (Fr × Value)} {recs rs : List RecB} (h : KLoop w wr b cs kv ps recs k kvk rs) (hF : FrsOwn w base v ps) (hB : w.heap[b]? = some (.cells cs 46 (0, 0))) (hR : w.ownsRow 0 65 5 kv recs.length (recCells recs)) (hk : k < ps.length) :
    wr.ownsRow base 5 1 ps[k].2 ps[k].1.body.length (ps[k].1.body.map B) := by
  have hb := hF.body ps[k] (List.getElem_mem _)
  refine owns_chg hb h.chg fun j hj => ?_
  rintro (e | e | e)
  · subst e; exact owns_ne hb hB (by decide) hj
  · exact rows_ne hR hb (by decide) e hj
  · exact body_apart hF.nodup hk e hj

theorem kloop_next {w wr w' : World} {b base k : Nat} {cs : Array Value} {kv v kvk : Value} {ps : List (Fr × Value)} {recs rs : List RecB} (h : KLoop w wr b cs kv ps recs k kvk rs) (hF : FrsOwn w base v ps) (hlen : ∀ p ∈ ps, p.1.body.length ≤ 4294967296) (hk : k < ps.length)
    (hkept : KeptB wr w' b (cs.setIfInBounds 9 kvk) kvk ps[k].2 (recs ++ rs) ps[k].1.body.length) : ∃ kv' r, KLoop w w' b cs kv ps recs (k + 1) kv' (rs ++ [r]) := by
  obtain ⟨kv', r, hb6, hrow6, hrl, hrn, hrlen, hfam, hsep, hch, hkv'⟩ := hkept
  have hsz := h.chg.size
  have hbl : ∀ j, ps[k].2.ownBlock = some j → j < w.heap.size := fun j hj => owns_lt (hF.body ps[k] (List.getElem_mem _)) hj
  refine ⟨kv', r, ⟨?_, ?_, ?_, ?_, ?_, ?_, ?_, ?_⟩⟩
  · rw [hb6]; simp
  · rw [← List.append_assoc]; exact hrow6
  · simp [h.len]
  · intro x hx
    rcases List.mem_append.1 hx with hx | hx
    · have hf := h.fam x hx
      have sep : ∀ u, u ∈ [x.l, x.a, x.b, x.c] → ∀ n ys, wr.ownsRow 0 5 1 u n ys → ∀ j, u.ownBlock = some j → ¬ (j = b ∨ kvk.ownBlock = some j ∨ ps[k].2.ownBlock = some j) := by
        rintro u hu n ys ho j hj (e | e | e)
        · subst e; exact owns_ne ho h.blk (by decide) hj
        · exact rows_ne h.rowB ho (by decide) e hj
        · rcases h.blks x hx u hu j hj with a | a
          · exact body_apart hF.nodup hk a e
          · have := hbl j e; omega
      exact ⟨owns_chg hf.l hch (sep _ (by simp) _ _ hf.l), owns_chg hf.a hch (sep _ (by simp) _ _ hf.a), owns_chg hf.b hch (sep _ (by simp) _ _ hf.b), owns_chg hf.c hch (sep _ (by simp) _ _ hf.c)⟩
    · simp only [List.mem_cons, List.not_mem_nil, or_false] at hx
      subst hx
      exact hfam
  · intro x hx
    rcases List.mem_append.1 hx with hx | hx
    · exact h.ok x hx
    · simp only [List.mem_cons, List.not_mem_nil, or_false] at hx
      subst hx
      rw [hrn, hrlen, List.length_append, h.len]
      exact ⟨by omega, hlen _ (List.getElem_mem _)⟩
  · intro x hx u hu j hj
    rcases List.mem_append.1 hx with hx | hx
    · rcases h.blks x hx u hu j hj with a | a
      · exact Or.inl ((mem_take_next hk).2 (Or.inl a))
      · exact Or.inr a
    · simp only [List.mem_cons, List.not_mem_nil, or_false] at hx
      subst hx
      rcases hsep u hu j hj with a | a
      · exact Or.inl ((mem_take_next hk).2 (Or.inr a))
      · exact Or.inr (by omega)
  · refine (h.chg.mono (fun j _ hj => ?_)).trans (hch.mono (fun j _ hj => ?_))
    · rcases hj with e | e | e
      · exact Or.inl e
      · exact Or.inr (Or.inl e)
      · exact Or.inr (Or.inr ((mem_take_next hk).2 (Or.inl e)))
    · rcases hj with e | e | e
      · exact Or.inr (Or.inl e)
      · rcases h.kvb j e with a | a
        · exact Or.inr (Or.inr (Or.inl a))
        · exact Or.inl a
      · exact Or.inr (Or.inr (Or.inr ((mem_take_next hk).2 (Or.inr e))))
  · intro j hj
    rcases hkv' j hj with a | a
    · exact h.kvb j a
    · exact Or.inr (by omega)

theorem keepF_step {S : Nat → Prop} {w wX w1 : World} {xb len m : Nat} {X : Array Value} {v va : Value} {xs news : List Value} {o : Obj} (hx : wX.heap[xb]? = some (.cells X 75 (0, 0))) (hxb : w.heap.size ≤ xb) (hch : Chg S w wX) (hS : ∀ j, v.ownBlock = some j → w.heap.size ≤ j ∨ S j) (hl : wX.ownsRow 0 56 4 v len xs)
    (hown1 : w1.ownsRow 0 56 4 va (len + m) (xs ++ news)) (hg1 : (wX.alloc o).grownBy w1 v.ownBlock) (happ : Appd (wX.alloc o) w1 v va len m) (i : Nat) :
    (w1.setCell ⟨xb, i, none⟩ va).heap[xb]? = some (.cells (X.setIfInBounds i va) 75 (0, 0)) ∧ Chg S w (w1.setCell ⟨xb, i, none⟩ va) ∧ (w1.setCell ⟨xb, i, none⟩ va).ownsRow 0 56 4 v len xs ∧
      (w1.setCell ⟨xb, i, none⟩ va).ownsRow 0 56 4 va (len + m) (xs ++ news) ∧
      (∀ v0 k ys, wX.ownsRow 0 56 4 v0 k ys → (∀ g cap, v = .slice (some ⟨g, 0, none⟩) len cap → len + m ≤ cap → v0 = .slice (some ⟨g, 0, none⟩) k cap ∧ k ≤ len + m ∧ ys = (xs ++ news).take (k * 4)) → (w1.setCell ⟨xb, i, none⟩ va).ownsRow 0 56 4 v0 k ys) ∧
      (∀ j, va.ownBlock = some j → v.ownBlock = some j ∨ w.heap.size ≤ j) := by
  have hx1 : w1.heap[xb]? = some (.cells X 75 (0, 0)) := kept_block (hl.alloc o) hg1 (alloc_block hx o) (by decide)
  have hc1 : Chg S w w1 := (hch.alloc o).trans (Chg.of_grown hg1 (fun j hj => (hS j hj)))
  have hset : Chg (fun j => j = xb) w1 (w1.setCell ⟨xb, i, none⟩ va) := (Chg.refl (fun j => j = xb) w1).setCell (p := ⟨xb, i, none⟩) (Or.inr rfl) _
  have keep : ∀ v0 k ys, w1.ownsRow 0 56 4 v0 k ys → (w1.setCell ⟨xb, i, none⟩ va).ownsRow 0 56 4 v0 k ys := fun v0 k ys h => owns_chg h hset (fun j hj e => by subst e; exact owns_ne h hx1 (by decide) hj)
  refine ⟨block_setCell hx1, hc1.setCell (p := ⟨xb, i, none⟩) (Or.inl hxb) _, keep _ _ _ (app_pre hown1 happ (hl.alloc o) (fun g cap hv hr => ⟨hv, by omega, ?_⟩)), keep _ _ _ hown1, fun v0 k ys h hp => keep _ _ _ (app_pre hown1 happ (h.alloc o) hp), fun j hj => ?_⟩
  · rw [← hl.1, List.take_left]
  · rcases happ.block with e | e
    · rw [e] at hj; exact Or.inl hj
    · rw [e] at hj; simp at hj
      have := hch.size
      exact Or.inr (by omega)

theorem keptF_end {w wr w6 w7 : World} {b base : Nat} {m : Int} {cs : Array Value} {kv kvk fv fv' v va vb vc : Value} {ps : List (Fr × Value)} {recs rs : List RecB} {frs : List FRec} {X : List Value} {o : Obj} (hK : KLoop w wr b cs kv ps recs ps.length kvk rs) (hF : FrsOwn w base v ps) (hB : w.heap[b]? = some (.cells cs 46 (0, 0)))
    (hR : w.ownsRow 0 65 5 kv recs.length (recCells recs)) (hRF : w.ownsRow 0 75 5 fv frs.length (frCells frs))
    (hch6 : Chg (fun j => v.ownBlock = some j) wr w6) (hfam : FamF w6 ⟨v, va, vb, vc, m, ps.length⟩) (hba : ∀ j, va.ownBlock = some j → v.ownBlock = some j ∨ wr.heap.size ≤ j) (hbb : ∀ j, vb.ownBlock = some j → v.ownBlock = some j ∨ wr.heap.size ≤ j) (hbc : ∀ j, vc.ownBlock = some j → v.ownBlock = some j ∨ wr.heap.size ≤ j)
    (hX : X = [v, va, vb, vc, .int .i64 m]) (hown7 : w7.ownsRow 0 75 5 fv' (frs.length + 1) (frCells frs ++ X)) (hg7 : (w6.alloc o).drew.grownBy w7 fv.ownBlock) (happ7 : Appd (w6.alloc o).drew w7 fv fv' frs.length 1) (hb7 : w7.heap[b]? = some (.cells (cs.setIfInBounds 9 kvk) 46 (0, 0))) :
    ∃ r, KeptF w (w7.setCell ⟨b, 12, none⟩ fv') b cs kv fv v ps recs frs kvk fv' rs r := by
  have hall : ps.take ps.length = ps := List.take_length
  have hsz := hK.chg.size
  have hsz6 := hch6.size
  have old : ∀ {base' e s n : Nat} {u : Value} {ys : List Value}, w.ownsRow base' e s u n ys → e ≠ 46 → 65 ≠ e → 5 ≠ e → wr.ownsRow base' e s u n ys := by
    intro base' e s n u ys hu h1 h2 h3
    refine owns_chg hu hK.chg fun j hj => ?_
    rintro (q | q | q)
    · subst q; exact owns_ne hu hB h1 hj
    · exact rows_ne hR hu h2 q hj
    · obtain ⟨p, hp, q⟩ := mem_bodyBlocks.1 q
      exact rows_ne (hF.body p (List.mem_of_mem_take hp)) hu h3 q hj
  have hrf := old hRF (by decide) (by decide) (by decide)
  have hvr := old hF.row (by decide) (by decide) (by decide)
  have hb6 : w6.heap[b]? = some (.cells (cs.setIfInBounds 9 kvk) 46 (0, 0)) := by
    rw [hch6.block b (lt_of_block hK.blk) (owns_ne hvr hK.blk (by decide))]; exact hK.blk
  have hrb6 := owns_chg hK.rowB hch6 (fun j hj e => rows_ne hK.rowB hvr (by decide) hj e)
  have hrf6 := owns_chg hrf hch6 (fun j hj e => rows_ne hrf hvr (by decide) hj e)
  have hc7 : Chg (fun j => fv.ownBlock = some j) w6 w7 := (((Chg.refl _ w6).alloc o).drew).trans (Chg.of_grown hg7 (fun j hj => Or.inr hj))
  have hset : Chg (fun j => j = b) w7 (w7.setCell ⟨b, 12, none⟩ fv') := (Chg.refl (fun j => j = b) w7).setCell (p := ⟨b, 12, none⟩) (Or.inr rfl) _
  have hc8 : Chg (fun j => j = b ∨ fv.ownBlock = some j) w6 (w7.setCell ⟨b, 12, none⟩ fv') := (hc7.mono (fun j _ hj => Or.inr hj)).trans (hset.mono (fun j _ hj => Or.inr (Or.inl hj)))
  have new : ∀ {base' e s n : Nat} {u : Value} {ys : List Value}, w6.ownsRow base' e s u n ys → e ≠ 46 → 75 ≠ e → (w7.setCell ⟨b, 12, none⟩ fv').ownsRow base' e s u n ys := by
    intro base' e s n u ys hu h1 h2
    refine owns_chg hu hc8 fun j hj => ?_
    rintro (q | q)
    · subst q; exact owns_ne hu hb6 h1 hj
    · exact rows_ne hrf6 hu h2 q hj
  refine ⟨⟨v, va, vb, vc, m, ps.length⟩, ⟨block_setCell hb7, new hrb6 (by decide) (by decide), ?_, hK.len, ?_, hK.ok, ⟨new hfam.l (by decide) (by decide), new hfam.a (by decide) (by decide), new hfam.b (by decide) (by decide), new hfam.c (by decide) (by decide)⟩, rfl, ?_, ?_, ?_, hK.kvb, ?_⟩⟩
  · rw [List.length_append, frCells_append]
    refine owns_chg (w := w7) ?_ hset (fun j hj e => by subst e; exact owns_ne hown7 hb7 (by decide) hj)
    rw [hX] at hown7
    exact hown7
  · intro x hx
    have hf := hK.fam x hx
    have s6 : ∀ {u : Value} {n : Nat} {ys : List Value}, wr.ownsRow 0 5 1 u n ys → (w7.setCell ⟨b, 12, none⟩ fv').ownsRow 0 5 1 u n ys := fun hu => new (owns_chg hu hch6 (fun j hj e => rows_ne hvr hu (by decide) e hj)) (by decide) (by decide)
    exact ⟨s6 hf.l, s6 hf.a, s6 hf.b, s6 hf.c⟩
  · intro x hx u hu j hj
    have := hK.blks x hx u hu j hj
    rwa [hall] at this
  · intro u hu j hj
    simp at hu
    rcases hu with rfl | rfl | rfl | rfl
    · exact Or.inl hj
    · rcases hba j hj with a | a
      · exact Or.inl a
      · exact Or.inr (by omega)
    · rcases hbb j hj with a | a
      · exact Or.inl a
      · exact Or.inr (by omega)
    · rcases hbc j hj with a | a
      · exact Or.inl a
      · exact Or.inr (by omega)
  · refine ((hK.chg.mono (fun j _ hj => ?_)).trans (hch6.mono (fun j _ hj => Or.inr (Or.inr (Or.inr (Or.inr (Or.inl hj))))))).trans (hc8.mono (fun j _ hj => ?_))
    · rw [hall] at hj
      rcases hj with e | e | e
      · exact Or.inl e
      · exact Or.inr (Or.inl e)
      · exact Or.inr (Or.inr (Or.inr (Or.inr e)))
    · rcases hj with e | e
      · exact Or.inr (Or.inl e)
      · exact Or.inr (Or.inr (Or.inr (Or.inl e)))
  · intro j hj
    rcases happ7.block with e | e
    · rw [e] at hj; exact Or.inl hj
    · rw [e] at hj; simp at hj
      exact Or.inr (by omega)

theorem vrow_at {w wr : World} {b base k : Nat} {cs : Array Value} {kv v kvk : Value} {ps : List (Fr × Value)} {recs rs : List RecB} (hK : KLoop w wr b cs kv ps recs k kvk rs) (hF : FrsOwn w base v ps) (hB : w.heap[b]? = some (.cells cs 46 (0, 0))) (hR : w.ownsRow 0 65 5 kv recs.length (recCells recs)) : wr.ownsRow base 56 4 v ps.length (cellsOf ps) := by
  refine owns_chg hF.row hK.chg fun j hj => ?_
  rintro (q | q | q)
  · subst q; exact owns_ne hF.row hB (by decide) hj
  · exact rows_ne hR hF.row (by decide) q hj
  · obtain ⟨p, hp, q⟩ := mem_bodyBlocks.1 q
    exact rows_ne (hF.body p (List.mem_of_mem_take hp)) hF.row (by decide) q hj
theorem frow_at {w wr : World} {b base k n : Nat} {cs : Array Value} {kv fv v kvk : Value} {ps : List (Fr × Value)} {recs rs : List RecB} {ys : List Value} (hK : KLoop w wr b cs kv ps recs k kvk rs) (hF : FrsOwn w base v ps) (hB : w.heap[b]? = some (.cells cs 46 (0, 0))) (hR : w.ownsRow 0 65 5 kv recs.length (recCells recs)) (hRF : w.ownsRow 0 75 5 fv n ys) : wr.ownsRow 0 75 5 fv n ys := by
  refine owns_chg hRF hK.chg fun j hj => ?_
  rintro (q | q | q)
  · subst q; exact owns_ne hRF hB (by decide) hj
  · exact rows_ne hR hRF (by decide) q hj
  · obtain ⟨p, hp, q⟩ := mem_bodyBlocks.1 q
    exact rows_ne (hF.body p (List.mem_of_mem_take hp)) hRF (by decide) q hj
theorem set_same {cs : Array Value} {i : Nat} {x : Value} (h : cs[i]? = some x) : cs.setIfInBounds i x = cs := by
  obtain ⟨hi, hx⟩ := Array.getElem?_eq_some_iff.1 h
  apply Array.ext
  · simp
  · intro j h1 h2
    rw [Array.getElem_setIfInBounds]
    split
    · next e => subst e; exact hx.symm
    · rfl
theorem set_at {cs : Array Value} {i : Nat} {x y : Value} (h : cs[i]? = some x) : (cs.setIfInBounds i y)[i]? = some y := by
  obtain ⟨hi, hx⟩ := Array.getElem?_eq_some_iff.1 h
  simp [hi]
theorem set_other {cs : Array Value} {i j : Nat} {x y : Value} (h : cs[j]? = some x) (hne : i ≠ j) : (cs.setIfInBounds i y)[j]? = some x := by
  rw [Array.getElem?_setIfInBounds, if_neg hne]; exact h
theorem cellsOf_get4 {ps : List (Fr × Value)} {k : Nat} (h : k < ps.length) : (cellsOf ps)[k * 4 + 3]? = some ps[k].2 := by
  induction ps generalizing k with
  | nil => simp at h
  | cons p r ih =>
    cases k with
    | zero => simp [cellsOf]
    | succ k =>
      simp only [List.length_cons] at h
      have := ih (k := k) (by omega)
      rw [Nat.succ_mul]
      simpa [cellsOf, Nat.add_assoc] using this

/-- The second loop: the marks, laid one by one. -/
def fillK (m : Int) (k : Nat) (xs : List Value) : List Value := fillF m k ++ xs.drop (k * 4)
theorem fillK_succ {m : Int} {k : Nat} {xs : List Value} (h : k * 4 + 4 ≤ xs.length) : ((((fillK m k xs).set (k * 4) (.int .i64 m)).set (k * 4 + 1) (.int .i64 m)).set (k * 4 + 2) (.int .i64 m)).set (k * 4 + 3) (.slice none 0 0) = fillK m (k + 1) xs := by
  unfold fillK
  have hl := fillF_length m k
  rw [set_next _ hl (by omega)]
  rw [set_next _ (by simp [hl]) (by omega)]
  rw [set_next _ (by simp [hl]) (by omega)]
  rw [set_next _ (by simp [hl]) (by omega)]
  rw [fillF_add, Nat.succ_mul]
  simp [fillF]
theorem fillK_all {m : Int} {n : Nat} {xs : List Value} (h : xs.length = n * 4) : fillK m n xs = fillF m n := by
  unfold fillK
  rw [List.drop_of_length_le (by omega)]
  simp
theorem fillK_length {m : Int} {k n : Nat} {xs : List Value} (h : xs.length = n * 4) (hk : k ≤ n) : (fillK m k xs).length = n * 4 := by
  unfold fillK
  rw [List.length_append, fillF_length, List.length_drop, h]
  omega
end Go.Proofs.YtckeblkadiehbaaGreat
