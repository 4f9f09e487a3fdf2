/-
  A reader more.
-/
import Derived.Test.YtckeblkadiehbaaGreatRdNext
namespace Go.Proofs.YtckeblkadiehbaaGreat
open Go.RowKit

section
variable {W0 V0 w : World} {b N : Nat} {gF gH gC gS rv kv fv : Value} {rds : List RdR} {recs : List RecB} {frs : List FRec}

theorem RInv.below (h : RInv W0 V0 w b gF gH gC gS rv kv fv rds recs frs N) {w' : World} (hb : Below w.heap.size w w') : RInv W0 V0 w' b gF gH gC gS rv kv fv rds recs frs N := by
  have hc : Chg (fun _ => False) w w' := Chg.of_below hb
  exact ⟨h.bk.below hb, owns_chg h.rowR hc (fun _ _ => id), fun r hr => ⟨rdT_chg (h.rd r hr).1 hc id (fun _ _ => id), (h.rd r hr).2.1.chg hc id (fun _ _ => id), (h.rd r hr).2.2⟩, h.ap1, h.ap2, h.ap3, h.new, h.rvV, h.kvV, h.fvV, h.b0, h.belV, h.chV.then_below hb, h.few⟩
theorem RInv.mono (h : RInv W0 V0 w b gF gH gC gS rv kv fv rds recs frs N) {N' : Nat} (hN : N ≤ N') : RInv W0 V0 w b gF gH gC gS rv kv fv rds recs frs N' :=
  ⟨h.bk, h.rowR, fun r hr => ⟨(h.rd r hr).1, (h.rd r hr).2.1, Nat.le_trans (h.rd r hr).2.2 hN⟩, h.ap1, h.ap2, h.ap3, h.new, h.rvV, h.kvV, h.fvV, h.b0, h.belV, h.chV, Nat.le_trans h.few.1 hN, Nat.le_trans h.few.2.1 hN, Nat.le_trans h.few.2.2 hN⟩

set_option maxHeartbeats 1600000 in
theorem rinv_reader {wX w3 : World} {xb pb : Nat} {rv' : Value} (h : RInv W0 V0 w b gF gH gC gS rv kv fv rds recs frs N) (hX : Below w.heap.size w wX) (hx0 : w.heap.size ≤ xb) (hp0 : w.heap.size ≤ pb) (hxb : RdB wX xb (.slice none 0 0) 0 0 0 0 0) (hpb : wX.heap[pb]? = some (.cells #[.slice none 0 0, .int .i64 0, .int .i64 0] 96 (0, 0)))
    (hown : w3.ownsRow 0 98 2 rv' (rds.length + 1) (rdCells rds ++ [.pointer (some ⟨xb, 0, none⟩), .pointer (some ⟨pb, 0, none⟩)])) (hg : wX.grownBy w3 rv.ownBlock) (hfr : rv'.ownBlock = rv.ownBlock ∨ rv'.ownBlock = some wX.heap.size) :
    RInv W0 V0 (w3.setCell ⟨b, 4, none⟩ rv') b gF gH gC gS rv' kv fv (rds ++ [⟨xb, pb, .slice none 0 0, .slice none 0 0, []⟩]) recs frs (N + 1) := by
  have zV := h.chV.size
  have zX := hX.size
  have blt := lt_of_block h.bk.blk
  have rlo : ∀ j, rv.ownBlock = some j → j < w.heap.size := fun j e => owns_lt h.rowR e
  have rowX : wX.ownsRow 0 98 2 rv rds.length (rdCells rds) := owns_chg h.rowR (Chg.of_below (S := fun _ => False) hX) (fun _ _ => id)
  have bX : wX.heap[b]? = some (.cells (lw gF gH gC gS rv kv fv) 46 (0, 0)) := told_kept h.bk.blk hX
  have b3 := kept_block rowX hg bX (by decide)
  have c3 : Chg (fun j => rv.ownBlock = some j) wX w3 := Chg.of_grown hg (fun j e => e)
  have hset : Chg (fun j => j = b) w3 (w3.setCell ⟨b, 4, none⟩ rv') := (Chg.refl (fun j => j = b) w3).setCell (p := ⟨b, 4, none⟩) (Or.inr rfl) _
  have cX : Chg (fun j => rv.ownBlock = some j ∨ j = b) wX (w3.setCell ⟨b, 4, none⟩ rv') := (c3.mono (fun j _ e => Or.inl e)).trans (hset.mono (fun j _ e => Or.inr (Or.inr e)))
  have c : Chg (fun j => rv.ownBlock = some j ∨ j = b) w (w3.setCell ⟨b, 4, none⟩ rv') := (Chg.of_below hX).trans (cX.mono (fun j _ e => Or.inr e))
  have keep : ∀ {base e s n : Nat} {u : Value} {ys : List Value}, w.ownsRow base e s u n ys → e ≠ 46 → 98 ≠ e → ∀ j, u.ownBlock = some j → ¬ (rv.ownBlock = some j ∨ j = b) := by
    rintro base e s n u ys hu h1 h2 j hj (q | q)
    · exact rows_ne h.rowR hu h2 q hj
    · subst q; exact owns_ne hu h.bk.blk h1 hj
  have rsep : ∀ {r : RdR}, r ∈ rds → ∀ k, RB r k → ¬ (rv.ownBlock = some k ∨ k = b) := by
    rintro r hr k hk (q | q)
    · exact h.not_row hr h.rowR (by decide) (by decide) (by decide) k q hk
    · exact (h.books_apart hr k hk).1 q
  have hnil : ∀ k, (Value.slice none 0 0).ownBlock ≠ some k := fun k e => by simp [Value.ownBlock] at e
  have hnew : RdT (w3.setCell ⟨b, 4, none⟩ rv') xb (.slice none 0 0) (feed [] []).2 ∧ RfS (w3.setCell ⟨b, 4, none⟩ rv') pb (.slice none 0 0) [] := by
    have t1 : RdT wX xb (.slice none 0 0) (feed [] []).2 := Or.inl ⟨rfl, ⟨fun h6 => by simp [feed] at h6, World.ownsRow_nil _ _ _ _, 0, 0, 0, 0, hxb, fun h6 => by simp [feed] at h6⟩⟩
    have t2 : RfS wX pb (.slice none 0 0) [] := ⟨hpb, World.ownsRow_nil _ _ _ _⟩
    refine ⟨rdT_chg t1 cX ?_ (fun k e => absurd e (hnil k)), t2.chg cX ?_ (fun k e => absurd e (hnil k))⟩
    · rintro (q | q)
      · have := rlo _ q; omega
      · omega
    · rintro (q | q)
      · have := rlo _ q; omega
      · omega
  have hget : ∀ j (hj : j < (rds ++ [(⟨xb, pb, .slice none 0 0, .slice none 0 0, []⟩ : RdR)]).length), (j = rds.length ∧ (rds ++ [(⟨xb, pb, .slice none 0 0, .slice none 0 0, []⟩ : RdR)])[j] = ⟨xb, pb, .slice none 0 0, .slice none 0 0, []⟩) ∨ ∃ hj' : j < rds.length, (rds ++ [(⟨xb, pb, .slice none 0 0, .slice none 0 0, []⟩ : RdR)])[j] = rds[j] := by
    intro j hj
    by_cases e : j < rds.length
    · right; exact ⟨e, by rw [List.getElem_append_left e]⟩
    · left
      have e2 : j = rds.length := by simp at hj; omega
      subst e2
      exact ⟨rfl, by simp⟩
  have hxl : ∀ {r : RdR}, r ∈ rds → r.xb < w.heap.size ∧ r.pb < w.heap.size := fun hr => ⟨h.rb_lt hr (Or.inl rfl), h.rb_lt hr (Or.inr (Or.inr (Or.inl rfl)))⟩
  refine ⟨⟨?_, rfl, rfl, rfl, rfl, rfl, owns_chg h.bk.rowB c (keep h.bk.rowB (by decide) (by decide)), owns_chg h.bk.rowF c (keep h.bk.rowF (by decide) (by decide)), ?_, ?_, h.bk.okB, h.bk.okF⟩, ?_, ?_, ?_, ?_, ?_, ?_, ?_, h.kvV, h.fvV, h.b0, h.belV, ?_, ?_⟩
  · rw [block_setCell b3]; rfl
  · intro x hx
    have hf := h.bk.famB x hx
    exact ⟨owns_chg hf.l c (keep hf.l (by decide) (by decide)), owns_chg hf.a c (keep hf.a (by decide) (by decide)), owns_chg hf.b c (keep hf.b (by decide) (by decide)), owns_chg hf.c c (keep hf.c (by decide) (by decide))⟩
  · intro x hx
    have hf := h.bk.famF x hx
    exact ⟨owns_chg hf.l c (keep hf.l (by decide) (by decide)), owns_chg hf.a c (keep hf.a (by decide) (by decide)), owns_chg hf.b c (keep hf.b (by decide) (by decide)), owns_chg hf.c c (keep hf.c (by decide) (by decide))⟩
  · rw [List.length_append, rdCells_append]
    exact owns_chg hown hset (fun j hj e => by subst e; exact owns_ne hown b3 (by decide) hj)
  · intro r hr
    rcases List.mem_append.1 hr with hr | hr
    · obtain ⟨a1, a2, a3⟩ := h.rd r hr
      exact ⟨rdT_chg a1 c (rsep hr _ (Or.inl rfl)) (fun k e => rsep hr k (Or.inr (Or.inl e))), a2.chg c (rsep hr _ (Or.inr (Or.inr (Or.inl rfl)))) (fun k e => rsep hr k (Or.inr (Or.inr (Or.inr e)))), by omega⟩
    · simp only [List.mem_cons, List.not_mem_nil, or_false] at hr
      subst hr
      exact ⟨hnew.1, hnew.2, by simp⟩
  · intro i j hi hj hne
    rcases hget i hi with ⟨ei, e⟩ | ⟨hi', e⟩
    · rcases hget j hj with ⟨ej, f⟩ | ⟨hj', f⟩
      · omega
      · rw [e, f]
        obtain ⟨l1, l2⟩ := hxl (List.getElem_mem hj')
        exact ⟨by show xb ≠ _; omega, by show pb ≠ _; omega, fun k q => absurd q (hnil k), fun k q => absurd q (hnil k)⟩
    · rcases hget j hj with ⟨ej, f⟩ | ⟨hj', f⟩
      · rw [e, f]
        obtain ⟨l1, l2⟩ := hxl (List.getElem_mem hi')
        exact ⟨by show _ ≠ xb; omega, by show _ ≠ pb; omega, fun k _ => ⟨hnil k, hnil k⟩, fun k _ => hnil k⟩
      · rw [e, f]
        exact h.ap1 i j hi' hj' hne
  · intro r hr
    rcases List.mem_append.1 hr with hr | hr
    · exact h.ap2 r hr
    · simp only [List.mem_cons, List.not_mem_nil, or_false] at hr
      subst hr
      exact fun k q => absurd q (hnil k)
  · intro r hr
    rcases List.mem_append.1 hr with hr | hr
    · exact h.ap3 r hr
    · simp only [List.mem_cons, List.not_mem_nil, or_false] at hr
      subst hr
      rintro k (q | q)
      · exact absurd q (hnil k)
      · exact absurd q (hnil k)
  · intro r hr
    rcases List.mem_append.1 hr with hr | hr
    · exact h.new r hr
    · simp only [List.mem_cons, List.not_mem_nil, or_false] at hr
      subst hr
      refine ⟨by show _ ≤ xb; omega, by show _ ≤ pb; omega, ?_⟩
      rintro k (q | q)
      · exact absurd q (hnil k)
      · exact absurd q (hnil k)
  · intro j hj
    rcases hfr with e | e
    · rw [e] at hj; exact h.rvV j hj
    · rw [e] at hj; simp at hj; omega
  · refine h.chV.trans (c.mono (fun j _ e => ?_))
    rcases e with e | e
    · exact Or.inl (h.rvV j e)
    · exact Or.inr e
  · obtain ⟨f1, f2, f3⟩ := h.few
    exact ⟨by simp; omega, by omega, by omega⟩
end
end Go.Proofs.YtckeblkadiehbaaGreat
