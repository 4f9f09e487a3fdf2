import Derived.Test.YtghongdbohjaaaaGreatDoorUGah
set_option linter.unusedVariables false
set_option linter.unusedSimpArgs false
/-
  What Pack leaves, of the program and of the document.
-/
namespace Go.Proofs.YtghongdbohjaaaaGreatDoor
set_option linter.unusedVariables false
set_option linter.unusedSimpArgs false
open Go.RowKit

theorem pairsB_bound {told : List Nat} {log : List Ch} {lim : Nat} {hs : List HP} (h1 : szT (tabL log) ≤ 256) (h2 : lim ≤ 256) (h3 : ∀ x ∈ told, x ≤ 256) (hn : ∀ h ∈ hs, prB h = true) :
    ∀ k, k ≤ hs.length → (pairsB (hs.take k) (limsB told log lim).2.1 (limsB told log lim).2.2).1.length ≤ k * 1000000 ∧ (pairsB (hs.take k) (limsB told log lim).2.1 (limsB told log lim).2.2).2.length ≤ (limsB told log lim).2.1.length + k := by
  intro k
  induction k with
  | zero => intro _; simp [pairsB]
  | succ k ih =>
    intro hk
    obtain ⟨a, b⟩ := ih (by omega)
    rw [pairsB_next (show k < hs.length by omega)]
    have hz40 : hs[k].n.size ≤ 40 ∧ hs[k].v.size ≤ 40 := by
      have hpr := hn hs[k] (List.getElem_mem _)
      unfold prB at hpr
      simp only [Bool.and_eq_true, decide_eq_true_eq] at hpr
      exact ⟨hpr.1.2, hpr.2⟩
    have hnm := num_small (hs := hs.take k) h1 h2 h3 (fun x hx => hn x (List.mem_of_mem_take hx))
    have hb := pairB_bits (lim := (limsB told log lim).2.2) (h := hs[k]) (log := (pairsB (hs.take k) (limsB told log lim).2.1 (limsB told log lim).2.2).2) (by omega) hz40.1 hz40.2
    have hl := pairB_log (pairsB (hs.take k) (limsB told log lim).2.1 (limsB told log lim).2.2).2 (limsB told log lim).2.2 hs[k]
    refine ⟨by simp only [List.length_append]; omega, ?_⟩
    simp only
    rcases hl with e | e
    · rw [e]; omega
    · rw [e]; simp; omega
theorem pairsB_chOk {log : List Ch} {lim : Int} {hs : List HP} (hok : chOk log) (hn : ∀ h ∈ hs, h.n.size ≤ 1048576 ∧ h.v.size ≤ 1048576) : chOk (pairsB hs log lim).2 := by
  induction hs generalizing log with
  | nil => exact hok
  | cons h r ih =>
    simp only [pairsB]
    exact ih (pairB_ok hok (hn h (by simp)).1 (hn h (by simp)).2).1 (fun x hx => hn x (by simp [hx]))
theorem limsB_chOk {told : List Nat} {log : List Ch} {lim : Int} (hok : chOk log) : chOk (limsB told log lim).2.1 := by
  unfold limsB
  split
  · exact hok
  · split
    · exact ok_lim (ok_lim hok _) _
    · exact ok_lim hok _

section
variable {W0 V0 w1 w2 w3 : World} {b N : Nat} {gF gH gC : Value} {gS : GX} {pv sv kv : Value} {prs : List PkR} {bls : List ByteArray} {recs : List RecB} {X : List Ob}

set_option maxHeartbeats 1600000 in
theorem pinv_packed (h : PInvX W0 V0 w1 b gF gH gC gS pv sv kv prs bls recs N X) (k : Nat) (hk : k < prs.length) {hs : List HP} (hlist : listB hs = true) {v : Value} {cs' : Array Value} {tv' : Value} {e : Ending}
    (hP : Packd w1 w2 prs[k].xb prs[k].tv v cs' tv' (prs[k].pk.pack hs)) (hR : RPacked w2 w3 prs[k].pb prs[k].av prs[k].bv prs[k].log prs[k].lim prs[k].told hs e) :
    ∃ mv r', e = .returned (.tuple #[mv, .int .i64 0]) ∧ w3.ownsRow w2.heap.size 5 1 mv (prs[k].pk.pack hs).1.length ((prs[k].pk.pack hs).1.map B) ∧ w3.ownsRow w1.heap.size 5 1 v (prs[k].pk.pack hs).1.length ((prs[k].pk.pack hs).1.map B) ∧
      PInvX W0 V0 w3 b gF gH gC gS pv sv kv (prs.set k r') bls recs (N + 1) X ∧ Chg (fun j => (pkOb prs[k]).F j ∨ (rpOb prs[k]).F j) w1 w3 ∧ (prs[k].pk.pack hs).1.length ≤ 1048576 := by
  have hm := List.getElem_mem hk
  have hrp := h.rp hm
  have hpk := h.pk hm
  have hsm := h.small hm
  have hlog := h.logs _ hm
  have h8 : hs.length ≤ 8 ∧ ∀ x ∈ hs, prB x = true := by
    unfold listB at hlist
    simp only [Bool.and_eq_true, decide_eq_true_eq, List.all_eq_true] at hlist
    exact hlist
  have hsz40 : ∀ x ∈ hs, x.n.size ≤ 1048576 ∧ x.v.size ≤ 1048576 := by
    intro x hx
    have hpr := h8.2 x hx
    unfold prB at hpr
    simp only [Bool.and_eq_true, decide_eq_true_eq] at hpr
    exact ⟨by omega, by omega⟩
  obtain ⟨b1, b2, b3⟩ := block_bits prs[k].told prs[k].log prs[k].lim hs (fun x hx => prB_pos (h8.2 x hx)) prs[k].pk rfl
  have hbd := pairsB_bound hsm hrp.limit.1 hrp.limit.2 h8.2 hs.length (Nat.le_refl _)
  rw [List.take_length] at hbd
  have hlb := limsB_bounds prs[k].log (prs[k].lim : Int) hrp.limit.2
  have hks := limsK_small (ws := waitOf prs[k].told) hsm hrp.limit.1 (wait_small hrp.limit.2)
  obtain ⟨mv, av', he, hmv, hblk, hrow, hcR, hav⟩ := hR
  have hlen : (blockB prs[k].told prs[k].log prs[k].lim hs).length / 8 = (prs[k].pk.pack hs).1.length := by rw [b1, bitsB_length]; omega
  have hbytes : bytesB (blockB prs[k].told prs[k].log prs[k].lim hs) = (prs[k].pk.pack hs).1 := by rw [b1, bytes_bits]
  rw [hlen, hbytes] at hmv
  have hsize : (prs[k].pk.pack hs).1.length ≤ 1048576 := by
    rw [← hlen]
    unfold blockB
    rw [List.length_append]
    have := h8.1
    omega
  have z1 := hP.chg.size
  have z2 := hcR.size
  have hxF : ∀ j, (pkOb prs[k]).F j → j < w1.heap.size := fun j hj => h.sep.lt (o := pkOb prs[k]) (PInvX.mem2 hm).1 hj
  have hpF : ∀ j, (rpOb prs[k]).F j → j < w1.heap.size := fun j hj => h.sep.lt (o := rpOb prs[k]) (PInvX.mem2 hm).2 hj
  have hpl : prs[k].pb < w1.heap.size := hpF _ (Or.inl rfl)
  have hxl : prs[k].xb < w1.heap.size := hxF _ (Or.inl rfl)
  have hc13 : Chg (fun j => (pkOb prs[k]).F j ∨ (rpOb prs[k]).F j) w1 w3 := (hP.chg.mono fun j _ e => by
      rcases e with e | e
      · exact Or.inl (Or.inl e)
      · exact Or.inl (Or.inr (Or.inl e))).trans (hcR.mono fun j _ e => by
      rcases e with e | e
      · exact Or.inr (Or.inr (Or.inl e))
      · exact Or.inr (Or.inr (Or.inr (Or.inl e))))
  have hsepR : ∀ j, (j = prs[k].pb ∨ prs[k].av.ownBlock = some j) → (rpOb prs[k]).F j := fun j e => by
    rcases e with e | e
    · exact Or.inl e
    · exact Or.inr (Or.inl e)
  have hv3 : w3.ownsRow w1.heap.size 5 1 v (prs[k].pk.pack hs).1.length ((prs[k].pk.pack hs).1.map B) := owns_chg hP.own hcR (fun j hj e => by have := (hP.own.lt j hj).1; have := hpF j (hsepR j e); omega)
  have hst := hP.st
  rw [b2] at hst
  have hF2 : ∀ j, (j = prs[k].xb ∨ tv'.ownBlock = some j) → ¬ (j = prs[k].pb ∨ prs[k].av.ownBlock = some j) := by
    rintro j hj hj2
    have h1 := hpF j (hsepR j hj2)
    rcases hj with e | e
    · exact h.two k hk (j := j) (Or.inl e) (hsepR j hj2)
    · rcases hP.tfresh j e with f | f
      · exact h.two k hk (j := j) (Or.inr (Or.inl f)) (hsepR j hj2)
      · omega
  have hnil : ∀ j, (Value.slice none 0 0).ownBlock ≠ some j := fun j e => by simp [Value.ownBlock] at e
  have hpk3 : PkS w3 prs[k].xb cs' tv' (.slice none 0 0) ⟨(limsK (waitOf prs[k].told) prs[k].lim (tabL prs[k].log)).2.1, tabL (pairsB hs (limsB prs[k].told prs[k].log prs[k].lim).2.1 (limsB prs[k].told prs[k].log prs[k].lim).2.2).2, []⟩ :=
    ⟨hst.st.chg hcR (hF2 _ (Or.inl rfl)) (fun j hj => hF2 j (Or.inr hj)), hst.c3, owns_chg hst.row hcR (fun j hj => absurd hj (hnil j)), hst.few, hst.ok⟩
  obtain ⟨bv', hbv⟩ : ∃ bv', bv' = if prs[k].told = [] then prs[k].bv else .slice none 0 0 := ⟨_, rfl⟩
  have hbvF : ∀ j, bv'.ownBlock = some j → prs[k].bv.ownBlock = some j := fun j hj => by
    rw [hbv] at hj
    split at hj
    · exact hj
    · exact absurd hj (hnil j)
  have hrowT : w3.ownsRow 0 3 1 bv' 0 (natCells []) := by
    rw [hbv]
    split
    · next ht =>
      have hr0 := hrp.rowT
      rw [ht] at hr0
      have hr2 := owns_chg hr0 hP.chg (fun j hj e => by
        rcases e with e | e
        · exact h.two k hk (j := j) (Or.inl e) (Or.inr (Or.inr hj))
        · exact h.two k hk (j := j) (Or.inr (Or.inl e)) (Or.inr (Or.inr hj)))
      refine owns_chg hr2 hcR (fun j hj e => ?_)
      rcases e with e | e
      · subst e; exact owns_ne hr0 hrp.blk (by decide) hj
      · exact rows_ne hr0 hrp.rowL (by decide) hj e
    · exact World.ownsRow_nil _ _ _ _
  have hrp3 : RpS w3 prs[k].pb av' bv' (pairsB hs (limsB prs[k].told prs[k].log prs[k].lim).2.1 (limsB prs[k].told prs[k].log prs[k].lim).2.2).2 (limsK (waitOf prs[k].told) prs[k].lim (tabL prs[k].log)).2.1 [] := by
    refine ⟨?_, hrow, hrowT, pairsB_chOk (limsB_chOk hrp.ok) hsz40, hks.2, by simp⟩
    rw [hblk, ← hbv, b3]
  have hnx := pinv_turn (r := ⟨prs[k].xb, cs', tv', .slice none 0 0, prs[k].pb, av', bv', (pairsB hs (limsB prs[k].told prs[k].log prs[k].lim).2.1 (limsB prs[k].told prs[k].log prs[k].lim).2.2).2, (limsK (waitOf prs[k].told) prs[k].lim (tabL prs[k].log)).2.1, []⟩) h k hk rfl rfl hc13 (fun j hj => hj) hpk3 hrp3 (by
      rintro j (e | e | e)
      · exact Or.inl (Or.inl e)
      · rcases hP.tfresh j e with f | f
        · exact Or.inl (Or.inr (Or.inl f))
        · exact Or.inr f
      · exact absurd e (hnil j)) (by
      rintro j (e | e | e)
      · exact Or.inl (Or.inl e)
      · rcases hav j e with f | f
        · exact Or.inl (Or.inr (Or.inl f))
        · exact Or.inr (by omega)
      · exact Or.inl (Or.inr (Or.inr (hbvF j e)))) (by
      rintro j hj (e | e | e) (f | f | f)
      · have h1 : j = prs[k].xb := e
        omega
      · have h1 : j = prs[k].xb := e
        omega
      · have h1 : j = prs[k].xb := e
        omega
      · have h1 : j = prs[k].pb := f
        omega
      · exact rows_ne hpk3.st.row hrow (by decide) e f
      · exact rows_ne hpk3.st.row hrowT (by decide) e f
      · exact absurd e (hnil j)
      · exact absurd e (hnil j)
      · exact absurd e (hnil j)) (N + 1) (by omega) ⟨Nat.le_trans hbd.2 (by have a := h8.1; have c := hlb.2; have d := hlog.1; omega), by simp⟩
  exact ⟨mv, _, he, hmv, hv3, hnx, hc13, hsize⟩

/-- A new list of bytes lies apart from all things of the law. -/
theorem PInvX.free (h : PInvX W0 V0 w1 b gF gH gC gS pv sv kv prs bls recs N X) {base n : Nat} {lv : Value} {xs : List Value} (hv : w1.ownsRow base 5 1 lv n xs) (hrec : ∀ x ∈ recs, ∀ u ∈ [x.l, x.a, x.b, x.c], ∀ j, u.ownBlock = some j → j < base) (hX : ∀ o ∈ X, ∀ j, o.F j → j < base) :
    ∀ o ∈ obsI pv sv kv prs bls recs X, ∀ j, lv.ownBlock = some j → ¬ o.F j := by
  intro o ho j hj hF
  unfold obsI restI at ho
  simp only [List.mem_append, List.mem_cons, List.mem_map, List.mem_flatMap] at ho
  rcases ho with (rfl | rfl | rfl | ⟨x, hx, rfl⟩ | ho) | ⟨r, hr, ho⟩
  · exact rows_ne hv h.rowP (by decide) hj hF
  · exact rows_ne hv h.rowS (by decide) hj hF
  · exact rows_ne hv h.rowB (by decide) hj hF
  · obtain ⟨u, hu, e⟩ := hF
    have h1 := hrec x hx u hu j e
    have h2 := (hv.lt j hj).1
    omega
  · have h1 := hX o ho j hF
    have h2 := (hv.lt j hj).1
    omega
  · simp only [twoOb, List.mem_cons, List.not_mem_nil, or_false] at ho
    rcases ho with rfl | rfl
    · have hp := h.pk hr
      rcases hF with e | e | e
      · subst e; exact owns_ne hv hp.st.tb.blk (by decide) hj
      · exact rows_ne hv hp.st.row (by decide) hj e
      · exact rows_ne hv hp.row (by decide) hj e
    · have hp := h.rp hr
      rcases hF with e | e | e
      · subst e; exact owns_ne hv hp.blk (by decide) hj
      · exact rows_ne hv hp.rowL (by decide) hj e
      · exact rows_ne hv hp.rowT (by decide) hj e
theorem PInvX.recs_lt (h : PInvX W0 V0 w1 b gF gH gC gS pv sv kv prs bls recs N X) : ∀ x ∈ recs, ∀ u ∈ [x.l, x.a, x.b, x.c], ∀ j, u.ownBlock = some j → j < w1.heap.size := by
  intro x hx u hu j e
  exact h.sep.lt (o := recOb x) (by unfold obsI restI; simp only [List.mem_append, List.mem_cons, List.mem_map]; exact Or.inl (Or.inr (Or.inr (Or.inr (Or.inl ⟨x, hx, rfl⟩))))) ⟨u, hu, e⟩
end
end Go.Proofs.YtghongdbohjaaaaGreatDoor
/-
  Lists of pairs that are lent.
-/
namespace Go.Proofs.YtghongdbohjaaaaGreatDoor
set_option linter.unusedVariables false
set_option linter.unusedSimpArgs false
open Go.RowKit

/-- What is lent of a list. -/
def LentV (w : World) (iv v : Value) (hs : List HP) : Prop := (v = .slice none 0 0 ∧ iv = .slice none 0 0 ∧ hs = []) ∨
  ∃ g ad c, v = .slice (some ad) hs.length c ∧ iv = .slice (some ⟨g, 0, none⟩) hs.length (hs.length + 4) ∧ w.heap[g]? = some (.cells (hpCells (lentH hs)).toArray 62 (0, 0))
def lentOb (iv v : Value) (hs : List HP) : Ob where
  P := fun w => LentV w iv v hs
  F := fun j => iv.ownBlock = some j
  lt := fun w j h hj => by
    rcases h with ⟨_, rfl, _⟩ | ⟨g, ad, c, _, rfl, h⟩
    · simp [Value.ownBlock] at hj
    · simp [Value.ownBlock] at hj; rw [← hj]; exact lt_of_block h
  chg := fun S w w' h hc hs => by
    rcases h with h | ⟨g, ad, c, h1, h2, h⟩
    · exact Or.inl h
    · exact Or.inr ⟨g, ad, c, h1, h2, by rw [hc.block g (lt_of_block h) (hs g (by rw [h2]; rfl))]; exact h⟩
theorem LentV.hs {w : World} {iv v : Value} {hs : List HP} (h : LentV w iv v hs) : HsIn w iv hs := by
  rcases h with ⟨_, h1, h2⟩ | ⟨g, ad, c, _, h1, h⟩
  · exact Or.inl ⟨h1, h2⟩
  · refine Or.inr ⟨g, 0, hs.length + 4, h1, lt_of_block h, fun i hi => ?_⟩
    have h2 : (lentH hs)[i]? = some hs[i] := by unfold lentH; rw [List.getElem?_append_left hi, List.getElem?_eq_getElem hi]
    have := hp_cells h h2
    rw [Nat.zero_add]
    exact this
theorem HsB.chg {S : Nat → Prop} {w w' : World} {v : Value} {hs : List HP} (h : HsB w v hs) (hc : Chg S w w') (hs' : ∀ j, v.ownBlock = some j → ¬ S j) : HsB w' v hs := by
  rcases h with h | h
  · exact Or.inl (h.chg hc hs')
  · exact Or.inr h
theorem HsB.form {w : World} {v : Value} {hs : List HP} (h : HsB w v hs) : ∃ sa ca, v = .slice sa hs.length ca := by
  rcases h with (⟨h1, h2⟩ | ⟨bb, off, cap, h1, _⟩) | ⟨ad, c, h1, h2⟩
  · subst h2; exact ⟨_, _, h1⟩
  · exact ⟨_, _, h1⟩
  · subst h2; exact ⟨_, _, h1⟩
theorem HsB.toA {w : World} {sa : Option Addr} {ca : Nat} {hs : List HP} (h : HsB w (.slice sa hs.length ca) hs) (hok : ∀ x ∈ hs, x.n.size ≤ 1048576 ∧ x.v.size ≤ 1048576) : HsA w sa hs := by
  refine ⟨fun k hk => ?_, hok⟩
  rcases h with (⟨_, h2⟩ | ⟨bb, off, cap, h1, h2, h3⟩) | ⟨ad, c, h1, h2⟩
  · rw [h2] at hk; simp at hk
  · simp only [Value.slice.injEq] at h1
    exact ⟨bb, off, h1.1, h2, (h3 k hk).1, (h3 k hk).2⟩
  · rw [h2] at hk; simp at hk

theorem lent_all (v : Value) (hs : List HP) (w : World) (h : HsB w v hs) (hl : hs.length ≤ 1048576) :
    Calls Tryz.prog 39 #[v] w fun e w' => ∃ iv, e = .returned iv ∧ LentV w' iv v hs ∧ Below w.heap.size w w' ∧ ∀ j, iv.ownBlock = some j → w.heap.size ≤ j := by
  have hb := h
  rcases HsIn.nil_or h with ⟨rfl, rfl⟩ | ⟨ad, c, rfl, hc⟩
  · refine (lentHeads_nil w).mono ?_
    rintro e w' ⟨rfl, rfl⟩
    exact ⟨_, rfl, Or.inl ⟨rfl, rfl, rfl⟩, Below.refl _ _, fun j hj => by simp [Value.ownBlock] at hj⟩
  · have hlt : 0 < hs.length → ad.block < w.heap.size := fun h0 => by
      rcases hb with (⟨_, h2⟩ | ⟨bb, off, cap, h1, h2, h3⟩) | ⟨ad', c', h1, h2⟩
      · rw [h2] at h0; simp at h0
      · simp only [Value.slice.injEq, Option.some.injEq] at h1
        rw [h1.1]; exact h2
      · rw [h2] at h0; simp at h0
    refine (lentHeads_any ad c hs w (by omega) hc hlt).mono ?_
    rintro e w' ⟨rfl, h1, h2⟩
    exact ⟨_, rfl, Or.inr ⟨_, ad, c, rfl, rfl, h1⟩, h2, fun j hj => by simp [Value.ownBlock] at hj; omega⟩
theorem whole_all (iv v : Value) (hs : List HP) (w : World) (hL : LentV w iv v hs) (h : HsB w v hs) (hl : hs.length ≤ 1048576) (hne : 0 < hs.length → ∀ j, v.ownBlock = some j → iv.ownBlock ≠ some j) :
    Calls Tryz.prog 42 #[iv, v] w fun e w' => e = .returned (.bool true) ∧ Chg (fun k => iv.ownBlock = some k) w w' := by
  rcases hL with ⟨rfl, rfl, rfl⟩ | ⟨g, ad, c, rfl, rfl, hg⟩
  · refine (wholeHeads_nil _ w).mono ?_
    rintro e w' ⟨rfl, rfl⟩
    exact ⟨rfl, Chg.refl _ _⟩
  · refine (wholeHeads_any g ad c hs w (by omega) hg fun k hk => ?_).mono ?_
    · rcases h with (⟨_, h2⟩ | ⟨bb, off, cap, h1, h2, h3⟩) | ⟨ad', c', h1, h2⟩
      · rw [h2] at hk; simp at hk
      · simp only [Value.slice.injEq, Option.some.injEq] at h1
        refine ⟨bb, off, h1.1, h2, fun e => ?_, (h3 k hk).1, (h3 k hk).2⟩
        exact hne (Nat.lt_of_le_of_lt (Nat.zero_le _) hk) bb (by rw [h1.1]; rfl) (by rw [e]; rfl)
      · rw [h2] at hk; simp at hk
    · rintro e w' ⟨rfl, hc⟩
      exact ⟨rfl, hc.mono fun k _ e => by rw [e]; rfl⟩

/-- Lists of pairs of the goods. -/
structure HdIn (w : World) (sh : Option Addr) (hss : List (List HP × Value)) : Prop where
  cell : ∀ k (h : k < hss.length), ∃ hb off, sh = some ⟨hb, off, none⟩ ∧ hb < w.heap.size ∧ w.cell? ⟨hb, off + k, none⟩ = some hss[k].2
  body : ∀ q ∈ hss, HsB w q.2 q.1 ∧ ∀ j, q.2.ownBlock = some j → 0 < q.1.length → j < w.heap.size
  len : ∀ q ∈ hss, q.1.length ≤ 1048576 ∧ ∀ x ∈ q.1, x.n.size ≤ 1048576 ∧ x.v.size ≤ 1048576
theorem HdIn.below {w w' : World} {sh : Option Addr} {hss : List (List HP × Value)} (h : HdIn w sh hss) (hb : Below w.heap.size w w') : HdIn w' sh hss := by
  refine ⟨fun k hk => ?_, fun q hq => ⟨(h.body q hq).1.chg (Chg.of_below (S := fun _ => False) hb) (fun _ _ => id), fun j hj h0 => Nat.lt_of_lt_of_le ((h.body q hq).2 j hj h0) hb.size⟩, h.len⟩
  obtain ⟨b, off, h1, h2, h3⟩ := h.cell k hk
  exact ⟨b, off, h1, Nat.lt_of_lt_of_le h2 hb.size, (hb.cell (p := ⟨b, off + k, none⟩) h2).trans h3⟩
end Go.Proofs.YtghongdbohjaaaaGreatDoor
