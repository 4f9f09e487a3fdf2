import Derived.Test.YtpmmpbklpclnhaaDoorBkPairP
set_option linter.unusedVariables false
set_option linter.unusedSimpArgs false
/-
  Package blocks: (*Packer).Pack.
-/
namespace Go.Proofs.YtpmmpbklpclnhaaDoor
set_option linter.unusedVariables false
set_option linter.unusedSimpArgs false
open Go.RowKit

theorem Pkd.lay {w w1 w2 : World} {gv v v2 : Value} {l l2 : List UInt8} {pb : Nat} {cs cs1 : Array Value} {tP : TypeId} {lim : Nat} {tv tv1 : Value} {tab : List HP} (h : Pkd w w1 pb cs cs1 tP lim tv tv1 tab gv v l) (k : Laid w1 v w2 v2 l2) (htP : tP ≠ 5) : Pkd w w2 pb cs cs1 tP lim tv tv1 tab gv v2 l2 :=
  ⟨k.own, k.tab h.own h.st htP, h.cs3, h.chg.trans (k.chg.mono fun j _ e => by
    rcases h.fresh j e with a | a
    · exact Or.inr (Or.inl a)
    · exact Or.inl a), fun j hj => by
    rcases k.fresh j hj with e | e
    · exact h.fresh j e
    · exact Or.inr (Nat.le_trans h.chg.size e), h.tfresh⟩
theorem Pkd.turn {w w3 w6 : World} {gv v : Value} {l : List UInt8} {pb : Nat} {cs cs1 cs' : Array Value} {tP : TypeId} {lim lim' : Nat} {tv tv1 tv' : Value} {tab tab' : List HP} (h : Pkd w w3 pb cs cs1 tP lim tv tv1 tab gv v l) (h6 : TbTo w3 w6 pb cs1 cs' tP lim' tv1 tv' tab') (htP : tP ≠ 5) : Pkd w w6 pb cs cs' tP lim' tv tv' tab' gv v l := by
  have hsz := h.chg.size
  refine ⟨owns_chg h.own h6.chg ?_, h6.st, fun i hi => (h6.cs3 i hi).trans (h.cs3 i hi), h.chg.trans (h6.chg.mono ?_), h.fresh, fun j hj => ?_⟩
  · rintro j hj (e | e)
    · subst e; exact owns_ne h.own h.st.tb.blk (fun e => htP e.symm) hj
    · exact rows_ne h.own h.st.row (by decide) hj e
  · rintro j _ (e | e)
    · exact Or.inr (Or.inr (Or.inl e))
    · rcases h.tfresh j e with a | a
      · exact Or.inr (Or.inr (Or.inr a))
      · exact Or.inl a
  · rcases h6.own j hj with e | e
    · exact h.tfresh j e
    · exact Or.inr (Nat.le_trans hsz e)
theorem Pkd.trans {w w1 w2 : World} {gv v v2 : Value} {l l2 : List UInt8} {pb : Nat} {cs cs1 cs2 : Array Value} {tP : TypeId} {lim lim2 : Nat} {tv tv1 tv2 : Value} {tab tab2 : List HP} (h : Pkd w w1 pb cs cs1 tP lim tv tv1 tab gv v l) (k : Pkd w1 w2 pb cs1 cs2 tP lim2 tv1 tv2 tab2 v v2 l2) : Pkd w w2 pb cs cs2 tP lim2 tv tv2 tab2 gv v2 l2 := by
  have hsz := h.chg.size
  refine ⟨k.own, k.st, fun i hi => (k.cs3 i hi).trans (h.cs3 i hi), h.chg.trans (k.chg.mono ?_), fun j hj => ?_, fun j hj => ?_⟩
  · rintro j _ (e | e | e)
    · rcases h.fresh j e with a | a
      · exact Or.inr (Or.inl a)
      · exact Or.inl a
    · exact Or.inr (Or.inr (Or.inl e))
    · rcases h.tfresh j e with a | a
      · exact Or.inr (Or.inr (Or.inr a))
      · exact Or.inl a
  · rcases k.fresh j hj with e | e
    · exact h.fresh j e
    · exact Or.inr (Nat.le_trans hsz e)
  · rcases k.tfresh j hj with e | e
    · exact h.tfresh j e
    · exact Or.inr (Nat.le_trans hsz e)

def nCells (l : List Nat) : List Value := l.map fun (x : Nat) => Value.int .i64 (x : Int)
/-- A packer's block. -/
structure PkS (w : World) (pb : Nat) (cs : Array Value) (tv lv : Value) (p : Pk) : Prop where
  st : TbS w pb cs 50 p.lim tv p.tab
  c3 : cs[3]? = some lv
  row : w.ownsRow 0 3 1 lv p.wait.length (nCells p.wait)
  few : p.wait.length ≤ 2
  ok : ∀ x ∈ p.wait, x ≤ 256
/-- A list of pairs, somewhere in memory. -/
def HsIn (w : World) (v : Value) (hs : List HP) : Prop :=
  (v = .slice none 0 0 ∧ hs = []) ∨ ∃ bb off cap, v = .slice (some ⟨bb, off, none⟩) hs.length cap ∧ bb < w.heap.size ∧ ∀ i (h : i < hs.length), w.cell? ⟨bb, off + i * 2, none⟩ = some (.string hs[i].n) ∧ w.cell? ⟨bb, off + i * 2 + 1, none⟩ = some (.string hs[i].v)
theorem HsIn.chg {S : Nat → Prop} {w w' : World} {v : Value} {hs : List HP} (h : HsIn w v hs) (hc : Chg S w w') (hsep : ∀ j, v.ownBlock = some j → ¬ S j) : HsIn w' v hs := by
  rcases h with h | ⟨bb, off, cap, rfl, h1, h2⟩
  · exact Or.inl h
  · refine Or.inr ⟨bb, off, cap, rfl, Nat.lt_of_lt_of_le h1 hc.size, fun i hi => ?_⟩
    rw [hc.cell (p := ⟨bb, off + i * 2, none⟩) h1 (hsep bb rfl), hc.cell (p := ⟨bb, off + i * 2 + 1, none⟩) h1 (hsep bb rfl)]
    exact h2 i hi
theorem HsIn.len {w : World} {v : Value} {hs : List HP} (h : HsIn w v hs) : ∃ sv cv, v = .slice sv hs.length cv := by
  rcases h with ⟨rfl, rfl⟩ | ⟨bb, off, cap, rfl, _⟩
  · exact ⟨_, _, rfl⟩
  · exact ⟨_, _, rfl⟩

theorem limsK_le {ls : List Nat} {lim : Nat} {l : List HP} : (limsK ls lim l).1.length ≤ ls.length * 1048580 ∨ ∃ x ∈ ls, 256 < x := by
  induction ls generalizing lim l with
  | nil => left; simp [limsK]
  | cons x r ih =>
    by_cases hx : 256 < x
    · exact Or.inr ⟨x, by simp, hx⟩
    · rcases ih (lim := x) (l := shr l x) with h | ⟨y, hy, h⟩
      · left
        have := cnt_len 32 5 x (by omega)
        simp only [limsK, List.length_append, List.length_cons]
        omega
      · exact Or.inr ⟨y, by simp [hy], h⟩
theorem limsK_take {ls : List Nat} (h : ∀ x ∈ ls, x ≤ 256) (k lim : Nat) (l : List HP) : (limsK (ls.take k) lim l).1.length ≤ ls.length * 1048580 := by
  rcases limsK_le (ls := ls.take k) (lim := lim) (l := l) with e | ⟨x, hx, e⟩
  · rw [List.length_take] at e
    exact Nat.le_trans e (Nat.mul_le_mul_right _ (by omega))
  · have := h x (List.mem_of_mem_take hx); omega
theorem txs_le (tab : List HP) (f k : Nat) (h : HP) (hl : tab.length ≤ 1048000) (hn : h.n.size ≤ 262144) (hv : h.v.size ≤ 262144) : (txs tab f k h).length ≤ 8388608 := by
  have h1 := nmF_le (numd tab) h.n
  rw [numd_length] at h1
  have h2 := cnt_len f k (nmF (numd tab) h.n) (by omega)
  have h3 := txt_le h.n.data.toList hn
  have h4 := txt_le h.v.data.toList hv
  unfold txs
  simp only [List.length_append]
  split
  · omega
  · simp; omega
theorem pairK_le (tab : List HP) (lim : Nat) (h : HP) (hl : tab.length ≤ 1048000) (hn : h.n.size ≤ 262144) (hv : h.v.size ≤ 262144) : (pairK tab lim h).1.length ≤ 8388608 := by
  unfold pairK
  split
  · split
    · exact txs_le _ _ _ _ hl hn hv
    · exact txs_le _ _ _ _ hl hn hv
  · have h1 := pnN_le (numd tab) h
    rw [numd_length] at h1
    have := cnt_len 128 7 (pnN (numd tab) h) (by omega)
    show (cnt 128 7 (pnN (numd tab) h)).length ≤ _
    omega
theorem pairK_fit {tab : List HP} {lim : Nat} {h : HP} (hf : szT tab ≤ lim) : szT (pairK tab lim h).2 ≤ lim := by
  unfold pairK
  split
  · split
    · exact hf
    · exact addT_size _ _ _ hf
  · exact hf
theorem pairsK_fit {hs : List HP} {tab : List HP} {lim : Nat} (hf : szT tab ≤ lim) : szT (pairsK hs tab lim).2 ≤ lim := by
  induction hs generalizing tab with
  | nil => exact hf
  | cons x r ih => simp only [pairsK]; exact ih (pairK_fit hf)
theorem pairsK_le {hs : List HP} {tab : List HP} {lim : Nat} (hf : szT tab ≤ lim) (hl : lim ≤ 256) (hh : ∀ h ∈ hs, h.n.size ≤ 262144 ∧ h.v.size ≤ 262144) : (pairsK hs tab lim).1.length ≤ hs.length * 8388608 := by
  induction hs generalizing tab with
  | nil => simp [pairsK]
  | cons x r ih =>
    have hx := hh x (by simp)
    have h1 := szT_len tab
    have h2 := pairK_le tab lim x (by omega) hx.1 hx.2
    have h3 := ih (tab := (pairK tab lim x).2) (pairK_fit hf) (fun y hy => hh y (by simp [hy]))
    simp only [pairsK, List.length_append, List.length_cons]
    omega
end Go.Proofs.YtpmmpbklpclnhaaDoor
