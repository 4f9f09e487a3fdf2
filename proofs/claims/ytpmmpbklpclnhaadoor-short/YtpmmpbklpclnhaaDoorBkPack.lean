import Derived.Test.YtpmmpbklpclnhaaDoorBkPure
set_option linter.unusedVariables false
set_option linter.unusedSimpArgs false
/-
  A list, packed, without the program; how long a block is.
-/
namespace Go.Proofs.YtpmmpbklpclnhaaDoor
set_option linter.unusedVariables false
set_option linter.unusedSimpArgs false

/-- A text. -/
def txt (t : List UInt8) : List UInt8 := if (bytesB (packB t)).length < t.length then cnt 128 7 (bytesB (packB t)).length ++ bytesB (packB t) else cnt 0 7 t.length ++ t
/-- Name and value. -/
def txs (l : List HP) (f k : Nat) (h : HP) : List UInt8 := cnt f k (nmF (numd l) h.n) ++ ((if nmF (numd l) h.n = 0 then txt h.n.data.toList else []) ++ txt h.v.data.toList)
/-- A pair; the table behind it. -/
def pairK (l : List HP) (lim : Nat) (h : HP) : List UInt8 × List HP :=
  if pnN (numd l) h = 0 then (if lim < tk h then (txs l 0 4 h, l) else (txs l 64 6 h, addT l lim h)) else (cnt 128 7 (pnN (numd l) h), l)
def pairsK : List HP → List HP → Nat → List UInt8 × List HP
  | [], l, _ => ([], l)
  | h :: r, l, lim => ((pairK l lim h).1 ++ (pairsK r (pairK l lim h).2 lim).1, (pairsK r (pairK l lim h).2 lim).2)
theorem pairsK_next {hs : List HP} {k : Nat} (h : k < hs.length) (l : List HP) (lim : Nat) :
    pairsK (hs.take (k + 1)) l lim = ((pairsK (hs.take k) l lim).1 ++ (pairK (pairsK (hs.take k) l lim).2 lim hs[k]).1, (pairK (pairsK (hs.take k) l lim).2 lim hs[k]).2) := by
  rw [List.take_succ_eq_append_getElem h]
  generalize hs.take k = a
  generalize hs[k] = x
  induction a generalizing l with
  | nil => simp [pairsK]
  | cons y r ih => simp only [List.cons_append, pairsK, ih, List.append_assoc]
/-- A packer: the limit, the table, the limits that wait. -/
structure Pk where
  lim : Nat
  tab : List HP
  wait : List Nat
def limsK : List Nat → Nat → List HP → List UInt8 × Nat × List HP
  | [], lim, l => ([], lim, l)
  | x :: r, _, l => (cnt 32 5 x ++ (limsK r x (shr l x)).1, (limsK r x (shr l x)).2)
theorem limsK_next {ls : List Nat} {k : Nat} (h : k < ls.length) (lim : Nat) (l : List HP) :
    limsK (ls.take (k + 1)) lim l = ((limsK (ls.take k) lim l).1 ++ cnt 32 5 ls[k], ls[k], shr (limsK (ls.take k) lim l).2.2 ls[k]) := by
  rw [List.take_succ_eq_append_getElem h]
  generalize ls.take k = a
  generalize ls[k] = x
  induction a generalizing lim l with
  | nil => simp [limsK]
  | cons y r ih => simp only [List.cons_append, limsK, ih, List.append_assoc]
def Pk.pack (p : Pk) (hs : List HP) : List UInt8 × Pk :=
  let a := limsK p.wait p.lim p.tab
  let b := pairsK hs a.2.2 a.2.1
  (a.1 ++ b.1, ⟨a.2.1, b.2, []⟩)
/-- What waits behind a Resize. -/
def Pk.resize (p : Pk) (n : Nat) : Pk :=
  { p with wait := if (match p.wait with | [] => n | x :: _ => min x n) < n then [(match p.wait with | [] => n | x :: _ => min x n), n] else [n] }

/-- Lists that may be. -/
def okH (h : HP) : Prop := 1 ≤ h.n.size ∧ h.n.size ≤ 40 ∧ h.v.size ≤ 40
theorem ba_len' (b : ByteArray) : b.data.toList.length = b.size := rfl

theorem cnt_one {f k n : Nat} (h : n < 2 ^ k - 1) : (cnt f k n).length = 1 := by unfold cnt; rw [if_pos h]; rfl
theorem cnt_pos (f k n : Nat) : 1 ≤ (cnt f k n).length := by unfold cnt; split <;> simp
theorem txt_len {t : List UInt8} (h : t.length ≤ 40) : 1 ≤ (txt t).length ∧ (txt t).length ≤ 1 + t.length := by
  unfold txt
  split
  · next hp =>
    rw [List.length_append, cnt_one (by omega)]
    omega
  · rw [List.length_append, cnt_one (by omega)]; omega
theorem txs_len {l : List HP} {f k : Nat} {h : HP} (hl : 8 + l.length < 2 ^ k - 1) (hh : okH h) : 1 ≤ (txs l f k h).length ∧ (txs l f k h).length ≤ 3 + h.n.size + h.v.size := by
  have h1 := nmF_le (numd l) h.n
  rw [numd_length] at h1
  have h2 := txt_len (t := h.n.data.toList) (by rw [ba_len']; exact hh.2.1)
  have h3 := txt_len (t := h.v.data.toList) (by rw [ba_len']; exact hh.2.2)
  rw [ba_len'] at h2 h3
  unfold txs
  simp only [List.length_append]
  rw [cnt_one (by omega)]
  split
  · omega
  · simp; omega
theorem pnN_le (l : List HP) (h : HP) : pnN l h ≤ l.length := by
  unfold pnN
  split
  · next i hi => have := (List.findIdx?_eq_some_iff_getElem.1 hi).1; omega
  · omega
theorem addT_length (l : List HP) (lim : Nat) (h : HP) : (addT l lim h).length ≤ l.length + 1 := by
  unfold addT shr
  split <;> simp <;> omega
theorem pairK_len {l : List HP} {h : HP} (hl : l.length ≤ 50) (hh : okH h) : 1 ≤ (pairK l 256 h).1.length ∧ (pairK l 256 h).1.length ≤ 3 + h.n.size + h.v.size ∧ (pairK l 256 h).2.length ≤ l.length + 1 := by
  obtain ⟨h1, h2, h3⟩ := hh
  unfold pairK
  split
  · rw [if_neg (by unfold tk; omega)]
    obtain ⟨a, b⟩ := txs_len (l := l) (f := 64) (k := 6) (by omega) ⟨h1, h2, h3⟩
    exact ⟨a, b, addT_length _ _ _⟩
  · have := pnN_le (numd l) h
    rw [numd_length] at this
    have h9 : (cnt 128 7 (pnN (numd l) h), l).2.length ≤ l.length + 1 := Nat.le_succ _
    have h8 := cnt_one (f := 128) (k := 7) (n := pnN (numd l) h) (by omega)
    exact ⟨by show 1 ≤ (cnt 128 7 (pnN (numd l) h)).length; omega, by show (cnt 128 7 (pnN (numd l) h)).length ≤ _; omega, h9⟩
/-- What a block has at most. -/
def mostK (hs : List HP) : Nat := (hs.map fun h => 3 + h.n.size + h.v.size).sum
theorem pairsK_len {hs : List HP} {l : List HP} (hl : l.length + hs.length ≤ 50) (hh : ∀ h ∈ hs, okH h) : hs.length ≤ (pairsK hs l 256).1.length ∧ (pairsK hs l 256).1.length ≤ mostK hs := by
  induction hs generalizing l with
  | nil => simp [pairsK, mostK]
  | cons h r ih =>
    simp only [List.length_cons] at hl
    obtain ⟨a, b, c⟩ := pairK_len (l := l) (by omega) (hh h (by simp))
    obtain ⟨d, e⟩ := ih (l := (pairK l 256 h).2) (by omega) (fun x hx => hh x (by simp [hx]))
    simp only [pairsK, List.length_append, List.length_cons, mostK, List.map_cons, List.sum_cons] at e ⊢
    omega

/-- Is the pair there? -/
def There (l : List HP) (h : HP) : Prop := pnN (numd l) h ≠ 0
theorem there_iff (l : List HP) (h : HP) : There l h ↔ ∃ x ∈ numd l, x.n.toList = h.n.toList ∧ x.v.toList = h.v.toList := by
  unfold There pnN pnF
  constructor
  · intro a
    split at a
    · next i hi =>
      obtain ⟨q, hx, _⟩ := List.findIdx?_eq_some_iff_getElem.1 hi
      exact ⟨_, List.getElem_mem q, by simpa using hx⟩
    · omega
  · rintro ⟨x, hx, hq⟩
    split
    · omega
    · next hi =>
      have := List.findIdx?_eq_none_iff.1 hi x hx
      simp [hq] at this
theorem There.more {l : List HP} {h : HP} (a : There l h) (b : List HP) : There (l ++ b) h := by
  obtain ⟨x, hx, e⟩ := (there_iff l h).1 a
  refine (there_iff _ h).2 ⟨x, ?_, e⟩
  unfold numd at hx ⊢
  simp only [List.reverse_append, List.mem_append] at hx ⊢
  exact hx.imp_right Or.inr
/-- What there is room for stays. -/
theorem pairK_there {l : List HP} {h : HP} (hf : szT l + tk h ≤ 256) : ∃ b, (pairK l 256 h).2 = l ++ b ∧ szT (l ++ b) ≤ szT l + tk h ∧ There (l ++ b) h := by
  unfold pairK
  split
  · rw [if_neg (by omega)]
    refine ⟨[h], ?_, by rw [szT_append, szT_cons]; simp [szT], ?_⟩
    · show addT l 256 h = _
      unfold addT
      rw [if_pos (by omega), shr_fits (by omega)]
    · exact (there_iff _ h).2 ⟨h, by simp [numd], rfl, rfl⟩
  · next hne => exact ⟨[], by simp, by simp, by simpa [There] using hne⟩
theorem pairsK_there {hs : List HP} {l : List HP} (hf : szT l + (hs.map tk).sum ≤ 256) : ∃ b, (pairsK hs l 256).2 = l ++ b ∧ ∀ h ∈ hs, There (l ++ b) h := by
  induction hs generalizing l with
  | nil => exact ⟨[], by simp [pairsK], by simp⟩
  | cons h r ih =>
    simp only [List.map_cons, List.sum_cons] at hf
    obtain ⟨b, e1, e2, e3⟩ := pairK_there (l := l) (h := h) (by omega)
    obtain ⟨c, f1, f2⟩ := ih (l := l ++ b) (by omega)
    refine ⟨b ++ c, by simp only [pairsK]; rw [e1, f1, List.append_assoc], fun x hx => ?_⟩
    rw [← List.append_assoc]
    rcases List.mem_cons.1 hx with rfl | hx
    · exact e3.more c
    · exact f2 x hx
theorem pairsK_again {hs : List HP} {l : List HP} (hl : l.length ≤ 50) (hh : ∀ h ∈ hs, There l h) : (pairsK hs l 256).1.length = hs.length ∧ (pairsK hs l 256).2 = l := by
  induction hs with
  | nil => simp [pairsK]
  | cons h r ih =>
    obtain ⟨a, b⟩ := ih (fun x hx => hh x (by simp [hx]))
    have ht := hh h (by simp)
    have hk : pairK l 256 h = (cnt 128 7 (pnN (numd l) h), l) := by unfold pairK; rw [if_neg ht]
    have hn := pnN_le (numd l) h
    rw [numd_length] at hn
    simp only [pairsK, hk, List.length_append, List.length_cons]
    rw [cnt_one (by omega)]
    exact ⟨by omega, b⟩
theorem pairsK_table {hs : List HP} {l : List HP} (h : szT l ≤ 256) : szT (pairsK hs l 256).2 ≤ 256 := by
  induction hs generalizing l with
  | nil => exact h
  | cons x r ih =>
    simp only [pairsK]
    refine ih ?_
    unfold pairK
    split
    · split
      · exact h
      · exact addT_size _ _ _ h
    · exact h
end Go.Proofs.YtpmmpbklpclnhaaDoor
