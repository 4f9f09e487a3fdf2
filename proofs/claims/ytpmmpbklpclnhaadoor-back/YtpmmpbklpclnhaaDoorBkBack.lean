import Derived.Test.YtpmmpbklpclnhaaDoorBkRead
import Derived.Test.YtpmmpbklpclnhaaDoorBkBa
set_option linter.unusedVariables false
set_option linter.unusedSimpArgs false
/-
  Blocks, unpacked, without the program: what was packed comes back.
-/
namespace Go.Proofs.YtpmmpbklpclnhaaDoor
set_option linter.unusedVariables false
set_option linter.unusedSimpArgs false

/-- A text. -/
def rdTxt : List UInt8 → Option (List UInt8 × List UInt8)
  | [] => none
  | c :: r => match rdCnt 7 c r with
    | none => none
    | some (n, q) => if q.length < n then none else if 128 ≤ c.toNat then (match unpB (bitsB (q.take n)) with
        | none => none
        | some t => some (t, q.drop n)) else some (q.take n, q.drop n)
/-- A pair's texts, behind the number of its name. -/
def rdTxs (tab : List HP) (n : Nat) (r : List UInt8) : Option (HP × List UInt8) :=
  match (if 0 < n then (match (numd tab)[n - 1]? with
      | none => none
      | some x => some (x.n.data.toList, r)) else rdTxt r) with
  | none => none
  | some (nm, q) => match rdTxt q with
    | none => none
    | some (vl, s) => some (⟨⟨nm.toArray⟩, ⟨vl.toArray⟩⟩, s)
/-- A pair; the table behind it; what is left. -/
def rdPair (tab : List HP) (lim : Nat) : List UInt8 → Option (HP × List HP × List UInt8)
  | [] => none
  | c :: r =>
    if 128 ≤ c.toNat then (match rdCnt 7 c r with
      | none => none
      | some (n, q) => if n = 0 then none else match (numd tab)[n - 1]? with
        | none => none
        | some x => some (x, tab, q))
    else if 64 ≤ c.toNat then (match rdCnt 6 c r with
      | none => none
      | some (n, q) => match rdTxs tab n q with
        | none => none
        | some (h, s) => some (h, addT tab lim h, s))
    else if c.toNat < 16 then (match rdCnt 4 c r with
      | none => none
      | some (n, q) => match rdTxs tab n q with
        | none => none
        | some (h, s) => some (h, tab, s))
    else none
def rdPairs : Nat → List HP → List HP → Nat → List UInt8 → Option (List HP × List HP)
  | 0, _, _, _, _ => none
  | _ + 1, acc, tab, _, [] => some (acc, tab)
  | f + 1, acc, tab, lim, c :: r => match rdPair tab lim (c :: r) with
    | none => none
    | some (h, tab', q) => if listB (acc ++ [h]) then rdPairs f (acc ++ [h]) tab' lim q else none
def rdLims (most : Nat) : Nat → Nat → List HP → List UInt8 → Option (Nat × List HP × List UInt8)
  | 0, lim, tab, r => some (lim, tab, r)
  | _ + 1, lim, tab, [] => some (lim, tab, [])
  | f + 1, lim, tab, c :: q => if c.toNat / 32 = 1 then (match rdCnt 5 c q with
      | none => none
      | some (n, s) => if most < n then none else rdLims most f n (shr tab n) s) else some (lim, tab, c :: q)
/-- An unpacker: the limit, the table, the greatest limit. -/
structure Up where
  lim : Nat
  tab : List HP
  most : Nat
def Up.unpack (u : Up) (b : List UInt8) : Option (List HP × Nat × List HP) := match rdLims u.most 2 u.lim u.tab b with
  | none => none
  | some (lim, tab, r) => match rdPairs 9 [] tab lim r with
    | none => none
    | some (hs, tab') => some (hs, lim, tab')

theorem ba_eq {a b : ByteArray} (h : a.toList = b.toList) : a = b := by
  rw [ba_toList, ba_toList] at h
  apply ByteArray.ext
  exact Array.toList_inj.1 h
theorem hp_eq {x h : HP} (h1 : x.n.toList = h.n.toList) (h2 : x.v.toList = h.v.toList) : x = h := by
  obtain ⟨a, b⟩ := x
  obtain ⟨c, d⟩ := h
  have := ba_eq h1
  have := ba_eq h2
  simp_all
theorem ba_back (b : ByteArray) : (⟨b.data.toList.toArray⟩ : ByteArray) = b := by cases b; simp

theorem rdTxt_txt {t r : List UInt8} (ht : t.length ≤ 40) : rdTxt (txt t ++ r) = some (t, r) := by
  unfold txt
  split
  · next hp =>
    obtain ⟨c, q, e1, e2, e3, e4⟩ := rdCnt_cnt (f := 128) (k := 7) (n := (bytesB (packB t)).length) (r := bytesB (packB t) ++ r) (by decide) (by decide) (by omega)
    rw [List.append_assoc, e1, List.cons_append]
    simp only [rdTxt]
    rw [e4]
    simp only
    rw [if_neg (by rw [List.length_append]; omega), if_pos e2, List.take_left, List.drop_left, bitsB_bytesB _ (packB_eight t), unpB_pack]
  · next hp =>
    obtain ⟨c, q, e1, e2, e3, e4⟩ := rdCnt_cnt (f := 0) (k := 7) (n := t.length) (r := t ++ r) (by decide) (by decide) (by omega)
    rw [List.append_assoc, e1, List.cons_append]
    simp only [rdTxt]
    rw [e4]
    simp only
    rw [if_neg (by rw [List.length_append]; omega), if_neg (by omega), List.take_left, List.drop_left]
theorem nmF_get {l : List HP} {n : ByteArray} (h : nmF l n ≠ 0) : ∃ x, l[nmF l n - 1]? = some x ∧ x.n = n := by
  unfold nmF at h ⊢
  split
  · next i hi =>
    obtain ⟨h1, h2, _⟩ := List.findIdx?_eq_some_iff_getElem.1 hi
    refine ⟨l[i], by simp [h1], ?_⟩
    simp only [beq_iff_eq] at h2
    exact ba_eq h2
  · next hi => rw [hi] at h; simp at h
theorem pnN_get {l : List HP} {h : HP} (hne : pnN l h ≠ 0) : l[pnN l h - 1]? = some h := by
  unfold pnN at hne ⊢
  split
  · next i hi =>
    unfold pnF at hi
    obtain ⟨h1, h2, _⟩ := List.findIdx?_eq_some_iff_getElem.1 hi
    simp only [decide_eq_true_eq] at h2
    have := hp_eq h2.1 h2.2
    simp [h1, this]
  · next hi => rw [hi] at hne; simp at hne
theorem rdTxs_txs {tab : List HP} {h : HP} {r : List UInt8} (ho : okH h) : rdTxs tab (nmF (numd tab) h.n) ((if nmF (numd tab) h.n = 0 then txt h.n.data.toList else []) ++ txt h.v.data.toList ++ r) = some (h, r) := by
  unfold rdTxs
  by_cases hz : nmF (numd tab) h.n = 0
  · rw [hz, if_neg (by omega), if_pos rfl, List.append_assoc, rdTxt_txt (by rw [ba_len']; exact ho.2.1)]
    simp only
    rw [rdTxt_txt (by rw [ba_len']; exact ho.2.2)]
  · rw [if_pos (by omega), if_neg hz, List.nil_append]
    obtain ⟨x, hx, hn⟩ := nmF_get hz
    rw [hx]
    simp only
    rw [rdTxt_txt (by rw [ba_len']; exact ho.2.2)]
    simp only
    rw [ba_back, ba_back, hn]
/-- A pair that was packed comes back; its first byte is no limit's. -/
theorem rdPair_pair {tab : List HP} {lim : Nat} {h : HP} {r : List UInt8} (ho : okH h) (hl : tab.length ≤ 1000000) : rdPair tab lim ((pairK tab lim h).1 ++ r) = some (h, (pairK tab lim h).2, r) ∧ ∃ c q, (pairK tab lim h).1 = c :: q ∧ c.toNat / 32 ≠ 1 := by
  have hp := pnN_le (numd tab) h
  have hm := nmF_le (numd tab) h.n
  rw [numd_length] at hp hm
  unfold pairK
  by_cases hz : pnN (numd tab) h = 0
  · rw [if_pos hz]
    by_cases hlt : lim < tk h
    · rw [if_pos hlt]
      simp only [txs]
      obtain ⟨c, q, e1, e2, e3, e4⟩ := rdCnt_cnt (f := 0) (k := 4) (n := nmF (numd tab) h.n) (r := (if nmF (numd tab) h.n = 0 then txt h.n.data.toList else []) ++ txt h.v.data.toList ++ r) (by decide) (by decide) (by omega)
      rw [e1]
      refine ⟨?_, c, _, List.cons_append, by omega⟩
      simp only [List.cons_append, rdPair, List.append_assoc] at e4 ⊢
      rw [if_neg (by omega), if_neg (by omega), if_pos (by omega), e4]
      simp only
      have := rdTxs_txs (tab := tab) (h := h) (r := r) ho
      simp only [List.append_assoc] at this
      rw [this]
    · rw [if_neg hlt]
      simp only [txs]
      obtain ⟨c, q, e1, e2, e3, e4⟩ := rdCnt_cnt (f := 64) (k := 6) (n := nmF (numd tab) h.n) (r := (if nmF (numd tab) h.n = 0 then txt h.n.data.toList else []) ++ txt h.v.data.toList ++ r) (by decide) (by decide) (by omega)
      rw [e1]
      refine ⟨?_, c, _, List.cons_append, by omega⟩
      simp only [List.cons_append, rdPair, List.append_assoc] at e4 ⊢
      rw [if_neg (by omega), if_pos (by omega), e4]
      simp only
      have := rdTxs_txs (tab := tab) (h := h) (r := r) ho
      simp only [List.append_assoc] at this
      rw [this]
  · rw [if_neg hz]
    obtain ⟨c, q, e1, e2, e3, e4⟩ := rdCnt_cnt (f := 128) (k := 7) (n := pnN (numd tab) h) (r := r) (by decide) (by decide) (by omega)
    simp only
    rw [e1]
    refine ⟨?_, c, _, rfl, by omega⟩
    simp only [List.cons_append, rdPair]
    rw [if_pos (by omega), e4]
    simp only
    rw [if_neg hz, pnN_get hz]
theorem rdPairs_pairs {hs : List HP} {acc tab : List HP} {lim : Nat} (hok : listB (acc ++ hs) = true) (hoh : ∀ h ∈ hs, okH h) (hf : szT tab ≤ lim) (hl : lim ≤ 256) (f : Nat) (hff : hs.length < f) : rdPairs f acc tab lim (pairsK hs tab lim).1 = some (acc ++ hs, (pairsK hs tab lim).2) := by
  induction hs generalizing acc tab f with
  | nil =>
    obtain ⟨g, rfl⟩ : ∃ g, f = g + 1 := ⟨f - 1, by simp at hff; omega⟩
    simp [pairsK, rdPairs]
  | cons h r ih =>
    obtain ⟨g, rfl⟩ : ∃ g, f = g + 1 := ⟨f - 1, by simp at hff; omega⟩
    have ho := hoh h (by simp)
    have hfew := szT_len tab
    obtain ⟨p1, c, q, p2, p3⟩ := rdPair_pair (tab := tab) (lim := lim) (h := h) (r := (pairsK r (pairK tab lim h).2 lim).1) ho (by omega)
    have e : (pairK tab lim h).1 ++ (pairsK r (pairK tab lim h).2 lim).1 = c :: (q ++ (pairsK r (pairK tab lim h).2 lim).1) := by rw [p2]; rfl
    simp only [pairsK]
    rw [e]
    simp only [rdPairs]
    rw [← e, p1]
    simp only
    have hacc : listB (acc ++ [h]) = true := by
      unfold listB at hok ⊢
      simp only [List.length_append, List.length_cons, List.all_append, List.all_cons, Bool.and_eq_true, decide_eq_true_eq] at hok ⊢
      exact ⟨by simp; omega, hok.2.1, hok.2.2.1, by simp⟩
    rw [if_pos hacc]
    have hfit : szT (pairK tab lim h).2 ≤ lim := by
      unfold pairK
      split
      · split
        · exact hf
        · exact addT_size _ _ _ hf
      · exact hf
    have := ih (acc := acc ++ [h]) (tab := (pairK tab lim h).2) (by simpa using hok) (fun x hx => hoh x (by simp [hx])) hfit g (by simp at hff; omega)
    rw [this]
    simp
theorem rdLims_lims {ls : List Nat} {lim most : Nat} {tab : List HP} {r : List UInt8} (hls : ∀ x ∈ ls, x ≤ most) (hm : most ≤ 256) (f : Nat) (hf : ls.length ≤ f) (hr : f = ls.length ∨ r = [] ∨ ∃ c q, r = c :: q ∧ c.toNat / 32 ≠ 1) :
    rdLims most f lim tab ((limsK ls lim tab).1 ++ r) = some ((limsK ls lim tab).2.1, (limsK ls lim tab).2.2, r) := by
  induction ls generalizing lim tab f with
  | nil =>
    simp only [limsK, List.nil_append]
    cases f with
    | zero => simp [rdLims]
    | succ f =>
      rcases hr with h | h | ⟨c, q, h, h2⟩
      · simp at h
      · rw [h]; simp [rdLims]
      · rw [h]; simp only [rdLims]; rw [if_neg h2]
  | cons x t ih =>
    obtain ⟨g, rfl⟩ : ∃ g, f = g + 1 := ⟨f - 1, by simp at hf; omega⟩
    have hx := hls x (by simp)
    obtain ⟨c, q, e1, e2, e3, e4⟩ := rdCnt_cnt (f := 32) (k := 5) (n := x) (r := (limsK t x (shr tab x)).1 ++ r) (by decide) (by decide) (by omega)
    simp only [limsK, List.append_assoc]
    rw [e1, List.cons_append]
    simp only [rdLims]
    rw [if_pos (by omega), e4]
    simp only
    rw [if_neg (by omega)]
    refine ih (fun y hy => hls y (by simp [hy])) g (by simp at hf; omega) ?_
    rcases hr with h | h
    · left; simp at h; exact h
    · exact Or.inr h
/-- P6 to P8: what was packed comes back. -/
theorem unpack_pack {p : Pk} {hs : List HP} (hw : ∀ x ∈ p.wait, x ≤ 256) (hw2 : p.wait.length ≤ 2) (hlist : listB hs = true) (hoh : ∀ h ∈ hs, okH h) (hf : szT p.tab ≤ p.lim) (hl : p.lim ≤ 256) :
    (Up.mk p.lim p.tab 256).unpack (p.pack hs).1 = some (hs, (p.pack hs).2.lim, (p.pack hs).2.tab) := by
  obtain ⟨lim, tab, wait⟩ := p
  simp only at hw hw2 hf hl
  have hfit : ∀ (ls : List Nat) (lim : Nat) (tab : List HP), (∀ x ∈ ls, x ≤ 256) → szT tab ≤ lim → lim ≤ 256 → szT (limsK ls lim tab).2.2 ≤ (limsK ls lim tab).2.1 ∧ (limsK ls lim tab).2.1 ≤ 256 := by
    intro ls
    induction ls with
    | nil => intro lim tab _ h1 h2; exact ⟨h1, h2⟩
    | cons x t ih =>
      intro lim tab hx h1 h2
      simp only [limsK]
      refine ih x (shr tab x) (fun y hy => hx y (by simp [hy])) ?_ (hx x (by simp))
      have := shr_size tab (x : Int) (by omega)
      omega
  obtain ⟨f1, f2⟩ := hfit wait lim tab hw hf hl
  have e : (Pk.mk lim tab wait).pack hs = ((limsK wait lim tab).1 ++ (pairsK hs (limsK wait lim tab).2.2 (limsK wait lim tab).2.1).1, ⟨(limsK wait lim tab).2.1, (pairsK hs (limsK wait lim tab).2.2 (limsK wait lim tab).2.1).2, []⟩) := rfl
  rw [e]
  unfold Up.unpack
  simp only
  rw [rdLims_lims hw (Nat.le_refl _) 2 hw2]
  · simp only
    have h8 : hs.length ≤ 8 := by unfold listB at hlist; simp at hlist; exact hlist.1
    rw [rdPairs_pairs (by simpa using hlist) hoh f1 f2 9 (by omega)]
    simp
  · cases hs with
    | nil => right; left; rfl
    | cons h r =>
      right; right
      have hfew := szT_len (limsK wait lim tab).2.2
      obtain ⟨_, c, q, p2, p3⟩ := rdPair_pair (tab := (limsK wait lim tab).2.2) (lim := (limsK wait lim tab).2.1) (h := h) (r := []) (hoh h (by simp)) (by omega)
      refine ⟨c, q ++ (pairsK r (pairK (limsK wait lim tab).2.2 (limsK wait lim tab).2.1 h).2 (limsK wait lim tab).2.1).1, ?_, p3⟩
      simp only [pairsK]
      rw [p2]
      rfl
end Go.Proofs.YtpmmpbklpclnhaaDoor
