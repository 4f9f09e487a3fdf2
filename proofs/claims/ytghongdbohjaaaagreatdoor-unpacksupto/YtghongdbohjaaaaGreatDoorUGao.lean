import Derived.Test.YtghongdbohjaaaaGreatDoorUGan
import Derived.Test.YtghongdbohjaaaaGreatDoorUGac
import Derived.Test.YtghongdbohjaaaaGreatDoorUGad
import Derived.Deep.RegionWith
import Derived.Deep.DeepCutAuto
import Derived.Deep.RegionHeld3
set_option linter.unusedVariables false
set_option linter.unusedSimpArgs false
/-
  The document's Unpack, without the program, and that it is the program's. Nothing of the translation is imported.
-/
namespace Go.Proofs.YtghongdbohjaaaaGreatDoor
set_option linter.unusedVariables false
set_option linter.unusedSimpArgs false

/-- The name of a pair: by its number, or as it stands there. -/
def nameR (nb : List HP) (l : List UInt8) (q : Nat × Nat × Bool) : List UInt8 × Nat × Bool := if 0 < q.1 then ((nb.getD (q.1 - 1) noHP).n.data.toList, q.2) else txtR l q.2.1 q.2.2
/-- A pair whose name has a number or stands there; is it one? -/
def namedR (nb : List HP) (l : List UInt8) (k at_ : Nat) : (HP × Bool) × Nat × Bool :=
  if (cntR l k at_ false).2.2 || decide (nb.length < (cntR l k at_ false).1) then ((noHP, false), (cntR l k at_ false).2)
  else ((⟨⟨(nameR nb l (cntR l k at_ false)).1.toArray⟩, ⟨(txtR l (nameR nb l (cntR l k at_ false)).2.1 (nameR nb l (cntR l k at_ false)).2.2).1.toArray⟩⟩,
      prB ⟨⟨(nameR nb l (cntR l k at_ false)).1.toArray⟩, ⟨(txtR l (nameR nb l (cntR l k at_ false)).2.1 (nameR nb l (cntR l k at_ false)).2.2).1.toArray⟩⟩ && !(txtR l (nameR nb l (cntR l k at_ false)).2.1 (nameR nb l (cntR l k at_ false)).2.2).2.2),
      (txtR l (nameR nb l (cntR l k at_ false)).2.1 (nameR nb l (cntR l k at_ false)).2.2).2)
/-- The next pair; is it one? The table behind it. -/
def pairR (log : List Ch) (lim : Nat) (l : List UInt8) (at_ : Nat) : ((HP × Bool) × List Ch) × Nat × Bool :=
  if 128 ≤ (oneB l at_ false).1 then
    (if (cntR l 7 at_ false).2.2 || decide ((cntR l 7 at_ false).1 < 1) || decide ((numB log).length < (cntR l 7 at_ false).1) then (((noHP, false), log), (cntR l 7 at_ false).2)
     else ((((numB log).getD ((cntR l 7 at_ false).1 - 1) noHP, true), log), (cntR l 7 at_ false).2))
  else if 64 ≤ (oneB l at_ false).1 then (((namedR (numB log) l 6 at_).1, if (namedR (numB log) l 6 at_).1.2 then log ++ [⟨(namedR (numB log) l 6 at_).1.1, lim⟩] else log), (namedR (numB log) l 6 at_).2)
  else if 16 ≤ (oneB l at_ false).1 then (((noHP, false), log), at_, false)
  else (((namedR (numB log) l 4 at_).1, log), (namedR (numB log) l 4 at_).2)

theorem named_match {tab : List HP} {l : List UInt8} {k at_ : Nat} {c : UInt8} {r : List UInt8} (hd : l.drop at_ = c :: r) : match rdCnt k c r with
    | none => (namedR (numd tab) l k at_).1.2 = false
    | some (n, q) => match rdTxs tab n q with
      | none => (namedR (numd tab) l k at_).1.2 = false
      | some (h, s) => ∃ a, namedR (numd tab) l k at_ = ((h, prB h), a, false) ∧ l.drop a = s := by
  have hc := cntR_some (k := k) hd
  cases hr : rdCnt k c r with
  | none =>
    rw [hr] at hc
    simp only at hc ⊢
    unfold namedR
    rw [hc]
    simp
  | some p =>
    obtain ⟨n, q⟩ := p
    rw [hr] at hc
    obtain ⟨a, a1, a2, a3⟩ := hc
    simp only
    unfold namedR rdTxs
    rw [a1]
    simp only [Bool.false_or, decide_eq_true_eq]
    by_cases hn : 0 < n
    · rw [if_pos hn]
      by_cases hl : (numd tab).length < n
      · rw [if_pos hl, List.getElem?_eq_none (by omega)]
      · rw [if_neg hl, List.getElem?_eq_getElem (by omega)]
        have hnm : nameR (numd tab) l (n, a, false) = ((numd tab)[n - 1].n.data.toList, a, false) := by
          unfold nameR
          rw [if_pos hn]
          have : (numd tab).getD (n - 1) noHP = (numd tab)[n - 1] := by simp [List.getD, List.getElem?_eq_getElem (show n - 1 < (numd tab).length by omega)]
          simp only [this]
        rw [hnm]
        simp only
        have ht := txtR_some l a
        rw [a2] at ht
        cases hx : rdTxt q with
        | none => rw [hx] at ht; simp only at ht ⊢; rw [ht]; simp
        | some p =>
          obtain ⟨t, s⟩ := p
          rw [hx] at ht
          obtain ⟨b, b1, b2⟩ := ht
          rw [b1]
          exact ⟨b, by simp, b2⟩
    · have hn0 : n = 0 := by omega
      subst hn0
      rw [if_neg (by omega), if_neg (by omega)]
      have hnm : nameR (numd tab) l (0, a, false) = txtR l a false := rfl
      rw [hnm]
      have ht := txtR_some l a
      rw [a2] at ht
      cases hx : rdTxt q with
      | none =>
        rw [hx] at ht
        simp only at ht ⊢
        have hz := txtR_no l (txtR l a false).2.1
        rw [ht, hz]
        simp
      | some p =>
        obtain ⟨t, s⟩ := p
        rw [hx] at ht
        obtain ⟨b, b1, b2⟩ := ht
        rw [b1]
        simp only
        have hv := txtR_some l b
        rw [b2] at hv
        cases hy : rdTxt s with
        | none => rw [hy] at hv; simp only at hv ⊢; rw [hv]; simp
        | some p2 =>
          obtain ⟨t2, s2⟩ := p2
          rw [hy] at hv
          obtain ⟨d, d1, d2⟩ := hv
          rw [d1]
          exact ⟨d, by simp, d2⟩

def allPr (l : List HP) : Prop := ∀ x ∈ l, prB x = true
theorem fixed_pr : allPr fixed8 := by
  have hz : ∀ n v : List UInt8, n ≠ [] → n.length ≤ 40 → v.length ≤ 40 → prB (hp n v) = true := by
    intro n v h1 h2 h3
    unfold prB hp
    simp only
    rw [ba_toList]
    have e1 : (ByteArray.mk n.toArray).size = n.length := by simp [ByteArray.size]
    have e2 : (ByteArray.mk v.toArray).size = v.length := by simp [ByteArray.size]
    rw [e1, e2, decide_eq_true h2, decide_eq_true h3]
    cases n with
    | nil => exact absurd rfl h1
    | cons a b => rfl
  intro x hx
  simp only [fixed8, List.mem_cons, List.not_mem_nil, or_false] at hx
  rcases hx with rfl | rfl | rfl | rfl | rfl | rfl | rfl | rfl <;> exact hz _ _ (by simp) (by simp) (by simp)
theorem numd_pr {tab : List HP} (h : allPr tab) : allPr (numd tab) := by
  intro x hx
  unfold numd at hx
  rcases List.mem_append.1 hx with hx | hx
  · exact fixed_pr x hx
  · exact h x (by simpa using hx)
theorem shr_pr {l : List HP} (h : allPr l) (m : Int) : allPr (shr l m) := fun x hx => h x (List.mem_of_mem_drop hx)
theorem addT_pr {l : List HP} (h : allPr l) (lim : Nat) {x : HP} (hx : prB x = true) : allPr (addT l lim x) := by
  unfold addT
  split
  · intro y hy
    rcases List.mem_append.1 hy with hy | hy
    · exact shr_pr h _ y hy
    · simp only [List.mem_cons, List.not_mem_nil, or_false] at hy; rw [hy]; exact hx
  · exact shr_pr h _
theorem tabL_add {log : List Ch} {h : HP} {lim : Nat} (hp : prB h = true) : tabL (log ++ [⟨h, (lim : Int)⟩]) = addT (tabL log) lim h := by
  have hn := prB_pos hp
  have hadd : isAdd ⟨h, (lim : Int)⟩ = true := by
    unfold isAdd
    have : h.n.toList ≠ [] := by
      intro e
      rw [ba_toList] at e
      have h2 := ba_len' h.n
      rw [e] at h2; simp at h2; omega
    simp [this]
  have : tkC ⟨h, (lim : Int)⟩ = tk h := by unfold tkC; rw [hadd]; rfl
  rw [tabL_snoc, hadd, this]
  unfold addT
  by_cases ht : tk h ≤ lim
  · rw [if_pos ht]
    have : (tk h : Int) ≤ (lim : Int) := by omega
    simp [this]
  · rw [if_neg ht]
    have : ¬ ((tk h : Int) ≤ (lim : Int)) := by omega
    simp [this]

/-- The next pair is the program's. -/
theorem pair_match {log : List Ch} {lim : Nat} {l : List UInt8} {at_ : Nat} {c : UInt8} {r : List UInt8} (hd : l.drop at_ = c :: r) (hall : allPr (tabL log)) : match rdPair (tabL log) lim (c :: r) with
    | none => (pairR log lim l at_).1.1.2 = false
    | some (h, tab', q) => (prB h = false ∧ (pairR log lim l at_).1.1.2 = false) ∨ (prB h = true ∧ ∃ a log', pairR log lim l at_ = (((h, true), log'), a, false) ∧ tabL log' = tab' ∧ allPr tab' ∧ l.drop a = q ∧ (log' = log ∨ log' = log ++ [⟨h, (lim : Int)⟩])) := by
  obtain ⟨h1, h2⟩ := oneB_cons false hd
  unfold rdPair pairR
  rw [h1, numB_tab]
  simp only
  by_cases c1 : 128 ≤ c.toNat
  · rw [if_pos c1, if_pos c1]
    have hc := cntR_some (k := 7) hd
    cases hr : rdCnt 7 c r with
    | none =>
      rw [hr] at hc
      simp only at hc ⊢
      rw [hc]
      simp
    | some p =>
      obtain ⟨n, q⟩ := p
      rw [hr] at hc
      obtain ⟨a, a1, a2, a3⟩ := hc
      simp only
      rw [a1]
      simp only [Bool.false_or]
      by_cases hn : n = 0
      · subst hn
        simp
      · rw [if_neg hn, decide_eq_false (show ¬ n < 1 by omega)]
        simp only [Bool.false_or, decide_eq_true_eq]
        by_cases hl : (numd (tabL log)).length < n
        · rw [if_pos hl, List.getElem?_eq_none (by omega)]
        · rw [if_neg hl, List.getElem?_eq_getElem (by omega)]
          simp only
          right
          refine ⟨numd_pr hall _ (List.getElem_mem _), a, log, ?_, rfl, hall, a2, Or.inl rfl⟩
          have : (numd (tabL log)).getD (n - 1) noHP = (numd (tabL log))[n - 1] := by simp [List.getD, List.getElem?_eq_getElem (show n - 1 < (numd (tabL log)).length by omega)]
          rw [this]
  · rw [if_neg c1, if_neg c1]
    by_cases c2 : 64 ≤ c.toNat
    · rw [if_pos c2, if_pos c2]
      have hm := named_match (tab := tabL log) (k := 6) hd
      cases hr : rdCnt 6 c r with
      | none => rw [hr] at hm; simp only at hm ⊢; exact hm
      | some p =>
        obtain ⟨n, q⟩ := p
        rw [hr] at hm
        simp only at hm ⊢
        cases hx : rdTxs (tabL log) n q with
        | none => rw [hx] at hm; simp only at hm ⊢; exact hm
        | some p2 =>
          obtain ⟨h, s⟩ := p2
          rw [hx] at hm
          obtain ⟨a, a1, a2⟩ := hm
          simp only
          rw [a1]
          cases hp : prB h with
          | false => exact Or.inl ⟨rfl, rfl⟩
          | true => exact Or.inr ⟨rfl, a, log ++ [⟨h, (lim : Int)⟩], by simp, tabL_add hp, addT_pr hall lim hp, a2, Or.inr rfl⟩
    · rw [if_neg c2, if_neg c2]
      by_cases c3 : c.toNat < 16
      · rw [if_pos c3, if_neg (by omega)]
        have hm := named_match (tab := tabL log) (k := 4) hd
        cases hr : rdCnt 4 c r with
        | none => rw [hr] at hm; simp only at hm ⊢; exact hm
        | some p =>
          obtain ⟨n, q⟩ := p
          rw [hr] at hm
          simp only at hm ⊢
          cases hx : rdTxs (tabL log) n q with
          | none => rw [hx] at hm; simp only at hm ⊢; exact hm
          | some p2 =>
            obtain ⟨h, s⟩ := p2
            rw [hx] at hm
            obtain ⟨a, a1, a2⟩ := hm
            simp only
            rw [a1]
            cases hp : prB h with
            | false => exact Or.inl ⟨rfl, rfl⟩
            | true => exact Or.inr ⟨rfl, a, log, rfl, rfl, hall, a2, Or.inl rfl⟩
      · rw [if_neg c3, if_pos (by omega)]

/-- The pairs of a block; f of them at most. -/
def pairsR (lim : Nat) (l : List UInt8) : Nat → List HP → List Ch → Nat → Option (List HP × List Ch)
  | 0, _, _, _ => none
  | f + 1, acc, log, at_ => if l.length ≤ at_ then some (acc, log)
    else if (pairR log lim l at_).1.1.2 && decide (acc.length + 1 ≤ 8) then pairsR lim l f (acc ++ [(pairR log lim l at_).1.1.1]) (pairR log lim l at_).1.2 (pairR log lim l at_).2.1 else none
theorem pairs_match (lim : Nat) (l : List UInt8) (f : Nat) : ∀ acc log at_, allPr acc → allPr (tabL log) → match pairsR lim l f acc log at_ with
    | none => rdPairs f acc (tabL log) lim (l.drop at_) = none
    | some (hs, log') => rdPairs f acc (tabL log) lim (l.drop at_) = some (hs, tabL log') ∧ allPr (tabL log') := by
  induction f with
  | zero => intro acc log at_ h1 h2; simp [pairsR, rdPairs]
  | succ f ih =>
    intro acc log at_ h1 h2
    simp only [pairsR]
    by_cases hl : l.length ≤ at_
    · rw [if_pos hl, List.drop_of_length_le hl]
      exact ⟨rfl, h2⟩
    · rw [if_neg hl]
      have hd : l.drop at_ = l[at_] :: l.drop (at_ + 1) := List.drop_eq_getElem_cons (by omega)
      have hm := pair_match (lim := lim) hd h2
      rw [hd]
      simp only [rdPairs]
      cases hr : rdPair (tabL log) lim (l[at_] :: l.drop (at_ + 1)) with
      | none =>
        rw [hr] at hm
        simp only at hm ⊢
        rw [hm]
        simp
      | some p =>
        obtain ⟨h, tab', q⟩ := p
        rw [hr] at hm
        simp only at hm ⊢
        rcases hm with ⟨m1, m2⟩ | ⟨m1, a, log', m2, m3, m4, m5, m6⟩
        · rw [m2]
          have : listB (acc ++ [h]) = false := by unfold listB; simp [m1]
          rw [this]
          simp
        · rw [m2]
          simp only [Bool.true_and]
          have hlb : listB (acc ++ [h]) = decide (acc.length + 1 ≤ 8) := by
            unfold listB
            have : (acc ++ [h]).all prB = true := by
              rw [List.all_eq_true]
              intro x hx
              rcases List.mem_append.1 hx with hx | hx
              · exact h1 x hx
              · simp only [List.mem_cons, List.not_mem_nil, or_false] at hx; rw [hx]; exact m1
            rw [this]; simp
          rw [hlb]
          by_cases h8 : acc.length + 1 ≤ 8
          · simp only [decide_eq_true h8, if_true]
            have h9 := ih (acc ++ [h]) log' a (fun x hx => by
              rcases List.mem_append.1 hx with hx | hx
              · exact h1 x hx
              · simp only [List.mem_cons, List.not_mem_nil, or_false] at hx; rw [hx]; exact m1) (by rw [m3]; exact m4)
            rw [m3, m5] at h9
            exact h9
          · simp [h8]
/-- The limits at the beginning; f to go. -/
def limR (most : Nat) (l : List UInt8) : Nat → List Ch → Nat → Nat → Option (List Ch × Nat × Nat)
  | 0, _, _, _ => none
  | f + 1, log, lim, at_ => if at_ < l.length ∧ (oneB l at_ false).1 / 32 = 1 then
      (if (cntR l 5 at_ false).2.2 || decide (most < (cntR l 5 at_ false).1) || decide (f = 0) then none
       else limR most l f (log ++ [limC (cntR l 5 at_ false).1]) (cntR l 5 at_ false).1 (cntR l 5 at_ false).2.1)
    else some (log, lim, at_)
theorem lim_match (most : Nat) (l : List UInt8) (f : Nat) : ∀ log lim at_, match limR most l (f + 1) log lim at_ with
    | none => rdLims most f lim (tabL log) (l.drop at_) = none ∨ (∃ lim' tab' c q, rdLims most f lim (tabL log) (l.drop at_) = some (lim', tab', c :: q) ∧ c.toNat / 32 = 1)
    | some (log', lim', a) => rdLims most f lim (tabL log) (l.drop at_) = some (lim', tabL log', l.drop a) ∧ (allPr (tabL log) → allPr (tabL log')) := by
  induction f with
  | zero =>
    intro log lim at_
    simp only [limR]
    by_cases hc : at_ < l.length ∧ (oneB l at_ false).1 / 32 = 1
    · rw [if_pos hc]
      simp only [decide_true, Bool.or_true, if_true]
      right
      have hd : l.drop at_ = l[at_] :: l.drop (at_ + 1) := List.drop_eq_getElem_cons hc.1
      obtain ⟨h1, _⟩ := oneB_cons false hd
      rw [h1] at hc
      exact ⟨lim, tabL log, l[at_], l.drop (at_ + 1), by rw [hd]; rfl, hc.2⟩
    · rw [if_neg hc]
      exact ⟨rfl, id⟩
  | succ f ih =>
    intro log lim at_
    rw [limR]
    by_cases hl : at_ < l.length
    · have hd : l.drop at_ = l[at_] :: l.drop (at_ + 1) := List.drop_eq_getElem_cons hl
      obtain ⟨h1, _⟩ := oneB_cons false hd
      rw [hd]
      simp only [rdLims, h1]
      by_cases hc : l[at_].toNat / 32 = 1
      · rw [if_pos ⟨hl, hc⟩, if_pos hc]
        have hm := cntR_some (k := 5) hd
        cases hr : rdCnt 5 l[at_] (l.drop (at_ + 1)) with
        | none => rw [hr] at hm; simp only at hm ⊢; rw [hm]; simp
        | some p =>
          obtain ⟨n, q⟩ := p
          rw [hr] at hm
          obtain ⟨a, a1, a2, a3⟩ := hm
          simp only
          rw [a1]
          simp only [Bool.false_or, Nat.add_one_ne_zero, decide_false, Bool.or_false, decide_eq_true_eq]
          by_cases hn : most < n
          · rw [if_pos hn, if_pos hn]; exact Or.inl rfl
          · rw [if_neg hn, if_neg hn]
            have h9 := ih (log ++ [limC n]) n a
            rw [tabL_lim, a2] at h9
            cases hx : limR most l (f + 1) (log ++ [limC n]) n a with
            | none => rw [hx] at h9; exact h9
            | some p =>
              obtain ⟨log', lim', b⟩ := p
              rw [hx] at h9
              exact ⟨h9.1, fun h => h9.2 (shr_pr h _)⟩
      · rw [if_neg (fun h => hc h.2), if_neg hc]
        exact ⟨by rw [hd], id⟩
    · rw [if_neg (fun h => hl h.1)]
      have hd : l.drop at_ = [] := List.drop_of_length_le (by omega)
      rw [hd]
      exact ⟨by rw [hd]; rfl, id⟩
/-- The document's Unpack. -/
def unpackR (most : Nat) (log : List Ch) (lim : Nat) (b : List UInt8) : Option (List HP × List Ch × Nat) := match limR most b 3 log lim 0 with
  | none => none
  | some (log', lim', a) => match pairsR lim' b 9 [] log' a with
    | none => none
    | some (hs, log'') => some (hs, log'', lim')
theorem unpack_match (most : Nat) (log : List Ch) (lim : Nat) (b : List UInt8) (hall : allPr (tabL log)) : match unpackR most log lim b with
    | none => Up.unpack ⟨lim, tabL log, most⟩ b = none
    | some (hs, log', lim') => Up.unpack ⟨lim, tabL log, most⟩ b = some (hs, lim', tabL log') ∧ allPr (tabL log') := by
  have hm := lim_match most b 2 log lim 0
  rw [List.drop_zero] at hm
  unfold unpackR Up.unpack
  simp only
  cases hl : limR most b 3 log lim 0 with
  | none =>
    rw [hl] at hm
    simp only at hm ⊢
    rcases hm with e | ⟨lim', tab', c, q, e, hc⟩
    · rw [e]
    · rw [e]
      simp only
      have hp : rdPair tab' lim' (c :: q) = none := by
        simp only [rdPair]
        rw [if_neg (by omega), if_neg (by omega), if_neg (by omega)]
      have : rdPairs 9 [] tab' lim' (c :: q) = none := by
        unfold rdPairs
        rw [hp]
      rw [this]
  | some p =>
    obtain ⟨log1, lim1, a⟩ := p
    rw [hl] at hm
    obtain ⟨m1, m2⟩ := hm
    rw [m1]
    simp only
    have h9 := pairs_match lim1 b 9 [] log1 a (fun x hx => by simp at hx) (m2 hall)
    cases hp : pairsR lim1 b 9 [] log1 a with
    | none => rw [hp] at h9; simp only at h9 ⊢; rw [h9]
    | some p =>
      obtain ⟨hs, log2⟩ := p
      rw [hp] at h9
      simp only at h9 ⊢
      rw [h9.1]
      exact ⟨rfl, h9.2⟩
end Go.Proofs.YtghongdbohjaaaaGreatDoor
/-
  sluiceref.begins.
-/
namespace Go.Proofs.YtghongdbohjaaaaGreatDoor
open Go.RowKit

theorem bitC_inj {a b : Bool} (h : bitC a = bitC b) : a = b := by
  cases a <;> cases b <;> simp_all [bitC]
theorem sB_inj {a b : List Bool} (h : sB a = sB b) : a = b := by
  unfold sB at h
  have h1 : (a.map bitC).toArray = (b.map bitC).toArray := by injection h
  have h2 : a.map bitC = b.map bitC := by simpa using h1
  exact (List.map_inj_right (fun _ _ => bitC_inj)).1 h2
theorem sB_list (l : List Bool) : (sB l).toList = l.map bitC := by rw [ByteArray.toList_eq]; simp [sB]
theorem beg_eq {s t : List Bool} (h : t.length ≤ s.length) : ((sB ((s.drop 0).take (t.length - 0))).toList == (sB t).toList) = begB s t := by
  rw [sB_list, sB_list, List.drop_zero, Nat.sub_zero]
  unfold begB
  rw [decide_eq_true h, Bool.true_and]
  by_cases e : s.take t.length = t
  · rw [decide_eq_true e, e]; simp
  · rw [decide_eq_false e]
    rw [beq_eq_false_iff_ne]
    intro h2
    exact e ((List.map_inj_right (fun _ _ => bitC_inj)).1 h2)

set_option maxRecDepth 100000 in
set_option maxHeartbeats 1600000 in
theorem begins_any (s t : List Bool) (w : World) (hs : s.length ≤ 1099511627776) (ht : t.length ≤ 1099511627776) :
    Calls Tryz.prog 341 #[.string (sB s), .string (sB t)] w fun e w' => e = .returned (.bool (begB s t)) ∧ w' = w := by
  obtain ⟨S, hS⟩ : ∃ S, S = sB s := ⟨_, rfl⟩
  obtain ⟨T, hT⟩ : ∃ T, T = sB t := ⟨_, rfl⟩
  have z1 : S.size = s.length := by rw [hS, sB_size]
  have z2 : T.size = t.length := by rw [hT, sB_size]
  rw [← hS, ← hT]
  have HS := hide hS
  have HT := hide hT
  clear hS hT
  by_cases hle : t.length ≤ s.length
  · go_enter Tryz.func341, Tryz.ntmps341
    go_wp2
    go_ret
    refine ⟨?_, rfl⟩
    show Ending.returned (.bool ((S.extract 0 t.length).toList == T.toList)) = _
    rw [HS.out, HT.out, sB_extract, beg_eq hle]
  · have hb : begB s t = false := by unfold begB; rw [decide_eq_false hle]; rfl
    have HB := hide hb
    clear hb
    go_enter Tryz.func341, Tryz.ntmps341
    go_wp2
    go_ret
    exact ⟨by rw [HB.out]; rfl, rfl⟩
end Go.Proofs.YtghongdbohjaaaaGreatDoor
/-
  sluiceref.unpacked.
-/
namespace Go.Proofs.YtghongdbohjaaaaGreatDoor
set_option linter.unusedVariables false
set_option linter.unusedSimpArgs false
open Go.RowKit

theorem ones_eq {s : List Bool} (h : s.length < 8) : ((sB s).toList == ((ByteArray.mk #[49, 49, 49, 49, 49, 49, 49]).extract 0 s.length).toList) = onesB s := by
  have e : ByteArray.mk #[49, 49, 49, 49, 49, 49, 49] = sB (List.replicate 7 true) := rfl
  rw [e, sB_extract, sB_list, sB_list]
  unfold onesB
  rw [decide_eq_true h, Bool.true_and]
  have e2 : ((List.replicate 7 true).drop 0).take (s.length - 0) = List.replicate s.length true := by
    rw [List.drop_zero, Nat.sub_zero, List.take_replicate]
    congr 1
    omega
  rw [e2]
  by_cases hs : s = List.replicate s.length true
  · rw [decide_eq_true hs, ← hs]; simp
  · rw [decide_eq_false hs]
    rw [beq_eq_false_iff_ne]
    intro h2
    exact hs ((List.map_inj_right (fun _ _ => bitC_inj)).1 h2)
theorem tryC_next (s : List Bool) {c : Nat} (h : c < 256) : tryC s (256 - c) c = if begB s (codeB (UInt8.ofNat c)) then some c else tryC s (256 - (c + 1)) (c + 1) := by
  obtain ⟨k, hk⟩ : ∃ k, 256 - c = k + 1 := ⟨255 - c, by omega⟩
  have e : 256 - (c + 1) = k := by omega
  rw [hk, e]
  rfl
/-- The text of packed bits, as it is answered. -/
def unpT (l : List UInt8) : ByteArray := match unpB (bitsB l) with
  | none => ⟨#[]⟩
  | some t => ⟨t.toArray⟩

set_option maxRecDepth 100000 in
set_option maxHeartbeats 1600000 in
theorem unpacked_any (sa : Option Addr) (ca : Nat) (l : List UInt8) (w : World) (hb : BytesA w (.slice sa l.length ca) l) (hl : l.length ≤ 1048576) :
    Calls Tryz.prog 295 #[.slice sa l.length ca] w fun e w' => e = .returned (.tuple #[.string (unpT l), .bool (unpB (bitsB l)).isSome]) ∧ Below w.heap.size w w' := by
  obtain ⟨i0, hi, hz0, hz1, hz2⟩ := info_parts Tryz.info5
  have HTB := hide (toBits_any sa ca l w hb hl)
  have hbl := bitsB_length l
  clear hb
  go_enter Tryz.func295, Tryz.ntmps295
  go_wp2_with fail
  refine HTB.out.mono ?_
  rintro e w1 ⟨rfl, hb1⟩
  have HB1 := hide hb1
  clear hb1 HTB
  go_wp2
  go_loopw [4, 5] (fun sv ov wr => ∃ (s : List Bool) (out : List UInt8), sv = .string (sB s) ∧ s.length + 4 * out.length ≤ 8 * l.length ∧ unpB (bitsB l) = (unpB s).map (out ++ ·) ∧ wr.ownsRow w.heap.size 5 1 ov out.length (out.map B) ∧ Below w.heap.size w wr) (fun sv _ _ => match sv with | .string b => b.size | _ => 0)
  case atStart => exact ⟨bitsB l, [], rfl, by rw [hbl]; simp, by simp, World.ownsRow_nil _ _ _ _, HB1.out⟩
  case round =>
    obtain ⟨s, out, rfl, hsz, heq, hown, hbel⟩ := hrel
    obtain ⟨so, co, rfl⟩ := slice_len hown
    obtain ⟨S, hS⟩ : ∃ S, S = sB s := ⟨_, rfl⟩
    have z1 : S.size = s.length := by rw [hS, sB_size]
    have HEQ := hide heq
    have HOW := hide hown
    have HBE := hide hbel
    have hfd := find_dec s
    have hfl := onesB_fill s
    rw [← hS]
    cases hf : onesB s with
    | true =>
      have h8 : s.length < 8 := by unfold onesB at hf; simp at hf; exact hf.1
      have hq := ones_eq h8
      rw [hf, ← hS] at hq
      have HR : Hid (unpB (bitsB l) = some out) := by
        show _ = _
        rw [HEQ.out, unpB_fill (by rw [← hfl]; exact hf)]
        simp
      have hcv := conv_bytes (bytesIn_of_owns HOW.out rfl)
      have HS := hide hS
      clear heq hown hbel hfd hfl hf hS
      go_wp2
      go_ret2
      refine ⟨?_, HBE.out⟩
      unfold unpT
      rw [HR.out]
      rfl
    | false =>
      have HFD := hide hfd
      have HFL : Hid (fillB s = false) := by show _ = _; rw [← hfl]; exact hf
      have HQ : Hid (s.length < 8 → (S.toList == ((ByteArray.mk #[49, 49, 49, 49, 49, 49, 49]).extract 0 s.length).toList) = false) := fun h8 => by
        have hq := ones_eq h8
        rw [hf, ← hS] at hq
        exact hq
      have HS := hide hS
      clear heq hown hbel hfd hfl hf hS
      go_upto_region 3 with fail
      go_cut [21] (fun s21 wx => s21 = .bool false ∧ wx = wr)
      case first =>
        by_cases h8 : s.length < 8
        · have hq := HQ.out h8
          go_wp2_with fail
          go_meet
          exact ⟨rfl, rfl⟩
        · go_wp2_with fail
          go_meet
          exact ⟨rfl, rfl⟩
      case rest =>
        obtain ⟨rfl, hcut⟩ := hcut
        rw [hcut]
        clear hcut wc
        go_wp2
        go_loop [4, 6, 7, 8, 9] (fun s4 s6 s7 s8 s9 => ∃ c : Nat, c ≤ 256 ∧ s7 = .int .i64 c ∧ ((s6 = .int .i64 (-1) ∧ s4 = .string S ∧ findC s = tryC s (256 - c) c) ∨ (∃ n : Nat, c = n + 1 ∧ s6 = .int .i64 n ∧ findC s = some n ∧ s4 = .string (sB (s.drop (codeB (UInt8.ofNat n)).length))))) (fun _ _ s7 _ _ => 256 - (intOf s7).toNat)
        case atStart => exact ⟨0, by omega, rfl, Or.inl ⟨rfl, rfl, rfl⟩⟩
        case round =>
          obtain ⟨c, hc, rfl, hcase⟩ := hrel
          rcases hcase with ⟨rfl, rfl, hft⟩ | ⟨n, hcn, rfl, hfn, rfl⟩
          · by_cases hlt : c < 256
            · have hnx := tryC_next s hlt
              have hcd := codeOf_any (UInt8.ofNat c) wr
              have e1 : B (UInt8.ofNat c) = .int .u8 (c : Int) := by show Value.int .u8 _ = _; rw [u8_ofNat hlt]
              rw [e1] at hcd
              have hcl := codeB_length (UInt8.ofNat c)
              have hbg := begins_any s (codeB (UInt8.ofNat c)) wr (by omega) (by omega)
              have hcb : begB s (codeB (UInt8.ofNat c)) = true → (codeB (UInt8.ofNat c)).length ≤ s.length := fun h => by unfold begB at h; simp at h; exact h.1
              rw [← HS.out] at hbg
              have hex : ∀ k, S.extract k S.size = sB (s.drop k) := fun k => by rw [z1, HS.out, sB_extract, List.take_of_length_le (by simp)]
              obtain ⟨T, hT⟩ : ∃ T, T = sB (codeB (UInt8.ofNat c)) := ⟨_, rfl⟩
              have zT : T.size = (codeB (UInt8.ofNat c)).length := by rw [hT, sB_size]
              rw [← hT] at hcd hbg
              have HCD := hide hcd
              have HEX := hide hex
              have HFT := hide (hft.trans hnx)
              clear hcd hex hft hnx e1 hT
              cases hbb : begB s (codeB (UInt8.ofNat c)) with
              | true =>
                have hle := hcb hbb
                rw [hbb] at hbg
                have HBG := hide hbg
                have HFT2 : Hid (findC s = some c) := by show _ = _; rw [HFT.out, hbb]; rfl
                have HEX2 : Hid (S.extract T.size S.size = sB (s.drop (codeB (UInt8.ofNat c)).length)) := by show _ = _; rw [HEX.out, zT]
                have hT1 : T.size ≤ S.size := by omega
                have hT2 : T.size ≤ 10 := by omega
                clear hbg hbb hcb HFT HEX hle hcl zT
                go_wp2_with fail
                refine HCD.out.mono ?_
                rintro e w' ⟨rfl, hw'⟩
                rw [hw']
                clear hw' w'
                go_wp2_with fail
                refine HBG.out.mono ?_
                rintro e w' ⟨rfl, hw'⟩
                rw [hw']
                clear hw' w'
                go_wp2
                go_round
                case rel => exact ⟨c + 1, by omega, by go_num, Or.inr ⟨c, rfl, rfl, HFT2.out, by rw [← HEX2.out, z1]⟩⟩
                case measure => simp [intOf]; omega
              | false =>
                rw [hbb] at hbg
                have HBG := hide hbg
                have HFT2 : Hid (findC s = tryC s (256 - (c + 1)) (c + 1)) := by show _ = _; rw [HFT.out, hbb]; rfl
                clear hbg hbb hcb HFT HEX zT
                go_wp2_with fail
                refine HCD.out.mono ?_
                rintro e w' ⟨rfl, hw'⟩
                rw [hw']
                clear hw' w'
                go_wp2_with fail
                refine HBG.out.mono ?_
                rintro e w' ⟨rfl, hw'⟩
                rw [hw']
                clear hw' w'
                go_wp2
                go_round
                case rel => exact ⟨c + 1, by omega, by go_num, Or.inl ⟨rfl, rfl, HFT2.out⟩⟩
                case measure => simp [intOf]; omega
            · have hce : c = 256 := by omega
              have HR : Hid (unpB (bitsB l) = none) := by
                show _ = _
                have hn : findC s = none := by rw [hft, hce]; rfl
                have h9 := HFD.out
                cases hd : decB s with
                | none => rw [HEQ.out, unpB_none HFL.out hd]; rfl
                | some p => obtain ⟨c9, r9⟩ := p; rw [hd] at h9; rw [hn] at h9; simp at h9
              clear hft
              go_wp2
              go_ret2
              refine ⟨?_, HBE.out⟩
              unfold unpT
              rw [HR.out]
              rfl
          · have hd9 : ∃ c9, decB s = some (c9, s.drop (codeB c9).length) ∧ c9.toNat = n := by
              have h9 := HFD.out
              cases hd : decB s with
              | none => rw [hd, hfn] at h9; simp at h9
              | some p =>
                obtain ⟨c9, r9⟩ := p
                rw [hd, hfn] at h9
                simp only [Option.some.injEq] at h9
                exact ⟨c9, by rw [h9.2], h9.1.symm⟩
            obtain ⟨c9, hd, hn9⟩ := hd9
            have e9 : UInt8.ofNat n = c9 := by rw [← hn9]; simp
            have hsh := decB_shorter hd
            have hn255 : n ≤ 255 := by have := c9.toNat_lt; omega
            have hs4 : 4 ≤ (codeB c9).length := by
              unfold codeB
              split
              · simp [natBits_length]
              · split <;> simp [natBits_length]
            have hin := decB_inv hd
            have hlen9 : (s.drop (codeB c9).length).length + 4 ≤ s.length := by
              have := congrArg List.length hin
              rw [List.length_append] at this
              omega
            have HNX : Hid (unpB (bitsB l) = (unpB (s.drop (codeB c9).length)).map ((out ++ [c9]) ++ ·)) := by
              show _ = _
              rw [HEQ.out, unpB_next HFL.out hd, Option.map_map]
              congr 1
              funext x
              simp
            rw [e9]
            have HB9 : Hid (B c9 = .int .u8 (n : Int)) := by show Value.int .u8 _ = _; rw [hn9]
            generalize s.drop (codeB c9).length = r9 at hsh hlen9 HNX ⊢
            clear hfn hd e9 hin hs4 HFD HQ HEQ hcn hn9
            have hsz9 : r9.length + 4 * (out.length + 1) ≤ 8 * l.length := by omega
            obtain ⟨R, hR⟩ : ∃ R, R = sB r9 := ⟨_, rfl⟩
            rw [← hR]
            have zR : R.size = r9.length := by rw [hR, sB_size]
            have HRR := hide hR
            clear hR
            have hout : out.length ≤ 2097152 := by omega
            have hn0 : ¬ ((n : Int) < 0) := by omega
            by_cases hlt : c < 256
            · go_wp2_with (at_builtin; refine wpList_app _ rfl (.tmp 46) (.tmp 49) 54 rfl 5 i0 (.int .u8 0) 1 1 Tryz.underlying54 hi hz0 hz1 hz2 rfl (by decide) _ _ _ rfl ((owns_base HOW.out (fun _ _ => Nat.zero_le _)).alloc _) (.slice (some ⟨wr.heap.size, 0, none⟩) 1 1) 1 [.int .u8 (n : Int)] rfl rfl ?c1 ?c2 ?c3 ?c4 ?_)
              case c1 => exact Or.inr ⟨_, _, rfl, fun j u hu => lies_row (xs := [.int .u8 (n : Int)]) j u hu⟩
              case c2 => rfl
              case c3 => unfold maxLen; omega
              case c4 => omega
              intro v' w2 hown2 hg2 hfr2
              have hbel2 : Below w.heap.size w (wr.alloc (.cells [.int .u8 (n : Int)].toArray 5)) := HBE.out.alloc HBE.out.size _
              have hk2 := app_keep hbel2 hbel2.size (HOW.out.alloc _) hown2 hg2 (by simpa using hfr2)
              have HK1 : Hid (w2.ownsRow w.heap.size 5 1 v' (out ++ [c9]).length ((out ++ [c9]).map B)) := by
                show World.ownsRow _ _ _ _ _ _ _
                rw [List.map_append, List.length_append]
                have := hk2.1
                rw [← HB9.out] at this
                exact this
              have HK2 := hide hk2.2
              clear hown2 hg2 hfr2 hbel2 hk2
              go_wp2
              go_roundw
              case rel => exact ⟨r9, out ++ [c9], by rw [HRR.out], by simpa using hsz9, HNX.out, HK1.out, HK2.out⟩
              case measure => show R.size < S.size; omega
            · go_wp2_with (at_builtin; refine wpList_app _ rfl (.tmp 46) (.tmp 49) 54 rfl 5 i0 (.int .u8 0) 1 1 Tryz.underlying54 hi hz0 hz1 hz2 rfl (by decide) _ _ _ rfl ((owns_base HOW.out (fun _ _ => Nat.zero_le _)).alloc _) (.slice (some ⟨wr.heap.size, 0, none⟩) 1 1) 1 [.int .u8 (n : Int)] rfl rfl ?c1 ?c2 ?c3 ?c4 ?_)
              case c1 => exact Or.inr ⟨_, _, rfl, fun j u hu => lies_row (xs := [.int .u8 (n : Int)]) j u hu⟩
              case c2 => rfl
              case c3 => unfold maxLen; omega
              case c4 => omega
              intro v' w2 hown2 hg2 hfr2
              have hbel2 : Below w.heap.size w (wr.alloc (.cells [.int .u8 (n : Int)].toArray 5)) := HBE.out.alloc HBE.out.size _
              have hk2 := app_keep hbel2 hbel2.size (HOW.out.alloc _) hown2 hg2 (by simpa using hfr2)
              have HK1 : Hid (w2.ownsRow w.heap.size 5 1 v' (out ++ [c9]).length ((out ++ [c9]).map B)) := by
                show World.ownsRow _ _ _ _ _ _ _
                rw [List.map_append, List.length_append]
                have := hk2.1
                rw [← HB9.out] at this
                exact this
              have HK2 := hide hk2.2
              clear hown2 hg2 hfr2 hbel2 hk2
              go_wp2
              go_roundw
              case rel => exact ⟨r9, out ++ [c9], by rw [HRR.out], by simpa using hsz9, HNX.out, HK1.out, HK2.out⟩
              case measure => show R.size < S.size; omega
end Go.Proofs.YtghongdbohjaaaaGreatDoor
/-
  (*sluiceref.Text).one, count.
-/
namespace Go.Proofs.YtghongdbohjaaaaGreatDoor
open Go.RowKit

/-- A text that is read. -/
structure TxS (w : World) (xb : Nat) (bv : Value) (l : List UInt8) (at_ : Nat) (no : Bool) : Prop where
  blk : w.heap[xb]? = some (.cells #[bv, .int .i64 at_, .bool no] 199 (0, 0))
  byt : BytesA w bv l
  sep : ∀ g off n c, bv = .slice (some ⟨g, off, none⟩) n c → 0 < l.length → g ≠ xb

theorem txs_set {w w' : World} {xb : Nat} {bv : Value} {l : List UInt8} {at_ at2 : Nat} {no no2 : Bool} (h : TxS w xb bv l at_ no) (hc : Chg (fun j => j = xb) w w') (hb : w'.heap[xb]? = some (.cells #[bv, .int .i64 at2, .bool no2] 199 (0, 0))) : TxS w' xb bv l at2 no2 := by
  refine ⟨hb, ?_, h.sep⟩
  rcases h.byt with hby | hby
  · rcases hby with hby | ⟨bb, off, cap, rfl, h1, h2, h3⟩
    · exact Or.inl (Or.inl hby)
    · refine Or.inl (Or.inr ⟨bb, off, cap, rfl, Nat.lt_of_lt_of_le h1 hc.size, h2, fun i hi => ?_⟩)
      exact (hc.cell (p := ⟨bb, off + i, none⟩) h1 (h.sep bb off _ _ rfl (by omega))).trans (h3 i hi)
  · exact Or.inr hby

set_option maxRecDepth 100000 in
set_option maxHeartbeats 1600000 in
theorem one_any (xb : Nat) (bv : Value) (l : List UInt8) (at_ : Nat) (no : Bool) (w : World) (h : TxS w xb bv l at_ no) (hl : l.length ≤ 1099511627776) (ha : at_ ≤ l.length) :
    Calls Tryz.prog 224 #[.pointer (some ⟨xb, 0, none⟩)] w fun e w' => e = .returned (.int .i64 (oneB l at_ no).1) ∧ TxS w' xb bv l (oneB l at_ no).2.1 (oneB l at_ no).2.2 ∧ Chg (fun j => j = xb) w w' := by
  obtain ⟨sb, cb, rfl⟩ := bytesA_len h.byt
  obtain ⟨c0, c1, c2, cf⟩ := read_blk h.blk
  have cf1 := cf 1
  have cf2 := cf 2
  have H := hide h
  clear h cf
  have fin1 : ∀ w' : World, w' = w.drew.setCell ⟨xb, 2, none⟩ (.bool true) → TxS w' xb (.slice sb l.length cb) l at_ true ∧ Chg (fun j => j = xb) w w' := by
    intro w' e
    subst e
    have hc : Chg (fun j => j = xb) w (w.drew.setCell ⟨xb, 2, none⟩ (.bool true)) := ((Chg.refl (fun j => j = xb) w).drew).setCell (p := ⟨xb, 2, none⟩) (Or.inr rfl) _
    have hb : (w.drew.setCell ⟨xb, 2, none⟩ (.bool true)).heap[xb]? = some (.cells #[.slice sb l.length cb, .int .i64 at_, .bool true] 199 (0, 0)) := block_setCell (w := w.drew) H.out.blk
    exact ⟨txs_set H.out hc hb, hc⟩
  have HF1 := hide fin1
  clear fin1
  by_cases hlt : at_ < l.length
  · obtain ⟨bb, off, hsa, hbb, hca, hcell⟩ := BytesA.cell H.out.byt hlt
    subst hsa
    have hne : bb ≠ xb := H.out.sep bb off _ _ rfl (by omega)
    have ho : oneB l at_ no = (l[at_].toNat, at_ + 1, no) := by unfold oneB; rw [List.getElem?_eq_getElem hlt]
    rw [getD_lt _ _ _ hlt] at hcell
    have hx : l[at_].toNat ≤ 255 := Nat.le_of_lt_succ l[at_].toNat_lt
    have hbl : xb < w.heap.size := lt_of_block H.out.blk
    have fin2 : ∀ w' : World, w' = ((w.drew.setCell ⟨xb, 1, none⟩ (.int .i64 ((at_ : Int) + 1))).drew) → TxS w' xb (.slice (some ⟨bb, off, none⟩) l.length cb) l (at_ + 1) no ∧ Chg (fun j => j = xb) w w' := by
      intro w' e
      subst e
      have hc : Chg (fun j => j = xb) w ((w.drew.setCell ⟨xb, 1, none⟩ (.int .i64 ((at_ : Int) + 1))).drew) := (((Chg.refl (fun j => j = xb) w).drew).setCell (p := ⟨xb, 1, none⟩) (Or.inr rfl) _).drew
      have hb : ((w.drew.setCell ⟨xb, 1, none⟩ (.int .i64 ((at_ : Int) + 1))).drew).heap[xb]? = some (.cells #[.slice (some ⟨bb, off, none⟩) l.length cb, .int .i64 ((at_ : Int) + 1), .bool no] 199 (0, 0)) := block_setCell (w := w.drew) H.out.blk
      exact ⟨txs_set H.out hc hb, hc⟩
    have HF2 := hide fin2
    have HO := hide ho
    generalize l[at_].toNat = x at hcell hx HO
    clear fin2 ho
    go_enter Tryz.func224, Tryz.ntmps224
    go_wp2
    go_region
    all_goals go_wp2
    all_goals go_region
    all_goals go_wp2
    all_goals go_ret
    all_goals (rw [HO.out]; exact ⟨rfl, HF2.out _ rfl⟩)
  · have ho : oneB l at_ no = (0, at_, true) := by unfold oneB; rw [List.getElem?_eq_none (by omega)]
    have HO := hide ho
    clear ho
    go_enter Tryz.func224, Tryz.ntmps224
    go_wp2
    go_region
    all_goals go_wp2
    all_goals go_ret
    all_goals (rw [HO.out]; exact ⟨rfl, HF1.out _ rfl⟩)
end Go.Proofs.YtghongdbohjaaaaGreatDoor
/-
  (*sluiceref.Text).count.
-/
namespace Go.Proofs.YtghongdbohjaaaaGreatDoor
open Go.RowKit

set_option maxRecDepth 100000 in
set_option maxHeartbeats 3200000 in
theorem count_any (xb : Nat) (bv : Value) (l : List UInt8) (k at_ : Nat) (no : Bool) (w : World) (h : TxS w xb bv l at_ no) (hl : l.length ≤ 1099511627776) (ha : at_ ≤ l.length) (hk : k ≤ 8) :
    Calls Tryz.prog 151 #[.pointer (some ⟨xb, 0, none⟩), .int .i64 k] w fun e w' => e = .returned (.int .i64 (cntR l k at_ no).1) ∧ TxS w' xb bv l (cntR l k at_ no).2.1 (cntR l k at_ no).2.2 ∧ Chg (fun j => j = xb) w w' := by
  have hon := one_any xb bv l at_ no w h hl ha
  have hcr : cntR l k at_ no = if (oneB l at_ no).1 % 2 ^ k < 2 ^ k - 1 then ((oneB l at_ no).1 % 2 ^ k, (oneB l at_ no).2.1, (oneB l at_ no).2.2) else cntT l 3 0 ((oneB l at_ no).1 % 2 ^ k) 1 (oneB l at_ no).2.1 (oneB l at_ no).2.2 := rfl
  obtain ⟨o1, o2⟩ := oneB_le l at_ no ha
  generalize oneB l at_ no = O at hon hcr o1 o2
  obtain ⟨c, at1, no1⟩ := O
  simp only at hon hcr o1 o2
  have HON := hide hon
  have HCR := hide hcr
  have pw : ∀ i, i ≤ k → 1 ≤ 2 ^ i ∧ 2 ^ i ≤ 256 := fun i hi => ⟨Nat.one_le_two_pow, Nat.le_trans (Nat.pow_le_pow_right (by omega) (Nat.le_trans hi hk)) (by decide)⟩
  have HPW := hide pw
  clear pw hon hcr h
  go_enter Tryz.func151, Tryz.ntmps151
  go_wp2
  go_loop [5, 6] (fun m i => ∃ j : Nat, j ≤ k ∧ i = .int .i64 j ∧ m = .int .i64 ((2 ^ j : Nat) : Int)) (fun _ i => k - (intOf i).toNat)
  case atStart => exact ⟨0, Nat.zero_le _, rfl, rfl⟩
  case round =>
    obtain ⟨j, hj, rfl, rfl⟩ := hrel
    obtain ⟨q1, q2⟩ := HPW.out j hj
    by_cases hlt : j < k
    · have hnx : 2 ^ (j + 1) = 2 * 2 ^ j := by rw [Nat.pow_succ, Nat.mul_comm]
      generalize 2 ^ j = P at q1 q2 hnx ⊢
      have HNX := hide hnx
      clear hnx
      go_wp2
      go_round
      case rel => exact ⟨j + 1, by omega, by go_num, by rw [HNX.out]; go_num⟩
      case measure => simp [intOf]; omega
    · have hjk : j = k := by omega
      subst hjk
      have hcr := HCR.out
      generalize 2 ^ j = P at q1 q2 hcr ⊢
      have hm : c % P < P := Nat.mod_lt _ q1
      obtain ⟨r, hr⟩ : ∃ r, r = c % P := ⟨_, rfl⟩
      have hri : (c : Int) % (P : Int) = r := by rw [hr]; rfl
      rw [← hr] at hcr hm
      have HRI := hide hri
      have HC2 := hide hcr
      clear hr hri hcr HCR
      have hPz : ¬ (P : Int) = 0 := by omega
      go_wp2_with fail
      refine HON.out.mono ?_
      rintro e w1 ⟨rfl, htx, hch⟩
      have HTX := hide htx
      have HCH := hide hch
      have hri := HRI.out
      clear htx hch HON
      by_cases hsm : r < P - 1
      · have HF : Hid (cntR l j at_ no = (r, at1, no1)) := by show _ = _; rw [HC2.out, if_pos hsm]
        go_wp2
        go_ret
        refine ⟨?_, ?_⟩
        · rw [HF.out]
          show Ending.returned (.int .i64 ((c : Int) % (P : Int))) = .returned (.int .i64 (r : Int))
          rw [HRI.out]
        · rw [HF.out]
          exact ⟨HTX.out, HCH.out⟩
      · have HF : Hid (cntR l j at_ no = cntT l 3 0 r 1 at1 no1) := by show _ = _; rw [HC2.out, if_neg hsm]
        go_wp2
        rw [HRI.out]
        have hrb : r ≤ 256 := by omega
        clear hri hsm hm
        go_loopw [7, 8, 10] (fun x y i wr => ∃ (a n q t : Nat) (b : Bool), a ≤ 3 ∧ i = .int .i64 a ∧ x = .int .i64 n ∧ y = .int .i64 q ∧ q = 128 ^ a ∧ n ≤ 256 * 128 ^ a ∧ t ≤ l.length ∧ TxS wr xb bv l t b ∧ Chg (fun j => j = xb) w wr ∧ cntT l 3 0 r 1 at1 no1 = cntT l (3 - a) a n q t b) (fun _ _ i _ => 3 - (intOf i).toNat)
        case atStart => exact ⟨0, r, 1, at1, no1, by omega, rfl, rfl, rfl, rfl, by simpa using hrb, o2, HTX.out, HCH.out, rfl⟩
        case round =>
          obtain ⟨a, n, q, t, b, ha3, rfl, rfl, rfl, hq, hn, ht, htx2, hch2, hcn⟩ := hrel
          by_cases hlt3 : a < 3
          · have hp : 128 ^ a ≤ 16384 := Nat.le_trans (Nat.pow_le_pow_right (by omega) (show a ≤ 2 by omega)) (by decide)
            have hq1 : q ≤ 16384 := by rw [hq]; exact hp
            have hn1 : n ≤ 4194304 := Nat.le_trans hn (Nat.le_trans (Nat.mul_le_mul_left _ hp) (by decide))
            have hone := one_any xb bv l t b wr htx2 hl ht
            obtain ⟨y1, y2⟩ := oneB_le l t b ht
            obtain ⟨d, hd⟩ : ∃ d, 3 - a = d + 1 := ⟨2 - a, by omega⟩
            have hun : cntT l (3 - a) a n q t b = if (oneB l t b).1 < 128 then (n + (oneB l t b).1 % 128 * q, (oneB l t b).2.1, (oneB l t b).2.2 || (decide (0 < a) && decide ((oneB l t b).1 = 0)))
                else cntT l (3 - (a + 1)) (a + 1) (n + (oneB l t b).1 % 128 * q) (128 * q) (oneB l t b).2.1 (oneB l t b).2.2 := by
              rw [hd, show 3 - (a + 1) = d by omega]; rfl
            have hcn2 := hcn.trans hun
            generalize oneB l t b = O at hone y1 y2 hcn2
            obtain ⟨c2, t2, b2⟩ := O
            simp only at hone y1 y2 hcn2
            obtain ⟨z, hz⟩ : ∃ z, z = c2 % 128 * q := ⟨_, rfl⟩
            have hzb : z ≤ 127 * q := by rw [hz]; exact Nat.mul_le_mul_right _ (by omega)
            have hzi : (c2 : Int) % 128 * (q : Int) = z := by rw [hz]; rfl
            rw [← hz] at hcn2
            have HZI := hide hzi
            have HONE := hide hone
            have HCN := hide hcn2
            have HCH2 := hide hch2
            have hq2 : 128 * q = 128 ^ (a + 1) := by rw [hq, Nat.pow_succ, Nat.mul_comm]
            have hn2 : n + z ≤ 256 * 128 ^ (a + 1) := by rw [Nat.pow_succ, ← hq]; rw [← hq] at hn; omega
            have HQ2 := hide hq2
            have HN2 := hide hn2
            clear hz hzi hone hcn2 hcn hun hch2 htx2 hd hq hn hp hq2 hn2
            go_wp2_with fail
            refine HONE.out.mono ?_
            rintro e w2 ⟨rfl, htx3, hch3⟩
            have hch4 : Chg (fun j => j = xb) w w2 := HCH2.out.trans (hch3.mono (fun j _ e => Or.inr e))
            have HTX3 := hide htx3
            have HCH4 := hide hch4
            obtain ⟨g0, g1, g2, gf⟩ := read_blk htx3.blk
            have gf2 := gf 2
            have hzi := HZI.out
            clear htx3 hch3 hch4 gf HONE HCH2
            have fin : TxS (w2.setCell ⟨xb, 2, none⟩ (.bool true)) xb bv l t2 true ∧ Chg (fun j => j = xb) w (w2.setCell ⟨xb, 2, none⟩ (.bool true)) := by
              have hc : Chg (fun j => j = xb) w2 (w2.setCell ⟨xb, 2, none⟩ (.bool true)) := (Chg.refl (fun j => j = xb) w2).setCell (p := ⟨xb, 2, none⟩) (Or.inr rfl) _
              exact ⟨txs_set HTX3.out hc (block_setCell HTX3.out.blk), HCH4.out.trans (hc.mono (fun j _ e => Or.inr e))⟩
            have HFIN := hide fin
            clear fin
            by_cases h128 : c2 < 128
            · have HCN3 : Hid (cntR l j at_ no = (n + z, t2, b2 || (decide (0 < a) && decide (c2 = 0)))) := by show _ = _; rw [HF.out, HCN.out, if_pos h128]
              by_cases hza : 0 < a
              · by_cases hzc : c2 = 0
                · have HE : Hid ((b2 || (decide (0 < a) && decide (c2 = 0))) = true) := by show _ = _; rw [decide_eq_true hza, decide_eq_true hzc]; simp
                  have hzc' : ((c2 : Int) == 0) = true := by simp [hzc]
                  clear hzc
                  go_wp2
                  go_ret
                  refine ⟨?_, ?_⟩
                  · rw [HCN3.out]
                    show Ending.returned (.int .i64 ((n : Int) + (z : Int))) = .returned (.int .i64 ((n + z : Nat) : Int))
                    rfl
                  · rw [HCN3.out, HE.out]
                    exact HFIN.out
                · have HE : Hid ((b2 || (decide (0 < a) && decide (c2 = 0))) = b2) := by show _ = _; rw [decide_eq_false hzc]; simp
                  have hzc' : ((c2 : Int) == 0) = false := by simp [hzc]
                  clear hzc
                  go_wp2
                  go_ret
                  refine ⟨?_, ?_⟩
                  · rw [HCN3.out]
                    show Ending.returned (.int .i64 ((n : Int) + (z : Int))) = .returned (.int .i64 ((n + z : Nat) : Int))
                    rfl
                  · rw [HCN3.out, HE.out]
                    exact ⟨HTX3.out, HCH4.out⟩
              · have HE : Hid ((b2 || (decide (0 < a) && decide (c2 = 0))) = b2) := by show _ = _; rw [decide_eq_false hza]; simp
                go_wp2
                go_ret
                refine ⟨?_, ?_⟩
                · rw [HCN3.out]
                  show Ending.returned (.int .i64 ((n : Int) + (z : Int))) = .returned (.int .i64 ((n + z : Nat) : Int))
                  rfl
                · rw [HCN3.out, HE.out]
                  exact ⟨HTX3.out, HCH4.out⟩
            · have HCN3 : Hid (cntT l 3 0 r 1 at1 no1 = cntT l (3 - (a + 1)) (a + 1) (n + z) (128 * q) t2 b2) := by show _ = _; rw [HCN.out, if_neg h128]
              go_wp2
              go_roundw
              case rel => exact ⟨a + 1, n + z, 128 * q, t2, b2, by omega, by go_num, by rw [← HZI.out]; go_num, by go_num, HQ2.out, HN2.out, y2, HTX3.out, HCH4.out, HCN3.out⟩
              case measure => simp [intOf]; omega
          · have ha4 : a = 3 := by omega
            subst ha4
            have HCN3 : Hid (cntR l j at_ no = (0, t, true)) := by show _ = _; rw [HF.out, hcn]; rfl
            have fin : TxS (wr.setCell ⟨xb, 2, none⟩ (.bool true)) xb bv l t true ∧ Chg (fun j => j = xb) w (wr.setCell ⟨xb, 2, none⟩ (.bool true)) := by
              have hc : Chg (fun j => j = xb) wr (wr.setCell ⟨xb, 2, none⟩ (.bool true)) := (Chg.refl (fun j => j = xb) wr).setCell (p := ⟨xb, 2, none⟩) (Or.inr rfl) _
              exact ⟨txs_set htx2 hc (block_setCell htx2.blk), hch2.trans (hc.mono (fun j _ e => Or.inr e))⟩
            obtain ⟨g0, g1, g2, gf⟩ := read_blk htx2.blk
            have gf2 := gf 2
            have HFIN := hide fin
            clear fin hcn gf htx2 hch2 hn hq
            go_wp2
            go_ret
            refine ⟨by rw [HCN3.out]; rfl, ?_⟩
            rw [HCN3.out]
            exact HFIN.out
end Go.Proofs.YtghongdbohjaaaaGreatDoor
/-
  (*sluiceref.Text).text.
-/
namespace Go.Proofs.YtghongdbohjaaaaGreatDoor
set_option linter.unusedVariables false
set_option linter.unusedSimpArgs false
open Go.RowKit

theorem sub_bytes {w : World} {g off cb at_ n : Nat} {l : List UInt8} (h : BytesIn w (.slice (some ⟨g, off, none⟩) l.length cb) l) (hn : at_ + n ≤ l.length) (hg : g < w.heap.size) : BytesIn w (.slice (some ⟨g, off + at_, none⟩) ((l.drop at_).take n).length (cb - at_)) ((l.drop at_).take n) := by
  rcases h with ⟨h1, _⟩ | ⟨bb, o, c, h1, h2, h3, h4⟩
  · simp at h1
  · simp only [Value.slice.injEq, Option.some.injEq, Addr.mk.injEq, and_true, true_and] at h1
    obtain ⟨⟨rfl, rfl⟩, rfl⟩ := h1
    have hl : ((l.drop at_).take n).length = n := by rw [List.length_take, List.length_drop]; omega
    refine Or.inr ⟨g, off + at_, cb - at_, rfl, hg, by rw [hl]; omega, fun i hi => ?_⟩
    rw [hl] at hi
    have h5 := h4 (at_ + i) (by omega)
    rw [getD_lt _ _ _ (by omega)] at h5
    rw [getD_lt _ _ _ (by rw [hl]; exact hi)]
    have e : off + at_ + i = off + (at_ + i) := by omega
    rw [e, h5]
    simp

theorem txs_below {w w' : World} {xb : Nat} {bv : Value} {l : List UInt8} {at_ : Nat} {no : Bool} (h : TxS w xb bv l at_ no) (hb : Below w.heap.size w w') : TxS w' xb bv l at_ no :=
  ⟨by rw [hb.block xb (lt_of_block h.blk)]; exact h.blk, h.byt.chg (Chg.of_below hb), h.sep⟩

set_option maxRecDepth 100000 in
set_option maxHeartbeats 1600000 in
theorem text_any (xb g off cb : Nat) (l : List UInt8) (at_ : Nat) (no : Bool) (w : World) (h : TxS w xb (.slice (some ⟨g, off, none⟩) l.length cb) l at_ no) (hin : BytesIn w (.slice (some ⟨g, off, none⟩) l.length cb) l) (hg : g < w.heap.size) (hgx : g ≠ xb) (hl : l.length ≤ 1048576) (ha : at_ ≤ l.length) :
    Calls Tryz.prog 225 #[.pointer (some ⟨xb, 0, none⟩)] w fun e w' => e = .returned (.string ⟨(txtR l at_ no).1.toArray⟩) ∧ TxS w' xb (.slice (some ⟨g, off, none⟩) l.length cb) l (txtR l at_ no).2.1 (txtR l at_ no).2.2 ∧ Chg (fun j => j = xb) w w' := by
  have hct := fun w0 hh => count_any xb (.slice (some ⟨g, off, none⟩) l.length cb) l 7 at_ no w0 hh (by omega) ha (by omega)
  have hle := cntR_le l 7 at_ no ha
  have htx : txtR l at_ no = if (cntR l 7 at_ no).2.2 || decide (l.length - (cntR l 7 at_ no).2.1 < (cntR l 7 at_ no).1) then ([], (cntR l 7 at_ no).2.1, true)
    else if decide (128 ≤ (oneB l at_ no).1) then (match unpB (bitsB ((l.drop (cntR l 7 at_ no).2.1).take (cntR l 7 at_ no).1)) with
      | none => ([], (cntR l 7 at_ no).2.1 + (cntR l 7 at_ no).1, true)
      | some t => (t, (cntR l 7 at_ no).2.1 + (cntR l 7 at_ no).1, false))
    else ((l.drop (cntR l 7 at_ no).2.1).take (cntR l 7 at_ no).1, (cntR l 7 at_ no).2.1 + (cntR l 7 at_ no).1, false) := rfl
  have hcb : l.length ≤ cb := by
    rcases hin with ⟨h1, _⟩ | ⟨bb, o, c, h1, h2, h3, h4⟩
    · simp at h1
    · simp only [Value.slice.injEq] at h1; omega
  have hone : ∃ is : Bool, is = decide (128 ≤ (oneB l at_ no).1) := ⟨_, rfl⟩
  obtain ⟨is, his⟩ := hone
  rw [← his] at htx
  obtain ⟨c0, c1, c2, cf⟩ := read_blk h.blk
  have H := hide h
  have HIN := hide hin
  have HCT := hide hct
  have HIS := hide his
  have HTX := hide htx
  clear h hin hct his htx
  go_enter Tryz.func225, Tryz.ntmps225
  go_upto_region 1 with fail
  go_cut [3] (fun s3 wx => s3 = .bool is ∧ wx = w.drew)
  case first =>
    by_cases hlt : at_ < l.length
    · obtain ⟨bb, o, hsa, hbb, hca, hcell⟩ := BytesA.cell (H.out.byt) hlt
      simp only [Option.some.injEq, Addr.mk.injEq, and_true] at hsa
      obtain ⟨rfl, rfl⟩ := hsa
      have ho : oneB l at_ no = (l[at_].toNat, at_ + 1, no) := by unfold oneB; rw [List.getElem?_eq_getElem hlt]
      rw [getD_lt _ _ _ hlt] at hcell
      have hx : l[at_].toNat ≤ 255 := Nat.le_of_lt_succ l[at_].toNat_lt
      have hi2 : is = decide (128 ≤ l[at_].toNat) := by rw [HIS.out, ho]
      generalize l[at_].toNat = x at hcell hx hi2
      have HI2 := hide hi2
      clear ho hi2
      go_region
      all_goals (go_wp2_with fail)
      all_goals go_meet
      all_goals (rw [HI2.out]; exact ⟨by simp; omega, rfl⟩)
    · have ho : oneB l at_ no = (0, at_, true) := by unfold oneB; rw [List.getElem?_eq_none (by omega)]
      have hi2 : is = false := by rw [HIS.out, ho]; rfl
      have HI2 := hide hi2
      clear ho hi2
      go_region
      all_goals (go_wp2_with fail)
      all_goals go_meet
      all_goals (rw [HI2.out]; exact ⟨rfl, rfl⟩)
  case rest =>
    obtain ⟨rfl, hwc⟩ := hcut
    rw [hwc]
    clear hwc wc
    have HC := hide (HCT.out w.drew (txs_below H.out ⟨rfl, rfl, rfl, Nat.le_refl _, fun _ _ => rfl⟩))
    clear HCT c0 c1 c2 cf HIS
    generalize cntR l 7 at_ no = q at HC hle HTX
    obtain ⟨n, a1, no1⟩ := q
    simp only at HC hle HTX
    go_wp2_with fail
    refine HC.out.mono ?_
    rintro e w1 ⟨rfl, ht1, hc1⟩
    obtain ⟨d0, d1, d2, df⟩ := read_blk ht1.blk
    have hxl := lt_of_block ht1.blk
    have hchg : Chg (fun j => j = xb) w w1 := ((Chg.refl (fun j => j = xb) w).drew).trans (hc1.mono fun j _ e => Or.inr e)
    have hin1 := HIN.out.chg hchg (fun j hj e => by simp [Value.ownBlock] at hj; omega)
    have HT1 := hide ht1
    have HC1 := hide hchg
    have HIN1 := hide hin1
    have hg1 : g < w1.heap.size := Nat.lt_of_lt_of_le hg hchg.size
    clear ht1 hc1 hchg hin1 HC
    go_upto_region 3 with fail
    go_cut [50] (fun s50 wx => s50 = .bool (no1 || decide (l.length - a1 < n)) ∧ wx = w1.drew)
    case first =>
      cases no1 with
      | true =>
        go_region
        all_goals (go_wp2_with fail)
        all_goals go_meet
        all_goals exact ⟨rfl, rfl⟩
      | false =>
        go_region
        all_goals (go_wp2_with fail)
        all_goals go_meet
        all_goals exact ⟨by simp; omega, rfl⟩
    case rest =>
      obtain ⟨rfl, hwc⟩ := hcut
      rw [hwc]
      clear hwc wc
      have df1 := df 1
      have df2 := df 2
      clear df
      cases hbad : (no1 || decide (l.length - a1 < n)) with
      | true =>
        have hfin : txtR l at_ no = ([], a1, true) := by rw [HTX.out, hbad]; rfl
        have HFIN := hide hfin
        clear hfin hbad
        have hc2 : Chg (fun j => j = xb) w1 (w1.drew.setCell ⟨xb, 2, none⟩ (.bool true)) := ((Chg.refl (fun j => j = xb) w1).drew).setCell (p := ⟨xb, 2, none⟩) (Or.inr rfl) _
        have ht2 : TxS (w1.drew.setCell ⟨xb, 2, none⟩ (.bool true)) xb (.slice (some ⟨g, off, none⟩) l.length cb) l a1 true := txs_set HT1.out hc2 (block_setCell (w := w1.drew) HT1.out.blk)
        have HT2 := hide ht2
        have HC2 := hide (HC1.out.trans (hc2.mono fun j _ e => Or.inr e))
        clear hc2 ht2
        go_wp2
        go_ret
        rw [HFIN.out]
        exact ⟨rfl, HT2.out, HC2.out⟩
      | false =>
        have hno : no1 = false := by cases no1 <;> simp_all
        have hn2 : n ≤ l.length - a1 := by
          rw [hno] at hbad
          simp at hbad
          exact hbad
        have htx2 := HTX.out
        rw [hbad, if_neg (by decide)] at htx2
        have HTX2 := hide htx2
        subst hno
        clear hbad htx2 HTX
        go_upto_region 6 with fail
        go_cut [5] (fun s5 wx => (∃ o' c', s5 = .slice (some ⟨g, o', none⟩) n c' ∧ (o' = off + a1 ∨ n = 0) ∧ n ≤ c') ∧ wx = w1.drew.drew)
        case first =>
          go_region
          all_goals (go_wp2_with fail)
          all_goals go_meet
          all_goals first
            | exact ⟨⟨off + a1, cb - a1, rfl, Or.inl rfl, by omega⟩, rfl⟩
            | exact ⟨⟨off, 0, rfl, Or.inr (by omega), by omega⟩, rfl⟩
        case rest =>
          obtain ⟨⟨o', c', rfl, hoa, hnc⟩, hwc⟩ := hcut
          rw [hwc]
          clear hwc wc
          have hc2 : Chg (fun j => j = xb) w1 (w1.drew.drew.setCell ⟨xb, 1, none⟩ (.int .i64 ((a1 : Int) + (n : Int)))) := (((Chg.refl (fun j => j = xb) w1).drew).drew).setCell (p := ⟨xb, 1, none⟩) (Or.inr rfl) _
          have hblk2 : (w1.drew.drew.setCell ⟨xb, 1, none⟩ (.int .i64 ((a1 : Int) + (n : Int)))).heap[xb]? = some (.cells #[.slice (some ⟨g, off, none⟩) l.length cb, .int .i64 ((a1 + n : Nat) : Int), .bool false] 199 (0, 0)) := block_setCell (w := w1.drew.drew) HT1.out.blk
          have ht2 := txs_set HT1.out hc2 hblk2
          have hin2 := HIN1.out.chg hc2 (fun j hj e => by simp [Value.ownBlock] at hj; omega)
          have hsl : ((l.drop a1).take n).length = n := by rw [List.length_take, List.length_drop]; omega
          have hsub : BytesIn (w1.drew.drew.setCell ⟨xb, 1, none⟩ (.int .i64 ((a1 : Int) + (n : Int)))) (.slice (some ⟨g, o', none⟩) ((l.drop a1).take n).length c') ((l.drop a1).take n) := by
            rcases hoa with e | e
            · have hs := sub_bytes (at_ := a1) (n := n) hin2 (by omega) (Nat.lt_of_lt_of_le hg1 hc2.size)
              rcases hs with ⟨h1, _⟩ | ⟨bb, o, c, h1, h2, h3, h4⟩
              · simp at h1
              · simp only [Value.slice.injEq, Option.some.injEq, Addr.mk.injEq, and_true, true_and] at h1
                obtain ⟨⟨e1, e2⟩, _⟩ := h1
                subst e1
                exact Or.inr ⟨g, o', c', rfl, h2, by rw [hsl]; exact hnc, fun i hi => by rw [e, e2]; exact h4 i hi⟩
            · subst e
              exact Or.inr ⟨g, o', c', rfl, Nat.lt_of_lt_of_le hg1 hc2.size, by rw [hsl]; exact hnc, fun i hi => by rw [hsl] at hi; omega⟩
          have HT2 := hide ht2
          have HC2 := hide (HC1.out.trans (hc2.mono fun j _ e => Or.inr e))
          have HSUB := hide hsub
          have HSL := hide hsl
          clear hblk2 ht2 hin2 hsub hc2
          cases is with
          | false =>
            have hcv := conv_bytes (w := (w1.setCell ⟨xb, 1, none⟩ (.int .i64 ((a1 : Int) + (n : Int)))).drew.drew) (show BytesIn _ _ _ from HSUB.out)
            rw [HSL.out] at hcv
            have HFIN : Hid (txtR l at_ no = ((l.drop a1).take n, a1 + n, false)) := by show _ = _; rw [HTX2.out]; rfl
            obtain ⟨T, hT⟩ : ∃ T : ByteArray, T = ⟨((l.drop a1).take n).toArray⟩ := ⟨_, rfl⟩
            rw [← hT] at hcv
            have HTT := hide hT
            clear hsl hT hoa
            go_wp2
            go_ret
            rw [HFIN.out]
            exact ⟨by first | (rw [HTT.out]; rfl) | (rw [HTT.out]; simp), HT2.out, HC2.out⟩
          | true =>
            have hup := unpacked_any (some ⟨g, o', none⟩) c' ((l.drop a1).take n) (w1.drew.drew.setCell ⟨xb, 1, none⟩ (.int .i64 ((a1 : Int) + (n : Int)))) (Or.inl HSUB.out) (by rw [HSL.out]; omega)
            rw [HSL.out] at hup
            have HFIN : Hid (txtR l at_ no = match unpB (bitsB ((l.drop a1).take n)) with | none => ([], a1 + n, true) | some t => (t, a1 + n, false)) := by show _ = _; rw [HTX2.out]; rfl
            have hun : unpT ((l.drop a1).take n) = match unpB (bitsB ((l.drop a1).take n)) with | none => ⟨#[]⟩ | some t => ⟨t.toArray⟩ := rfl
            have HUN := hide hun
            have HUP := hide hup
            clear hup hun hsl
            go_wp2_with fail
            refine HUP.out.mono ?_
            rintro e w3 ⟨rfl, hb3⟩
            have ht3 := txs_below HT2.out hb3
            obtain ⟨f0, f1, f2, ff⟩ := read_blk ht3.blk
            have ff2 := ff 2
            have hc3 := HC2.out.then_below hb3
            have HT3 := hide ht3
            have HC3 := hide hc3
            clear hb3 ht3 hc3 ff
            cases hu : unpB (bitsB ((l.drop a1).take n)) with
            | none =>
              rw [hu] at HFIN HUN
              have hc4 : Chg (fun j => j = xb) w3 (w3.setCell ⟨xb, 2, none⟩ (.bool true)) := (Chg.refl (fun j => j = xb) w3).setCell (p := ⟨xb, 2, none⟩) (Or.inr rfl) _
              have ht4 : TxS (w3.setCell ⟨xb, 2, none⟩ (.bool true)) xb (.slice (some ⟨g, off, none⟩) l.length cb) l (a1 + n) true := txs_set HT3.out hc4 (block_setCell HT3.out.blk)
              have HT4 := hide ht4
              have HC4 := hide (HC3.out.trans (hc4.mono fun j _ e => Or.inr e))
              clear hc4 ht4 hu
              go_wp2
              go_ret
              rw [HFIN.out, HUN.out]
              exact ⟨rfl, HT4.out, HC4.out⟩
            | some t =>
              rw [hu] at HFIN HUN
              clear hu
              go_wp2
              go_ret
              rw [HFIN.out, HUN.out]
              exact ⟨rfl, HT3.out, HC3.out⟩
end Go.Proofs.YtghongdbohjaaaaGreatDoor
/-
  (*sluiceref.Unpacker).named.
-/
namespace Go.Proofs.YtghongdbohjaaaaGreatDoor
set_option linter.unusedVariables false
set_option linter.unusedSimpArgs false
open Go.RowKit

/-- What a call on a text and a table may have: the text's state, and what it may change. -/
structure TxP (w : World) (xb g off cb : Nat) (l : List UInt8) (at_ : Nat) (no : Bool) : Prop where
  tx : TxS w xb (.slice (some ⟨g, off, none⟩) l.length cb) l at_ no
  byt : BytesIn w (.slice (some ⟨g, off, none⟩) l.length cb) l
  lt : g < w.heap.size
  ne : g ≠ xb
  at_ : at_ ≤ l.length
theorem TxP.below {w w' : World} {xb g off cb : Nat} {l : List UInt8} {at_ : Nat} {no : Bool} (h : TxP w xb g off cb l at_ no) (hb : Below w.heap.size w w') : TxP w' xb g off cb l at_ no :=
  ⟨txs_below h.tx hb, h.byt.chg (Chg.of_below (S := fun _ => False) hb) (fun _ _ => id), Nat.lt_of_lt_of_le h.lt hb.size, h.ne, h.at_⟩
theorem TxP.chg {S : Nat → Prop} {w w' : World} {xb g off cb : Nat} {l : List UInt8} {at_ : Nat} {no : Bool} (h : TxP w xb g off cb l at_ no) (hc : Chg S w w') (h1 : ¬ S xb) (h2 : ¬ S g) : TxP w' xb g off cb l at_ no := by
  have hb := h.byt.chg hc (fun j hj e => by simp [Value.ownBlock] at hj; exact h2 (by rw [hj]; exact e))
  exact ⟨⟨by rw [hc.block xb (lt_of_block h.tx.blk) h1]; exact h.tx.blk, Or.inl hb, h.tx.sep⟩, hb, Nat.lt_of_lt_of_le h.lt hc.size, h.ne, h.at_⟩
theorem TxP.to {w w' : World} {xb g off cb : Nat} {l : List UInt8} {at_ at2 : Nat} {no no2 : Bool} (h : TxP w xb g off cb l at_ no) (ht : TxS w' xb (.slice (some ⟨g, off, none⟩) l.length cb) l at2 no2) (hc : Chg (fun j => j = xb) w w') (ha : at2 ≤ l.length) : TxP w' xb g off cb l at2 no2 :=
  ⟨ht, h.byt.chg hc (fun j hj e => by simp [Value.ownBlock] at hj; exact h.ne (by omega)), Nat.lt_of_lt_of_le h.lt hc.size, h.ne, ha⟩
theorem TxP.text {w : World} {xb g off cb : Nat} {l : List UInt8} {at_ : Nat} {no : Bool} (h : TxP w xb g off cb l at_ no) (hl : l.length ≤ 1048576) :
    Calls Tryz.prog 225 #[.pointer (some ⟨xb, 0, none⟩)] w fun e w' => e = .returned (.string ⟨(txtR l at_ no).1.toArray⟩) ∧ TxP w' xb g off cb l (txtR l at_ no).2.1 (txtR l at_ no).2.2 ∧ Chg (fun j => j = xb) w w' :=
  (text_any xb g off cb l at_ no w h.tx h.byt h.lt h.ne hl h.at_).mono fun e w' ⟨h1, h2, h3⟩ => ⟨h1, h.to h2 h3 (txtR_le l at_ no h.at_), h3⟩
theorem TxP.count {w : World} {xb g off cb : Nat} {l : List UInt8} {at_ : Nat} {no : Bool} (h : TxP w xb g off cb l at_ no) (hl : l.length ≤ 1048576) (k : Nat) (hk : k ≤ 8) :
    Calls Tryz.prog 151 #[.pointer (some ⟨xb, 0, none⟩), .int .i64 k] w fun e w' => e = .returned (.int .i64 (cntR l k at_ no).1) ∧ TxP w' xb g off cb l (cntR l k at_ no).2.1 (cntR l k at_ no).2.2 ∧ Chg (fun j => j = xb) w w' :=
  (count_any xb _ l k at_ no w h.tx (by omega) h.at_ hk).mono fun e w' ⟨h1, h2, h3⟩ => ⟨h1, h.to h2 h3 (cntR_le l k at_ no h.at_), h3⟩
theorem TxP.no {w : World} {xb g off cb : Nat} {l : List UInt8} {at_ : Nat} {no : Bool} (h : TxP w xb g off cb l at_ no) : w.cell? ⟨xb, 0, none⟩ = some (.slice (some ⟨g, off, none⟩) l.length cb) ∧ w.cell? ⟨xb, 1, none⟩ = some (.int .i64 at_) ∧ w.cell? ⟨xb, 2, none⟩ = some (.bool no) := by
  obtain ⟨a, b, c, _⟩ := read_blk h.tx.blk
  exact ⟨a, b, c⟩

theorem unpB_len2 {bs : List Bool} {t : List UInt8} (h : unpB bs = some t) : 4 * t.length ≤ bs.length := by
  generalize hn : bs.length = n
  induction n using Nat.strongRecOn generalizing bs t with
  | ind n ih =>
    cases hf : fillB bs with
    | true => rw [unpB_fill hf] at h; simp at h; subst h; simp
    | false =>
      cases hd : decB bs with
      | none => rw [unpB_none hf hd] at h; simp at h
      | some p =>
        obtain ⟨c, r⟩ := p
        rw [unpB_next hf hd] at h
        have hin := decB_inv hd
        have hs4 : 4 ≤ (codeB c).length := by
          unfold codeB
          split
          · simp [natBits_length]
          · split <;> simp [natBits_length]
        have hlen := congrArg List.length hin
        rw [List.length_append] at hlen
        cases hu : unpB r with
        | none => rw [hu] at h; simp at h
        | some t2 =>
          rw [hu] at h
          simp at h
          subst h
          have := ih r.length (by omega) hu rfl
          simp
          omega
theorem txtR_len (l : List UInt8) (at_ : Nat) (no : Bool) (hl : l.length ≤ 1048576) : (txtR l at_ no).1.length ≤ 8388608 := by
  unfold txtR
  split
  · simp
  · split
    · cases hu : unpB (bitsB ((l.drop (cntR l 7 at_ no).2.1).take (cntR l 7 at_ no).1)) with
      | none => simp
      | some t =>
        have h1 := unpB_len2 hu
        rw [bitsB_length, List.length_take, List.length_drop] at h1
        simp only
        omega
    · simp only [List.length_take, List.length_drop]
      omega

set_option maxRecDepth 100000 in
set_option maxHeartbeats 1600000 in
theorem named_any (ub xb g off cb k : Nat) (l : List UInt8) (at_ : Nat) (lv : Value) (log : List Ch) (w : World) (h : TxP w xb g off cb l at_ false) (hl : l.length ≤ 1048576) (hk : k ≤ 8) (hc : w.cell? ⟨ub, 0, none⟩ = some lv) (hrow : w.ownsRow 0 282 3 lv log.length (chCells log)) (hok : chOk log) (hll : log.length ≤ 1073741824) (hux : ub ≠ xb) (hlx : lv.ownBlock ≠ some xb) (hnb : (numB log).length ≤ 40) (hnl : ∀ x ∈ numB log, x.n.size ≤ 1048576) :
    Calls Tryz.prog 152 #[.pointer (some ⟨ub, 0, none⟩), .pointer (some ⟨xb, 0, none⟩), .int .i64 k] w fun e w' => e = .returned (.tuple #[.agg #[.string (namedR (numB log) l k at_).1.1.n, .string (namedR (numB log) l k at_).1.1.v], .bool (namedR (numB log) l k at_).1.2]) ∧
      TxP w' xb g off cb l (namedR (numB log) l k at_).2.1 (namedR (numB log) l k at_).2.2 ∧ Chg (fun j => j = xb) w w' := by
  have hul : ub < w.heap.size := World.block_lt_of_cell? w _ hc
  have hxl := lt_of_block h.tx.blk
  have hb0 : Below w.heap.size w (w.alloc (.cells #[.string ⟨#[]⟩, .string ⟨#[]⟩] 62)) := (Below.refl _ _).alloc (Nat.le_refl _) _
  have hr0 : (w.alloc (.cells #[.string ⟨#[]⟩, .string ⟨#[]⟩] 62)).heap[w.heap.size]? = some (.cells #[.string ⟨#[]⟩, .string ⟨#[]⟩] 62 (0, 0)) := heap_alloc_new w _
  have HCNT := hide ((h.below hb0).count hl k hk)
  have HNU := hide (fun (w1 : World) (hc1 : Chg (fun j => j = xb) (w.alloc (.cells #[.string ⟨#[]⟩, .string ⟨#[]⟩] 62)) w1) => numbered_any ub lv log w1 (((hc1.cell (p := ⟨ub, 0, none⟩) (by simp; omega) hux).trans ((hb0.cell (p := ⟨ub, 0, none⟩) hul).trans hc))) (owns_chg (owns_chg hrow (Chg.of_below (S := fun _ => False) hb0) (fun _ _ => id)) hc1 (fun j hj e => hlx (by rw [← e]; exact hj))) hok hll)
  have HR0 := hide hr0
  have HB0 := hide hb0
  have HGL := hide h.lt
  have hnm : namedR (numB log) l k at_ = if (cntR l k at_ false).2.2 || decide ((numB log).length < (cntR l k at_ false).1) then ((noHP, false), (cntR l k at_ false).2)
    else ((⟨⟨(nameR (numB log) l (cntR l k at_ false)).1.toArray⟩, ⟨(txtR l (nameR (numB log) l (cntR l k at_ false)).2.1 (nameR (numB log) l (cntR l k at_ false)).2.2).1.toArray⟩⟩,
      prB ⟨⟨(nameR (numB log) l (cntR l k at_ false)).1.toArray⟩, ⟨(txtR l (nameR (numB log) l (cntR l k at_ false)).2.1 (nameR (numB log) l (cntR l k at_ false)).2.2).1.toArray⟩⟩ && !(txtR l (nameR (numB log) l (cntR l k at_ false)).2.1 (nameR (numB log) l (cntR l k at_ false)).2.2).2.2),
      (txtR l (nameR (numB log) l (cntR l k at_ false)).2.1 (nameR (numB log) l (cntR l k at_ false)).2.2).2) := rfl
  generalize cntR l k at_ false = q at HCNT hnm
  obtain ⟨n, a1, no1⟩ := q
  simp only at HCNT hnm
  have HNM := hide hnm
  have HNL := hide hnl
  clear h hc hrow hok hr0 hb0 hnm hnl
  go_enter Tryz.func152, Tryz.ntmps152
  go_wp2_with fail
  refine HCNT.out.mono ?_
  rintro e w1 ⟨rfl, ht1, hc1⟩
  have hz1 := hc1.size
  have HT1 := hide ht1
  have HC1 := hide hc1
  have hr1 : w1.heap[w.heap.size]? = some (.cells #[.string ⟨#[]⟩, .string ⟨#[]⟩] 62 (0, 0)) := by rw [hc1.block _ (lt_of_block HR0.out) (by omega)]; exact HR0.out
  have HR1 := hide hr1
  have HNU1 := hide (HNU.out w1 hc1)
  clear ht1 hc1 hr1 HNU HCNT
  go_wp2_with fail
  refine HNU1.out.mono ?_
  rintro e w2 ⟨v2, rfl, hown2, hb2⟩
  obtain ⟨s2, c2, rfl⟩ := slice_len hown2
  generalize hQ : numB log = Q at hown2 HNM hnb HNL
  have HQ := hide hQ
  clear hQ
  have ht2 := HT1.out.below hb2
  obtain ⟨x0, x1, x2⟩ := ht2.no
  have HT2 := hide ht2
  have hr2 := kept_told HR1.out hb2
  have HR2 := hide hr2
  have HO2 := hide hown2
  have HC2 := hide (HC1.out.then_below hb2)
  have hz2 := hb2.size
  have hwl := lt_of_block hr2
  obtain ⟨r0, r1⟩ := pair_blk hr2
  have rf : ∀ o, w2.frozen? ⟨w.heap.size, o, none⟩ = false := fun o => by simp [World.frozen?, hr2]
  have rf0 := rf 0
  have rf1 := rf 1
  have hgl : g < w.heap.size := HGL.out
  have hcw : Chg (fun j => j = xb) w w2 := (Chg.of_below HB0.out).trans ((HC2.out.mono fun j _ e => Or.inr e))
  have HCW := hide hcw
  clear ht2 hr2 hown2 hb2 hcw rf HNU1
  go_upto_region 3 with fail
  go_cut [28] (fun s28 wx => s28 = .bool (no1 || decide (Q.length < n)) ∧ wx = w2)
  case first =>
    cases no1 with
    | true =>
      go_wp2_with fail
      go_meet
      exact ⟨rfl, rfl⟩
    | false =>
      go_wp2_with fail
      go_meet
      exact ⟨by simp, rfl⟩
  case rest =>
    obtain ⟨rfl, hwc⟩ := hcut
    rw [hwc]
    clear hwc wc
    cases hbad : (no1 || decide (Q.length < n)) with
    | true =>
      have hfin : namedR Q l k at_ = ((noHP, false), (a1, no1)) := by rw [HNM.out, hbad]; rfl
      have HFIN := hide hfin
      have hcS : ∀ u v : Value, Chg (fun j => j = w.heap.size) w2 ((w2.setCell ⟨w.heap.size, 0, none⟩ u).setCell ⟨w.heap.size, 1, none⟩ v) := fun u v => ((Chg.refl (fun j => j = w.heap.size) w2).setCell (p := ⟨w.heap.size, 0, none⟩) (Or.inr rfl) _).setCell (p := ⟨w.heap.size, 1, none⟩) (Or.inr rfl) _
      have HCS := hide hcS
      clear hfin hbad hcS
      have hTP : TxP ((w2.setCell ⟨w.heap.size, 0, none⟩ (.string ⟨#[]⟩)).setCell ⟨w.heap.size, 1, none⟩ (.string ⟨#[]⟩)) xb g off cb l a1 no1 := HT2.out.chg (HCS.out _ _) (by omega) (by omega)
      have hCH : Chg (fun j => j = xb) w ((w2.setCell ⟨w.heap.size, 0, none⟩ (.string ⟨#[]⟩)).setCell ⟨w.heap.size, 1, none⟩ (.string ⟨#[]⟩)) := HCW.out.trans ((HCS.out _ _).mono fun j _ e => Or.inl (by omega))
      have HTP := hide hTP
      have HCH := hide hCH
      clear hTP hCH
      obtain ⟨y0, y1⟩ := pair_blk (v0 := .string ⟨#[]⟩) (v1 := .string ⟨#[]⟩) (block_setCell (i := 1) (u := .string ⟨#[]⟩) (block_setCell (i := 0) (u := .string ⟨#[]⟩) HR2.out))
      go_wp2
      refine bodyPost_ret (v := .tuple #[.agg #[.string ⟨#[]⟩, .string ⟨#[]⟩], .bool false]) ?_ rfl ⟨?_, ?_⟩
      · simp [results, Tryz.results152, go_sem, y0, y1]
      · rw [HQ.out, HFIN.out]; rfl
      · rw [HQ.out, HFIN.out]; exact ⟨HTP.out, HCH.out⟩
    | false =>
      have hno : no1 = false := by cases no1 <;> simp_all
      have hn2 : n ≤ Q.length := by
        rw [hno] at hbad
        simp at hbad
        exact hbad
      have hnm2 := HNM.out
      rw [hbad, if_neg (by decide)] at hnm2
      have HNM2 := hide hnm2
      subst hno
      clear hbad hnm2 HNM
      have hb3 : Below w2.heap.size w2 (w2.alloc (.cells #[.string ⟨#[]⟩, .string ⟨#[]⟩] 62)) := (Below.refl _ _).alloc (Nat.le_refl _) _
      have hh3 : (w2.alloc (.cells #[.string ⟨#[]⟩, .string ⟨#[]⟩] 62)).heap[w2.heap.size]? = some (.cells #[.string ⟨#[]⟩, .string ⟨#[]⟩] 62 (0, 0)) := heap_alloc_new w2 _
      have hz3 : (w2.alloc (.cells #[.string ⟨#[]⟩, .string ⟨#[]⟩] 62)).heap.size = w2.heap.size + 1 := by simp
      have HT3 := hide (HT2.out.below hb3)
      have HR3 := hide (kept_told HR2.out hb3)
      have HO3 := hide (owns_chg HO2.out (Chg.of_below (S := fun _ => False) hb3) (fun _ _ => id))
      have HC3 := hide (HCW.out.then_below hb3)
      have HH3 := hide hh3
      clear hb3 hh3
      go_upto_if 31 with fail
      go_cut [] (fun wx => ∃ NM a no', nameR Q l (n, a1, false) = (NM, a, no') ∧ NM.length ≤ 8388608 ∧ TxP wx xb g off cb l a no' ∧ wx.heap[w2.heap.size]? = some (.cells #[.string ⟨NM.toArray⟩, .string ⟨#[]⟩] 62 (0, 0)) ∧ wx.heap[w.heap.size]? = some (.cells #[.string ⟨#[]⟩, .string ⟨#[]⟩] 62 (0, 0)) ∧ Chg (fun j => j = xb) w wx)
      case first =>
        by_cases hn0 : 0 < n
        · obtain ⟨gq, hgq, hcq⟩ := slice_some HO3.out (by omega)
          subst hgq
          obtain ⟨m, rfl⟩ : ∃ m, n = m + 1 := ⟨n - 1, by omega⟩
          have hml : m < Q.length := by omega
          have hmi : ((m + 1 : Nat) : Int) - 1 = (m : Int) := by omega
          obtain ⟨e0, e1⟩ := hdCells_get hml
          have q0 : (w2.alloc (.cells #[.string ⟨#[]⟩, .string ⟨#[]⟩] 62)).cell? ⟨gq, m * 2, none⟩ = some (.string Q[m].n) := by rw [HO3.out.cellAt _ (by have := hdCells_length Q; omega)]; exact e0
          have hname : nameR Q l (m + 1, a1, false) = (Q[m].n.data.toList, a1, false) := by simp [nameR, hml]
          have hql : Q[m].n.data.toList.length ≤ 8388608 := by have h9 : Q[m].n.data.size ≤ 1048576 := HNL.out _ (List.getElem_mem hml); rw [Array.length_toList]; omega
          have HNAME := hide hname
          generalize Q[m].n = qn at q0 HNAME hql
          have hb4 : Below w2.heap.size w2 (w2.alloc (.cells #[.string qn, .string ⟨#[]⟩] 62)) := (Below.refl _ _).alloc (Nat.le_refl _) _
          have HT4 := hide (HT2.out.below hb4)
          have HH4 := hide (show (w2.alloc (.cells #[.string qn, .string ⟨#[]⟩] 62)).heap[w2.heap.size]? = some (.cells #[.string qn, .string ⟨#[]⟩] 62 (0, 0)) from heap_alloc_new w2 _)
          have HR4 := hide (kept_told HR2.out hb4)
          have HC4 := hide (HCW.out.then_below hb4)
          clear e0 e1 hname hb4
          go_wp2_with fail
          go_meet
          exact ⟨_, _, _, HNAME.out, hql, HT4.out, HH4.out, HR4.out, HC4.out⟩
        · have hn00 : n = 0 := by omega
          subst hn00
          have hname : nameR Q l (0, a1, false) = txtR l a1 false := rfl
          have hvl := txtR_len l a1 false hl
          have HTX := hide (HT3.out.text hl)
          have HNAME := hide hname
          clear hname
          generalize txtR l a1 false = tq at HTX hvl HNAME
          obtain ⟨NM, a, no'⟩ := tq
          simp only at HTX hvl HNAME
          go_wp2_with fail
          refine HTX.out.mono ?_
          rintro e w4 ⟨rfl, ht4, hc4⟩
          have hh4 := (hc4.block _ (lt_of_block HH3.out) (by omega)).trans HH3.out
          have hr4 := (hc4.block _ (lt_of_block HR3.out) (by omega)).trans HR3.out
          have hf4 : w4.frozen? ⟨w2.heap.size, 0, none⟩ = false := by simp [World.frozen?, hh4]
          obtain ⟨p0, p1⟩ := pair_blk hh4
          have hcs : Chg (fun j => j = w2.heap.size) w4 (w4.setCell ⟨w2.heap.size, 0, none⟩ (.string ⟨NM.toArray⟩)) := (Chg.refl (fun j => j = w2.heap.size) _).setCell (p := ⟨w2.heap.size, 0, none⟩) (Or.inr rfl) _
          have hz4 := hc4.size
          have HT5 := hide (ht4.chg hcs (by omega) (by omega))
          have HH5 := hide (block_setCell (i := 0) (u := .string ⟨NM.toArray⟩) hh4)
          have hr5 := (hcs.block _ (by omega) (by omega)).trans hr4
          have HR5 := hide hr5
          have HC5 := hide ((HC3.out.trans (hc4.mono fun j _ e => Or.inr e)).trans (hcs.mono fun j _ e => Or.inl (by omega)))
          clear ht4 hc4 hh4 hr4 hcs hr5
          go_wp2_with fail
          go_meet
          exact ⟨_, _, _, HNAME.out, hvl, HT5.out, HH5.out, HR5.out, HC5.out⟩
      case rest =>
        obtain ⟨NM, a, no', hname, hNMl, ht4, hh4, hr4, hc4⟩ := hcut
        obtain ⟨w4, hw4⟩ : ∃ w4, w4 = wc := ⟨wc, rfl⟩
        subst hw4
        have hh4l := lt_of_block hh4
        have HNM3 : Hid (namedR Q l k at_ = ((⟨⟨NM.toArray⟩, ⟨(txtR l a no').1.toArray⟩⟩, prB ⟨⟨NM.toArray⟩, ⟨(txtR l a no').1.toArray⟩⟩ && !(txtR l a no').2.2), (txtR l a no').2)) := by show _ = _; rw [HNM2.out, hname]
        have hvl := txtR_len l a no' hl
        have HTX := hide (ht4.text hl)
        have HH4 := hide hh4
        have HR4 := hide hr4
        have HC4 := hide hc4
        generalize txtR l a no' = tq at HNM3 HTX hvl
        obtain ⟨VL, a2, no2⟩ := tq
        simp only at HNM3 HTX hvl
        clear hname ht4 hh4 hr4 hc4
        go_wp2_with fail
        refine HTX.out.mono ?_
        rintro e w5 ⟨rfl, ht5, hc5⟩
        have hh5 : w5.heap[w2.heap.size]? = some (.cells #[.string ⟨NM.toArray⟩, .string ⟨#[]⟩] 62 (0, 0)) := by rw [hc5.block _ (lt_of_block HH4.out) (by omega)]; exact HH4.out
        have hr5 : w5.heap[w.heap.size]? = some (.cells #[.string ⟨#[]⟩, .string ⟨#[]⟩] 62 (0, 0)) := by rw [hc5.block _ (lt_of_block HR4.out) (by omega)]; exact HR4.out
        have hf5 : w5.frozen? ⟨w2.heap.size, 1, none⟩ = false := by simp [World.frozen?, hh5]
        obtain ⟨p0, p1⟩ := pair_blk hh5
        obtain ⟨w6, hw6⟩ : ∃ w6, w6 = w5.setCell ⟨w2.heap.size, 1, none⟩ (.string ⟨VL.toArray⟩) := ⟨_, rfl⟩
        have hcs : Chg (fun j => j = w2.heap.size) w5 w6 := by rw [hw6]; exact (Chg.refl (fun j => j = w2.heap.size) _).setCell (p := ⟨w2.heap.size, 1, none⟩) (Or.inr rfl) _
        have hz5 := hc5.size
        have HT6 := hide (ht5.chg hcs (by omega) (by omega))
        have hh6 : w6.heap[w2.heap.size]? = some (.cells #[.string ⟨NM.toArray⟩, .string ⟨VL.toArray⟩] 62 (0, 0)) := by rw [hw6]; exact block_setCell (i := 1) (u := .string ⟨VL.toArray⟩) hh5
        have hr6 := (hcs.block _ (by omega) (by omega)).trans hr5
        have HC6 := hide ((HC4.out.trans (hc5.mono fun j _ e => Or.inr e)).trans (hcs.mono fun j _ e => Or.inl (by omega)))
        have HH6 := hide hh6
        have HR6 := hide hr6
        obtain ⟨u0, u1⟩ := pair_blk hh6
        have HPR := hide (pairRight_any ⟨⟨NM.toArray⟩, ⟨VL.toArray⟩⟩ w6 (by show NM.toArray.size ≤ _; simp; omega) (by show VL.toArray.size ≤ _; simp; omega))
        clear ht5 hc5 hh5 hr5 hcs hh6 hr6
        go_wp2_with fail
        rw [← hw6]
        clear hw6
        go_wp2_with fail
        refine HPR.out.mono ?_
        rintro e w7 ⟨rfl, hb7⟩
        have ht7 := HT6.out.below hb7
        obtain ⟨v0, v1, v2⟩ := ht7.no
        have hh7 := kept_told HH6.out hb7
        obtain ⟨u0', u1'⟩ := pair_blk hh7
        have hr7 := kept_told HR6.out hb7
        obtain ⟨z0, z1⟩ := pair_blk hr7
        have rf : ∀ o, w7.frozen? ⟨w.heap.size, o, none⟩ = false := fun o => by simp [World.frozen?, hr7]
        have rf0' := rf 0
        have rf1' := rf 1
        have hz7 := hb7.size
        have hc7 := HC6.out.then_below hb7
        have HT7 := hide ht7
        have HC7 := hide hc7
        have HR7 := hide hr7
        clear ht7 hh7 hr7 rf hb7 hc7
        generalize prB ⟨⟨NM.toArray⟩, ⟨VL.toArray⟩⟩ = pr at HNM3
        have hcs : Chg (fun j => j = w.heap.size) w7 ((w7.setCell ⟨w.heap.size, 0, none⟩ (.string ⟨NM.toArray⟩)).setCell ⟨w.heap.size, 1, none⟩ (.string ⟨VL.toArray⟩)).drew := (((Chg.refl (fun j => j = w.heap.size) w7).setCell (p := ⟨w.heap.size, 0, none⟩) (Or.inr rfl) _).setCell (p := ⟨w.heap.size, 1, none⟩) (Or.inr rfl) _).drew
        have HT8 := hide (HT7.out.chg hcs (by omega) (by omega))
        have HC8 := hide (HC7.out.trans (hcs.mono fun j _ e => Or.inl (by omega)))
        obtain ⟨y0, y1⟩ := pair_blk (w := ((w7.setCell ⟨w.heap.size, 0, none⟩ (.string ⟨NM.toArray⟩)).setCell ⟨w.heap.size, 1, none⟩ (.string ⟨VL.toArray⟩)).drew) (v0 := .string ⟨NM.toArray⟩) (v1 := .string ⟨VL.toArray⟩) (block_setCell (i := 1) (u := .string ⟨VL.toArray⟩) (block_setCell (i := 0) (u := .string ⟨NM.toArray⟩) HR7.out))
        clear hcs
        cases pr with
        | true =>
          go_wp2
          go_region
          all_goals (go_wp2)
          all_goals (refine bodyPost_ret (v := .tuple #[.agg #[.string ⟨NM.toArray⟩, .string ⟨VL.toArray⟩], .bool (!no2)]) ?_ rfl ⟨?_, ?_⟩)
          all_goals first
            | (simp [results, Tryz.results152, go_sem, y0, y1]; done)
            | (rw [HQ.out, HNM3.out]; exact ⟨HT8.out, HC8.out⟩)
            | (rw [HQ.out, HNM3.out]; rfl)
        | false =>
          go_wp2
          go_region
          all_goals (go_wp2)
          all_goals (refine bodyPost_ret (v := .tuple #[.agg #[.string ⟨NM.toArray⟩, .string ⟨VL.toArray⟩], .bool false]) ?_ rfl ⟨?_, ?_⟩)
          all_goals first
            | (simp [results, Tryz.results152, go_sem, y0, y1]; done)
            | (rw [HQ.out, HNM3.out]; exact ⟨HT8.out, HC8.out⟩)
            | (rw [HQ.out, HNM3.out]; rfl)
end Go.Proofs.YtghongdbohjaaaaGreatDoor
/-
  (*sluiceref.Unpacker).pair: where the pair is not kept.
-/
namespace Go.Proofs.YtghongdbohjaaaaGreatDoor
set_option linter.unusedVariables false
set_option linter.unusedSimpArgs false
open Go.RowKit

theorem TxP.cell {w : World} {xb g off cb : Nat} {l : List UInt8} {at_ : Nat} {no : Bool} (h : TxP w xb g off cb l at_ no) (hlt : at_ < l.length) : l.length ≤ cb ∧ w.cell? ⟨g, off + at_, none⟩ = some (.int .u8 l[at_].toNat) := by
  obtain ⟨bb, o, hsa, hbb, hca, hcell⟩ := BytesA.cell (h.tx.byt) hlt
  simp only [Option.some.injEq, Addr.mk.injEq, and_true] at hsa
  obtain ⟨rfl, rfl⟩ := hsa
  rw [getD_lt _ _ _ hlt] at hcell
  exact ⟨by omega, hcell⟩

set_option maxRecDepth 100000 in
set_option maxHeartbeats 1600000 in
theorem upair_bad (ub xb g off cb : Nat) (l : List UInt8) (at_ : Nat) (w : World) (h : TxP w xb g off cb l at_ false) (hl : l.length ≤ 1048576) (hlt : at_ < l.length) (h1 : 16 ≤ l[at_].toNat) (h2 : l[at_].toNat < 64) :
    Calls Tryz.prog 90 #[.pointer (some ⟨ub, 0, none⟩), .pointer (some ⟨xb, 0, none⟩)] w fun e w' => e = .returned (.tuple #[.agg #[.string ⟨#[]⟩, .string ⟨#[]⟩], .bool false]) ∧ TxP w' xb g off cb l at_ false ∧ Below w.heap.size w w' := by
  have hxl := lt_of_block h.tx.blk
  have hb0 : Below w.heap.size w (w.alloc (.cells #[.string ⟨#[]⟩, .string ⟨#[]⟩] 62)).drew := by
    have hb1 : Below w.heap.size w (w.alloc (.cells #[.string ⟨#[]⟩, .string ⟨#[]⟩] 62)) := (Below.refl _ _).alloc (Nat.le_refl _) _
    exact ⟨hb1.os, hb1.tape, hb1.output, hb1.size, hb1.block⟩
  have hr0 : (w.alloc (.cells #[.string ⟨#[]⟩, .string ⟨#[]⟩] 62)).heap[w.heap.size]? = some (.cells #[.string ⟨#[]⟩, .string ⟨#[]⟩] 62 (0, 0)) := heap_alloc_new w _
  obtain ⟨x0, x1, x2⟩ := h.no
  obtain ⟨hcb, xc⟩ := h.cell hlt
  have hgl := h.lt
  generalize l[at_].toNat = c at xc h1 h2
  have HT0 := hide (h.below hb0)
  have HB0 := hide hb0
  obtain ⟨y0, y1⟩ := pair_blk (w := (w.alloc (.cells #[.string ⟨#[]⟩, .string ⟨#[]⟩] 62)).drew) hr0
  clear h hb0
  go_enter Tryz.func90, Tryz.ntmps90
  go_wp2_with fail
  go_region
  all_goals (go_wp2)
  all_goals (refine bodyPost_ret (v := .tuple #[.agg #[.string ⟨#[]⟩, .string ⟨#[]⟩], .bool false]) ?_ rfl ⟨rfl, HT0.out, HB0.out⟩)
  all_goals (simp [results, Tryz.results90, go_sem, y0, y1]; done)

set_option maxRecDepth 100000 in
set_option maxHeartbeats 1600000 in
theorem upair_four (ub xb g off cb : Nat) (l : List UInt8) (at_ : Nat) (lv : Value) (log : List Ch) (w : World) (h : TxP w xb g off cb l at_ false) (hl : l.length ≤ 1048576) (hlt : at_ < l.length) (h2 : l[at_].toNat < 16) (hc : w.cell? ⟨ub, 0, none⟩ = some lv) (hrow : w.ownsRow 0 282 3 lv log.length (chCells log)) (hok : chOk log) (hll : log.length ≤ 1073741824) (hux : ub ≠ xb) (hlx : lv.ownBlock ≠ some xb) (hnb : (numB log).length ≤ 40) (hnl : ∀ x ∈ numB log, x.n.size ≤ 1048576) :
    Calls Tryz.prog 90 #[.pointer (some ⟨ub, 0, none⟩), .pointer (some ⟨xb, 0, none⟩)] w fun e w' => e = .returned (.tuple #[.agg #[.string (namedR (numB log) l 4 at_).1.1.n, .string (namedR (numB log) l 4 at_).1.1.v], .bool (namedR (numB log) l 4 at_).1.2]) ∧
      TxP w' xb g off cb l (namedR (numB log) l 4 at_).2.1 (namedR (numB log) l 4 at_).2.2 ∧ Chg (fun j => j = xb) w w' := by
  have hxl := lt_of_block h.tx.blk
  have hul : ub < w.heap.size := World.block_lt_of_cell? w _ hc
  have hb0 : Below w.heap.size w (w.alloc (.cells #[.string ⟨#[]⟩, .string ⟨#[]⟩] 62)).drew := by
    have hb1 : Below w.heap.size w (w.alloc (.cells #[.string ⟨#[]⟩, .string ⟨#[]⟩] 62)) := (Below.refl _ _).alloc (Nat.le_refl _) _
    exact ⟨hb1.os, hb1.tape, hb1.output, hb1.size, hb1.block⟩
  have hr0 : (w.alloc (.cells #[.string ⟨#[]⟩, .string ⟨#[]⟩] 62)).drew.heap[w.heap.size]? = some (.cells #[.string ⟨#[]⟩, .string ⟨#[]⟩] 62 (0, 0)) := heap_alloc_new w _
  obtain ⟨x0, x1, x2⟩ := h.no
  obtain ⟨hcb, xc⟩ := h.cell hlt
  have hgl := h.lt
  generalize l[at_].toNat = c at xc h2
  have HN := hide (named_any ub xb g off cb 4 l at_ lv log _ (h.below hb0) hl (by omega) ((hb0.cell (p := ⟨ub, 0, none⟩) hul).trans hc) (owns_chg hrow (Chg.of_below (S := fun _ => False) hb0) (fun _ _ => id)) hok hll hux hlx hnb hnl)
  generalize namedR (numB log) l 4 at_ = q at HN
  obtain ⟨⟨⟨qn, qv⟩, qo⟩, qa, qno⟩ := q
  simp only at HN
  have HB0 := hide hb0
  have HR0 := hide hr0
  clear h hb0 hr0 hc hrow hok hnb hnl
  go_enter Tryz.func90, Tryz.ntmps90
  go_wp2_with fail
  go_region
  all_goals (go_wp2_with fail)
  all_goals (refine HN.out.mono ?_)
  all_goals (rintro e w2 ⟨rfl, ht2, hc2⟩)
  all_goals (have hr2 := (hc2.block _ (lt_of_block HR0.out) (by omega)).trans HR0.out)
  all_goals (obtain ⟨z0, z1⟩ := pair_blk hr2)
  all_goals (have rf : ∀ o, w2.frozen? ⟨w.heap.size, o, none⟩ = false := fun o => by simp [World.frozen?, hr2])
  all_goals (have rf0 := rf 0)
  all_goals (have rf1 := rf 1)
  all_goals (have hcs : Chg (fun j => j = w.heap.size) w2 ((w2.setCell ⟨w.heap.size, 0, none⟩ (.string qn)).setCell ⟨w.heap.size, 1, none⟩ (.string qv)) := ((Chg.refl (fun j => j = w.heap.size) w2).setCell (p := ⟨w.heap.size, 0, none⟩) (Or.inr rfl) _).setCell (p := ⟨w.heap.size, 1, none⟩) (Or.inr rfl) _)
  all_goals (have HT3 := hide (ht2.chg hcs (by omega) (by omega)))
  all_goals (have HC3 := hide (((Chg.of_below (S := fun j => j = xb) HB0.out).trans (hc2.mono fun j _ e => Or.inr e)).trans (hcs.mono fun j _ e => Or.inl (by omega))))
  all_goals (obtain ⟨y0, y1⟩ := pair_blk (v0 := .string qn) (v1 := .string qv) (block_setCell (i := 1) (u := .string qv) (block_setCell (i := 0) (u := .string qn) hr2)))
  all_goals (clear ht2 hc2 hr2 rf hcs)
  all_goals go_wp2
  all_goals (refine bodyPost_ret (v := .tuple #[.agg #[.string qn, .string qv], .bool qo]) ?_ rfl ⟨rfl, HT3.out, HC3.out⟩)
  all_goals (simp [results, Tryz.results90, go_sem, y0, y1]; done)
end Go.Proofs.YtghongdbohjaaaaGreatDoor
