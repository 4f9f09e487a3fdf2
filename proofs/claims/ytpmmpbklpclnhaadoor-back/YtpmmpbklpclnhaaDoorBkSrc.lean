import Derived.Test.YtpmmpbklpclnhaaDoorBkText
set_option linter.unusedVariables false
set_option linter.unusedSimpArgs false
/-
  Package blocks: source: takeBytes, take, atEnd, has; form's begins.
-/
namespace Go.Proofs.YtpmmpbklpclnhaaDoor
set_option linter.unusedVariables false
set_option linter.unusedSimpArgs false
open Go.RowKit

/-- What is left of a block. -/
structure SrS (w : World) (sb : Nat) (rv : Value) (l : List UInt8) : Prop where
  blk : w.heap[sb]? = some (.cells #[rv] 73 (0, 0))
  bytes : BytesIn w rv l
  ne : rv.ownBlock ≠ some sb
theorem SrS.chg {S : Nat → Prop} {w w' : World} {sb : Nat} {rv : Value} {l : List UInt8} (h : SrS w sb rv l) (hc : Chg S w w') (h1 : ¬ S sb) (h2 : ∀ j, rv.ownBlock = some j → ¬ S j) : SrS w' sb rv l :=
  ⟨by rw [hc.block sb (lt_of_block h.blk) h1]; exact h.blk, h.bytes.chg hc h2, h.ne⟩
theorem SrS.below {w w' : World} {sb : Nat} {rv : Value} {l : List UInt8} (h : SrS w sb rv l) (hb : Below w.heap.size w w') : SrS w' sb rv l := h.chg (Chg.of_below (S := fun _ => False) hb) id (fun _ _ => id)
theorem bytesIn_len {w : World} {v : Value} {l : List UInt8} (h : BytesIn w v l) : ∃ sv cv, v = .slice sv l.length cv ∧ l.length ≤ cv := by
  rcases h with ⟨rfl, rfl⟩ | ⟨bb, off, cap, rfl, _, h2, _⟩
  · exact ⟨_, _, rfl, Nat.le_refl _⟩
  · exact ⟨_, _, rfl, h2⟩
/-- The end of a call on a source. -/
structure SrTo (w w' : World) (sb : Nat) (rv rv' : Value) (l' : List UInt8) : Prop where
  st : SrS w' sb rv' l'
  chg : Chg (fun j => j = sb) w w'
  own : ∀ j, rv'.ownBlock = some j → rv.ownBlock = some j
theorem SrTo.trans {w w1 w2 : World} {sb : Nat} {rv r1 r2 : Value} {l1 l2 : List UInt8} (h : SrTo w w1 sb rv r1 l1) (k : SrTo w1 w2 sb r1 r2 l2) : SrTo w w2 sb rv r2 l2 :=
  ⟨k.st, h.chg.trans (k.chg.mono fun _ _ e => Or.inr e), fun j hj => h.own j (k.own j hj)⟩
theorem SrTo.below {w w1 w2 : World} {sb : Nat} {rv r1 : Value} {l1 : List UInt8} (h : SrTo w w1 sb rv r1 l1) (hb : Below w1.heap.size w1 w2) : SrTo w w2 sb rv r1 l1 := ⟨h.st.below hb, h.chg.then_below hb, h.own⟩
theorem SrTo.before {w w1 w2 : World} {sb : Nat} {rv r1 : Value} {l1 : List UInt8} (hb : Below w.heap.size w w1) (h : SrTo w1 w2 sb rv r1 l1) : SrTo w w2 sb rv r1 l1 := ⟨h.st, (Chg.of_below hb).trans (h.chg.mono fun _ _ e => Or.inr e), h.own⟩

set_option maxRecDepth 100000 in
set_option maxHeartbeats 800000 in
theorem takeBytes_ok (sb : Nat) (rv : Value) (l : List UInt8) (n : Nat) (w : World) (h : SrS w sb rv l) (hn : n ≤ l.length) (hl : l.length ≤ 1099511627776) :
    Calls Tryd.prog 55 #[.pointer (some ⟨sb, 0, none⟩), .int .i64 n] w fun e w' => ∃ v rv', e = .returned v ∧ BytesIn w' v (l.take n) ∧ SrTo w w' sb rv rv' (l.drop n) ∧ (∀ j, v.ownBlock = some j → rv.ownBlock = some j) := by
  have c0 := cell_of_one h.blk
  have f0 := free_of_one h.blk
  have hlt := lt_of_block h.blk
  have H := hide h
  rcases h.bytes with ⟨hv, hl0⟩ | ⟨bb, off, cap, hv, h1, h2, h3⟩
  · subst hv hl0
    have hn0 : n = 0 := by simpa using hn
    subst hn0
    clear h
    go_enter Tryd.func55, Tryd.ntmps55
    go_wp2
    go_ret
    have hc : Chg (fun j => j = sb) w (w.setCell ⟨sb, 0, none⟩ (.slice none 0 0)) := (Chg.refl (fun j => j = sb) w).setCell (p := ⟨sb, 0, none⟩) (Or.inr rfl) _
    exact ⟨_, .slice none 0 0, rfl, Or.inl ⟨rfl, rfl⟩, ⟨⟨one_setCell H.out.blk, Or.inl ⟨rfl, rfl⟩, by simp [Value.ownBlock]⟩, hc, fun j hj => hj⟩, fun j hj => hj⟩
  · subst hv
    have hne : bb ≠ sb := fun e => h.ne (by rw [e]; rfl)
    obtain ⟨AD, hAD, hAO⟩ : ∃ o2, (if cap = n then some (⟨bb, off, none⟩ : Addr) else some ⟨bb, off + n, none⟩) = some ⟨bb, o2, none⟩ ∧ (n < l.length → o2 = off + n) := by
      by_cases hck : cap = n
      · exact ⟨off, by rw [if_pos hck], fun e => by omega⟩
      · exact ⟨off + n, by rw [if_neg hck], fun _ => rfl⟩
    have HAO := hide hAO
    have H3 := hide h3
    have H1 := hide h1
    clear h hAO h3 h1
    go_enter Tryd.func55, Tryd.ntmps55
    go_wp2
    go_ret
    have hc : Chg (fun j => j = sb) w (w.setCell ⟨sb, 0, none⟩ (.slice (some ⟨bb, AD, none⟩) (l.length - n) (cap - n))) := (Chg.refl (fun j => j = sb) w).setCell (p := ⟨sb, 0, none⟩) (Or.inr rfl) _
    have hsz : bb < (w.setCell ⟨sb, 0, none⟩ (.slice (some ⟨bb, AD, none⟩) (l.length - n) (cap - n))).heap.size := Nat.lt_of_lt_of_le H1.out hc.size
    have hcl : ∀ i, i < l.length → (w.setCell ⟨sb, 0, none⟩ (.slice (some ⟨bb, AD, none⟩) (l.length - n) (cap - n))).cell? ⟨bb, off + i, none⟩ = some (.int .u8 (l.getD i 0).toNat) := fun i hi => by
      rw [hc.cell (p := ⟨bb, off + i, none⟩) H1.out hne]
      exact H3.out i hi
    refine ⟨_, .slice (some ⟨bb, AD, none⟩) (l.length - n) (cap - n), rfl, Or.inr ⟨bb, off, cap, ?_, hsz, ?_, fun i hi => ?_⟩, ⟨⟨one_setCell H.out.blk, Or.inr ⟨bb, AD, cap - n, by rw [List.length_drop], hsz, by rw [List.length_drop]; omega, fun i hi => ?_⟩, ?_⟩, hc, fun j hj => hj⟩, fun j hj => hj⟩
    · have e9 : (l.take n).length = n := by rw [List.length_take, Nat.min_eq_left hn]
      rw [e9]
      try rfl
    · rw [List.length_take]; omega
    · rw [List.length_take] at hi
      rw [hcl i (by omega)]
      simp [List.getD, List.getElem?_take, show i < n by omega]
    · rw [List.length_drop] at hi
      have ha := HAO.out (by omega)
      have e9 : (⟨bb, AD + i, none⟩ : Addr) = ⟨bb, off + (n + i), none⟩ := by rw [ha, Nat.add_assoc]
      rw [e9, hcl (n + i) (by omega)]
      simp [List.getD, List.getElem?_drop]
    · simp only [Value.ownBlock, ne_eq, Option.some.injEq]
      exact hne
set_option maxRecDepth 100000 in
set_option maxHeartbeats 800000 in
theorem takeBytes_bad (sb : Nat) (rv : Value) (l : List UInt8) (n : Nat) (w : World) (h : SrS w sb rv l) (hn : l.length < n) (hn2 : n ≤ 1099511627776) :
    Calls Tryd.prog 55 #[.pointer (some ⟨sb, 0, none⟩), .int .i64 n] w fun e w' => e = .panicked [{ v := .iface 25 (.int .i64 13), recovered := false }] ∧ w' = w := by
  have c0 := cell_of_one h.blk
  obtain ⟨sv, cv, hv, _⟩ := bytesIn_len h.bytes
  subst hv
  clear h
  go_enter Tryd.func55, Tryd.ntmps55
  go_wp2
  exact ⟨rfl, rfl, rfl⟩

set_option maxRecDepth 100000 in
set_option maxHeartbeats 800000 in
theorem stake_ok (sb : Nat) (rv : Value) (c : UInt8) (l : List UInt8) (w : World) (h : SrS w sb rv (c :: l)) (hl : (c :: l).length ≤ 1099511627776) :
    Calls Tryd.prog 46 #[.pointer (some ⟨sb, 0, none⟩)] w fun e w' => ∃ rv', e = .returned (.int .u8 c.toNat) ∧ SrTo w w' sb rv rv' l := by
  have HTB := hide (takeBytes_ok sb rv (c :: l) 1 w h (by simp) hl)
  clear h
  go_enter Tryd.func46, Tryd.ntmps46
  go_wp2_with fail
  refine HTB.out.mono ?_
  rintro e w1 ⟨v, rv', rfl, hb, hs, ho⟩
  rcases hb with ⟨_, h0⟩ | ⟨bb, off, cap, hv, h1, h2, h3⟩
  · simp at h0
  · subst hv
    have d0 := h3 0 (by simp)
    simp only [Nat.add_zero, List.take_succ_cons, List.take_zero, List.getD_cons_zero, List.length_cons, List.length_nil, Nat.zero_add] at d0 h2 ⊢
    have HS := hide hs
    clear hs h3 ho
    go_wp2
    go_ret
    exact ⟨rv', rfl, HS.out⟩
set_option maxRecDepth 100000 in
set_option maxHeartbeats 800000 in
theorem stake_bad (sb : Nat) (rv : Value) (w : World) (h : SrS w sb rv []) :
    Calls Tryd.prog 46 #[.pointer (some ⟨sb, 0, none⟩)] w fun e w' => e = .panicked [{ v := .iface 25 (.int .i64 13), recovered := false }] ∧ w' = w := by
  have HTB := hide (takeBytes_bad sb rv [] 1 w h (by simp) (by omega))
  clear h
  go_enter Tryd.func46, Tryd.ntmps46
  go_wp2_with fail
  refine HTB.out.mono ?_
  rintro e w1 ⟨rfl, rfl⟩
  exact ⟨rfl, rfl, rfl⟩
set_option maxRecDepth 100000 in
set_option maxHeartbeats 800000 in
theorem atEnd_any (sb : Nat) (rv : Value) (l : List UInt8) (w : World) (h : SrS w sb rv l) :
    Calls Tryd.prog 34 #[.pointer (some ⟨sb, 0, none⟩)] w fun e w' => e = .returned (.bool l.isEmpty) ∧ w' = w := by
  have c0 := cell_of_one h.blk
  obtain ⟨sv, cv, hv, _⟩ := bytesIn_len h.bytes
  subst hv
  have hie : l.isEmpty = decide (l.length = 0) := by cases l <;> simp
  have HIE := hide hie
  clear h hie
  go_enter Tryd.func34, Tryd.ntmps34
  go_wp2
  go_ret
  refine ⟨ret_bool ?_, rfl⟩
  rw [HIE.out]
  cases l with
  | nil => rfl
  | cons a r => simp; try omega
end Go.Proofs.YtpmmpbklpclnhaaDoor
