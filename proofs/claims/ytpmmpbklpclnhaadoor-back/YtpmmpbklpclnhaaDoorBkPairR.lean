import Derived.Test.YtpmmpbklpclnhaaDoorBkTxsR
set_option linter.unusedVariables false
set_option linter.unusedSimpArgs false
/-
  Package blocks: Unpacker's takePair, where there is a pair.
-/
namespace Go.Proofs.YtpmmpbklpclnhaaDoor
set_option linter.unusedVariables false
set_option linter.unusedSimpArgs false
open Go.RowKit

/-- An unpacker and its source behind a call. -/
structure UnTo (w w' : World) (ub : Nat) (cs cs' : Array Value) (tP : TypeId) (lim : Nat) (tv tv' : Value) (tab' : List HP) (sb : Nat) (rv rv' : Value) (l' : List UInt8) : Prop where
  st : TbS w' ub cs' tP lim tv' tab'
  cs3 : ∀ i, 3 ≤ i → cs'[i]? = cs[i]?
  sr : SrS w' sb rv' l'
  chg : Chg (fun j => j = sb ∨ TouchT ub tv j) w w'
  tfresh : ∀ j, tv'.ownBlock = some j → tv.ownBlock = some j ∨ w.heap.size ≤ j
  own : ∀ j, rv'.ownBlock = some j → rv.ownBlock = some j
/-- They lie apart. -/
structure Apart (ub sb : Nat) (tv rv : Value) : Prop where
  us : ub ≠ sb
  ts : tv.ownBlock ≠ some sb
  ru : rv.ownBlock ≠ some ub
  rt : ∀ j, rv.ownBlock = some j → tv.ownBlock ≠ some j
theorem SrTo.un {w w' : World} {ub : Nat} {cs : Array Value} {tP : TypeId} {lim : Nat} {tv : Value} {tab : List HP} {sb : Nat} {rv rv' : Value} {l' : List UInt8} (h : SrTo w w' sb rv rv' l') (ht : TbS w ub cs tP lim tv tab) (ha : Apart ub sb tv rv) : UnTo w w' ub cs cs tP lim tv tv tab sb rv rv' l' :=
  ⟨ht.chg h.chg ha.us (fun j hj e => ha.ts (e ▸ hj)), fun _ _ => rfl, h.st, h.chg.mono fun _ _ e => Or.inl e, fun _ e => Or.inl e, h.own⟩
theorem UnTo.below {w w1 w2 : World} {ub : Nat} {cs cs' : Array Value} {tP : TypeId} {lim : Nat} {tv tv' : Value} {tab' : List HP} {sb : Nat} {rv rv' : Value} {l' : List UInt8} (h : UnTo w w1 ub cs cs' tP lim tv tv' tab' sb rv rv' l') (hb : Below w1.heap.size w1 w2) : UnTo w w2 ub cs cs' tP lim tv tv' tab' sb rv rv' l' :=
  ⟨h.st.below hb, h.cs3, h.sr.below hb, h.chg.then_below hb, h.tfresh, h.own⟩
theorem UnTo.before {w w1 w2 : World} {ub : Nat} {cs cs' : Array Value} {tP : TypeId} {lim : Nat} {tv tv' : Value} {tab' : List HP} {sb : Nat} {rv rv' : Value} {l' : List UInt8} (hb : Below w.heap.size w w1) (h : UnTo w1 w2 ub cs cs' tP lim tv tv' tab' sb rv rv' l') : UnTo w w2 ub cs cs' tP lim tv tv' tab' sb rv rv' l' :=
  ⟨h.st, h.cs3, h.sr, (Chg.of_below hb).trans (h.chg.mono fun _ _ e => Or.inr e), fun j hj => (h.tfresh j hj).imp_right fun e => Nat.le_trans hb.size e, h.own⟩
theorem UnTo.turn {w w1 w2 : World} {ub : Nat} {cs cs1 cs' : Array Value} {tP : TypeId} {lim lim' : Nat} {tv tv1 tv' : Value} {tab tab' : List HP} {sb : Nat} {rv rv' : Value} {l' : List UInt8} (h : UnTo w w1 ub cs cs1 tP lim tv tv1 tab sb rv rv' l') (k : TbTo w1 w2 ub cs1 cs' tP lim' tv1 tv' tab') (ha : Apart ub sb tv1 rv') : UnTo w w2 ub cs cs' tP lim' tv tv' tab' sb rv rv' l' := by
  have hsz := h.chg.size
  refine ⟨k.st, fun i hi => (k.cs3 i hi).trans (h.cs3 i hi), h.sr.chg k.chg ?_ ?_, h.chg.trans (k.chg.mono ?_), fun j hj => ?_, h.own⟩
  · rintro (e | e)
    · exact ha.us e.symm
    · exact ha.ts e
  · rintro j hj (e | e)
    · exact ha.ru (e ▸ hj)
    · exact ha.rt j hj e
  · rintro j _ (e | e)
    · exact Or.inr (Or.inr (Or.inl e))
    · rcases h.tfresh j e with a | a
      · exact Or.inr (Or.inr (Or.inr a))
      · exact Or.inl a
  · rcases k.own j hj with e | e
    · exact h.tfresh j e
    · exact Or.inr (Nat.le_trans hsz e)
/-- They stay apart. -/
theorem UnTo.apart {w w' : World} {ub : Nat} {cs cs' : Array Value} {tP : TypeId} {lim : Nat} {tv tv' : Value} {tab' : List HP} {sb : Nat} {rv rv' : Value} {l l' : List UInt8} (h : UnTo w w' ub cs cs' tP lim tv tv' tab' sb rv rv' l') (ha : Apart ub sb tv rv) (hs : SrS w sb rv l) : Apart ub sb tv' rv' := by
  refine ⟨ha.us, ?_, fun e => ha.ru (h.own _ e), fun j hj e => ?_⟩
  · intro e
    rcases h.tfresh sb e with a | a
    · exact ha.ts a
    · have := lt_of_block hs.blk; omega
  · have hj' := h.own j hj
    rcases h.tfresh j e with a | a
    · exact ha.rt j hj' a
    · have := hs.bytes.lt hj'; omega
theorem UnTo.trans {w w1 w2 : World} {ub : Nat} {cs cs1 cs2 : Array Value} {tP : TypeId} {lim lim2 : Nat} {tv tv1 tv2 : Value} {tab tab2 : List HP} {sb : Nat} {rv r1 r2 : Value} {l1 l2 : List UInt8} (h : UnTo w w1 ub cs cs1 tP lim tv tv1 tab sb rv r1 l1) (k : UnTo w1 w2 ub cs1 cs2 tP lim2 tv1 tv2 tab2 sb r1 r2 l2) : UnTo w w2 ub cs cs2 tP lim2 tv tv2 tab2 sb rv r2 l2 := by
  have hsz := h.chg.size
  refine ⟨k.st, fun i hi => (k.cs3 i hi).trans (h.cs3 i hi), k.sr, h.chg.trans (k.chg.mono ?_), fun j hj => ?_, fun j hj => h.own j (k.own j hj)⟩
  · rintro j _ (e | e | e)
    · exact Or.inr (Or.inl e)
    · exact Or.inr (Or.inr (Or.inl e))
    · rcases h.tfresh j e with a | a
      · exact Or.inr (Or.inr (Or.inr a))
      · exact Or.inl a
  · rcases k.tfresh j hj with e | e
    · exact h.tfresh j e
    · exact Or.inr (Nat.le_trans hsz e)
theorem UnTo.gl {w w' : World} {ub : Nat} {cs cs' : Array Value} {tP : TypeId} {lim : Nat} {tv tv' : Value} {tab' : List HP} {sb : Nat} {rv rv' : Value} {l' : List UInt8} (h : UnTo w w' ub cs cs' tP lim tv tv' tab' sb rv rv' l') (hg : Gl w) (hub : 7 ≤ ub) (hsb : 7 ≤ sb) (htv : ∀ j, tv.ownBlock = some j → 7 ≤ j) : Gl w' := by
  refine hg.chg h.chg ?_
  rintro j hj (e | e | e)
  · omega
  · omega
  · have := htv j e; omega

theorem rdPair_len {tab : List HP} {lim : Nat} {l : List UInt8} {h : HP} {tab' : List HP} {q : List UInt8} (hq : rdPair tab lim l = some (h, tab', q)) (hf : ∀ x ∈ numd tab, x.n.size ≤ 256 ∧ x.v.size ≤ 256) (hl : l.length ≤ 134217728) : q.length ≤ l.length ∧ h.n.size ≤ 268435456 ∧ h.v.size ≤ 268435456 := by
  have htx : ∀ n r h q, rdTxs tab n r = some (h, q) → r.length ≤ 134217728 → q.length ≤ r.length ∧ h.n.size ≤ 268435456 ∧ h.v.size ≤ 268435456 := by
    intro n r h q h9 hr
    unfold rdTxs at h9
    by_cases hn : 0 < n
    · rw [if_pos hn] at h9
      cases hx : (numd tab)[n - 1]? with
      | none => rw [hx] at h9; cases h9
      | some x =>
        rw [hx] at h9
        simp only at h9
        cases ht : rdTxt r with
        | none => rw [ht] at h9; cases h9
        | some vs =>
          obtain ⟨vl, s⟩ := vs
          rw [ht] at h9
          simp only [Option.some.injEq, Prod.mk.injEq] at h9
          obtain ⟨l1, l2⟩ := rdTxt_len ht
          rw [← h9.1, ← h9.2]
          have hm := hf x (List.mem_of_getElem? hx)
          refine ⟨l2, ?_, ?_⟩
          · show (ByteArray.mk x.n.data.toList.toArray).size ≤ _
            rw [ba_back]; omega
          · show vl.length ≤ _; omega
    · rw [if_neg hn] at h9
      cases ht : rdTxt r with
      | none => rw [ht] at h9; cases h9
      | some ns =>
        obtain ⟨nm, s⟩ := ns
        rw [ht] at h9
        simp only at h9
        obtain ⟨l1, l2⟩ := rdTxt_len ht
        cases hv : rdTxt s with
        | none => rw [hv] at h9; cases h9
        | some vs =>
          obtain ⟨vl, s2⟩ := vs
          rw [hv] at h9
          simp only [Option.some.injEq, Prod.mk.injEq] at h9
          obtain ⟨l3, l4⟩ := rdTxt_len hv
          rw [← h9.1, ← h9.2]
          exact ⟨by omega, by show nm.length ≤ _; omega, by show vl.length ≤ _; omega⟩
  cases l with
  | nil => simp [rdPair] at hq
  | cons c r =>
    simp only [List.length_cons] at hl ⊢
    simp only [rdPair] at hq
    split at hq
    · cases hc : rdCnt 7 c r with
      | none => rw [hc] at hq; cases hq
      | some nq =>
        obtain ⟨n, s⟩ := nq
        have := rdCnt_len hc
        rw [hc] at hq
        simp only at hq
        split at hq
        · cases hq
        · cases hx : (numd tab)[n - 1]? with
          | none => rw [hx] at hq; cases hq
          | some x =>
            rw [hx] at hq
            simp only [Option.some.injEq, Prod.mk.injEq] at hq
            have hm := hf x (List.mem_of_getElem? hx)
            rw [← hq.1, ← hq.2.2]
            exact ⟨by omega, by omega, by omega⟩
    · split at hq
      · cases hc : rdCnt 6 c r with
        | none => rw [hc] at hq; cases hq
        | some nq =>
          obtain ⟨n, s⟩ := nq
          have h1 := rdCnt_len hc
          rw [hc] at hq
          simp only at hq
          cases ht : rdTxs tab n s with
          | none => rw [ht] at hq; cases hq
          | some hs =>
            obtain ⟨x, z⟩ := hs
            rw [ht] at hq
            simp only [Option.some.injEq, Prod.mk.injEq] at hq
            have := htx n s x z ht (by omega)
            rw [← hq.1, ← hq.2.2]
            exact ⟨by omega, this.2⟩
      · split at hq
        · cases hc : rdCnt 4 c r with
          | none => rw [hc] at hq; cases hq
          | some nq =>
            obtain ⟨n, s⟩ := nq
            have h1 := rdCnt_len hc
            rw [hc] at hq
            simp only at hq
            cases ht : rdTxs tab n s with
            | none => rw [ht] at hq; cases hq
            | some hs =>
              obtain ⟨x, z⟩ := hs
              rw [ht] at hq
              simp only [Option.some.injEq, Prod.mk.injEq] at hq
              have := htx n s x z ht (by omega)
              rw [← hq.1, ← hq.2.2]
              exact ⟨by omega, this.2⟩
        · cases hq
end Go.Proofs.YtpmmpbklpclnhaaDoor
