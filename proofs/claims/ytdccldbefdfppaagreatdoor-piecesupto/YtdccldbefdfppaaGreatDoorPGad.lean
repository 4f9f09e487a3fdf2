import Derived.Test.YtdccldbefdfppaaGreatDoorPGac
import Derived.Test.YtdccldbefdfppaaGreatDoorPGaa
import Derived.Lib.BufferWrite
import Derived.Lib.UnsafeStr
import Derived.Lib.Hide
import Derived.Laws.MakeOwn
set_option linter.unusedVariables false
set_option linter.unusedSimpArgs false
namespace Go.Proofs.YtdccldbefdfppaaGreatDoor
open Go.RowKit
section
theorem hp_one (h : HP) : ∀ u ∈ hpCells [h], u.oneCell' = true := by
 intro u hu
 simp [hpCells] at hu
 rcases hu with rfl | rfl <;> rfl
theorem lies_pair (w : World) (h : HP) : Lies (w.alloc (.cells #[.string h.n, .string h.v] 130)) (.slice (some ⟨w.heap.size, 0, none⟩) 1 1) 1 (hpCells [h]) := by
 refine Or.inr ⟨_, _, rfl, fun j u hu => ?_⟩
 have hh := heap_alloc_new w (.cells #[.string h.n, .string h.v] 130)
 have e : (⟨w.heap.size, 0, none⟩ : Addr).add j = ⟨w.heap.size, j, none⟩ := by unfold Addr.add; split <;> simp_all
 rw [e, cell_of_row _ _ _ _ _ _ hh, ← hu]
 simp [hpCells]
end
section
theorem decB_four {bs : List Bool} {c : UInt8} {r : List Bool} (h : decB bs = some (c, r)) : r.length + 4 ≤ bs.length := by
 unfold decB at h
 split at h
 ·cases h
 ·split at h
  ·split at h
   ·cases h
   ·simp at h; rw [← h.2, List.length_drop]; omega
  ·split at h
   ·cases h
   ·split at h
    ·split at h
     ·cases h
     ·simp at h; rw [← h.2, List.length_drop]; omega
    ·split at h
     ·cases h
     ·split at h
      ·cases h
      ·simp at h; rw [← h.2, List.length_drop]; omega
theorem unpB_len (n : Nat) : ∀ (bs : List Bool) (t : List UInt8), bs.length ≤ n → unpB bs = some t → 4 * t.length ≤ bs.length := by
 induction n with
 | zero =>
  intro bs t hn h
  have hb : bs = [] := List.eq_nil_of_length_eq_zero (by omega)
  subst hb
  rw [unpB_fill (by decide)] at h
  cases h
  simp
 | succ n ih =>
  intro bs t hn h
  cases hf : fillB bs with
  | true => rw [unpB_fill hf] at h; cases h; simp
  | false =>
   cases hd : decB bs with
   | none => rw [unpB_none hf hd] at h; cases h
   | some cr =>
    obtain ⟨c, r⟩ := cr
    rw [unpB_next hf hd] at h
    have h4 := decB_four hd
    cases hr : unpB r with
    | none => rw [hr] at h; cases h
    | some z =>
     rw [hr] at h
     simp at h
     rw [← h]
     have := ih r z (by omega) hr
     simp
     omega
theorem rdMore_len : ∀ f i n l n' q, rdMore f i n l = some (n', q) → q.length ≤ l.length := by
 intro f
 induction f with
 | zero => intro i n l n' q h9; simp [rdMore] at h9
 | succ f ih =>
  intro i n l n' q h9
  cases l with
  | nil => simp [rdMore] at h9
  | cons x t =>
   simp only [rdMore] at h9
   split at h9
   ·cases h9
   ·split at h9
    ·simp at h9; rw [← h9.2]; simp
    ·have := ih _ _ _ _ _ h9; simp; omega
theorem rdCnt_len {k : Nat} {c : UInt8} {r : List UInt8} {n : Nat} {q : List UInt8} (h9 : rdCnt k c r = some (n, q)) : q.length ≤ r.length := by
 unfold rdCnt at h9
 split at h9
 ·simp at h9; rw [← h9.2]; exact Nat.le_refl _
 ·exact rdMore_len _ _ _ _ _ _ h9
theorem rdTxt_len {l t r : List UInt8} (h : rdTxt l = some (t, r)) : t.length ≤ 2 * l.length ∧ r.length ≤ l.length := by
 cases l with
 | nil => simp [rdTxt] at h
 | cons c s =>
  simp only [rdTxt] at h
  cases hc : rdCnt 7 c s with
  | none => rw [hc] at h; cases h
  | some nq =>
   obtain ⟨n, q⟩ := nq
   have hq := rdCnt_len hc
   rw [hc] at h
   simp only at h
   split at h
   ·cases h
   ·split at h
    ·cases hu : unpB (bitsB (q.take n)) with
     | none => rw [hu] at h; cases h
     | some z =>
      rw [hu] at h
      simp at h
      have h4 := unpB_len _ _ _ (Nat.le_refl _) hu
      rw [bitsB_length, List.length_take] at h4
      rw [← h.1, ← h.2, List.length_drop, List.length_cons]
      omega
    ·simp at h
     rw [← h.1, ← h.2, List.length_drop, List.length_take, List.length_cons]
     omega
def TxsR (w w' : World) (sb : Nat) (rv : Value) (q : Option (HP × List UInt8)) (e : Ending) : Prop :=
 (∃ h r rv', q = some (h, r) ∧ e = .returned (.agg #[.string h.n, .string h.v]) ∧ SrTo w w' sb rv rv' r) ∨ (q = none ∧ Gone e ∧ Chg (fun j => j = sb) w w')
theorem SrTo.set {w w1 : World} {sb : Nat} {rv r1 : Value} {l1 : List UInt8} (h : SrTo w w1 sb rv r1 l1) {b o : Nat} (hb : w.heap.size ≤ b) (hsb : sb < w.heap.size) (hr : ∀ j, rv.ownBlock = some j → j < w.heap.size) (u : Value) : SrTo w (w1.setCell ⟨b, o, none⟩ u) sb rv r1 l1 := by
 have hc : Chg (fun j => j = b) w1 (w1.setCell ⟨b, o, none⟩ u) := (Chg.refl (fun j => j = b) w1).setCell (p := ⟨b, o, none⟩) (Or.inr rfl) _
 exact ⟨h.st.chg hc (by omega) (fun j hj e => by have := hr j (h.own j hj); omega), h.chg.trans (hc.mono fun j _ e => Or.inl (by omega)), h.own⟩
end
section
structure UnTo (w w' : World) (ub : Nat) (cs cs' : Array Value) (tP : TypeId) (lim : Nat) (tv tv' : Value) (tab' : List HP) (sb : Nat) (rv rv' : Value) (l' : List UInt8) : Prop where
 st : TbS w' ub cs' tP lim tv' tab'
 cs3 : ∀ i, 3 ≤ i → cs'[i]? = cs[i]?
 sr : SrS w' sb rv' l'
 chg : Chg (fun j => j = sb ∨ TouchT ub tv j) w w'
 tfresh : ∀ j, tv'.ownBlock = some j → tv.ownBlock = some j ∨ w.heap.size ≤ j
 own : ∀ j, rv'.ownBlock = some j → rv.ownBlock = some j
structure Apart (ub sb : Nat) (tv rv : Value) : Prop where
 us : ub ≠ sb
 ts : tv.ownBlock ≠ some sb
 ru : rv.ownBlock ≠ some ub
 rt : ∀ j, rv.ownBlock = some j → tv.ownBlock ≠ some j
theorem UnTo.trans {w w1 w2 : World} {ub : Nat} {cs cs1 cs2 : Array Value} {tP : TypeId} {lim lim2 : Nat} {tv tv1 tv2 : Value} {tab tab2 : List HP} {sb : Nat} {rv r1 r2 : Value} {l1 l2 : List UInt8} (h : UnTo w w1 ub cs cs1 tP lim tv tv1 tab sb rv r1 l1) (k : UnTo w1 w2 ub cs1 cs2 tP lim2 tv1 tv2 tab2 sb r1 r2 l2) : UnTo w w2 ub cs cs2 tP lim2 tv tv2 tab2 sb rv r2 l2 := by
 have hsz := h.chg.size
 refine ⟨k.st, fun i hi => (k.cs3 i hi).trans (h.cs3 i hi), k.sr, h.chg.trans (k.chg.mono ?_), fun j hj => ?_, fun j hj => h.own j (k.own j hj)⟩
 ·rintro j _ (e | e | e)
  ·exact Or.inr (Or.inl e)
  ·exact Or.inr (Or.inr (Or.inl e))
  ·rcases h.tfresh j e with a | a
   ·exact Or.inr (Or.inr (Or.inr a))
   ·exact Or.inl a
 ·rcases k.tfresh j hj with e | e
  ·exact h.tfresh j e
  ·exact Or.inr (Nat.le_trans hsz e)
theorem rdPair_len {tab : List HP} {lim : Nat} {l : List UInt8} {h : HP} {tab' : List HP} {q : List UInt8} (hq : rdPair tab lim l = some (h, tab', q)) (hf : ∀ x ∈ numd tab, x.n.size ≤ 256 ∧ x.v.size ≤ 256) (hl : l.length ≤ 134217728) : q.length ≤ l.length ∧ h.n.size ≤ 268435456 ∧ h.v.size ≤ 268435456 := by
 have htx : ∀ n r h q, rdTxs tab n r = some (h, q) → r.length ≤ 134217728 → q.length ≤ r.length ∧ h.n.size ≤ 268435456 ∧ h.v.size ≤ 268435456 := by
  intro n r h q h9 hr
  unfold rdTxs at h9
  by_cases hn : 0 < n
  ·rw [if_pos hn] at h9
   cases hx : (numd tab)[n - 1]? with
   | none => rw [hx] at h9; cases h9
   | some x =>
    rw [hx] at h9
    simp only at h9
    cases ht : rdTxt r with
    | none => rw [ht] at h9; cases h9
    | some vs =>
     obtain ⟨vl, s⟩ := vs
     rw [ht] at h9
     simp only [Option.some.injEq, Prod.mk.injEq] at h9
     obtain ⟨l1, l2⟩ := rdTxt_len ht
     rw [← h9.1, ← h9.2]
     have hm := hf x (List.mem_of_getElem? hx)
     refine ⟨l2, ?_, ?_⟩
     ·show (ByteArray.mk x.n.data.toList.toArray).size ≤ _
      rw [ba_back]; omega
     ·show vl.length ≤ _; omega
  ·rw [if_neg hn] at h9
   cases ht : rdTxt r with
   | none => rw [ht] at h9; cases h9
   | some ns =>
    obtain ⟨nm, s⟩ := ns
    rw [ht] at h9
    simp only at h9
    obtain ⟨l1, l2⟩ := rdTxt_len ht
    cases hv : rdTxt s with
    | none => rw [hv] at h9; cases h9
    | some vs =>
     obtain ⟨vl, s2⟩ := vs
     rw [hv] at h9
     simp only [Option.some.injEq, Prod.mk.injEq] at h9
     obtain ⟨l3, l4⟩ := rdTxt_len hv
     rw [← h9.1, ← h9.2]
     exact ⟨by omega, by show nm.length ≤ _; omega, by show vl.length ≤ _; omega⟩
 cases l with
 | nil => simp [rdPair] at hq
 | cons c r =>
  simp only [List.length_cons] at hl ⊢
  simp only [rdPair] at hq
  split at hq
  ·cases hc : rdCnt 7 c r with
   | none => rw [hc] at hq; cases hq
   | some nq =>
    obtain ⟨n, s⟩ := nq
    have := rdCnt_len hc
    rw [hc] at hq
    simp only at hq
    split at hq
    ·cases hq
    ·cases hx : (numd tab)[n - 1]? with
     | none => rw [hx] at hq; cases hq
     | some x =>
      rw [hx] at hq
      simp only [Option.some.injEq, Prod.mk.injEq] at hq
      have hm := hf x (List.mem_of_getElem? hx)
      rw [← hq.1, ← hq.2.2]
      exact ⟨by omega, by omega, by omega⟩
  ·split at hq
   ·cases hc : rdCnt 6 c r with
    | none => rw [hc] at hq; cases hq
    | some nq =>
     obtain ⟨n, s⟩ := nq
     have h1 := rdCnt_len hc
     rw [hc] at hq
     simp only at hq
     cases ht : rdTxs tab n s with
     | none => rw [ht] at hq; cases hq
     | some hs =>
      obtain ⟨x, z⟩ := hs
      rw [ht] at hq
      simp only [Option.some.injEq, Prod.mk.injEq] at hq
      have := htx n s x z ht (by omega)
      rw [← hq.1, ← hq.2.2]
      exact ⟨by omega, this.2⟩
   ·split at hq
    ·cases hc : rdCnt 4 c r with
     | none => rw [hc] at hq; cases hq
     | some nq =>
      obtain ⟨n, s⟩ := nq
      have h1 := rdCnt_len hc
      rw [hc] at hq
      simp only at hq
      cases ht : rdTxs tab n s with
      | none => rw [ht] at hq; cases hq
      | some hs =>
       obtain ⟨x, z⟩ := hs
       rw [ht] at hq
       simp only [Option.some.injEq, Prod.mk.injEq] at hq
       have := htx n s x z ht (by omega)
       rw [← hq.1, ← hq.2.2]
       exact ⟨by omega, this.2⟩
    ·cases hq
end
section
theorem numd_small {tab : List HP} (h : szT tab ≤ 256) : ∀ x ∈ numd tab, x.n.size ≤ 256 ∧ x.v.size ≤ 256 := by
 intro x hx
 unfold numd at hx
 rcases List.mem_append.1 hx with hx | hx
 ·have : ∀ y ∈ fixed8, y.n.size ≤ 256 ∧ y.v.size ≤ 256 := by decide
  exact this x hx
 ·have h1 := szT_mem (List.mem_reverse.1 hx)
  have h2 : tk x = x.n.size + x.v.size + 8 := rfl
  omega
theorem box_free {w w' : World} {b : Nat} {x y : Value} {t : TypeId} (hx : w.heap[b]? = some (.cells #[x, y] t (0, 0))) (hb : Below w.heap.size w w') : w'.cell? ⟨b, 0, none⟩ = some x ∧ w'.cell? ⟨b, 1, none⟩ = some y ∧ w'.frozen? ⟨b, 0, none⟩ = false ∧ w'.frozen? ⟨b, 1, none⟩ = false := by
 have h2 : w'.heap[b]? = some (.cells #[x, y] t (0, 0)) := by rw [hb.block _ (lt_of_block hx)]; exact hx
 refine ⟨by rw [cell_of_row _ _ _ _ _ _ h2]; rfl, by rw [cell_of_row _ _ _ _ _ _ h2]; rfl, by simp [World.frozen?, h2], by simp [World.frozen?, h2]⟩
theorem Chg.drop_drew {S : Nat → Prop} {w w' : World} (h : Chg S w w') : Chg S w.drew w' := ⟨h.os, h.tape, h.output, h.size, h.block⟩
end
section
theorem SrS.drew {w : World} {sb : Nat} {rv : Value} {l : List UInt8} (h : SrS w sb rv l) : SrS w.drew sb rv l := h.chg ((Chg.refl (fun _ => False) _).drew) id (fun _ _ => id)
end
section
theorem Laid.ne {w w' : World} {gv v : Value} {l : List UInt8} (h : Laid w gv w' v l) {q : Nat} (hq : q < w.heap.size) (hne : gv.ownBlock ≠ some q) : v.ownBlock ≠ some q := fun e => by
 rcases h.fresh q e with a | a
 ·exact hne a
 ·omega
end
end Go.Proofs.YtdccldbefdfppaaGreatDoor
