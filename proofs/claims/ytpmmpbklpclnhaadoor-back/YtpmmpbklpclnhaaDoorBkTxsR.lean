import Derived.Test.YtpmmpbklpclnhaaDoorBkTextR
import Derived.Test.YtpmmpbklpclnhaaDoorBkAdd
set_option linter.unusedVariables false
set_option linter.unusedSimpArgs false
/-
  Package blocks: Unpacker's takeTexts.
-/
namespace Go.Proofs.YtpmmpbklpclnhaaDoor
set_option linter.unusedVariables false
set_option linter.unusedSimpArgs false
open Go.RowKit

theorem decB_four {bs : List Bool} {c : UInt8} {r : List Bool} (h : decB bs = some (c, r)) : r.length + 4 ≤ bs.length := by
  unfold decB at h
  split at h
  · cases h
  · split at h
    · split at h
      · cases h
      · simp at h; rw [← h.2, List.length_drop]; omega
    · split at h
      · cases h
      · split at h
        · split at h
          · cases h
          · simp at h; rw [← h.2, List.length_drop]; omega
        · split at h
          · cases h
          · split at h
            · cases h
            · simp at h; rw [← h.2, List.length_drop]; omega
theorem unpB_len (n : Nat) : ∀ (bs : List Bool) (t : List UInt8), bs.length ≤ n → unpB bs = some t → 4 * t.length ≤ bs.length := by
  induction n with
  | zero =>
    intro bs t hn h
    have hb : bs = [] := List.eq_nil_of_length_eq_zero (by omega)
    subst hb
    rw [unpB_fill (by decide)] at h
    cases h
    simp
  | succ n ih =>
    intro bs t hn h
    cases hf : fillB bs with
    | true => rw [unpB_fill hf] at h; cases h; simp
    | false =>
      cases hd : decB bs with
      | none => rw [unpB_none hf hd] at h; cases h
      | some cr =>
        obtain ⟨c, r⟩ := cr
        rw [unpB_next hf hd] at h
        have h4 := decB_four hd
        cases hr : unpB r with
        | none => rw [hr] at h; cases h
        | some z =>
          rw [hr] at h
          simp at h
          rw [← h]
          have := ih r z (by omega) hr
          simp
          omega
theorem rdMore_len : ∀ f i n l n' q, rdMore f i n l = some (n', q) → q.length ≤ l.length := by
  intro f
  induction f with
  | zero => intro i n l n' q h9; simp [rdMore] at h9
  | succ f ih =>
    intro i n l n' q h9
    cases l with
    | nil => simp [rdMore] at h9
    | cons x t =>
      simp only [rdMore] at h9
      split at h9
      · cases h9
      · split at h9
        · simp at h9; rw [← h9.2]; simp
        · have := ih _ _ _ _ _ h9; simp; omega
theorem rdCnt_len {k : Nat} {c : UInt8} {r : List UInt8} {n : Nat} {q : List UInt8} (h9 : rdCnt k c r = some (n, q)) : q.length ≤ r.length := by
  unfold rdCnt at h9
  split at h9
  · simp at h9; rw [← h9.2]; exact Nat.le_refl _
  · exact rdMore_len _ _ _ _ _ _ h9
theorem rdTxt_len {l t r : List UInt8} (h : rdTxt l = some (t, r)) : t.length ≤ 2 * l.length ∧ r.length ≤ l.length := by
  cases l with
  | nil => simp [rdTxt] at h
  | cons c s =>
    simp only [rdTxt] at h
    cases hc : rdCnt 7 c s with
    | none => rw [hc] at h; cases h
    | some nq =>
      obtain ⟨n, q⟩ := nq
      have hq := rdCnt_len hc
      rw [hc] at h
      simp only at h
      split at h
      · cases h
      · split at h
        · cases hu : unpB (bitsB (q.take n)) with
          | none => rw [hu] at h; cases h
          | some z =>
            rw [hu] at h
            simp at h
            have h4 := unpB_len _ _ _ (Nat.le_refl _) hu
            rw [bitsB_length, List.length_take] at h4
            rw [← h.1, ← h.2, List.length_drop, List.length_cons]
            omega
        · simp at h
          rw [← h.1, ← h.2, List.length_drop, List.length_take, List.length_cons]
          omega

/-- The end of takeTexts. -/
def TxsR (w w' : World) (sb : Nat) (rv : Value) (q : Option (HP × List UInt8)) (e : Ending) : Prop :=
  (∃ h r rv', q = some (h, r) ∧ e = .returned (.agg #[.string h.n, .string h.v]) ∧ SrTo w w' sb rv rv' r) ∨ (q = none ∧ Gone e ∧ Chg (fun j => j = sb) w w')

theorem SrS.alloc {w : World} {sb : Nat} {rv : Value} {l : List UInt8} (h : SrS w sb rv l) (o : Obj) : SrS (w.alloc o) sb rv l := h.below ((Below.refl _ _).alloc (Nat.le_refl _) _)
theorem SrTo.set {w w1 : World} {sb : Nat} {rv r1 : Value} {l1 : List UInt8} (h : SrTo w w1 sb rv r1 l1) {b o : Nat} (hb : w.heap.size ≤ b) (hsb : sb < w.heap.size) (hr : ∀ j, rv.ownBlock = some j → j < w.heap.size) (u : Value) : SrTo w (w1.setCell ⟨b, o, none⟩ u) sb rv r1 l1 := by
  have hc : Chg (fun j => j = b) w1 (w1.setCell ⟨b, o, none⟩ u) := (Chg.refl (fun j => j = b) w1).setCell (p := ⟨b, o, none⟩) (Or.inr rfl) _
  exact ⟨h.st.chg hc (by omega) (fun j hj e => by have := hr j (h.own j hj); omega), h.chg.trans (hc.mono fun j _ e => Or.inl (by omega)), h.own⟩
theorem ba_same (b : ByteArray) : (.string ⟨b.data.toList.toArray⟩ : Value) = .string b := by rw [ba_back]

set_option maxRecDepth 100000 in
set_option maxHeartbeats 800000 in
theorem takeTexts_any (ub : Nat) (cs : Array Value) (tP : TypeId) (lim : Nat) (tv : Value) (tab : List HP) (sb : Nat) (rv : Value) (l : List UInt8) (n : Nat) (w : World) (hgl : Gl w) (ht : TbS w ub cs tP lim tv tab) (h : SrS w sb rv l) (hl : l.length ≤ 268435456) (hsb : 7 ≤ sb) (hn : n ≤ 1099511627776) :
    Calls Tryd.prog 48 #[.pointer (some ⟨ub, 0, none⟩), .pointer (some ⟨sb, 0, none⟩), .int .i64 n] w fun e w' => TxsR w w' sb rv (rdTxs tab n l) e := by
  have hba : Below w.heap.size w ((w.alloc (.cells #[.string ⟨#[]⟩, .string ⟨#[]⟩] 33)).alloc (.cells #[.string ⟨#[]⟩, .string ⟨#[]⟩] 33)) := ((Below.refl _ _).alloc (Nat.le_refl _) _).alloc (by simp) _
  have hga := hgl.below hba
  have hta := ht.below hba
  have hsa := h.below hba
  have hslt := lt_of_block h.blk
  have hrl : ∀ j, rv.ownBlock = some j → j < w.heap.size := fun j hj => h.bytes.lt hj
  have hrd : rdTxs tab n l = match (if 0 < n then (match (numd tab)[n - 1]? with
      | none => none
      | some x => some (x.n.data.toList, l)) else rdTxt l) with
    | none => none
    | some (nm, q) => match rdTxt q with
      | none => none
      | some (vl, s) => some (⟨⟨nm.toArray⟩, ⟨vl.toArray⟩⟩, s) := rfl
  have hA : ((w.alloc (.cells #[.string ⟨#[]⟩, .string ⟨#[]⟩] 33)).alloc (.cells #[.string ⟨#[]⟩, .string ⟨#[]⟩] 33)).heap[w.heap.size]? = some (.cells #[.string ⟨#[]⟩, .string ⟨#[]⟩] 33 (0, 0)) := by
    rw [Below.heap_alloc _ _ _ (by simp)]; exact heap_alloc_new w _
  have hB : ((w.alloc (.cells #[.string ⟨#[]⟩, .string ⟨#[]⟩] 33)).alloc (.cells #[.string ⟨#[]⟩, .string ⟨#[]⟩] 33)).heap[w.heap.size + 1]? = some (.cells #[.string ⟨#[]⟩, .string ⟨#[]⟩] 33 (0, 0)) := by
    have := heap_alloc_new (w.alloc (.cells #[.string ⟨#[]⟩, .string ⟨#[]⟩] 33)) (.cells #[.string ⟨#[]⟩, .string ⟨#[]⟩] 33)
    simpa using this
  have HBA := hide hba
  have HGA := hide hga
  have HTA := hide hta
  have HSA := hide hsa
  have HRL := hide hrl
  have HRD := hide hrd
  have HAA := hide hA
  have HBB := hide hB
  clear hba hga hta hsa hrl hrd hgl ht h hA hB
  by_cases hpn : 0 < n ∧ (numd tab)[n - 1]? = none
  · obtain ⟨hn0, hx⟩ := hpn
    have hnl := List.getElem?_eq_none_iff.1 hx
    rw [numd_length] at hnl
    have HPB := hide (pair_bad ub cs tP lim tv tab n _ HTA.out hn (Or.inr (by omega)))
    have HE : Hid (rdTxs tab n l = none) := by show _ = _; rw [HRD.out, if_pos hn0, hx]
    clear hx
    go_enter Tryd.func48, Tryd.ntmps48
    go_wp2_with fail
    refine HPB.out.mono ?_
    rintro e w1 ⟨rfl, hb1⟩
    exact ⟨rfl, Or.inr ⟨HE.out, rfl, (Chg.of_below HBA.out).then_below hb1⟩⟩
  by_cases hbt : ¬ 0 < n ∧ rdTxt l = none
  · obtain ⟨hn0, hx⟩ := hbt
    have HTT := hide (takeText_any sb rv l _ HGA.out HSA.out hl hsb)
    rw [hx] at HTT
    have HE : Hid (rdTxs tab n l = none) := by show _ = _; rw [HRD.out, if_neg hn0, hx]
    clear hx hpn
    go_enter Tryd.func48, Tryd.ntmps48
    go_wp2_with fail
    refine HTT.out.mono ?_
    rintro e w1 (⟨t, r, rv', hq, _⟩ | ⟨_, he, hc1⟩)
    · cases hq
    · rw [he]
      exact ⟨rfl, Or.inr ⟨HE.out, rfl, (Chg.of_below HBA.out).trans (hc1.mono fun _ _ e => Or.inr e)⟩⟩
  have hnm : ∃ nm q, (if 0 < n then (match (numd tab)[n - 1]? with
      | none => none
      | some x => some (x.n.data.toList, l)) else rdTxt l) = some (nm, q) := by
    by_cases hn0 : 0 < n
    · rw [if_pos hn0]
      cases hx : (numd tab)[n - 1]? with
      | none => exact absurd ⟨hn0, hx⟩ hpn
      | some x => exact ⟨_, _, rfl⟩
    · rw [if_neg hn0]
      cases hx : rdTxt l with
      | none => exact absurd ⟨hn0, hx⟩ hbt
      | some tr => exact ⟨tr.1, tr.2, rfl⟩
  obtain ⟨nm, q, hnq⟩ := hnm
  have hrd := HRD.out
  rw [hnq] at hrd
  simp only at hrd
  have HRD2 := hide hrd
  have HNQ := hide hnq
  clear hrd hnq hpn hbt
  by_cases hn0 : 0 < n
  · have hnq := HNQ.out
    rw [if_pos hn0] at hnq
    cases hx : (numd tab)[n - 1]? with
    | none => rw [hx] at hnq; cases hnq
    | some x =>
      rw [hx] at hnq
      simp only [Option.some.injEq, Prod.mk.injEq] at hnq
      obtain ⟨hnm, hql⟩ := hnq
      have HPA := hide (pair_any ub cs tP lim tv tab n x _ HGA.out HTA.out hn0 hx)
      have hfd : ∀ (s t : ByteArray) (w : World), (Instr.field 33 (.agg #[.string s, .string t]) 0).run Tryd.prog w = .ok (.string s) w := fun _ _ _ => by kernel_rfl
      have HXN : Hid ((⟨nm.toArray⟩ : ByteArray) = x.n) := by show _ = _; rw [← hnm, ba_back]
      clear hx hnm
      subst hql
      go_enter Tryd.func48, Tryd.ntmps48
      go_wp2_with fail
      refine HPA.out.mono ?_
      rintro e w1 ⟨rfl, hb1⟩
      have hA1 : w1.heap[w.heap.size]? = some (.cells #[.string ⟨#[]⟩, .string ⟨#[]⟩] 33 (0, 0)) := by rw [hb1.block _ (lt_of_block HAA.out)]; exact HAA.out
      have hB1 : w1.heap[w.heap.size + 1]? = some (.cells #[.string ⟨#[]⟩, .string ⟨#[]⟩] 33 (0, 0)) := by rw [hb1.block _ (lt_of_block HBB.out)]; exact HBB.out
      have c0 : w1.cell? ⟨w.heap.size + 1, 0, none⟩ = some (.string ⟨#[]⟩) := by rw [cell_of_row _ _ _ _ _ _ hB1]; rfl
      have f0 : w1.frozen? ⟨w.heap.size + 1, 0, none⟩ = false := by simp [World.frozen?, hB1]
      have HB1 := hide hb1
      have HA1 := hide hA1
      have HBB1 := hide hB1
      clear hb1 hA1 hB1
      have hst : SrTo w w1 sb rv rv l := SrTo.before (HBA.out.trans (HB1.out.mono HBA.out.size)) ⟨HSA.out.below HB1.out, Chg.refl _ _, fun _ e => e⟩
      have hc9 : Chg (fun j => j = w.heap.size + 1) w1 (w1.setCell ⟨w.heap.size + 1, 0, none⟩ (.string x.n)) := (Chg.refl (fun j => j = w.heap.size + 1) w1).setCell (p := ⟨w.heap.size + 1, 0, none⟩) (Or.inr rfl) _
      have hcut : ∃ rv1, SrTo w (w1.setCell ⟨w.heap.size + 1, 0, none⟩ (.string x.n)) sb rv rv1 l ∧ l.length ≤ l.length ∧ Gl (w1.setCell ⟨w.heap.size + 1, 0, none⟩ (.string x.n)) ∧ (w1.setCell ⟨w.heap.size + 1, 0, none⟩ (.string x.n)).heap[w.heap.size]? = some (.cells #[.string ⟨#[]⟩, .string ⟨#[]⟩] 33 (0, 0)) ∧ (w1.setCell ⟨w.heap.size + 1, 0, none⟩ (.string x.n)).heap[w.heap.size + 1]? = some (.cells #[.string ⟨nm.toArray⟩, .string ⟨#[]⟩] 33 (0, 0)) := by
        refine ⟨rv, hst.set (by omega) hslt HRL.out _, Nat.le_refl _, (HGA.out.below HB1.out).chg hc9 (fun j hj e => by omega), ?_, ?_⟩
        · rw [hc9.block _ (lt_of_block HA1.out) (by omega)]; exact HA1.out
        · rw [HXN.out]
          exact block_setCell (i := 0) HBB1.out
      clear hst hc9 HA1 HBB1 HB1
      go_wp2_with fail
      generalize hwc : w1.setCell ⟨w.heap.size + 1, 0, none⟩ (.string x.n) = wc at hcut ⊢
      clear hwc c0 f0
      obtain ⟨rv1, hs1, hql, hg1, hA1, hB1⟩ := hcut
      have HTT := hide (takeText_any sb rv1 l wc hg1 hs1.st (by omega) hsb)
      have HS1 := hide hs1
      have HA1 := hide hA1
      have HB1 := hide hB1
      clear hs1 hg1 hA1 hB1
      refine HTT.out.mono ?_
      rintro e w2 (⟨t, r, rv2, hq, rfl, hs2⟩ | ⟨hq, he, hc2⟩)
      · have hA2 : w2.heap[w.heap.size]? = some (.cells #[.string ⟨#[]⟩, .string ⟨#[]⟩] 33 (0, 0)) := by rw [hs2.chg.block _ (lt_of_block HA1.out) (by omega)]; exact HA1.out
        have hB2 : w2.heap[w.heap.size + 1]? = some (.cells #[.string ⟨nm.toArray⟩, .string ⟨#[]⟩] 33 (0, 0)) := by rw [hs2.chg.block _ (lt_of_block HB1.out) (by omega)]; exact HB1.out
        have c0 : w2.cell? ⟨w.heap.size + 1, 0, none⟩ = some (.string ⟨nm.toArray⟩) := by rw [cell_of_row _ _ _ _ _ _ hB2]; rfl
        have c1 : w2.cell? ⟨w.heap.size + 1, 1, none⟩ = some (.string ⟨#[]⟩) := by rw [cell_of_row _ _ _ _ _ _ hB2]; rfl
        have f1 : w2.frozen? ⟨w.heap.size + 1, 1, none⟩ = false := by simp [World.frozen?, hB2]
        have a0 : w2.cell? ⟨w.heap.size, 0, none⟩ = some (.string ⟨#[]⟩) := by rw [cell_of_row _ _ _ _ _ _ hA2]; rfl
        have a1 : w2.cell? ⟨w.heap.size, 1, none⟩ = some (.string ⟨#[]⟩) := by rw [cell_of_row _ _ _ _ _ _ hA2]; rfl
        have g0 : w2.frozen? ⟨w.heap.size, 0, none⟩ = false := by simp [World.frozen?, hA2]
        have g1 : w2.frozen? ⟨w.heap.size, 1, none⟩ = false := by simp [World.frozen?, hA2]
        have hrr := HRD2.out
        rw [hq] at hrr
        have HRR := hide hrr
        have HS2 := hide (HS1.out.trans hs2)
        clear hs2 hA2 hB2 hrr hq
        go_wp2
        refine bodyPost_ret (v := .agg #[.string ⟨nm.toArray⟩, .string ⟨t.toArray⟩]) ?_ rfl (Or.inl ⟨_, r, rv2, HRR.out, rfl, ?_⟩)
        · simp [results, Tryd.results48, go_sem, a0, a1]
        · exact ((HS2.out.set (by omega) hslt HRL.out _).set (by omega) hslt HRL.out _).set (by omega) hslt HRL.out _
      · have hrr := HRD2.out
        rw [hq] at hrr
        rw [he]
        exact ⟨rfl, Or.inr ⟨hrr, rfl, HS1.out.chg.trans (hc2.mono fun _ _ e => Or.inr e)⟩⟩
  · have hnq := HNQ.out
    rw [if_neg hn0] at hnq
    have hlen := (rdTxt_len hnq).2
    have HTT := hide (takeText_any sb rv l _ HGA.out HSA.out hl hsb)
    rw [hnq] at HTT
    clear hnq
    go_enter Tryd.func48, Tryd.ntmps48
    go_wp2_with fail
    refine HTT.out.mono ?_
    rintro e w1 (⟨t, r, rv1, hq, rfl, hs1⟩ | ⟨hq, _, _⟩)
    · simp only [Option.some.injEq, Prod.mk.injEq] at hq
      obtain ⟨rfl, rfl⟩ := hq
      have hA1 : w1.heap[w.heap.size]? = some (.cells #[.string ⟨#[]⟩, .string ⟨#[]⟩] 33 (0, 0)) := by rw [hs1.chg.block _ (lt_of_block HAA.out) (by omega)]; exact HAA.out
      have hB1 : w1.heap[w.heap.size + 1]? = some (.cells #[.string ⟨#[]⟩, .string ⟨#[]⟩] 33 (0, 0)) := by rw [hs1.chg.block _ (lt_of_block HBB.out) (by omega)]; exact HBB.out
      have c0 : w1.cell? ⟨w.heap.size + 1, 0, none⟩ = some (.string ⟨#[]⟩) := by rw [cell_of_row _ _ _ _ _ _ hB1]; rfl
      have f0 : w1.frozen? ⟨w.heap.size + 1, 0, none⟩ = false := by simp [World.frozen?, hB1]
      have HS1 := hide hs1
      have HA1 := hide hA1
      have HBB1 := hide hB1
      clear hs1 hA1 hB1
      have hst : SrTo w w1 sb rv rv1 q := SrTo.before HBA.out HS1.out
      have hc9 : Chg (fun j => j = w.heap.size + 1) w1 (w1.setCell ⟨w.heap.size + 1, 0, none⟩ (.string ⟨nm.toArray⟩)) := (Chg.refl (fun j => j = w.heap.size + 1) w1).setCell (p := ⟨w.heap.size + 1, 0, none⟩) (Or.inr rfl) _
      have hcut : ∃ rv1, SrTo w (w1.setCell ⟨w.heap.size + 1, 0, none⟩ (.string ⟨nm.toArray⟩)) sb rv rv1 q ∧ q.length ≤ l.length ∧ Gl (w1.setCell ⟨w.heap.size + 1, 0, none⟩ (.string ⟨nm.toArray⟩)) ∧ (w1.setCell ⟨w.heap.size + 1, 0, none⟩ (.string ⟨nm.toArray⟩)).heap[w.heap.size]? = some (.cells #[.string ⟨#[]⟩, .string ⟨#[]⟩] 33 (0, 0)) ∧ (w1.setCell ⟨w.heap.size + 1, 0, none⟩ (.string ⟨nm.toArray⟩)).heap[w.heap.size + 1]? = some (.cells #[.string ⟨nm.toArray⟩, .string ⟨#[]⟩] 33 (0, 0)) := by
        refine ⟨rv1, hst.set (by omega) hslt HRL.out _, hlen, (HGA.out.sr HS1.out.chg hsb).chg hc9 (fun j hj e => by omega), ?_, ?_⟩
        · rw [hc9.block _ (lt_of_block HA1.out) (by omega)]; exact HA1.out
        · exact block_setCell (i := 0) HBB1.out
      clear hst hc9 HA1 HBB1 HS1
      go_wp2_with fail
      generalize hwc : w1.setCell ⟨w.heap.size + 1, 0, none⟩ (.string ⟨nm.toArray⟩) = wc at hcut ⊢
      clear hwc c0 f0
      obtain ⟨rv1, hs1, hql, hg1, hA1, hB1⟩ := hcut
      have HTT := hide (takeText_any sb rv1 q wc hg1 hs1.st (by omega) hsb)
      have HS1 := hide hs1
      have HA1 := hide hA1
      have HB1 := hide hB1
      clear hs1 hg1 hA1 hB1
      refine HTT.out.mono ?_
      rintro e w2 (⟨t, r, rv2, hq, rfl, hs2⟩ | ⟨hq, he, hc2⟩)
      · have hA2 : w2.heap[w.heap.size]? = some (.cells #[.string ⟨#[]⟩, .string ⟨#[]⟩] 33 (0, 0)) := by rw [hs2.chg.block _ (lt_of_block HA1.out) (by omega)]; exact HA1.out
        have hB2 : w2.heap[w.heap.size + 1]? = some (.cells #[.string ⟨nm.toArray⟩, .string ⟨#[]⟩] 33 (0, 0)) := by rw [hs2.chg.block _ (lt_of_block HB1.out) (by omega)]; exact HB1.out
        have c0 : w2.cell? ⟨w.heap.size + 1, 0, none⟩ = some (.string ⟨nm.toArray⟩) := by rw [cell_of_row _ _ _ _ _ _ hB2]; rfl
        have c1 : w2.cell? ⟨w.heap.size + 1, 1, none⟩ = some (.string ⟨#[]⟩) := by rw [cell_of_row _ _ _ _ _ _ hB2]; rfl
        have f1 : w2.frozen? ⟨w.heap.size + 1, 1, none⟩ = false := by simp [World.frozen?, hB2]
        have a0 : w2.cell? ⟨w.heap.size, 0, none⟩ = some (.string ⟨#[]⟩) := by rw [cell_of_row _ _ _ _ _ _ hA2]; rfl
        have a1 : w2.cell? ⟨w.heap.size, 1, none⟩ = some (.string ⟨#[]⟩) := by rw [cell_of_row _ _ _ _ _ _ hA2]; rfl
        have g0 : w2.frozen? ⟨w.heap.size, 0, none⟩ = false := by simp [World.frozen?, hA2]
        have g1 : w2.frozen? ⟨w.heap.size, 1, none⟩ = false := by simp [World.frozen?, hA2]
        have hrr := HRD2.out
        rw [hq] at hrr
        have HRR := hide hrr
        have HS2 := hide (HS1.out.trans hs2)
        clear hs2 hA2 hB2 hrr hq
        go_wp2
        refine bodyPost_ret (v := .agg #[.string ⟨nm.toArray⟩, .string ⟨t.toArray⟩]) ?_ rfl (Or.inl ⟨_, r, rv2, HRR.out, rfl, ?_⟩)
        · simp [results, Tryd.results48, go_sem, a0, a1]
        · exact ((HS2.out.set (by omega) hslt HRL.out _).set (by omega) hslt HRL.out _).set (by omega) hslt HRL.out _
      · have hrr := HRD2.out
        rw [hq] at hrr
        rw [he]
        exact ⟨rfl, Or.inr ⟨hrr, rfl, HS1.out.chg.trans (hc2.mono fun _ _ e => Or.inr e)⟩⟩
    · cases hq
end Go.Proofs.YtpmmpbklpclnhaaDoor
