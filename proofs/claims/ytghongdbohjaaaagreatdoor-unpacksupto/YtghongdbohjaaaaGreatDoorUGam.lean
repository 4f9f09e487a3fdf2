import Derived.Test.YtghongdbohjaaaaGreatDoorUGal
import Derived.Test.YtghongdbohjaaaaGreatDoorUGaf
import Derived.Test.YtghongdbohjaaaaGreatDoorUGag
set_option linter.unusedVariables false
set_option linter.unusedSimpArgs false
/-
  Package blocks: Unpacker's takeTexts.
-/
namespace Go.Proofs.YtghongdbohjaaaaGreatDoor
set_option linter.unusedVariables false
set_option linter.unusedSimpArgs false
open Go.RowKit

theorem decB_four {bs : List Bool} {c : UInt8} {r : List Bool} (h : decB bs = some (c, r)) : r.length + 4 ≤ bs.length := by
  unfold decB at h
  split at h
  · cases h
  · split at h
    · split at h
      · cases h
      · simp at h; rw [← h.2, List.length_drop]; omega
    · split at h
      · cases h
      · split at h
        · split at h
          · cases h
          · simp at h; rw [← h.2, List.length_drop]; omega
        · split at h
          · cases h
          · split at h
            · cases h
            · simp at h; rw [← h.2, List.length_drop]; omega
theorem unpB_len (n : Nat) : ∀ (bs : List Bool) (t : List UInt8), bs.length ≤ n → unpB bs = some t → 4 * t.length ≤ bs.length := by
  induction n with
  | zero =>
    intro bs t hn h
    have hb : bs = [] := List.eq_nil_of_length_eq_zero (by omega)
    subst hb
    rw [unpB_fill (by decide)] at h
    cases h
    simp
  | succ n ih =>
    intro bs t hn h
    cases hf : fillB bs with
    | true => rw [unpB_fill hf] at h; cases h; simp
    | false =>
      cases hd : decB bs with
      | none => rw [unpB_none hf hd] at h; cases h
      | some cr =>
        obtain ⟨c, r⟩ := cr
        rw [unpB_next hf hd] at h
        have h4 := decB_four hd
        cases hr : unpB r with
        | none => rw [hr] at h; cases h
        | some z =>
          rw [hr] at h
          simp at h
          rw [← h]
          have := ih r z (by omega) hr
          simp
          omega
theorem rdMore_len : ∀ f i n l n' q, rdMore f i n l = some (n', q) → q.length ≤ l.length := by
  intro f
  induction f with
  | zero => intro i n l n' q h9; simp [rdMore] at h9
  | succ f ih =>
    intro i n l n' q h9
    cases l with
    | nil => simp [rdMore] at h9
    | cons x t =>
      simp only [rdMore] at h9
      split at h9
      · cases h9
      · split at h9
        · simp at h9; rw [← h9.2]; simp
        · have := ih _ _ _ _ _ h9; simp; omega
theorem rdCnt_len {k : Nat} {c : UInt8} {r : List UInt8} {n : Nat} {q : List UInt8} (h9 : rdCnt k c r = some (n, q)) : q.length ≤ r.length := by
  unfold rdCnt at h9
  split at h9
  · simp at h9; rw [← h9.2]; exact Nat.le_refl _
  · exact rdMore_len _ _ _ _ _ _ h9
theorem rdTxt_len {l t r : List UInt8} (h : rdTxt l = some (t, r)) : t.length ≤ 2 * l.length ∧ r.length ≤ l.length := by
  cases l with
  | nil => simp [rdTxt] at h
  | cons c s =>
    simp only [rdTxt] at h
    cases hc : rdCnt 7 c s with
    | none => rw [hc] at h; cases h
    | some nq =>
      obtain ⟨n, q⟩ := nq
      have hq := rdCnt_len hc
      rw [hc] at h
      simp only at h
      split at h
      · cases h
      · split at h
        · cases hu : unpB (bitsB (q.take n)) with
          | none => rw [hu] at h; cases h
          | some z =>
            rw [hu] at h
            simp at h
            have h4 := unpB_len _ _ _ (Nat.le_refl _) hu
            rw [bitsB_length, List.length_take] at h4
            rw [← h.1, ← h.2, List.length_drop, List.length_cons]
            omega
        · simp at h
          rw [← h.1, ← h.2, List.length_drop, List.length_take, List.length_cons]
          omega

/-- The end of takeTexts. -/
def TxsR (w w' : World) (sb : Nat) (rv : Value) (q : Option (HP × List UInt8)) (e : Ending) : Prop :=
  (∃ h r rv', q = some (h, r) ∧ e = .returned (.agg #[.string h.n, .string h.v]) ∧ SrTo w w' sb rv rv' r) ∨ (q = none ∧ Gone e ∧ Chg (fun j => j = sb) w w')

theorem SrS.alloc {w : World} {sb : Nat} {rv : Value} {l : List UInt8} (h : SrS w sb rv l) (o : Obj) : SrS (w.alloc o) sb rv l := h.below ((Below.refl _ _).alloc (Nat.le_refl _) _)
theorem SrTo.set {w w1 : World} {sb : Nat} {rv r1 : Value} {l1 : List UInt8} (h : SrTo w w1 sb rv r1 l1) {b o : Nat} (hb : w.heap.size ≤ b) (hsb : sb < w.heap.size) (hr : ∀ j, rv.ownBlock = some j → j < w.heap.size) (u : Value) : SrTo w (w1.setCell ⟨b, o, none⟩ u) sb rv r1 l1 := by
  have hc : Chg (fun j => j = b) w1 (w1.setCell ⟨b, o, none⟩ u) := (Chg.refl (fun j => j = b) w1).setCell (p := ⟨b, o, none⟩) (Or.inr rfl) _
  exact ⟨h.st.chg hc (by omega) (fun j hj e => by have := hr j (h.own j hj); omega), h.chg.trans (hc.mono fun j _ e => Or.inl (by omega)), h.own⟩
theorem ba_same (b : ByteArray) : (.string ⟨b.data.toList.toArray⟩ : Value) = .string b := by rw [ba_back]

set_option maxRecDepth 100000 in
set_option maxHeartbeats 800000 in
theorem takeTexts_any (ub : Nat) (cs : Array Value) (tP : TypeId) (lim : Nat) (tv : Value) (tab : List HP) (sb : Nat) (rv : Value) (l : List UInt8) (n : Nat) (w : World) (hgl : Gl w) (ht : TbS w ub cs tP lim tv tab) (h : SrS w sb rv l) (hl : l.length ≤ 268435456) (hsb : 7 ≤ sb) (hn : n ≤ 1099511627776) :
    Calls Tryz.prog 223 #[.pointer (some ⟨ub, 0, none⟩), .pointer (some ⟨sb, 0, none⟩), .int .i64 n] w fun e w' => TxsR w w' sb rv (rdTxs tab n l) e := by
  have hba : Below w.heap.size w ((w.alloc (.cells #[.string ⟨#[]⟩, .string ⟨#[]⟩] 62)).alloc (.cells #[.string ⟨#[]⟩, .string ⟨#[]⟩] 62)) := ((Below.refl _ _).alloc (Nat.le_refl _) _).alloc (by simp) _
  have hga := hgl.below hba
  have hta := ht.below hba
  have hsa := h.below hba
  have hslt := lt_of_block h.blk
  have hrl : ∀ j, rv.ownBlock = some j → j < w.heap.size := fun j hj => h.bytes.lt hj
  have hrd : rdTxs tab n l = match (if 0 < n then (match (numd tab)[n - 1]? with
      | none => none
      | some x => some (x.n.data.toList, l)) else rdTxt l) with
    | none => none
    | some (nm, q) => match rdTxt q with
      | none => none
      | some (vl, s) => some (⟨⟨nm.toArray⟩, ⟨vl.toArray⟩⟩, s) := rfl
  have hA : ((w.alloc (.cells #[.string ⟨#[]⟩, .string ⟨#[]⟩] 62)).alloc (.cells #[.string ⟨#[]⟩, .string ⟨#[]⟩] 62)).heap[w.heap.size]? = some (.cells #[.string ⟨#[]⟩, .string ⟨#[]⟩] 62 (0, 0)) := by
    rw [Below.heap_alloc _ _ _ (by simp)]; exact heap_alloc_new w _
  have hB : ((w.alloc (.cells #[.string ⟨#[]⟩, .string ⟨#[]⟩] 62)).alloc (.cells #[.string ⟨#[]⟩, .string ⟨#[]⟩] 62)).heap[w.heap.size + 1]? = some (.cells #[.string ⟨#[]⟩, .string ⟨#[]⟩] 62 (0, 0)) := by
    have := heap_alloc_new (w.alloc (.cells #[.string ⟨#[]⟩, .string ⟨#[]⟩] 62)) (.cells #[.string ⟨#[]⟩, .string ⟨#[]⟩] 62)
    simpa using this
  have HBA := hide hba
  have HGA := hide hga
  have HTA := hide hta
  have HSA := hide hsa
  have HRL := hide hrl
  have HRD := hide hrd
  have HAA := hide hA
  have HBB := hide hB
  clear hba hga hta hsa hrl hrd hgl ht h hA hB
  by_cases hpn : 0 < n ∧ (numd tab)[n - 1]? = none
  · obtain ⟨hn0, hx⟩ := hpn
    have hnl := List.getElem?_eq_none_iff.1 hx
    rw [numd_length] at hnl
    have HPB := hide (pair_bad ub cs tP lim tv tab n _ HTA.out hn (Or.inr (by omega)))
    have HE : Hid (rdTxs tab n l = none) := by show _ = _; rw [HRD.out, if_pos hn0, hx]
    clear hx
    go_enter Tryz.func223, Tryz.ntmps223
    go_wp2_with fail
    refine HPB.out.mono ?_
    rintro e w1 ⟨rfl, hb1⟩
    exact ⟨rfl, Or.inr ⟨HE.out, rfl, (Chg.of_below HBA.out).then_below hb1⟩⟩
  by_cases hbt : ¬ 0 < n ∧ rdTxt l = none
  · obtain ⟨hn0, hx⟩ := hbt
    have HTT := hide (takeText_any sb rv l _ HGA.out HSA.out hl hsb)
    rw [hx] at HTT
    have HE : Hid (rdTxs tab n l = none) := by show _ = _; rw [HRD.out, if_neg hn0, hx]
    clear hx hpn
    go_enter Tryz.func223, Tryz.ntmps223
    go_wp2_with fail
    refine HTT.out.mono ?_
    rintro e w1 (⟨t, r, rv', hq, _⟩ | ⟨_, he, hc1⟩)
    · cases hq
    · rw [he]
      exact ⟨rfl, Or.inr ⟨HE.out, rfl, (Chg.of_below HBA.out).trans (hc1.mono fun _ _ e => Or.inr e)⟩⟩
  have hnm : ∃ nm q, (if 0 < n then (match (numd tab)[n - 1]? with
      | none => none
      | some x => some (x.n.data.toList, l)) else rdTxt l) = some (nm, q) := by
    by_cases hn0 : 0 < n
    · rw [if_pos hn0]
      cases hx : (numd tab)[n - 1]? with
      | none => exact absurd ⟨hn0, hx⟩ hpn
      | some x => exact ⟨_, _, rfl⟩
    · rw [if_neg hn0]
      cases hx : rdTxt l with
      | none => exact absurd ⟨hn0, hx⟩ hbt
      | some tr => exact ⟨tr.1, tr.2, rfl⟩
  obtain ⟨nm, q, hnq⟩ := hnm
  have hrd := HRD.out
  rw [hnq] at hrd
  simp only at hrd
  have HRD2 := hide hrd
  have HNQ := hide hnq
  clear hrd hnq hpn hbt
  by_cases hn0 : 0 < n
  · have hnq := HNQ.out
    rw [if_pos hn0] at hnq
    cases hx : (numd tab)[n - 1]? with
    | none => rw [hx] at hnq; cases hnq
    | some x =>
      rw [hx] at hnq
      simp only [Option.some.injEq, Prod.mk.injEq] at hnq
      obtain ⟨hnm, hql⟩ := hnq
      have HPA := hide (pair_any ub cs tP lim tv tab n x _ HGA.out HTA.out hn0 hx)
      have hfd : ∀ (s t : ByteArray) (w : World), (Instr.field 62 (.agg #[.string s, .string t]) 0).run Tryz.prog w = .ok (.string s) w := fun _ _ _ => by kernel_rfl
      have HXN : Hid ((⟨nm.toArray⟩ : ByteArray) = x.n) := by show _ = _; rw [← hnm, ba_back]
      clear hx hnm
      subst hql
      go_enter Tryz.func223, Tryz.ntmps223
      go_wp2_with fail
      refine HPA.out.mono ?_
      rintro e w1 ⟨rfl, hb1⟩
      have hA1 : w1.heap[w.heap.size]? = some (.cells #[.string ⟨#[]⟩, .string ⟨#[]⟩] 62 (0, 0)) := by rw [hb1.block _ (lt_of_block HAA.out)]; exact HAA.out
      have hB1 : w1.heap[w.heap.size + 1]? = some (.cells #[.string ⟨#[]⟩, .string ⟨#[]⟩] 62 (0, 0)) := by rw [hb1.block _ (lt_of_block HBB.out)]; exact HBB.out
      have c0 : w1.cell? ⟨w.heap.size + 1, 0, none⟩ = some (.string ⟨#[]⟩) := by rw [cell_of_row _ _ _ _ _ _ hB1]; rfl
      have f0 : w1.frozen? ⟨w.heap.size + 1, 0, none⟩ = false := by simp [World.frozen?, hB1]
      have HB1 := hide hb1
      have HA1 := hide hA1
      have HBB1 := hide hB1
      clear hb1 hA1 hB1
      have hst : SrTo w w1 sb rv rv l := SrTo.before (HBA.out.trans (HB1.out.mono HBA.out.size)) ⟨HSA.out.below HB1.out, Chg.refl _ _, fun _ e => e⟩
      have hc9 : Chg (fun j => j = w.heap.size + 1) w1 (w1.setCell ⟨w.heap.size + 1, 0, none⟩ (.string x.n)) := (Chg.refl (fun j => j = w.heap.size + 1) w1).setCell (p := ⟨w.heap.size + 1, 0, none⟩) (Or.inr rfl) _
      have hcut : ∃ rv1, SrTo w (w1.setCell ⟨w.heap.size + 1, 0, none⟩ (.string x.n)) sb rv rv1 l ∧ l.length ≤ l.length ∧ Gl (w1.setCell ⟨w.heap.size + 1, 0, none⟩ (.string x.n)) ∧ (w1.setCell ⟨w.heap.size + 1, 0, none⟩ (.string x.n)).heap[w.heap.size]? = some (.cells #[.string ⟨#[]⟩, .string ⟨#[]⟩] 62 (0, 0)) ∧ (w1.setCell ⟨w.heap.size + 1, 0, none⟩ (.string x.n)).heap[w.heap.size + 1]? = some (.cells #[.string ⟨nm.toArray⟩, .string ⟨#[]⟩] 62 (0, 0)) := by
        refine ⟨rv, hst.set (by omega) hslt HRL.out _, Nat.le_refl _, (HGA.out.below HB1.out).chg hc9 (fun j hj e => by omega), ?_, ?_⟩
        · rw [hc9.block _ (lt_of_block HA1.out) (by omega)]; exact HA1.out
        · rw [HXN.out]
          exact block_setCell (i := 0) HBB1.out
      clear hst hc9 HA1 HBB1 HB1
      go_wp2_with fail
      generalize hwc : w1.setCell ⟨w.heap.size + 1, 0, none⟩ (.string x.n) = wc at hcut ⊢
      clear hwc c0 f0
      obtain ⟨rv1, hs1, hql, hg1, hA1, hB1⟩ := hcut
      have HTT := hide (takeText_any sb rv1 l wc hg1 hs1.st (by omega) hsb)
      have HS1 := hide hs1
      have HA1 := hide hA1
      have HB1 := hide hB1
      clear hs1 hg1 hA1 hB1
      refine HTT.out.mono ?_
      rintro e w2 (⟨t, r, rv2, hq, rfl, hs2⟩ | ⟨hq, he, hc2⟩)
      · have hA2 : w2.heap[w.heap.size]? = some (.cells #[.string ⟨#[]⟩, .string ⟨#[]⟩] 62 (0, 0)) := by rw [hs2.chg.block _ (lt_of_block HA1.out) (by omega)]; exact HA1.out
        have hB2 : w2.heap[w.heap.size + 1]? = some (.cells #[.string ⟨nm.toArray⟩, .string ⟨#[]⟩] 62 (0, 0)) := by rw [hs2.chg.block _ (lt_of_block HB1.out) (by omega)]; exact HB1.out
        have c0 : w2.cell? ⟨w.heap.size + 1, 0, none⟩ = some (.string ⟨nm.toArray⟩) := by rw [cell_of_row _ _ _ _ _ _ hB2]; rfl
        have c1 : w2.cell? ⟨w.heap.size + 1, 1, none⟩ = some (.string ⟨#[]⟩) := by rw [cell_of_row _ _ _ _ _ _ hB2]; rfl
        have f1 : w2.frozen? ⟨w.heap.size + 1, 1, none⟩ = false := by simp [World.frozen?, hB2]
        have a0 : w2.cell? ⟨w.heap.size, 0, none⟩ = some (.string ⟨#[]⟩) := by rw [cell_of_row _ _ _ _ _ _ hA2]; rfl
        have a1 : w2.cell? ⟨w.heap.size, 1, none⟩ = some (.string ⟨#[]⟩) := by rw [cell_of_row _ _ _ _ _ _ hA2]; rfl
        have g0 : w2.frozen? ⟨w.heap.size, 0, none⟩ = false := by simp [World.frozen?, hA2]
        have g1 : w2.frozen? ⟨w.heap.size, 1, none⟩ = false := by simp [World.frozen?, hA2]
        have hrr := HRD2.out
        rw [hq] at hrr
        have HRR := hide hrr
        have HS2 := hide (HS1.out.trans hs2)
        clear hs2 hA2 hB2 hrr hq
        go_wp2
        refine bodyPost_ret (v := .agg #[.string ⟨nm.toArray⟩, .string ⟨t.toArray⟩]) ?_ rfl (Or.inl ⟨_, r, rv2, HRR.out, rfl, ?_⟩)
        · simp [results, Tryz.results223, go_sem, a0, a1]
        · exact ((HS2.out.set (by omega) hslt HRL.out _).set (by omega) hslt HRL.out _).set (by omega) hslt HRL.out _
      · have hrr := HRD2.out
        rw [hq] at hrr
        rw [he]
        exact ⟨rfl, Or.inr ⟨hrr, rfl, HS1.out.chg.trans (hc2.mono fun _ _ e => Or.inr e)⟩⟩
  · have hnq := HNQ.out
    rw [if_neg hn0] at hnq
    have hlen := (rdTxt_len hnq).2
    have HTT := hide (takeText_any sb rv l _ HGA.out HSA.out hl hsb)
    rw [hnq] at HTT
    clear hnq
    go_enter Tryz.func223, Tryz.ntmps223
    go_wp2_with fail
    refine HTT.out.mono ?_
    rintro e w1 (⟨t, r, rv1, hq, rfl, hs1⟩ | ⟨hq, _, _⟩)
    · simp only [Option.some.injEq, Prod.mk.injEq] at hq
      obtain ⟨rfl, rfl⟩ := hq
      have hA1 : w1.heap[w.heap.size]? = some (.cells #[.string ⟨#[]⟩, .string ⟨#[]⟩] 62 (0, 0)) := by rw [hs1.chg.block _ (lt_of_block HAA.out) (by omega)]; exact HAA.out
      have hB1 : w1.heap[w.heap.size + 1]? = some (.cells #[.string ⟨#[]⟩, .string ⟨#[]⟩] 62 (0, 0)) := by rw [hs1.chg.block _ (lt_of_block HBB.out) (by omega)]; exact HBB.out
      have c0 : w1.cell? ⟨w.heap.size + 1, 0, none⟩ = some (.string ⟨#[]⟩) := by rw [cell_of_row _ _ _ _ _ _ hB1]; rfl
      have f0 : w1.frozen? ⟨w.heap.size + 1, 0, none⟩ = false := by simp [World.frozen?, hB1]
      have HS1 := hide hs1
      have HA1 := hide hA1
      have HBB1 := hide hB1
      clear hs1 hA1 hB1
      have hst : SrTo w w1 sb rv rv1 q := SrTo.before HBA.out HS1.out
      have hc9 : Chg (fun j => j = w.heap.size + 1) w1 (w1.setCell ⟨w.heap.size + 1, 0, none⟩ (.string ⟨nm.toArray⟩)) := (Chg.refl (fun j => j = w.heap.size + 1) w1).setCell (p := ⟨w.heap.size + 1, 0, none⟩) (Or.inr rfl) _
      have hcut : ∃ rv1, SrTo w (w1.setCell ⟨w.heap.size + 1, 0, none⟩ (.string ⟨nm.toArray⟩)) sb rv rv1 q ∧ q.length ≤ l.length ∧ Gl (w1.setCell ⟨w.heap.size + 1, 0, none⟩ (.string ⟨nm.toArray⟩)) ∧ (w1.setCell ⟨w.heap.size + 1, 0, none⟩ (.string ⟨nm.toArray⟩)).heap[w.heap.size]? = some (.cells #[.string ⟨#[]⟩, .string ⟨#[]⟩] 62 (0, 0)) ∧ (w1.setCell ⟨w.heap.size + 1, 0, none⟩ (.string ⟨nm.toArray⟩)).heap[w.heap.size + 1]? = some (.cells #[.string ⟨nm.toArray⟩, .string ⟨#[]⟩] 62 (0, 0)) := by
        refine ⟨rv1, hst.set (by omega) hslt HRL.out _, hlen, (HGA.out.sr HS1.out.chg hsb).chg hc9 (fun j hj e => by omega), ?_, ?_⟩
        · rw [hc9.block _ (lt_of_block HA1.out) (by omega)]; exact HA1.out
        · exact block_setCell (i := 0) HBB1.out
      clear hst hc9 HA1 HBB1 HS1
      go_wp2_with fail
      generalize hwc : w1.setCell ⟨w.heap.size + 1, 0, none⟩ (.string ⟨nm.toArray⟩) = wc at hcut ⊢
      clear hwc c0 f0
      obtain ⟨rv1, hs1, hql, hg1, hA1, hB1⟩ := hcut
      have HTT := hide (takeText_any sb rv1 q wc hg1 hs1.st (by omega) hsb)
      have HS1 := hide hs1
      have HA1 := hide hA1
      have HB1 := hide hB1
      clear hs1 hg1 hA1 hB1
      refine HTT.out.mono ?_
      rintro e w2 (⟨t, r, rv2, hq, rfl, hs2⟩ | ⟨hq, he, hc2⟩)
      · have hA2 : w2.heap[w.heap.size]? = some (.cells #[.string ⟨#[]⟩, .string ⟨#[]⟩] 62 (0, 0)) := by rw [hs2.chg.block _ (lt_of_block HA1.out) (by omega)]; exact HA1.out
        have hB2 : w2.heap[w.heap.size + 1]? = some (.cells #[.string ⟨nm.toArray⟩, .string ⟨#[]⟩] 62 (0, 0)) := by rw [hs2.chg.block _ (lt_of_block HB1.out) (by omega)]; exact HB1.out
        have c0 : w2.cell? ⟨w.heap.size + 1, 0, none⟩ = some (.string ⟨nm.toArray⟩) := by rw [cell_of_row _ _ _ _ _ _ hB2]; rfl
        have c1 : w2.cell? ⟨w.heap.size + 1, 1, none⟩ = some (.string ⟨#[]⟩) := by rw [cell_of_row _ _ _ _ _ _ hB2]; rfl
        have f1 : w2.frozen? ⟨w.heap.size + 1, 1, none⟩ = false := by simp [World.frozen?, hB2]
        have a0 : w2.cell? ⟨w.heap.size, 0, none⟩ = some (.string ⟨#[]⟩) := by rw [cell_of_row _ _ _ _ _ _ hA2]; rfl
        have a1 : w2.cell? ⟨w.heap.size, 1, none⟩ = some (.string ⟨#[]⟩) := by rw [cell_of_row _ _ _ _ _ _ hA2]; rfl
        have g0 : w2.frozen? ⟨w.heap.size, 0, none⟩ = false := by simp [World.frozen?, hA2]
        have g1 : w2.frozen? ⟨w.heap.size, 1, none⟩ = false := by simp [World.frozen?, hA2]
        have hrr := HRD2.out
        rw [hq] at hrr
        have HRR := hide hrr
        have HS2 := hide (HS1.out.trans hs2)
        clear hs2 hA2 hB2 hrr hq
        go_wp2
        refine bodyPost_ret (v := .agg #[.string ⟨nm.toArray⟩, .string ⟨t.toArray⟩]) ?_ rfl (Or.inl ⟨_, r, rv2, HRR.out, rfl, ?_⟩)
        · simp [results, Tryz.results223, go_sem, a0, a1]
        · exact ((HS2.out.set (by omega) hslt HRL.out _).set (by omega) hslt HRL.out _).set (by omega) hslt HRL.out _
      · have hrr := HRD2.out
        rw [hq] at hrr
        rw [he]
        exact ⟨rfl, Or.inr ⟨hrr, rfl, HS1.out.chg.trans (hc2.mono fun _ _ e => Or.inr e)⟩⟩
    · cases hq
end Go.Proofs.YtghongdbohjaaaaGreatDoor
/-
  Package blocks: Unpacker's takePair, where there is a pair.
-/
namespace Go.Proofs.YtghongdbohjaaaaGreatDoor
set_option linter.unusedVariables false
set_option linter.unusedSimpArgs false
open Go.RowKit

/-- An unpacker and its source behind a call. -/
structure UnTo (w w' : World) (ub : Nat) (cs cs' : Array Value) (tP : TypeId) (lim : Nat) (tv tv' : Value) (tab' : List HP) (sb : Nat) (rv rv' : Value) (l' : List UInt8) : Prop where
  st : TbS w' ub cs' tP lim tv' tab'
  cs3 : ∀ i, 3 ≤ i → cs'[i]? = cs[i]?
  sr : SrS w' sb rv' l'
  chg : Chg (fun j => j = sb ∨ TouchT ub tv j) w w'
  tfresh : ∀ j, tv'.ownBlock = some j → tv.ownBlock = some j ∨ w.heap.size ≤ j
  own : ∀ j, rv'.ownBlock = some j → rv.ownBlock = some j
/-- They lie apart. -/
structure Apart (ub sb : Nat) (tv rv : Value) : Prop where
  us : ub ≠ sb
  ts : tv.ownBlock ≠ some sb
  ru : rv.ownBlock ≠ some ub
  rt : ∀ j, rv.ownBlock = some j → tv.ownBlock ≠ some j
theorem SrTo.un {w w' : World} {ub : Nat} {cs : Array Value} {tP : TypeId} {lim : Nat} {tv : Value} {tab : List HP} {sb : Nat} {rv rv' : Value} {l' : List UInt8} (h : SrTo w w' sb rv rv' l') (ht : TbS w ub cs tP lim tv tab) (ha : Apart ub sb tv rv) : UnTo w w' ub cs cs tP lim tv tv tab sb rv rv' l' :=
  ⟨ht.chg h.chg ha.us (fun j hj e => ha.ts (e ▸ hj)), fun _ _ => rfl, h.st, h.chg.mono fun _ _ e => Or.inl e, fun _ e => Or.inl e, h.own⟩
theorem UnTo.below {w w1 w2 : World} {ub : Nat} {cs cs' : Array Value} {tP : TypeId} {lim : Nat} {tv tv' : Value} {tab' : List HP} {sb : Nat} {rv rv' : Value} {l' : List UInt8} (h : UnTo w w1 ub cs cs' tP lim tv tv' tab' sb rv rv' l') (hb : Below w1.heap.size w1 w2) : UnTo w w2 ub cs cs' tP lim tv tv' tab' sb rv rv' l' :=
  ⟨h.st.below hb, h.cs3, h.sr.below hb, h.chg.then_below hb, h.tfresh, h.own⟩
theorem UnTo.before {w w1 w2 : World} {ub : Nat} {cs cs' : Array Value} {tP : TypeId} {lim : Nat} {tv tv' : Value} {tab' : List HP} {sb : Nat} {rv rv' : Value} {l' : List UInt8} (hb : Below w.heap.size w w1) (h : UnTo w1 w2 ub cs cs' tP lim tv tv' tab' sb rv rv' l') : UnTo w w2 ub cs cs' tP lim tv tv' tab' sb rv rv' l' :=
  ⟨h.st, h.cs3, h.sr, (Chg.of_below hb).trans (h.chg.mono fun _ _ e => Or.inr e), fun j hj => (h.tfresh j hj).imp_right fun e => Nat.le_trans hb.size e, h.own⟩
theorem UnTo.turn {w w1 w2 : World} {ub : Nat} {cs cs1 cs' : Array Value} {tP : TypeId} {lim lim' : Nat} {tv tv1 tv' : Value} {tab tab' : List HP} {sb : Nat} {rv rv' : Value} {l' : List UInt8} (h : UnTo w w1 ub cs cs1 tP lim tv tv1 tab sb rv rv' l') (k : TbTo w1 w2 ub cs1 cs' tP lim' tv1 tv' tab') (ha : Apart ub sb tv1 rv') : UnTo w w2 ub cs cs' tP lim' tv tv' tab' sb rv rv' l' := by
  have hsz := h.chg.size
  refine ⟨k.st, fun i hi => (k.cs3 i hi).trans (h.cs3 i hi), h.sr.chg k.chg ?_ ?_, h.chg.trans (k.chg.mono ?_), fun j hj => ?_, h.own⟩
  · rintro (e | e)
    · exact ha.us e.symm
    · exact ha.ts e
  · rintro j hj (e | e)
    · exact ha.ru (e ▸ hj)
    · exact ha.rt j hj e
  · rintro j _ (e | e)
    · exact Or.inr (Or.inr (Or.inl e))
    · rcases h.tfresh j e with a | a
      · exact Or.inr (Or.inr (Or.inr a))
      · exact Or.inl a
  · rcases k.own j hj with e | e
    · exact h.tfresh j e
    · exact Or.inr (Nat.le_trans hsz e)
/-- They stay apart. -/
theorem UnTo.apart {w w' : World} {ub : Nat} {cs cs' : Array Value} {tP : TypeId} {lim : Nat} {tv tv' : Value} {tab' : List HP} {sb : Nat} {rv rv' : Value} {l l' : List UInt8} (h : UnTo w w' ub cs cs' tP lim tv tv' tab' sb rv rv' l') (ha : Apart ub sb tv rv) (hs : SrS w sb rv l) : Apart ub sb tv' rv' := by
  refine ⟨ha.us, ?_, fun e => ha.ru (h.own _ e), fun j hj e => ?_⟩
  · intro e
    rcases h.tfresh sb e with a | a
    · exact ha.ts a
    · have := lt_of_block hs.blk; omega
  · have hj' := h.own j hj
    rcases h.tfresh j e with a | a
    · exact ha.rt j hj' a
    · have := hs.bytes.lt hj'; omega
theorem UnTo.trans {w w1 w2 : World} {ub : Nat} {cs cs1 cs2 : Array Value} {tP : TypeId} {lim lim2 : Nat} {tv tv1 tv2 : Value} {tab tab2 : List HP} {sb : Nat} {rv r1 r2 : Value} {l1 l2 : List UInt8} (h : UnTo w w1 ub cs cs1 tP lim tv tv1 tab sb rv r1 l1) (k : UnTo w1 w2 ub cs1 cs2 tP lim2 tv1 tv2 tab2 sb r1 r2 l2) : UnTo w w2 ub cs cs2 tP lim2 tv tv2 tab2 sb rv r2 l2 := by
  have hsz := h.chg.size
  refine ⟨k.st, fun i hi => (k.cs3 i hi).trans (h.cs3 i hi), k.sr, h.chg.trans (k.chg.mono ?_), fun j hj => ?_, fun j hj => h.own j (k.own j hj)⟩
  · rintro j _ (e | e | e)
    · exact Or.inr (Or.inl e)
    · exact Or.inr (Or.inr (Or.inl e))
    · rcases h.tfresh j e with a | a
      · exact Or.inr (Or.inr (Or.inr a))
      · exact Or.inl a
  · rcases k.tfresh j hj with e | e
    · exact h.tfresh j e
    · exact Or.inr (Nat.le_trans hsz e)
theorem UnTo.gl {w w' : World} {ub : Nat} {cs cs' : Array Value} {tP : TypeId} {lim : Nat} {tv tv' : Value} {tab' : List HP} {sb : Nat} {rv rv' : Value} {l' : List UInt8} (h : UnTo w w' ub cs cs' tP lim tv tv' tab' sb rv rv' l') (hg : Gl w) (hub : 7 ≤ ub) (hsb : 7 ≤ sb) (htv : ∀ j, tv.ownBlock = some j → 7 ≤ j) : Gl w' := by
  refine hg.chg h.chg ?_
  rintro j hj (e | e | e)
  · omega
  · omega
  · have := htv j e; omega

theorem rdPair_len {tab : List HP} {lim : Nat} {l : List UInt8} {h : HP} {tab' : List HP} {q : List UInt8} (hq : rdPair tab lim l = some (h, tab', q)) (hf : ∀ x ∈ numd tab, x.n.size ≤ 256 ∧ x.v.size ≤ 256) (hl : l.length ≤ 134217728) : q.length ≤ l.length ∧ h.n.size ≤ 268435456 ∧ h.v.size ≤ 268435456 := by
  have htx : ∀ n r h q, rdTxs tab n r = some (h, q) → r.length ≤ 134217728 → q.length ≤ r.length ∧ h.n.size ≤ 268435456 ∧ h.v.size ≤ 268435456 := by
    intro n r h q h9 hr
    unfold rdTxs at h9
    by_cases hn : 0 < n
    · rw [if_pos hn] at h9
      cases hx : (numd tab)[n - 1]? with
      | none => rw [hx] at h9; cases h9
      | some x =>
        rw [hx] at h9
        simp only at h9
        cases ht : rdTxt r with
        | none => rw [ht] at h9; cases h9
        | some vs =>
          obtain ⟨vl, s⟩ := vs
          rw [ht] at h9
          simp only [Option.some.injEq, Prod.mk.injEq] at h9
          obtain ⟨l1, l2⟩ := rdTxt_len ht
          rw [← h9.1, ← h9.2]
          have hm := hf x (List.mem_of_getElem? hx)
          refine ⟨l2, ?_, ?_⟩
          · show (ByteArray.mk x.n.data.toList.toArray).size ≤ _
            rw [ba_back]; omega
          · show vl.length ≤ _; omega
    · rw [if_neg hn] at h9
      cases ht : rdTxt r with
      | none => rw [ht] at h9; cases h9
      | some ns =>
        obtain ⟨nm, s⟩ := ns
        rw [ht] at h9
        simp only at h9
        obtain ⟨l1, l2⟩ := rdTxt_len ht
        cases hv : rdTxt s with
        | none => rw [hv] at h9; cases h9
        | some vs =>
          obtain ⟨vl, s2⟩ := vs
          rw [hv] at h9
          simp only [Option.some.injEq, Prod.mk.injEq] at h9
          obtain ⟨l3, l4⟩ := rdTxt_len hv
          rw [← h9.1, ← h9.2]
          exact ⟨by omega, by show nm.length ≤ _; omega, by show vl.length ≤ _; omega⟩
  cases l with
  | nil => simp [rdPair] at hq
  | cons c r =>
    simp only [List.length_cons] at hl ⊢
    simp only [rdPair] at hq
    split at hq
    · cases hc : rdCnt 7 c r with
      | none => rw [hc] at hq; cases hq
      | some nq =>
        obtain ⟨n, s⟩ := nq
        have := rdCnt_len hc
        rw [hc] at hq
        simp only at hq
        split at hq
        · cases hq
        · cases hx : (numd tab)[n - 1]? with
          | none => rw [hx] at hq; cases hq
          | some x =>
            rw [hx] at hq
            simp only [Option.some.injEq, Prod.mk.injEq] at hq
            have hm := hf x (List.mem_of_getElem? hx)
            rw [← hq.1, ← hq.2.2]
            exact ⟨by omega, by omega, by omega⟩
    · split at hq
      · cases hc : rdCnt 6 c r with
        | none => rw [hc] at hq; cases hq
        | some nq =>
          obtain ⟨n, s⟩ := nq
          have h1 := rdCnt_len hc
          rw [hc] at hq
          simp only at hq
          cases ht : rdTxs tab n s with
          | none => rw [ht] at hq; cases hq
          | some hs =>
            obtain ⟨x, z⟩ := hs
            rw [ht] at hq
            simp only [Option.some.injEq, Prod.mk.injEq] at hq
            have := htx n s x z ht (by omega)
            rw [← hq.1, ← hq.2.2]
            exact ⟨by omega, this.2⟩
      · split at hq
        · cases hc : rdCnt 4 c r with
          | none => rw [hc] at hq; cases hq
          | some nq =>
            obtain ⟨n, s⟩ := nq
            have h1 := rdCnt_len hc
            rw [hc] at hq
            simp only at hq
            cases ht : rdTxs tab n s with
            | none => rw [ht] at hq; cases hq
            | some hs =>
              obtain ⟨x, z⟩ := hs
              rw [ht] at hq
              simp only [Option.some.injEq, Prod.mk.injEq] at hq
              have := htx n s x z ht (by omega)
              rw [← hq.1, ← hq.2.2]
              exact ⟨by omega, this.2⟩
        · cases hq
end Go.Proofs.YtghongdbohjaaaaGreatDoor
/-
  Package blocks: Unpacker's takePair, where there is a pair: the walk.
-/
namespace Go.Proofs.YtghongdbohjaaaaGreatDoor
set_option linter.unusedVariables false
set_option linter.unusedSimpArgs false
open Go.RowKit

theorem numd_small {tab : List HP} (h : szT tab ≤ 256) : ∀ x ∈ numd tab, x.n.size ≤ 256 ∧ x.v.size ≤ 256 := by
  intro x hx
  unfold numd at hx
  rcases List.mem_append.1 hx with hx | hx
  · have : ∀ y ∈ fixed8, y.n.size ≤ 256 ∧ y.v.size ≤ 256 := by decide
    exact this x hx
  · have h1 := szT_mem (List.mem_reverse.1 hx)
    have h2 : tk x = x.n.size + x.v.size + 8 := rfl
    omega
theorem UnTo.set {w w1 : World} {ub : Nat} {cs cs' : Array Value} {tP : TypeId} {lim : Nat} {tv tv' : Value} {tab' : List HP} {sb : Nat} {rv rv' : Value} {l' : List UInt8} (h : UnTo w w1 ub cs cs' tP lim tv tv' tab' sb rv rv' l') {b o : Nat} (hb : w.heap.size ≤ b) (hub : ub < w.heap.size) (hsb : sb < w.heap.size) (hr : ∀ j, rv.ownBlock = some j → j < w.heap.size) (hne : tv'.ownBlock ≠ some b) (u : Value) : UnTo w (w1.setCell ⟨b, o, none⟩ u) ub cs cs' tP lim tv tv' tab' sb rv rv' l' := by
  have hc : Chg (fun j => j = b) w1 (w1.setCell ⟨b, o, none⟩ u) := (Chg.refl (fun j => j = b) w1).setCell (p := ⟨b, o, none⟩) (Or.inr rfl) _
  exact ⟨h.st.chg hc (by omega) (fun j hj e => hne (e ▸ hj)), h.cs3, h.sr.chg hc (by omega) (fun j hj e => by have := hr j (h.own j hj); omega), h.chg.trans (hc.mono fun j _ e => Or.inl (by omega)), h.tfresh, h.own⟩

theorem box_free {w w' : World} {b : Nat} {x y : Value} {t : TypeId} (hx : w.heap[b]? = some (.cells #[x, y] t (0, 0))) (hb : Below w.heap.size w w') : w'.cell? ⟨b, 0, none⟩ = some x ∧ w'.cell? ⟨b, 1, none⟩ = some y ∧ w'.frozen? ⟨b, 0, none⟩ = false ∧ w'.frozen? ⟨b, 1, none⟩ = false := by
  have h2 : w'.heap[b]? = some (.cells #[x, y] t (0, 0)) := by rw [hb.block _ (lt_of_block hx)]; exact hx
  refine ⟨by rw [cell_of_row _ _ _ _ _ _ h2]; rfl, by rw [cell_of_row _ _ _ _ _ _ h2]; rfl, by simp [World.frozen?, h2], by simp [World.frozen?, h2]⟩
theorem num_after {w w2 w3 : World} {ub : Nat} {cs : Array Value} {tP : TypeId} {lim : Nat} {tv : Value} {tab : List HP} {sb : Nat} {rv rv1 rv3 : Value} {r q : List UInt8} {o : Obj} (hg : Gl w2) (hx : w2.heap[w.heap.size]? = some o) (hs : SrTo w w2 sb rv rv1 r) (h3 : SrTo w2.drew w3 sb rv1 rv3 q) (hsb : 7 ≤ sb) (hsl : sb < w.heap.size) (ht : TbS w ub cs tP lim tv tab) (ha : Apart ub sb tv rv) :
    Gl w3 ∧ UnTo w w3 ub cs cs tP lim tv tv tab sb rv rv3 q ∧ w3.heap[w.heap.size]? = some o := by
  have hc : Chg (fun j => j = sb) w2 w3 := ((Chg.refl (fun j => j = sb) w2).drew).trans (h3.chg.mono fun j _ e => Or.inr e)
  refine ⟨hg.sr hc hsb, ((hs.trans ⟨h3.st, hc, h3.own⟩).un ht ha), ?_⟩
  rw [hc.block _ (lt_of_block hx) (by omega)]; exact hx

theorem txs_after {w w3 w4 : World} {ub : Nat} {cs : Array Value} {tP : TypeId} {lim : Nat} {tv : Value} {tab : List HP} {sb : Nat} {rv rv3 rv4 : Value} {s q : List UInt8} {o : Obj} (hx : w3.heap[w.heap.size]? = some o) (hs : UnTo w w3 ub cs cs tP lim tv tv tab sb rv rv3 s) (h4 : SrTo w3 w4 sb rv3 rv4 q) (hsl : sb < w.heap.size) (ht : TbS w ub cs tP lim tv tab) (ha : Apart ub sb tv rv) :
    w4.heap[w.heap.size]? = some o ∧ UnTo w w4 ub cs cs tP lim tv tv tab sb rv rv4 q := by
  refine ⟨?_, ?_⟩
  · rw [h4.chg.block _ (lt_of_block hx) (by omega)]; exact hx
  · have ha3 : Apart ub sb tv rv3 := ⟨ha.us, ha.ts, fun e => ha.ru (hs.own _ e), fun j hj => ha.rt j (hs.own j hj)⟩
    have h5 := h4.un hs.st ha3
    exact ⟨h5.st, fun _ _ => rfl, h5.sr, hs.chg.trans (h5.chg.mono fun j _ e => Or.inr e), fun _ e => Or.inl e, fun j hj => hs.own j (h4.own j hj)⟩
theorem Chg.drop_drew {S : Nat → Prop} {w w' : World} (h : Chg S w w') : Chg S w.drew w' := ⟨h.os, h.tape, h.output, h.size, h.block⟩

theorem add_after {w wb w6 : World} {ub : Nat} {cs cs6 : Array Value} {tP : TypeId} {lim : Nat} {tv tv6 : Value} {tab tab6 : List HP} {sb : Nat} {rv rvb : Value} {q : List UInt8} {o o2 : Obj} (hx : wb.heap[w.heap.size]? = some o) (hu : UnTo w wb ub cs cs tP lim tv tv tab sb rv rvb q) (h6 : TbTo (wb.alloc o2).drew w6 ub cs cs6 tP lim tv tv6 tab6) (hub : ub < w.heap.size) (htl : tv.ownBlock ≠ some w.heap.size) (ht : TbS w ub cs tP lim tv tab) (ha : Apart ub sb tv rv) :
    w6.heap[w.heap.size]? = some o ∧ w6.heap[wb.heap.size]? = some o2 ∧ UnTo w w6 ub cs cs6 tP lim tv tv6 tab6 sb rv rvb q ∧ tv6.ownBlock ≠ some w.heap.size := by
  have hsz := hu.chg.size
  have hx0 := lt_of_block hx
  have hc : Chg (TouchT ub tv) wb w6 := (((Chg.refl _ wb).alloc o2).drew).trans (h6.chg.mono fun j _ e => Or.inr e)
  have hs2 : (wb.alloc o2).drew.heap.size = wb.heap.size + 1 := by simp
  refine ⟨?_, ?_, ?_, ?_⟩
  · rw [hc.block _ hx0 (by rintro (e | e); omega; exact htl e)]; exact hx
  · rw [h6.chg.block wb.heap.size (by omega) ?_]
    · exact heap_alloc_new wb o2
    · rintro (e | e)
      · omega
      · have := owns_lt ht.row e; omega
  · have ha3 : Apart ub sb tv rvb := ⟨ha.us, ha.ts, fun e => ha.ru (hu.own _ e), fun j hj => ha.rt j (hu.own j hj)⟩
    exact hu.turn ⟨h6.st, h6.cs3, hc, fun j hj => (h6.own j hj).imp_right fun e => by omega⟩ ha3
  · intro e
    rcases h6.own _ e with a | a
    · exact htl a
    · omega

set_option maxRecDepth 100000 in
set_option maxHeartbeats 800000 in
theorem takePair_num (ub : Nat) (cs : Array Value) (tP : TypeId) (lim : Nat) (tv : Value) (tab : List HP) (sb : Nat) (rv : Value) (c : UInt8) (r : List UInt8) (n : Nat) (h : HP) (q : List UInt8) (w : World) (hgl : Gl w) (ht : TbS w ub cs tP lim tv tab) (hs : SrS w sb rv (c :: r)) (ha : Apart ub sb tv rv) (hl : (c :: r).length ≤ 134217728) (hsb : 7 ≤ sb)
    (hc : 128 ≤ c.toNat) (hcnt : rdCnt 7 c r = some (n, q)) (hn : n ≠ 0) (hx : (numd tab)[n - 1]? = some h) :
    Calls Tryz.prog 150 #[.pointer (some ⟨ub, 0, none⟩), .pointer (some ⟨sb, 0, none⟩)] w fun e w' => e = .returned (.agg #[.string h.n, .string h.v]) ∧ ∃ cs' tv' rv', UnTo w w' ub cs cs' tP lim tv tv' tab sb rv rv' q := by
  have hc8 : c.toNat ≤ 255 := Nat.le_of_lt_succ c.toNat_lt
  have hbA : Below w.heap.size w (w.alloc (.cells #[.string ⟨#[]⟩, .string ⟨#[]⟩] 62)) := (Below.refl _ _).alloc (Nat.le_refl _) _
  have hbox := heap_alloc_new w (.cells #[.string ⟨#[]⟩, .string ⟨#[]⟩] 62)
  have htk := stake_ok sb rv c r _ (hs.below hbA) (by omega)
  have hub := lt_of_block ht.tb.blk
  have hsl := lt_of_block hs.blk
  have hrl : ∀ j, rv.ownBlock = some j → j < w.heap.size := fun j hj => hs.bytes.lt hj
  have htl : tv.ownBlock ≠ some w.heap.size := fun e => by have := owns_lt ht.row e; omega
  have HFB : Hid (∀ wx, Calls Tryz.prog 219 #[fm 128 7, .int .u8 c.toNat] wx fun e w' => e = .returned (.bool true) ∧ Below wx.heap.size wx w') := fun wx => by
    have := fbegins_any 128 7 c wx (by decide)
    rwa [show decide (c.toNat / 2 ^ 7 = 128 / 2 ^ 7) = true from by simp; omega] at this
  have HCN : Hid (∀ rv' wx, SrS wx sb rv' r → Calls Tryz.prog 220 #[.pointer (some ⟨sb, 0, none⟩), .int .u8 c.toNat, fm 128 7] wx fun e w' => ∃ rv'', e = .returned (.int .i64 (n : Int)) ∧ SrTo wx w' sb rv' rv'' q) := fun rv' wx hh => by
    refine (takeCount_any sb rv' r c 128 7 wx hh (by decide) (by simp only [List.length_cons] at hl; omega)).mono ?_
    rintro e w' (⟨N, r', rv'', e1, _, e2, e3⟩ | ⟨e1, _⟩)
    · rw [hcnt] at e1
      simp only [Option.some.injEq, Prod.mk.injEq] at e1
      rw [e1.1, e1.2]
      exact ⟨rv'', e2, e3⟩
    · rw [hcnt] at e1; cases e1
  have HPA := hide (fun wx hg hh => pair_any ub cs tP lim tv tab n h wx hg hh (by omega) hx)
  have HTK := hide htk
  have HBA := hide hbA
  have HBX := hide hbox
  have HG := hide hgl
  have HT := hide ht
  have HA := hide ha
  have HRL := hide hrl
  have HTL := hide htl
  clear htk hbA hbox hgl ht hs ha hrl htl hx hn hcnt
  generalize c.toNat = x at *
  go_enter Tryz.func150, Tryz.ntmps150
  go_wp2_with fail
  refine HTK.out.mono ?_
  rintro e w1 ⟨rv1, rfl, hs1⟩
  have hg1 := (HG.out.below HBA.out).sr hs1.chg hsb
  have hx1 : w1.heap[w.heap.size]? = some (.cells #[.string ⟨#[]⟩, .string ⟨#[]⟩] 62 (0, 0)) := by rw [hs1.chg.block _ (lt_of_block HBX.out) (by omega)]; exact HBX.out
  have hs1' : SrTo w w1 sb rv rv1 r := SrTo.before HBA.out hs1
  obtain ⟨g0, g1⟩ := hg1.num
  have HG1 := hide hg1
  have HX1 := hide hx1
  have HS1 := hide hs1'
  clear hs1 hs1' hg1 hx1
  go_wp2_with fail
  refine (HFB.out _).mono ?_
  rintro e w2 ⟨rfl, hb2⟩
  have hg2 := HG1.out.below hb2
  have hx2 : w2.heap[w.heap.size]? = some (.cells #[.string ⟨#[]⟩, .string ⟨#[]⟩] 62 (0, 0)) := by rw [hb2.block _ (lt_of_block HX1.out)]; exact HX1.out
  have hs2 := HS1.out.below hb2
  obtain ⟨g0, g1⟩ := hg2.num
  have HG2 := hide hg2
  have HX2 := hide hx2
  have HS2 := hide hs2
  clear hb2 hg2 hx2 hs2
  have hsd : SrS w2.drew sb rv1 r := HS2.out.st.chg ((Chg.refl (fun _ => False) _).drew) id (fun _ _ => id)
  have hcn := HCN.out rv1 w2.drew hsd
  have HCD := hide hcn
  clear hsd hcn
  go_wp2
  go_region_law (first
    | (refine step_call rfl 220 Tryz.f220 Tryz.func220 (by kernel_rfl) rfl [.tmp 16, .tmp 17, .tmp 18] #[299, 5, 287] rfl [.pointer (some ⟨sb, 0, none⟩), .int .u8 (x : Int), fm 128 7] (by simp [Act.eval, Act.put, fm]) HCD.out ?_; rintro e w3 ⟨rv3, rfl, hs3⟩; refine ⟨_, rfl, ?_⟩; have HW3 := hide (num_after HG2.out HX2.out HS2.out hs3 hsb hsl HT.out HA.out); clear hs3)
    | (refine step_call rfl 222 Tryz.f222 Tryz.func222 (by kernel_rfl) rfl [.tmp 15, .tmp 19] #[172, 3] rfl [.pointer (some ⟨ub, 0, none⟩), .int .i64 (n : Int)] (by simp [Act.eval, Act.put]) (HPA.out w3 HW3.out.1 HW3.out.2.1.st) ?_; rintro e w4 ⟨rfl, hb4⟩; refine ⟨_, rfl, ?_⟩; obtain ⟨k0, k1, k2, k3⟩ := box_free HW3.out.2.2 hb4; have HU4 := hide (HW3.out.2.1.below hb4); clear hb4))
  all_goals go_wp2
  all_goals refine bodyPost_ret (v := .agg #[.string h.n, .string h.v]) ?_ rfl ⟨rfl, cs, tv, rv3, ?_⟩
  all_goals first
    | (simp [results, Tryz.results150, go_sem, k0, k1]; done)
    | exact (HU4.out.set (by omega) hub hsl HRL.out HTL.out _).set (by omega) hub hsl HRL.out HTL.out _

set_option maxRecDepth 100000 in
set_option maxHeartbeats 800000 in
theorem takePair_not (ub : Nat) (cs : Array Value) (tP : TypeId) (lim : Nat) (tv : Value) (tab : List HP) (sb : Nat) (rv : Value) (c : UInt8) (r : List UInt8) (n : Nat) (s : List UInt8) (h : HP) (q : List UInt8) (w : World) (hgl : Gl w) (ht : TbS w ub cs tP lim tv tab) (hs : SrS w sb rv (c :: r)) (ha : Apart ub sb tv rv) (hl : (c :: r).length ≤ 134217728) (hsb : 7 ≤ sb)
    (hc : c.toNat < 16) (hcnt : rdCnt 4 c r = some (n, s)) (hx : rdTxs tab n s = some (h, q)) (hhn : h.n.size ≤ 268435456) (hhv : h.v.size ≤ 268435456) :
    Calls Tryz.prog 150 #[.pointer (some ⟨ub, 0, none⟩), .pointer (some ⟨sb, 0, none⟩)] w fun e w' => e = .returned (.agg #[.string h.n, .string h.v]) ∧ ∃ cs' tv' rv', UnTo w w' ub cs cs' tP lim tv tv' tab sb rv rv' q := by
  have hc8 : c.toNat ≤ 255 := Nat.le_of_lt_succ c.toNat_lt
  have hbA : Below w.heap.size w (w.alloc (.cells #[.string ⟨#[]⟩, .string ⟨#[]⟩] 62)) := (Below.refl _ _).alloc (Nat.le_refl _) _
  have hbox := heap_alloc_new w (.cells #[.string ⟨#[]⟩, .string ⟨#[]⟩] 62)
  have htk := stake_ok sb rv c r _ (hs.below hbA) (by omega)
  have hub := lt_of_block ht.tb.blk
  have hsl := lt_of_block hs.blk
  have hrl : ∀ j, rv.ownBlock = some j → j < w.heap.size := fun j hj => hs.bytes.lt hj
  have htl : tv.ownBlock ≠ some w.heap.size := fun e => by have := owns_lt ht.row e; omega
  have HF7 : Hid (∀ wx, Calls Tryz.prog 219 #[fm 128 7, .int .u8 c.toNat] wx fun e w' => e = .returned (.bool false) ∧ Below wx.heap.size wx w') := fun wx => by
    have := fbegins_any 128 7 c wx (by decide)
    rwa [show decide (c.toNat / 2 ^ 7 = 128 / 2 ^ 7) = false from by simp; omega] at this
  have HF6 : Hid (∀ wx, Calls Tryz.prog 219 #[fm 64 6, .int .u8 c.toNat] wx fun e w' => e = .returned (.bool false) ∧ Below wx.heap.size wx w') := fun wx => by
    have := fbegins_any 64 6 c wx (by decide)
    rwa [show decide (c.toNat / 2 ^ 6 = 64 / 2 ^ 6) = false from by simp; omega] at this
  have HF4 : Hid (∀ wx, Calls Tryz.prog 219 #[fm 0 4, .int .u8 c.toNat] wx fun e w' => e = .returned (.bool true) ∧ Below wx.heap.size wx w') := fun wx => by
    have := fbegins_any 0 4 c wx (by decide)
    rwa [show decide (c.toNat / 2 ^ 4 = 0 / 2 ^ 4) = true from by simp; omega] at this
  have hsq := rdCnt_len hcnt
  simp only [List.length_cons] at hl
  have hnN : n ≤ 8388608 ∨ True := Or.inr trivial
  have HCN : Hid (∀ rv' wx, SrS wx sb rv' r → Calls Tryz.prog 220 #[.pointer (some ⟨sb, 0, none⟩), .int .u8 c.toNat, fm 0 4] wx fun e w' => ∃ rv'', n ≤ 8388608 ∧ e = .returned (.int .i64 (n : Int)) ∧ SrTo wx w' sb rv' rv'' s) := fun rv' wx hh => by
    refine (takeCount_any sb rv' r c 0 4 wx hh (by decide) (by omega)).mono ?_
    rintro e w' (⟨N, r', rv'', e1, e0, e2, e3⟩ | ⟨e1, _⟩)
    · rw [hcnt] at e1
      simp only [Option.some.injEq, Prod.mk.injEq] at e1
      rw [e1.1, e1.2]
      exact ⟨rv'', e0, e2, e3⟩
    · rw [hcnt] at e1; cases e1
  have HTX : Hid (∀ rv' wx, Gl wx → TbS wx ub cs tP lim tv tab → SrS wx sb rv' s → n ≤ 8388608 → Calls Tryz.prog 223 #[.pointer (some ⟨ub, 0, none⟩), .pointer (some ⟨sb, 0, none⟩), .int .i64 n] wx fun e w' => ∃ rv'', e = .returned (.agg #[.string h.n, .string h.v]) ∧ SrTo wx w' sb rv' rv'' q) := fun rv' wx hg hh1 hh hn9 => by
    refine (takeTexts_any ub cs tP lim tv tab sb rv' s n wx hg hh1 hh (by omega) hsb (by omega)).mono ?_
    rintro e w' (⟨h', r', rv'', e1, e2, e3⟩ | ⟨e1, _⟩)
    · rw [hx] at e1
      simp only [Option.some.injEq, Prod.mk.injEq] at e1
      rw [e1.1, e1.2]
      exact ⟨rv'', e2, e3⟩
    · rw [hx] at e1; cases e1
  have HTK := hide htk
  have HBA := hide hbA
  have HBX := hide hbox
  have HG := hide hgl
  have HT := hide ht
  have HA := hide ha
  have HRL := hide hrl
  have HTL := hide htl
  clear htk hbA hbox hgl ht hs ha hrl htl hx hcnt hnN
  generalize c.toNat = x at *
  go_enter Tryz.func150, Tryz.ntmps150
  go_wp2_with fail
  refine HTK.out.mono ?_
  rintro e w1 ⟨rv1, rfl, hs1⟩
  have hg1 := (HG.out.below HBA.out).sr hs1.chg hsb
  have hx1 : w1.heap[w.heap.size]? = some (.cells #[.string ⟨#[]⟩, .string ⟨#[]⟩] 62 (0, 0)) := by rw [hs1.chg.block _ (lt_of_block HBX.out) (by omega)]; exact HBX.out
  have hs1' : SrTo w w1 sb rv rv1 r := SrTo.before HBA.out hs1
  obtain ⟨g0, g1⟩ := hg1.num
  have HG1 := hide hg1
  have HX1 := hide hx1
  have HS1 := hide hs1'
  clear hs1 hs1' hg1 hx1
  go_wp2_with fail
  refine (HF7.out _).mono ?_
  rintro e w2 ⟨rfl, hb⟩
  have hg := HG1.out.below hb
  have hx : w2.heap[w.heap.size]? = some (.cells #[.string ⟨#[]⟩, .string ⟨#[]⟩] 62 (0, 0)) := by rw [hb.block _ (lt_of_block HX1.out)]; exact HX1.out
  have hs := HS1.out.below hb
  clear g0 g1
  obtain ⟨g0, g1⟩ := hg.add
  have HG2 := hide hg
  have HX2 := hide hx
  have HS2 := hide hs
  clear hb hg hx hs
  go_wp2_with fail
  refine (HF6.out _).mono ?_
  rintro e w3 ⟨rfl, hb⟩
  have hg := HG2.out.below hb
  have hx : w3.heap[w.heap.size]? = some (.cells #[.string ⟨#[]⟩, .string ⟨#[]⟩] 62 (0, 0)) := by rw [hb.block _ (lt_of_block HX2.out)]; exact HX2.out
  have hs := HS2.out.below hb
  clear g0 g1
  obtain ⟨g0, g1⟩ := hg.nta
  have HG3 := hide hg
  have HX3 := hide hx
  have HS3 := hide hs
  clear hb hg hx hs
  go_wp2_with fail
  refine (HF4.out _).mono ?_
  rintro e w4 ⟨rfl, hb⟩
  have hg := HG3.out.below hb
  have hx : w4.heap[w.heap.size]? = some (.cells #[.string ⟨#[]⟩, .string ⟨#[]⟩] 62 (0, 0)) := by rw [hb.block _ (lt_of_block HX3.out)]; exact HX3.out
  have hs := HS3.out.below hb
  clear g0 g1
  obtain ⟨g0, g1⟩ := hg.nta
  have HG4 := hide hg
  have HX4 := hide hx
  have HS4 := hide hs
  clear hb hg hx hs
  go_wp2_with fail
  refine (HCN.out rv1 _ HS4.out.st).mono ?_
  rintro e wa ⟨rva, hn9, rfl, hsa⟩
  obtain ⟨hga, hua, hxa⟩ := num_after (w3 := wa) HG4.out HX4.out HS4.out ⟨hsa.st, hsa.chg.drop_drew, hsa.own⟩ hsb hsl HT.out HA.out
  have hta := HTX.out rva wa hga hua.st hua.sr hn9
  have HTT := hide hta
  have HUA := hide hua
  have HXA := hide hxa
  have HGA := hide hga
  clear hsa hga hua hxa hta g0 g1
  go_wp2_with fail
  refine HTT.out.mono ?_
  rintro e wb ⟨rvb, rfl, hsb9⟩
  obtain ⟨hxb, hub9⟩ := txs_after HXA.out HUA.out hsb9 hsl HT.out HA.out
  obtain ⟨k0, k1, k2, k3⟩ := box_free hxb (Below.refl _ _)
  have HUB := hide hub9
  have HXB := hide hxb
  clear hsb9 hub9 hxb
  go_wp2
  refine bodyPost_ret (v := .agg #[.string h.n, .string h.v]) ?_ rfl ⟨rfl, cs, tv, rvb, ?_⟩
  · simp [results, Tryz.results150, go_sem, k0, k1]
  · exact (HUB.out.set (by omega) hub hsl HRL.out HTL.out _).set (by omega) hub hsl HRL.out HTL.out _

set_option maxRecDepth 100000 in
set_option maxHeartbeats 800000 in
theorem takePair_add (ub : Nat) (cs : Array Value) (tP : TypeId) (lim : Nat) (tv : Value) (tab : List HP) (sb : Nat) (rv : Value) (c : UInt8) (r : List UInt8) (n : Nat) (s : List UInt8) (h : HP) (q : List UInt8) (w : World) (hgl : Gl w) (ht : TbS w ub cs tP lim tv tab) (hs : SrS w sb rv (c :: r)) (ha : Apart ub sb tv rv) (hl : (c :: r).length ≤ 134217728) (hsb : 7 ≤ sb)
    (hc : 64 ≤ c.toNat) (hc2 : c.toNat < 128) (hcnt : rdCnt 6 c r = some (n, s)) (hx : rdTxs tab n s = some (h, q)) (hhn : h.n.size ≤ 268435456) (hhv : h.v.size ≤ 268435456) :
    Calls Tryz.prog 150 #[.pointer (some ⟨ub, 0, none⟩), .pointer (some ⟨sb, 0, none⟩)] w fun e w' => e = .returned (.agg #[.string h.n, .string h.v]) ∧ ∃ cs' tv' rv', UnTo w w' ub cs cs' tP lim tv tv' (addT tab lim h) sb rv rv' q := by
  have hc8 : c.toNat ≤ 255 := Nat.le_of_lt_succ c.toNat_lt
  have hbA : Below w.heap.size w (w.alloc (.cells #[.string ⟨#[]⟩, .string ⟨#[]⟩] 62)) := (Below.refl _ _).alloc (Nat.le_refl _) _
  have hbox := heap_alloc_new w (.cells #[.string ⟨#[]⟩, .string ⟨#[]⟩] 62)
  have htk := stake_ok sb rv c r _ (hs.below hbA) (by omega)
  have hub := lt_of_block ht.tb.blk
  have hsl := lt_of_block hs.blk
  have hrl : ∀ j, rv.ownBlock = some j → j < w.heap.size := fun j hj => hs.bytes.lt hj
  have htl : tv.ownBlock ≠ some w.heap.size := fun e => by have := owns_lt ht.row e; omega
  have HF7 : Hid (∀ wx, Calls Tryz.prog 219 #[fm 128 7, .int .u8 c.toNat] wx fun e w' => e = .returned (.bool false) ∧ Below wx.heap.size wx w') := fun wx => by
    have := fbegins_any 128 7 c wx (by decide)
    rwa [show decide (c.toNat / 2 ^ 7 = 128 / 2 ^ 7) = false from by simp; omega] at this
  have HF6 : Hid (∀ wx, Calls Tryz.prog 219 #[fm 64 6, .int .u8 c.toNat] wx fun e w' => e = .returned (.bool true) ∧ Below wx.heap.size wx w') := fun wx => by
    have := fbegins_any 64 6 c wx (by decide)
    rwa [show decide (c.toNat / 2 ^ 6 = 64 / 2 ^ 6) = true from by simp; omega] at this
  have hsq := rdCnt_len hcnt
  simp only [List.length_cons] at hl
  have hnN : n ≤ 8388608 ∨ True := Or.inr trivial
  have HCN : Hid (∀ rv' wx, SrS wx sb rv' r → Calls Tryz.prog 220 #[.pointer (some ⟨sb, 0, none⟩), .int .u8 c.toNat, fm 64 6] wx fun e w' => ∃ rv'', n ≤ 8388608 ∧ e = .returned (.int .i64 (n : Int)) ∧ SrTo wx w' sb rv' rv'' s) := fun rv' wx hh => by
    refine (takeCount_any sb rv' r c 64 6 wx hh (by decide) (by omega)).mono ?_
    rintro e w' (⟨N, r', rv'', e1, e0, e2, e3⟩ | ⟨e1, _⟩)
    · rw [hcnt] at e1
      simp only [Option.some.injEq, Prod.mk.injEq] at e1
      rw [e1.1, e1.2]
      exact ⟨rv'', e0, e2, e3⟩
    · rw [hcnt] at e1; cases e1
  have HTX : Hid (∀ rv' wx, Gl wx → TbS wx ub cs tP lim tv tab → SrS wx sb rv' s → n ≤ 8388608 → Calls Tryz.prog 223 #[.pointer (some ⟨ub, 0, none⟩), .pointer (some ⟨sb, 0, none⟩), .int .i64 n] wx fun e w' => ∃ rv'', e = .returned (.agg #[.string h.n, .string h.v]) ∧ SrTo wx w' sb rv' rv'' q) := fun rv' wx hg hh1 hh hn9 => by
    refine (takeTexts_any ub cs tP lim tv tab sb rv' s n wx hg hh1 hh (by omega) hsb (by omega)).mono ?_
    rintro e w' (⟨h', r', rv'', e1, e2, e3⟩ | ⟨e1, _⟩)
    · rw [hx] at e1
      simp only [Option.some.injEq, Prod.mk.injEq] at e1
      rw [e1.1, e1.2]
      exact ⟨rv'', e2, e3⟩
    · rw [hx] at e1; cases e1
  have HTK := hide htk
  have HBA := hide hbA
  have HBX := hide hbox
  have HG := hide hgl
  have HT := hide ht
  have HA := hide ha
  have HRL := hide hrl
  have HTL := hide htl
  have HAD := hide (fun wx hh => add_any ub cs tP lim tv tab h wx hh hhn hhv)
  clear htk hbA hbox hgl ht hs ha hrl htl hx hcnt hnN
  generalize c.toNat = x at *
  go_enter Tryz.func150, Tryz.ntmps150
  go_wp2_with fail
  refine HTK.out.mono ?_
  rintro e w1 ⟨rv1, rfl, hs1⟩
  have hg1 := (HG.out.below HBA.out).sr hs1.chg hsb
  have hx1 : w1.heap[w.heap.size]? = some (.cells #[.string ⟨#[]⟩, .string ⟨#[]⟩] 62 (0, 0)) := by rw [hs1.chg.block _ (lt_of_block HBX.out) (by omega)]; exact HBX.out
  have hs1' : SrTo w w1 sb rv rv1 r := SrTo.before HBA.out hs1
  obtain ⟨g0, g1⟩ := hg1.num
  have HG1 := hide hg1
  have HX1 := hide hx1
  have HS1 := hide hs1'
  clear hs1 hs1' hg1 hx1
  go_wp2_with fail
  refine (HF7.out _).mono ?_
  rintro e w2 ⟨rfl, hb⟩
  have hg := HG1.out.below hb
  have hx : w2.heap[w.heap.size]? = some (.cells #[.string ⟨#[]⟩, .string ⟨#[]⟩] 62 (0, 0)) := by rw [hb.block _ (lt_of_block HX1.out)]; exact HX1.out
  have hs := HS1.out.below hb
  clear g0 g1
  obtain ⟨g0, g1⟩ := hg.add
  have HG2 := hide hg
  have HX2 := hide hx
  have HS2 := hide hs
  clear hb hg hx hs
  go_wp2_with fail
  refine (HF6.out _).mono ?_
  rintro e w3 ⟨rfl, hb⟩
  have hg := HG2.out.below hb
  have hx : w3.heap[w.heap.size]? = some (.cells #[.string ⟨#[]⟩, .string ⟨#[]⟩] 62 (0, 0)) := by rw [hb.block _ (lt_of_block HX2.out)]; exact HX2.out
  have hs := HS2.out.below hb
  clear g0 g1
  obtain ⟨g0, g1⟩ := hg.add
  have HG3 := hide hg
  have HX3 := hide hx
  have HS3 := hide hs
  clear hb hg hx hs
  go_wp2_with fail
  refine (HCN.out rv1 _ HS3.out.st).mono ?_
  rintro e wa ⟨rva, hn9, rfl, hsa⟩
  obtain ⟨hga, hua, hxa⟩ := num_after (w3 := wa) HG3.out HX3.out HS3.out ⟨hsa.st, hsa.chg.drop_drew, hsa.own⟩ hsb hsl HT.out HA.out
  have hta := HTX.out rva wa hga hua.st hua.sr hn9
  have HTT := hide hta
  have HUA := hide hua
  have HXA := hide hxa
  have HGA := hide hga
  clear hsa hga hua hxa hta g0 g1
  go_wp2_with fail
  refine HTT.out.mono ?_
  rintro e wb ⟨rvb, rfl, hsb9⟩
  obtain ⟨hxb, hub9⟩ := txs_after HXA.out HUA.out hsb9 hsl HT.out HA.out
  obtain ⟨k0, k1, k2, k3⟩ := box_free hxb (Below.refl _ _)
  have HUB := hide hub9
  have HXB := hide hxb
  clear hsb9 hub9 hxb
  have htd : TbS (wb.alloc (.cells #[.string h.n, .string h.v] 62)).drew ub cs tP lim tv tab := HUB.out.st.chg (((Chg.refl (fun _ => False) wb).alloc _).drew) id (fun _ _ => id)
  have had := HAD.out _ htd
  have HAA := hide had
  clear htd had
  go_wp2
  go_region_law (refine step_call rfl 215 Tryz.f215 Tryz.func215 (by kernel_rfl) rfl [.tmp 34, .tmp 35] #[172, 62] rfl [.pointer (some ⟨ub, 0, none⟩), .agg #[.string h.n, .string h.v]] (by simp [Act.eval, Act.put]) HAA.out ?_; rintro e w6 ⟨rfl, cs6, tv6, h6⟩; refine ⟨_, rfl, ?_⟩; obtain ⟨m1, m2, m3, m4⟩ := add_after HXB.out HUB.out h6 hub HTL.out HT.out HA.out; obtain ⟨k0, k1, k2, k3⟩ := box_free m1 (Below.refl _ _); obtain ⟨j0, j1, j2, j3⟩ := box_free m2 (Below.refl _ _); have HM3 := hide m3; have HM4 := hide m4; clear h6 m1 m2 m3 m4)
  all_goals go_wp2
  all_goals refine bodyPost_ret (v := .agg #[.string h.n, .string h.v]) ?_ rfl ⟨rfl, cs6, tv6, rvb, ?_⟩
  all_goals first
    | (simp [results, Tryz.results150, go_sem, k0, k1]; done)
    | exact (HM3.out.set (by omega) hub hsl HRL.out HM4.out _).set (by omega) hub hsl HRL.out HM4.out _

/-- Behind takePair, where there is a pair. -/
theorem takePair_ok (ub : Nat) (cs : Array Value) (tP : TypeId) (lim : Nat) (tv : Value) (tab : List HP) (sb : Nat) (rv : Value) (l : List UInt8) (h : HP) (tab' : List HP) (q : List UInt8) (w : World) (hgl : Gl w) (ht : TbS w ub cs tP lim tv tab) (hs : SrS w sb rv l) (ha : Apart ub sb tv rv) (hl : l.length ≤ 134217728) (hsb : 7 ≤ sb) (hq : rdPair tab lim l = some (h, tab', q)) :
    Calls Tryz.prog 150 #[.pointer (some ⟨ub, 0, none⟩), .pointer (some ⟨sb, 0, none⟩)] w fun e w' => e = .returned (.agg #[.string h.n, .string h.v]) ∧ ∃ cs' tv' rv', UnTo w w' ub cs cs' tP lim tv tv' tab' sb rv rv' q := by
  obtain ⟨_, hhn, hhv⟩ := rdPair_len hq (numd_small (Nat.le_trans ht.fit ht.small)) hl
  cases l with
  | nil => simp [rdPair] at hq
  | cons c r =>
    simp only [rdPair] at hq
    split at hq
    · rename_i h1
      cases hc : rdCnt 7 c r with
      | none => rw [hc] at hq; cases hq
      | some nq =>
        obtain ⟨n, s⟩ := nq
        rw [hc] at hq
        simp only at hq
        split at hq
        · cases hq
        · rename_i hn
          cases hx : (numd tab)[n - 1]? with
          | none => rw [hx] at hq; cases hq
          | some x =>
            rw [hx] at hq
            simp only [Option.some.injEq, Prod.mk.injEq] at hq
            obtain ⟨rfl, rfl, rfl⟩ := hq
            exact takePair_num ub cs tP lim tv tab sb rv c r n x s w hgl ht hs ha hl hsb h1 hc hn hx
    · rename_i h1
      split at hq
      · rename_i h2
        cases hc : rdCnt 6 c r with
        | none => rw [hc] at hq; cases hq
        | some nq =>
          obtain ⟨n, s⟩ := nq
          rw [hc] at hq
          simp only at hq
          cases hx : rdTxs tab n s with
          | none => rw [hx] at hq; cases hq
          | some x =>
            obtain ⟨x, z⟩ := x
            rw [hx] at hq
            simp only [Option.some.injEq, Prod.mk.injEq] at hq
            obtain ⟨rfl, rfl, rfl⟩ := hq
            exact takePair_add ub cs tP lim tv tab sb rv c r n s x z w hgl ht hs ha hl hsb h2 (by omega) hc hx hhn hhv
      · split at hq
        · rename_i h3
          cases hc : rdCnt 4 c r with
          | none => rw [hc] at hq; cases hq
          | some nq =>
            obtain ⟨n, s⟩ := nq
            rw [hc] at hq
            simp only at hq
            cases hx : rdTxs tab n s with
            | none => rw [hx] at hq; cases hq
            | some x =>
              obtain ⟨x, z⟩ := x
              rw [hx] at hq
              simp only [Option.some.injEq, Prod.mk.injEq] at hq
              obtain ⟨rfl, rfl, rfl⟩ := hq
              exact takePair_not ub cs tP lim tv tab sb rv c r n s x z w hgl ht hs ha hl hsb h3 hc hx hhn hhv
        · cases hq
end Go.Proofs.YtghongdbohjaaaaGreatDoor
/-
  Package blocks: Unpacker's takeLimit, where there is a limit.
-/
namespace Go.Proofs.YtghongdbohjaaaaGreatDoor
set_option linter.unusedVariables false
set_option linter.unusedSimpArgs false
open Go.RowKit

theorem SrS.drew {w : World} {sb : Nat} {rv : Value} {l : List UInt8} (h : SrS w sb rv l) : SrS w.drew sb rv l := h.chg ((Chg.refl (fun _ => False) _).drew) id (fun _ _ => id)

set_option maxRecDepth 100000 in
set_option maxHeartbeats 800000 in
theorem takeLimit_ok (ub : Nat) (cs : Array Value) (tP : TypeId) (lim : Nat) (tv : Value) (tab : List HP) (most : Nat) (sb : Nat) (rv : Value) (c : UInt8) (r : List UInt8) (n : Nat) (q : List UInt8) (w : World) (hgl : Gl w) (ht : TbS w ub cs tP lim tv tab) (hm : cs[3]? = some (.int .i64 (most : Int))) (hs : SrS w sb rv (c :: r)) (ha : Apart ub sb tv rv) (hl : (c :: r).length ≤ 134217728) (hsb : 7 ≤ sb)
    (hcnt : rdCnt 5 c r = some (n, q)) (hn : n ≤ most) (hmo : most ≤ 256) :
    Calls Tryz.prog 148 #[.pointer (some ⟨ub, 0, none⟩), .pointer (some ⟨sb, 0, none⟩)] w fun e w' => e = .returned (.tuple #[]) ∧ ∃ cs' tv' rv', UnTo w w' ub cs cs' tP n tv tv' (shr tab n) sb rv rv' q := by
  simp only [List.length_cons] at hl
  have htk := stake_ok sb rv c r _ hs.drew (by simp only [List.length_cons]; omega)
  have HCN : Hid (∀ rv' wx, SrS wx sb rv' r → Calls Tryz.prog 220 #[.pointer (some ⟨sb, 0, none⟩), .int .u8 c.toNat, fm 32 5] wx fun e w' => ∃ rv'', e = .returned (.int .i64 (n : Int)) ∧ SrTo wx w' sb rv' rv'' q) := fun rv' wx hh => by
    refine (takeCount_any sb rv' r c 32 5 wx hh (by decide) (by omega)).mono ?_
    rintro e w' (⟨N, r', rv'', e1, _, e2, e3⟩ | ⟨e1, _⟩)
    · rw [hcnt] at e1
      simp only [Option.some.injEq, Prod.mk.injEq] at e1
      rw [e1.1, e1.2]
      exact ⟨rv'', e2, e3⟩
    · rw [hcnt] at e1; cases e1
  have HRS := hide (fun wx hh => tresize_any ub cs tP lim tv tab n wx hh (by omega))
  obtain ⟨g0, g1⟩ := hgl.lim
  have HTK := hide htk
  have HG := hide hgl
  have HT := hide ht
  have HA := hide ha
  have HM := hide hm
  have hd : decide ((most : Int) < (n : Int)) = false := by simp; omega
  clear htk hgl ht hs ha hcnt hm
  have hc8 : c.toNat ≤ 255 := Nat.le_of_lt_succ c.toNat_lt
  generalize c.toNat = x at *
  go_enter Tryz.func148, Tryz.ntmps148
  go_wp2
  go_cut [4] (fun s4 wx => s4 = .int .i64 (n : Int) ∧ ∃ rv2, SrTo w wx sb rv rv2 q)
  case first =>
    go_region_law (first
      | (refine step_call rfl 221 Tryz.f221 Tryz.func221 (by kernel_rfl) rfl [.tmp 6] #[299] rfl [.pointer (some ⟨sb, 0, none⟩)] (by simp [Act.eval, Act.put]) HTK.out ?_; rintro e w1 ⟨rv1, rfl, hs1⟩; refine ⟨_, rfl, ?_⟩; obtain ⟨g2, g3⟩ := (HG.out.sr (w' := w1) ⟨hs1.chg.os, hs1.chg.tape, hs1.chg.output, hs1.chg.size, hs1.chg.block⟩ hsb).lim; have HS1 := hide hs1; clear hs1)
      | (refine step_call rfl 220 Tryz.f220 Tryz.func220 (by kernel_rfl) rfl [.tmp 5, .tmp 7, .tmp 8] #[299, 5, 287] rfl [.pointer (some ⟨sb, 0, none⟩), .int .u8 (x : Int), fm 32 5] (by simp [Act.eval, Act.put, fm]) (HCN.out rv1 w1 HS1.out.st) ?_; rintro e w2 ⟨rv2, rfl, hs2⟩; refine ⟨_, rfl, ?_⟩; have HS2 := hide (HS1.out.trans hs2); clear hs2))
    all_goals (go_wp2_with fail; go_meet; exact ⟨rfl, rv2, HS2.out.st, ⟨HS2.out.chg.os, HS2.out.chg.tape, HS2.out.chg.output, HS2.out.chg.size, HS2.out.chg.block⟩, HS2.out.own⟩)
  case rest =>
    obtain ⟨rfl, rv2, hs2⟩ := hcut
    have hu2 := hs2.un HT.out HA.out
    have c3 : wc.cell? ⟨ub, 3, none⟩ = some (.int .i64 (most : Int)) := by rw [cell_of_row _ _ _ _ _ _ hu2.st.tb.blk]; exact HM.out
    have hrs := HRS.out wc hu2.st
    have HR := hide hrs
    have HU := hide hu2
    clear hs2 hu2 hrs g0 g1
    go_wp2_with fail
    refine HR.out.mono ?_
    rintro e w3 ⟨rfl, cs3, tv3, h3⟩
    have H3 := hide (HU.out.turn h3 ⟨HA.out.us, HA.out.ts, fun e => HA.out.ru (HU.out.own _ e), fun j hj => HA.out.rt j (HU.out.own j hj)⟩)
    clear h3
    go_wp2
    exact bodyPost_end (results_none rfl _ _ _) rfl ⟨rfl, cs3, tv3, rv2, H3.out⟩
end Go.Proofs.YtghongdbohjaaaaGreatDoor
/-
  Package blocks: Unpacker's Unpack, where there is a list.
-/
namespace Go.Proofs.YtghongdbohjaaaaGreatDoor
set_option linter.unusedVariables false
set_option linter.unusedSimpArgs false
open Go.RowKit

/-- The end of Unpack. -/
structure Unpd (w w' : World) (ub : Nat) (cs cs' : Array Value) (tP : TypeId) (lim : Nat) (tv tv' : Value) (tab : List HP) (lv : Value) (hs : List HP) : Prop where
  st : TbS w' ub cs' tP lim tv' tab
  cs3 : ∀ i, 3 ≤ i → cs'[i]? = cs[i]?
  chg : Chg (TouchT ub tv) w w'
  tfresh : ∀ j, tv'.ownBlock = some j → tv.ownBlock = some j ∨ w.heap.size ≤ j
  row : w'.ownsRow w.heap.size 62 2 lv hs.length (hpCells hs)
  ap : ∀ j, lv.ownBlock = some j → tv'.ownBlock ≠ some j

theorem rdPairs_cons {f : Nat} {acc tab : List HP} {lim : Nat} {c : UInt8} {r : List UInt8} {z : List HP × List HP} (h : rdPairs f acc tab lim (c :: r) = some z) :
    ∃ x tab2 q, rdPair tab lim (c :: r) = some (x, tab2, q) ∧ listB (acc ++ [x]) = true ∧ rdPairs (f - 1) (acc ++ [x]) tab2 lim q = some z := by
  cases f with
  | zero => simp [rdPairs] at h
  | succ f =>
    simp only [rdPairs] at h
    cases hp : rdPair tab lim (c :: r) with
    | none => rw [hp] at h; cases h
    | some y =>
      obtain ⟨x, tab2, q⟩ := y
      rw [hp] at h
      simp only at h
      split at h
      · rename_i hl
        exact ⟨x, tab2, q, rfl, hl, h⟩
      · cases h
theorem rdLims_cons {most f lim : Nat} {tab : List HP} {c : UInt8} {r : List UInt8} {z : Nat × List HP × List UInt8} (h : rdLims most (f + 1) lim tab (c :: r) = some z) (hc : c.toNat / 32 = 1) :
    ∃ n q, rdCnt 5 c r = some (n, q) ∧ n ≤ most ∧ rdLims most f n (shr tab n) q = some z := by
  simp only [rdLims] at h
  rw [if_pos hc] at h
  cases hp : rdCnt 5 c r with
  | none => rw [hp] at h; cases h
  | some y =>
    obtain ⟨n, q⟩ := y
    rw [hp] at h
    simp only at h
    split at h
    · cases h
    · exact ⟨n, q, rfl, by omega, h⟩

def lenV : Value → Nat
  | .slice _ n _ => n
  | _ => 0
theorem unp_chg {w w1 : World} {ub : Nat} {tv : Value} {o : Obj} (hb : Below w.heap.size w (w.alloc o)) (h : Chg (fun j => j = w.heap.size ∨ TouchT ub tv j) (w.alloc o) w1) : Chg (TouchT ub tv) w w1 :=
  (Chg.of_below hb).trans (h.mono fun j _ e => e.imp_left fun e => by omega)
theorem UnTo.side {S : Nat → Prop} {w w1 w2 : World} {ub : Nat} {cs cs' : Array Value} {tP : TypeId} {lim : Nat} {tv tv' : Value} {tab' : List HP} {sb : Nat} {rv rv' : Value} {l' : List UInt8} (h : UnTo w w1 ub cs cs' tP lim tv tv' tab' sb rv rv' l') (hc : Chg S w1 w2) (h1 : ∀ j, S j → w.heap.size ≤ j) (hub : ub < w.heap.size) (hsb : sb < w.heap.size) (hr : ∀ j, rv.ownBlock = some j → j < w.heap.size) (ht : ∀ j, tv'.ownBlock = some j → ¬ S j) : UnTo w w2 ub cs cs' tP lim tv tv' tab' sb rv rv' l' :=
  ⟨h.st.chg hc (fun e => by have := h1 _ e; omega) ht, h.cs3, h.sr.chg hc (fun e => by have := h1 _ e; omega) (fun j hj e => by have := h1 _ e; have := hr j (h.own j hj); omega), h.chg.trans (hc.mono fun j _ e => Or.inl (h1 j e)), h.tfresh, h.own⟩
/-- A pair is laid behind those that were read. -/
theorem unp_app {w w4 w5 : World} {ub : Nat} {cs cs4 : Array Value} {tP : TypeId} {lim : Nat} {lim0 : Nat} {tab0 : List HP} {tv tv4 : Value} {tab4 : List HP} {bv rv4 lv v5 : Value} {b q : List UInt8} {acc : List HP} {x : HP} {o : Obj} (hb : BytesIn w bv b) (ht : TbS w ub cs tP lim0 tv tab0) (hbA : Below w.heap.size w (w.alloc (.cells #[bv] 296)))
    (hu : UnTo (w.alloc (.cells #[bv] 296)) w4 ub cs cs4 tP lim tv tv4 tab4 w.heap.size bv rv4 q) (how : w4.ownsRow w.heap.size 62 2 lv acc.length (hpCells acc)) (hap : ∀ j, lv.ownBlock = some j → tv4.ownBlock ≠ some j)
    (hown : w5.ownsRow 0 62 2 v5 (acc.length + 1) (hpCells acc ++ hpCells [x])) (hg : (w4.alloc o).grownBy w5 lv.ownBlock) (hf : v5.ownBlock = lv.ownBlock ∨ v5.ownBlock = some (w4.heap.size + 1)) :
    UnTo (w.alloc (.cells #[bv] 296)) w5 ub cs cs4 tP lim tv tv4 tab4 w.heap.size bv rv4 q ∧ w5.ownsRow w.heap.size 62 2 v5 (acc ++ [x]).length (hpCells (acc ++ [x])) ∧ ∀ j, v5.ownBlock = some j → tv4.ownBlock ≠ some j := by
  have hc : Chg (fun j => lv.ownBlock = some j) w4 w5 := ((Chg.refl _ _).alloc _).trans (Chg.of_grown hg (fun j hj => Or.inr hj))
  have hsA : (w.alloc (.cells #[bv] 296)).heap.size = w.heap.size + 1 := by simp
  have hs4 := hu.chg.size
  have hub := ht.tb.lt
  refine ⟨hu.side hc (fun j hj => ?_) (by omega) (by omega) (fun j hj => by have := hb.lt hj; omega) (fun j hj e => hap j e hj), ?_, fun j hj e => ?_⟩
  · have h1 := (how.lt j hj).1
    have h2 : j ≠ w.heap.size := fun e => owns_ne how hu.sr.blk (by decide) (e ▸ hj)
    omega
  · rw [List.length_append, hpCells_append]
    refine owns_base hown (fun j hj => ?_)
    rcases hf with e | e
    · rw [e] at hj; exact (how.lt j hj).1
    · rw [e] at hj; simp at hj; omega
  · rcases hf with a | a
    · rw [a] at hj; exact hap j hj e
    · rw [a] at hj
      simp at hj
      have := owns_lt hu.st.row e
      omega

set_option maxRecDepth 100000 in
set_option maxHeartbeats 800000 in
theorem bUnpack_ok (ub : Nat) (cs : Array Value) (tP : TypeId) (lim : Nat) (tv : Value) (tab : List HP) (most : Nat) (bv : Value) (b : List UInt8) (hs : List HP) (lim' : Nat) (tab' : List HP) (w : World) (hgl : Gl w) (ht : TbS w ub cs tP lim tv tab) (hm : cs[3]? = some (.int .i64 (most : Int))) (hmo : most ≤ 256) (hb : BytesIn w bv b) (hbu : bv.ownBlock ≠ some ub) (hbt : ∀ j, bv.ownBlock = some j → tv.ownBlock ≠ some j) (hl : b.length ≤ 134217728) (hub : 7 ≤ ub) (htv : ∀ j, tv.ownBlock = some j → 7 ≤ j)
    (hts : tP ≠ 296) (hq : (Up.mk lim tab most).unpack b = some (hs, lim', tab')) :
    Calls Tryz.prog 88 #[.pointer (some ⟨ub, 0, none⟩), bv] w fun e w' => ∃ lv cs' tv', e = .returned lv ∧ Unpd w w' ub cs cs' tP lim' tv tv' tab' lv hs := by
  have hq2 : ∃ tab1 l1, rdLims most 2 lim tab b = some (lim', tab1, l1) ∧ rdPairs 9 [] tab1 lim' l1 = some (hs, tab') := by
    unfold Up.unpack at hq
    simp only at hq
    cases h1 : rdLims most 2 lim tab b with
    | none => rw [h1] at hq; cases hq
    | some x =>
      obtain ⟨lim1, tab1, r⟩ := x
      rw [h1] at hq
      simp only at hq
      cases h2 : rdPairs 9 [] tab1 lim1 r with
      | none => rw [h2] at hq; cases hq
      | some y =>
        obtain ⟨hs', tab''⟩ := y
        rw [h2] at hq
        simp only [Option.some.injEq, Prod.mk.injEq] at hq
        obtain ⟨rfl, rfl, rfl⟩ := hq
        exact ⟨tab1, r, rfl, h2⟩
  obtain ⟨tab1, l1, hlims, hpairs⟩ := hq2
  obtain ⟨i0, hi, hz0, hz1, hz2⟩ := info_parts Tryz.info62
  have hbA : Below w.heap.size w (w.alloc (.cells #[bv] 296)) := (Below.refl _ _).alloc (Nat.le_refl _) _
  have htl := ht.tb.lt
  have hsA : SrS (w.alloc (.cells #[bv] 296)) w.heap.size bv b := ⟨heap_alloc_new w _, hb.chg ((Chg.refl (fun _ => False) w).alloc _) (fun _ _ => id), fun e => by have := hb.lt e; omega⟩
  have haA : Apart ub w.heap.size tv bv := ⟨by omega, fun e => by have := owns_lt ht.row e; omega, hbu, hbt⟩
  have huA : UnTo (w.alloc (.cells #[bv] 296)) (w.alloc (.cells #[bv] 296)) ub cs cs tP lim tv tv tab w.heap.size bv bv b := ⟨ht.below hbA, fun _ _ => rfl, hsA, Chg.refl _ _, fun _ e => Or.inl e, fun _ e => e⟩
  have hgA := hgl.below hbA
  have hgs : 7 ≤ w.heap.size := hgl.lt
  obtain ⟨sv, cv, hv, _⟩ := bytesIn_len hb
  subst hv
  have HB := hide hb
  have HT := hide ht
  have HM := hide hm
  have HGA := hide hgA
  have HSA := hide hsA
  have HAA := hide haA
  have HUA := hide huA
  have HBA := hide hbA
  have HTV := hide htv
  have HLIMS := hide hlims
  have HPAIRS := hide hpairs
  clear hgl ht hm hb hbu hbt hsA haA huA hgA hbA htv hlims hpairs hq
  go_enter Tryz.func88, Tryz.ntmps88
  go_wp2
  go_loopw [6] (fun i wr => ∃ (j lim2 : Nat) (tab2 : List HP) (l2 : List UInt8) (cs2 : Array Value) (tv2 rv2 : Value), i = .int .i64 (j : Int) ∧ j ≤ 2 ∧ l2.length ≤ b.length ∧ rdLims most (2 - j) lim2 tab2 l2 = some (lim', tab1, l1) ∧ UnTo (w.alloc (.cells #[.slice sv b.length cv] 296)) wr ub cs cs2 tP lim2 tv tv2 tab2 w.heap.size (.slice sv b.length cv) rv2 l2) (fun i _ => 2 - (intOf i).toNat)
  case atStart => exact ⟨0, lim, tab, b, cs, tv, _, rfl, by omega, Nat.le_refl _, HLIMS.out, HUA.out⟩
  case round =>
    obtain ⟨j, lim2, tab2, l2, cs2, tv2, rv2, rfl, hj, hll, hlm, hu⟩ := hrel
    by_cases hj2 : j = 2
    · rw [show 2 - j = 0 from by omega] at hlm
      simp only [rdLims, Option.some.injEq, Prod.mk.injEq] at hlm
      obtain ⟨rfl, rfl, rfl⟩ := hlm
      have hjd : decide ((j : Int) < 2) = false := by simp; omega
      have HU := hide hu
      clear hu hj2 hj
      go_wp2
      go_loopw [7] (fun v wx => ∃ (acc tab3 : List HP) (l3 : List UInt8) (cs3 : Array Value) (tv3 rv3 : Value), acc.length ≤ 8 ∧ (∀ x ∈ acc, x.n.size ≤ 268435456 ∧ x.v.size ≤ 268435456) ∧ l3.length ≤ b.length ∧ rdPairs (9 - acc.length) acc tab3 lim2 l3 = some (hs, tab') ∧ UnTo (w.alloc (.cells #[.slice sv b.length cv] 296)) wx ub cs cs3 tP lim2 tv tv3 tab3 w.heap.size (.slice sv b.length cv) rv3 l3 ∧ wx.ownsRow w.heap.size 62 2 v acc.length (hpCells acc) ∧ (∀ j, v.ownBlock = some j → tv3.ownBlock ≠ some j)) (fun v _ => 9 - lenV v)
      case atStart => exact ⟨[], tab2, l2, cs2, tv2, rv2, by simp, by simp, by omega, HPAIRS.out, HU.out, World.ownsRow_nil _ _ _ _, fun j e => by simp [Value.ownBlock] at e⟩
      case round =>
        obtain ⟨acc, tab3, l3, cs3, tv3, rv3, ha8, hsz, hl3, hrp, hu3, how, hap3⟩ := hrel
        obtain ⟨sl, cl, hvl⟩ := slice_len how
        subst hvl
        have hae := atEnd_any w.heap.size rv3 l3 wr hu3.sr
        have HAE := hide hae
        have HU3 := hide hu3
        have HOW := hide how
        have HAP3 := hide hap3
        have HSZ := hide hsz
        have HRP := hide hrp
        clear hae hu3 how hap3 hsz hrp HU
        cases l3 with
        | nil =>
          have hrp := HRP.out
          obtain ⟨f, hf⟩ : ∃ f, 9 - acc.length = f + 1 := ⟨8 - acc.length, by omega⟩
          rw [hf] at hrp
          simp only [rdPairs, Option.some.injEq, Prod.mk.injEq] at hrp
          have HE := hide hrp
          clear hrp HRP hf
          go_wp2_with fail
          refine HAE.out.mono ?_
          rintro e w9 ⟨rfl, hw9⟩
          rw [hw9]
          clear hw9
          go_wp2
          go_ret
          refine ⟨.slice sl acc.length cl, cs3, tv3, rfl, ?_⟩
          rw [← HE.out.1, ← HE.out.2]
          exact ⟨HU3.out.st, HU3.out.cs3, unp_chg HBA.out HU3.out.chg, fun j hj => (HU3.out.tfresh j hj).imp_right fun e => Nat.le_trans HBA.out.size e, HOW.out, HAP3.out⟩
        | cons c r =>
          obtain ⟨x, tab4, q, hp, hli, hrp4⟩ := rdPairs_cons HRP.out
          have hl8 : (acc ++ [x]).length ≤ 8 := by
            have := hli
            unfold listB at this
            simp only [Bool.and_eq_true, decide_eq_true_eq] at this
            exact this.1
          have hap := HU3.out.apart HAA.out HSA.out
          have hg3 := HU3.out.gl HGA.out hub hgs HTV.out
          obtain ⟨hq4, hxn, hxv⟩ := rdPair_len hp (numd_small (Nat.le_trans HU3.out.st.fit HU3.out.st.small)) (by omega)
          have htp := takePair_ok ub cs3 tP lim2 tv3 tab3 w.heap.size rv3 (c :: r) x tab4 q wr hg3 HU3.out.st HU3.out.sr hap (by omega) hgs hp
          have HTP := hide htp
          have HLI := hide hli
          have HRP4 := hide hrp4
          clear htp hli hrp4 hap hg3 hp HRP
          rw [List.length_append, List.length_singleton] at hl8
          go_wp2_with fail
          refine HAE.out.mono ?_
          rintro e w9 ⟨rfl, hw9⟩
          rw [hw9]
          clear hw9
          go_wp2_with fail
          refine HTP.out.mono ?_
          rintro e w4 ⟨rfl, cs4, tv4, rv4, hu4⟩
          have how4 := owns_chg HOW.out hu4.chg (by
            rintro j hj (e | e | e)
            · subst e; exact owns_ne HOW.out HU3.out.sr.blk (by decide) hj
            · subst e; exact owns_ne HOW.out HU3.out.st.tb.blk (fun e => HU3.out.st.tb.ne e.symm) hj
            · exact HAP3.out j hj e)
          have hap4 : ∀ j, (Value.slice sl acc.length cl).ownBlock = some j → tv4.ownBlock ≠ some j := fun j hj e => by
            rcases hu4.tfresh j e with a | a
            · exact HAP3.out j hj a
            · have := owns_lt HOW.out hj; omega
          have HU4 := hide (HU3.out.trans hu4)
          have HOW4 := hide how4
          have HAP4 := hide hap4
          clear hu4 how4 hap4
          go_wp2_with (at_builtin; refine wpList_app _ rfl (.tmp 22) (.tmp 25) 57 rfl 62 i0 (.agg #[.string ⟨#[]⟩, .string ⟨#[]⟩]) 2 32 Tryz.underlying57 hi hz0 hz1 hz2 rfl (by decide) _ _ _ rfl ((owns_base HOW4.out (fun _ _ => Nat.zero_le _)).alloc _) (.slice (some ⟨w4.heap.size, 0, none⟩) 1 1) 1 (hpCells [x]) rfl rfl (lies_pair w4 x) (hp_one _) ?c3 ?c4 ?_)
          case c3 => unfold maxLen; omega
          case c4 => omega
          intro v5 w5 hown5 hg5 hf5
          obtain ⟨hu5, how5, hap5⟩ := unp_app HB.out HT.out HBA.out HU4.out HOW4.out HAP4.out hown5 hg5 (by simpa using hf5)
          have hsz5 : ∀ y ∈ acc ++ [x], y.n.size ≤ 281474976710656 ∧ y.v.size ≤ 281474976710656 := fun y hy => by
            rcases List.mem_append.1 hy with hy | hy
            · have := HSZ.out y hy; omega
            · rw [List.mem_singleton.1 hy]; omega
          have hil := isList_any v5 (acc ++ [x]) w5 (hsIn_of_owns how5) (by rw [List.length_append, List.length_singleton]; omega) hsz5
          rw [HLI.out] at hil
          obtain ⟨s5, c5, hv5⟩ := slice_len hown5
          subst hv5
          have HIL := hide hil
          have HU5 := hide hu5
          have HOW5 := hide how5
          have HAP5 := hide hap5
          clear hown5 hg5 hf5 hil hu5 how5 hap5 hsz5
          go_wp2_with fail
          refine HIL.out.mono ?_
          rintro e w6 ⟨rfl, hb6⟩
          have HU6 := hide (HU5.out.below hb6)
          have HOW6 := hide (owns_chg HOW5.out (Chg.of_below (S := fun _ => False) hb6) (fun _ _ => id))
          clear hb6
          go_wp2
          go_roundw
          case rel =>
            refine ⟨acc ++ [x], tab4, q, cs4, tv4, rv4, by rw [List.length_append, List.length_singleton]; omega, ?_, by omega, ?_, HU6.out, HOW6.out, HAP5.out⟩
            · intro y hy
              rcases List.mem_append.1 hy with hy | hy
              · exact HSZ.out y hy
              · rw [List.mem_singleton.1 hy]; exact ⟨hxn, hxv⟩
            · rw [List.length_append, List.length_singleton, show 9 - (acc.length + 1) = 9 - acc.length - 1 from by omega]; exact HRP4.out
          case measure => simp [lenV]; omega
    · obtain ⟨f, hf⟩ : ∃ f, 2 - j = f + 1 := ⟨1 - j, by omega⟩
      rw [hf] at hlm
      have hg := hu.gl HGA.out hub hgs HTV.out
      have hhas := shas_any w.heap.size rv2 l2 32 5 wr hu.sr (by decide)
      obtain ⟨g0, g1⟩ := hg.lim
      have HG := hide hg
      have HHAS := hide hhas
      have HU := hide hu
      have HLM := hide hlm
      clear hg hhas hu hlm
      have hjd : decide ((j : Int) < 2) = true := by simp; omega
      cases hh : hasF 32 5 l2 with
      | false =>
        rw [hh] at HHAS
        have hlm := HLM.out
        have he : lim2 = lim' ∧ tab2 = tab1 ∧ l2 = l1 := by
          cases l2 with
          | nil => simpa [rdLims] using hlm
          | cons c r =>
            have hc : ¬ c.toNat / 32 = 1 := by simpa [hasF] using hh
            simp only [rdLims] at hlm
            rw [if_neg hc] at hlm
            simpa using hlm
        obtain ⟨rfl, rfl, rfl⟩ := he
        clear HLM hlm
        go_wp2_with fail
        refine HHAS.out.mono ?_
        rintro e w1 ⟨rfl, hb1⟩
        have HU1 := hide (HU.out.below hb1)
        clear hb1 HU
        have HU := HU1
        clear HU1 g0 g1
        go_wp2
        go_loopw [7] (fun v wx => ∃ (acc tab3 : List HP) (l3 : List UInt8) (cs3 : Array Value) (tv3 rv3 : Value), acc.length ≤ 8 ∧ (∀ x ∈ acc, x.n.size ≤ 268435456 ∧ x.v.size ≤ 268435456) ∧ l3.length ≤ b.length ∧ rdPairs (9 - acc.length) acc tab3 lim2 l3 = some (hs, tab') ∧ UnTo (w.alloc (.cells #[.slice sv b.length cv] 296)) wx ub cs cs3 tP lim2 tv tv3 tab3 w.heap.size (.slice sv b.length cv) rv3 l3 ∧ wx.ownsRow w.heap.size 62 2 v acc.length (hpCells acc) ∧ (∀ j, v.ownBlock = some j → tv3.ownBlock ≠ some j)) (fun v _ => 9 - lenV v)
        case atStart => exact ⟨[], tab2, l2, cs2, tv2, rv2, by simp, by simp, by omega, HPAIRS.out, HU.out, World.ownsRow_nil _ _ _ _, fun j e => by simp [Value.ownBlock] at e⟩
        case round =>
          obtain ⟨acc, tab3, l3, cs3, tv3, rv3, ha8, hsz, hl3, hrp, hu3, how, hap3⟩ := hrel
          obtain ⟨sl, cl, hvl⟩ := slice_len how
          subst hvl
          have hae := atEnd_any w.heap.size rv3 l3 wr hu3.sr
          have HAE := hide hae
          have HU3 := hide hu3
          have HOW := hide how
          have HAP3 := hide hap3
          have HSZ := hide hsz
          have HRP := hide hrp
          clear hae hu3 how hap3 hsz hrp HU
          cases l3 with
          | nil =>
            have hrp := HRP.out
            obtain ⟨f, hf⟩ : ∃ f, 9 - acc.length = f + 1 := ⟨8 - acc.length, by omega⟩
            rw [hf] at hrp
            simp only [rdPairs, Option.some.injEq, Prod.mk.injEq] at hrp
            have HE := hide hrp
            clear hrp HRP hf
            go_wp2_with fail
            refine HAE.out.mono ?_
            rintro e w9 ⟨rfl, hw9⟩
            rw [hw9]
            clear hw9
            go_wp2
            go_ret
            refine ⟨.slice sl acc.length cl, cs3, tv3, rfl, ?_⟩
            rw [← HE.out.1, ← HE.out.2]
            exact ⟨HU3.out.st, HU3.out.cs3, unp_chg HBA.out HU3.out.chg, fun j hj => (HU3.out.tfresh j hj).imp_right fun e => Nat.le_trans HBA.out.size e, HOW.out, HAP3.out⟩
          | cons c r =>
            obtain ⟨x, tab4, q, hp, hli, hrp4⟩ := rdPairs_cons HRP.out
            have hl8 : (acc ++ [x]).length ≤ 8 := by
              have := hli
              unfold listB at this
              simp only [Bool.and_eq_true, decide_eq_true_eq] at this
              exact this.1
            have hap := HU3.out.apart HAA.out HSA.out
            have hg3 := HU3.out.gl HGA.out hub hgs HTV.out
            obtain ⟨hq4, hxn, hxv⟩ := rdPair_len hp (numd_small (Nat.le_trans HU3.out.st.fit HU3.out.st.small)) (by omega)
            have htp := takePair_ok ub cs3 tP lim2 tv3 tab3 w.heap.size rv3 (c :: r) x tab4 q wr hg3 HU3.out.st HU3.out.sr hap (by omega) hgs hp
            have HTP := hide htp
            have HLI := hide hli
            have HRP4 := hide hrp4
            clear htp hli hrp4 hap hg3 hp HRP
            rw [List.length_append, List.length_singleton] at hl8
            go_wp2_with fail
            refine HAE.out.mono ?_
            rintro e w9 ⟨rfl, hw9⟩
            rw [hw9]
            clear hw9
            go_wp2_with fail
            refine HTP.out.mono ?_
            rintro e w4 ⟨rfl, cs4, tv4, rv4, hu4⟩
            have how4 := owns_chg HOW.out hu4.chg (by
              rintro j hj (e | e | e)
              · subst e; exact owns_ne HOW.out HU3.out.sr.blk (by decide) hj
              · subst e; exact owns_ne HOW.out HU3.out.st.tb.blk (fun e => HU3.out.st.tb.ne e.symm) hj
              · exact HAP3.out j hj e)
            have hap4 : ∀ j, (Value.slice sl acc.length cl).ownBlock = some j → tv4.ownBlock ≠ some j := fun j hj e => by
              rcases hu4.tfresh j e with a | a
              · exact HAP3.out j hj a
              · have := owns_lt HOW.out hj; omega
            have HU4 := hide (HU3.out.trans hu4)
            have HOW4 := hide how4
            have HAP4 := hide hap4
            clear hu4 how4 hap4
            go_wp2_with (at_builtin; refine wpList_app _ rfl (.tmp 22) (.tmp 25) 57 rfl 62 i0 (.agg #[.string ⟨#[]⟩, .string ⟨#[]⟩]) 2 32 Tryz.underlying57 hi hz0 hz1 hz2 rfl (by decide) _ _ _ rfl ((owns_base HOW4.out (fun _ _ => Nat.zero_le _)).alloc _) (.slice (some ⟨w4.heap.size, 0, none⟩) 1 1) 1 (hpCells [x]) rfl rfl (lies_pair w4 x) (hp_one _) ?c3 ?c4 ?_)
            case c3 => unfold maxLen; omega
            case c4 => omega
            intro v5 w5 hown5 hg5 hf5
            obtain ⟨hu5, how5, hap5⟩ := unp_app HB.out HT.out HBA.out HU4.out HOW4.out HAP4.out hown5 hg5 (by simpa using hf5)
            have hsz5 : ∀ y ∈ acc ++ [x], y.n.size ≤ 281474976710656 ∧ y.v.size ≤ 281474976710656 := fun y hy => by
              rcases List.mem_append.1 hy with hy | hy
              · have := HSZ.out y hy; omega
              · rw [List.mem_singleton.1 hy]; omega
            have hil := isList_any v5 (acc ++ [x]) w5 (hsIn_of_owns how5) (by rw [List.length_append, List.length_singleton]; omega) hsz5
            rw [HLI.out] at hil
            obtain ⟨s5, c5, hv5⟩ := slice_len hown5
            subst hv5
            have HIL := hide hil
            have HU5 := hide hu5
            have HOW5 := hide how5
            have HAP5 := hide hap5
            clear hown5 hg5 hf5 hil hu5 how5 hap5 hsz5
            go_wp2_with fail
            refine HIL.out.mono ?_
            rintro e w6 ⟨rfl, hb6⟩
            have HU6 := hide (HU5.out.below hb6)
            have HOW6 := hide (owns_chg HOW5.out (Chg.of_below (S := fun _ => False) hb6) (fun _ _ => id))
            clear hb6
            go_wp2
            go_roundw
            case rel =>
              refine ⟨acc ++ [x], tab4, q, cs4, tv4, rv4, by rw [List.length_append, List.length_singleton]; omega, ?_, by omega, ?_, HU6.out, HOW6.out, HAP5.out⟩
              · intro y hy
                rcases List.mem_append.1 hy with hy | hy
                · exact HSZ.out y hy
                · rw [List.mem_singleton.1 hy]; exact ⟨hxn, hxv⟩
              · rw [List.length_append, List.length_singleton, show 9 - (acc.length + 1) = 9 - acc.length - 1 from by omega]; exact HRP4.out
            case measure => simp [lenV]; omega
      | true =>
        rw [hh] at HHAS
        cases l2 with
        | nil => simp [hasF] at hh
        | cons c r =>
          have hc : c.toNat / 32 = 1 := by simpa [hasF] using hh
          obtain ⟨n, q, hcn, hnm, hnx⟩ := rdLims_cons HLM.out hc
          have hqr := rdCnt_len hcn
          have hap := HU.out.apart HAA.out HSA.out
          have hm2 : cs2[3]? = some (.int .i64 (most : Int)) := (HU.out.cs3 3 (by omega)).trans HM.out
          go_wp2_with fail
          refine HHAS.out.mono ?_
          rintro e w1 ⟨rfl, hb1⟩
          have hu1 := HU.out.below hb1
          have htl := takeLimit_ok ub cs2 tP lim2 tv2 tab2 most w.heap.size rv2 c r n q w1 (hu1.gl HGA.out hub hgs HTV.out) hu1.st hm2 hu1.sr hap (by omega) hgs hcn hnm hmo
          have HTL := hide htl
          have HU1 := hide hu1
          have HNX := hide hnx
          clear hb1 hu1 htl g0 g1 hnx hcn hm2 hap hc hh
          simp only [List.length_cons] at hll
          go_wp2_with fail
          refine HTL.out.mono ?_
          rintro e w2 ⟨rfl, cs3, tv3, rv3, hu3⟩
          have HU3 := hide (HU1.out.trans hu3)
          clear hu3
          go_wp2
          go_roundw
          case rel =>
            refine ⟨j + 1, n, shr tab2 n, q, cs3, tv3, rv3, by simp, by omega, by omega, ?_, HU3.out⟩
            rw [show 2 - (j + 1) = f from by omega]; exact HNX.out
          case measure => simp [intOf]; omega
end Go.Proofs.YtghongdbohjaaaaGreatDoor
