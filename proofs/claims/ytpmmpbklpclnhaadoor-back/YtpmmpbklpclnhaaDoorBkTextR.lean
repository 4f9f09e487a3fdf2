import Derived.Test.YtpmmpbklpclnhaaDoorBkUnpB
set_option linter.unusedVariables false
set_option linter.unusedSimpArgs false
/-
  Package blocks: source's takeText.
-/
namespace Go.Proofs.YtpmmpbklpclnhaaDoor
set_option linter.unusedVariables false
set_option linter.unusedSimpArgs false
open Go.RowKit

/-- The end of takeText. -/
def TextR (w w' : World) (sb : Nat) (rv : Value) (q : Option (List UInt8 × List UInt8)) (e : Ending) : Prop :=
  (∃ t r rv', q = some (t, r) ∧ e = .returned (.string ⟨t.toArray⟩) ∧ SrTo w w' sb rv rv' r) ∨ (q = none ∧ Gone e ∧ Chg (fun j => j = sb) w w')
theorem Gl.sr {w w' : World} {sb : Nat} (h : Gl w) (hc : Chg (fun j => j = sb) w w') (hsb : 7 ≤ sb) : Gl w' := h.chg hc (fun j hj e => by omega)

set_option maxRecDepth 100000 in
set_option maxHeartbeats 800000 in
theorem takeText_any (sb : Nat) (rv : Value) (l : List UInt8) (w : World) (hgl : Gl w) (h : SrS w sb rv l) (hl : l.length ≤ 268435456) (hsb : 7 ≤ sb) :
    Calls Tryd.prog 57 #[.pointer (some ⟨sb, 0, none⟩)] w fun e w' => TextR w w' sb rv (rdTxt l) e := by
  cases l with
  | nil =>
    have HB := hide (stake_bad sb rv w h)
    clear h hgl
    go_enter Tryd.func57, Tryd.ntmps57
    go_wp2_with fail
    refine HB.out.mono ?_
    rintro e w1 ⟨rfl, hw1⟩
    rw [hw1]
    exact ⟨rfl, Or.inr ⟨rfl, rfl, Chg.refl _ _⟩⟩
  | cons c r =>
    have HT := hide (stake_ok sb rv c r w h (by omega))
    have hrd : rdTxt (c :: r) = match rdCnt 7 c r with
      | none => none
      | some (n, q) => if q.length < n then none else if 128 ≤ c.toNat then (match unpB (bitsB (q.take n)) with
          | none => none
          | some t => some (t, q.drop n)) else some (q.take n, q.drop n) := rfl
    have hlr : r.length ≤ 268435456 := by simp at hl; omega
    have hshort : ∀ n q, rdCnt 7 c r = some (n, q) → q.length ≤ r.length := by
      have hm : ∀ f i n l n' q, rdMore f i n l = some (n', q) → q.length ≤ l.length := by
        intro f
        induction f with
        | zero => intro i n l n' q h9; simp [rdMore] at h9
        | succ f ih =>
          intro i n l n' q h9
          cases l with
          | nil => simp [rdMore] at h9
          | cons x t =>
            simp only [rdMore] at h9
            split at h9
            · cases h9
            · split at h9
              · simp at h9; rw [← h9.2]; simp
              · have := ih _ _ _ _ _ h9; simp; omega
      intro n q h9
      unfold rdCnt at h9
      split at h9
      · simp at h9; rw [← h9.2]; exact Nat.le_refl _
      · exact hm _ _ _ _ _ _ h9
    have HGL := hide hgl
    have HRD := hide hrd
    have HSH := hide hshort
    clear h hgl hrd hshort
    go_enter Tryd.func57, Tryd.ntmps57
    go_wp2_with fail
    refine HT.out.mono ?_
    rintro e w1 ⟨rv1, rfl, hs1⟩
    have hg1 := HGL.out.sr hs1.chg hsb
    obtain ⟨a0, a1⟩ := hg1.pck
    have HFB := hide (fbegins_any 128 7 c w1 (by omega))
    have HS1 := hide hs1
    have HG1 := hide hg1
    clear hs1 hg1
    go_wp2_with fail
    refine HFB.out.mono ?_
    rintro e w2 ⟨rfl, hb2⟩
    have hs2 := HS1.out.below hb2
    have hg2 := HG1.out.below hb2
    obtain ⟨b0, b1⟩ := hg2.pck
    obtain ⟨d0, d1⟩ := hg2.pln
    have hcc := c.toNat_lt
    have HS2 := hide hs2
    have HG2 := hide hg2
    clear hb2 hs2 hg2 a0 a1
    by_cases h128 : 128 ≤ c.toNat
    · have hdec : c.toNat / 2 ^ 7 = 128 / 2 ^ 7 := by omega
      have HTC := hide (takeCount_any sb rv1 r c 128 7 w2 HS2.out.st (by omega) (by omega))
      go_wp2_with fail
      refine HTC.out.mono ?_
      rintro e w3 (⟨N, q, rv3, hq, hN, rfl, hs3⟩ | ⟨hq, he, hc3⟩)
      · have hql := HSH.out N q hq
        have hrd := HRD.out
        rw [hq] at hrd
        simp only at hrd
        by_cases hlt : q.length < N
        · rw [if_pos hlt] at hrd
          have HTB := hide (takeBytes_bad sb rv3 q N w3 hs3.st hlt (by omega))
          have HR := hide hrd
          have HS3 := hide (HS2.out.trans hs3)
          clear hrd hs3 hq
          go_wp2_with fail
          refine HTB.out.mono ?_
          rintro e w4 ⟨rfl, hw4⟩
          rw [hw4]
          exact ⟨rfl, Or.inr ⟨HR.out, rfl, HS3.out.chg⟩⟩
        · rw [if_neg hlt, if_pos h128] at hrd
          have HTB := hide (takeBytes_ok sb rv3 q N w3 hs3.st (by omega) (by omega))
          have HR := hide hrd
          have HS3 := hide (HS2.out.trans hs3)
          clear hrd hs3 hq
          go_wp2_with fail
          refine HTB.out.mono ?_
          rintro e w4 ⟨v4, rv4, rfl, hb4, hs4, ho4⟩
          have HUB := hide (unpackBits_any v4 (q.take N) w4 hb4 (by rw [List.length_take]; omega))
          have HS4 := hide (HS3.out.trans hs4)
          clear hs4 hb4
          go_wp2_with fail
          refine HUB.out.mono ?_
          rintro e w5 (⟨t, ht, rfl, hb5⟩ | ⟨ht, he, hb5⟩)
          · have hr := HR.out
            rw [ht] at hr
            have HRR := hide hr
            have HS5 := hide (HS4.out.below hb5)
            clear hr hb5 ht
            go_wp2
            go_ret
            exact Or.inl ⟨t, q.drop N, rv4, HRR.out, rfl, HS5.out⟩
          · have hr := HR.out
            rw [ht] at hr
            rw [he]
            exact ⟨rfl, Or.inr ⟨hr, rfl, (HS4.out.below hb5).chg⟩⟩
      · rw [he]
        refine ⟨rfl, Or.inr ⟨?_, rfl, HS2.out.chg.trans (hc3.mono fun _ _ e => Or.inr e)⟩⟩
        rw [HRD.out, hq]
    · have hdec : ¬ c.toNat / 2 ^ 7 = 128 / 2 ^ 7 := by omega
      have HTC := hide (takeCount_any sb rv1 r c 0 7 w2 HS2.out.st (by omega) (by omega))
      go_wp2_with fail
      refine HTC.out.mono ?_
      rintro e w3 (⟨N, q, rv3, hq, hN, rfl, hs3⟩ | ⟨hq, he, hc3⟩)
      · have hql := HSH.out N q hq
        have hrd := HRD.out
        rw [hq] at hrd
        simp only at hrd
        by_cases hlt : q.length < N
        · rw [if_pos hlt] at hrd
          have HTB := hide (takeBytes_bad sb rv3 q N w3 hs3.st hlt (by omega))
          have HR := hide hrd
          have HS3 := hide (HS2.out.trans hs3)
          clear hrd hs3 hq
          go_wp2_with fail
          refine HTB.out.mono ?_
          rintro e w4 ⟨rfl, hw4⟩
          rw [hw4]
          exact ⟨rfl, Or.inr ⟨HR.out, rfl, HS3.out.chg⟩⟩
        · rw [if_neg hlt, if_neg h128] at hrd
          have HTB := hide (takeBytes_ok sb rv3 q N w3 hs3.st (by omega) (by omega))
          have HR := hide hrd
          have HS3 := hide (HS2.out.trans hs3)
          clear hrd hs3 hq
          go_wp2_with fail
          refine HTB.out.mono ?_
          rintro e w4 ⟨v4, rv4, rfl, hb4, hs4, ho4⟩
          have hcv := conv_bs hb4
          have HS4 := hide (HS3.out.trans hs4)
          clear hs4 hb4
          go_wp2
          go_ret
          exact Or.inl ⟨q.take N, q.drop N, rv4, HR.out, rfl, HS4.out⟩
      · rw [he]
        refine ⟨rfl, Or.inr ⟨?_, rfl, HS2.out.chg.trans (hc3.mono fun _ _ e => Or.inr e)⟩⟩
        rw [HRD.out, hq]
end Go.Proofs.YtpmmpbklpclnhaaDoor
