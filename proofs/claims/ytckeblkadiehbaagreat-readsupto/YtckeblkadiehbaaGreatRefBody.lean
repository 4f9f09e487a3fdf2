/-
  sluiceref: content, bodyRight, Right.
-/
import Derived.Test.YtckeblkadiehbaaGreatRefLeaf
import Derived.Test.YtckeblkadiehbaaGreatPureKeep
namespace Go.Proofs.YtckeblkadiehbaaGreat
open Go.RowKit

/-- Is the content right? -/
def contB (f : Int) (body : List UInt8) : Bool := if hasB f 8 then decide (padCode body = 0) else true

theorem padCode_bad {p : UInt8} {r : List UInt8} {k : Nat} (hs : ¬ r.length < p.toNat) (hk : k < p.toNat) (hx : (p :: r).getD (r.length + 1 - p.toNat + k) 0 ≠ 0) : decide (padCode (p :: r) = 0) = false := by
  have : padCode (p :: r) = 9 := by
    simp only [padCode]
    rw [if_neg hs, if_neg]
    intro h
    rw [List.all_eq_true] at h
    have hm : (p :: r).getD (r.length + 1 - p.toNat + k) 0 ∈ (p :: r).drop (r.length + 1 - p.toNat) := by
      rw [getD_lt _ _ _ (by simp; omega)]
      rw [List.mem_drop_iff_getElem]
      exact ⟨k, by simp; omega, rfl⟩
    have := h _ hm
    simp at this
    exact hx (by simpa using this)
  rw [this]; rfl
theorem padCode_good {p : UInt8} {r : List UInt8} (hs : ¬ r.length < p.toNat) (hz : ∀ j, j < p.toNat → (p :: r).getD (r.length + 1 - p.toNat + j) 0 = 0) : decide (padCode (p :: r) = 0) = true := by
  have : padCode (p :: r) = 0 := by
    simp only [padCode]
    rw [if_neg hs, if_pos]
    rw [List.all_eq_true]
    intro x hx
    rw [List.mem_drop_iff_getElem] at hx
    obtain ⟨j, hj, rfl⟩ := hx
    have h1 := hz j (by simp at hj; omega)
    rw [getD_lt _ _ _ (by simp at hj ⊢; omega)] at h1
    simpa using h1
  rw [this]; rfl

set_option maxRecDepth 100000 in
set_option maxHeartbeats 1600000 in
theorem content_any (k f s : Int) (sa : Option Addr) (body : List UInt8) (cap : Nat) (w : World) (h0 : 0 ≤ f) (h1 : f < 256) (hl : body.length ≤ 4294967296) (hb : BytesA w (.slice sa body.length cap) body) :
    Calls Tryz.prog 160 #[.agg #[.int .i64 k, .int .i64 f, .int .i64 s, .slice sa body.length cap]] w fun e w' => (∃ v, e = .returned (.tuple #[v, .bool (contB f body)])) ∧ Below w.heap.size w w' := by
  have HB := hide hb
  clear hb
  cases hh : hasB f 8 with
  | false =>
    have e : contB f body = true := by simp [contB, hh]
    rw [e]
    clear e
    go_enter Tryz.func160, Tryz.ntmps160
    go_wp2_with (go_at_call 159; refine (rflag_any k f s 8 sa body.length cap _ h0 h1 (Or.inr rfl)).mono ?_; rintro e w1 ⟨rfl, hb1⟩; rw [hh]; obtain ⟨hc1, hf1⟩ := bcell hb1)
    go_ret2
    exact ⟨⟨_, rfl⟩, ((Below.refl _ _).alloc (Nat.le_refl _) _).trans (hb1.mono (by simp))⟩
  | true =>
    have e : contB f body = decide (padCode body = 0) := by simp [contB, hh]
    rw [e]
    clear e
    cases body with
    | nil =>
      have e : decide (padCode [] = 0) = false := by decide
      rw [e]
      clear e
      simp only [List.length_nil] at *
      go_enter Tryz.func160, Tryz.ntmps160
      go_wp2_with (go_at_call 159; refine (rflag_any k f s 8 sa 0 cap _ h0 h1 (Or.inr rfl)).mono ?_; rintro e w1 ⟨rfl, hb1⟩; rw [hh]; obtain ⟨hc1, hf1⟩ := bcell hb1)
      go_ret2
      exact ⟨⟨_, rfl⟩, ((Below.refl _ _).alloc (Nat.le_refl _) _).trans (hb1.mono (by simp))⟩
    | cons p r =>
      obtain ⟨bb, off, hsa, hbb, hcp, hc0⟩ := HB.out.cell (i := 0) (by simp)
      subst hsa
      simp only [List.getD_cons_zero, Nat.add_zero] at hc0
      have hp : p.toNat < 256 := p.toNat_lt
      simp only [List.length_cons] at hl hcp ⊢
      by_cases hs : r.length < p.toNat
      · have e : decide (padCode (p :: r) = 0) = false := by simp [padCode, hs]
        rw [e]
        clear e
        go_enter Tryz.func160, Tryz.ntmps160
        go_wp2_with (go_at_call 159; refine (rflag_any k f s 8 _ (r.length + 1) cap _ h0 h1 (Or.inr rfl)).mono ?_; rintro e w1 ⟨rfl, hb1⟩; rw [hh]; obtain ⟨hc1, hf1⟩ := bcell hb1)
        go_quiet (fail)
        go_wp2
        go_ret2
        exact ⟨⟨_, rfl⟩, below_drewN (((Below.refl _ _).alloc (Nat.le_refl _) _).trans (hb1.mono (by simp)))⟩
      · obtain ⟨a, ha⟩ : ∃ a, a = r.length + 1 - p.toNat := ⟨_, rfl⟩
        have hap : a + p.toNat = r.length + 1 := by omega
        have ha1 : 1 ≤ a := by omega
        have HA := hide ha
        clear ha
        go_enter Tryz.func160, Tryz.ntmps160
        go_wp2_with (go_at_call 159; refine (rflag_any k f s 8 _ (r.length + 1) cap _ h0 h1 (Or.inr rfl)).mono ?_; rintro e w1 ⟨rfl, hb1⟩; rw [hh]; obtain ⟨hc1, hf1⟩ := bcell hb1)
        go_quiet (fail)
        go_wp2
        go_loop [6] (fun i => ∃ k : Nat, k ≤ p.toNat ∧ i = .int .i64 ((a : Int) + (k : Int)) ∧ ∀ j, j < k → (p :: r).getD (r.length + 1 - p.toNat + j) 0 = 0) (fun i => r.length + 1 - (intOf i).toNat)
        case atStart => exact ⟨0, Nat.zero_le _, by go_num, fun j hj => by omega⟩
        case round =>
          obtain ⟨k, hk, rfl, hz⟩ := hrel
          have HZ := hide hz
          clear hz
          by_cases hlt : k < p.toNat
          · obtain ⟨bb', off', hsa', _, _, hck⟩ := HB.out.cell (i := a + k) (by simp; omega)
            simp only [Option.some.injEq, Addr.mk.injEq, and_true] at hsa'
            obtain ⟨rfl, rfl⟩ := hsa'
            obtain ⟨x, hx⟩ : ∃ x, x = (p :: r).getD (a + k) 0 := ⟨_, rfl⟩
            rw [← hx] at hck
            have HX := hide hx
            clear hx
            by_cases h0x : x.toNat = 0
            · have hck0 : w.cell? ⟨bb, off + (a + k), none⟩ = some (.int .u8 0) := by rw [hck, h0x]; rfl
              clear hck
              go_wp2
              go_round
              case rel =>
                refine ⟨k + 1, by omega, by go_num, fun j hj => ?_⟩
                by_cases e : j < k
                · exact HZ.out j e
                · have : j = k := by omega
                  subst this
                  have := HX.out
                  rw [HA.out] at this
                  rw [← this]; exact UInt8.toNat_inj.1 h0x
              case measure => simp [intOf]; omega
            · have hpos : decide ((0 : Int) < (x.toNat : Int)) = true := by simp; omega
              have e : decide (padCode (p :: r) = 0) = false := padCode_bad hs hlt (by
                have := HX.out
                rw [HA.out] at this
                rw [← this]; intro e; exact h0x (by rw [e]; rfl))
              have HE := hide e
              clear e
              go_wp2
              go_ret2
              rw [HE.out]
              exact ⟨⟨_, rfl⟩, below_drewN (((Below.refl _ _).alloc (Nat.le_refl _) _).trans (hb1.mono (by simp)))⟩
          · have e : decide (padCode (p :: r) = 0) = true := padCode_good hs (fun j hj => HZ.out j (by omega))
            have HE := hide e
            clear e
            go_wp2
            all_goals go_ret2
            all_goals rw [HE.out]
            all_goals exact ⟨⟨_, rfl⟩, below_drewN (((Below.refl _ _).alloc (Nat.le_refl _) _).trans (hb1.mono (by simp)))⟩

theorem num4_nOf {l : List UInt8} (h : l.length = 4) : (nOf ((l.drop 0).take 4) : Int) = num4 l := by
  match l, h with
  | [a, b, c, d], _ => simp [nOf, num4, be4]; omega

set_option maxRecDepth 100000 in
set_option maxHeartbeats 1600000 in
theorem bodyRight_any (k f s : Int) (sa : Option Addr) (body : List UInt8) (cap : Nat) (w : World) (h0 : 0 ≤ f) (h1 : f < 256) (hl : body.length ≤ 64) (hlf : lFits body.length k f = true) (hb : BytesA w (.slice sa body.length cap) body) :
    Calls Tryz.prog 116 #[.agg #[.int .i64 k, .int .i64 f, .int .i64 s, .slice sa body.length cap]] w fun e w' => e = .returned (.bool (decide (bodyCode k f body = 0))) ∧ Below w.heap.size w w' := by
  have hch : ∀ o, BytesA (w.alloc o) (.slice sa body.length cap) body := fun o => hb.chg ((Chg.refl _ _).alloc _)
  have hl2 : body.length ≤ 4294967296 := by omega
  by_cases hk0 : k = 0
  · subst hk0
    have e : decide (bodyCode 0 f body = 0) = contB f body := by
      unfold bodyCode contB
      rw [if_pos rfl]
      split
      · rfl
      · rfl
    rw [e]
    clear e
    have HC := hide hch
    clear hch hb
    go_enter Tryz.func116, Tryz.ntmps116
    go_wp2_with (first
      | (go_at_call 159; refine (rflag_any 0 f s 1 sa body.length cap _ h0 h1 (Or.inl rfl)).mono ?_; rintro e w1 ⟨rfl, hb1⟩; obtain ⟨hc1, hf1⟩ := bcell hb1)
      | (go_at_call 160; refine (content_any 0 f s sa body cap _ h0 h1 hl2 ((HC.out _).chg (Chg.of_below hb1))).mono ?_; rintro e w2 ⟨⟨v, rfl⟩, hb2⟩))
    go_ret
    have hb1' : Below w.heap.size w w1 := ((Below.refl _ _).alloc (Nat.le_refl _) _).trans (hb1.mono (by simp))
    exact ⟨rfl, hb1'.trans (hb2.mono hb1'.size)⟩
  · have b0 : (k == 0) = false := by simp [hk0]
    by_cases hk3 : k = 3
    · subst hk3
      cases hh : hasB f 1 with
      | true =>
        have e : decide (bodyCode 3 f body = 0) = true := by simp [bodyCode, hh]
        rw [e]
        clear e hch hb
        go_enter Tryz.func116, Tryz.ntmps116
        go_wp2_with (go_at_call 159; refine (rflag_any 3 f s 1 sa body.length cap _ h0 h1 (Or.inl rfl)).mono ?_; rintro e w1 ⟨rfl, hb1⟩; rw [hh]; obtain ⟨hc1, hf1⟩ := bcell hb1)
        go_ret
        exact ⟨rfl, ((Below.refl _ _).alloc (Nat.le_refl _) _).trans (hb1.mono (by simp))⟩
      | false =>
        have hl4 : body.length = 4 := by simp [lFits, hh] at hlf; omega
        have e : decide (bodyCode 3 f body = 0) = decide (num4 body ≤ 2147483647) := by
          have h4 : 0 ≤ num4 body := by rw [← num4_nOf hl4]; omega
          simp only [bodyCode, hh, numCode, nCode]
          simp
          omega
        rw [e, ← num4_nOf hl4]
        clear e
        have HC := hide hch
        have H4 := hide hl4
        clear hch hb hlf hl4
        go_enter Tryz.func116, Tryz.ntmps116
        go_wp2_with (first
          | (go_at_call 159; refine (rflag_any 3 f s 1 sa body.length cap _ h0 h1 (Or.inl rfl)).mono ?_; rintro e w1 ⟨rfl, hb1⟩; rw [hh]; obtain ⟨hc1, hf1⟩ := bcell hb1)
          | (go_at_call 121; refine (number_any sa cap body 0 4 _ ((HC.out _).chg (Chg.of_below hb1)) (by rw [H4.out]; exact Nat.le_refl _) (by omega) hl2).mono ?_; rintro e w2 ⟨rfl, rfl⟩))
        go_ret
        exact ⟨rfl, ((Below.refl _ _).alloc (Nat.le_refl _) _).trans (hb1.mono (by simp))⟩
    · have b3 : (k == 3) = false := by simp [hk3]
      by_cases hk6 : k = 6
      · subst hk6
        have hl4 : body.length = 4 := by simp [lFits] at hlf; omega
        have e : decide (bodyCode 6 f body = 0) = (decide (1 ≤ num4 body) && decide (num4 body ≤ 2147483647)) := by
          simp only [bodyCode, numCode, nCode]
          rw [Bool.eq_iff_iff]
          simp
        rw [e, ← num4_nOf hl4]
        clear e
        have HC := hide hch
        have H4 := hide hl4
        clear hch hb hlf hl4
        go_enter Tryz.func116, Tryz.ntmps116
        go_wp2_with (first
          | (go_at_call 159; refine (rflag_any 6 f s 1 sa body.length cap _ h0 h1 (Or.inl rfl)).mono ?_; rintro e w1 ⟨rfl, hb1⟩; obtain ⟨hc1, hf1⟩ := bcell hb1)
          | (go_at_call 121; refine (number_any sa cap body 0 4 _ ((HC.out _).chg (Chg.of_below hb1)) (by rw [H4.out]; exact Nat.le_refl _) (by omega) hl2).mono ?_; rintro e w2 ⟨rfl, rfl⟩))
        all_goals go_ret
        all_goals refine ⟨ret_bool ?_, ((Below.refl _ _).alloc (Nat.le_refl _) _).trans (hb1.mono (by simp))⟩
        all_goals simp [*]
        all_goals omega
      · have b6 : (k == 6) = false := by simp [hk6]
        have e : decide (bodyCode k f body = 0) = true := by simp [bodyCode, hk0, hk3, hk6]
        rw [e]
        clear e hch hb hk0 hk3 hk6
        go_enter Tryz.func116, Tryz.ntmps116
        go_wp2_with (go_at_call 159; refine (rflag_any k f s 1 sa body.length cap _ h0 h1 (Or.inl rfl)).mono ?_; rintro e w1 ⟨rfl, hb1⟩; obtain ⟨hc1, hf1⟩ := bcell hb1)
        go_ret
        exact ⟨rfl, ((Below.refl _ _).alloc (Nat.le_refl _) _).trans (hb1.mono (by simp))⟩
end Go.Proofs.YtckeblkadiehbaaGreat
