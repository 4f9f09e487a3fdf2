/-
  frames.checkPadding.
-/
import Derived.Test.YtckeblkadiehbaaGreatLeaf
namespace Go.Proofs.YtckeblkadiehbaaGreat
open Go.RowKit

theorem pad_bad {p : UInt8} {r : List UInt8} {k : Nat} (hs : ¬ r.length < p.toNat) (hk : k < p.toNat) (hx : (p :: r).getD (r.length + 1 - p.toNat + k) 0 ≠ 0) :
    endOf (padCode (p :: r)) = .panicked [{ v := .iface 83 (.int .i64 9), recovered := false }] := by
  have : padCode (p :: r) = 9 := by
    simp only [padCode]
    rw [if_neg hs, if_neg]
    intro h
    rw [List.all_eq_true] at h
    have hm : (p :: r).getD (r.length + 1 - p.toNat + k) 0 ∈ (p :: r).drop (r.length + 1 - p.toNat) := by
      rw [getD_lt _ _ _ (by simp; omega)]
      rw [List.mem_drop_iff_getElem]
      exact ⟨k, by simp; omega, rfl⟩
    have := h _ hm
    simp at this
    exact hx (by simpa using this)
  rw [this]; rfl
theorem pad_good {p : UInt8} {r : List UInt8} (hs : ¬ r.length < p.toNat) (hz : ∀ j, j < p.toNat → (p :: r).getD (r.length + 1 - p.toNat + j) 0 = 0) :
    endOf (padCode (p :: r)) = .returned (.tuple #[]) := by
  have : padCode (p :: r) = 0 := by
    simp only [padCode]
    rw [if_neg hs, if_pos]
    rw [List.all_eq_true]
    intro x hx
    rw [List.mem_drop_iff_getElem] at hx
    obtain ⟨j, hj, rfl⟩ := hx
    have h1 := hz j (by simp at hj; omega)
    rw [getD_lt _ _ _ (by simp at hj ⊢; omega)] at h1
    simpa using h1
  rw [this]; rfl

set_option maxHeartbeats 800000 in
theorem checkPadding_any (g off cap : Nat) (l : List UInt8) (w : World) (hl : l.length ≤ 64) (hcap : l.length ≤ cap)
    (hc : ∀ i, i < l.length → w.cell? ⟨g, off + i, none⟩ = some (.int .u8 (l.getD i 0).toNat)) :
    Calls Tryz.prog 164 #[.slice (some ⟨g, off, none⟩) l.length cap] w fun e w' => e = endOf (padCode l) ∧ w' = w := by
  cases l with
  | nil =>
    go_enter Tryz.func164, Tryz.ntmps164
    go_wp2
    exact ⟨rfl, rfl, rfl⟩
  | cons p r =>
    have c0 : w.cell? ⟨g, off, none⟩ = some (.int .u8 p.toNat) := by simpa using hc 0 (by simp)
    have hp : p.toNat < 256 := p.toNat_lt
    have hw : wrap64 (p.toNat : Int) = (p.toNat : Int) := by unfold wrap64; omega
    simp only [List.length_cons] at hl hc hcap ⊢
    by_cases hs : r.length < p.toNat
    · have hz : endOf (padCode (p :: r)) = .panicked [{ v := .iface 83 (.int .i64 9), recovered := false }] := by simp [padCode, hs, endOf]
      have HZ : Hid (endOf (padCode (p :: r)) = .panicked [{ v := .iface 83 (.int .i64 9), recovered := false }]) := hz
      clear hz
      go_enter Tryz.func164, Tryz.ntmps164
      go_wp2
      exact ⟨rfl, HZ.out.symm, rfl⟩
    · by_cases h0 : p.toNat = 0
      · have hz : endOf (padCode (p :: r)) = .returned (.tuple #[]) := by
          have : padCode (p :: r) = 0 := by
            simp only [padCode]; rw [if_neg hs, h0, List.drop_of_length_le (by simp)]; rfl
          rw [this]; rfl
        have HZ : Hid (endOf (padCode (p :: r)) = .returned (.tuple #[])) := hz
        clear hz hw
        have c0' : w.cell? ⟨g, off, none⟩ = some (.int .u8 0) := by rw [c0, h0]; rfl
        clear c0 h0 hs hp
        go_enter Tryz.func164, Tryz.ntmps164
        go_wp2
        all_goals refine wp_loop_rounds 1 ?_
        all_goals rw [rounds_succ]
        all_goals go_wp2
        all_goals refine bodyPost_end (results_none rfl _ _ _) rfl ⟨HZ.out.symm, rfl⟩
      · have hpos : 0 < p.toNat := by omega
        have hlo : r.length + 1 ≤ cap := hcap
        go_enter Tryz.func164, Tryz.ntmps164
        go_wp2
        go_loop [26] (fun i => ∃ k : Nat, k ≤ p.toNat ∧ i = .int .i64 k ∧ ∀ j, j < k → (p :: r).getD (r.length + 1 - p.toNat + j) 0 = 0) (fun i => p.toNat - (intOf i).toNat)
        case atStart => exact ⟨0, Nat.zero_le _, rfl, fun j hj => by omega⟩
        case round =>
          obtain ⟨k, hk, rfl, hz⟩ := hrel
          have HZ : Hid (∀ j, j < k → (p :: r).getD (r.length + 1 - p.toNat + j) 0 = 0) := hz
          clear hz
          by_cases hlt : k < p.toNat
          · obtain ⟨x, hx⟩ : ∃ x, x = (p :: r).getD (r.length + 1 - p.toNat + k) 0 := ⟨_, rfl⟩
            have hck : w.cell? ⟨g, off + (r.length + 1 - p.toNat) + k, none⟩ = some (.int .u8 x.toNat) := by rw [Nat.add_assoc, hx]; exact hc _ (by omega)
            have HX : Hid (x = (p :: r).getD (r.length + 1 - p.toNat + k) 0) := hx
            clear hx hc
            by_cases h0x : x.toNat = 0
            · have hb : ((x.toNat : Int) != 0) = false := by simp [h0x]
              go_wp2
              go_round
              case rel =>
                refine ⟨k + 1, by omega, by go_num, fun j hj => ?_⟩
                by_cases e : j < k
                · exact HZ.out j e
                · have : j = k := by omega
                  subst this
                  rw [← HX.out]; exact UInt8.toNat_inj.1 h0x
              case measure => simp [intOf]; omega
            · have hb : ((x.toNat : Int) != 0) = true := by simp [h0x]
              have hz : endOf (padCode (p :: r)) = .panicked [{ v := .iface 83 (.int .i64 9), recovered := false }] := pad_bad hs hlt (by rw [← HX.out]; intro e; exact h0x (by rw [e]; rfl))
              have HE : Hid (endOf (padCode (p :: r)) = .panicked [{ v := .iface 83 (.int .i64 9), recovered := false }]) := hz
              clear hz
              go_wp2
              exact ⟨rfl, HE.out.symm, rfl⟩
          · have hz : endOf (padCode (p :: r)) = .returned (.tuple #[]) := pad_good hs (fun j hj => HZ.out j (by omega))
            have HE : Hid (endOf (padCode (p :: r)) = .returned (.tuple #[])) := hz
            clear hz hc
            go_wp2
            exact bodyPost_end (results_none rfl _ _ _) rfl ⟨HE.out.symm, rfl⟩
end Go.Proofs.YtckeblkadiehbaaGreat
