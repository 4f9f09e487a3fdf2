import Derived.Test.YtdccldbefdfppaaGreatDoorQGan
import Derived.Deep.RegionWith
set_option linter.unusedVariables false
set_option linter.unusedSimpArgs false
/-
  Package ends: the tuner's answer; the Ack of a Ping comes.
-/
namespace Go.Proofs.YtdccldbefdfppaaGreatDoor
set_option linter.unusedVariables false
set_option linter.unusedSimpArgs false
open Go.RowKit

def EndM.ticks (m : EndM) : Int := max 1 (m.clock - m.start)
/-- Behind the answer to a Ping of this number. -/
def EndM.answd (m : EndM) (n : Nat) : EndM :=
  if m.under && m.pinged && (n == m.pnum) then
    if m.bestB * m.ticks < m.count * m.bestT then
      if 2 * m.count < m.target then { m with under := false, bestB := m.count, bestT := m.ticks }
      else { m with under := false, bestB := m.count, bestT := m.ticks, target := min (2 * m.target) m.most }
    else { m with under := false }
  else m
set_option maxRecDepth 100000 in
set_option maxHeartbeats 1600000 in
theorem tanswer_no (eb : Nat) (m : EndM) (n : Nat) (w : World) (h : EnB w eb m) (hn : (m.under && m.pinged && (n == m.pnum)) = false) :
    Calls Tryz.prog 138 #[.pointer (some ⟨eb, 13, none⟩), .int .u32 n, .int .i64 m.clock] w fun e w' => e = .returned (.int .i64 0) ∧ w' = w := by
  have c17 := h.c17
  have c18 := h.c18
  have c19 := h.c19
  clear h
  have hne : m.under = true → m.pinged = true → ((n : Int) != (m.pnum : Int)) = true := fun h1 h2 => by
    rw [h1, h2] at hn
    simp at hn
    simp
    omega
  cases hu : m.under with
  | false =>
    rw [hu] at c18
    clear hn hne
    go_enter Tryz.func138, Tryz.ntmps138
    go_wp2
    go_ret
    exact ⟨rfl, rfl⟩
  | true =>
    rw [hu] at c18
    cases hp : m.pinged with
    | false =>
      rw [hp] at c19
      clear hn hne
      go_enter Tryz.func138, Tryz.ntmps138
      go_wp2
      go_ret
      exact ⟨rfl, rfl⟩
    | true =>
      rw [hp] at c19
      have hq := hne hu hp
      clear hn hne
      go_enter Tryz.func138, Tryz.ntmps138
      go_wp2
      go_ret
      exact ⟨rfl, rfl⟩
set_option maxRecDepth 100000 in
set_option maxHeartbeats 3200000 in
theorem tanswer_yes (eb : Nat) (m : EndM) (w : World) (h : EnB w eb m) (hu : m.under = true) (hp : m.pinged = true) (b1 : 0 ≤ m.count ∧ m.count ≤ 2147483647) (b2 : 0 ≤ m.clock ∧ m.clock ≤ 2147483647) (b3 : 0 ≤ m.start ∧ m.start ≤ 2147483647) (b4 : 0 ≤ m.bestB ∧ m.bestB ≤ 2147483647) (b5 : 0 ≤ m.bestT ∧ m.bestT ≤ 2147483647) (b6 : 0 ≤ m.target ∧ m.target ≤ 2147483647) (b7 : 0 ≤ m.most ∧ m.most ≤ 2147483647) :
    Calls Tryz.prog 138 #[.pointer (some ⟨eb, 13, none⟩), .int .u32 m.pnum, .int .i64 m.clock] w fun e w' => e = .returned (.int .i64 ((m.answd m.pnum).target - m.target)) ∧ EnB w' eb (m.answd m.pnum) ∧ Chg (fun j => j = eb) w w' := by
  have c17 := h.c17
  have c18 := h.c18
  have c19 := h.c19
  rw [hu] at c18
  rw [hp] at c19
  have f18 := h.fr 18
  have hlt := h.lt
  have hmx : max 1 (m.clock - m.start) = m.ticks := rfl
  have htk : 1 ≤ m.ticks ∧ m.ticks ≤ 2147483647 := by unfold EndM.ticks; omega
  have hwt : IntKind.i64.wrap (m.clock - m.start) = m.clock - m.start := by rw [IntKind.wrap_i64]; omega
  have hwc : IntKind.i64.wrap (2 * m.count) = 2 * m.count := by rw [IntKind.wrap_i64]; omega
  have hwd : IntKind.i64.wrap (min (2 * m.target) m.most - m.target) = min (2 * m.target) m.most - m.target := by rw [IntKind.wrap_i64]; omega
  have hwg : IntKind.i64.wrap (2 * m.target) = 2 * m.target := by rw [IntKind.wrap_i64]; omega
  have ha : (m.answd m.pnum = if m.bestB * m.ticks < m.count * m.bestT then
      if 2 * m.count < m.target then { m with under := false, bestB := m.count, bestT := m.ticks }
      else { m with under := false, bestB := m.count, bestT := m.ticks, target := min (2 * m.target) m.most }
    else { m with under := false }) := by unfold EndM.answd; rw [hu, hp]; simp
  have HA := hide ha
  clear ha
  obtain ⟨w1, hw1⟩ : ∃ w1, w1 = w.setCell ⟨eb, 18, none⟩ (.bool false) := ⟨_, rfl⟩
  have he1 : EnB w1 eb { m with under := false } := by rw [hw1]; exact EnB.of (blk_set h.blk) rfl
  have hc1 : Chg (fun j => j = eb) w w1 := by rw [hw1]; exact chg_set (Chg.refl _ _) rfl
  have HE1 := hide he1
  have HC1 := hide hc1
  have HW1 := hide hw1
  have hs1 : w1.heap.size = w.heap.size := by rw [hw1]; simp [World.setCell]
  clear h he1 hc1 hw1
  go_enter Tryz.func138, Tryz.ntmps138
  go_upto_region 4 with fail
  rw [← HW1.out]
  have d20 : w1.cell? ⟨eb, 20, none⟩ = some (.int .i64 m.start) := HE1.out.c20
  have d21 : w1.cell? ⟨eb, 21, none⟩ = some (.int .i64 m.count) := HE1.out.c21
  go_cut [7] (fun s7 wx => s7 = .pointer (some ⟨w.heap.size, 0, none⟩) ∧ Below w1.heap.size w1 wx ∧ wx.heap[w.heap.size]? = some (.cells #[.int .i64 m.count, .int .i64 m.ticks] 72 (0, 0)))
  case first =>
    go_region_law (fail)
    all_goals (go_wp2_with fail; go_meet)
    all_goals exact ⟨rfl, ((Below.refl _ _).alloc (Nat.le_refl _) _).drew, by rw [← hs1]; exact heap_alloc_new w1 _⟩
  case rest =>
    obtain ⟨rfl, hb2, hx2⟩ := hcut
    obtain ⟨w2, hw2⟩ : ∃ w2, w2 = wc := ⟨_, rfl⟩
    subst hw2
    have he2 := HE1.out.below hb2
    have k0 : w2.cell? ⟨w.heap.size, 0, none⟩ = some (.int .i64 m.count) := by rw [cell_of_row _ _ _ _ _ _ hx2]; rfl
    have k1 : w2.cell? ⟨w.heap.size, 1, none⟩ = some (.int .i64 m.ticks) := by rw [cell_of_row _ _ _ _ _ _ hx2]; rfl
    have d15 : w2.cell? ⟨eb, 15, none⟩ = some (.int .i64 m.bestB) := he2.c15
    have d16 : w2.cell? ⟨eb, 16, none⟩ = some (.int .i64 m.bestT) := he2.c16
    have HM : Hid (∀ wx, Below w2.heap.size w2 wx → Calls Tryz.prog 161 #[.agg #[.int .i64 m.count, .int .i64 m.ticks], .agg #[.int .i64 m.bestB, .int .i64 m.bestT]] wx fun e w' => e = .returned (.bool (decide (m.bestB * m.ticks < m.count * m.bestT))) ∧ Below w2.heap.size w2 w') := fun wx hx => by
      refine (isMore_any m.count m.ticks m.bestB m.bestT wx b1 ⟨by omega, htk.2⟩ b4 b5).mono ?_
      rintro e w' ⟨h1, h2⟩
      exact ⟨h1, hx.trans (h2.mono hx.size)⟩
    have HE2 := hide he2
    have HX2 := hide hx2
    have HB2 := hide hb2
    clear he2 hx2 hb2 d20 d21 c17 c18 c19 f18
    go_upto_region 5 with fail
    go_cut [56] (fun s56 wx => s56 = .bool (!decide (m.bestB * m.ticks < m.count * m.bestT)) ∧ Below w2.heap.size w2 wx)
    case first =>
      go_region_with (first
        | (go_at_call 161; refine (HM.out _ (by first | exact Below.refl _ _ | exact (Below.refl _ _).drew)).mono ?_; rintro e w' ⟨rfl, hb⟩; have HB := hide hb; clear hb))
      all_goals (go_wp2_with fail; go_meet)
      all_goals exact ⟨rfl, by first | exact HB.out | exact HB.out.drew⟩
    case rest =>
      obtain ⟨rfl, hb3⟩ := hcut
      obtain ⟨w3, hw3⟩ : ∃ w3, w3 = wc := ⟨_, rfl⟩
      subst hw3
      have he3 := HE2.out.below hb3
      have hx3 := kept_told HX2.out hb3
      have hc3 : Chg (fun j => j = eb) w w3 := HC1.out.then_below (HB2.out.trans (hb3.mono HB2.out.size))
      have k0 : w3.cell? ⟨w.heap.size, 0, none⟩ = some (.int .i64 m.count) := by rw [cell_of_row _ _ _ _ _ _ hx3]; rfl
      have k1 : w3.cell? ⟨w.heap.size, 1, none⟩ = some (.int .i64 m.ticks) := by rw [cell_of_row _ _ _ _ _ _ hx3]; rfl
      have f15 := he3.fr 15
      have f16 := he3.fr 16
      have hlt3 := he3.lt
      have e15 : w3.cell? ⟨eb, 15, none⟩ = some (.int .i64 m.bestB) := he3.c15
      have e16 : w3.cell? ⟨eb, 16, none⟩ = some (.int .i64 m.bestT) := he3.c16
      have HE3 := hide he3
      have HC3 := hide hc3
      have HX3 := hide hx3
      clear he3 hx3 hc3 hb3 HM HB2 HX2 HE2 d15 d16
      by_cases hmo : m.bestB * m.ticks < m.count * m.bestT
      · rw [if_pos hmo] at HA
        have hd : decide (m.bestB * m.ticks < m.count * m.bestT) = true := decide_eq_true hmo
        rw [hd]
        clear hd hmo
        obtain ⟨w4, hw4⟩ : ∃ w4, w4 = (w3.setCell ⟨eb, 15, none⟩ (.int .i64 m.count)).setCell ⟨eb, 16, none⟩ (.int .i64 m.ticks) := ⟨_, rfl⟩
        have he4 : EnB w4 eb { m with under := false, bestB := m.count, bestT := m.ticks } := by rw [hw4]; exact EnB.of (blk_set (blk_set HE3.out.blk)) rfl
        have hc4 : Chg (fun j => j = eb) w3 w4 := by rw [hw4]; exact chg_set (chg_set (Chg.refl _ _) rfl) rfl
        have hx4 : w4.heap[w.heap.size]? = some (.cells #[.int .i64 m.count, .int .i64 m.ticks] 72 (0, 0)) := by
          rw [hc4.block _ (lt_of_block HX3.out) (by omega)]; exact HX3.out
        have m0 : w4.cell? ⟨w.heap.size, 0, none⟩ = some (.int .i64 m.count) := by rw [cell_of_row _ _ _ _ _ _ hx4]; rfl
        have m13 : w4.cell? ⟨eb, 13, none⟩ = some (.int .i64 m.target) := he4.c13
        have m14 : w4.cell? ⟨eb, 14, none⟩ = some (.int .i64 m.most) := he4.c14
        have g13 := he4.fr 13
        have hlt4 := he4.lt
        have HE4 := hide he4
        have HC4 : Hid (Chg (fun j => j = eb) w w4) := HC3.out.trans (hc4.mono fun j _ e => Or.inr e)
        have HW4 := hide hw4
        clear he4 hc4 hx4 hw4
        go_upto_region 8 with fail
        rw [← HW4.out]
        clear k0 k1 f15 f16 hlt3 e15 e16 HE3 HC3 HX3
        by_cases h2 : 2 * m.count < m.target
        · rw [if_pos h2] at HA
          have HR : Hid (EnB w4.drew eb { m with under := false, bestB := m.count, bestT := m.ticks } ∧ Chg (fun j => j = eb) w w4.drew) := ⟨⟨HE4.out.blk⟩, HC4.out.drew⟩
          go_quiet (fail)
          go_wp2
          go_ret
          rw [HA.out]
          exact ⟨by simp, ⟨HE4.out.blk⟩, ⟨HC4.out.os, HC4.out.tape, HC4.out.output, HC4.out.size, HC4.out.block⟩⟩
        · rw [if_neg h2] at HA
          go_quiet (fail)
          go_upto_region 11 with fail
          go_cut [] (fun wx => EnB wx eb { m with under := false, bestB := m.count, bestT := m.ticks, target := min (2 * m.target) m.most } ∧ Chg (fun j => j = eb) w wx)
          case first =>
            go_region_law (fail)
            all_goals (go_wp2_with fail; go_meet)
            all_goals exact ⟨EnB.of (blk_set (show (w4.drewN _).heap[eb]? = _ from HE4.out.blk)) rfl, chg_set (HC4.out.drewN _) rfl⟩
          case rest =>
            obtain ⟨he5, hc5⟩ := hcut
            have n13 : wc.cell? ⟨eb, 13, none⟩ = some (.int .i64 (min (2 * m.target) m.most)) := he5.c13
            have HE5 := hide he5
            have HC5 := hide hc5
            clear he5 hc5
            go_wp2
            go_ret
            rw [HA.out]
            exact ⟨rfl, HE5.out, HC5.out⟩
      · rw [if_neg hmo] at HA
        have hd : decide (m.bestB * m.ticks < m.count * m.bestT) = false := decide_eq_false hmo
        rw [hd]
        clear hd hmo
        go_wp2
        go_ret
        rw [HA.out]
        exact ⟨by simp, HE3.out, HC3.out⟩
/-- The answer to a Ping, of whatever number. -/
theorem tanswer_any (eb : Nat) (m : EndM) (n : Nat) (w : World) (h : EnB w eb m) (b1 : 0 ≤ m.count ∧ m.count ≤ 2147483647) (b2 : 0 ≤ m.clock ∧ m.clock ≤ 2147483647) (b3 : 0 ≤ m.start ∧ m.start ≤ 2147483647) (b4 : 0 ≤ m.bestB ∧ m.bestB ≤ 2147483647) (b5 : 0 ≤ m.bestT ∧ m.bestT ≤ 2147483647) (b6 : 0 ≤ m.target ∧ m.target ≤ 2147483647) (b7 : 0 ≤ m.most ∧ m.most ≤ 2147483647) :
    Calls Tryz.prog 138 #[.pointer (some ⟨eb, 13, none⟩), .int .u32 n, .int .i64 m.clock] w fun e w' => e = .returned (.int .i64 ((m.answd n).target - m.target)) ∧ EnB w' eb (m.answd n) ∧ Chg (fun j => j = eb) w w' := by
  cases hc : (m.under && m.pinged && (n == m.pnum)) with
  | false =>
    have e : m.answd n = m := by unfold EndM.answd; rw [hc]; rfl
    rw [e]
    refine (tanswer_no eb m n w h hc).mono ?_
    rintro e w' ⟨rfl, rfl⟩
    exact ⟨by simp, h, Chg.refl _ _⟩
  | true =>
    simp only [Bool.and_eq_true, beq_iff_eq] at hc
    obtain ⟨⟨h1, h2⟩, rfl⟩ := hc
    exact tanswer_yes eb m w h h1 h2 b1 b2 b3 b4 b5 b6 b7
theorem answd_same (m : EndM) (n : Nat) : (m.answd n).known = m.known ∧ (m.answd n).opn = m.opn ∧ (m.answd n).got = m.got ∧ (m.answd n).out = m.out ∧ (m.answd n).answers = m.answers ∧ (m.answd n).resets = m.resets ∧ (m.answd n).owed = m.owed := by
  unfold EndM.answd
  split
  · split
    · split <;> exact ⟨rfl, rfl, rfl, rfl, rfl, rfl, rfl⟩
    · exact ⟨rfl, rfl, rfl, rfl, rfl, rfl, rfl⟩
  · exact ⟨rfl, rfl, rfl, rfl, rfl, rfl, rfl⟩
end Go.Proofs.YtdccldbefdfppaaGreatDoor
