import Derived.Test.YtdccldbefdfppaaGreatDoorQEnAnsw
set_option linter.unusedVariables false
set_option linter.unusedSimpArgs false
/-
  Package ends: the Ack of a Ping comes.
-/
namespace Go.Proofs.YtdccldbefdfppaaGreatDoor
set_option linter.unusedVariables false
set_option linter.unusedSimpArgs false
open Go.RowKit

/-- Behind the Ack of a Ping of this number. -/
def EndM.ponged (m : EndM) (n : Nat) : EndM := { m.answd n with owed := m.owed + ((m.answd n).target - m.target) }
theorem answd_bound (m : EndM) (n : Nat) (b6 : 0 ≤ m.target ∧ m.target ≤ 2147483647) (b7 : 0 ≤ m.most ∧ m.most ≤ 2147483647) : -2147483647 ≤ (m.answd n).target - m.target ∧ (m.answd n).target - m.target ≤ 2147483647 := by
  unfold EndM.answd
  split
  · split
    · split
      · simp
      · show -2147483647 ≤ min (2 * m.target) m.most - m.target ∧ min (2 * m.target) m.most - m.target ≤ 2147483647
        omega
    · simp
  · simp
set_option maxRecDepth 100000 in
set_option maxHeartbeats 1600000 in
theorem comePing_ack (eb mb : Nat) (g : GEnd) (f : Int) (n : Nat) (sv : Option Addr) (len cb : Nat) (w : World) (h : Inv w eb mb g) (hf : 0 ≤ f ∧ f ≤ 255) (hak : hasB f 1 = true) (b0 : -1099511627776 ≤ g.m.owed ∧ g.m.owed ≤ 1099511627776) (b1 : 0 ≤ g.m.count ∧ g.m.count ≤ 2147483647) (b2 : 0 ≤ g.m.clock ∧ g.m.clock ≤ 2147483647) (b3 : 0 ≤ g.m.start ∧ g.m.start ≤ 2147483647) (b4 : 0 ≤ g.m.bestB ∧ g.m.bestB ≤ 2147483647) (b5 : 0 ≤ g.m.bestT ∧ g.m.bestT ≤ 2147483647) (b6 : 0 ≤ g.m.target ∧ g.m.target ≤ 2147483647) (b7 : 0 ≤ g.m.most ∧ g.m.most ≤ 2147483647) :
    Calls Tryz.prog 101 #[.pointer (some ⟨eb, 0, none⟩), .agg #[.int .i64 4, .int .i64 f, .int .i64 0, .slice sv len cb, .int .u32 n]] w fun e w' => e = .returned (.tuple #[]) ∧ Next w w' eb mb g { g with m := g.m.ponged n } := by
  have hbA : Below w.heap.size w (w.alloc (.cells #[.int .i64 4, .int .i64 f, .int .i64 0, .slice sv len cb, .int .u32 n] 176)) := (Below.refl _ _).alloc (Nat.le_refl _) _
  have hnew := heap_alloc_new w (.cells #[.int .i64 4, .int .i64 f, .int .i64 0, .slice sv len cb, .int .u32 n] 176)
  have HH : Hid (∀ w, Calls Tryz.prog 98 #[.agg #[.int .i64 4, .int .i64 f, .int .i64 0, .slice sv len cb], .int .i64 1] w fun e w' => e = .returned (.bool true) ∧ Below w.heap.size w w') := fun w => by
    have := has_any 4 f 0 1 (.slice sv len cb) w hf.1 (by omega) (Or.inl rfl)
    rw [hak] at this
    exact this
  obtain ⟨q1, q2, q3, q4, q5, q6, q7⟩ := answd_same g.m n
  obtain ⟨d, hd⟩ : ∃ d, d = (g.m.answd n).target - g.m.target := ⟨_, rfl⟩
  have hdb := answd_bound g.m n b6 b7
  rw [← hd] at hdb
  have hwd : IntKind.i64.wrap (g.m.owed + d) = g.m.owed + d := by rw [IntKind.wrap_i64]; omega
  have HFIN : Hid (∀ w1 w2, Below w.heap.size w w1 → EnB w2 eb (g.m.answd n) → Chg (fun j => j = eb) w1 w2 → Next w (w2.setCell ⟨eb, 6, none⟩ (.int .i64 (g.m.owed + d))) eb mb g { g with m := g.m.ponged n }) := fun w1 w2 hb1 he hc => by
    refine ((h.below hb1).onM (m' := g.m.ponged n) (chg_set hc rfl) ?_ q1 q2 q3 q4 q5 q6).pre hb1
    rw [hd]
    exact EnB.of (blk_set he.blk) rfl
  have HT : Hid (∀ w1, Below w.heap.size w w1 → Calls Tryz.prog 138 #[.pointer (some ⟨eb, 13, none⟩), .int .u32 n, .int .i64 g.m.clock] w1 fun e w' => e = .returned (.int .i64 d) ∧ EnB w' eb (g.m.answd n) ∧ Chg (fun j => j = eb) w1 w') := fun w1 hb1 => by
    rw [hd]
    exact tanswer_any eb g.m n w1 (h.en.below hb1) b1 b2 b3 b4 b5 b6 b7
  have HEN : Hid (∀ w1, Below w.heap.size w w1 → w1.cell? ⟨eb, 6, none⟩ = some (.int .i64 g.m.owed) ∧ w1.cell? ⟨eb, 2, none⟩ = some (.int .i64 g.m.clock) ∧ w1.frozen? ⟨eb, 6, none⟩ = false ∧ eb < w1.heap.size) := fun w1 hb1 => ⟨(h.en.below hb1).c6, (h.en.below hb1).c2, (h.en.below hb1).fr 6, (h.en.below hb1).lt⟩
  have HC4 : Hid (∀ w1, Below (w.alloc (.cells #[.int .i64 4, .int .i64 f, .int .i64 0, .slice sv len cb, .int .u32 n] 176)).heap.size (w.alloc (.cells #[.int .i64 4, .int .i64 f, .int .i64 0, .slice sv len cb, .int .u32 n] 176)) w1 → w1.cell? ⟨w.heap.size, 4, none⟩ = some (.int .u32 n)) := fun w1 hb1 => by
    rw [cell_of_row _ _ _ _ _ _ (kept_told hnew hb1)]
    rfl
  have HB := hide hbA
  have HQ7 := hide q7
  clear h hf hak b0 b1 b2 b3 b4 b5 b6 b7 hnew hbA q1 q2 q3 q4 q5 q6 q7 hdb hd
  go_enter Tryz.func101, Tryz.ntmps101
  go_wp2_with fail
  refine (HH.out _).mono ?_
  rintro e w1 ⟨rfl, hb1⟩
  have k4 := HC4.out w1 hb1
  have hB1 : Below w.heap.size w w1 := HB.out.trans (hb1.mono HB.out.size)
  obtain ⟨c6, c2, f6, hlt1⟩ := HEN.out w1 hB1
  have HB1 := hide hB1
  clear hb1 hB1 HH HC4 HB HEN
  go_upto_region 2 with fail
  go_cut [] (fun wx => ∃ w2, EnB w2 eb (g.m.answd n) ∧ Chg (fun j => j = eb) w1 w2 ∧ wx = w2.setCell ⟨eb, 6, none⟩ (.int .i64 (g.m.owed + d)))
  case first =>
    go_region_law (refine step_call rfl 138 Tryz.f138 Tryz.func138 (by kernel_rfl) rfl [.tmp 14, .tmp 16, .tmp 20] #[77, 73, 3] rfl [.pointer (some ⟨eb, 13, none⟩), .int .u32 n, .int .i64 g.m.clock] (by simp [Act.eval, Act.put]) (HT.out w1.drew (HB1.out.drew)) ?_; rintro e w2 ⟨rfl, hE, hC⟩; refine ⟨_, rfl, ?_⟩; have v6 : w2.cell? ⟨eb, 6, none⟩ = some (.int .i64 g.m.owed) := (by rw [hE.c6, HQ7.out]); have x6 : w2.frozen? ⟨eb, 6, none⟩ = false := hE.fr 6; have hl2 : eb < w2.heap.size := hE.lt; have HE := hide hE; have HC : Hid (Chg (fun j => j = eb) w1 w2) := (⟨hC.os, hC.tape, hC.output, hC.size, hC.block⟩ : Chg (fun j => j = eb) w1 w2); clear hE hC)
    all_goals (go_wp2_with fail; go_meet; exact ⟨_, HE.out, HC.out, rfl⟩)
  case rest =>
    obtain ⟨w2, hE, hC, rfl⟩ := hcut
    have HN := hide (HFIN.out w1 w2 HB1.out hE hC)
    clear hE hC
    go_wp2
    refine bodyPost_ret (v := .tuple #[]) ?_ rfl ⟨rfl, HN.out⟩
    simp [results, Tryz.results101, go_sem]
end Go.Proofs.YtdccldbefdfppaaGreatDoor
