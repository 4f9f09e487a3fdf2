import Derived.Test.YtdccldbefdfppaaGreatDoorPGap
import Derived.Test.YtdccldbefdfppaaGreatDoorPGal
import Derived.Test.YtdccldbefdfppaaGreatDoorPGak
import Derived.Test.YtdccldbefdfppaaGreatDoorPGaa
import Derived.Test.YtdccldbefdfppaaGreatDoorPGao
import Derived.BigRegion
set_option linter.unusedVariables false
set_option linter.unusedSimpArgs false
namespace Go.Proofs.YtdccldbefdfppaaGreatDoor
open Go.RowKit
section
section
variable (eb mb : Nat) (g : GEnd) (w : World) (R S : World → Prop) (code : Int)
end
end
section
set_option maxHeartbeats 400000 in
theorem comeAck_p (eb : Nat) (m : EndM) (w : World) (h : EnB w eb m) (hw : m.waits = false) :
  Calls Tryz.prog 135 #[.pointer (some ⟨eb, 0, none⟩)] w fun e w' => e = .panicked [{ v := .iface 41 (.int .i64 11), recovered := false }] ∧ w' = w := by
 have c10 := h.c10
 rw [hw] at c10
 clear h
 go_enter Tryz.func135, Tryz.ntmps135
 go_wp2
 exact ⟨rfl, rfl, rfl⟩
set_option maxRecDepth 100000 in
set_option maxHeartbeats 800000 in
theorem comeSettings_p (eb : Nat) (m : EndM) (f n nv : Int) (sv : Option Addr) (len cb : Nat) (w : World) (h : EnB w eb m) (hw : m.waits = false) (hf : 0 ≤ f ∧ f ≤ 255) (hak : hasB f 1 = true) :
  Calls Tryz.prog 100 #[.pointer (some ⟨eb, 0, none⟩), .agg #[.int .i64 3, .int .i64 f, .int .i64 n, .slice sv len cb, .int .i64 nv]] w fun e w' => e = .panicked [{ v := .iface 41 (.int .i64 11), recovered := false }] ∧ Below w.heap.size w w' := by
 have hbA : Below w.heap.size w (w.alloc (.cells #[.int .i64 3, .int .i64 f, .int .i64 n, .slice sv len cb, .int .i64 nv] 173)) := (Below.refl _ _).alloc (Nat.le_refl _) _
 have HH : Hid (∀ w, Calls Tryz.prog 98 #[.agg #[.int .i64 3, .int .i64 f, .int .i64 n, .slice sv len cb], .int .i64 1] w fun e w' => e = .returned (.bool true) ∧ Below w.heap.size w w') := fun w => by
  have := has_any 3 f n 1 (.slice sv len cb) w hf.1 (by omega) (Or.inl rfl)
  rw [hak] at this
  exact this
 have HA : Hid (∀ w', Below w.heap.size w w' → Calls Tryz.prog 135 #[.pointer (some ⟨eb, 0, none⟩)] w' fun e w'' => e = .panicked [{ v := .iface 41 (.int .i64 11), recovered := false }] ∧ w'' = w') := fun w' hb => comeAck_p eb m w' (h.below hb) hw
 have HB := hide hbA
 clear h hw hf hak hbA
 go_enter Tryz.func100, Tryz.ntmps100
 go_wp2_with fail
 refine (HH.out _).mono ?_
 rintro e w1 ⟨rfl, hb1⟩
 have hb : Below w.heap.size w w1 := HB.out.trans (hb1.mono HB.out.size)
 have HB1 := hide hb
 clear hb1 hb
 go_wp2_with fail
 refine (HA.out w1 HB1.out).mono ?_
 rintro e w2 ⟨rfl, hw2⟩
 rw [hw2]
 clear hw2 w2
 go_wp2
 exact ⟨rfl, rfl, HB1.out⟩
set_option maxHeartbeats 400000 in
theorem checkWindow_p (n : Int) (w : World) (h : 2147483647 < n) :
  Calls Tryz.prog 136 #[.int .i64 n] w fun e w' => e = .panicked [{ v := .iface 41 (.int .i64 12), recovered := false }] ∧ w' = w := by
 go_enter Tryz.func136, Tryz.ntmps136
 go_wp2
 exact ⟨rfl, rfl, rfl⟩
end
section
theorem Inv.onM {w w' : World} {eb mb : Nat} {g : GEnd} {m' : EndM} (h : Inv w eb mb g) (hc : Chg (fun j => j = eb) w w') (hen : EnB w' eb m') (h1 : m'.known = g.m.known) (h2 : m'.opn = g.m.opn) (h3 : m'.got = g.m.got) (h4 : m'.out = g.m.out) (h5 : m'.answers = g.m.answers) (h6 : m'.resets = g.m.resets) : Next w w' eb mb g { g with m := m' } :=
 h.onEnd (S := fun j => j = eb) (o' := g.out) (A' := g.ans) (R' := g.res) hc (fun j e => Or.inl e) hen h1 h2 h3 (by rw [h4]; exact owns_chg h.out hc (fun j hj e => by rw [e] at hj; exact owns_ne h.out h.en.blk (by decide) hj)) (fun j hj => Or.inl (by rw [← h4]; exact hj)) (by rw [h5]; exact h.ans) (fun a ha => ha) (fun j hj => by rw [← h5]; exact hj) (by rw [h6]; exact h.res) (fun j hj => by rw [← h6]; exact hj)
def EndM.acked (m : EndM) : EndM := { m with waits := false, own := m.made }
set_option maxRecDepth 100000 in
set_option maxHeartbeats 800000 in
theorem comeAck_ok (eb : Nat) (m : EndM) (w : World) (h : EnB w eb m) (hw : m.waits = true) :
  Calls Tryz.prog 135 #[.pointer (some ⟨eb, 0, none⟩)] w fun e w' => e = .returned (.tuple #[]) ∧ EnB w' eb m.acked ∧ Chg (fun j => j = eb) w w' := by
 have c10 := h.c10
 rw [hw] at c10
 have c9 := h.c9
 have c11 := h.c11
 have f10 := h.fr 10
 have f11 := h.fr 11
 have hlt := h.lt
 have H := hide h
 clear h
 go_enter Tryz.func135, Tryz.ntmps135
 go_wp2
 have h1 : EnB ((w.setCell ⟨eb, 10, none⟩ (.bool false)).setCell ⟨eb, 11, none⟩ (.int .i64 m.made)) eb m.acked := EnB.of (blk_set (blk_set H.out.blk)) rfl
 have h2 : Chg (fun j => j = eb) w ((w.setCell ⟨eb, 10, none⟩ (.bool false)).setCell ⟨eb, 11, none⟩ (.int .i64 m.made)) := chg_set (chg_set (Chg.refl _ _) rfl) rfl
 exact bodyPost_end (results_none rfl _ _ _) rfl ⟨rfl, h1, h2⟩
set_option maxRecDepth 100000 in
set_option maxHeartbeats 800000 in
theorem comeSettings_ack (eb mb : Nat) (g : GEnd) (f n nv : Int) (sv : Option Addr) (len cb : Nat) (w : World) (h : Inv w eb mb g) (hw : g.m.waits = true) (hf : 0 ≤ f ∧ f ≤ 255) (hak : hasB f 1 = true) :
  Calls Tryz.prog 100 #[.pointer (some ⟨eb, 0, none⟩), .agg #[.int .i64 3, .int .i64 f, .int .i64 n, .slice sv len cb, .int .i64 nv]] w fun e w' => e = .returned (.tuple #[]) ∧ Next w w' eb mb g { g with m := g.m.acked } := by
 have hbA : Below w.heap.size w (w.alloc (.cells #[.int .i64 3, .int .i64 f, .int .i64 n, .slice sv len cb, .int .i64 nv] 173)) := (Below.refl _ _).alloc (Nat.le_refl _) _
 have HH : Hid (∀ w, Calls Tryz.prog 98 #[.agg #[.int .i64 3, .int .i64 f, .int .i64 n, .slice sv len cb], .int .i64 1] w fun e w' => e = .returned (.bool true) ∧ Below w.heap.size w w') := fun w => by
  have := has_any 3 f n 1 (.slice sv len cb) w hf.1 (by omega) (Or.inl rfl)
  rw [hak] at this
  exact this
 have HA : Hid (∀ w1, Below w.heap.size w w1 → Calls Tryz.prog 135 #[.pointer (some ⟨eb, 0, none⟩)] w1 fun e w' => e = .returned (.tuple #[]) ∧ Next w w' eb mb g { g with m := g.m.acked }) := fun w1 hb => by
  refine (comeAck_ok eb g.m w1 (h.en.below hb) hw).mono ?_
  rintro e w' ⟨rfl, h1, h2⟩
  exact ⟨rfl, ((h.below hb).onM h2 h1 rfl rfl rfl rfl rfl rfl).pre hb⟩
 have HB := hide hbA
 clear h hw hf hak hbA
 go_enter Tryz.func100, Tryz.ntmps100
 go_wp2_with fail
 refine (HH.out _).mono ?_
 rintro e w1 ⟨rfl, hb1⟩
 have hb : Below w.heap.size w w1 := HB.out.trans (hb1.mono HB.out.size)
 have HB1 := hide hb
 clear hb1 hb
 go_wp2_with fail
 refine (HA.out w1 HB1.out).mono ?_
 rintro e w2 ⟨rfl, hn⟩
 have HN := hide hn
 clear hn
 go_wp2
 refine bodyPost_ret (v := .tuple #[]) ?_ rfl ⟨rfl, HN.out⟩
 simp [results, Tryz.results100, go_sem]
set_option maxRecDepth 100000 in
set_option maxHeartbeats 800000 in
theorem isMore_any (a0 a1 b0 b1 : Int) (w : World) (h1 : 0 ≤ a0 ∧ a0 ≤ 2147483647) (h2 : 0 ≤ a1 ∧ a1 ≤ 2147483647) (h3 : 0 ≤ b0 ∧ b0 ≤ 2147483647) (h4 : 0 ≤ b1 ∧ b1 ≤ 2147483647) :
  Calls Tryz.prog 161 #[.agg #[.int .i64 a0, .int .i64 a1], .agg #[.int .i64 b0, .int .i64 b1]] w fun e w' => e = .returned (.bool (decide (b0 * a1 < a0 * b1))) ∧ Below w.heap.size w w' := by
 have mul_le : ∀ x y : Int, 0 ≤ x ∧ x ≤ 2147483647 → 0 ≤ y ∧ y ≤ 2147483647 → 0 ≤ x * y ∧ x * y ≤ 4611686014132420609 := fun x y hx hy => by
  refine ⟨Int.mul_nonneg hx.1 hy.1, ?_⟩
  have : x * y ≤ 2147483647 * 2147483647 := Int.mul_le_mul hx.2 hy.2 hy.1 (by omega)
  omega
 have k1 := mul_le a0 b1 h1 h4
 have k2 := mul_le b0 a1 h3 h2
 have hw1 : IntKind.i64.wrap (a0 * b1) = a0 * b1 := by rw [IntKind.wrap_i64]; omega
 have hw2 : IntKind.i64.wrap (b0 * a1) = b0 * a1 := by rw [IntKind.wrap_i64]; omega
 have HB : Hid (Below w.heap.size w ((w.alloc (.cells #[.int .i64 a0, .int .i64 a1] 72)).alloc (.cells #[.int .i64 b0, .int .i64 b1] 72))) := ((Below.refl _ _).alloc (Nat.le_refl _) _).alloc (by simp) _
 clear mul_le k1 k2
 go_enter Tryz.func161, Tryz.ntmps161
 go_wp2
 go_ret
 exact ⟨rfl, HB.out⟩
end
section
set_option maxHeartbeats 400000 in
theorem checkWindow_ok (n : Int) (w : World) (h : n ≤ 2147483647) :
  Calls Tryz.prog 136 #[.int .i64 n] w fun e w' => e = .returned (.tuple #[]) ∧ w' = w := by
 have hn : ¬ 2147483647 < n := by omega
 go_enter Tryz.func136, Tryz.ntmps136
 go_wp2
 exact bodyPost_end (results_none rfl _ _ _) rfl ⟨rfl, rfl⟩
def EndM.more (m : EndM) (n : Int) : EndM := { m with send := m.send + n }
set_option maxRecDepth 100000 in
set_option maxHeartbeats 1600000 in
theorem comeCredit_conn (eb mb : Nat) (g : GEnd) (f n : Int) (sv : Option Addr) (len cb : Nat) (w : World) (h : Inv w eb mb g) (hn : g.m.send + n ≤ 2147483647) (hn0 : 0 ≤ n) (hs0 : -1099511627776 ≤ g.m.send) :
  Calls Tryz.prog 102 #[.pointer (some ⟨eb, 0, none⟩), .agg #[.int .i64 6, .int .i64 f, .int .i64 0, .slice sv len cb, .int .i64 n]] w fun e w' => e = .returned (.tuple #[]) ∧ Next w w' eb mb g { g with m := g.m.more n } := by
 obtain ⟨w0, hw0⟩ : ∃ w0, w0 = w.alloc (.cells #[.int .i64 6, .int .i64 f, .int .i64 0, .slice sv len cb, .int .i64 n] 179) := ⟨_, rfl⟩
 have hfr : w0.heap[w.heap.size]? = some (.cells #[.int .i64 6, .int .i64 f, .int .i64 0, .slice sv len cb, .int .i64 n] 179 (0, 0)) := by rw [hw0]; exact heap_alloc_new w _
 have hb0 : Below w.heap.size w w0 := by rw [hw0]; exact (Below.refl _ _).alloc (Nat.le_refl _) _
 have y2 : w0.cell? ⟨w.heap.size, 2, none⟩ = some (.int .i64 0) := by rw [cell_of_row _ _ _ _ _ _ hfr]; rfl
 have y4 : w0.cell? ⟨w.heap.size, 4, none⟩ = some (.int .i64 n) := by rw [cell_of_row _ _ _ _ _ _ hfr]; rfl
 have hi0 := h.below hb0
 have c4 : w0.cell? ⟨eb, 4, none⟩ = some (.int .i64 g.m.send) := hi0.en.c4
 have f4 := hi0.en.fr 4
 have hw1 : IntKind.i64.wrap (g.m.send + n) = g.m.send + n := by rw [IntKind.wrap_i64]; omega
 have HCK := hide (fun W => checkWindow_ok (g.m.send + n) W hn)
 have HFIN : Hid (Next w (w0.setCell ⟨eb, 4, none⟩ (.int .i64 (g.m.send + n))).drew.drew eb mb g { g with m := g.m.more n }) := by
  have hc : Chg (fun j => j = eb) w0 (w0.setCell ⟨eb, 4, none⟩ (.int .i64 (g.m.send + n))).drew.drew := Chg.drew (Chg.drew (chg_set (S := fun j => j = eb) (Chg.refl _ _) rfl))
  have hen : EnB (w0.setCell ⟨eb, 4, none⟩ (.int .i64 (g.m.send + n))).drew.drew eb (g.m.more n) := ⟨(hi0.en.set (m' := g.m.more n) (i := 4) (v := .int .i64 (g.m.send + n)) (by simp [EndM.cells, EndM.more])).blk⟩
  exact (hi0.onM hc hen rfl rfl rfl rfl rfl rfl).pre hb0
 have HW0 := hide hw0
 clear h hn hn0 hs0 hfr hb0 hi0 hw0
 go_enter Tryz.func102, Tryz.ntmps102
 go_upto_region 1 with fail
 rw [← HW0.out]
 go_upto_region 2 with fail
 go_cut [] (fun wx => wx = w0.drew)
 case first =>
  have d4 : w0.drew.cell? ⟨eb, 4, none⟩ = some (.int .i64 g.m.send) := c4
  have d5 : w0.drew.cell? ⟨w.heap.size, 4, none⟩ = some (.int .i64 n) := y4
  go_region_law (refine step_call rfl 136 Tryz.f136 Tryz.func136 (by kernel_rfl) rfl [.tmp 17] #[3] rfl [.int .i64 (g.m.send + n)] (by simp [Act.eval, Act.put, hw1]) (HCK.out _) ?_; rintro e w' ⟨rfl, hw'⟩; refine ⟨_, rfl, ?_⟩; rw [hw']; clear hw' w')
  all_goals (go_wp2_with fail; go_meet; rfl)
 case rest =>
  rw [hcut]
  clear hcut
  have d4 : w0.drew.drew.cell? ⟨eb, 4, none⟩ = some (.int .i64 g.m.send) := c4
  have d5 : w0.drew.drew.cell? ⟨w.heap.size, 4, none⟩ = some (.int .i64 n) := y4
  have d6 : w0.drew.drew.frozen? ⟨eb, 4, none⟩ = false := f4
  have e4 : w0.drew.cell? ⟨eb, 4, none⟩ = some (.int .i64 g.m.send) := c4
  have e5 : w0.drew.cell? ⟨w.heap.size, 4, none⟩ = some (.int .i64 n) := y4
  have e6 : w0.drew.frozen? ⟨eb, 4, none⟩ = false := f4
  go_wp2_with fail
  go_region
  all_goals go_wp2
  all_goals refine bodyPost_ret (v := .tuple #[]) ?_ rfl ⟨rfl, HFIN.out⟩
  all_goals simp [results, Tryz.results102, go_sem]
def GSt.credit (s : GSt) (n : Int) : GSt := { s with st := { s.st with send := s.st.send + n } }
set_option maxRecDepth 100000 in
set_option maxHeartbeats 1600000 in
theorem comeCredit_st (eb mb : Nat) (g : GEnd) (s : GSt) (f n : Int) (sv : Option Addr) (len cb : Nat) (w : World) (h : Inv w eb mb g) (hs : s ∈ g.K) (h0 : s.st.number ≠ 0) (ha : s.st.announced = true) (hr : s.st.reset = 0) (hn : g.m.other + s.st.send + n ≤ 2147483647) (hn0 : 0 ≤ n ∧ n ≤ 1099511627776) (b1 : -1099511627776 ≤ g.m.other ∧ g.m.other ≤ 1099511627776) (b2 : -1099511627776 ≤ s.st.send ∧ s.st.send ≤ 1099511627776) :
  Calls Tryz.prog 102 #[.pointer (some ⟨eb, 0, none⟩), .agg #[.int .i64 6, .int .i64 f, .int .i64 s.st.number, .slice sv len cb, .int .i64 n]] w fun e w' => e = .returned (.tuple #[]) ∧ Next w w' eb mb g { g with K := updN s.st.number (fun _ => s.credit n) g.K } := by
 obtain ⟨w0, hw0⟩ : ∃ w0, w0 = w.alloc (.cells #[.int .i64 6, .int .i64 f, .int .i64 s.st.number, .slice sv len cb, .int .i64 n] 179) := ⟨_, rfl⟩
 have hfr : w0.heap[w.heap.size]? = some (.cells #[.int .i64 6, .int .i64 f, .int .i64 s.st.number, .slice sv len cb, .int .i64 n] 179 (0, 0)) := by rw [hw0]; exact heap_alloc_new w _
 have hb0 : Below w.heap.size w w0 := by rw [hw0]; exact (Below.refl _ _).alloc (Nat.le_refl _) _
 have y2 : w0.cell? ⟨w.heap.size, 2, none⟩ = some (.int .i64 s.st.number) := by rw [cell_of_row _ _ _ _ _ _ hfr]; rfl
 have hi0 := h.below hb0
 have hst := hi0.st hs
 have han := announced_any eb mb g.m (g.K.map GSt.str) s.st.number w0 hi0.en hi0.km hi0.kn
 rw [hi0.find hs] at han
 have han : Calls Tryz.prog 128 #[.pointer (some ⟨eb, 0, none⟩), .int .i64 s.st.number] w0 fun e w' => w' = w0 ∧ e = .returned (.pointer (some ⟨s.sb, 0, none⟩)) := by
  refine han.mono ?_
  rintro e w' ⟨h1, h2⟩
  refine ⟨h1, ?_⟩
  have h2 : if s.st.announced then e = .returned (.pointer (some ⟨s.sb, 0, none⟩)) else e = .panicked [{ v := .iface 41 (.int .i64 11), recovered := false }] := h2
  rw [ha] at h2
  simpa using h2
 have hrs := isReset_any s.sb s.st w0 hst
 rw [show (!(s.st.reset == 0)) = false from by rw [hr]; rfl] at hrs
 have HAN := hide han
 have HRS := hide hrs
 have HSW := hide (sendWindow_any eb s.sb g.m s.st w0.drew (hi0.en.below (Below.drew (Below.refl _ _))) (hst.below (Below.drew (Below.refl _ _))) (by omega) (by omega) (by omega) (by omega))
 have hw1 : IntKind.i64.wrap (g.m.other + s.st.send + n) = g.m.other + s.st.send + n := by rw [IntKind.wrap_i64]; omega
 have hw2 : IntKind.i64.wrap (s.st.send + n) = s.st.send + n := by rw [IntKind.wrap_i64]; omega
 have HCK := hide (fun W => checkWindow_ok (g.m.other + s.st.send + n) W hn)
 have hne : (s.st.number == 0) = false := by simp [h0]
 have HNX : Hid (∀ w2, Below w.heap.size w w2 → Next w (w2.setCell ⟨s.sb, 0, none⟩ (.int .i64 (s.st.send + n))).drew eb mb g { g with K := updN s.st.number (fun _ => s.credit n) g.K }) := fun w2 hb2 => by
  have hi2 := h.below hb2
  have hst2 := hi2.st hs
  have hc : Chg (fun j => j = s.sb) w2 (w2.setCell ⟨s.sb, 0, none⟩ (.int .i64 (s.st.send + n))).drew := Chg.drew (chg_set (S := fun j => j = s.sb) (Chg.refl _ _) rfl)
  have keep : ∀ {k : Nat} {v' : Value} {xs : List Value} {ty : TypeId}, ty ≠ 127 → w2.ownsRow 0 ty 1 v' k xs → (w2.setCell ⟨s.sb, 0, none⟩ (.int .i64 (s.st.send + n))).drew.ownsRow 0 ty 1 v' k xs := fun hty hr => owns_chg hr hc (fun j hj e => by rw [e] at hj; exact owns_ne hr hst2.blk hty hj)
  refine (hi2.onSt (S := fun j => j = s.sb) (m' := g.m) (s := s) (s' := s.credit n) (L' := g.L) (o' := g.out) 0 hs hc (fun j e => Or.inr (Or.inl e)) (hi2.en.chg hc (fun e => hi2.st_eb hs e.symm)) ?_ rfl rfl rfl rfl rfl rfl
   (keep (by decide) hi2.row) (fun j hj => Or.inl hj) (List.Sublist.refl _) (keep (by decide) hi2.out) (fun j hj => Or.inl hj) (keep (by decide) (hi2.un s hs)) (fun j hj => Or.inl hj) (keep (by decide) (hi2.wa s hs)) (fun j hj => Or.inl hj)).pre hb2
  exact ⟨by
   have := blk_set (i := 0) (v := .int .i64 (s.st.send + n)) hst2.blk
   exact this.trans (by simp [StM.cells, GSt.credit])⟩
 have HFR := hide hfr
 have HB0 := hide hb0
 have HST : Hid (∀ w2, Below w.heap.size w w2 → w2.cell? ⟨s.sb, 0, none⟩ = some (.int .i64 s.st.send) ∧ w2.frozen? ⟨s.sb, 0, none⟩ = false) := fun w2 hb2 => ⟨((h.below hb2).st hs).c0, ((h.below hb2).st hs).fr 0⟩
 have HW0 := hide hw0
 clear h hs h0 ha hr hn hn0 b1 b2 hfr hb0 hi0 hst han hrs hw0
 go_enter Tryz.func102, Tryz.ntmps102
 go_upto_region 1 with fail
 rw [← HW0.out]
 go_wp2_with fail
 refine HAN.out.mono ?_
 rintro e w' ⟨hw', rfl⟩
 rw [hw']
 clear hw' w'
 go_wp2_with fail
 refine HRS.out.mono ?_
 rintro e w' ⟨rfl, hw'⟩
 rw [hw']
 clear hw' w'
 have y4 : w0.cell? ⟨w.heap.size, 4, none⟩ = some (.int .i64 n) := by rw [cell_of_row _ _ _ _ _ _ HFR.out]; rfl
 go_upto_region 6 with fail
 go_cut [] (fun wx => Below w0.heap.size w0 wx)
 case first =>
  go_region_law (first
   | (refine step_call rfl 66 Tryz.f66 Tryz.func66 (by kernel_rfl) rfl [.tmp 38, .tmp 39] #[123, 124] rfl [.pointer (some ⟨eb, 0, none⟩), .pointer (some ⟨s.sb, 0, none⟩)] (by simp [Act.eval, Act.put]) HSW.out ?_; rintro e w2 ⟨rfl, hb2⟩; refine ⟨_, rfl, ?_⟩; have hbx : Below w0.heap.size w0 w2 := ⟨hb2.os, hb2.tape, hb2.output, hb2.size, hb2.block⟩; have q4 : w2.cell? ⟨w.heap.size, 4, none⟩ = some (.int .i64 n) := (by rw [cell_of_row _ _ _ _ _ _ (kept_told HFR.out hbx)]; rfl); have HB2 := hide hbx; clear hb2 hbx)
   | (refine step_call rfl 136 Tryz.f136 Tryz.func136 (by kernel_rfl) rfl [.tmp 43] #[3] rfl [.int .i64 (g.m.other + s.st.send + n)] (by simp [Act.eval, Act.put, hw1]) (HCK.out _) ?_; rintro e w' ⟨rfl, hw'⟩; refine ⟨_, rfl, ?_⟩; rw [hw']; clear hw' w'))
  all_goals (go_wp2_with fail; go_meet; exact HB2.out)
 case rest =>
  have hcut : Below w0.heap.size w0 wc := hcut
  obtain ⟨w3, hw3⟩ : ∃ w3, w3 = wc := ⟨wc, rfl⟩
  rw [← hw3] at hcut ⊢
  clear hw3
  have hb3 := HB0.out.trans (hcut.mono HB0.out.size)
  obtain ⟨q1, q2⟩ := HST.out w3 hb3
  have q3 : w3.cell? ⟨w.heap.size, 4, none⟩ = some (.int .i64 n) := by rw [cell_of_row _ _ _ _ _ _ (kept_told HFR.out hcut)]; rfl
  have d1 : w3.drew.cell? ⟨s.sb, 0, none⟩ = some (.int .i64 s.st.send) := q1
  have d2 : w3.drew.frozen? ⟨s.sb, 0, none⟩ = false := q2
  have d3 : w3.drew.cell? ⟨w.heap.size, 4, none⟩ = some (.int .i64 n) := q3
  have HN := hide (HNX.out w3 hb3)
  clear hcut hb3 y2 y4
  go_wp2_with fail
  go_region
  all_goals go_wp2
  all_goals exact bodyPost_end (results_none rfl _ _ _) rfl ⟨rfl, HN.out⟩
end
section
def GEnd.told? (g : GEnd) (n : Int) : Option GSt := (g.K.find? fun s => s.st.number == n).filter fun s => s.st.announced
theorem announcedX (eb mb : Nat) (g : GEnd) (n : Int) (w : World) (h : Inv w eb mb g) :
  Calls Tryz.prog 128 #[.pointer (some ⟨eb, 0, none⟩), .int .i64 n] w fun e w' => w' = w ∧ e = match g.told? n with
   | some s => .returned (.pointer (some ⟨s.sb, 0, none⟩))
   | none => faultE 11 := by
 refine (announced_any eb mb g.m (g.K.map GSt.str) n w h.en h.km h.kn).mono ?_
 rintro e w' ⟨h1, h2⟩
 refine ⟨h1, ?_⟩
 rw [findK_str] at h2
 unfold GEnd.told?
 cases hf : g.K.find? fun s => s.st.number == n with
 | none => rw [hf] at h2; exact h2
 | some s =>
  rw [hf] at h2
  have h2 : if s.st.announced then e = .returned (.pointer (some ⟨s.sb, 0, none⟩)) else e = .panicked [{ v := .iface 41 (.int .i64 11), recovered := false }] := h2
  cases ha : s.st.announced with
  | true => rw [ha] at h2; simpa [Option.filter, ha] using h2
  | false => rw [ha] at h2; simpa [Option.filter, ha, faultE] using h2
theorem told_mem {g : GEnd} {n : Int} {s : GSt} (h : g.told? n = some s) : s ∈ g.K ∧ s.st.number = n ∧ s.st.announced = true := by
 unfold GEnd.told? at h
 rw [Option.filter_eq_some_iff] at h
 refine ⟨List.mem_of_find?_eq_some h.1, ?_, by simpa using h.2⟩
 have := List.find?_some h.1
 simpa using this
set_option maxHeartbeats 800000 in
theorem comeReset_none (eb mb : Nat) (g : GEnd) (f n : Int) (sv : Option Addr) (len cb : Nat) (w : World) (h : Inv w eb mb g) (hn : g.told? n = none) :
  Calls Tryz.prog 99 #[.pointer (some ⟨eb, 0, none⟩), .agg #[.int .i64 2, .int .i64 f, .int .i64 n, .slice sv len cb]] w fun e w' => e = faultE 11 ∧ Below w.heap.size w w' := by
 have hbA : Below w.heap.size w (w.alloc (.cells #[.int .i64 2, .int .i64 f, .int .i64 n, .slice sv len cb] 170)) := (Below.refl _ _).alloc (Nat.le_refl _) _
 have han := announcedX eb mb g n _ (h.below hbA)
 rw [hn] at han
 have HAN := hide han
 have HB := hide hbA
 clear h hn han hbA
 go_enter Tryz.func99, Tryz.ntmps99
 go_wp2_with fail
 refine HAN.out.mono ?_
 rintro e w' ⟨hw', rfl⟩
 rw [hw']
 clear hw' w'
 simp only [faultE]
 go_wp2
 exact ⟨rfl, rfl, HB.out⟩
set_option maxHeartbeats 800000 in
theorem comeReset_closed (eb mb : Nat) (g : GEnd) (s : GSt) (f n : Int) (sv : Option Addr) (len cb : Nat) (w : World) (h : Inv w eb mb g) (hn : g.told? n = some s) (hc : s.st.closed = true) :
  Calls Tryz.prog 99 #[.pointer (some ⟨eb, 0, none⟩), .agg #[.int .i64 2, .int .i64 f, .int .i64 n, .slice sv len cb]] w fun e w' => e = .returned (.tuple #[]) ∧ Below w.heap.size w w' := by
 have hbA : Below w.heap.size w (w.alloc (.cells #[.int .i64 2, .int .i64 f, .int .i64 n, .slice sv len cb] 170)) := (Below.refl _ _).alloc (Nat.le_refl _) _
 have hA := h.below hbA
 have han := announcedX eb mb g n _ hA
 rw [hn] at han
 simp only at han
 have hcc := isClosed_any s.sb s.st _ (hA.st (told_mem hn).1)
 rw [hc] at hcc
 have HAN := hide han
 have HCC := hide hcc
 have HB := hide hbA
 clear h hn han hbA hA hcc
 go_enter Tryz.func99, Tryz.ntmps99
 go_wp2_with fail
 refine HAN.out.mono ?_
 rintro e w' ⟨hw', rfl⟩
 rw [hw']
 clear hw' w'
 go_wp2_with fail
 refine HCC.out.mono ?_
 rintro e w' ⟨rfl, hw'⟩
 rw [hw']
 clear hw' w'
 go_wp2
 exact bodyPost_end (results_none rfl _ _ _) rfl ⟨rfl, HB.out⟩
set_option maxRecDepth 100000 in
set_option maxHeartbeats 800000 in
theorem comeCredit_none (eb mb : Nat) (g : GEnd) (f n nv : Int) (sv : Option Addr) (len cb : Nat) (w : World) (h : Inv w eb mb g) (h0 : n ≠ 0) (hn : g.told? n = none) :
  Calls Tryz.prog 102 #[.pointer (some ⟨eb, 0, none⟩), .agg #[.int .i64 6, .int .i64 f, .int .i64 n, .slice sv len cb, .int .i64 nv]] w fun e w' => e = faultE 11 ∧ Below w.heap.size w w' := by
 have hbA : Below w.heap.size w (w.alloc (.cells #[.int .i64 6, .int .i64 f, .int .i64 n, .slice sv len cb, .int .i64 nv] 179)) := (Below.refl _ _).alloc (Nat.le_refl _) _
 have han := announcedX eb mb g n _ (h.below hbA)
 rw [hn] at han
 have HAN := hide han
 have HB := hide hbA
 have hne : (n == 0) = false := by simp [h0]
 clear h hn han hbA
 go_enter Tryz.func102, Tryz.ntmps102
 go_wp2_with fail
 refine HAN.out.mono ?_
 rintro e w' ⟨hw', rfl⟩
 rw [hw']
 clear hw' w'
 simp only [faultE]
 go_wp2
 exact ⟨rfl, rfl, HB.out⟩
set_option maxRecDepth 100000 in
set_option maxHeartbeats 800000 in
theorem comeCredit_reset (eb mb : Nat) (g : GEnd) (s : GSt) (f n nv : Int) (sv : Option Addr) (len cb : Nat) (w : World) (h : Inv w eb mb g) (h0 : n ≠ 0) (hn : g.told? n = some s) (hr : s.st.reset ≠ 0) :
  Calls Tryz.prog 102 #[.pointer (some ⟨eb, 0, none⟩), .agg #[.int .i64 6, .int .i64 f, .int .i64 n, .slice sv len cb, .int .i64 nv]] w fun e w' => e = .returned (.tuple #[]) ∧ Below w.heap.size w w' := by
 have hbA : Below w.heap.size w (w.alloc (.cells #[.int .i64 6, .int .i64 f, .int .i64 n, .slice sv len cb, .int .i64 nv] 179)) := (Below.refl _ _).alloc (Nat.le_refl _) _
 have hA := h.below hbA
 have han := announcedX eb mb g n _ hA
 rw [hn] at han
 simp only at han
 have hrs := isReset_any s.sb s.st _ (hA.st (told_mem hn).1)
 rw [show (!(s.st.reset == 0)) = true from by simp [hr]] at hrs
 have HAN := hide han
 have HRS := hide hrs
 have HB := hide hbA
 have hne : (n == 0) = false := by simp [h0]
 clear h hn han hbA hA hrs
 go_enter Tryz.func102, Tryz.ntmps102
 go_wp2_with fail
 refine HAN.out.mono ?_
 rintro e w' ⟨hw', rfl⟩
 rw [hw']
 clear hw' w'
 go_wp2_with fail
 refine HRS.out.mono ?_
 rintro e w' ⟨rfl, hw'⟩
 rw [hw']
 clear hw' w'
 go_wp2
 exact bodyPost_ret (results_none rfl _ _ _) rfl ⟨rfl, HB.out⟩
end
section
def dataP (f n : Int) (sv : Option Addr) (len cb : Nat) (sc : Option Addr) (cl cc : Nat) : Value := .agg #[.int .i64 0, .int .i64 f, .int .i64 n, .slice sv len cb, .slice sc cl cc]
def GSt.morep (s : GSt) (n k : Nat) (c : List UInt8) (e : Bool) : GSt := { s with st := { s.st with receive := s.st.receive - n, owed := s.st.owed + k, hasAll := e }, un := s.un ++ c }
set_option maxRecDepth 100000 in
set_option maxHeartbeats 1200000 in
theorem comeData_pad (eb mb : Nat) (g : GEnd) (s : GSt) (f : Int) (sv : Option Addr) (len cb : Nat) (sc : Option Addr) (c : List UInt8) (cc k : Nat) (w : World) (h : Inv w eb mb g) (hs : s ∈ g.K) (ha : s.st.announced = true) (hh : s.st.hasAll = false) (hr : s.st.reset = 0) (hf : 0 ≤ f ∧ f ≤ 255) (hcl : ({ s.st with hasAll := hasB f 1 } : StM).closed = false) (hbd : BytesIn w (.slice sc c.length cc) c) (hbn : ∀ j, (Value.slice sc c.length cc).ownBlock = some j → ¬ Foot eb mb g j) (hlk : len = c.length + k) (hlen : len ≤ 1073741824) (hun : s.un.length ≤ 1073741824) (hfl : len = 0 ∨ ((len : Int) ≤ g.m.receive ∧ (len : Int) ≤ g.m.own + s.st.receive))
  (b1 : -1099511627776 ≤ g.m.receive ∧ g.m.receive ≤ 1099511627776) (b2 : -1099511627776 ≤ g.m.owed ∧ g.m.owed ≤ 1099511627776) (b3 : 0 ≤ g.m.count ∧ g.m.count ≤ 1099511627776) (b4 : -1099511627776 ≤ g.m.own ∧ g.m.own ≤ 1099511627776) (b5 : -1099511627776 ≤ s.st.receive ∧ s.st.receive ≤ 1099511627776) (b6 : -1099511627776 ≤ s.st.owed ∧ s.st.owed ≤ 1099511627776) :
  Calls Tryz.prog 95 #[.pointer (some ⟨eb, 0, none⟩), dataP f s.st.number sv len cb sc c.length cc] w fun e w' => e = .returned (.tuple #[]) ∧ ∃ g', g'.bare = ({ g with m := (g.m.got_ len).owes k, K := updN s.st.number (fun s => s.morep len k c (hasB f 1)) g.K } : GEnd).bare ∧ Next w w' eb mb g g' := by
 have hbA : Below w.heap.size w (w.alloc (.cells #[.int .i64 0, .int .i64 f, .int .i64 s.st.number, .slice sv len cb, .slice sc c.length cc] 162)) := (Below.refl _ _).alloc (Nat.le_refl _) _
 have hnew := heap_alloc_new w (.cells #[.int .i64 0, .int .i64 f, .int .i64 s.st.number, .slice sv len cb, .slice sc c.length cc] 162)
 obtain ⟨wA, hwA⟩ : ∃ wA, wA = w.alloc (.cells #[.int .i64 0, .int .i64 f, .int .i64 s.st.number, .slice sv len cb, .slice sc c.length cc] 162) := ⟨_, rfl⟩
 have hA := h.below hbA
 have han := announced_any eb mb g.m _ s.st.number _ hA.en h.km hA.kn
 rw [hA.find hs] at han
 simp only [GSt.str, ha, if_true] at han
 have hir := isReset_any s.sb s.st _ (hA.st hs)
 rw [show (!(s.st.reset == 0)) = false from by rw [hr]; rfl] at hir
 rw [← hwA] at hbA hA han hir hnew
 have HAN := hide han
 have HIR := hide hir
 have HRW := hide (receiveWindow_any eb s.sb g.m s.st wA hA.en (hA.st hs) (by omega) (by omega) (by omega) (by omega))
 have k9 := (hA.st hs).c9
 rw [hh] at k9
 have k10 := (hA.st hs).c10
 rw [hr] at k10
 have n2 : wA.cell? ⟨w.heap.size, 2, none⟩ = some (.int .i64 s.st.number) := by rw [cell_of_row _ _ _ _ _ _ hnew]; rfl
 have n3 : wA.cell? ⟨w.heap.size, 3, none⟩ = some (.slice sv len cb) := by rw [cell_of_row _ _ _ _ _ _ hnew]; rfl
 obtain ⟨b1a, b1b⟩ := b1
 obtain ⟨b2a, b2b⟩ := b2
 obtain ⟨hq1, hq2, hq3, hq4, hq5, hq6, hq7, hq8⟩ := counted_same { g.m with receive := g.m.receive - len } len
 have hsne := hA.st_eb hs
 -- behind the checks: at a world that is wA but for new blocks
 have HCELL : Hid (∀ wx, Below wA.heap.size wA wx → wx.cell? ⟨eb, 5, none⟩ = some (.int .i64 g.m.receive) ∧ wx.frozen? ⟨eb, 5, none⟩ = false ∧ (Calls Tryz.prog 129 #[.pointer (some ⟨eb, 13, none⟩), .int .i64 len] (wx.setCell ⟨eb, 5, none⟩ (.int .i64 (g.m.receive - len))) fun e w' => e = .returned (.tuple #[]) ∧ EnB w' eb (g.m.got_ len) ∧ Chg (fun j => j = eb) wA w')) := fun wx hx => by
  have hX := hA.below hx
  refine ⟨hX.en.c5, hX.en.fr 5, ?_⟩
  have hen5 : EnB (wx.setCell ⟨eb, 5, none⟩ (.int .i64 (g.m.receive - len))) eb { g.m with receive := g.m.receive - len } := EnB.of (blk_set hX.en.blk) rfl
  refine (tcount_any eb { g.m with receive := g.m.receive - len } len _ hen5 b3.1 (by have := b3.2; show g.m.count ≤ _; omega) (by omega) (by omega)).mono ?_
  rintro e w' ⟨h1, h2, h3⟩
  exact ⟨h1, h2, (chg_set (S := fun j => j = eb) (Chg.of_below hx) rfl).trans (h3.mono fun j _ e => Or.inr e)⟩
 have HIR2 : Hid (∀ w1, Chg (fun j => j = eb) wA w1 → Calls Tryz.prog 73 #[.pointer (some ⟨s.sb, 0, none⟩)] w1 fun e w' => e = .returned (.bool false) ∧ w' = w1) := fun w1 hc => by
  have := isReset_any s.sb s.st w1 ((hA.st hs).chg hc hsne)
  rw [show (!(s.st.reset == 0)) = false from by rw [hr]; rfl] at this
  exact this
 have HBOX : Hid (∀ w1, Chg (fun j => j = eb) wA w1 → w1.heap[w.heap.size]? = some (.cells #[.int .i64 0, .int .i64 f, .int .i64 s.st.number, .slice sv len cb, .slice sc c.length cc] 162 (0, 0))) := fun w1 hc => by
  rw [hc.block _ (lt_of_block hnew) (by have := h.en.lt; omega)]
  exact hnew
 have HKEEP : Hid (∀ w1, EnB w1 eb (g.m.got_ len) → Chg (fun j => j = eb) wA w1 → Calls Tryz.prog 130 #[.pointer (some ⟨eb, 0, none⟩), .pointer (some ⟨s.sb, 0, none⟩), .agg #[.int .i64 0, .int .i64 f, .int .i64 s.st.number, .slice sv len cb, .slice sc c.length cc]] w1 fun e w' => e = .returned (.tuple #[]) ∧ ∃ g', g'.bare = ({ g with m := (g.m.got_ len).owes k, K := updN s.st.number (fun s => s.morep len k c (hasB f 1)) g.K } : GEnd).bare ∧ Next w w' eb mb g g') := fun w1 he hc => by
  have hs1 := (hA.st hs).chg hc hsne
  have hu1 := owns_chg (hA.un s hs) hc (fun j hj e => by rw [e] at hj; exact owns_ne (hA.un s hs) hA.en.blk (by decide) hj)
  have hcw : Chg (fun j => j = eb) w w1 := (Chg.of_below hbA).trans (hc.mono fun j _ e => Or.inr e)
  have hby1 : BytesIn w1 (.slice sc c.length cc) c := hbd.chg hcw (fun j hj e => hbn j hj (Or.inl e))
  refine (keep_any eb s.sb (g.m.got_ len) s.st s.un c 0 f s.st.number sv len k cb sc cc w1 he hs1 hu1 hby1 (fun j hj => ⟨fun e => hbn j hj (Or.inl e), fun e => hbn j hj (by rw [e]; exact h.foot_st hs)⟩) hlk hf hcl hun (by omega) (by omega) (by rw [show (g.m.got_ len).owed = g.m.owed from hq7]; omega) (by omega) (by omega)).mono ?_
  rintro e w' ⟨rfl, v, hk⟩
  refine ⟨rfl, ?_⟩
  have hen' : EnB w' eb ((g.m.got_ len).owes k) := hk.en
  have hcc : Chg (fun j => j = eb ∨ j = s.sb ∨ s.st.unread.ownBlock = some j) w w' := (hcw.mono fun j _ e => Or.inl e).trans (hk.chg.mono fun j _ e => Or.inr e)
  have keep : ∀ {k : Nat} {v' : Value} {xs : List Value} {ty : TypeId}, w.ownsRow 0 ty 1 v' k xs → (∀ j, v'.ownBlock = some j → j ≠ eb ∧ j ≠ s.sb ∧ s.st.unread.ownBlock ≠ some j) → w'.ownsRow 0 ty 1 v' k xs := fun hr hj => owns_chg hr hcc (fun j hjj e => by
   obtain ⟨a, b, c⟩ := hj j hjj
   rcases e with e | e | e
   ·exact a e
   ·exact b e
   ·exact c e)
  refine ⟨_, ?_, h.onSt (S := fun j => j = eb ∨ j = s.sb ∨ s.st.unread.ownBlock = some j) (m' := (g.m.got_ len).owes k) (s := s) (s' := ⟨s.sb, s.st.kept len k v (hasB f 1), s.un ++ c, s.wa⟩) (L' := g.L) (o' := g.out) (3 + 2 * s.sb) hs hcc ?_ hen' hk.st rfl rfl hq1 hq3 hq5 hq6 ?_ (fun j hj => Or.inl (by rw [← hq2]; exact hj)) (List.Sublist.refl _) ?_ (fun j hj => Or.inl (by rw [← hq4]; exact hj)) hk.row ?_ ?_ (fun j hj => Or.inl hj)⟩
  ·unfold GEnd.bare
   simp only [GEnd.mk.injEq, true_and, and_true]
   rw [updN, updN, List.map_map, List.map_map]
   apply List.map_congr_left
   intro x hx
   show (if x.st.number = s.st.number then _ else x).bare = (if x.st.number = s.st.number then _ else x).bare
   by_cases e : x.st.number = s.st.number
   ·rw [if_pos e, if_pos e, inj_nd (fun s : GSt => s.st.number) h.nn hx hs e]
    unfold GSt.bare GSt.morep StM.bare StM.kept
    simp
   ·rw [if_neg e, if_neg e]
  ·rintro j (e | e | e)
   ·exact Or.inl e
   ·exact Or.inr (Or.inl e)
   ·exact Or.inr (Or.inr (Or.inr (Or.inr (Or.inl e))))
  ·rw [show ((g.m.got_ len).owes k).opn = g.m.opn from hq2]
   exact keep h.row (fun j hj => ⟨fun e => by rw [e] at hj; exact owns_ne h.row h.en.blk (by decide) hj, fun e => by rw [e] at hj; exact owns_ne h.row (h.st hs).blk (by decide) hj, fun e => rows_ne (h.un s hs) h.row (by decide) e hj⟩)
  ·rw [show ((g.m.got_ len).owes k).out = g.m.out from hq4]
   exact keep h.out (fun j hj => ⟨fun e => by rw [e] at hj; exact owns_ne h.out h.en.blk (by decide) hj, fun e => by rw [e] at hj; exact owns_ne h.out (h.st hs).blk (by decide) hj, fun e => h.out_un hs e hj⟩)
  ·intro j hj
   rcases hk.fresh j hj with a | a
   ·exact Or.inl a
   ·exact Or.inr ⟨Nat.le_trans hcw.size a, rfl⟩
  ·exact keep (h.wa s hs) (fun j hj => ⟨fun e => by rw [e] at hj; exact owns_ne (h.wa s hs) h.en.blk (by decide) hj, fun e => by rw [e] at hj; exact owns_ne (h.wa s hs) (h.st hs).blk (by decide) hj, fun e => h.un_wa hs hs e hj⟩)
 have hlt : eb < wA.heap.size := hA.en.lt
 have hw1 : IntKind.i64.wrap (g.m.receive - (len : Int)) = g.m.receive - len := by rw [IntKind.wrap_i64]; omega
 have HWA := hide hwA
 have k5 := hA.en.c5
 clear h hA han hir hbA hnew hq1 hq2 hq3 hq4 hq5 hq6 hq7 hq8 b3 hbd hbn hlk
 unfold dataP
 go_enter Tryz.func95, Tryz.ntmps95
 go_wp2_with fail
 rw [← HWA.out]
 clear hwA
 refine HAN.out.mono ?_
 rintro e w' ⟨hw', rfl⟩
 rw [hw']
 clear hw' w'
 by_cases hz : len = 0
 ·have hge : ((1 : Int) ≤ (len : Int)) = False := eq_false (by omega)
  clear hz hfl
  obtain ⟨-, f5, htc⟩ := HCELL.out wA (Below.refl _ _)
  have HTC := hide htc
  clear htc
  go_wp2_with fail
  refine HTC.out.mono ?_
  rintro e w1 ⟨rfl, he1, hc1⟩
  have HI2 := hide (HIR2.out w1 hc1)
  have HK := hide (HKEEP.out w1 he1 hc1)
  have hbx := HBOX.out w1 hc1
  have q0 : w1.cell? ⟨w.heap.size, 0, none⟩ = some (.int .i64 0) := by rw [cell_of_row _ _ _ _ _ _ hbx]; rfl
  have q1 : w1.cell? ⟨w.heap.size, 1, none⟩ = some (.int .i64 f) := by rw [cell_of_row _ _ _ _ _ _ hbx]; rfl
  have q2 : w1.cell? ⟨w.heap.size, 2, none⟩ = some (.int .i64 s.st.number) := by rw [cell_of_row _ _ _ _ _ _ hbx]; rfl
  have q3 : w1.cell? ⟨w.heap.size, 3, none⟩ = some (.slice sv len cb) := by rw [cell_of_row _ _ _ _ _ _ hbx]; rfl
  have q4 : w1.cell? ⟨w.heap.size, 4, none⟩ = some (.slice sc c.length cc) := by rw [cell_of_row _ _ _ _ _ _ hbx]; rfl
  clear he1 hc1 hbx
  go_wp2_with fail
  refine HI2.out.mono ?_
  rintro e w' ⟨rfl, hw'⟩
  rw [hw']
  clear hw' w'
  go_wp2_with fail
  refine HK.out.mono ?_
  rintro e w' ⟨rfl, hx⟩
  have HX := hide hx
  clear hx
  go_wp2
  exact bodyPost_end (results_none rfl _ _ _) rfl ⟨rfl, HX.out⟩
 ·have hge : ((1 : Int) ≤ (len : Int)) = True := eq_true (by omega)
  have hgt : ((g.m.receive : Int) < (len : Int)) = False := eq_false (by omega)
  have hgt2 : (g.m.own + s.st.receive < (len : Int)) = False := eq_false (by omega)
  clear hz hfl
  go_wp2_with fail
  refine HIR.out.mono ?_
  rintro e w' ⟨rfl, hw'⟩
  rw [hw']
  clear hw' w'
  go_wp2_with fail
  refine HRW.out.mono ?_
  rintro e wB ⟨rfl, hbB⟩
  obtain ⟨k5B, f5, htc⟩ := HCELL.out wB hbB
  have HTC := hide htc
  clear htc
  go_wp2_with fail
  refine HTC.out.mono ?_
  rintro e w1 ⟨rfl, he1, hc1⟩
  have HI2 := hide (HIR2.out w1 hc1)
  have HK := hide (HKEEP.out w1 he1 hc1)
  have hbx := HBOX.out w1 hc1
  have q0 : w1.cell? ⟨w.heap.size, 0, none⟩ = some (.int .i64 0) := by rw [cell_of_row _ _ _ _ _ _ hbx]; rfl
  have q1 : w1.cell? ⟨w.heap.size, 1, none⟩ = some (.int .i64 f) := by rw [cell_of_row _ _ _ _ _ _ hbx]; rfl
  have q2 : w1.cell? ⟨w.heap.size, 2, none⟩ = some (.int .i64 s.st.number) := by rw [cell_of_row _ _ _ _ _ _ hbx]; rfl
  have q3 : w1.cell? ⟨w.heap.size, 3, none⟩ = some (.slice sv len cb) := by rw [cell_of_row _ _ _ _ _ _ hbx]; rfl
  have q4 : w1.cell? ⟨w.heap.size, 4, none⟩ = some (.slice sc c.length cc) := by rw [cell_of_row _ _ _ _ _ _ hbx]; rfl
  clear he1 hc1 hbx
  go_wp2_with fail
  refine HI2.out.mono ?_
  rintro e w' ⟨rfl, hw'⟩
  rw [hw']
  clear hw' w'
  go_wp2_with fail
  refine HK.out.mono ?_
  rintro e w' ⟨rfl, hx⟩
  have HX := hide hx
  clear hx
  go_wp2
  exact bodyPost_end (results_none rfl _ _ _) rfl ⟨rfl, HX.out⟩
section
variable (eb mb : Nat) (g : GEnd) (w : World) (R : World → Prop)
end
theorem cut_in {w : World} {f : Int} {bv cv : Value} {b : List UInt8} (hp : hasB f 8 = true) (hb : BytesIn w bv b) (hc : ContV f bv cv b) (h1 : 1 ≤ b.length) : ∃ sc cc, cv = .slice sc (cutB f b).length cc ∧ BytesIn w cv (cutB f b) ∧ ∀ j, cv.ownBlock = some j → bv.ownBlock = some j := by
 unfold ContV at hc
 rw [hp] at hc
 simp only [if_true] at hc
 obtain ⟨g, off, cap, rfl, o, rfl, ho⟩ := hc
 rcases hb with ⟨e, -⟩ | ⟨bb, off', cap', e, h2, h3, h4⟩
 ·cases e
 ·simp only [Value.slice.injEq, Option.some.injEq, Addr.mk.injEq, true_and, and_true] at e
  obtain ⟨⟨rfl, rfl⟩, rfl⟩ := e
  have hl : (cutB f b).length ≤ b.length - 1 := by
   unfold cutB
   rw [hp]
   simp
  refine ⟨_, _, rfl, Or.inr ⟨g, o, cap - 1, rfl, h2, by omega, fun i hi => ?_⟩, fun j hj => by simpa [Value.ownBlock] using hj⟩
  rw [ho (by omega), show off + 1 + i = off + (1 + i) from by omega, h4 (1 + i) (by omega)]
  have e2 : (cutB f b).getD i 0 = b.getD (1 + i) 0 := by
   have hi2 := hi
   unfold cutB at hi2 ⊢
   rw [hp] at hi2 ⊢
   simp only [if_true, List.length_take, List.length_drop] at hi2 ⊢
   simp only [List.getD_eq_getElem?_getD]
   rw [List.getElem?_take_of_lt (by omega), List.getElem?_drop]
  rw [e2]
end
section
set_option maxRecDepth 100000 in
set_option maxHeartbeats 800000 in
theorem comeData_flow1 (eb mb : Nat) (g : GEnd) (s : GSt) (f : Int) (sv : Option Addr) (len cb : Nat) (sc : Option Addr) (cl cc : Nat) (w : World) (h : Inv w eb mb g) (hs : s ∈ g.K) (ha : s.st.announced = true) (hh : s.st.hasAll = false) (hr : s.st.reset = 0) (hl : 1 ≤ (len : Int) ∧ g.m.receive < (len : Int)) :
  Calls Tryz.prog 95 #[.pointer (some ⟨eb, 0, none⟩), dataP f s.st.number sv len cb sc cl cc] w fun e w' => e = .panicked [{ v := .iface 41 (.int .i64 12), recovered := false }] ∧ Below w.heap.size w w' := by
 have hbA : Below w.heap.size w (w.alloc (.cells #[.int .i64 0, .int .i64 f, .int .i64 s.st.number, .slice sv len cb, .slice sc cl cc] 162)) := (Below.refl _ _).alloc (Nat.le_refl _) _
 have hA := h.below hbA
 have han := announced_any eb mb g.m _ s.st.number _ hA.en h.km hA.kn
 rw [hA.find hs] at han
 simp only [GSt.str, ha, if_true] at han
 have HAN := hide han
 have k9 := (hA.st hs).c9
 rw [hh] at k9
 have k10 := (hA.st hs).c10
 rw [hr] at k10
 have c5 := hA.en.c5
 have HB := hide hbA
 obtain ⟨l1, l2⟩ := hl
 clear h hA han hbA
 unfold dataP
 go_enter Tryz.func95, Tryz.ntmps95
 go_wp2_with fail
 refine HAN.out.mono ?_
 rintro e w' ⟨hw', rfl⟩
 rw [hw']
 clear hw' w'
 go_wp2
 exact ⟨rfl, rfl, HB.out⟩
set_option maxRecDepth 100000 in
set_option maxHeartbeats 800000 in
theorem comeData_flow2 (eb mb : Nat) (g : GEnd) (s : GSt) (f : Int) (sv : Option Addr) (len cb : Nat) (sc : Option Addr) (cl cc : Nat) (w : World) (h : Inv w eb mb g) (hs : s ∈ g.K) (ha : s.st.announced = true) (hh : s.st.hasAll = false) (hr : s.st.reset = 0) (hl : 1 ≤ (len : Int) ∧ (len : Int) ≤ g.m.receive ∧ g.m.own + s.st.receive < (len : Int)) (b4 : -1099511627776 ≤ g.m.own ∧ g.m.own ≤ 1099511627776) (b5 : -1099511627776 ≤ s.st.receive ∧ s.st.receive ≤ 1099511627776) :
  Calls Tryz.prog 95 #[.pointer (some ⟨eb, 0, none⟩), dataP f s.st.number sv len cb sc cl cc] w fun e w' => e = .panicked [{ v := .iface 41 (.int .i64 12), recovered := false }] ∧ Below w.heap.size w w' := by
 have hbA : Below w.heap.size w (w.alloc (.cells #[.int .i64 0, .int .i64 f, .int .i64 s.st.number, .slice sv len cb, .slice sc cl cc] 162)) := (Below.refl _ _).alloc (Nat.le_refl _) _
 have hA := h.below hbA
 have han := announced_any eb mb g.m _ s.st.number _ hA.en h.km hA.kn
 rw [hA.find hs] at han
 simp only [GSt.str, ha, if_true] at han
 have hir := isReset_any s.sb s.st _ (hA.st hs)
 rw [show (!(s.st.reset == 0)) = false from by rw [hr]; rfl] at hir
 have HAN := hide han
 have HIR := hide hir
 have HRW := hide (receiveWindow_any eb s.sb g.m s.st _ hA.en (hA.st hs) (by omega) (by omega) (by omega) (by omega))
 have k9 := (hA.st hs).c9
 rw [hh] at k9
 have k10 := (hA.st hs).c10
 rw [hr] at k10
 have c5 := hA.en.c5
 have HB := hide hbA
 obtain ⟨l1, l2, l3⟩ := hl
 have hge : ((1 : Int) ≤ (len : Int)) = True := eq_true (by omega)
 have hgt : ((g.m.receive : Int) < (len : Int)) = False := eq_false (by omega)
 have hgt2 : (g.m.own + s.st.receive < (len : Int)) = True := eq_true (by omega)
 clear h hA han hir hbA l1 l2 l3
 unfold dataP
 go_enter Tryz.func95, Tryz.ntmps95
 go_wp2_with fail
 refine HAN.out.mono ?_
 rintro e w' ⟨hw', rfl⟩
 rw [hw']
 clear hw' w'
 go_wp2_with fail
 refine HIR.out.mono ?_
 rintro e w' ⟨rfl, hw'⟩
 rw [hw']
 clear hw' w'
 go_wp2_with fail
 refine HRW.out.mono ?_
 rintro e wB ⟨rfl, hbB⟩
 have HBB : Hid (Below w.heap.size w wB) := HB.out.trans (hbB.mono HB.out.size)
 clear hbB
 go_wp2
 exact ⟨rfl, rfl, HBB.out⟩
theorem comeData_flowP (eb mb : Nat) (g : GEnd) (s : GSt) (f : Int) (sv : Option Addr) (len cb : Nat) (sc : Option Addr) (cl cc : Nat) (w : World) (h : Inv w eb mb g) (hs : s ∈ g.K) (ha : s.st.announced = true) (hh : s.st.hasAll = false) (hr : s.st.reset = 0) (h1 : 1 ≤ (len : Int)) (hl : g.m.receive < (len : Int) ∨ g.m.own + s.st.receive < (len : Int)) (b4 : -1099511627776 ≤ g.m.own ∧ g.m.own ≤ 1099511627776) (b5 : -1099511627776 ≤ s.st.receive ∧ s.st.receive ≤ 1099511627776) :
  Calls Tryz.prog 95 #[.pointer (some ⟨eb, 0, none⟩), dataP f s.st.number sv len cb sc cl cc] w fun e w' => e = .panicked [{ v := .iface 41 (.int .i64 12), recovered := false }] ∧ Below w.heap.size w w' := by
 by_cases hc : g.m.receive < (len : Int)
 ·exact comeData_flow1 eb mb g s f sv len cb sc cl cc w h hs ha hh hr ⟨h1, hc⟩
 ·exact comeData_flow2 eb mb g s f sv len cb sc cl cc w h hs ha hh hr ⟨h1, by omega, by omega⟩ b4 b5
section
variable (eb mb : Nat) (g : GEnd) (w : World) (R S : World → Prop) (code : Int)
end
end
section
set_option maxRecDepth 100000 in
set_option maxHeartbeats 1600000 in
theorem comeData_noneP (eb mb : Nat) (g : GEnd) (f n : Int) (sv : Option Addr) (len cb : Nat) (sc : Option Addr) (cl cc : Nat) (w : World) (h : Inv w eb mb g) (hn : g.told? n = none) :
  Calls Tryz.prog 95 #[.pointer (some ⟨eb, 0, none⟩), dataP f n sv len cb sc cl cc] w fun e w' => e = faultE 11 ∧ Below w.heap.size w w' := by
 have hbA : Below w.heap.size w (w.alloc (.cells #[.int .i64 0, .int .i64 f, .int .i64 n, .slice sv len cb, .slice sc cl cc] 162)) := (Below.refl _ _).alloc (Nat.le_refl _) _
 have hA := h.below hbA
 have han := announcedX eb mb g n _ hA
 rw [hn] at han
 have HAN := hide han
 have HB := hide hbA
 clear h hA han hbA
 unfold dataP
 go_enter Tryz.func95, Tryz.ntmps95
 go_wp2_with fail
 refine HAN.out.mono ?_
 rintro e w' ⟨hw', rfl⟩
 simp only [faultE]
 rw [hw']
 clear hw' w'
 go_wp2
 exact ⟨rfl, rfl, HB.out⟩
set_option maxRecDepth 100000 in
set_option maxHeartbeats 1600000 in
theorem comeData_goneP (eb mb : Nat) (g : GEnd) (s : GSt) (f : Int) (sv : Option Addr) (len cb : Nat) (sc : Option Addr) (cl cc : Nat) (w : World) (h : Inv w eb mb g) (hs : s ∈ g.K) (ha : s.st.announced = true) (hr : s.st.hasAll = true ∨ s.st.reset = 2) :
  Calls Tryz.prog 95 #[.pointer (some ⟨eb, 0, none⟩), dataP f s.st.number sv len cb sc cl cc] w fun e w' => e = .panicked [{ v := .iface 41 (.int .i64 11), recovered := false }] ∧ Below w.heap.size w w' := by
 have hbA : Below w.heap.size w (w.alloc (.cells #[.int .i64 0, .int .i64 f, .int .i64 s.st.number, .slice sv len cb, .slice sc cl cc] 162)) := (Below.refl _ _).alloc (Nat.le_refl _) _
 have hA := h.below hbA
 have han := announced_any eb mb g.m _ s.st.number _ hA.en h.km hA.kn
 rw [hA.find hs] at han
 simp only [GSt.str, ha, if_true] at han
 have HAN := hide han
 have k9 := (hA.st hs).c9
 have k10 := (hA.st hs).c10
 have HB := hide hbA
 clear h hA han hbA
 unfold dataP
 cases hh : s.st.hasAll with
 | true =>
  rw [hh] at k9
  clear hr
  go_enter Tryz.func95, Tryz.ntmps95
  go_wp2_with fail
  refine HAN.out.mono ?_
  rintro e w' ⟨hw', rfl⟩
  rw [hw']
  clear hw' w'
  go_wp2
  exact ⟨rfl, rfl, HB.out⟩
 | false =>
  rw [hh] at k9 hr
  have hr2 : s.st.reset = 2 := by
   rcases hr with e | e
   ·cases e
   ·exact e
  rw [hr2] at k10
  clear hr hr2
  go_enter Tryz.func95, Tryz.ntmps95
  go_wp2_with fail
  refine HAN.out.mono ?_
  rintro e w' ⟨hw', rfl⟩
  rw [hw']
  clear hw' w'
  go_wp2
  exact ⟨rfl, rfl, HB.out⟩
end
section
def MadeO (w w' : World) (eb mb : Nat) (g : GEnd) (o : Option GEnd) (e : Ending) : Prop := match o with
 | none => e = .returned (.bool false) ∧ Below w.heap.size w w'
 | some q => e = .returned (.bool true) ∧ ∃ g', g'.bare = q.bare ∧ Next w w' eb mb g g'
theorem own_shape {v : Value} {j : Nat} (h : v.ownBlock = some j) : ∃ a n c, v = .slice (some a) n c := by
 cases v with
 | slice s n c =>
  cases s with
  | none => simp [Value.ownBlock] at h
  | some a => exact ⟨a, n, c, rfl⟩
 | _ => simp [Value.ownBlock] at h
theorem RowAt.tail {w : World} {e : TypeId} {size n : Nat} {g o cap : Nat} {x xs : List Value} (hx : x.length = size) (h : RowAt w e size (.slice (some ⟨g, o, none⟩) (n + 1) cap) (n + 1) (x ++ xs)) : RowAt w e size (.slice (some ⟨g, o + size, none⟩) n (cap - 1)) n xs ∧ (cap = 1 → RowAt w e size (.slice (some ⟨g, o, none⟩) 0 0) n xs ∧ n = 0) := by
 obtain ⟨h0, h1⟩ := h
 rcases h1 with ⟨h1, -⟩ | ⟨g', o', cap', cur, h1, h3, h4, h5, h6, h7⟩
 ·cases h1
 ·simp only [Value.slice.injEq, Option.some.injEq, Addr.mk.injEq, and_true, true_and] at h1
  obtain ⟨⟨rfl, rfl⟩, rfl⟩ := h1
  rw [List.length_append, hx, Nat.add_mul, Nat.one_mul] at h0
  have hl : xs.length = n * size := by omega
  rw [Nat.add_mul, Nat.one_mul] at h7
  have h6' : o + size + (cap - 1) * size ≤ cur.size := by
   have e : cap * size = size + (cap - 1) * size := by
    have : cap = (cap - 1) + 1 := by omega
    rw [this, Nat.add_mul, Nat.one_mul, Nat.add_sub_cancel]
    omega
   omega
  have ht : (cur.toList.drop (o + size)).take (n * size) = xs := by
   have : ((cur.toList.drop o).take (n * size + size)).drop size = xs := by rw [h7, List.drop_left' hx]
   rw [List.drop_take, List.drop_drop, Nat.add_sub_cancel] at this
   exact this
  refine ⟨⟨hl, Or.inr ⟨g, o + size, cap - 1, cur, rfl, h3, by omega, by omega, h6', ht⟩⟩, fun hc => ?_⟩
  have hn : n = 0 := by omega
  subst hn
  refine ⟨⟨hl, Or.inr ⟨g, o, 0, cur, rfl, h3, Nat.le_refl _, Nat.zero_le _, by omega, ?_⟩⟩, rfl⟩
  rw [Nat.zero_mul, List.take_zero]
  rw [Nat.zero_mul] at hl
  exact (List.length_eq_zero_iff.1 hl).symm
theorem RowAt.cellAt {w : World} {e : TypeId} {size n : Nat} {g o cap : Nat} {xs : List Value} (h : RowAt w e size (.slice (some ⟨g, o, none⟩) n cap) n xs) {i : Nat} (hi : i < n * size) : w.cell? ⟨g, o + i, none⟩ = xs[i]? := by
 obtain ⟨h0, h1⟩ := h
 rcases h1 with ⟨h1, -⟩ | ⟨g', o', cap', cur, h1, h3, h4, h5, h6, h7⟩
 ·cases h1
 ·simp only [Value.slice.injEq, Option.some.injEq, Addr.mk.injEq, and_true, true_and] at h1
  obtain ⟨⟨rfl, rfl⟩, rfl⟩ := h1
  rw [cell_of_row w g _ _ _ _ h3, ← h7, List.getElem?_take, if_pos hi, List.getElem?_drop, Array.getElem?_toList]
theorem RowAt.shape {w : World} {e : TypeId} {size n : Nat} {v : Value} {xs : List Value} (h : RowAt w e size v (n + 1) xs) : ∃ g o cap, v = .slice (some ⟨g, o, none⟩) (n + 1) cap ∧ n + 1 ≤ cap ∧ cap ≤ maxLen ∧ g < w.heap.size := by
 rcases h.2 with ⟨_, h1⟩ | ⟨g', o', cap', cur, h1, h3, h4, h5, h6, h7⟩
 ·omega
 ·exact ⟨_, _, _, h1, h4, h5, lt_of_block h3⟩
theorem RowAt.len {w : World} {e : TypeId} {size n : Nat} {v : Value} {xs : List Value} (h : RowAt w e size v n xs) : ∃ s cap, v = .slice s n cap := by
 rcases h.2 with ⟨rfl, rfl⟩ | ⟨g', o', cap', cur, h1, h3, h4, h5, h6, h7⟩
 ·exact ⟨_, _, rfl⟩
 ·exact ⟨_, _, h1⟩
set_option maxRecDepth 100000 in
set_option maxHeartbeats 1600000 in
theorem i_makeAnswer (eb mb : Nat) (g : GEnd) (w : World) (h : Inv w eb mb g) (hf : FineB g) (hl : g.out.length ≤ 1073741824) :
  Calls Tryz.prog 83 #[.pointer (some ⟨eb, 0, none⟩)] w fun e w' => MadeO w w' eb mb g g.oAnswer e := by
 have c42 := h.en.c42
 cases ha : g.ans with
 | nil =>
  have hr := h.ans
  rw [ha] at hr
  obtain ⟨s, cap, hv⟩ := hr.len
  rw [hv] at c42
  have ho : g.oAnswer = none := by unfold GEnd.oAnswer; rw [ha]
  rw [ho]
  clear h hf ha hr hv ho
  go_enter Tryz.func83, Tryz.ntmps83
  go_wp2
  go_ret
  exact ⟨rfl, Below.refl _ _⟩
 | cons a r =>
  have hr := h.ans
  rw [ha, List.length_cons, List.flatMap_cons] at hr
  obtain ⟨ga, oa, ca, hv, hca, hcm, hga⟩ := hr.shape
  rw [hv] at c42 hr
  obtain ⟨ht1, ht2⟩ := RowAt.tail (x := a.cells) rfl hr
  have k0 : w.cell? ⟨ga, oa, none⟩ = some (.int .i64 a.kind) := by have := hr.cellAt (i := 0) (by omega); rw [Nat.add_zero] at this; rw [this]; rfl
  have k1 : w.cell? ⟨ga, oa + 1, none⟩ = some (.int .i64 a.flags) := by rw [hr.cellAt (i := 1) (by omega)]; rfl
  have k2 : w.cell? ⟨ga, oa + 2, none⟩ = some (.int .i64 0) := by rw [hr.cellAt (i := 2) (by omega)]; rfl
  have k3 : w.cell? ⟨ga, oa + 3, none⟩ = some a.bv := by rw [hr.cellAt (i := 3) (by omega)]; rfl
  have ham : a ∈ g.ans := by rw [ha]; exact List.mem_cons_self
  obtain ⟨f1, f2, f3, f4, f5⟩ := hf.ans a ham
  have hb := h.anb a ham
  obtain ⟨sa, cap, hbv⟩ := slice_len hb
  rw [hbv] at hb k3
  have HP := hide (en_put eb g.m g.out a.kind a.flags 0 sa a.body cap w h.en hf.greets h.out hl f1 f2 f3 f4 (by omega) (by omega) f5 (bytesIn_of_owns hb rfl))
  have ho : g.oAnswer = some { g with ans := r, out := g.out ++ lay a.kind a.flags 0 a.body } := by unfold GEnd.oAnswer; rw [ha]
  rw [ho]
  -- what is left behind the frame
  have HN : Hid (∀ (w1 : World) (v vt : Value), Put w w1 eb g.m g.out (lay a.kind a.flags 0 a.body) v → (vt.ownBlock = some ga) → RowAt w 48 4 vt r.length (r.flatMap Ans.cells) → MadeO w (w1.setCell ⟨eb, 42, none⟩ vt) eb mb g (some { g with ans := r, out := g.out ++ lay a.kind a.flags 0 a.body }) (.returned (.bool true))) := fun w1 v vt hp hvt hrow => by
   have hn := h.put rfl rfl rfl rfl rfl rfl hp
   have hrow1 : RowAt w1 48 4 vt r.length (r.flatMap Ans.cells) := hrow.chg hp.chg (fun j hj e => by
    rcases e with e | e
    ·rw [e] at hj; exact hrow.ne h.en.blk (by decide) hj
    ·exact rows_ne2 h.out hrow (by decide) e hj)
   have hn2 := hn.inv.onEnd (S := fun j => j = eb) (w' := w1.setCell ⟨eb, 42, none⟩ vt) (m' := { g.m with out := v, answers := vt }) (A' := r) (o' := g.out ++ lay a.kind a.flags 0 a.body) (R' := g.res) (chg_set (Chg.refl _ _) rfl) (fun j e => Or.inl e) (EnB.of (blk_set hp.b.blk) rfl) rfl rfl rfl
    (owns_chg hn.inv.out (chg_set (S := fun j => j = eb) (Chg.refl _ _) rfl) (fun j hj e => by rw [e] at hj; exact owns_ne hn.inv.out hn.inv.en.blk (by decide) hj)) (fun j hj => Or.inl hj) hrow1 (fun b hb => by rw [show ({ g with m := { g.m with out := v }, out := g.out ++ lay a.kind a.flags 0 a.body } : GEnd).ans = g.ans from rfl, ha]; exact List.mem_cons_of_mem _ hb) (fun j hj => by
     have e1 : ({ g.m with out := v, answers := vt } : EndM).answers.ownBlock = some ga := hvt
     rw [e1] at hj
     rw [← hj]
     show g.m.answers.ownBlock = _
     rw [hv]; rfl) hn.inv.res (fun j hj => hj)
   refine ⟨rfl, _, ?_, hn.trans hn2⟩
   obtain ⟨sx, lx, cx, hvx⟩ := own_shape hvt
   subst hvx
   unfold GEnd.bare EndM.bare
   simp only [hv]
   rfl
  have hlt := h.en.lt
  clear h hf ha hr ho hb ham
  have hn1 : 1 ≤ r.length + 1 := by omega
  by_cases hc1 : ca = 1
  ·obtain ⟨ht3, hn0⟩ := ht2 hc1
   subst hc1
   have hr0 : r.length + 1 = 1 := by omega
   rw [hr0] at c42 hv
   have HT := hide ht3
   have HV := hide hv
   clear ht1 ht2 ht3 hv hbv hn0 hr0
   go_enter Tryz.func83, Tryz.ntmps83
   go_wp2_with fail
   refine HP.out.mono ?_
   rintro e w1 ⟨rfl, v, hp⟩
   have d42 : w1.cell? ⟨eb, 42, none⟩ = some (.slice (some ⟨ga, oa, none⟩) 1 1) := by rw [hp.b.c42]; exact congrArg some HV.out
   have f42 := hp.b.fr 42
   have HPP := hide hp
   clear hp
   go_wp2
   go_ret
   exact HN.out w1 v _ HPP.out rfl HT.out
  ·have HT := hide ht1
   have HV := hide hv
   have hc2 : 1 ≤ ca := by omega
   clear ht1 ht2 hv hbv
   go_enter Tryz.func83, Tryz.ntmps83
   go_wp2_with fail
   refine HP.out.mono ?_
   rintro e w1 ⟨rfl, v, hp⟩
   have d42 : w1.cell? ⟨eb, 42, none⟩ = some (.slice (some ⟨ga, oa, none⟩) (r.length + 1) ca) := by rw [hp.b.c42]; exact congrArg some HV.out
   have f42 := hp.b.fr 42
   have HPP := hide hp
   clear hp
   go_wp2
   go_ret
   exact HN.out w1 v _ HPP.out rfl HT.out
set_option maxRecDepth 100000 in
set_option maxHeartbeats 1600000 in
theorem i_makeReset (eb mb : Nat) (g : GEnd) (w : World) (h : Inv w eb mb g) (hf : FineB g) (hl : g.out.length ≤ 1073741824) :
  Calls Tryz.prog 88 #[.pointer (some ⟨eb, 0, none⟩)] w fun e w' => MadeO w w' eb mb g g.oReset e := by
 have c43 := h.en.c43
 cases ha : g.res with
 | nil =>
  have hr := h.res
  rw [ha] at hr
  obtain ⟨s, cap, hv⟩ := hr.len
  rw [hv] at c43
  have ho : g.oReset = none := by unfold GEnd.oReset; rw [ha]
  rw [ho]
  clear h hf ha hr hv ho
  go_enter Tryz.func88, Tryz.ntmps88
  go_wp2
  go_ret
  exact ⟨rfl, Below.refl _ _⟩
 | cons a r =>
  have hr := h.res
  rw [ha, List.length_cons, List.map_cons] at hr
  obtain ⟨ga, oa, ca, hv, hca, hcm, hga⟩ := hr.shape
  rw [hv] at c43 hr
  obtain ⟨ht1, ht2⟩ := RowAt.tail (x := [.int .i64 a]) rfl hr
  have k0 : w.cell? ⟨ga, oa, none⟩ = some (.int .i64 a) := by have := hr.cellAt (i := 0) (by omega); rw [Nat.add_zero] at this; rw [this]; rfl
  have ham : a ∈ g.res := by rw [ha]; exact List.mem_cons_self
  obtain ⟨f1, f2⟩ := hf.res a ham
  have HP : Hid (∀ w0, Below w.heap.size w w0 → BytesIn w0 (.slice (some ⟨w.heap.size, 0, none⟩) 1 1) [0] → Calls Tryz.prog 111 #[.pointer (some ⟨eb, 0, none⟩), .agg #[.int .i64 2, .int .i64 0, .int .i64 a, .slice (some ⟨w.heap.size, 0, none⟩) 1 1]] w0 fun e w' => e = .returned (.tuple #[]) ∧ ∃ v, Put w w' eb g.m g.out (lay 2 0 a [0]) v) := fun w0 hb0 hby => by
   have h0 := h.below hb0
   refine (en_put eb g.m g.out 2 0 a _ [0] 1 w0 h0.en hf.greets h0.out hl (by omega) (by omega) (by omega) (by omega) f1 f2 (by decide) hby).mono ?_
   rintro e w' ⟨rfl, v, hp⟩
   exact ⟨rfl, v, hp.pre (w := w) (Chg.refl _ _) hb0⟩
  have ho : g.oReset = some { g with res := r, out := g.out ++ lay 2 0 a [0] } := by unfold GEnd.oReset; rw [ha]
  rw [ho]
  -- what is left behind the frame
  have HN : Hid (∀ (w1 : World) (v vt : Value), Put w w1 eb g.m g.out (lay 2 0 a [0]) v → (vt.ownBlock = some ga) → RowAt w 3 1 vt r.length (r.map fun i => .int .i64 i) → MadeO w (w1.setCell ⟨eb, 43, none⟩ vt) eb mb g (some { g with res := r, out := g.out ++ lay 2 0 a [0] }) (.returned (.bool true))) := fun w1 v vt hp hvt hrow => by
   have hn := h.put rfl rfl rfl rfl rfl rfl hp
   have hrow1 : RowAt w1 3 1 vt r.length (r.map fun i => .int .i64 i) := hrow.chg hp.chg (fun j hj e => by
    rcases e with e | e
    ·rw [e] at hj; exact hrow.ne h.en.blk (by decide) hj
    ·exact rows_ne2 h.out hrow (by decide) e hj)
   have hn2 := hn.inv.onEnd (S := fun j => j = eb) (w' := w1.setCell ⟨eb, 43, none⟩ vt) (m' := { g.m with out := v, resets := vt }) (A' := g.ans) (o' := g.out ++ lay 2 0 a [0]) (R' := r) (chg_set (Chg.refl _ _) rfl) (fun j e => Or.inl e) (EnB.of (blk_set hp.b.blk) rfl) rfl rfl rfl
    (owns_chg hn.inv.out (chg_set (S := fun j => j = eb) (Chg.refl _ _) rfl) (fun j hj e => by rw [e] at hj; exact owns_ne hn.inv.out hn.inv.en.blk (by decide) hj)) (fun j hj => Or.inl hj) hn.inv.ans (fun b hb => hb) (fun j hj => hj) hrow1 (fun j hj => by
     have e1 : ({ g.m with out := v, resets := vt } : EndM).resets.ownBlock = some ga := hvt
     rw [e1] at hj
     rw [← hj]
     show g.m.resets.ownBlock = _
     rw [hv]; rfl)
   refine ⟨rfl, _, ?_, hn.trans hn2⟩
   obtain ⟨sx, lx, cx, hvx⟩ := own_shape hvt
   subst hvx
   unfold GEnd.bare EndM.bare
   simp only [hv]
   rfl
  have hlt := h.en.lt
  clear h hf ha hr ho ham
  have hn1 : 1 ≤ r.length + 1 := by omega
  by_cases hc1 : ca = 1
  ·obtain ⟨ht3, hn0⟩ := ht2 hc1
   subst hc1
   have hr0 : r.length + 1 = 1 := by omega
   rw [hr0] at c43 hv
   have HT := hide ht3
   have HV := hide hv
   clear ht1 ht2 ht3 hv hn0 hr0
   go_enter Tryz.func88, Tryz.ntmps88
   go_wp2_with fail
   refine (HP.out _ ?b1 ?b2).mono ?_
   case b1 => exact (Below.refl _ _).alloc (Nat.le_refl _) _
   case b2 => exact Or.inr ⟨_, 0, 1, rfl, by simp, by simp, fun i hi => by have : i = 0 := (by simpa using hi); subst this; exact one_alloc _ _ _⟩
   rintro e w1 ⟨rfl, v, hp⟩
   have d43 : w1.cell? ⟨eb, 43, none⟩ = some (.slice (some ⟨ga, oa, none⟩) 1 1) := by rw [hp.b.c43]; exact congrArg some HV.out
   have f43 := hp.b.fr 43
   have HPP := hide hp
   clear hp
   go_wp2
   go_ret
   exact HN.out w1 v _ HPP.out rfl HT.out
  ·have HT := hide ht1
   have HV := hide hv
   have hc2 : 1 ≤ ca := by omega
   clear ht1 ht2 hv
   go_enter Tryz.func88, Tryz.ntmps88
   go_wp2_with fail
   refine (HP.out _ ?b1 ?b2).mono ?_
   case b1 => exact (Below.refl _ _).alloc (Nat.le_refl _) _
   case b2 => exact Or.inr ⟨_, 0, 1, rfl, by simp, by simp, fun i hi => by have : i = 0 := (by simpa using hi); subst this; exact one_alloc _ _ _⟩
   rintro e w1 ⟨rfl, v, hp⟩
   have d43 : w1.cell? ⟨eb, 43, none⟩ = some (.slice (some ⟨ga, oa, none⟩) (r.length + 1) ca) := by rw [hp.b.c43]; exact congrArg some HV.out
   have f43 := hp.b.fr 43
   have HPP := hide hp
   clear hp
   go_wp2
   go_ret
   exact HN.out w1 v _ HPP.out rfl HT.out
end
end Go.Proofs.YtdccldbefdfppaaGreatDoor
