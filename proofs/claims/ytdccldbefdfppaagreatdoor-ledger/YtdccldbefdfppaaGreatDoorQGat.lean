import Derived.Test.YtdccldbefdfppaaGreatDoorQGan
import Derived.Test.YtdccldbefdfppaaGreatDoorQGac
import Derived.Test.YtdccldbefdfppaaGreatDoorQGap
import Derived.Test.YtdccldbefdfppaaGreatDoorQEnPad
import Derived.Test.YtdccldbefdfppaaGreatDoorQEnPong
import Derived.Test.YtdccldbefdfppaaGreatDoorQGah
import Derived.BigRegion
import Derived.Laws.IdiomRangeMap
set_option linter.unusedVariables false
set_option linter.unusedSimpArgs false
/-
  Package ends: Credit comes.
-/
namespace Go.Proofs.YtdccldbefdfppaaGreatDoor
set_option linter.unusedVariables false
set_option linter.unusedSimpArgs false
open Go.RowKit

set_option maxHeartbeats 400000 in
theorem checkWindow_ok (n : Int) (w : World) (h : n ≤ 2147483647) :
    Calls Tryz.prog 136 #[.int .i64 n] w fun e w' => e = .returned (.tuple #[]) ∧ w' = w := by
  have hn : ¬ 2147483647 < n := by omega
  go_enter Tryz.func136, Tryz.ntmps136
  go_wp2
  exact bodyPost_end (results_none rfl _ _ _) rfl ⟨rfl, rfl⟩
/-- So much more may be sent. -/
def EndM.more (m : EndM) (n : Int) : EndM := { m with send := m.send + n }
set_option maxRecDepth 100000 in
set_option maxHeartbeats 1600000 in
theorem comeCredit_conn (eb mb : Nat) (g : GEnd) (f n : Int) (sv : Option Addr) (len cb : Nat) (w : World) (h : Inv w eb mb g) (hn : g.m.send + n ≤ 2147483647) (hn0 : 0 ≤ n) (hs0 : -1099511627776 ≤ g.m.send) :
    Calls Tryz.prog 102 #[.pointer (some ⟨eb, 0, none⟩), .agg #[.int .i64 6, .int .i64 f, .int .i64 0, .slice sv len cb, .int .i64 n]] w fun e w' => e = .returned (.tuple #[]) ∧ Next w w' eb mb g { g with m := g.m.more n } := by
  obtain ⟨w0, hw0⟩ : ∃ w0, w0 = w.alloc (.cells #[.int .i64 6, .int .i64 f, .int .i64 0, .slice sv len cb, .int .i64 n] 179) := ⟨_, rfl⟩
  have hfr : w0.heap[w.heap.size]? = some (.cells #[.int .i64 6, .int .i64 f, .int .i64 0, .slice sv len cb, .int .i64 n] 179 (0, 0)) := by rw [hw0]; exact heap_alloc_new w _
  have hb0 : Below w.heap.size w w0 := by rw [hw0]; exact (Below.refl _ _).alloc (Nat.le_refl _) _
  have y2 : w0.cell? ⟨w.heap.size, 2, none⟩ = some (.int .i64 0) := by rw [cell_of_row _ _ _ _ _ _ hfr]; rfl
  have y4 : w0.cell? ⟨w.heap.size, 4, none⟩ = some (.int .i64 n) := by rw [cell_of_row _ _ _ _ _ _ hfr]; rfl
  have hi0 := h.below hb0
  have c4 : w0.cell? ⟨eb, 4, none⟩ = some (.int .i64 g.m.send) := hi0.en.c4
  have f4 := hi0.en.fr 4
  have hw1 : IntKind.i64.wrap (g.m.send + n) = g.m.send + n := by rw [IntKind.wrap_i64]; omega
  have HCK := hide (fun W => checkWindow_ok (g.m.send + n) W hn)
  have HFIN : Hid (Next w (w0.setCell ⟨eb, 4, none⟩ (.int .i64 (g.m.send + n))).drew.drew eb mb g { g with m := g.m.more n }) := by
    have hc : Chg (fun j => j = eb) w0 (w0.setCell ⟨eb, 4, none⟩ (.int .i64 (g.m.send + n))).drew.drew := Chg.drew (Chg.drew (chg_set (S := fun j => j = eb) (Chg.refl _ _) rfl))
    have hen : EnB (w0.setCell ⟨eb, 4, none⟩ (.int .i64 (g.m.send + n))).drew.drew eb (g.m.more n) := ⟨(hi0.en.set (m' := g.m.more n) (i := 4) (v := .int .i64 (g.m.send + n)) (by simp [EndM.cells, EndM.more])).blk⟩
    exact (hi0.onM hc hen rfl rfl rfl rfl rfl rfl).pre hb0
  have HW0 := hide hw0
  clear h hn hn0 hs0 hfr hb0 hi0 hw0
  go_enter Tryz.func102, Tryz.ntmps102
  go_upto_region 1 with fail
  rw [← HW0.out]
  go_upto_region 2 with fail
  go_cut [] (fun wx => wx = w0.drew)
  case first =>
    have d4 : w0.drew.cell? ⟨eb, 4, none⟩ = some (.int .i64 g.m.send) := c4
    have d5 : w0.drew.cell? ⟨w.heap.size, 4, none⟩ = some (.int .i64 n) := y4
    go_region_law (refine step_call rfl 136 Tryz.f136 Tryz.func136 (by kernel_rfl) rfl [.tmp 17] #[3] rfl [.int .i64 (g.m.send + n)] (by simp [Act.eval, Act.put, hw1]) (HCK.out _) ?_; rintro e w' ⟨rfl, hw'⟩; refine ⟨_, rfl, ?_⟩; rw [hw']; clear hw' w')
    all_goals (go_wp2_with fail; go_meet; rfl)
  case rest =>
    rw [hcut]
    clear hcut
    have d4 : w0.drew.drew.cell? ⟨eb, 4, none⟩ = some (.int .i64 g.m.send) := c4
    have d5 : w0.drew.drew.cell? ⟨w.heap.size, 4, none⟩ = some (.int .i64 n) := y4
    have d6 : w0.drew.drew.frozen? ⟨eb, 4, none⟩ = false := f4
    have e4 : w0.drew.cell? ⟨eb, 4, none⟩ = some (.int .i64 g.m.send) := c4
    have e5 : w0.drew.cell? ⟨w.heap.size, 4, none⟩ = some (.int .i64 n) := y4
    have e6 : w0.drew.frozen? ⟨eb, 4, none⟩ = false := f4
    go_wp2_with fail
    go_region
    all_goals go_wp2
    all_goals refine bodyPost_ret (v := .tuple #[]) ?_ rfl ⟨rfl, HFIN.out⟩
    all_goals simp [results, Tryz.results102, go_sem]
def GSt.credit (s : GSt) (n : Int) : GSt := { s with st := { s.st with send := s.st.send + n } }
set_option maxRecDepth 100000 in
set_option maxHeartbeats 1600000 in
theorem comeCredit_st (eb mb : Nat) (g : GEnd) (s : GSt) (f n : Int) (sv : Option Addr) (len cb : Nat) (w : World) (h : Inv w eb mb g) (hs : s ∈ g.K) (h0 : s.st.number ≠ 0) (ha : s.st.announced = true) (hr : s.st.reset = 0) (hn : g.m.other + s.st.send + n ≤ 2147483647) (hn0 : 0 ≤ n ∧ n ≤ 1099511627776) (b1 : -1099511627776 ≤ g.m.other ∧ g.m.other ≤ 1099511627776) (b2 : -1099511627776 ≤ s.st.send ∧ s.st.send ≤ 1099511627776) :
    Calls Tryz.prog 102 #[.pointer (some ⟨eb, 0, none⟩), .agg #[.int .i64 6, .int .i64 f, .int .i64 s.st.number, .slice sv len cb, .int .i64 n]] w fun e w' => e = .returned (.tuple #[]) ∧ Next w w' eb mb g { g with K := updN s.st.number (fun _ => s.credit n) g.K } := by
  obtain ⟨w0, hw0⟩ : ∃ w0, w0 = w.alloc (.cells #[.int .i64 6, .int .i64 f, .int .i64 s.st.number, .slice sv len cb, .int .i64 n] 179) := ⟨_, rfl⟩
  have hfr : w0.heap[w.heap.size]? = some (.cells #[.int .i64 6, .int .i64 f, .int .i64 s.st.number, .slice sv len cb, .int .i64 n] 179 (0, 0)) := by rw [hw0]; exact heap_alloc_new w _
  have hb0 : Below w.heap.size w w0 := by rw [hw0]; exact (Below.refl _ _).alloc (Nat.le_refl _) _
  have y2 : w0.cell? ⟨w.heap.size, 2, none⟩ = some (.int .i64 s.st.number) := by rw [cell_of_row _ _ _ _ _ _ hfr]; rfl
  have hi0 := h.below hb0
  have hst := hi0.st hs
  have han := announced_any eb mb g.m (g.K.map GSt.str) s.st.number w0 hi0.en hi0.km hi0.kn
  rw [hi0.find hs] at han
  have han : Calls Tryz.prog 128 #[.pointer (some ⟨eb, 0, none⟩), .int .i64 s.st.number] w0 fun e w' => w' = w0 ∧ e = .returned (.pointer (some ⟨s.sb, 0, none⟩)) := by
    refine han.mono ?_
    rintro e w' ⟨h1, h2⟩
    refine ⟨h1, ?_⟩
    have h2 : if s.st.announced then e = .returned (.pointer (some ⟨s.sb, 0, none⟩)) else e = .panicked [{ v := .iface 41 (.int .i64 11), recovered := false }] := h2
    rw [ha] at h2
    simpa using h2
  have hrs := isReset_any s.sb s.st w0 hst
  rw [show (!(s.st.reset == 0)) = false from by rw [hr]; rfl] at hrs
  have HAN := hide han
  have HRS := hide hrs
  have HSW := hide (sendWindow_any eb s.sb g.m s.st w0.drew (hi0.en.below (Below.drew (Below.refl _ _))) (hst.below (Below.drew (Below.refl _ _))) (by omega) (by omega) (by omega) (by omega))
  have hw1 : IntKind.i64.wrap (g.m.other + s.st.send + n) = g.m.other + s.st.send + n := by rw [IntKind.wrap_i64]; omega
  have hw2 : IntKind.i64.wrap (s.st.send + n) = s.st.send + n := by rw [IntKind.wrap_i64]; omega
  have HCK := hide (fun W => checkWindow_ok (g.m.other + s.st.send + n) W hn)
  have hne : (s.st.number == 0) = false := by simp [h0]
  have HNX : Hid (∀ w2, Below w.heap.size w w2 → Next w (w2.setCell ⟨s.sb, 0, none⟩ (.int .i64 (s.st.send + n))).drew eb mb g { g with K := updN s.st.number (fun _ => s.credit n) g.K }) := fun w2 hb2 => by
    have hi2 := h.below hb2
    have hst2 := hi2.st hs
    have hc : Chg (fun j => j = s.sb) w2 (w2.setCell ⟨s.sb, 0, none⟩ (.int .i64 (s.st.send + n))).drew := Chg.drew (chg_set (S := fun j => j = s.sb) (Chg.refl _ _) rfl)
    have keep : ∀ {k : Nat} {v' : Value} {xs : List Value} {ty : TypeId}, ty ≠ 127 → w2.ownsRow 0 ty 1 v' k xs → (w2.setCell ⟨s.sb, 0, none⟩ (.int .i64 (s.st.send + n))).drew.ownsRow 0 ty 1 v' k xs := fun hty hr => owns_chg hr hc (fun j hj e => by rw [e] at hj; exact owns_ne hr hst2.blk hty hj)
    refine (hi2.onSt (S := fun j => j = s.sb) (m' := g.m) (s := s) (s' := s.credit n) (L' := g.L) (o' := g.out) 0 hs hc (fun j e => Or.inr (Or.inl e)) (hi2.en.chg hc (fun e => hi2.st_eb hs e.symm)) ?_ rfl rfl rfl rfl rfl rfl
      (keep (by decide) hi2.row) (fun j hj => Or.inl hj) (List.Sublist.refl _) (keep (by decide) hi2.out) (fun j hj => Or.inl hj) (keep (by decide) (hi2.un s hs)) (fun j hj => Or.inl hj) (keep (by decide) (hi2.wa s hs)) (fun j hj => Or.inl hj)).pre hb2
    exact ⟨by
      have := blk_set (i := 0) (v := .int .i64 (s.st.send + n)) hst2.blk
      exact this.trans (by simp [StM.cells, GSt.credit])⟩
  have HFR := hide hfr
  have HB0 := hide hb0
  have HST : Hid (∀ w2, Below w.heap.size w w2 → w2.cell? ⟨s.sb, 0, none⟩ = some (.int .i64 s.st.send) ∧ w2.frozen? ⟨s.sb, 0, none⟩ = false) := fun w2 hb2 => ⟨((h.below hb2).st hs).c0, ((h.below hb2).st hs).fr 0⟩
  have HW0 := hide hw0
  clear h hs h0 ha hr hn hn0 b1 b2 hfr hb0 hi0 hst han hrs hw0
  go_enter Tryz.func102, Tryz.ntmps102
  go_upto_region 1 with fail
  rw [← HW0.out]
  go_wp2_with fail
  refine HAN.out.mono ?_
  rintro e w' ⟨hw', rfl⟩
  rw [hw']
  clear hw' w'
  go_wp2_with fail
  refine HRS.out.mono ?_
  rintro e w' ⟨rfl, hw'⟩
  rw [hw']
  clear hw' w'
  have y4 : w0.cell? ⟨w.heap.size, 4, none⟩ = some (.int .i64 n) := by rw [cell_of_row _ _ _ _ _ _ HFR.out]; rfl
  go_upto_region 6 with fail
  go_cut [] (fun wx => Below w0.heap.size w0 wx)
  case first =>
    go_region_law (first
      | (refine step_call rfl 66 Tryz.f66 Tryz.func66 (by kernel_rfl) rfl [.tmp 38, .tmp 39] #[123, 124] rfl [.pointer (some ⟨eb, 0, none⟩), .pointer (some ⟨s.sb, 0, none⟩)] (by simp [Act.eval, Act.put]) HSW.out ?_; rintro e w2 ⟨rfl, hb2⟩; refine ⟨_, rfl, ?_⟩; have hbx : Below w0.heap.size w0 w2 := ⟨hb2.os, hb2.tape, hb2.output, hb2.size, hb2.block⟩; have q4 : w2.cell? ⟨w.heap.size, 4, none⟩ = some (.int .i64 n) := (by rw [cell_of_row _ _ _ _ _ _ (kept_told HFR.out hbx)]; rfl); have HB2 := hide hbx; clear hb2 hbx)
      | (refine step_call rfl 136 Tryz.f136 Tryz.func136 (by kernel_rfl) rfl [.tmp 43] #[3] rfl [.int .i64 (g.m.other + s.st.send + n)] (by simp [Act.eval, Act.put, hw1]) (HCK.out _) ?_; rintro e w' ⟨rfl, hw'⟩; refine ⟨_, rfl, ?_⟩; rw [hw']; clear hw' w'))
    all_goals (go_wp2_with fail; go_meet; exact HB2.out)
  case rest =>
    have hcut : Below w0.heap.size w0 wc := hcut
    obtain ⟨w3, hw3⟩ : ∃ w3, w3 = wc := ⟨wc, rfl⟩
    rw [← hw3] at hcut ⊢
    clear hw3
    have hb3 := HB0.out.trans (hcut.mono HB0.out.size)
    obtain ⟨q1, q2⟩ := HST.out w3 hb3
    have q3 : w3.cell? ⟨w.heap.size, 4, none⟩ = some (.int .i64 n) := by rw [cell_of_row _ _ _ _ _ _ (kept_told HFR.out hcut)]; rfl
    have d1 : w3.drew.cell? ⟨s.sb, 0, none⟩ = some (.int .i64 s.st.send) := q1
    have d2 : w3.drew.frozen? ⟨s.sb, 0, none⟩ = false := q2
    have d3 : w3.drew.cell? ⟨w.heap.size, 4, none⟩ = some (.int .i64 n) := q3
    have HN := hide (HNX.out w3 hb3)
    clear hcut hb3 y2 y4
    go_wp2_with fail
    go_region
    all_goals go_wp2
    all_goals exact bodyPost_end (results_none rfl _ _ _) rfl ⟨rfl, HN.out⟩
end Go.Proofs.YtdccldbefdfppaaGreatDoor
/-
  Package ends: Settings come where streams are known.
-/
namespace Go.Proofs.YtdccldbefdfppaaGreatDoor
set_option linter.unusedVariables false
set_option linter.unusedSimpArgs false
open Go.RowKit

/-- What leaves the tape as it is. -/
def TK {α : Type} (m : Sem α) : Prop := ∀ w v w', m.run Tryz.prog w = .ok v w' → w'.tape = w.tape
theorem TK.pure {α : Type} (a : α) : TK (Pure.pure a : Sem α) := fun w v w' h => by
  simp only [Sem.run_pure] at h
  injection h with h1 h2
  rw [h2]
theorem TK.bind {α β : Type} {m : Sem α} {f : α → Sem β} (h : TK m) (k : ∀ a, TK (f a)) : TK (m >>= f) := fun w v w' hr => by
  rw [Sem.run_bind] at hr
  cases hm : m.run Tryz.prog w with
  | ok a w1 =>
    rw [hm, Result.andThen_ok] at hr
    exact (k a _ _ _ hr).trans (h _ _ _ hm)
  | _ => rw [hm] at hr; simp [Result.andThen] at hr
theorem TK.choose (q : Question) : TK (choose q) := fun w v w' h => by
  unfold Go.choose at h
  simp only [Sem.run] at h
  split at h
  · injection h with h1 h2
    rw [← h2]
  · injection h with h1 h2
    rw [← h2]
theorem TK.setObj (b : Nat) (o : Obj) : TK (setObj b o) := fun w v w' h => by
  unfold Go.setObj at h
  simp only [Sem.run] at h
  split at h
  all_goals first
    | (cases h; rfl)
    | cases h
theorem TK.unsupported {α : Type} (u : Unsupported) : TK (unsupported u : Sem α) := fun w v w' h => by
  unfold Go.unsupported at h
  simp [Sem.run] at h
theorem TK.stuck {α : Type} (u : String) : TK (stuck u : Sem α) := fun w v w' h => by
  unfold Go.stuck at h
  simp [Sem.run] at h
/-- A step over a map leaves the tape. -/
theorem next_tape {w w' : World} {r : Nat} {ty : TypeId} {bm since c0 clock : Nat} {seen : Array Nat} {es : Array MapEntry} {v : Value} (hb : w.heap[bm]? = some (.map es clock)) (hi : w.heap[r]? = some (.mapIter (some bm) since seen c0)) (h : (Instr.next (.pointer (some ⟨r, 0, none⟩)) false ty).run Tryz.prog w = .ok v w') : w'.tape = w.tape := by
  simp only [Instr.next, getObj, Sem.run_bind, Sem.run, hi, hb, Result.andThen] at h
  revert h
  refine (fun hk h => hk w v w' h : TK _ → _) ?_
  split
  · exact TK.bind (TK.unsupported _) fun _ => TK.bind (TK.choose _) fun a => by
      split
      · exact TK.bind (TK.setObj _ _) fun _ => TK.pure _
      · exact TK.pure _
      · exact TK.stuck _
  · exact TK.bind (TK.choose _) fun a => by
      split
      · exact TK.bind (TK.setObj _ _) fun _ => TK.pure _
      · exact TK.pure _
      · exact TK.stuck _
theorem alike_below {w w1 : World} (h : w1.Alike w) (ht : w1.tape = w.tape) : Below w.heap.size w w1 := ⟨h.2.1, ht, h.2.2, by rw [h.1]; exact Nat.le_refl _, fun k _ => by rw [h.1]⟩
set_option maxRecDepth 100000 in
set_option maxHeartbeats 3200000 in
/-- Settings of the other end. -/
theorem comeSettings_any (eb mb : Nat) (g : GEnd) (f n : Int) (sv : Option Addr) (len cb : Nat) (w : World) (h : Inv w eb mb g) (hf : 0 ≤ f ∧ f ≤ 255) (hak : hasB f 1 = false) (hn : g.ans.length < 8) (hn0 : 0 ≤ n ∧ n ≤ 2147483647) (hwin : ∀ s ∈ g.K, -1099511627776 ≤ s.st.send ∧ n + s.st.send ≤ 2147483647) :
    Calls Tryz.prog 100 #[.pointer (some ⟨eb, 0, none⟩), .agg #[.int .i64 3, .int .i64 f, .int .i64 0, .slice sv len cb, .int .i64 n]] w fun e w' => e = .returned (.tuple #[]) ∧ ∃ g', g'.bare = ({ g with m := { g.m with other := n, answers := .tuple #[] }, ans := g.ans ++ [⟨3, 1, [], .slice none 0 0⟩] } : GEnd).bare ∧ Next w w' eb mb g g' := by
  obtain ⟨wA, hwA⟩ : ∃ wA, wA = w.alloc (.cells #[.int .i64 3, .int .i64 f, .int .i64 0, .slice sv len cb, .int .i64 n] 173) := ⟨_, rfl⟩
  have hbA : Below w.heap.size w wA := by rw [hwA]; exact (Below.refl _ _).alloc (Nat.le_refl _) _
  have hnew : wA.heap[w.heap.size]? = some (.cells #[.int .i64 3, .int .i64 f, .int .i64 0, .slice sv len cb, .int .i64 n] 173 (0, 0)) := by rw [hwA]; exact heap_alloc_new w _
  have hA := h.below hbA
  have hh := has_any 3 f 0 1 (.slice sv len cb) wA hf.1 (by omega) (Or.inl rfl)
  rw [hak] at hh
  have HH := hide hh
  have HWA := hide hwA
  have HBX := hide hnew
  have HA := hide hA
  have HBA := hide hbA
  have HWN := hide hwin
  have hlt : eb < wA.heap.size := hA.en.lt
  have HFT : Hid (∀ j, (j = eb ∨ g.m.answers.ownBlock = some j) → j < w.heap.size) := fun j e => Foot.lt h (by
    rcases e with e | e
    · exact Or.inl e
    · exact Or.inr (Or.inr (Or.inr (Or.inr (Or.inr (Or.inl e))))))
  have HANS : Hid (∀ w2, Below w.heap.size w w2 → Calls Tryz.prog 137 #[.pointer (some ⟨eb, 0, none⟩), .agg #[.int .i64 3, .int .i64 1, .int .i64 0, .slice none 0 0]] w2 fun e w' => e = .returned (.tuple #[]) ∧ ∃ v, Next w w' eb mb g { g with m := { g.m with answers := v }, ans := g.ans ++ [⟨3, 1, [], .slice none 0 0⟩] } ∧ nilV v = .tuple #[] ∧ Chg (fun j => j = eb ∨ g.m.answers.ownBlock = some j) w2 w') := fun w2 hb => by
    have h1 := h.below hb
    refine (answer_any eb mb g 3 1 none 0 0 w2 h1 hn).mono ?_
    rintro e w' ⟨rfl, gr, go, cr, hen, hrow, hch, hfr⟩
    refine ⟨rfl, .slice (some ⟨gr, go, none⟩) (g.ans.length + 1) cr, ?_, rfl, hch⟩
    refine h1.answers (a := ⟨3, 1, [], .slice none 0 0⟩) hch hen hrow (fun j hj => ?_) (World.ownsRow_nil _ _ _ _) (fun j hj => by simp [Value.ownBlock] at hj) ((Next.refl h).then_below hb) (fun j hj => by simp [Value.ownBlock] at hj)
    simp [Value.ownBlock] at hj
    subst hj
    exact hfr
  have HCK : Hid (∀ m W, m ≤ 2147483647 → Calls Tryz.prog 136 #[.int .i64 m] W fun e w' => e = .returned (.tuple #[]) ∧ w' = W) := fun m W hm => checkWindow_ok m W hm
  clear h hA hbA hh hf hak hnew hwin hwA
  go_enter Tryz.func100, Tryz.ntmps100
  go_wp2_with fail
  rw [← HWA.out]
  refine HH.out.mono ?_
  rintro e w1 ⟨rfl, hb1⟩
  have hI1 := HA.out.below hb1
  obtain ⟨es, clock, hmp, hek, hborn, hnd⟩ := hI1.kn.blk
  have c22 := hI1.en.c22
  rw [hI1.km] at c22
  have hbx1 : w1.heap[w.heap.size]? = some (.cells #[.int .i64 3, .int .i64 f, .int .i64 0, .slice sv len cb, .int .i64 n] 173 (0, 0)) := kept_told HBX.out hb1
  have HI1 := hide hI1
  have HB1 := hide hb1
  have HBX1 := hide hbx1
  clear hI1 hb1 hbx1
  have hrg := run_range_map (P := Tryz.prog) w1 78 3 124 mb es clock Tryz.underlying78 hmp
  have HST : Hid (∀ e ∈ es.toList, ∃ s ∈ g.K, e.val = .pointer (some ⟨s.sb, 0, none⟩)) := fun e he => by
    have hm : (e.key, e.val) ∈ (g.K.map GSt.str).map knownE := by rw [← hek]; exact List.mem_map.2 ⟨e, he, rfl⟩
    obtain ⟨p, hp, hpe⟩ := List.mem_map.1 hm
    obtain ⟨s, hs, rfl⟩ := List.mem_map.1 hp
    refine ⟨s, hs, ?_⟩
    have := congrArg Prod.snd hpe
    exact this.symm
  have HBORN := hide hborn
  have HND := hide hnd
  have HMP := hide hmp
  clear hek hborn hnd
  go_wp2
  go_loopw [] (fun wr => ∃ (wz : World) (seen : Array Nat), wz.Alike w1 ∧ wz.tape = w1.tape ∧ wr = wz.alloc (.mapIter (some mb) clock seen clock)) (fun wr => (leftOf es (wr.iterSeen w1.heap.size)).size)
  case atStart => exact ⟨w1, #[], ⟨rfl, rfl, rfl⟩, rfl, rfl⟩
  case round =>
    obtain ⟨wz, seen, hal, htp, rfl⟩ := hrel
    have hsz : wz.heap.size = w1.heap.size := by rw [hal.1]
    have hbz : wz.heap[mb]? = some (.map es clock) := by rw [hal.1]; exact HMP.out
    have law := run_next_map (P := Tryz.prog) wz 0 mb clock clock seen es clock hbz HBORN.out (Nat.le_refl _)
    rw [hsz] at law
    have hbzw : Below w1.heap.size w1 wz := alike_below hal htp
    rcases law with ⟨h0, hrun⟩ | ⟨e, he, w2, hal2, hrun⟩
    · have hnx : ∀ ty, (Instr.next (.pointer (some ⟨w1.heap.size, 0, none⟩)) false ty).run Tryz.prog (wz.alloc (.mapIter (some mb) clock seen clock)) = _ := fun _ => hrun
      obtain ⟨w3, hw3⟩ : ∃ w3, w3 = wz.alloc (.mapIter (some mb) clock seen clock) := ⟨_, rfl⟩
      have hb3 : Below w1.heap.size w1 w3 := by rw [hw3]; exact hbzw.alloc (by omega) _
      have hbw3 : Below w.heap.size w w3 := HBA.out.trans ((HB1.out.trans (hb3.mono HB1.out.size)).mono HBA.out.size)
      have HAN := hide (HANS.out w3 hbw3)
      have HBX3 := hide (kept_told HBX1.out hb3)
      have HW3 := hide hw3
      clear hw3 hb3 hbw3 hbzw hbz hal htp hsz h0
      go_wp2_with fail
      rw [← HW3.out]
      clear hnx hrun
      refine HAN.out.mono ?_
      rintro e w4 ⟨rfl, v, hn4, hnv, hch⟩
      have hbx4 : w4.heap[w.heap.size]? = some (.cells #[.int .i64 3, .int .i64 f, .int .i64 0, .slice sv len cb, .int .i64 n] 173 (0, 0)) := by
        rw [hch.block _ (lt_of_block HBX3.out) (fun e => by have := HFT.out _ e; omega)]
        exact HBX3.out
      have q4 : w4.cell? ⟨w.heap.size, 4, none⟩ = some (.int .i64 n) := by rw [cell_of_row _ _ _ _ _ _ hbx4]; rfl
      have k12 : w4.cell? ⟨eb, 12, none⟩ = some (.int .i64 g.m.other) := hn4.inv.en.c12
      have f12 := hn4.inv.en.fr 12
      have hset : Chg (fun j => j = eb) w4 (w4.setCell ⟨eb, 12, none⟩ (.int .i64 n)) := chg_set (Chg.refl _ _) rfl
      have hn5 := hn4.inv.onM (m' := { g.m with answers := v, other := n }) hset ⟨(blk_set hn4.inv.en.blk).trans (by simp [EndM.cells])⟩ rfl rfl rfl rfl rfl rfl
      have HEND : Hid (∃ g', g'.bare = ({ g with m := { g.m with other := n, answers := .tuple #[] }, ans := g.ans ++ [⟨3, 1, [], .slice none 0 0⟩] } : GEnd).bare ∧ Next w (w4.setCell ⟨eb, 12, none⟩ (.int .i64 n)) eb mb g g') := by
        refine ⟨_, ?_, hn4.trans hn5⟩
        unfold GEnd.bare
        simp only [GEnd.mk.injEq, true_and, and_true]
        unfold EndM.bare
        simp only [EndM.mk.injEq, true_and, and_true]
        rw [hnv]
        rfl
      clear hn4 hn5 hset hch hbx4 hnv
      go_wp2
      exact bodyPost_end (results_none rfl _ _ _) rfl ⟨rfl, HEND.out⟩
    · obtain ⟨s, hs, hval⟩ := HST.out e (mem_left he).1
      rw [hval] at hrun
      have hiz : (wz.alloc (.mapIter (some mb) clock seen clock)).heap[w1.heap.size]? = some (.mapIter (some mb) clock seen clock) := by rw [← hsz]; exact heap_alloc_new wz _
      have hmz : (wz.alloc (.mapIter (some mb) clock seen clock)).heap[mb]? = some (.map es clock) := by rw [heap_alloc_old _ _ (Array.getElem?_eq_some_iff.1 hbz).1]; exact hbz
      have htp2 : w2.tape = w1.tape := (next_tape hmz hiz hrun).trans htp
      have hnx : ∀ ty, (Instr.next (.pointer (some ⟨w1.heap.size, 0, none⟩)) false ty).run Tryz.prog (wz.alloc (.mapIter (some mb) clock seen clock)) = _ := fun _ => hrun
      have hsz2 : w2.heap.size = w1.heap.size := by rw [hal2.1, hal.1]
      have hb2 : w2.heap[mb]? = some (.map es clock) := by rw [hal2.1]; exact hbz
      have hen := run_entry_map (P := Tryz.prog) w2 mb clock seen es clock e hb2 (mem_left he).1 HND.out
      rw [hsz2, hval] at hen
      have hal3 : w2.Alike w1 := ⟨hal2.1.trans hal.1, hal2.2.1.trans hal.2.1, hal2.2.2.trans hal.2.2⟩
      obtain ⟨wy, hwy⟩ : ∃ wy, wy = w2.alloc (.mapIter (some mb) clock (seen.push e.born) clock) := ⟨_, rfl⟩
      have hby : Below w1.heap.size w1 wy := by rw [hwy]; exact (alike_below hal3 htp2).alloc (by omega) _
      have hbxy := kept_told HBX1.out hby
      have q4 : wy.cell? ⟨w.heap.size, 4, none⟩ = some (.int .i64 n) := by rw [cell_of_row _ _ _ _ _ _ hbxy]; rfl
      have q0 : wy.cell? ⟨s.sb, 0, none⟩ = some (.int .i64 s.st.send) := ((HI1.out.below hby).st hs).c0
      have d4 : wy.drew.cell? ⟨w.heap.size, 4, none⟩ = some (.int .i64 n) := q4
      have d0 : wy.drew.cell? ⟨s.sb, 0, none⟩ = some (.int .i64 s.st.send) := q0
      obtain ⟨b1, b2⟩ := HWN.out s hs
      have hw1 : IntKind.i64.wrap (n + s.st.send) = n + s.st.send := by rw [IntKind.wrap_i64]; omega
      have HWY := hide hwy
      have HREL : Hid (∃ (wz' : World) (seen' : Array Nat), wz'.Alike w1 ∧ wz'.tape = w1.tape ∧ wy.drew = wz'.alloc (.mapIter (some mb) clock seen' clock)) := ⟨w2.drew, seen.push e.born, hal3, htp2, by rw [hwy]; rfl⟩
      have HMS : Hid ((leftOf es (wy.drew.iterSeen w1.heap.size)).size < (leftOf es ((wz.alloc (.mapIter (some mb) clock seen clock)).iterSeen w1.heap.size)).size) := by
        have e1 : wy.drew.iterSeen w1.heap.size = seen.push e.born := by
          rw [hwy, show (w2.alloc (.mapIter (some mb) clock (seen.push e.born) clock)).drew = w2.drew.alloc (.mapIter (some mb) clock (seen.push e.born) clock) from rfl, ← hsz2, show w2.heap.size = w2.drew.heap.size from rfl, World.iterSeen_alloc]
        have e2 : (wz.alloc (.mapIter (some mb) clock seen clock)).iterSeen w1.heap.size = seen := by rw [← hsz, World.iterSeen_alloc]
        show (leftOf es (wy.drew.iterSeen w1.heap.size)).size < (leftOf es ((wz.alloc (.mapIter (some mb) clock seen clock)).iterSeen w1.heap.size)).size
        rw [e1, e2]
        exact left_shrinks es seen e he
      have HCK2 := hide (HCK.out (n + s.st.send) wy.drew b2)
      clear hby hbxy hwy hal hal2 hal3 htp htp2 hbz hb2 hiz hmz hbzw hsz hsz2 b1 b2
      go_upto_region 6 with fail
      rw [← HWY.out]
      clear hnx hen hrun hrg
      go_region_law (refine step_call rfl 136 Tryz.f136 Tryz.func136 (by kernel_rfl) rfl [.tmp 28] #[3] rfl [.int .i64 (n + s.st.send)] (by simp [Act.eval, Act.put, hw1]) HCK2.out ?_; rintro e w' ⟨rfl, hw'⟩; refine ⟨_, rfl, ?_⟩; rw [hw']; clear hw' w')
      all_goals go_wp2
      all_goals go_roundw
      all_goals first
        | exact HREL.out
        | exact HMS.out
end Go.Proofs.YtdccldbefdfppaaGreatDoor
/-
  Package ends: what bytes do that are no fault: take, Feed.
-/
namespace Go.Proofs.YtdccldbefdfppaaGreatDoor
set_option linter.unusedVariables false
set_option linter.unusedSimpArgs false
open Go.RowKit

theorem num4_le (l : List UInt8) : 0 ≤ num4 l ∧ num4 l ≤ 4294967295 := by
  match l with
  | [] => simp [num4]
  | [_] => simp [num4]
  | [_, _] => simp [num4]
  | [_, _, _] => simp [num4]
  | a :: b :: c :: d :: r =>
    have h0 := a.toNat_lt
    have h1 := b.toNat_lt
    have h2 := c.toNat_lt
    have h3 := d.toNat_lt
    simp only [num4, be4]
    omega
theorem counted_bare (m : EndM) (n : Int) : (m.counted n).bare = m.bare.counted n := by
  unfold EndM.counted
  by_cases h1 : m.under = true
  · rw [if_pos h1, if_pos (show m.bare.under = true from h1)]; rfl
  · rw [if_neg h1, if_neg (show ¬ m.bare.under = true from h1)]
    by_cases h2 : 1 ≤ n ∧ m.target < m.most
    · rw [if_pos h2, if_pos (show 1 ≤ n ∧ m.bare.target < m.bare.most from h2)]; rfl
    · rw [if_neg h2, if_neg (show ¬ (1 ≤ n ∧ m.bare.target < m.bare.most) from h2)]
theorem got_bare (m : EndM) (n : Nat) : (m.got_ n).bare = m.bare.got_ n := counted_bare { m with receive := m.receive - n } n
def GEnd.begin (p : GEnd) : GEnd := { p with m := { p.m with begun := true } }
/-- What a frame does that is no fault. -/
def Come (p : GEnd) (z1 : Fr) (z2 : GEnd) : Prop := ∀ Z : Fr → GEnd → Prop, (∀ (fl : Int) (b : List UInt8) (hf : 0 ≤ fl ∧ fl ≤ 255) (ha : hasB fl 1 = false) (hK : p.K = []) (hA : p.ans = []) (hv : p.m.answers = .slice none 0 0) (hb : p.m.bstream = 0), Z ⟨3, fl, 0, b⟩ { p with m := { p.m with begun := true, other := num4 b, answers := .tuple #[] }, ans := [⟨3, 1, [], .slice none 0 0⟩] }) → (∀ (fl n : Int) (hf : 0 ≤ fl ∧ fl ≤ 255) (hla : hasB fl 4 = true) (hop : p.m.opensN n = false) (hnw : p.m.newest < n) (h4 : p.L.length < 4 ∨ (p.L.length ≤ 11 ∧ p.L.length < 4 + p.L.countP fun k => p.m.opensN k)) (hn : ∀ x ∈ p.K, x.st.number ≠ n) (hup : Rise p.L) (hb : p.m.bstream = 0) (hg : p.m.begun = true), Z ⟨1, fl, n, []⟩ (p.begin.opened n (hasB fl 1))) → (∀ (fl : Int) (s : GSt) (b : List UInt8) (hs : s ∈ p.K) (hf : 0 ≤ fl ∧ fl ≤ 255) (hp : hasB fl 8 = false) (ha : s.st.announced = true) (hh : s.st.hasAll = false) (hr : s.st.reset = 0) (hcl : ({ s.st with hasAll := hasB fl 1 } : StM).closed = false) (hlen : b.length ≤ 1073741824) (hun : s.un.length ≤ 1073741824) (hfl : b.length = 0 ∨ ((b.length : Int) ≤ p.m.receive ∧ (b.length : Int) ≤ p.m.own + s.st.receive)) (b1 : -1099511627776 ≤ p.m.receive ∧ p.m.receive ≤ 1099511627776) (b2 : -1099511627776 ≤ p.m.owed ∧ p.m.owed ≤ 1099511627776) (b3 : 0 ≤ p.m.count ∧ p.m.count ≤ 1099511627776) (b4 : -1099511627776 ≤ p.m.own ∧ p.m.own ≤ 1099511627776) (b5 : -1099511627776 ≤ s.st.receive ∧ s.st.receive ≤ 1099511627776) (b6 : -1099511627776 ≤ s.st.owed ∧ s.st.owed ≤ 1099511627776) (hb : p.m.bstream = 0) (hg : p.m.begun = true), Z ⟨0, fl, s.st.number, b⟩ { p with m := p.begin.m.got_ b.length, K := updN s.st.number (fun s => s.more b (hasB fl 1)) p.K }) → (∀ (fl : Int) (s : GSt) (b : List UInt8) (hs : s ∈ p.K) (hf : 0 ≤ fl ∧ fl ≤ 255) (hp : hasB fl 8 = false) (ha : s.st.announced = true) (hh : s.st.hasAll = false) (hr : s.st.reset = 1) (hlen : b.length ≤ 1073741824) (hfl : b.length = 0 ∨ (b.length : Int) ≤ p.m.receive) (b1 : -1099511627776 ≤ p.m.receive ∧ p.m.receive ≤ 1099511627776) (b2 : -1099511627776 ≤ p.m.owed ∧ p.m.owed ≤ 1099511627776) (b3 : 0 ≤ p.m.count ∧ p.m.count ≤ 1099511627776) (hb : p.m.bstream = 0) (hg : p.m.begun = true), Z ⟨0, fl, s.st.number, b⟩ { p with m := (p.begin.m.got_ b.length).owes b.length }) → (∀ (fl : Int) (k : Nat) (b : List UInt8) (hk : k < p.L.length) (hf : 0 ≤ fl ∧ fl ≤ 255) (ha : (atN p.K p.L[k]).st.announced = true) (hcl : (atN p.K p.L[k]).st.closed = false) (hL : p.L.length ≤ 1048576) (hul : (atN p.K p.L[k]).un.length ≤ 1048576) (b2 : -1099511627776 ≤ p.m.owed ∧ p.m.owed ≤ 1099511627776) (hb : p.m.bstream = 0) (hg : p.m.begun = true), Z ⟨2, fl, p.L[k], b⟩ { p with m := p.begin.m.owes (atN p.K p.L[k]).un.length, K := updN p.L[k] (fun s => s.drop 2) p.K, L := p.L.eraseIdx k }) → (∀ (fl : Int) (b : List UInt8) (hf : 0 ≤ fl ∧ fl ≤ 255) (ha : hasB fl 1 = false) (h8 : p.ans.length < 8) (hb : p.m.bstream = 0) (hg : p.m.begun = true), Z ⟨4, fl, 0, b⟩ { p with m := { p.m with begun := true, answers := .tuple #[] }, ans := p.ans ++ [⟨4, 1, b, .slice none 0 0⟩] }) → (∀ (fl : Int) (s : GSt) (b : List UInt8) (k : Nat) (hs : s ∈ p.K) (hf : 0 ≤ fl ∧ fl ≤ 255) (hp : hasB fl 8 = true) (ha : s.st.announced = true) (hh : s.st.hasAll = false) (hr : s.st.reset = 0) (hcl : ({ s.st with hasAll := hasB fl 1 } : StM).closed = false) (h1 : 1 ≤ b.length) (hk : b.length = (cutB fl b).length + k) (hlen : b.length ≤ 1073741824) (hun : s.un.length ≤ 1073741824) (hfl : (b.length : Int) ≤ p.m.receive ∧ (b.length : Int) ≤ p.m.own + s.st.receive) (b1 : -1099511627776 ≤ p.m.receive ∧ p.m.receive ≤ 1099511627776) (b2 : -1099511627776 ≤ p.m.owed ∧ p.m.owed ≤ 1099511627776) (b3 : 0 ≤ p.m.count ∧ p.m.count ≤ 1099511627776) (b4 : -1099511627776 ≤ p.m.own ∧ p.m.own ≤ 1099511627776) (b5 : -1099511627776 ≤ s.st.receive ∧ s.st.receive ≤ 1099511627776) (b6 : -1099511627776 ≤ s.st.owed ∧ s.st.owed ≤ 1099511627776) (hb : p.m.bstream = 0) (hg : p.m.begun = true), Z ⟨0, fl, s.st.number, b⟩ { p with m := (p.begin.m.got_ b.length).owes k, K := updN s.st.number (fun s => s.morep b.length k (cutB fl b) (hasB fl 1)) p.K }) → (∀ (fl : Int) (b : List UInt8) (hf : 0 ≤ fl ∧ fl ≤ 255) (ha : hasB fl 1 = true) (hw : p.m.waits = true) (hb : p.m.bstream = 0) (hg : p.m.begun = true), Z ⟨3, fl, 0, b⟩ { p with m := p.begin.m.acked }) → (∀ (fl : Int) (b : List UInt8) (n : Nat) (hn : num4 b = n) (hf : 0 ≤ fl ∧ fl ≤ 255) (ha : hasB fl 1 = true) (b0 : -1099511627776 ≤ p.m.owed ∧ p.m.owed ≤ 1099511627776) (b1 : 0 ≤ p.m.count ∧ p.m.count ≤ 2147483647) (b2 : 0 ≤ p.m.clock ∧ p.m.clock ≤ 2147483647) (b3 : 0 ≤ p.m.start ∧ p.m.start ≤ 2147483647) (b4 : 0 ≤ p.m.bestB ∧ p.m.bestB ≤ 2147483647) (b5 : 0 ≤ p.m.bestT ∧ p.m.bestT ≤ 2147483647) (b6 : 0 ≤ p.m.target ∧ p.m.target ≤ 2147483647) (b7 : 0 ≤ p.m.most ∧ p.m.most ≤ 2147483647) (hb : p.m.bstream = 0) (hg : p.m.begun = true), Z ⟨4, fl, 0, b⟩ { p with m := p.begin.m.ponged n }) → (∀ (fl : Int) (b : List UInt8) (hs : p.m.send + num4 b ≤ 2147483647) (b0 : -1099511627776 ≤ p.m.send) (hb : p.m.bstream = 0) (hg : p.m.begun = true), Z ⟨6, fl, 0, b⟩ { p with m := p.begin.m.more (num4 b) }) → (∀ (fl : Int) (s : GSt) (b : List UInt8) (hs : s ∈ p.K) (h0 : s.st.number ≠ 0) (ha : s.st.announced = true) (hr : s.st.reset = 0) (hn : p.m.other + s.st.send + num4 b ≤ 2147483647) (b1 : -1099511627776 ≤ p.m.other ∧ p.m.other ≤ 1099511627776) (b2 : -1099511627776 ≤ s.st.send ∧ s.st.send ≤ 1099511627776) (hb : p.m.bstream = 0) (hg : p.m.begun = true), Z ⟨6, fl, s.st.number, b⟩ { p with m := p.begin.m, K := updN s.st.number (fun x => x.credit (num4 b)) p.K }) → (∀ (fl : Int) (b : List UInt8) (hf : 0 ≤ fl ∧ fl ≤ 255) (ha : hasB fl 1 = false) (hA : p.ans.length < 8) (hn : num4 b ≤ 2147483647) (hw : ∀ s ∈ p.K, -1099511627776 ≤ s.st.send ∧ num4 b + s.st.send ≤ 2147483647) (hb : p.m.bstream = 0) (hg : p.m.begun = true), Z ⟨3, fl, 0, b⟩ { p with m := { p.begin.m with other := num4 b, answers := .tuple #[] }, ans := p.ans ++ [⟨3, 1, [], .slice none 0 0⟩] }) → Z z1 z2
theorem Come.settings {p : GEnd} (fl : Int) (b : List UInt8) (hf : 0 ≤ fl ∧ fl ≤ 255) (ha : hasB fl 1 = false) (hK : p.K = []) (hA : p.ans = []) (hv : p.m.answers = .slice none 0 0) (hb : p.m.bstream = 0) : Come p ⟨3, fl, 0, b⟩ { p with m := { p.m with begun := true, other := num4 b, answers := .tuple #[] }, ans := [⟨3, 1, [], .slice none 0 0⟩] } := fun Z zk1 zk2 zk3 zk4 zk5 zk6 zk7 zk8 zk9 zk10 zk11 zk12 => zk1 fl b hf ha hK hA hv hb
theorem Come.headers {p : GEnd} (fl n : Int) (hf : 0 ≤ fl ∧ fl ≤ 255) (hla : hasB fl 4 = true) (hop : p.m.opensN n = false) (hnw : p.m.newest < n) (h4 : p.L.length < 4 ∨ (p.L.length ≤ 11 ∧ p.L.length < 4 + p.L.countP fun k => p.m.opensN k)) (hn : ∀ x ∈ p.K, x.st.number ≠ n) (hup : Rise p.L) (hb : p.m.bstream = 0) (hg : p.m.begun = true) : Come p ⟨1, fl, n, []⟩ (p.begin.opened n (hasB fl 1)) := fun Z zk1 zk2 zk3 zk4 zk5 zk6 zk7 zk8 zk9 zk10 zk11 zk12 => zk2 fl n hf hla hop hnw h4 hn hup hb hg
theorem Come.kept {p : GEnd} (fl : Int) (s : GSt) (b : List UInt8) (hs : s ∈ p.K) (hf : 0 ≤ fl ∧ fl ≤ 255) (hp : hasB fl 8 = false) (ha : s.st.announced = true) (hh : s.st.hasAll = false) (hr : s.st.reset = 0) (hcl : ({ s.st with hasAll := hasB fl 1 } : StM).closed = false) (hlen : b.length ≤ 1073741824) (hun : s.un.length ≤ 1073741824) (hfl : b.length = 0 ∨ ((b.length : Int) ≤ p.m.receive ∧ (b.length : Int) ≤ p.m.own + s.st.receive)) (b1 : -1099511627776 ≤ p.m.receive ∧ p.m.receive ≤ 1099511627776) (b2 : -1099511627776 ≤ p.m.owed ∧ p.m.owed ≤ 1099511627776) (b3 : 0 ≤ p.m.count ∧ p.m.count ≤ 1099511627776) (b4 : -1099511627776 ≤ p.m.own ∧ p.m.own ≤ 1099511627776) (b5 : -1099511627776 ≤ s.st.receive ∧ s.st.receive ≤ 1099511627776) (b6 : -1099511627776 ≤ s.st.owed ∧ s.st.owed ≤ 1099511627776) (hb : p.m.bstream = 0) (hg : p.m.begun = true) : Come p ⟨0, fl, s.st.number, b⟩ { p with m := p.begin.m.got_ b.length, K := updN s.st.number (fun s => s.more b (hasB fl 1)) p.K } := fun Z zk1 zk2 zk3 zk4 zk5 zk6 zk7 zk8 zk9 zk10 zk11 zk12 => zk3 fl s b hs hf hp ha hh hr hcl hlen hun hfl b1 b2 b3 b4 b5 b6 hb hg
theorem Come.lost {p : GEnd} (fl : Int) (s : GSt) (b : List UInt8) (hs : s ∈ p.K) (hf : 0 ≤ fl ∧ fl ≤ 255) (hp : hasB fl 8 = false) (ha : s.st.announced = true) (hh : s.st.hasAll = false) (hr : s.st.reset = 1) (hlen : b.length ≤ 1073741824) (hfl : b.length = 0 ∨ (b.length : Int) ≤ p.m.receive) (b1 : -1099511627776 ≤ p.m.receive ∧ p.m.receive ≤ 1099511627776) (b2 : -1099511627776 ≤ p.m.owed ∧ p.m.owed ≤ 1099511627776) (b3 : 0 ≤ p.m.count ∧ p.m.count ≤ 1099511627776) (hb : p.m.bstream = 0) (hg : p.m.begun = true) : Come p ⟨0, fl, s.st.number, b⟩ { p with m := (p.begin.m.got_ b.length).owes b.length } := fun Z zk1 zk2 zk3 zk4 zk5 zk6 zk7 zk8 zk9 zk10 zk11 zk12 => zk4 fl s b hs hf hp ha hh hr hlen hfl b1 b2 b3 hb hg
theorem Come.reset {p : GEnd} (fl : Int) (k : Nat) (b : List UInt8) (hk : k < p.L.length) (hf : 0 ≤ fl ∧ fl ≤ 255) (ha : (atN p.K p.L[k]).st.announced = true) (hcl : (atN p.K p.L[k]).st.closed = false) (hL : p.L.length ≤ 1048576) (hul : (atN p.K p.L[k]).un.length ≤ 1048576) (b2 : -1099511627776 ≤ p.m.owed ∧ p.m.owed ≤ 1099511627776) (hb : p.m.bstream = 0) (hg : p.m.begun = true) : Come p ⟨2, fl, p.L[k], b⟩ { p with m := p.begin.m.owes (atN p.K p.L[k]).un.length, K := updN p.L[k] (fun s => s.drop 2) p.K, L := p.L.eraseIdx k } := fun Z zk1 zk2 zk3 zk4 zk5 zk6 zk7 zk8 zk9 zk10 zk11 zk12 => zk5 fl k b hk hf ha hcl hL hul b2 hb hg
theorem Come.ping {p : GEnd} (fl : Int) (b : List UInt8) (hf : 0 ≤ fl ∧ fl ≤ 255) (ha : hasB fl 1 = false) (h8 : p.ans.length < 8) (hb : p.m.bstream = 0) (hg : p.m.begun = true) : Come p ⟨4, fl, 0, b⟩ { p with m := { p.m with begun := true, answers := .tuple #[] }, ans := p.ans ++ [⟨4, 1, b, .slice none 0 0⟩] } := fun Z zk1 zk2 zk3 zk4 zk5 zk6 zk7 zk8 zk9 zk10 zk11 zk12 => zk6 fl b hf ha h8 hb hg
theorem Come.pad {p : GEnd} (fl : Int) (s : GSt) (b : List UInt8) (k : Nat) (hs : s ∈ p.K) (hf : 0 ≤ fl ∧ fl ≤ 255) (hp : hasB fl 8 = true) (ha : s.st.announced = true) (hh : s.st.hasAll = false) (hr : s.st.reset = 0) (hcl : ({ s.st with hasAll := hasB fl 1 } : StM).closed = false) (h1 : 1 ≤ b.length) (hk : b.length = (cutB fl b).length + k) (hlen : b.length ≤ 1073741824) (hun : s.un.length ≤ 1073741824) (hfl : (b.length : Int) ≤ p.m.receive ∧ (b.length : Int) ≤ p.m.own + s.st.receive) (b1 : -1099511627776 ≤ p.m.receive ∧ p.m.receive ≤ 1099511627776) (b2 : -1099511627776 ≤ p.m.owed ∧ p.m.owed ≤ 1099511627776) (b3 : 0 ≤ p.m.count ∧ p.m.count ≤ 1099511627776) (b4 : -1099511627776 ≤ p.m.own ∧ p.m.own ≤ 1099511627776) (b5 : -1099511627776 ≤ s.st.receive ∧ s.st.receive ≤ 1099511627776) (b6 : -1099511627776 ≤ s.st.owed ∧ s.st.owed ≤ 1099511627776) (hb : p.m.bstream = 0) (hg : p.m.begun = true) : Come p ⟨0, fl, s.st.number, b⟩ { p with m := (p.begin.m.got_ b.length).owes k, K := updN s.st.number (fun s => s.morep b.length k (cutB fl b) (hasB fl 1)) p.K } := fun Z zk1 zk2 zk3 zk4 zk5 zk6 zk7 zk8 zk9 zk10 zk11 zk12 => zk7 fl s b k hs hf hp ha hh hr hcl h1 hk hlen hun hfl b1 b2 b3 b4 b5 b6 hb hg
theorem Come.ack {p : GEnd} (fl : Int) (b : List UInt8) (hf : 0 ≤ fl ∧ fl ≤ 255) (ha : hasB fl 1 = true) (hw : p.m.waits = true) (hb : p.m.bstream = 0) (hg : p.m.begun = true) : Come p ⟨3, fl, 0, b⟩ { p with m := p.begin.m.acked } := fun Z zk1 zk2 zk3 zk4 zk5 zk6 zk7 zk8 zk9 zk10 zk11 zk12 => zk8 fl b hf ha hw hb hg
theorem Come.pong {p : GEnd} (fl : Int) (b : List UInt8) (n : Nat) (hn : num4 b = n) (hf : 0 ≤ fl ∧ fl ≤ 255) (ha : hasB fl 1 = true) (b0 : -1099511627776 ≤ p.m.owed ∧ p.m.owed ≤ 1099511627776) (b1 : 0 ≤ p.m.count ∧ p.m.count ≤ 2147483647) (b2 : 0 ≤ p.m.clock ∧ p.m.clock ≤ 2147483647) (b3 : 0 ≤ p.m.start ∧ p.m.start ≤ 2147483647) (b4 : 0 ≤ p.m.bestB ∧ p.m.bestB ≤ 2147483647) (b5 : 0 ≤ p.m.bestT ∧ p.m.bestT ≤ 2147483647) (b6 : 0 ≤ p.m.target ∧ p.m.target ≤ 2147483647) (b7 : 0 ≤ p.m.most ∧ p.m.most ≤ 2147483647) (hb : p.m.bstream = 0) (hg : p.m.begun = true) : Come p ⟨4, fl, 0, b⟩ { p with m := p.begin.m.ponged n } := fun Z zk1 zk2 zk3 zk4 zk5 zk6 zk7 zk8 zk9 zk10 zk11 zk12 => zk9 fl b n hn hf ha b0 b1 b2 b3 b4 b5 b6 b7 hb hg
theorem Come.credit0 {p : GEnd} (fl : Int) (b : List UInt8) (hs : p.m.send + num4 b ≤ 2147483647) (b0 : -1099511627776 ≤ p.m.send) (hb : p.m.bstream = 0) (hg : p.m.begun = true) : Come p ⟨6, fl, 0, b⟩ { p with m := p.begin.m.more (num4 b) } := fun Z zk1 zk2 zk3 zk4 zk5 zk6 zk7 zk8 zk9 zk10 zk11 zk12 => zk10 fl b hs b0 hb hg
theorem Come.credits {p : GEnd} (fl : Int) (s : GSt) (b : List UInt8) (hs : s ∈ p.K) (h0 : s.st.number ≠ 0) (ha : s.st.announced = true) (hr : s.st.reset = 0) (hn : p.m.other + s.st.send + num4 b ≤ 2147483647) (b1 : -1099511627776 ≤ p.m.other ∧ p.m.other ≤ 1099511627776) (b2 : -1099511627776 ≤ s.st.send ∧ s.st.send ≤ 1099511627776) (hb : p.m.bstream = 0) (hg : p.m.begun = true) : Come p ⟨6, fl, s.st.number, b⟩ { p with m := p.begin.m, K := updN s.st.number (fun x => x.credit (num4 b)) p.K } := fun Z zk1 zk2 zk3 zk4 zk5 zk6 zk7 zk8 zk9 zk10 zk11 zk12 => zk11 fl s b hs h0 ha hr hn b1 b2 hb hg
theorem Come.sets {p : GEnd} (fl : Int) (b : List UInt8) (hf : 0 ≤ fl ∧ fl ≤ 255) (ha : hasB fl 1 = false) (hA : p.ans.length < 8) (hn : num4 b ≤ 2147483647) (hw : ∀ s ∈ p.K, -1099511627776 ≤ s.st.send ∧ num4 b + s.st.send ≤ 2147483647) (hb : p.m.bstream = 0) (hg : p.m.begun = true) : Come p ⟨3, fl, 0, b⟩ { p with m := { p.begin.m with other := num4 b, answers := .tuple #[] }, ans := p.ans ++ [⟨3, 1, [], .slice none 0 0⟩] } := fun Z zk1 zk2 zk3 zk4 zk5 zk6 zk7 zk8 zk9 zk10 zk11 zk12 => zk12 fl b hf ha hA hn hw hb hg
theorem Come.ind {p : GEnd} {motive : ∀ (z1 : Fr) (z2 : GEnd), Come p z1 z2 → Prop} (settings : ∀ (fl : Int) (b : List UInt8) (hf : 0 ≤ fl ∧ fl ≤ 255) (ha : hasB fl 1 = false) (hK : p.K = []) (hA : p.ans = []) (hv : p.m.answers = .slice none 0 0) (hb : p.m.bstream = 0), motive ⟨3, fl, 0, b⟩ { p with m := { p.m with begun := true, other := num4 b, answers := .tuple #[] }, ans := [⟨3, 1, [], .slice none 0 0⟩] } (@Come.settings p fl b hf ha hK hA hv hb)) (headers : ∀ (fl n : Int) (hf : 0 ≤ fl ∧ fl ≤ 255) (hla : hasB fl 4 = true) (hop : p.m.opensN n = false) (hnw : p.m.newest < n) (h4 : p.L.length < 4 ∨ (p.L.length ≤ 11 ∧ p.L.length < 4 + p.L.countP fun k => p.m.opensN k)) (hn : ∀ x ∈ p.K, x.st.number ≠ n) (hup : Rise p.L) (hb : p.m.bstream = 0) (hg : p.m.begun = true), motive ⟨1, fl, n, []⟩ (p.begin.opened n (hasB fl 1)) (@Come.headers p fl n hf hla hop hnw h4 hn hup hb hg)) (kept : ∀ (fl : Int) (s : GSt) (b : List UInt8) (hs : s ∈ p.K) (hf : 0 ≤ fl ∧ fl ≤ 255) (hp : hasB fl 8 = false) (ha : s.st.announced = true) (hh : s.st.hasAll = false) (hr : s.st.reset = 0) (hcl : ({ s.st with hasAll := hasB fl 1 } : StM).closed = false) (hlen : b.length ≤ 1073741824) (hun : s.un.length ≤ 1073741824) (hfl : b.length = 0 ∨ ((b.length : Int) ≤ p.m.receive ∧ (b.length : Int) ≤ p.m.own + s.st.receive)) (b1 : -1099511627776 ≤ p.m.receive ∧ p.m.receive ≤ 1099511627776) (b2 : -1099511627776 ≤ p.m.owed ∧ p.m.owed ≤ 1099511627776) (b3 : 0 ≤ p.m.count ∧ p.m.count ≤ 1099511627776) (b4 : -1099511627776 ≤ p.m.own ∧ p.m.own ≤ 1099511627776) (b5 : -1099511627776 ≤ s.st.receive ∧ s.st.receive ≤ 1099511627776) (b6 : -1099511627776 ≤ s.st.owed ∧ s.st.owed ≤ 1099511627776) (hb : p.m.bstream = 0) (hg : p.m.begun = true), motive ⟨0, fl, s.st.number, b⟩ { p with m := p.begin.m.got_ b.length, K := updN s.st.number (fun s => s.more b (hasB fl 1)) p.K } (@Come.kept p fl s b hs hf hp ha hh hr hcl hlen hun hfl b1 b2 b3 b4 b5 b6 hb hg)) (lost : ∀ (fl : Int) (s : GSt) (b : List UInt8) (hs : s ∈ p.K) (hf : 0 ≤ fl ∧ fl ≤ 255) (hp : hasB fl 8 = false) (ha : s.st.announced = true) (hh : s.st.hasAll = false) (hr : s.st.reset = 1) (hlen : b.length ≤ 1073741824) (hfl : b.length = 0 ∨ (b.length : Int) ≤ p.m.receive) (b1 : -1099511627776 ≤ p.m.receive ∧ p.m.receive ≤ 1099511627776) (b2 : -1099511627776 ≤ p.m.owed ∧ p.m.owed ≤ 1099511627776) (b3 : 0 ≤ p.m.count ∧ p.m.count ≤ 1099511627776) (hb : p.m.bstream = 0) (hg : p.m.begun = true), motive ⟨0, fl, s.st.number, b⟩ { p with m := (p.begin.m.got_ b.length).owes b.length } (@Come.lost p fl s b hs hf hp ha hh hr hlen hfl b1 b2 b3 hb hg)) (reset : ∀ (fl : Int) (k : Nat) (b : List UInt8) (hk : k < p.L.length) (hf : 0 ≤ fl ∧ fl ≤ 255) (ha : (atN p.K p.L[k]).st.announced = true) (hcl : (atN p.K p.L[k]).st.closed = false) (hL : p.L.length ≤ 1048576) (hul : (atN p.K p.L[k]).un.length ≤ 1048576) (b2 : -1099511627776 ≤ p.m.owed ∧ p.m.owed ≤ 1099511627776) (hb : p.m.bstream = 0) (hg : p.m.begun = true), motive ⟨2, fl, p.L[k], b⟩ { p with m := p.begin.m.owes (atN p.K p.L[k]).un.length, K := updN p.L[k] (fun s => s.drop 2) p.K, L := p.L.eraseIdx k } (@Come.reset p fl k b hk hf ha hcl hL hul b2 hb hg)) (ping : ∀ (fl : Int) (b : List UInt8) (hf : 0 ≤ fl ∧ fl ≤ 255) (ha : hasB fl 1 = false) (h8 : p.ans.length < 8) (hb : p.m.bstream = 0) (hg : p.m.begun = true), motive ⟨4, fl, 0, b⟩ { p with m := { p.m with begun := true, answers := .tuple #[] }, ans := p.ans ++ [⟨4, 1, b, .slice none 0 0⟩] } (@Come.ping p fl b hf ha h8 hb hg)) (pad : ∀ (fl : Int) (s : GSt) (b : List UInt8) (k : Nat) (hs : s ∈ p.K) (hf : 0 ≤ fl ∧ fl ≤ 255) (hp : hasB fl 8 = true) (ha : s.st.announced = true) (hh : s.st.hasAll = false) (hr : s.st.reset = 0) (hcl : ({ s.st with hasAll := hasB fl 1 } : StM).closed = false) (h1 : 1 ≤ b.length) (hk : b.length = (cutB fl b).length + k) (hlen : b.length ≤ 1073741824) (hun : s.un.length ≤ 1073741824) (hfl : (b.length : Int) ≤ p.m.receive ∧ (b.length : Int) ≤ p.m.own + s.st.receive) (b1 : -1099511627776 ≤ p.m.receive ∧ p.m.receive ≤ 1099511627776) (b2 : -1099511627776 ≤ p.m.owed ∧ p.m.owed ≤ 1099511627776) (b3 : 0 ≤ p.m.count ∧ p.m.count ≤ 1099511627776) (b4 : -1099511627776 ≤ p.m.own ∧ p.m.own ≤ 1099511627776) (b5 : -1099511627776 ≤ s.st.receive ∧ s.st.receive ≤ 1099511627776) (b6 : -1099511627776 ≤ s.st.owed ∧ s.st.owed ≤ 1099511627776) (hb : p.m.bstream = 0) (hg : p.m.begun = true), motive ⟨0, fl, s.st.number, b⟩ { p with m := (p.begin.m.got_ b.length).owes k, K := updN s.st.number (fun s => s.morep b.length k (cutB fl b) (hasB fl 1)) p.K } (@Come.pad p fl s b k hs hf hp ha hh hr hcl h1 hk hlen hun hfl b1 b2 b3 b4 b5 b6 hb hg)) (ack : ∀ (fl : Int) (b : List UInt8) (hf : 0 ≤ fl ∧ fl ≤ 255) (ha : hasB fl 1 = true) (hw : p.m.waits = true) (hb : p.m.bstream = 0) (hg : p.m.begun = true), motive ⟨3, fl, 0, b⟩ { p with m := p.begin.m.acked } (@Come.ack p fl b hf ha hw hb hg)) (pong : ∀ (fl : Int) (b : List UInt8) (n : Nat) (hn : num4 b = n) (hf : 0 ≤ fl ∧ fl ≤ 255) (ha : hasB fl 1 = true) (b0 : -1099511627776 ≤ p.m.owed ∧ p.m.owed ≤ 1099511627776) (b1 : 0 ≤ p.m.count ∧ p.m.count ≤ 2147483647) (b2 : 0 ≤ p.m.clock ∧ p.m.clock ≤ 2147483647) (b3 : 0 ≤ p.m.start ∧ p.m.start ≤ 2147483647) (b4 : 0 ≤ p.m.bestB ∧ p.m.bestB ≤ 2147483647) (b5 : 0 ≤ p.m.bestT ∧ p.m.bestT ≤ 2147483647) (b6 : 0 ≤ p.m.target ∧ p.m.target ≤ 2147483647) (b7 : 0 ≤ p.m.most ∧ p.m.most ≤ 2147483647) (hb : p.m.bstream = 0) (hg : p.m.begun = true), motive ⟨4, fl, 0, b⟩ { p with m := p.begin.m.ponged n } (@Come.pong p fl b n hn hf ha b0 b1 b2 b3 b4 b5 b6 b7 hb hg)) (credit0 : ∀ (fl : Int) (b : List UInt8) (hs : p.m.send + num4 b ≤ 2147483647) (b0 : -1099511627776 ≤ p.m.send) (hb : p.m.bstream = 0) (hg : p.m.begun = true), motive ⟨6, fl, 0, b⟩ { p with m := p.begin.m.more (num4 b) } (@Come.credit0 p fl b hs b0 hb hg)) (credits : ∀ (fl : Int) (s : GSt) (b : List UInt8) (hs : s ∈ p.K) (h0 : s.st.number ≠ 0) (ha : s.st.announced = true) (hr : s.st.reset = 0) (hn : p.m.other + s.st.send + num4 b ≤ 2147483647) (b1 : -1099511627776 ≤ p.m.other ∧ p.m.other ≤ 1099511627776) (b2 : -1099511627776 ≤ s.st.send ∧ s.st.send ≤ 1099511627776) (hb : p.m.bstream = 0) (hg : p.m.begun = true), motive ⟨6, fl, s.st.number, b⟩ { p with m := p.begin.m, K := updN s.st.number (fun x => x.credit (num4 b)) p.K } (@Come.credits p fl s b hs h0 ha hr hn b1 b2 hb hg)) (sets : ∀ (fl : Int) (b : List UInt8) (hf : 0 ≤ fl ∧ fl ≤ 255) (ha : hasB fl 1 = false) (hA : p.ans.length < 8) (hn : num4 b ≤ 2147483647) (hw : ∀ s ∈ p.K, -1099511627776 ≤ s.st.send ∧ num4 b + s.st.send ≤ 2147483647) (hb : p.m.bstream = 0) (hg : p.m.begun = true), motive ⟨3, fl, 0, b⟩ { p with m := { p.begin.m with other := num4 b, answers := .tuple #[] }, ans := p.ans ++ [⟨3, 1, [], .slice none 0 0⟩] } (@Come.sets p fl b hf ha hA hn hw hb hg)) {z1 : Fr} {z2 : GEnd} (zt : Come p z1 z2) : motive z1 z2 zt := (zt (fun z1 z2 => ∃ zt : Come p z1 z2, motive z1 z2 zt) (fun fl b hf ha hK hA hv hb => ⟨_, @settings fl b hf ha hK hA hv hb⟩) (fun fl n hf hla hop hnw h4 hn hup hb hg => ⟨_, @headers fl n hf hla hop hnw h4 hn hup hb hg⟩) (fun fl s b hs hf hp ha hh hr hcl hlen hun hfl b1 b2 b3 b4 b5 b6 hb hg => ⟨_, @kept fl s b hs hf hp ha hh hr hcl hlen hun hfl b1 b2 b3 b4 b5 b6 hb hg⟩) (fun fl s b hs hf hp ha hh hr hlen hfl b1 b2 b3 hb hg => ⟨_, @lost fl s b hs hf hp ha hh hr hlen hfl b1 b2 b3 hb hg⟩) (fun fl k b hk hf ha hcl hL hul b2 hb hg => ⟨_, @reset fl k b hk hf ha hcl hL hul b2 hb hg⟩) (fun fl b hf ha h8 hb hg => ⟨_, @ping fl b hf ha h8 hb hg⟩) (fun fl s b k hs hf hp ha hh hr hcl h1 hk hlen hun hfl b1 b2 b3 b4 b5 b6 hb hg => ⟨_, @pad fl s b k hs hf hp ha hh hr hcl h1 hk hlen hun hfl b1 b2 b3 b4 b5 b6 hb hg⟩) (fun fl b hf ha hw hb hg => ⟨_, @ack fl b hf ha hw hb hg⟩) (fun fl b n hn hf ha b0 b1 b2 b3 b4 b5 b6 b7 hb hg => ⟨_, @pong fl b n hn hf ha b0 b1 b2 b3 b4 b5 b6 b7 hb hg⟩) (fun fl b hs b0 hb hg => ⟨_, @credit0 fl b hs b0 hb hg⟩) (fun fl s b hs h0 ha hr hn b1 b2 hb hg => ⟨_, @credits fl s b hs h0 ha hr hn b1 b2 hb hg⟩) (fun fl b hf ha hA hn hw hb hg => ⟨_, @sets fl b hf ha hA hn hw hb hg⟩)).elim fun _ zx => zx
theorem answd_bare (m : EndM) (n : Nat) : (m.answd n).bare = m.bare.answd n := by
  unfold EndM.answd
  by_cases h1 : (m.under && m.pinged && (n == m.pnum)) = true
  · rw [if_pos h1, if_pos (show (m.bare.under && m.bare.pinged && (n == m.bare.pnum)) = true from h1)]
    by_cases h2 : m.bestB * m.ticks < m.count * m.bestT
    · rw [if_pos h2, if_pos (show m.bare.bestB * m.bare.ticks < m.bare.count * m.bare.bestT from h2)]
      by_cases h3 : 2 * m.count < m.target
      · rw [if_pos h3, if_pos (show 2 * m.bare.count < m.bare.target from h3)]; rfl
      · rw [if_neg h3, if_neg (show ¬ 2 * m.bare.count < m.bare.target from h3)]; rfl
    · rw [if_neg h2, if_neg (show ¬ m.bare.bestB * m.bare.ticks < m.bare.count * m.bare.bestT from h2)]; rfl
  · rw [if_neg h1, if_neg (show ¬ (m.bare.under && m.bare.pinged && (n == m.bare.pnum)) = true from h1)]
theorem ponged_bare (m : EndM) (n : Nat) : (m.ponged n).bare = m.bare.ponged n := by
  unfold EndM.ponged
  rw [← answd_bare]
  rfl

theorem mem_bare {g : GEnd} {p : GEnd} (hp : g.bare = p) {s : GSt} (hs : s ∈ p.K) : ∃ x ∈ g.K, x.bare = s := by
  rw [← hp] at hs
  exact List.mem_map.1 hs

theorem Inv.here {w : World} {eb mb : Nat} {g : GEnd} (h : Inv w eb mb g) : g.m.hereN (openS g.K g.L) = g.L.countP fun k => g.m.opensN k := by
  unfold EndM.hereN openS
  rw [List.countP_map]
  apply List.countP_congr
  intro k hk
  show g.m.opensN (atN g.K k).st.number = true ↔ _
  rw [(h.at hk).2]
/-- A frame that is no fault comes. -/
theorem i_come (eb mb : Nat) (g p q : GEnd) (f : Fr) (bv cv : Value) (w : World) (h : Inv w eb mb g) (hp : g.bare = p) (hc : Come p f q) (hgl : Gl w) (hge : ∀ j, j < 7 → ¬ Foot eb mb g j) (hbv : w.ownsRow 0 5 1 bv f.body.length (f.body.map B)) (hbn : ∀ j, bv.ownBlock = some j → ¬ Foot eb mb g j) (hcv : f.kind = 0 → ContV f.flags bv cv f.body) {w0 : World} {g0 : GEnd} (hn0 : Next w0 w eb mb g0 g) (hb0 : ∀ j, bv.ownBlock = some j → w0.heap.size ≤ j) :
    Calls Tryz.prog 69 #[.pointer (some ⟨eb, 0, none⟩), frV f.kind f.flags f.stream bv cv f.body] w fun e w' => e = .returned (.tuple #[]) ∧ ∃ g', g'.bare = q ∧ Next w0 w' eb mb g0 g' := by
  have hbs : g.m.bstream = p.m.bstream := by rw [← hp]; rfl
  have hbg : g.m.begun = p.m.begun := by rw [← hp]; rfl
  obtain ⟨sv, cb, hsv⟩ := slice_len hbv
  have hah : ∀ {w1 : World} {g1 : GEnd}, Ahead w w1 eb mb g g1 → g1.bare = p.begin ∧ Next w w1 eb mb g g1 ∧ BytesIn w1 bv f.body ∧ ∀ j, bv.ownBlock = some j → ¬ Foot eb mb g1 j := fun {w1 g1} ha => by
    obtain ⟨h1, h2⟩ := ha
    obtain ⟨h3, h4⟩ := h2.bytes (bytesIn_of_owns hbv rfl) hbn
    refine ⟨?_, h2, h3, h4⟩
    rw [h1, ← hp]
    rfl
  cases hc using Come.ind with
  | settings fl b hf ha hK hA hv hb =>
    rw [show frV (Fr.mk 3 fl 0 b).kind (Fr.mk 3 fl 0 b).flags (Fr.mk 3 fl 0 b).stream bv cv (Fr.mk 3 fl 0 b).body = .iface 173 (.agg #[.int .i64 3, .int .i64 fl, .int .i64 0, .slice sv b.length cb, .int .i64 (num4 b)]) from by
      simp only at hsv
      unfold frV
      simp [hsv, ha]]
    refine come_settings eb mb g w (fun w' => ∃ g', g'.bare = _ ∧ Next w0 w' eb mb g0 g') fl (num4 b) sv b.length cb h (by rw [hbs]; exact hb) ha hf ?_
    intro w1 g1 hah1
    obtain ⟨e1, n1, -, -⟩ := hah hah1
    have hK1 : g1.K = [] := by
      have := congrArg GEnd.K e1
      simpa [GEnd.bare, GEnd.begin, hK] using this
    have hA1 : g1.ans = [] := by
      have := congrArg GEnd.ans e1
      simpa [GEnd.bare, GEnd.begin, hA] using this
    have hv1 : g1.m.answers = .slice none 0 0 := by
      have e2 : nilV g1.m.answers = .slice none 0 0 := by
        have := congrArg (fun x : GEnd => x.m.answers) e1
        simpa [GEnd.bare, EndM.bare, GEnd.begin, hv] using this
      rcases n1.inv.ans.2 with ⟨h1, -⟩ | ⟨a1, a2, a3, a4, h1, -⟩
      · exact h1
      · rw [h1] at e2; cases e2
    refine (comeSettings_none eb mb g1 fl (num4 b) sv b.length cb w1 n1.inv hf ha hK1 hv1 hA1).mono ?_
    rintro e w' ⟨rfl, g', h1, h2⟩
    refine ⟨rfl, g', ?_, hn0.trans (n1.trans h2)⟩
    rw [h1]
    have e3 : ({ g1 with m := { g1.m with other := num4 b, answers := .tuple #[] }, ans := [⟨3, 1, [], .slice none 0 0⟩] } : GEnd).bare = { g1.bare with m := { g1.bare.m with other := num4 b, answers := .tuple #[] }, ans := [⟨3, 1, [], .slice none 0 0⟩] } := rfl
    rw [e3, e1]
    rfl
  | headers fl n hf hla hop hnw h4 hn hup hb hg =>
    rw [show frV (Fr.mk 1 fl n []).kind (Fr.mk 1 fl n []).flags (Fr.mk 1 fl n []).stream bv cv (Fr.mk 1 fl n []).body = .iface 165 (.agg #[.int .i64 1, .int .i64 fl, .int .i64 n, .slice sv 0 cb, .slice sv 0 cb]) from by
      simp only [List.length_nil] at hsv
      unfold frV
      simp [hsv]]
    have hsn : sv = none → cb = 0 := fun e => by
      subst e
      rcases hbv.2 with ⟨h1, -⟩ | ⟨a1, a2, a3, h1, -⟩
      · rw [hsv] at h1; simp at h1; exact h1
      · rw [hsv] at h1; simp at h1
    refine come_headers eb mb g w (fun w' => ∃ g', g'.bare = _ ∧ Next w0 w' eb mb g0 g') fl n sv 0 cb h (by rw [hbs]; exact hb) (by rw [hbg]; exact hg) ?_
    intro w1 g1 hah1
    obtain ⟨e1, n1, -, -⟩ := hah hah1
    have hL1 : g1.L = p.L := by have := congrArg GEnd.L e1; exact this
    have hge1 : ∀ j, j < 7 → ¬ Foot eb mb g1 j := fun j hj hf => by
      rcases n1.grow j hf with a | a
      · exact hge j hj a
      · have := hgl.lt; omega
    have hgl1 : Gl w1 := hgl.chg n1.chg hge
    refine (comeHeaders_nil eb mb g1 fl n sv cb w1 n1.inv hgl1 hge1 hsn hf hla ?_ ?_ ?_ ?_ ?_ ?_).mono ?_
    · have : g1.m.opensN n = p.m.opensN n := by
        have e2 : g1.bare.m.opensN n = p.begin.m.opensN n := by rw [e1]
        exact e2
      rw [this]; exact hop
    · have : g1.m.newest = p.m.newest := by have := congrArg (fun x : GEnd => x.m.newest) e1; exact this
      rw [this]; exact hnw
    · have e4 : (g1.L.countP fun k => g1.m.opensN k) = p.L.countP fun k => p.m.opensN k := by
        rw [hL1]
        apply List.countP_congr
        intro k hk
        have e2 : g1.bare.m.opensN k = p.begin.m.opensN k := by rw [e1]
        have e5 : g1.m.opensN k = p.m.opensN k := e2
        rw [e5]
      rw [n1.inv.here, e4, hL1]
      omega
    · intro x hx e
      have hx2 : x.bare ∈ p.K := by
        have : g1.bare.K = p.K := by have := congrArg GEnd.K e1; exact this
        rw [← this]
        exact List.mem_map.2 ⟨x, hx, rfl⟩
      exact hn _ hx2 e
    · rw [hL1]; exact hup
    · rw [hL1]; omega
    · rintro e w' ⟨rfl, g', h1, h2⟩
      refine ⟨rfl, g', ?_, hn0.trans (n1.trans h2)⟩
      rw [h1]
      have e3 : (g1.opened n (hasB fl 1)).bare = g1.bare.opened n (hasB fl 1) := by
        unfold GEnd.opened GEnd.bare
        simp only [GEnd.mk.injEq, true_and, and_true]
        refine ⟨rfl, ?_⟩
        rw [List.map_append]
        rfl
      rw [e3, e1]
  | kept fl s b hs hf hpd ha hh hr hcl hlen hun hfl b1 b2 b3 b4 b5 b6 hb hg =>
    have hcb : cv = bv := by
      have := hcv rfl
      unfold ContV at this
      rw [hpd] at this
      simpa using this
    rw [show frV (Fr.mk 0 fl s.st.number b).kind (Fr.mk 0 fl s.st.number b).flags (Fr.mk 0 fl s.st.number b).stream bv cv (Fr.mk 0 fl s.st.number b).body = .iface 162 (dataV fl s.st.number sv b.length cb) from by
      simp only at hsv
      unfold frV dataV
      simp [hcb, hsv]]
    refine come_data eb mb g w (fun w' => ∃ g', g'.bare = _ ∧ Next w0 w' eb mb g0 g') fl s.st.number sv b.length cb h (by rw [hbs]; exact hb) (by rw [hbg]; exact hg) ?_
    intro w1 g1 hah1
    obtain ⟨e1, n1, hby, hnf⟩ := hah hah1
    obtain ⟨x, hx, rfl⟩ := mem_bare e1 hs
    simp only at hsv hby
    rw [hsv] at hby hnf
    have hmm : g1.bare.m = p.begin.m := congrArg GEnd.m e1
    have m1 : g1.m.receive = p.m.receive := by have := congrArg (fun m : EndM => m.receive) hmm; exact this
    have m2 : g1.m.owed = p.m.owed := by have := congrArg (fun m : EndM => m.owed) hmm; exact this
    have m3 : g1.m.count = p.m.count := by have := congrArg (fun m : EndM => m.count) hmm; exact this
    have m4 : g1.m.own = p.m.own := by have := congrArg (fun m : EndM => m.own) hmm; exact this
    refine (comeData_kept eb mb g1 x fl sv b cb w1 n1.inv hx ha hh hr hf hcl hby hnf hlen hun (by rw [m1, m4]; exact hfl) (by rw [m1]; exact b1) (by rw [m2]; exact b2) (by rw [m3]; exact b3) (by rw [m4]; exact b4) b5 b6).mono ?_
    rintro e w' ⟨rfl, g', h1, h2⟩
    refine ⟨rfl, g', ?_, hn0.trans (n1.trans h2)⟩
    rw [h1]
    have e3 : ({ g1 with m := g1.m.got_ b.length, K := updN x.st.number (fun s => s.more b (hasB fl 1)) g1.K } : GEnd).bare = { g1.bare with m := g1.bare.m.got_ b.length, K := updN x.st.number (fun s => s.more b (hasB fl 1)) g1.bare.K } := by
      unfold GEnd.bare
      simp only [GEnd.mk.injEq, true_and, and_true]
      exact ⟨got_bare _ _, updN_bare _ (fun s => s.more b (hasB fl 1)) (fun s => rfl) _⟩
    rw [e3, e1]
    rfl
  | lost fl s b hs hf hpd ha hh hr hlen hfl b1 b2 b3 hb hg =>
    have hcb : cv = bv := by
      have := hcv rfl
      unfold ContV at this
      rw [hpd] at this
      simpa using this
    rw [show frV (Fr.mk 0 fl s.st.number b).kind (Fr.mk 0 fl s.st.number b).flags (Fr.mk 0 fl s.st.number b).stream bv cv (Fr.mk 0 fl s.st.number b).body = .iface 162 (dataV fl s.st.number sv b.length cb) from by
      simp only at hsv
      unfold frV dataV
      simp [hcb, hsv]]
    refine come_data eb mb g w (fun w' => ∃ g', g'.bare = _ ∧ Next w0 w' eb mb g0 g') fl s.st.number sv b.length cb h (by rw [hbs]; exact hb) (by rw [hbg]; exact hg) ?_
    intro w1 g1 hah1
    obtain ⟨e1, n1, hby, hnf⟩ := hah hah1
    obtain ⟨x, hx, rfl⟩ := mem_bare e1 hs
    have hmm : g1.bare.m = p.begin.m := congrArg GEnd.m e1
    have m1 : g1.m.receive = p.m.receive := by have := congrArg (fun m : EndM => m.receive) hmm; exact this
    have m2 : g1.m.owed = p.m.owed := by have := congrArg (fun m : EndM => m.owed) hmm; exact this
    have m3 : g1.m.count = p.m.count := by have := congrArg (fun m : EndM => m.count) hmm; exact this
    refine (comeData_lost eb mb g1 x fl sv b.length cb w1 n1.inv hx ha hh hr hlen (by rw [m1]; exact hfl) (by rw [m1]; exact b1) (by rw [m2]; exact b2) (by rw [m3]; exact b3)).mono ?_
    rintro e w' ⟨rfl, h2⟩
    refine ⟨rfl, _, ?_, hn0.trans (n1.trans h2)⟩
    have e3 : ({ g1 with m := (g1.m.got_ b.length).owes b.length } : GEnd).bare = { g1.bare with m := (g1.bare.m.got_ b.length).owes b.length } := by
      unfold GEnd.bare
      simp only [GEnd.mk.injEq, true_and, and_true]
      have := congrArg (fun m : EndM => m.owes b.length) (got_bare g1.m b.length)
      exact this
    rw [e3, e1]
    rfl
  | reset fl k b hk hf ha hcl hL hul b2 hb hg =>
    rw [show frV (Fr.mk 2 fl p.L[k] b).kind (Fr.mk 2 fl p.L[k] b).flags (Fr.mk 2 fl p.L[k] b).stream bv cv (Fr.mk 2 fl p.L[k] b).body = .iface 170 (.agg #[.int .i64 2, .int .i64 fl, .int .i64 p.L[k], .slice sv b.length cb]) from by
      simp only at hsv
      unfold frV
      simp [hsv]]
    refine come_reset eb mb g w (fun w' => ∃ g', g'.bare = _ ∧ Next w0 w' eb mb g0 g') fl p.L[k] sv b.length cb h (by rw [hbs]; exact hb) (by rw [hbg]; exact hg) ?_
    intro w1 g1 hah1
    obtain ⟨e1, n1, -, -⟩ := hah hah1
    have hL1 : g1.L = p.L := by have := congrArg GEnd.L e1; exact this
    have hk1 : k < g1.L.length := by rw [hL1]; exact hk
    have hLk : g1.L[k] = p.L[k] := by simp only [hL1]
    have hK1 : g1.K.map GSt.bare = p.K := by have := congrArg GEnd.K e1; exact this
    have hat : (atN g1.K p.L[k]).bare = atN p.K p.L[k] := by rw [← hK1, atN_bare]
    have m2 : g1.m.owed = p.m.owed := by have := congrArg (fun x : GEnd => x.m.owed) e1; exact this
    have q1 : (atN g1.K p.L[k]).st.announced = true := by
      have : (atN g1.K p.L[k]).bare.st.announced = true := by rw [hat]; exact ha
      exact this
    have q2 : (atN g1.K p.L[k]).st.closed = false := by
      have : (atN g1.K p.L[k]).bare.st.closed = false := by rw [hat]; exact hcl
      exact this
    have q3 : (atN g1.K p.L[k]).un = (atN p.K p.L[k]).un := by
      have : (atN g1.K p.L[k]).bare.un = (atN p.K p.L[k]).un := by rw [hat]
      exact this
    rw [← hLk] at q1 q2 q3
    have hcr := comeReset_ok eb mb g1 k fl sv b.length cb w1 n1.inv hk1 q1 q2 (by rw [hL1]; exact hL) (by rw [q3, hLk]; exact hul) (by rw [m2]; exact b2)
    rw [hLk] at hcr q3
    refine hcr.mono ?_
    rintro e w' ⟨rfl, g', h1, h2, -, -⟩
    refine ⟨rfl, g', ?_, hn0.trans (n1.trans h2)⟩
    rw [h1, q3, hL1]
    have e3 : ({ g1 with m := g1.m.owes (atN p.K p.L[k]).un.length, K := updN p.L[k] (fun s => s.drop 2) g1.K, L := p.L.eraseIdx k } : GEnd).bare = { g1.bare with m := g1.bare.m.owes (atN p.K p.L[k]).un.length, K := updN p.L[k] (fun s => s.drop 2) g1.bare.K, L := p.L.eraseIdx k } := by
      unfold GEnd.bare
      simp only [GEnd.mk.injEq, true_and, and_true]
      exact ⟨rfl, updN_bare _ (fun s => s.drop 2) (fun s => rfl) _⟩
    rw [e3, e1]
    rfl
  | ping fl b hf ha h8 hb hg =>
    rw [show frV (Fr.mk 4 fl 0 b).kind (Fr.mk 4 fl 0 b).flags (Fr.mk 4 fl 0 b).stream bv cv (Fr.mk 4 fl 0 b).body = .iface 176 (.agg #[.int .i64 4, .int .i64 fl, .int .i64 0, .slice sv b.length cb, .int .u32 (num4 b)]) from by
      simp only at hsv
      unfold frV
      simp [hsv]]
    refine (come2_ping eb mb g w (fun w' => ∃ g', g'.bare = _ ∧ Next w0 w' eb mb g0 g') (fun _ => False) 0 fl 0 sv b.length cb (num4 b) h (by rw [hbs]; exact hb) (by rw [hbg]; exact hg) ?_).mono (fun e w' hx => by
      rcases hx with hx | ⟨-, hx⟩
      · exact hx
      · exact hx.elim)
    intro w1 g1 hah1
    obtain ⟨e1, n1, hby, hnf⟩ := hah hah1
    have ha1 : g1.ans.length = p.ans.length := by
      have e2 : g1.bare.ans = p.begin.ans := by rw [e1]
      have e3 : (g1.ans.map Ans.bare).length = p.ans.length := by rw [show g1.ans.map Ans.bare = p.ans from e2]
      simpa using e3
    simp only at hsv hby hbv
    rw [hsv] at hby hnf hbv hb0 hbn
    have hown1 : w1.ownsRow 0 5 1 (.slice sv b.length cb) b.length (b.map B) := owns_chg hbv n1.chg hbn
    refine (comePing_any eb mb g1 fl (num4 b) sv cb b w1 n1.inv hf ha (by omega) hown1 hnf (hn0.trans n1) (fun j hj => Or.inr (hb0 j hj))).mono ?_
    rintro e w' ⟨rfl, g', h1, h2⟩
    refine Or.inl ⟨rfl, g', ?_, h2⟩
    rw [h1]
    have e3 : ({ g1 with m := { g1.m with answers := .tuple #[] }, ans := g1.ans ++ [⟨4, 1, b, .slice none 0 0⟩] } : GEnd).bare = { g1.bare with m := { g1.bare.m with answers := .tuple #[] }, ans := g1.bare.ans ++ [⟨4, 1, b, .slice none 0 0⟩] } := by
      unfold GEnd.bare
      simp only [GEnd.mk.injEq, true_and, and_true]
      refine ⟨rfl, ?_⟩
      rw [List.map_append]
      rfl
    rw [e3, e1]
    rfl
  | pad fl s b k hs hf hpd ha hh hr hcl h1 hk hlen hun hfl b1 b2 b3 b4 b5 b6 hb hg =>
    obtain ⟨sc, cc, hcv1, -, hco⟩ := cut_in hpd (bytesIn_of_owns hbv rfl) (hcv rfl) h1
    rw [show frV (Fr.mk 0 fl s.st.number b).kind (Fr.mk 0 fl s.st.number b).flags (Fr.mk 0 fl s.st.number b).stream bv cv (Fr.mk 0 fl s.st.number b).body = .iface 162 (dataP fl s.st.number sv b.length cb sc (cutB fl b).length cc) from by
      simp only at hsv
      unfold frV dataP
      simp [hcv1, hsv]]
    refine come_dataP eb mb g w (fun w' => ∃ g', g'.bare = _ ∧ Next w0 w' eb mb g0 g') fl s.st.number sv b.length cb sc (cutB fl b).length cc h (by rw [hbs]; exact hb) (by rw [hbg]; exact hg) ?_
    intro w1 g1 hah1
    obtain ⟨e1, n1, hby, hnf⟩ := hah hah1
    obtain ⟨x, hx, rfl⟩ := mem_bare e1 hs
    obtain ⟨-, -, -, hbc, -⟩ := cut_in hpd hby (hcv rfl) h1
    have hnc : ∀ j, (Value.slice sc (cutB fl b).length cc).ownBlock = some j → ¬ Foot eb mb g1 j := fun j hj => hnf j (hco j (by rw [hcv1]; exact hj))
    simp only at hbc
    rw [hcv1] at hbc
    have hmm : g1.bare.m = p.begin.m := congrArg GEnd.m e1
    have m1 : g1.m.receive = p.m.receive := by have := congrArg (fun m : EndM => m.receive) hmm; exact this
    have m2 : g1.m.owed = p.m.owed := by have := congrArg (fun m : EndM => m.owed) hmm; exact this
    have m3 : g1.m.count = p.m.count := by have := congrArg (fun m : EndM => m.count) hmm; exact this
    have m4 : g1.m.own = p.m.own := by have := congrArg (fun m : EndM => m.own) hmm; exact this
    refine (comeData_pad eb mb g1 x fl sv b.length cb sc (cutB fl b) cc k w1 n1.inv hx ha hh hr hf hcl hbc hnc hk hlen hun (by rw [m1, m4]; exact Or.inr hfl) (by rw [m1]; exact b1) (by rw [m2]; exact b2) (by rw [m3]; exact b3) (by rw [m4]; exact b4) b5 b6).mono ?_
    rintro e w' ⟨rfl, g', h1, h2⟩
    refine ⟨rfl, g', ?_, hn0.trans (n1.trans h2)⟩
    rw [h1]
    have e3 : ({ g1 with m := (g1.m.got_ b.length).owes k, K := updN x.st.number (fun s => s.morep b.length k (cutB fl b) (hasB fl 1)) g1.K } : GEnd).bare = { g1.bare with m := (g1.bare.m.got_ b.length).owes k, K := updN x.st.number (fun s => s.morep b.length k (cutB fl b) (hasB fl 1)) g1.bare.K } := by
      unfold GEnd.bare
      simp only [GEnd.mk.injEq, true_and, and_true]
      refine ⟨?_, updN_bare _ (fun s => s.morep b.length k (cutB fl b) (hasB fl 1)) (fun s => rfl) _⟩
      rw [← got_bare]
      rfl
    rw [e3, e1]
    rfl
  | ack fl b hf ha hw hb hg =>
    rw [show frV (Fr.mk 3 fl 0 b).kind (Fr.mk 3 fl 0 b).flags (Fr.mk 3 fl 0 b).stream bv cv (Fr.mk 3 fl 0 b).body = .iface 173 (.agg #[.int .i64 3, .int .i64 fl, .int .i64 0, .slice sv b.length cb, .int .i64 0]) from by
      simp only at hsv
      unfold frV
      simp [hsv, ha]]
    refine (come2_settings eb mb g w (fun w' => ∃ g', g'.bare = _ ∧ Next w0 w' eb mb g0 g') (fun _ => False) 0 fl 0 sv b.length cb 0 h (by rw [hbs]; exact hb) (by rw [hbg]; exact hg) ?_).mono (fun e w' hx => by
      rcases hx with hx | ⟨-, hx⟩
      · exact hx
      · exact hx.elim)
    intro w1 g1 hah1
    obtain ⟨e1, n1, -, -⟩ := hah hah1
    have hmm : g1.bare.m = p.begin.m := congrArg GEnd.m e1
    have hw1 : g1.m.waits = true := by have := congrArg (fun m : EndM => m.waits) hmm; exact (show g1.m.waits = p.m.waits from this).trans hw
    refine (comeSettings_ack eb mb g1 fl 0 0 sv b.length cb w1 n1.inv hw1 hf ha).mono ?_
    rintro e w' ⟨rfl, h2⟩
    refine Or.inl ⟨rfl, _, ?_, hn0.trans (n1.trans h2)⟩
    have e3 : ({ g1 with m := g1.m.acked } : GEnd).bare = { g1.bare with m := g1.bare.m.acked } := rfl
    rw [e3, e1]
    rfl
  | pong fl b n hn hf ha b0 b1 b2 b3 b4 b5 b6 b7 hb hg =>
    rw [show frV (Fr.mk 4 fl 0 b).kind (Fr.mk 4 fl 0 b).flags (Fr.mk 4 fl 0 b).stream bv cv (Fr.mk 4 fl 0 b).body = .iface 176 (.agg #[.int .i64 4, .int .i64 fl, .int .i64 0, .slice sv b.length cb, .int .u32 n]) from by
      simp only at hsv
      unfold frV
      simp [hsv, hn]]
    refine (come2_ping eb mb g w (fun w' => ∃ g', g'.bare = _ ∧ Next w0 w' eb mb g0 g') (fun _ => False) 0 fl 0 sv b.length cb n h (by rw [hbs]; exact hb) (by rw [hbg]; exact hg) ?_).mono (fun e w' hx => by
      rcases hx with hx | ⟨-, hx⟩
      · exact hx
      · exact hx.elim)
    intro w1 g1 hah1
    obtain ⟨e1, n1, -, -⟩ := hah hah1
    have hmm : g1.bare.m = p.begin.m := congrArg GEnd.m e1
    have m0 : g1.m.owed = p.m.owed := by have := congrArg (fun m : EndM => m.owed) hmm; exact this
    have m1 : g1.m.count = p.m.count := by have := congrArg (fun m : EndM => m.count) hmm; exact this
    have m2 : g1.m.clock = p.m.clock := by have := congrArg (fun m : EndM => m.clock) hmm; exact this
    have m3 : g1.m.start = p.m.start := by have := congrArg (fun m : EndM => m.start) hmm; exact this
    have m4 : g1.m.bestB = p.m.bestB := by have := congrArg (fun m : EndM => m.bestB) hmm; exact this
    have m5 : g1.m.bestT = p.m.bestT := by have := congrArg (fun m : EndM => m.bestT) hmm; exact this
    have m6 : g1.m.target = p.m.target := by have := congrArg (fun m : EndM => m.target) hmm; exact this
    have m7 : g1.m.most = p.m.most := by have := congrArg (fun m : EndM => m.most) hmm; exact this
    refine (comePing_ack eb mb g1 fl n sv b.length cb w1 n1.inv hf ha (by rw [m0]; exact b0) (by rw [m1]; exact b1) (by rw [m2]; exact b2) (by rw [m3]; exact b3) (by rw [m4]; exact b4) (by rw [m5]; exact b5) (by rw [m6]; exact b6) (by rw [m7]; exact b7)).mono ?_
    rintro e w' ⟨rfl, h2⟩
    refine Or.inl ⟨rfl, _, ?_, hn0.trans (n1.trans h2)⟩
    have e3 : ({ g1 with m := g1.m.ponged n } : GEnd).bare = { g1.bare with m := g1.bare.m.ponged n } := by
      unfold GEnd.bare
      simp only [GEnd.mk.injEq, true_and, and_true]
      exact ponged_bare _ _
    rw [e3, e1]
    rfl

  | credit0 fl b hs b0 hb hg =>
    rw [show frV (Fr.mk 6 fl 0 b).kind (Fr.mk 6 fl 0 b).flags (Fr.mk 6 fl 0 b).stream bv cv (Fr.mk 6 fl 0 b).body = .iface 179 (.agg #[.int .i64 6, .int .i64 fl, .int .i64 0, .slice sv b.length cb, .int .i64 (num4 b)]) from by
      simp only at hsv
      unfold frV
      simp [hsv]]
    refine (come2_credit eb mb g w (fun w' => ∃ g', g'.bare = _ ∧ Next w0 w' eb mb g0 g') (fun _ => False) 0 fl 0 sv b.length cb (num4 b) h (by rw [hbs]; exact hb) (by rw [hbg]; exact hg) ?_).mono (fun e w' hx => by
      rcases hx with hx | ⟨-, hx⟩
      · exact hx
      · exact hx.elim)
    intro w1 g1 hah1
    obtain ⟨e1, n1, -, -⟩ := hah hah1
    have hmm : g1.bare.m = p.begin.m := congrArg GEnd.m e1
    have m0 : g1.m.send = p.m.send := by have := congrArg (fun m : EndM => m.send) hmm; exact this
    refine (comeCredit_conn eb mb g1 fl (num4 b) sv b.length cb w1 n1.inv (by rw [m0]; exact hs) (num4_le b).1 (by rw [m0]; exact b0)).mono ?_
    rintro e w' ⟨rfl, h2⟩
    refine Or.inl ⟨rfl, _, ?_, hn0.trans (n1.trans h2)⟩
    have e3 : ({ g1 with m := g1.m.more (num4 b) } : GEnd).bare = { g1.bare with m := g1.bare.m.more (num4 b) } := rfl
    rw [e3, e1]
    rfl
  | credits fl s b hs h0 ha hr hn b1 b2 hb hg =>
    rw [show frV (Fr.mk 6 fl s.st.number b).kind (Fr.mk 6 fl s.st.number b).flags (Fr.mk 6 fl s.st.number b).stream bv cv (Fr.mk 6 fl s.st.number b).body = .iface 179 (.agg #[.int .i64 6, .int .i64 fl, .int .i64 s.st.number, .slice sv b.length cb, .int .i64 (num4 b)]) from by
      simp only at hsv
      unfold frV
      simp [hsv]]
    refine (come2_credit eb mb g w (fun w' => ∃ g', g'.bare = _ ∧ Next w0 w' eb mb g0 g') (fun _ => False) 0 fl s.st.number sv b.length cb (num4 b) h (by rw [hbs]; exact hb) (by rw [hbg]; exact hg) ?_).mono (fun e w' hx => by
      rcases hx with hx | ⟨-, hx⟩
      · exact hx
      · exact hx.elim)
    intro w1 g1 hah1
    obtain ⟨e1, n1, -, -⟩ := hah hah1
    have hmm : g1.bare.m = p.begin.m := congrArg GEnd.m e1
    have hKK : g1.bare.K = p.K := by have := congrArg GEnd.K e1; exact this
    have m0 : g1.m.other = p.m.other := by have := congrArg (fun m : EndM => m.other) hmm; exact this
    obtain ⟨y, hy, hye⟩ := mem_bare (p := g1.bare) rfl (s := s) (by rw [hKK]; exact hs)
    subst hye
    have hl4 := num4_le b
    refine (comeCredit_st eb mb g1 y fl (num4 b) sv b.length cb w1 n1.inv hy h0 ha hr (by rw [m0]; exact hn) ⟨hl4.1, by omega⟩ (by rw [m0]; exact b1) b2).mono ?_
    rintro e w' ⟨rfl, h2⟩
    refine Or.inl ⟨rfl, _, ?_, hn0.trans (n1.trans h2)⟩
    rw [updN_const (f := fun x => x.credit (num4 b)) n1.inv.nn hy rfl]
    have e3 : ({ g1 with K := updN y.st.number (fun x => x.credit (num4 b)) g1.K } : GEnd).bare = { g1.bare with K := updN y.st.number (fun x => x.credit (num4 b)) g1.bare.K } := by
      unfold GEnd.bare
      simp only [GEnd.mk.injEq, true_and, and_true]
      exact updN_bare _ (fun x => x.credit (num4 b)) (fun x => rfl) _
    rw [e3, e1]
    rfl
  | sets fl b hf ha hA hn hw hb hg =>
    rw [show frV (Fr.mk 3 fl 0 b).kind (Fr.mk 3 fl 0 b).flags (Fr.mk 3 fl 0 b).stream bv cv (Fr.mk 3 fl 0 b).body = .iface 173 (.agg #[.int .i64 3, .int .i64 fl, .int .i64 0, .slice sv b.length cb, .int .i64 (num4 b)]) from by
      simp only at hsv
      unfold frV
      simp [hsv, ha]]
    refine (come2_settings eb mb g w (fun w' => ∃ g', g'.bare = _ ∧ Next w0 w' eb mb g0 g') (fun _ => False) 0 fl 0 sv b.length cb (num4 b) h (by rw [hbs]; exact hb) (by rw [hbg]; exact hg) ?_).mono (fun e w' hx => by
      rcases hx with hx | ⟨-, hx⟩
      · exact hx
      · exact hx.elim)
    intro w1 g1 hah1
    obtain ⟨e1, n1, -, -⟩ := hah hah1
    have hKK : g1.bare.K = p.K := by have := congrArg GEnd.K e1; exact this
    have hAA : g1.bare.ans = p.ans := by have := congrArg GEnd.ans e1; exact this
    have hal : g1.ans.length = p.ans.length := by rw [← hAA]; show _ = (g1.ans.map Ans.bare).length; rw [List.length_map]
    refine (comeSettings_any eb mb g1 fl (num4 b) sv b.length cb w1 n1.inv hf ha (by rw [hal]; exact hA) ⟨(num4_le b).1, hn⟩ (fun y hy => hw y.bare (by rw [← hKK]; exact List.mem_map.2 ⟨y, hy, rfl⟩))).mono ?_
    rintro e w' ⟨rfl, g', h1, h2⟩
    refine Or.inl ⟨rfl, g', ?_, hn0.trans (n1.trans h2)⟩
    rw [h1]
    have e3 : ({ g1 with m := { g1.m with other := num4 b, answers := .tuple #[] }, ans := g1.ans ++ [⟨3, 1, [], .slice none 0 0⟩] } : GEnd).bare = { g1.bare with m := { g1.bare.m with other := num4 b, answers := .tuple #[] }, ans := g1.bare.ans ++ [⟨3, 1, [], .slice none 0 0⟩] } := by
      unfold GEnd.bare
      simp only [GEnd.mk.injEq, true_and, and_true, List.map_append]
      exact ⟨rfl, rfl⟩
    rw [e3, e1]
    rfl
/-- The bytes of the greeting. -/
def greetB : List UInt8 := [115, 108, 117, 105, 99, 101, 10]
/-- What bytes do that are no fault. -/
def FeedR (z1 : GEnd) (z2 : List UInt8) (z3 : GEnd) : Prop := ∀ Z : GEnd → List UInt8 → GEnd → Prop, (∀ (p : GEnd), Z p [] p) → (∀ (p q : GEnd) (k : Nat) (c : UInt8) (r : List UInt8) (hk : p.m.greeted = (k : Int)) (hk7 : k < 7) (hf : p.m.fault = 0) (hc : greetB[k]? = some c) (h : Z { p with m := { p.m with greeted := (k + 1 : Nat) } } r q), Z p (c :: r) q) → (∀ (p q : GEnd) (c : UInt8) (g' r : List UInt8) (hg : p.m.greeted = 7) (hf : p.m.fault = 0) (hs : step p.got c = .more g') (h : Z { p with got := g' } r q), Z p (c :: r) q) → (∀ (p p1 q : GEnd) (c : UInt8) (f : Fr) (r : List UInt8) (hg : p.m.greeted = 7) (hf : p.m.fault = 0) (hs : step p.got c = .frame f) (hc : Come { p with got := [] } f p1) (h : Z p1 r q), Z p (c :: r) q) → Z z1 z2 z3
theorem FeedR.nil {p : GEnd} : FeedR p [] p := fun Z zk1 zk2 zk3 zk4 => zk1 p
theorem FeedR.greet {p q : GEnd} {k : Nat} {c : UInt8} {r : List UInt8} (hk : p.m.greeted = (k : Int)) (hk7 : k < 7) (hf : p.m.fault = 0) (hc : greetB[k]? = some c) (h : FeedR { p with m := { p.m with greeted := (k + 1 : Nat) } } r q) : FeedR p (c :: r) q := fun Z zk1 zk2 zk3 zk4 => zk2 p q k c r hk hk7 hf hc (h Z zk1 zk2 zk3 zk4)
theorem FeedR.more {p q : GEnd} {c : UInt8} {g' r : List UInt8} (hg : p.m.greeted = 7) (hf : p.m.fault = 0) (hs : step p.got c = .more g') (h : FeedR { p with got := g' } r q) : FeedR p (c :: r) q := fun Z zk1 zk2 zk3 zk4 => zk3 p q c g' r hg hf hs (h Z zk1 zk2 zk3 zk4)
theorem FeedR.frame {p p1 q : GEnd} {c : UInt8} {f : Fr} {r : List UInt8} (hg : p.m.greeted = 7) (hf : p.m.fault = 0) (hs : step p.got c = .frame f) (hc : Come { p with got := [] } f p1) (h : FeedR p1 r q) : FeedR p (c :: r) q := fun Z zk1 zk2 zk3 zk4 => zk4 p p1 q c f r hg hf hs hc (h Z zk1 zk2 zk3 zk4)
theorem FeedR.ind {motive : ∀ (z1 : GEnd) (z2 : List UInt8) (z3 : GEnd), FeedR z1 z2 z3 → Prop} (nil : ∀ {p : GEnd}, motive p [] p (@FeedR.nil p)) (greet : ∀ {p q : GEnd} {k : Nat} {c : UInt8} {r : List UInt8} (hk : p.m.greeted = (k : Int)) (hk7 : k < 7) (hf : p.m.fault = 0) (hc : greetB[k]? = some c) (h : FeedR { p with m := { p.m with greeted := (k + 1 : Nat) } } r q) (ih : motive { p with m := { p.m with greeted := (k + 1 : Nat) } } r q h), motive p (c :: r) q (@FeedR.greet p q k c r hk hk7 hf hc h)) (more : ∀ {p q : GEnd} {c : UInt8} {g' r : List UInt8} (hg : p.m.greeted = 7) (hf : p.m.fault = 0) (hs : step p.got c = .more g') (h : FeedR { p with got := g' } r q) (ih : motive { p with got := g' } r q h), motive p (c :: r) q (@FeedR.more p q c g' r hg hf hs h)) (frame : ∀ {p p1 q : GEnd} {c : UInt8} {f : Fr} {r : List UInt8} (hg : p.m.greeted = 7) (hf : p.m.fault = 0) (hs : step p.got c = .frame f) (hc : Come { p with got := [] } f p1) (h : FeedR p1 r q) (ih : motive p1 r q h), motive p (c :: r) q (@FeedR.frame p p1 q c f r hg hf hs hc h)) {z1 : GEnd} {z2 : List UInt8} {z3 : GEnd} (zt : FeedR z1 z2 z3) : motive z1 z2 z3 zt := (zt (fun z1 z2 z3 => ∃ zt : FeedR z1 z2 z3, motive z1 z2 z3 zt) (fun p => ⟨_, @nil p⟩) (fun p q k c r hk hk7 hf hc zy => zy.elim fun h zx => ⟨_, @greet p q k c r hk hk7 hf hc h zx⟩) (fun p q c g' r hg hf hs zy => zy.elim fun h zx => ⟨_, @more p q c g' r hg hf hs h zx⟩) (fun p p1 q c f r hg hf hs hc zy => zy.elim fun h zx => ⟨_, @frame p p1 q c f r hg hf hs hc h zx⟩)).elim fun _ zx => zx
theorem Come.got {p q : GEnd} {f : Fr} (h : Come p f q) : q.got = p.got := by cases h using Come.ind <;> rfl

theorem frV_iface (k f s : Int) (bv cv : Value) (l : List UInt8) : ∃ t x, frV k f s bv cv l = .iface t x := by
  unfold frV
  repeat' split
  all_goals exact ⟨_, _, rfl⟩
/-- What one byte may do. -/
def ByteR (p : GEnd) (c : UInt8) (z1 : GEnd) : Prop := ∀ Z : GEnd → Prop, (∀ (k : Nat) (hk : p.m.greeted = (k : Int)) (hk7 : k < 7) (hc : greetB[k]? = some c), Z { p with m := { p.m with greeted := (k + 1 : Nat) } }) → (∀ (g' : List UInt8) (hg : p.m.greeted = 7) (hs : step p.got c = .more g'), Z { p with got := g' }) → (∀ (p1 : GEnd) (f : Fr) (hg : p.m.greeted = 7) (hs : step p.got c = .frame f) (hc : Come { p with got := [] } f p1), Z p1) → Z z1
theorem ByteR.greet {p : GEnd} {c : UInt8} {k : Nat} (hk : p.m.greeted = (k : Int)) (hk7 : k < 7) (hc : greetB[k]? = some c) : ByteR p c { p with m := { p.m with greeted := (k + 1 : Nat) } } := fun Z zk1 zk2 zk3 => zk1 k hk hk7 hc
theorem ByteR.more {p : GEnd} {c : UInt8} {g' : List UInt8} (hg : p.m.greeted = 7) (hs : step p.got c = .more g') : ByteR p c { p with got := g' } := fun Z zk1 zk2 zk3 => zk2 g' hg hs
theorem ByteR.frame {p : GEnd} {c : UInt8} {p1 : GEnd} {f : Fr} (hg : p.m.greeted = 7) (hs : step p.got c = .frame f) (hc : Come { p with got := [] } f p1) : ByteR p c p1 := fun Z zk1 zk2 zk3 => zk3 p1 f hg hs hc
theorem ByteR.ind {p : GEnd} {c : UInt8} {motive : ∀ (z1 : GEnd), ByteR p c z1 → Prop} (greet : ∀ {k : Nat} (hk : p.m.greeted = (k : Int)) (hk7 : k < 7) (hc : greetB[k]? = some c), motive { p with m := { p.m with greeted := (k + 1 : Nat) } } (@ByteR.greet p c k hk hk7 hc)) (more : ∀ {g' : List UInt8} (hg : p.m.greeted = 7) (hs : step p.got c = .more g'), motive { p with got := g' } (@ByteR.more p c g' hg hs)) (frame : ∀ {p1 : GEnd} {f : Fr} (hg : p.m.greeted = 7) (hs : step p.got c = .frame f) (hc : Come { p with got := [] } f p1), motive p1 (@ByteR.frame p c p1 f hg hs hc)) {z1 : GEnd} (zt : ByteR p c z1) : motive z1 zt := (zt (fun z1 => ∃ zt : ByteR p c z1, motive z1 zt) (fun k hk hk7 hc => ⟨_, @greet k hk hk7 hc⟩) (fun g' hg hs => ⟨_, @more g' hg hs⟩) (fun p1 f hg hs hc => ⟨_, @frame p1 f hg hs hc⟩)).elim fun _ zx => zx

set_option maxRecDepth 100000 in
set_option maxHeartbeats 1200000 in
theorem i_byte (eb mb : Nat) (g p q : GEnd) (c : UInt8) (w : World) (h : Inv w eb mb g) (hr : RdOk g) (hp : g.bare = p) (hb : ByteR p c q) (hgl : Gl w) (hge : ∀ j, j < 7 → ¬ Foot eb mb g j) :
    Calls Tryz.prog 55 #[.pointer (some ⟨eb, 0, none⟩), .int .u8 c.toNat] w fun e w' => e = .returned (.tuple #[]) ∧ ∃ g', g'.bare = q ∧ RdOk g' ∧ Next w w' eb mb g g' := by
  have c24 := h.en.c24
  have f24 := h.en.fr 24
  have hlt := h.en.lt
  have hgr : g.m.greeted = p.m.greeted := by rw [← hp]; rfl
  have hgot : g.got = p.got := by rw [← hp]; rfl
  cases hb using ByteR.ind with
  | @greet k hk hk7 hc =>
    have hset : Chg (fun j => j = eb) w (w.setCell ⟨eb, 24, none⟩ (.int .i64 ((k : Int) + 1))) := chg_set (Chg.refl _ _) rfl
    have hn := h.onEnd (S := fun j => j = eb) (m' := { g.m with greeted := (k : Int) + 1 }) (o' := g.out) (A' := g.ans) (R' := g.res) hset (fun j e => Or.inl e) (EnB.of (blk_set h.en.blk) rfl) rfl rfl rfl (owns_chg h.out hset (fun j hj e => by rw [e] at hj; exact owns_ne h.out h.en.blk (by decide) hj)) (fun j hj => Or.inl hj) h.ans (fun _ h => h) (fun _ h => h) h.res (fun _ h => h)
    have HEND : Hid (∃ g', g'.bare = ({ p with m := { p.m with greeted := ((k + 1 : Nat) : Int) } } : GEnd) ∧ RdOk g' ∧ Next w (w.setCell ⟨eb, 24, none⟩ (.int .i64 ((k : Int) + 1))) eb mb g g') := by
      refine ⟨{ g with m := { g.m with greeted := (k : Int) + 1 } }, ?_, ⟨hr.got, hr.head⟩, hn⟩
      rw [← hp]
      rfl
    rw [hgr, hk] at c24
    clear h hr hp hgl hge hset hn hgr hgot
    obtain rfl | rfl | rfl | rfl | rfl | rfl | rfl : k = 0 ∨ k = 1 ∨ k = 2 ∨ k = 3 ∨ k = 4 ∨ k = 5 ∨ k = 6 := by omega
    all_goals
      simp only [greetB, List.getElem?_cons_zero, List.getElem?_cons_succ, Option.some.injEq] at hc
      subst hc
      clear hk hk7
      go_enter Tryz.func55, Tryz.ntmps55
      go_wp2
      refine bodyPost_ret (v := .tuple #[]) ?_ rfl ⟨rfl, HEND.out⟩
      simp [results, Tryz.results55, go_sem]
  | @more g' hg hs =>
    rw [hgr, hg] at c24
    have hT := take_any eb 25 103 g.m.cells g.m.got g.got c w (h.rdsg hr)
    rw [← hgot] at hs
    have HT : Hid (Calls Tryz.prog 68 #[.pointer (some ⟨eb, 25, none⟩), .int .u8 c.toNat] w fun e w' => e = .returned (.tuple #[.nilIface, .bool false]) ∧ ∃ g1, g1.bare = ({ p with got := g' } : GEnd) ∧ RdOk g1 ∧ Next w w' eb mb g g1) := by
      refine hT.mono ?_
      rintro e w' (⟨g1, cs', gv', h1, h2, h3⟩ | ⟨code, h1, -⟩ | ⟨f, bv, cv, cs', gv', h1, -⟩)
      · rw [hs] at h1
        simp only [Sum.inl.injEq] at h1
        subst h1
        obtain ⟨g2, e1, e2, e3, -⟩ := h.onGot h3
        refine ⟨h2, g2, ?_, e2, e3⟩
        rw [e1, ← hp]
        rfl
      · rw [hs] at h1; cases h1
      · rw [hs] at h1; cases h1
    clear h hr hp hgl hge hT hs hgr hgot
    go_enter Tryz.func55, Tryz.ntmps55
    go_wp2_with fail
    refine HT.out.mono ?_
    rintro e w' ⟨rfl, hx⟩
    have HX := hide hx
    clear hx
    go_wp2
    exact bodyPost_end (results_none rfl _ _ _) rfl ⟨rfl, HX.out⟩
  | @frame p1 f hg hs hc =>
    rw [hgr, hg] at c24
    have hT := take_any eb 25 103 g.m.cells g.m.got g.got c w (h.rdsg hr)
    rw [← hgot] at hs
    have HT : Hid (Calls Tryz.prog 68 #[.pointer (some ⟨eb, 25, none⟩), .int .u8 c.toNat] w fun e w' => ∃ bv cv, e = .returned (.tuple #[frV f.kind f.flags f.stream bv cv f.body, .bool true]) ∧ Calls Tryz.prog 69 #[.pointer (some ⟨eb, 0, none⟩), frV f.kind f.flags f.stream bv cv f.body] w' fun e w'' => e = .returned (.tuple #[]) ∧ ∃ g', g'.bare = q ∧ RdOk g' ∧ Next w w'' eb mb g g') := by
      refine hT.mono ?_
      rintro e w' (⟨g1, cs', gv', h1, -⟩ | ⟨code, h1, -⟩ | ⟨f', bv, cv, cs', gv', h1, h2, h3, h4, h5, h6, h7⟩)
      · rw [hs] at h1; cases h1
      · rw [hs] at h1; cases h1
      · rw [hs] at h1
        simp only [Sum.inl.injEq, Sum.inr.injEq] at h1
        subst h1
        refine ⟨bv, cv, h2, ?_⟩
        obtain ⟨g2, e1, e2, e3, e4⟩ := h.onGot h6
        have hge2 : ∀ j, j < 7 → ¬ Foot eb mb g2 j := fun j hj hf => by
          rcases e3.grow j hf with a | a
          · exact hge j hj a
          · have := hgl.lt; omega
        have hbn : ∀ j, bv.ownBlock = some j → ¬ Foot eb mb g2 j := fun j hj hf => by
          rcases e4 j hf with a | a
          · have := Foot.lt h a; have := h5 j hj; omega
          · exact h7 j hj a
        refine (i_come eb mb g2 { p with got := [] } q f bv cv w' e3.inv (by rw [e1, ← hp]; rfl) hc (hgl.chg e3.chg hge) hge2 h4 hbn h3 e3 h5).mono ?_
        rintro e w'' ⟨rfl, g', q1, q2⟩
        refine ⟨rfl, g', q1, RdOk.nil ?_, q2⟩
        have : g'.bare.got = q.got := by rw [q1]
        exact this.trans hc.got
    clear h hr hp hgl hge hT hs hgr hgot
    go_enter Tryz.func55, Tryz.ntmps55
    go_wp2_with fail
    refine HT.out.mono ?_
    rintro e w' ⟨bv, cv, rfl, hx⟩
    have HX := hide hx
    clear hx
    obtain ⟨ty, x, hfv⟩ := frV_iface f.kind f.flags f.stream bv cv f.body
    rw [hfv] at HX ⊢
    go_wp2_with fail
    refine HX.out.mono ?_
    rintro e w'' ⟨rfl, hx⟩
    have HY := hide hx
    clear hx
    go_wp2
    exact bodyPost_end (results_none rfl _ _ _) rfl ⟨rfl, HY.out⟩
end Go.Proofs.YtdccldbefdfppaaGreatDoor
/-
  Package ends: Feed of bytes that are no fault; package sluice's.
-/
namespace Go.Proofs.YtdccldbefdfppaaGreatDoor
set_option linter.unusedVariables false
set_option linter.unusedSimpArgs false
open Go.RowKit

theorem FeedR.byte {p q : GEnd} {c : UInt8} {r : List UInt8} (h : FeedR p (c :: r) q) : p.m.fault = 0 ∧ ∃ p1, ByteR p c p1 ∧ FeedR p1 r q := by
  cases h using FeedR.ind with
  | greet hk hk7 hf hc h => exact ⟨hf, _, .greet hk hk7 hc, h⟩
  | more hg hf hs h => exact ⟨hf, _, .more hg hs, h⟩
  | frame hg hf hs hc h => exact ⟨hf, _, .frame hg hs hc, h⟩
theorem FeedR.app {p p1 q : GEnd} {l r : List UInt8} (h : FeedR p l p1) (h2 : FeedR p1 r q) : FeedR p (l ++ r) q := by
  induction h using FeedR.ind with
  | nil => exact h2
  | greet hk hk7 hf hc _ ih => exact .greet hk hk7 hf hc (ih h2)
  | more hg hf hs _ ih => exact .more hg hf hs (ih h2)
  | frame hg hf hs hc _ ih => exact .frame hg hf hs hc (ih h2)

set_option maxRecDepth 100000 in
set_option maxHeartbeats 1200000 in
theorem i_feed (eb mb : Nat) (g q : GEnd) (bv : Value) (l : List UInt8) (w : World) (h : Inv w eb mb g) (hr : RdOk g) (hf : FeedR g.bare l q) (hgl : Gl w) (hge : ∀ j, j < 7 → ¬ Foot eb mb g j) (hb : BytesIn w bv l) (hbn : ∀ j, bv.ownBlock = some j → ¬ Foot eb mb g j) (hl : l.length ≤ 4611686018427387904) :
    Calls Tryz.prog 33 #[.pointer (some ⟨eb, 0, none⟩), bv] w fun e w' => e = .returned (.tuple #[]) ∧ ∃ g', g'.bare = q ∧ RdOk g' ∧ Next w w' eb mb g g' := by
  obtain ⟨sv, cv, hv, -⟩ := bytesIn_len hb
  subst hv
  have H := hide h
  have HR := hide hr
  have HF := hide hf
  have HGL := hide hgl
  have HGE := hide hge
  have HB := hide hb
  have HBN := hide hbn
  clear h hr hf hgl hge hb hbn
  go_enter Tryz.func33, Tryz.ntmps33
  go_wp2
  go_loopw [8] (fun i wr => ∃ (k : Nat) (wv : World) (c : GEnd), wv = wr ∧ i = .int .i64 (k : Int) ∧ k ≤ l.length ∧ Next w wv eb mb g c ∧ RdOk c ∧ FeedR c.bare (l.drop k) q) (fun i _ => l.length - (intOf i).toNat)
  case atStart => exact ⟨0, _, g, rfl, rfl, Nat.zero_le _, Next.refl H.out, HR.out, HF.out⟩
  case round =>
    obtain ⟨k, wv, c, hwv, rfl, hk, hnx, hrd, hfe⟩ := hrel
    subst hwv
    by_cases hlk : k < l.length
    · rw [drop_cons hlk] at hfe
      obtain ⟨hfa, p1, hby, hfr⟩ := hfe.byte
      obtain ⟨hbyt, hnf⟩ := hnx.bytes HB.out HBN.out
      have hgl1 := HGL.out.chg hnx.chg HGE.out
      have hge1 : ∀ j, j < 7 → ¬ Foot eb mb c j := fun j hj hf => by
        rcases hnx.grow j hf with a | a
        · exact HGE.out j hj a
        · have := HGL.out.lt; omega
      have hi := i_byte eb mb c c.bare p1 (l.getD k 0) wv hnx.inv hrd rfl hby hgl1 hge1
      have hd := isDead_any eb c.m wv hnx.inv.en
      have hfa' : c.m.fault = 0 := hfa
      rw [show (!(c.m.fault == 0)) = false from by rw [hfa']; rfl] at hd
      rcases hbyt with ⟨-, h0⟩ | ⟨bb, off, cap, h1, h2, h3, h4⟩
      · rw [h0] at hlk; simp at hlk
      · simp only [Value.slice.injEq] at h1
        obtain ⟨rfl, _, rfl⟩ := h1
        have hcell := h4 k hlk
        have HI := hide hi
        have HD := hide hd
        have HNX := hide hnx
        have HFR := hide hfr
        generalize l.getD k 0 = cc at *
        clear hi hd hnx hfr hby hfe hrd hgl1 hge1 h4 hfa hfa' hnf
        go_wp2_with fail
        refine HD.out.mono ?_
        rintro e w' ⟨rfl, hw'⟩
        rw [hw']
        clear hw' w'
        go_wp2_with fail
        refine HI.out.mono ?_
        rintro e w1 ⟨rfl, c1, hc1, hr1, hn1⟩
        have HC1 := hide hc1
        have HR1 := hide hr1
        have HN1 := hide hn1
        clear hc1 hr1 hn1
        go_wp2
        all_goals go_roundw
        case rel => exact ⟨k + 1, _, c1, rfl, by go_num, by omega, HNX.out.trans HN1.out, HR1.out, by rw [HC1.out]; exact HFR.out⟩
        case measure => simp [intOf]; omega
    · have hke : k = l.length := by omega
      rw [List.drop_of_length_le (by omega)] at hfe
      have hq : c.bare = q := by cases hfe using FeedR.ind; rfl
      have HQ := hide hq
      have HNX := hide hnx
      have HRD := hide hrd
      clear hq hnx hrd hfe hke
      go_wp2
      exact bodyPost_end (results_none rfl _ _ _) rfl ⟨rfl, c, HQ.out, HRD.out, HNX.out⟩
end Go.Proofs.YtdccldbefdfppaaGreatDoor
/-
  Package sluice: Feed of an end, of bytes that are no fault.
-/
namespace Go.Proofs.YtdccldbefdfppaaGreatDoor
set_option linter.unusedVariables false
set_option linter.unusedSimpArgs false
open Go.RowKit

set_option maxRecDepth 100000 in
set_option maxHeartbeats 400000 in
theorem xclos_idle (fa ra : Nat) (w : World) :
    CallsD Tryz.prog 30 #[.pointer (some ⟨fa, 0, none⟩), .pointer (some ⟨ra, 0, none⟩)] .returning w fun e u' w' => e = .returned (.tuple #[]) ∧ u' = .returning ∧ w' = w := by
  refine callsD_of_wpS Tryz.func30 rfl fun c₀ cs hu => ?_
  apply wpS_seq
  apply wpS_region
  simp [wpOpsS, go_sem, recoverD, hu, Tryz.ntmps30, Exit.thenS]
  refine wpS_of_wp ?_
  change Code.wp Tryz.prog _ _ ⟨#[.pointer (some ⟨fa, 0, none⟩), .pointer (some ⟨ra, 0, none⟩), .nilIface, .nilIface, undef, undef, undef, undef, undef, undef, undef, undef, undef], []⟩ w
  go_wp2
  cases c₀
  simp_all [bodyPostS, results, Tryz.results30]

theorem Next.out {w w1 w2 : World} {eb mb : Nat} {g g' : GEnd} {S : Nat → Prop} (h : Next w w1 eb mb g g') (hc : Chg S w1 w2) (hs : ∀ j, S j → w.heap.size ≤ j ∧ ¬ Foot eb mb g' j) : Next w w2 eb mb g g' where
  inv := h.inv.chg hc (fun j hj e => (hs j e).2 hj)
  chg := h.chg.trans (hc.mono fun j _ e => Or.inl (hs j e).1)
  grow := h.grow

set_option maxRecDepth 100000 in
set_option maxHeartbeats 1200000 in
theorem x_feed (eb mb : Nat) (g q : GEnd) (bv : Value) (l : List UInt8) (w : World) (h : Inv w eb mb g) (hr : RdOk g) (hf : FeedR g.bare l q) (hq : q.m.fault = 0) (hgl : Gl w) (hge : ∀ j, j < 7 → ¬ Foot eb mb g j) (hb : BytesIn w bv l) (hbn : ∀ j, bv.ownBlock = some j → ¬ Foot eb mb g j) (hl : l.length ≤ 4611686018427387904) :
    Calls Tryz.prog 16 #[.pointer (some ⟨eb, 0, none⟩), bv] w fun e w' => e = .returned (.int .i64 0) ∧ ∃ g', g'.bare = q ∧ RdOk g' ∧ Next w w' eb mb g g' := by
  have hmf : ∀ (fn : Fn) (first cap : Array Value) (w : World), (Instr.makeFunc fn first cap).run Tryz.prog w = .ok (.func fn first cap) w := fun _ _ _ _ => rfl
  obtain ⟨wA, hwA⟩ : ∃ wA, wA = (w.alloc (.cells #[.pointer (some ⟨eb, 0, none⟩)] 27)).alloc (.cells #[.int .i64 0] 41) := ⟨_, rfl⟩
  have hbA : Below w.heap.size w wA := by rw [hwA]; exact ((Below.refl _ _).alloc (Nat.le_refl _) _).alloc (by simp) _
  have hbx : wA.heap[w.heap.size]? = some (.cells #[.pointer (some ⟨eb, 0, none⟩)] 27 (0, 0)) := by
    rw [hwA, heap_alloc_old _ _ (by simp)]
    exact heap_alloc_new w _
  have hfc : wA.heap[w.heap.size + 1]? = some (.cells #[.int .i64 0] 41 (0, 0)) := by
    have := heap_alloc_new (w.alloc (.cells #[.pointer (some ⟨eb, 0, none⟩)] 27)) (.cells #[.int .i64 0] 41)
    rw [hwA]
    simpa using this
  have hA := h.below hbA
  have HFE := hide (i_feed eb mb g q bv l wA hA hr hf (hgl.below hbA) hge (hb.chg (Chg.of_below (S := fun _ => False) hbA) (fun _ _ => id)) hbn hl)
  have hnf : ∀ j, w.heap.size ≤ j → ¬ Foot eb mb g j := fun j hj hf => by have := Foot.lt h hf; omega
  have hlA : w.heap.size + 1 < wA.heap.size := lt_of_block hfc
  -- behind the inner Feed
  have HMID : Hid (∀ w1 g', g'.bare = q → Next wA w1 eb mb g g' → w1.cell? ⟨w.heap.size, 0, none⟩ = some (.pointer (some ⟨eb, 0, none⟩)) ∧ w1.cell? ⟨w.heap.size + 1, 0, none⟩ = some (.int .i64 0) ∧ w1.frozen? ⟨w.heap.size + 1, 0, none⟩ = false ∧ (Calls Tryz.prog 34 #[.pointer (some ⟨eb, 0, none⟩)] w1 fun e w' => e = .returned (.int .i64 0) ∧ w' = w1) ∧ (∀ v, (w1.setCell ⟨w.heap.size + 1, 0, none⟩ v).cell? ⟨w.heap.size + 1, 0, none⟩ = some v) ∧ ∀ v, Next w (w1.setCell ⟨w.heap.size + 1, 0, none⟩ v) eb mb g g') := fun w1 g' hg hn => by
    have e1 : w1.heap[w.heap.size]? = some (.cells #[.pointer (some ⟨eb, 0, none⟩)] 27 (0, 0)) := by rw [hn.chg.block _ (lt_of_block hbx) (hnf _ (Nat.le_refl _))]; exact hbx
    have e2 : w1.heap[w.heap.size + 1]? = some (.cells #[.int .i64 0] 41 (0, 0)) := by rw [hn.chg.block _ hlA (hnf _ (Nat.le_succ _))]; exact hfc
    refine ⟨cell_of_one e1, cell_of_one e2, free_of_one e2, ?_, fun v => cell_of_one (show (w1.setCell ⟨w.heap.size + 1, 0, none⟩ v).heap[w.heap.size + 1]? = some (.cells #[v] 41 (0, 0)) from blk_set e2), fun v => ?_⟩
    · have := eFault_any eb g'.m w1 hn.inv.en
      rw [show g'.m.fault = 0 from by have e3 : g'.bare.m.fault = 0 := (by rw [hg]; exact hq); exact e3] at this
      exact this
    · refine (hn.pre hbA).out (S := fun j => j = w.heap.size + 1) (chg_set (Chg.refl _ _) rfl) (fun j e => ⟨by omega, fun hf => ?_⟩)
      rcases hn.grow j hf with a | a
      · exact hnf j (by omega) a
      · omega
  have HWA := hide hwA
  have hlt := h.en.lt
  obtain ⟨sv, cv, hv, -⟩ := bytesIn_len hb
  subst hv
  clear h hr hf hq hgl hge hb hbn hbA hbx hfc hA hnf
  go_enter_defers Tryz.func16, Tryz.ntmps16
  go_wp2_with fail
  rw [← HWA.out]
  clear hwA
  refine HFE.out.mono ?_
  rintro e w1 ⟨rfl, g', hg', hr', hn'⟩
  obtain ⟨k0, k1, f1, hef, hsame, hend⟩ := HMID.out w1 g' hg' hn'
  have HSAME := hide hsame
  have HEF := hide hef
  have HEND := hide hend
  have HG := hide hg'
  have HR' := hide hr'
  clear hef hend hg' hr' hn' HMID hsame
  go_wp2_with fail
  refine HEF.out.mono ?_
  rintro e w' ⟨rfl, hw'⟩
  rw [hw']
  clear hw' w'
  go_wp2
  refine leaves_cons (f := 30) (args := #[.pointer (some ⟨w.heap.size + 1, 0, none⟩), .pointer (some ⟨w.heap.size, 0, none⟩)]) (by simp) (by simp [go_sem]) ?_
  refine (xclos_idle (w.heap.size + 1) w.heap.size _).mono ?_
  rintro e u' w'' ⟨rfl, rfl, rfl⟩
  refine ⟨.int .i64 0, ?_, ?_⟩
  · have hs := HSAME.out (.int .i64 0)
    simp [results, Tryz.results16, go_sem, hs]
  · exact ⟨rfl, g', HG.out, HR'.out, HEND.out _⟩
end Go.Proofs.YtdccldbefdfppaaGreatDoor
/-
  Whole frames, fed.
-/
namespace Go.Proofs.YtdccldbefdfppaaGreatDoor
set_option linter.unusedVariables false
set_option linter.unusedSimpArgs false
open Go.RowKit

theorem step_fault_ne {got : List UInt8} {c : UInt8} {code : Int} (h : step got c = .fault code) : code ≠ 0 := by
  rcases step_fault h with ⟨-, h1, rfl⟩ | ⟨-, -, -, h1, rfl⟩
  · exact h1
  · exact h1
theorem feed_none {got l g' : List UInt8} (h : feed got l = ([], ⟨g', 0⟩)) : g' = got ++ l := by
  induction l generalizing got with
  | nil =>
    unfold feed at h
    simp only [Prod.mk.injEq, true_and, Rd.mk.injEq, and_true] at h
    rw [← h, List.append_nil]
  | cons c r ih =>
    unfold feed at h
    cases hs : step got c with
    | inl x =>
      rw [hs] at h
      cases x with
      | inl g1 =>
        simp only at h
        have h1 := ih h
        obtain ⟨h2, -⟩ := step_more hs
        rw [h1, h2]
        simp
      | inr f => simp at h
    | inr code =>
      rw [hs] at h
      simp only [Prod.mk.injEq, true_and, Rd.mk.injEq] at h
      exact absurd h.2 (step_fault_ne hs)

theorem feedR_of_feed {p q : GEnd} {f : Fr} (hg : p.m.greeted = 7) (hf : p.m.fault = 0) (hc : Come { p with got := [] } f q) : ∀ (l got : List UInt8), feed got l = ([f], ⟨[], 0⟩) → FeedR { p with got := got } l q := by
  intro l
  induction l with
  | nil =>
    intro got h
    unfold feed at h
    simp at h
  | cons c r ih =>
    intro got h
    unfold feed at h
    cases hs : step got c with
    | inl x =>
      rw [hs] at h
      cases x with
      | inl g1 => exact .more hg hf hs (ih g1 h)
      | inr f1 =>
        simp only [Prod.mk.injEq, List.cons.injEq] at h
        obtain ⟨⟨h1, h2⟩, h3⟩ := h
        subst h1
        have h4 : feed [] r = ([], ⟨[], 0⟩) := by rw [← h2, ← h3]
        have h5 := feed_none h4
        simp at h5
        subst h5
        exact .frame hg hf hs hc .nil
    | inr code =>
      rw [hs] at h
      simp at h
/-- One whole frame. -/
theorem feedR_lay {p q : GEnd} {k f s : Int} {body : List UInt8} (hr : Right k f s body) (hg : p.m.greeted = 7) (hf : p.m.fault = 0) (hgot : p.got = []) (hc : Come p ⟨k, f, s, body⟩ q) : FeedR p (lay k f s body) q := by
  have e : p = { p with got := [] } := by rw [← hgot]
  rw [e] at hc
  have := feedR_of_feed hg hf hc (lay k f s body) [] (feed_right hr)
  rw [e]
  exact this
/-- The greeting. -/
theorem feedR_greet {p : GEnd} (hg : p.m.greeted = 0) (hf : p.m.fault = 0) : FeedR p greetB { p with m := { p.m with greeted := 7 } } := by
  refine .greet (k := 0) hg (by omega) hf rfl ?_
  refine .greet (k := 1) rfl (by omega) hf rfl ?_
  refine .greet (k := 2) rfl (by omega) hf rfl ?_
  refine .greet (k := 3) rfl (by omega) hf rfl ?_
  refine .greet (k := 4) rfl (by omega) hf rfl ?_
  refine .greet (k := 5) rfl (by omega) hf rfl ?_
  refine .greet (k := 6) rfl (by omega) hf rfl ?_
  exact .nil
end Go.Proofs.YtdccldbefdfppaaGreatDoor
/-
  The law's own: lay, four.
-/
namespace Go.Proofs.YtdccldbefdfppaaGreatDoor
set_option linter.unusedVariables false
set_option linter.unusedSimpArgs false
open Go.RowKit

set_option maxRecDepth 100000 in
set_option maxHeartbeats 800000 in
theorem kfour_any (n : Nat) (w : World) (hn : n ≤ 4294967295) : Calls Tryz.prog 14 #[.int .i64 n] w fun e w' => e = .returned (.slice (some ⟨w.heap.size, 0, none⟩) 4 4) ∧ BytesIn w' (.slice (some ⟨w.heap.size, 0, none⟩) 4 4) (four4 n) ∧ Below w.heap.size w w' := by
  go_enter Tryz.func14, Tryz.ntmps14
  go_wp2
  go_ret
  have hh : (w.alloc (.cells #[.int .u8 (n / 16777216), .int .u8 (n / 65536 % 256), .int .u8 (n / 256 % 256), .int .u8 (n % 256)] 5)).heap[w.heap.size]? = some (.cells #[.int .u8 (n / 16777216), .int .u8 (n / 65536 % 256), .int .u8 (n / 256 % 256), .int .u8 (n % 256)] 5 (0, 0)) := heap_alloc_new w _
  refine ⟨rfl, Or.inr ⟨w.heap.size, 0, 4, rfl, lt_of_block hh, Nat.le_refl _, fun i hi => ?_⟩, (Below.refl _ _).alloc (Nat.le_refl _) _⟩
  rw [cell_of_row _ _ _ _ _ _ hh]
  have hi' : i < 4 := hi
  have e0 : (n / 16777216 : Nat) % 256 = n / 16777216 := Nat.mod_eq_of_lt (by omega)
  match i, hi' with
  | 0, _ => simp [four4, UInt8.toNat_ofNat', e0]
  | 1, _ => simp [four4, UInt8.toNat_ofNat']
  | 2, _ => simp [four4, UInt8.toNat_ofNat']
  | 3, _ => simp [four4, UInt8.toNat_ofNat']
set_option maxRecDepth 100000 in
set_option maxHeartbeats 1600000 in
theorem klay_any (k f s : Int) (sa : Option Addr) (body : List UInt8) (cap : Nat) (w : World) (hk0 : 0 ≤ k) (hk1 : k ≤ 255) (hf0 : 0 ≤ f) (hf1 : f ≤ 255) (hs0 : 0 ≤ s) (hs1 : s ≤ 32767) (hn : body.length ≤ 64) (hb : BytesIn w (.slice sa body.length cap) body) :
    Calls Tryz.prog 13 #[.int .i64 k, .int .i64 f, .int .i64 s, .slice sa body.length cap] w fun e w' => ∃ v, e = .returned v ∧ w'.ownsRow w.heap.size 5 1 v (lay k f s body).length ((lay k f s body).map B) ∧ Below w.heap.size w w' := by
  obtain ⟨i0, hi, hz0, hz1, hz2⟩ := info_parts Tryz.info5
  have HB := hide hb
  clear hb
  go_enter Tryz.func13, Tryz.ntmps13
  have hrow : (w.alloc (.cells #[.int .u8 ((body.length : Int) / 256), .int .u8 (body.length : Int), .int .u8 k, .int .u8 f, .int .u8 (s / 256), .int .u8 (s % 256)] 5)).ownsRow 0 5 1 (.slice (some ⟨w.heap.size, 0, none⟩) 6 6) 6 [.int .u8 ((body.length : Int) / 256), .int .u8 (body.length : Int), .int .u8 k, .int .u8 f, .int .u8 (s / 256), .int .u8 (s % 256)] := ⟨rfl, Or.inr ⟨w.heap.size, 6, _, rfl, Nat.zero_le _, heap_alloc_new w _, Nat.le_refl _, by decide, rfl, rfl⟩⟩
  have hlb : Lies (w.alloc (.cells #[.int .u8 ((body.length : Int) / 256), .int .u8 (body.length : Int), .int .u8 k, .int .u8 f, .int .u8 (s / 256), .int .u8 (s % 256)] 5)) (.slice sa body.length cap) body.length (body.map B) := lies_of_bytesIn (HB.out.chg (Chg.of_below (S := fun _ => False) ((Below.refl _ _).alloc (Nat.le_refl _) _)) (fun _ _ => id))
  have HROW := hide hrow
  have HLB := hide hlb
  clear hrow hlb
  go_wp2_with (at_builtin; refine wpList_app _ rfl (.tmp 28) (.tmp 29) 44 rfl 5 i0 (.int .u8 0) 1 1 Tryz.underlying44 hi hz0 hz1 hz2 rfl (by decide) _ 6 _ rfl HROW.out _ body.length (body.map B) rfl ?c1 HLB.out ?c3 ?c4 ?c5 ?_)
  case c1 => simp
  case c3 => intro u hu; obtain ⟨x, -, rfl⟩ := List.mem_map.1 hu; rfl
  case c4 => unfold maxLen; omega
  case c5 => omega
  intro v2 w2 hown2 hg2 hfr2
  obtain ⟨s2, c2, rfl⟩ := slice_len hown2
  have hb2 : Below w.heap.size w w2 := below_of_chg ((Below.refl _ _).alloc (Nat.le_refl _) _) (Chg.of_grown (S := fun j => j = w.heap.size) hg2 (fun j hj => by simp [Value.ownBlock] at hj; exact hj.symm)) (fun j e => by rw [e]; exact Nat.le_refl _)
  have hown3 := owns_base (base' := w.heap.size) hown2 (fun j hj => by
    rcases hfr2 with e | e
    · rw [e] at hj; simp [Value.ownBlock] at hj; omega
    · rw [e] at hj; simp at hj; omega)
  have HO := hide hown3
  have HB2 := hide hb2
  clear hown2 hg2 hfr2 hb2 hown3
  go_wp2
  go_ret
  refine ⟨_, rfl, ?_, HB2.out⟩
  have e1 : (lay k f s body).length = 6 + body.length := by simp [lay]; omega
  rw [e1]
  have e2 : (lay k f s body).map B = [.int .u8 ((body.length : Int) / 256), .int .u8 (body.length : Int), .int .u8 k, .int .u8 f, .int .u8 (s / 256), .int .u8 (s % 256)] ++ body.map B := by
    unfold lay
    rw [List.map_append]
    simp only [List.map_cons, List.map_nil]
    rw [B_ofI (by omega) (by omega), B_ofI (by omega) (by omega), B_ofI hk0 hk1, B_ofI hf0 hf1, B_ofI (by omega) (by omega), B_ofI (by omega) (by omega)]
  rw [e2]
  exact HO.out
end Go.Proofs.YtdccldbefdfppaaGreatDoor
