import Derived.Test.YtiphkngfbpdeoaaGreatDoorVGak
import Derived.Test.YtiphkngfbpdeoaaGreatDoorVGai
import Derived.Test.YtiphkngfbpdeoaaGreatDoorVGaj
import Derived.Laws.IdiomRangeMap
set_option linter.unusedVariables false
set_option linter.unusedSimpArgs false
namespace Go.Proofs.YtiphkngfbpdeoaaGreatDoor
set_option linter.unusedVariables false
set_option linter.unusedSimpArgs false
open Go.RowKit
def EndM.got_ (m : EndM) (n : Nat) : EndM := ({ m with receive := m.receive - n } : EndM).counted n
def dataV (f n : Int) (sv : Option Addr) (len cb : Nat) : Value := .agg #[.int .i64 0, .int .i64 f, .int .i64 n, .slice sv len cb, .slice sv len cb]
theorem owes_zero (m : EndM) : m.owes 0 = m := by unfold EndM.owes; simp
theorem counted_same (m : EndM) (n : Int) : (m.counted n).known = m.known ∧ (m.counted n).opn = m.opn ∧ (m.counted n).got = m.got ∧ (m.counted n).out = m.out ∧ (m.counted n).answers = m.answers ∧ (m.counted n).resets = m.resets ∧ (m.counted n).owed = m.owed ∧ (m.counted n).own = m.own := by
  unfold EndM.counted
  split
  · exact ⟨rfl, rfl, rfl, rfl, rfl, rfl, rfl, rfl⟩
  · split
    · exact ⟨rfl, rfl, rfl, rfl, rfl, rfl, rfl, rfl⟩
    · exact ⟨rfl, rfl, rfl, rfl, rfl, rfl, rfl, rfl⟩
set_option maxRecDepth 100000 in
set_option maxHeartbeats 1600000 in
theorem comeData_gone (eb mb : Nat) (g : GEnd) (s : GSt) (f : Int) (sv : Option Addr) (len cb : Nat) (w : World) (h : Inv w eb mb g) (hs : s ∈ g.K) (ha : s.st.announced = true) (hr : s.st.hasAll = true ∨ s.st.reset = 2) :
    Calls Tryz.prog 80 #[.pointer (some ⟨eb, 0, none⟩), dataV f s.st.number sv len cb] w fun e w' => e = .panicked [{ v := .iface 36 (.int .i64 11), recovered := false }] ∧ Below w.heap.size w w' := by
  have hbA : Below w.heap.size w (w.alloc (.cells #[.int .i64 0, .int .i64 f, .int .i64 s.st.number, .slice sv len cb, .slice sv len cb] 155)) := (Below.refl _ _).alloc (Nat.le_refl _) _
  have hA := h.below hbA
  have han := announced_any eb mb g.m _ s.st.number _ hA.en h.km hA.kn
  rw [hA.find hs] at han
  simp only [GSt.str, ha, if_true] at han
  have HAN := hide han
  have k9 := (hA.st hs).c9
  have k10 := (hA.st hs).c10
  have HB := hide hbA
  clear h hA han hbA
  unfold dataV
  cases hh : s.st.hasAll with
  | true =>
    rw [hh] at k9
    clear hr
    go_enter Tryz.func80, Tryz.ntmps80
    go_wp2_with fail
    refine HAN.out.mono ?_
    rintro e w' ⟨hw', rfl⟩
    rw [hw']
    clear hw' w'
    go_wp2
    exact ⟨rfl, rfl, HB.out⟩
  | false =>
    rw [hh] at k9 hr
    have hr2 : s.st.reset = 2 := by
      rcases hr with e | e
      · cases e
      · exact e
    rw [hr2] at k10
    clear hr hr2
    go_enter Tryz.func80, Tryz.ntmps80
    go_wp2_with fail
    refine HAN.out.mono ?_
    rintro e w' ⟨hw', rfl⟩
    rw [hw']
    clear hw' w'
    go_wp2
    exact ⟨rfl, rfl, HB.out⟩
set_option maxRecDepth 100000 in
set_option maxHeartbeats 1200000 in
theorem comeData_lost (eb mb : Nat) (g : GEnd) (s : GSt) (f : Int) (sv : Option Addr) (len cb : Nat) (w : World) (h : Inv w eb mb g) (hs : s ∈ g.K) (ha : s.st.announced = true) (hh : s.st.hasAll = false) (hr : s.st.reset = 1) (hlen : len ≤ 1073741824) (hfl : len = 0 ∨ (len : Int) ≤ g.m.receive)
    (b1 : -1099511627776 ≤ g.m.receive ∧ g.m.receive ≤ 1099511627776) (b2 : -1099511627776 ≤ g.m.owed ∧ g.m.owed ≤ 1099511627776) (b3 : 0 ≤ g.m.count ∧ g.m.count ≤ 1099511627776) :
    Calls Tryz.prog 80 #[.pointer (some ⟨eb, 0, none⟩), dataV f s.st.number sv len cb] w fun e w' => e = .returned (.tuple #[]) ∧ Next w w' eb mb g { g with m := (g.m.got_ len).owes len } := by
  have hbA : Below w.heap.size w (w.alloc (.cells #[.int .i64 0, .int .i64 f, .int .i64 s.st.number, .slice sv len cb, .slice sv len cb] 155)) := (Below.refl _ _).alloc (Nat.le_refl _) _
  have hnew := heap_alloc_new w (.cells #[.int .i64 0, .int .i64 f, .int .i64 s.st.number, .slice sv len cb, .slice sv len cb] 155)
  obtain ⟨wA, hwA⟩ : ∃ wA, wA = w.alloc (.cells #[.int .i64 0, .int .i64 f, .int .i64 s.st.number, .slice sv len cb, .slice sv len cb] 155) := ⟨_, rfl⟩
  have hA := h.below hbA
  have han := announced_any eb mb g.m _ s.st.number _ hA.en h.km hA.kn
  rw [hA.find hs] at han
  simp only [GSt.str, ha, if_true] at han
  have hir := isReset_any s.sb s.st _ (hA.st hs)
  rw [show (!(s.st.reset == 0)) = true from by rw [hr]; rfl] at hir
  rw [← hwA] at hbA hA han hir hnew
  have HAN := hide han
  have HIR := hide hir
  have k9 := (hA.st hs).c9
  rw [hh] at k9
  have k10 := (hA.st hs).c10
  rw [hr] at k10
  have k5 := hA.en.c5
  have f5 := hA.en.fr 5
  have n2 : wA.cell? ⟨w.heap.size, 2, none⟩ = some (.int .i64 s.st.number) := by rw [cell_of_row _ _ _ _ _ _ hnew]; rfl
  have n3 : wA.cell? ⟨w.heap.size, 3, none⟩ = some (.slice sv len cb) := by rw [cell_of_row _ _ _ _ _ _ hnew]; rfl
  obtain ⟨b1a, b1b⟩ := b1
  obtain ⟨b2a, b2b⟩ := b2
  have hset : Chg (fun j => j = eb) wA (wA.setCell ⟨eb, 5, none⟩ (.int .i64 (g.m.receive - len))) := chg_set (Chg.refl _ _) rfl
  have hen5 : EnB (wA.setCell ⟨eb, 5, none⟩ (.int .i64 (g.m.receive - len))) eb { g.m with receive := g.m.receive - len } := EnB.of (blk_set hA.en.blk) rfl
  have HTC := hide (tcount_any eb { g.m with receive := g.m.receive - len } len _ hen5 b3.1 (by have := b3.2; show g.m.count ≤ _; omega) (by omega) (by omega))
  have hsne := hA.st_eb hs
  have HIR2 : Hid (∀ w1, Chg (fun j => j = eb) wA w1 → Calls Tryz.prog 48 #[.pointer (some ⟨s.sb, 0, none⟩)] w1 fun e w' => e = .returned (.bool true) ∧ w' = w1) := fun w1 hc => by
    have := isReset_any s.sb s.st w1 ((hA.st hs).chg hc hsne)
    rw [show (!(s.st.reset == 0)) = true from by rw [hr]; rfl] at this
    exact this
  obtain ⟨hq1, hq2, hq3, hq4, hq5, hq6, hq7, hq8⟩ := counted_same { g.m with receive := g.m.receive - len } len
  have HEND : Hid (∀ w1, EnB w1 eb (g.m.got_ len) → Chg (fun j => j = eb) (wA.setCell ⟨eb, 5, none⟩ (.int .i64 (g.m.receive - len))) w1 → Next w (w1.setCell ⟨eb, 6, none⟩ (.int .i64 (g.m.owed + len))) eb mb g { g with m := (g.m.got_ len).owes len }) := fun w1 he hc => by
    have hc2 : Chg (fun j => j = eb) wA (w1.setCell ⟨eb, 6, none⟩ (.int .i64 (g.m.owed + len))) := chg_set (hset.trans (hc.mono fun j _ e => Or.inr e)) rfl
    have he2 : EnB (w1.setCell ⟨eb, 6, none⟩ (.int .i64 (g.m.owed + len))) eb ((g.m.got_ len).owes len) := EnB.of (blk_set he.blk) (by unfold EndM.owes EndM.got_; rw [hq7]; rfl)
    have hn := hA.onEnd (S := fun j => j = eb) (m' := (g.m.got_ len).owes len) (o' := g.out) (A' := g.ans) (R' := g.res) hc2 (fun j e => Or.inl e) he2 hq1 hq2 hq3 (by
      rw [show ((g.m.got_ len).owes len).out = g.m.out from hq4]
      exact owns_chg hA.out hc2 (fun j hj e => by rw [e] at hj; exact owns_ne hA.out hA.en.blk (by decide) hj)) (fun j hj => Or.inl (by rw [← hq4]; exact hj)) (by rw [show ((g.m.got_ len).owes len).answers = g.m.answers from hq5]; exact hA.ans) (fun _ ha => ha) (fun j hj => by rw [← hq5]; exact hj) (by rw [show ((g.m.got_ len).owes len).resets = g.m.resets from hq6]; exact hA.res) (fun j hj => by rw [← hq6]; exact hj)
    exact hn.pre hbA
  have HOW : Hid ((g.m.got_ len).owed = g.m.owed) := hq7
  have hlt : eb < wA.heap.size := hA.en.lt
  have hw1 : IntKind.i64.wrap (g.m.receive - (len : Int)) = g.m.receive - len := by rw [IntKind.wrap_i64]; omega
  have hw2 : IntKind.i64.wrap (g.m.owed + (len : Int)) = g.m.owed + len := by rw [IntKind.wrap_i64]; omega
  have HWA := hide hwA
  clear h hA han hir hbA hnew hset hen5 hq1 hq2 hq3 hq4 hq5 hq6 hq7 hq8 b3
  unfold dataV
  go_enter Tryz.func80, Tryz.ntmps80
  go_wp2_with fail
  rw [← HWA.out]
  clear hwA
  refine HAN.out.mono ?_
  rintro e w' ⟨hw', rfl⟩
  rw [hw']
  clear hw' w'
  by_cases hz : len = 0
  · have hge : ((1 : Int) ≤ (len : Int)) = False := eq_false (by omega)
    clear hz hfl
    go_wp2_with fail
    refine HTC.out.mono ?_
    rintro e w1 ⟨rfl, he1, hc1⟩
    have k6 : w1.cell? ⟨eb, 6, none⟩ = some (.int .i64 g.m.owed) := by rw [he1.c6, show (({ g.m with receive := g.m.receive - len } : EndM).counted len).owed = g.m.owed from HOW.out]
    have f6 := he1.fr 6
    have HI2 := hide (HIR2.out w1 ((chg_set (S := fun j => j = eb) (Chg.refl _ _) rfl : Chg (fun j => j = eb) wA (wA.setCell ⟨eb, 5, none⟩ (.int .i64 (g.m.receive - len)))).trans (hc1.mono fun j _ e => Or.inr e)))
    have HN := hide (HEND.out w1 he1 hc1)
    clear he1 hc1
    go_wp2_with fail
    refine HI2.out.mono ?_
    rintro e w' ⟨rfl, hw'⟩
    rw [hw']
    clear hw' w'
    go_wp2
    refine bodyPost_ret (v := .tuple #[]) ?_ rfl ⟨rfl, HN.out⟩
    simp [results, Tryz.results80, go_sem]
  · have hge : ((1 : Int) ≤ (len : Int)) = True := eq_true (by omega)
    have hgt : ((g.m.receive : Int) < (len : Int)) = False := eq_false (by omega)
    clear hz hfl
    go_wp2_with fail
    refine HIR.out.mono ?_
    rintro e w' ⟨rfl, hw'⟩
    rw [hw']
    clear hw' w'
    go_wp2_with fail
    refine HTC.out.mono ?_
    rintro e w1 ⟨rfl, he1, hc1⟩
    have k6 : w1.cell? ⟨eb, 6, none⟩ = some (.int .i64 g.m.owed) := by rw [he1.c6, show (({ g.m with receive := g.m.receive - len } : EndM).counted len).owed = g.m.owed from HOW.out]
    have f6 := he1.fr 6
    have HI2 := hide (HIR2.out w1 ((chg_set (S := fun j => j = eb) (Chg.refl _ _) rfl : Chg (fun j => j = eb) wA (wA.setCell ⟨eb, 5, none⟩ (.int .i64 (g.m.receive - len)))).trans (hc1.mono fun j _ e => Or.inr e)))
    have HN := hide (HEND.out w1 he1 hc1)
    clear he1 hc1
    go_wp2_with fail
    refine HI2.out.mono ?_
    rintro e w' ⟨rfl, hw'⟩
    rw [hw']
    clear hw' w'
    go_wp2
    refine bodyPost_ret (v := .tuple #[]) ?_ rfl ⟨rfl, HN.out⟩
    simp [results, Tryz.results80, go_sem]
def GSt.more (s : GSt) (b : List UInt8) (e : Bool) : GSt := { s with st := { s.st with receive := s.st.receive - b.length, hasAll := e }, un := s.un ++ b }
set_option maxRecDepth 100000 in
set_option maxHeartbeats 1200000 in
theorem comeData_kept (eb mb : Nat) (g : GEnd) (s : GSt) (f : Int) (sv : Option Addr) (body : List UInt8) (cb : Nat) (w : World) (h : Inv w eb mb g) (hs : s ∈ g.K) (ha : s.st.announced = true) (hh : s.st.hasAll = false) (hr : s.st.reset = 0) (hf : 0 ≤ f ∧ f ≤ 255) (hcl : ({ s.st with hasAll := hasB f 1 } : StM).closed = false) (hbd : BytesIn w (.slice sv body.length cb) body) (hbn : ∀ j, (Value.slice sv body.length cb).ownBlock = some j → ¬ Foot eb mb g j) (hlen : body.length ≤ 1073741824) (hun : s.un.length ≤ 1073741824) (hfl : body.length = 0 ∨ ((body.length : Int) ≤ g.m.receive ∧ (body.length : Int) ≤ g.m.own + s.st.receive))
    (b1 : -1099511627776 ≤ g.m.receive ∧ g.m.receive ≤ 1099511627776) (b2 : -1099511627776 ≤ g.m.owed ∧ g.m.owed ≤ 1099511627776) (b3 : 0 ≤ g.m.count ∧ g.m.count ≤ 1099511627776) (b4 : -1099511627776 ≤ g.m.own ∧ g.m.own ≤ 1099511627776) (b5 : -1099511627776 ≤ s.st.receive ∧ s.st.receive ≤ 1099511627776) (b6 : -1099511627776 ≤ s.st.owed ∧ s.st.owed ≤ 1099511627776) :
    Calls Tryz.prog 80 #[.pointer (some ⟨eb, 0, none⟩), dataV f s.st.number sv body.length cb] w fun e w' => e = .returned (.tuple #[]) ∧ ∃ g', g'.bare = ({ g with m := g.m.got_ body.length, K := updN s.st.number (fun s => s.more body (hasB f 1)) g.K } : GEnd).bare ∧ Next w w' eb mb g g' := by
  obtain ⟨len, hle⟩ : ∃ len, len = body.length := ⟨_, rfl⟩
  rw [← hle] at hfl hlen
  have hbA : Below w.heap.size w (w.alloc (.cells #[.int .i64 0, .int .i64 f, .int .i64 s.st.number, .slice sv len cb, .slice sv len cb] 155)) := (Below.refl _ _).alloc (Nat.le_refl _) _
  have hnew := heap_alloc_new w (.cells #[.int .i64 0, .int .i64 f, .int .i64 s.st.number, .slice sv len cb, .slice sv len cb] 155)
  obtain ⟨wA, hwA⟩ : ∃ wA, wA = w.alloc (.cells #[.int .i64 0, .int .i64 f, .int .i64 s.st.number, .slice sv len cb, .slice sv len cb] 155) := ⟨_, rfl⟩
  have hA := h.below hbA
  have han := announced_any eb mb g.m _ s.st.number _ hA.en h.km hA.kn
  rw [hA.find hs] at han
  simp only [GSt.str, ha, if_true] at han
  have hir := isReset_any s.sb s.st _ (hA.st hs)
  rw [show (!(s.st.reset == 0)) = false from by rw [hr]; rfl] at hir
  rw [← hwA] at hbA hA han hir hnew
  have HAN := hide han
  have HIR := hide hir
  have HRW := hide (receiveWindow_any eb s.sb g.m s.st wA hA.en (hA.st hs) (by omega) (by omega) (by omega) (by omega))
  have k9 := (hA.st hs).c9
  rw [hh] at k9
  have k10 := (hA.st hs).c10
  rw [hr] at k10
  have n2 : wA.cell? ⟨w.heap.size, 2, none⟩ = some (.int .i64 s.st.number) := by rw [cell_of_row _ _ _ _ _ _ hnew]; rfl
  have n3 : wA.cell? ⟨w.heap.size, 3, none⟩ = some (.slice sv len cb) := by rw [cell_of_row _ _ _ _ _ _ hnew]; rfl
  obtain ⟨b1a, b1b⟩ := b1
  obtain ⟨b2a, b2b⟩ := b2
  obtain ⟨hq1, hq2, hq3, hq4, hq5, hq6, hq7, hq8⟩ := counted_same { g.m with receive := g.m.receive - len } len
  have hsne := hA.st_eb hs
  have HCELL : Hid (∀ wx, Below wA.heap.size wA wx → wx.cell? ⟨eb, 5, none⟩ = some (.int .i64 g.m.receive) ∧ wx.frozen? ⟨eb, 5, none⟩ = false ∧ (Calls Tryz.prog 120 #[.pointer (some ⟨eb, 13, none⟩), .int .i64 len] (wx.setCell ⟨eb, 5, none⟩ (.int .i64 (g.m.receive - len))) fun e w' => e = .returned (.tuple #[]) ∧ EnB w' eb (g.m.got_ len) ∧ Chg (fun j => j = eb) wA w')) := fun wx hx => by
    have hX := hA.below hx
    refine ⟨hX.en.c5, hX.en.fr 5, ?_⟩
    have hen5 : EnB (wx.setCell ⟨eb, 5, none⟩ (.int .i64 (g.m.receive - len))) eb { g.m with receive := g.m.receive - len } := EnB.of (blk_set hX.en.blk) rfl
    refine (tcount_any eb { g.m with receive := g.m.receive - len } len _ hen5 b3.1 (by have := b3.2; show g.m.count ≤ _; omega) (by omega) (by omega)).mono ?_
    rintro e w' ⟨h1, h2, h3⟩
    exact ⟨h1, h2, (chg_set (S := fun j => j = eb) (Chg.of_below hx) rfl).trans (h3.mono fun j _ e => Or.inr e)⟩
  have HIR2 : Hid (∀ w1, Chg (fun j => j = eb) wA w1 → Calls Tryz.prog 48 #[.pointer (some ⟨s.sb, 0, none⟩)] w1 fun e w' => e = .returned (.bool false) ∧ w' = w1) := fun w1 hc => by
    have := isReset_any s.sb s.st w1 ((hA.st hs).chg hc hsne)
    rw [show (!(s.st.reset == 0)) = false from by rw [hr]; rfl] at this
    exact this
  have HBOX : Hid (∀ w1, Chg (fun j => j = eb) wA w1 → w1.heap[w.heap.size]? = some (.cells #[.int .i64 0, .int .i64 f, .int .i64 s.st.number, .slice sv len cb, .slice sv len cb] 155 (0, 0))) := fun w1 hc => by
    rw [hc.block _ (lt_of_block hnew) (by have := h.en.lt; omega)]
    exact hnew
  have HKEEP : Hid (∀ w1, EnB w1 eb (g.m.got_ len) → Chg (fun j => j = eb) wA w1 → Calls Tryz.prog 121 #[.pointer (some ⟨eb, 0, none⟩), .pointer (some ⟨s.sb, 0, none⟩), .agg #[.int .i64 0, .int .i64 f, .int .i64 s.st.number, .slice sv len cb, .slice sv len cb]] w1 fun e w' => e = .returned (.tuple #[]) ∧ ∃ g', g'.bare = ({ g with m := g.m.got_ body.length, K := updN s.st.number (fun s => s.more body (hasB f 1)) g.K } : GEnd).bare ∧ Next w w' eb mb g g') := fun w1 he hc => by
    have hs1 := (hA.st hs).chg hc hsne
    have hu1 := owns_chg (hA.un s hs) hc (fun j hj e => by rw [e] at hj; exact owns_ne (hA.un s hs) hA.en.blk (by decide) hj)
    have hcw : Chg (fun j => j = eb) w w1 := (Chg.of_below hbA).trans (hc.mono fun j _ e => Or.inr e)
    have hby1 : BytesIn w1 (.slice sv body.length cb) body := hbd.chg hcw (fun j hj e => hbn j hj (Or.inl e))
    rw [hle]
    refine (keep_any eb s.sb (g.m.got_ body.length) s.st s.un body 0 f s.st.number sv body.length 0 cb sv cb w1 (by rw [← hle]; exact he) hs1 hu1 hby1 (fun j hj => ⟨fun e => hbn j hj (Or.inl e), fun e => hbn j hj (by rw [e]; exact h.foot_st hs)⟩) (by omega) hf hcl hun (by omega) (by omega) (by rw [← hle, show (g.m.got_ len).owed = g.m.owed from hq7]; omega) (by omega) (by omega)).mono ?_
    rintro e w' ⟨rfl, v, hk⟩
    refine ⟨rfl, ?_⟩
    rw [← hle] at hk
    have hen' : EnB w' eb (g.m.got_ len) := by have := hk.en; rw [owes_zero] at this; exact this
    have hcc : Chg (fun j => j = eb ∨ j = s.sb ∨ s.st.unread.ownBlock = some j) w w' := (hcw.mono fun j _ e => Or.inl e).trans (hk.chg.mono fun j _ e => Or.inr e)
    have keep : ∀ {k : Nat} {v' : Value} {xs : List Value} {ty : TypeId}, w.ownsRow 0 ty 1 v' k xs → (∀ j, v'.ownBlock = some j → j ≠ eb ∧ j ≠ s.sb ∧ s.st.unread.ownBlock ≠ some j) → w'.ownsRow 0 ty 1 v' k xs := fun hr hj => owns_chg hr hcc (fun j hjj e => by
      obtain ⟨a, b, c⟩ := hj j hjj
      rcases e with e | e | e
      · exact a e
      · exact b e
      · exact c e)
    refine ⟨_, ?_, h.onSt (S := fun j => j = eb ∨ j = s.sb ∨ s.st.unread.ownBlock = some j) (m' := g.m.got_ len) (s := s) (s' := ⟨s.sb, s.st.kept len 0 v (hasB f 1), s.un ++ body, s.wa⟩) (L' := g.L) (o' := g.out) (3 + 2 * s.sb) hs hcc ?_ hen' hk.st rfl rfl hq1 hq3 hq5 hq6 ?_ (fun j hj => Or.inl (by rw [← hq2]; exact hj)) (List.Sublist.refl _) ?_ (fun j hj => Or.inl (by rw [← hq4]; exact hj)) hk.row ?_ ?_ (fun j hj => Or.inl hj)⟩
    · rw [← hle]
      unfold GEnd.bare
      simp only [GEnd.mk.injEq, true_and, and_true]
      rw [updN, updN, List.map_map, List.map_map]
      apply List.map_congr_left
      intro x hx
      show (if x.st.number = s.st.number then _ else x).bare = (if x.st.number = s.st.number then _ else x).bare
      by_cases e : x.st.number = s.st.number
      · rw [if_pos e, if_pos e, inj_nd (fun s : GSt => s.st.number) h.nn hx hs e]
        unfold GSt.bare GSt.more StM.bare StM.kept
        simp [hle]
      · rw [if_neg e, if_neg e]
    · rintro j (e | e | e)
      · exact Or.inl e
      · exact Or.inr (Or.inl e)
      · exact Or.inr (Or.inr (Or.inr (Or.inr (Or.inl e))))
    · rw [show (g.m.got_ len).opn = g.m.opn from hq2]
      exact keep h.row (fun j hj => ⟨fun e => by rw [e] at hj; exact owns_ne h.row h.en.blk (by decide) hj, fun e => by rw [e] at hj; exact owns_ne h.row (h.st hs).blk (by decide) hj, fun e => rows_ne (h.un s hs) h.row (by decide) e hj⟩)
    · rw [show (g.m.got_ len).out = g.m.out from hq4]
      exact keep h.out (fun j hj => ⟨fun e => by rw [e] at hj; exact owns_ne h.out h.en.blk (by decide) hj, fun e => by rw [e] at hj; exact owns_ne h.out (h.st hs).blk (by decide) hj, fun e => h.out_un hs e hj⟩)
    · intro j hj
      rcases hk.fresh j hj with a | a
      · exact Or.inl a
      · exact Or.inr ⟨Nat.le_trans hcw.size a, rfl⟩
    · exact keep (h.wa s hs) (fun j hj => ⟨fun e => by rw [e] at hj; exact owns_ne (h.wa s hs) h.en.blk (by decide) hj, fun e => by rw [e] at hj; exact owns_ne (h.wa s hs) (h.st hs).blk (by decide) hj, fun e => h.un_wa hs hs e hj⟩)
  have hlt : eb < wA.heap.size := hA.en.lt
  have hw1 : IntKind.i64.wrap (g.m.receive - (len : Int)) = g.m.receive - len := by rw [IntKind.wrap_i64]; omega
  have HWA := hide hwA
  have k5 := hA.en.c5
  rw [← hle]
  have HLE := hide hle
  clear h hA han hir hbA hnew hq1 hq2 hq3 hq4 hq5 hq6 hq7 hq8 b3 hbd hbn hle
  unfold dataV
  go_enter Tryz.func80, Tryz.ntmps80
  go_wp2_with fail
  rw [← HWA.out]
  clear hwA
  refine HAN.out.mono ?_
  rintro e w' ⟨hw', rfl⟩
  rw [hw']
  clear hw' w'
  by_cases hz : len = 0
  · have hge : ((1 : Int) ≤ (len : Int)) = False := eq_false (by omega)
    clear hz hfl
    obtain ⟨-, f5, htc⟩ := HCELL.out wA (Below.refl _ _)
    have HTC := hide htc
    clear htc
    go_wp2_with fail
    refine HTC.out.mono ?_
    rintro e w1 ⟨rfl, he1, hc1⟩
    have HI2 := hide (HIR2.out w1 hc1)
    have HK := hide (HKEEP.out w1 he1 hc1)
    have hbx := HBOX.out w1 hc1
    have q0 : w1.cell? ⟨w.heap.size, 0, none⟩ = some (.int .i64 0) := by rw [cell_of_row _ _ _ _ _ _ hbx]; rfl
    have q1 : w1.cell? ⟨w.heap.size, 1, none⟩ = some (.int .i64 f) := by rw [cell_of_row _ _ _ _ _ _ hbx]; rfl
    have q2 : w1.cell? ⟨w.heap.size, 2, none⟩ = some (.int .i64 s.st.number) := by rw [cell_of_row _ _ _ _ _ _ hbx]; rfl
    have q3 : w1.cell? ⟨w.heap.size, 3, none⟩ = some (.slice sv len cb) := by rw [cell_of_row _ _ _ _ _ _ hbx]; rfl
    have q4 : w1.cell? ⟨w.heap.size, 4, none⟩ = some (.slice sv len cb) := by rw [cell_of_row _ _ _ _ _ _ hbx]; rfl
    clear he1 hc1 hbx
    go_wp2_with fail
    refine HI2.out.mono ?_
    rintro e w' ⟨rfl, hw'⟩
    rw [hw']
    clear hw' w'
    go_wp2_with fail
    refine HK.out.mono ?_
    rintro e w' ⟨rfl, hx⟩
    have HX := hide hx
    clear hx
    go_wp2
    exact bodyPost_end (results_none rfl _ _ _) rfl ⟨rfl, by rw [HLE.out]; exact HX.out⟩
  · have hge : ((1 : Int) ≤ (len : Int)) = True := eq_true (by omega)
    have hgt : ((g.m.receive : Int) < (len : Int)) = False := eq_false (by omega)
    have hgt2 : (g.m.own + s.st.receive < (len : Int)) = False := eq_false (by omega)
    clear hz hfl
    go_wp2_with fail
    refine HIR.out.mono ?_
    rintro e w' ⟨rfl, hw'⟩
    rw [hw']
    clear hw' w'
    go_wp2_with fail
    refine HRW.out.mono ?_
    rintro e wB ⟨rfl, hbB⟩
    obtain ⟨k5B, f5, htc⟩ := HCELL.out wB hbB
    have HTC := hide htc
    clear htc
    go_wp2_with fail
    refine HTC.out.mono ?_
    rintro e w1 ⟨rfl, he1, hc1⟩
    have HI2 := hide (HIR2.out w1 hc1)
    have HK := hide (HKEEP.out w1 he1 hc1)
    have hbx := HBOX.out w1 hc1
    have q0 : w1.cell? ⟨w.heap.size, 0, none⟩ = some (.int .i64 0) := by rw [cell_of_row _ _ _ _ _ _ hbx]; rfl
    have q1 : w1.cell? ⟨w.heap.size, 1, none⟩ = some (.int .i64 f) := by rw [cell_of_row _ _ _ _ _ _ hbx]; rfl
    have q2 : w1.cell? ⟨w.heap.size, 2, none⟩ = some (.int .i64 s.st.number) := by rw [cell_of_row _ _ _ _ _ _ hbx]; rfl
    have q3 : w1.cell? ⟨w.heap.size, 3, none⟩ = some (.slice sv len cb) := by rw [cell_of_row _ _ _ _ _ _ hbx]; rfl
    have q4 : w1.cell? ⟨w.heap.size, 4, none⟩ = some (.slice sv len cb) := by rw [cell_of_row _ _ _ _ _ _ hbx]; rfl
    clear he1 hc1 hbx
    go_wp2_with fail
    refine HI2.out.mono ?_
    rintro e w' ⟨rfl, hw'⟩
    rw [hw']
    clear hw' w'
    go_wp2_with fail
    refine HK.out.mono ?_
    rintro e w' ⟨rfl, hx⟩
    have HX := hide hx
    clear hx
    go_wp2
    exact bodyPost_end (results_none rfl _ _ _) rfl ⟨rfl, by rw [HLE.out]; exact HX.out⟩
end Go.Proofs.YtiphkngfbpdeoaaGreatDoor
namespace Go.Proofs.YtiphkngfbpdeoaaGreatDoor
set_option linter.unusedVariables false
set_option linter.unusedSimpArgs false
open Go.RowKit
def GSt.drop (s : GSt) (by_ : Int) : GSt := { s with st := { s.st with reset := by_ }, un := [], wa := [] }
theorem erase_map {α β : Type} (f : α → β) : ∀ (L : List α) (k : Nat), (L.map f).eraseIdx k = (L.eraseIdx k).map f
  | [], _ => rfl
  | _ :: _, 0 => rfl
  | x :: r, k + 1 => by
    show f x :: (r.map f).eraseIdx k = f x :: (r.eraseIdx k).map f
    rw [erase_map f r k]
theorem openS_erase (K : List GSt) (L : List Int) (k : Nat) : (openS K L).eraseIdx k = openS K (L.eraseIdx k) := erase_map _ L k
theorem openS_get (K : List GSt) (L : List Int) (k : Nat) (h : k < L.length) (h2 : k < (openS K L).length) : (openS K L)[k] = (atN K L[k]).str := List.getElem_map (fun n => (atN K n).str) (h := h2)
theorem Inv.dropd {w w' : World} {eb mb : Nat} {g : GEnd} {k : Nat} (hk : k < g.L.length) {by_ : Int} {v : Value} (h : Inv w eb mb g) (hk2 : k < (openS g.K g.L).length) (hd : Dropd w w' eb g.m (openS g.K g.L) k (atN g.K g.L[k]).un.length hk2 by_ v) :
    ∃ g', g'.bare = ({ g with m := g.m.owes (atN g.K g.L[k]).un.length, K := updN g.L[k] (fun s => s.drop by_) g.K, L := g.L.eraseIdx k } : GEnd).bare ∧ Next w w' eb mb g g' ∧ g'.m.resets = g.m.resets ∧ g'.res = g.res ∧ StB w' (atN g.K g.L[k]).sb ((atN g.K g.L[k]).st.dropped by_) := by
  obtain ⟨hmem, hnum⟩ := h.at (List.getElem_mem hk)
  have hstr : (openS g.K g.L)[k] = (atN g.K g.L[k]).str := openS_get _ _ _ hk hk2
  obtain ⟨den, dst, drow, dsame, dchg⟩ := hd
  rw [hstr] at dst dchg
  have keep : ∀ {n : Nat} {v' : Value} {xs : List Value} {ty : TypeId}, w.ownsRow 0 ty 1 v' n xs → (∀ j, v'.ownBlock = some j → j ≠ eb ∧ j ≠ (atN g.K g.L[k]).sb ∧ g.m.opn.ownBlock ≠ some j) → w'.ownsRow 0 ty 1 v' n xs := fun hr hj => owns_chg hr dchg (fun j hjj e => by
    obtain ⟨a, b, c⟩ := hj j hjj
    rcases e with e | e | e
    · exact a e
    · exact b e
    · exact c e)
  have hnil : ∀ w' : World, w'.ownsRow 0 5 1 (.slice none 0 0) ([] : List UInt8).length (([] : List UInt8).map B) := fun w' => World.ownsRow_nil _ _ _ _
  have hL : (g.L.eraseIdx k).length = g.L.length - 1 := by rw [List.length_eraseIdx, if_pos hk]
  refine ⟨{ g with m := (g.m.owes (atN g.K g.L[k]).un.length).opens v, K := updN (atN g.K g.L[k]).st.number (fun _ => ⟨(atN g.K g.L[k]).sb, (atN g.K g.L[k]).st.dropped by_, [], []⟩) g.K, L := g.L.eraseIdx k, out := g.out }, ?_, h.onSt (S := fun j => j = eb ∨ j = (atN g.K g.L[k]).sb ∨ g.m.opn.ownBlock = some j) (s := atN g.K g.L[k]) (s' := ⟨(atN g.K g.L[k]).sb, (atN g.K g.L[k]).st.dropped by_, [], []⟩) 0 hmem dchg ?_ den dst rfl rfl rfl rfl rfl rfl ?_ (fun j hj => Or.inl (by rw [← dsame]; exact hj)) (List.eraseIdx_sublist _ _) ?_ (fun j hj => Or.inl hj) (hnil _) (fun j hj => by simp [StM.dropped, Value.ownBlock] at hj) (hnil _) (fun j hj => by simp [StM.dropped, Value.ownBlock] at hj), rfl, rfl, dst⟩
  · unfold GEnd.bare
    simp only [GEnd.mk.injEq, true_and, and_true]
    refine ⟨rfl, ?_⟩
    rw [hnum, updN, updN, List.map_map, List.map_map]
    apply List.map_congr_left
    intro x hx
    show (if x.st.number = g.L[k] then _ else x).bare = (if x.st.number = g.L[k] then _ else x).bare
    by_cases e : x.st.number = g.L[k]
    · rw [if_pos e, if_pos e, inj_nd (fun s : GSt => s.st.number) h.nn hx hmem (by rw [hnum]; exact e)]
      rfl
    · rw [if_neg e, if_neg e]
  · rintro j (e | e | e)
    · exact Or.inl e
    · exact Or.inr (Or.inl e)
    · exact Or.inr (Or.inr (Or.inl e))
  · rw [openS_erase, openS_length] at drow
    rw [hL]
    exact drow
  · exact keep h.out (fun j hj => ⟨fun e => by rw [e] at hj; exact owns_ne h.out h.en.blk (by decide) hj, fun e => by rw [e] at hj; exact owns_ne h.out (h.st hmem).blk (by decide) hj, fun e => rows_ne h.out h.row (by decide) hj e⟩)
theorem open_nd {w : World} {eb mb : Nat} {g : GEnd} (h : Inv w eb mb g) {k : Nat} (hk : k < (openS g.K g.L).length) : ∀ j (hj : j < (openS g.K g.L).length), j ≠ k → (openS g.K g.L)[j].1 ≠ (openS g.K g.L)[k].1 := by
  intro j hj hjk e
  have hj' : j < g.L.length := by rw [openS_length] at hj; exact hj
  have hk' : k < g.L.length := by rw [openS_length] at hk; exact hk
  have e1 : (atN g.K g.L[j]).sb = (atN g.K g.L[k]).sb := by
    have a : (openS g.K g.L)[j] = (atN g.K g.L[j]).str := openS_get _ _ _ hj' hj
    have b : (openS g.K g.L)[k] = (atN g.K g.L[k]).str := openS_get _ _ _ hk' hk
    rw [a, b] at e
    exact e
  obtain ⟨m1, n1⟩ := h.at (List.getElem_mem hj')
  obtain ⟨m2, n2⟩ := h.at (List.getElem_mem hk')
  have e2 := h.same m1 m2 e1
  have e3 : g.L[j] = g.L[k] := by rw [← n1, ← n2, e2]
  exact hjk ((List.getElem_inj h.ln).1 e3)
theorem i_reset (eb mb : Nat) (g : GEnd) (k : Nat) (by_ : Int) (w : World) (h : Inv w eb mb g) (hk : k < g.L.length) (hb : by_ ≠ 0) (hf : g.L.length ≤ 1048576) (hul : (atN g.K g.L[k]).un.length ≤ 1048576) (b : -1099511627776 ≤ g.m.owed ∧ g.m.owed ≤ 1099511627776) :
    Calls Tryz.prog 64 #[.pointer (some ⟨eb, 0, none⟩), .pointer (some ⟨(atN g.K g.L[k]).sb, 0, none⟩), .int .i64 by_] w fun e w' => e = .returned (.tuple #[]) ∧ ∃ g', g'.bare = ({ g with m := g.m.owes (atN g.K g.L[k]).un.length, K := updN g.L[k] (fun s => s.drop by_) g.K, L := g.L.eraseIdx k } : GEnd).bare ∧ Next w w' eb mb g g' ∧ g'.m.resets = g.m.resets ∧ g'.res = g.res ∧ StB w' (atN g.K g.L[k]).sb ((atN g.K g.L[k]).st.dropped by_) := by
  obtain ⟨hmem, hnum⟩ := h.at (List.getElem_mem hk)
  have hk2 : k < (openS g.K g.L).length := by rw [openS_length]; exact hk
  have hstr : (openS g.K g.L)[k] = (atN g.K g.L[k]).str := openS_get _ _ _ hk hk2
  obtain ⟨su, cu, hsu⟩ := slice_len (h.un _ hmem)
  have hr := ereset_any eb g.m (openS g.K g.L) k (atN g.K g.L[k]).un.length by_ su cu w h.en h.open (by rw [openS_length]; exact hf) hk2 hb (by rw [hstr]; exact hsu) hul (open_nd h hk2) (by omega) (by omega)
  rw [show (openS g.K g.L)[k].1 = (atN g.K g.L[k]).sb from by rw [hstr]; rfl] at hr
  refine hr.mono ?_
  rintro e w' ⟨rfl, v, hd⟩
  exact ⟨rfl, h.dropd hk hk2 hd⟩
set_option maxRecDepth 100000 in
set_option maxHeartbeats 800000 in
theorem comeReset_ok (eb mb : Nat) (g : GEnd) (k : Nat) (f : Int) (sv : Option Addr) (len cb : Nat) (w : World) (h : Inv w eb mb g) (hk : k < g.L.length) (ha : (atN g.K g.L[k]).st.announced = true) (hcl : (atN g.K g.L[k]).st.closed = false) (hf : g.L.length ≤ 1048576) (hul : (atN g.K g.L[k]).un.length ≤ 1048576) (b : -1099511627776 ≤ g.m.owed ∧ g.m.owed ≤ 1099511627776) :
    Calls Tryz.prog 84 #[.pointer (some ⟨eb, 0, none⟩), .agg #[.int .i64 2, .int .i64 f, .int .i64 g.L[k], .slice sv len cb]] w fun e w' => e = .returned (.tuple #[]) ∧ ∃ g', g'.bare = ({ g with m := g.m.owes (atN g.K g.L[k]).un.length, K := updN g.L[k] (fun s => s.drop 2) g.K, L := g.L.eraseIdx k } : GEnd).bare ∧ Next w w' eb mb g g' ∧ g'.m.resets = g.m.resets ∧ g'.res = g.res := by
  obtain ⟨hmem, hnum⟩ := h.at (List.getElem_mem hk)
  have hbA : Below w.heap.size w (w.alloc (.cells #[.int .i64 2, .int .i64 f, .int .i64 g.L[k], .slice sv len cb] 164)) := (Below.refl _ _).alloc (Nat.le_refl _) _
  have hA := h.below hbA
  have han := announced_any eb mb g.m _ g.L[k] _ hA.en h.km hA.kn
  have hfi := hA.find hmem
  rw [hnum] at hfi
  rw [hfi] at han
  simp only [GSt.str, ha, if_true] at han
  have hcc := isClosed_any (atN g.K g.L[k]).sb (atN g.K g.L[k]).st _ (hA.st hmem)
  rw [hcl] at hcc
  have HAN := hide han
  have HCC := hide hcc
  have HR := hide ((i_reset eb mb g k 2 _ hA hk (by omega) hf hul b).mono (R' := fun e w' => e = .returned (.tuple #[]) ∧ ∃ g', g'.bare = ({ g with m := g.m.owes (atN g.K g.L[k]).un.length, K := updN g.L[k] (fun s => s.drop 2) g.K, L := g.L.eraseIdx k } : GEnd).bare ∧ Next w w' eb mb g g' ∧ g'.m.resets = g.m.resets ∧ g'.res = g.res) (by
    rintro e w' ⟨h1, g', h2, h3, h4, h5, -⟩
    exact ⟨h1, g', h2, h3.pre hbA, h4, h5⟩))
  clear h hA han hcc hbA hfi ha hcl hmem hnum
  generalize g.L[k] = nn at *
  go_enter Tryz.func84, Tryz.ntmps84
  go_wp2_with fail
  refine HAN.out.mono ?_
  rintro e w' ⟨hw', rfl⟩
  rw [hw']
  clear hw' w'
  go_wp2_with fail
  refine HCC.out.mono ?_
  rintro e w' ⟨rfl, hw'⟩
  rw [hw']
  clear hw' w'
  go_wp2_with fail
  refine HR.out.mono ?_
  rintro e w' ⟨rfl, hx⟩
  have HX := hide hx
  clear hx
  go_wp2
  exact bodyPost_end (results_none rfl _ _ _) rfl ⟨rfl, HX.out⟩
end Go.Proofs.YtiphkngfbpdeoaaGreatDoor
namespace Go.Proofs.YtiphkngfbpdeoaaGreatDoor
set_option linter.unusedVariables false
set_option linter.unusedSimpArgs false
open Go.RowKit
theorem Tryz.info3 : (Tryz.prog.info? 3).map (fun i => (i.zero, i.size, i.bytes)) = some (some (.int .i64 0), 1, 8) := by kernel_rfl
set_option maxRecDepth 100000 in
set_option maxHeartbeats 1200000 in
theorem answer_first (eb mb : Nat) (g : GEnd) (w : World) (h : Inv w eb mb g) (hv : g.m.answers = .slice none 0 0) (ha : g.ans = []) :
    Calls Tryz.prog 126 #[.pointer (some ⟨eb, 0, none⟩), .agg #[.int .i64 3, .int .i64 1, .int .i64 0, .slice none 0 0]] w fun e w' => e = .returned (.tuple #[]) ∧ ∃ v, EnB w' eb { g.m with answers := v } ∧ w'.ownsRow w.heap.size 105 4 v 1 [.int .i64 3, .int .i64 1, .int .i64 0, .slice none 0 0] ∧ Chg (fun j => j = eb) w w' := by
  obtain ⟨i0, hi, hz0, hz1, hz2⟩ := info_parts Tryz.info105
  have c42 := h.en.c42
  rw [hv] at c42
  have f42 := h.en.fr 42
  have hlt := h.en.lt
  have H := hide h.en
  have HLIE : Hid (∀ j u, ([.int .i64 3, .int .i64 1, .int .i64 0, .slice none 0 0] : List Value)[j]? = some u → ((w.alloc (.cells #[.int .i64 3, .int .i64 1, .int .i64 0, .slice none 0 0] 105)).alloc (.cells #[.int .i64 3, .int .i64 1, .int .i64 0, .slice none 0 0] 105)).drew.cell? ((⟨w.heap.size + 1, 0, none⟩ : Addr).add j) = some u) := fun j u hu => by
    have q := lies_row (w := w.alloc (.cells #[.int .i64 3, .int .i64 1, .int .i64 0, .slice none 0 0] 105)) (xs := [.int .i64 3, .int .i64 1, .int .i64 0, .slice none 0 0]) (t := 105) j u hu
    rw [show (w.alloc (.cells #[.int .i64 3, .int .i64 1, .int .i64 0, .slice none 0 0] 105)).heap.size = w.heap.size + 1 from by simp] at q
    exact q
  clear h hv ha
  go_enter Tryz.func126, Tryz.ntmps126
  go_upto_region 3 with fail
  go_region_law (first
    | (refine step_appd rfl (.tmp 17) (.tmp 19) 90 rfl 105 i0 (.agg #[.int .i64 0, .int .i64 0, .int .i64 0, .slice none 0 0]) 4 48 Tryz.underlying90 hi hz0 hz1 hz2 rfl (by decide) (.slice none 0 0) 0 [] (by simp [Act.eval, Act.put]) (World.ownsRow_nil _ _ _ _) (.slice (some ⟨w.heap.size + 1, 0, none⟩) 1 1) 1 [.int .i64 3, .int .i64 1, .int .i64 0, .slice none 0 0] (by simp [Act.eval, Act.put]) rfl (Or.inr ⟨_, _, rfl, HLIE.out⟩) (by intro u hu; simp only [List.mem_cons, List.not_mem_nil, or_false] at hu; rcases hu with rfl | rfl | rfl | rfl <;> rfl) (by decide) (by decide) ?_; intro v3 w3 ho3 hg3 hfr3; obtain ⟨s3, q3, hv3⟩ := slice_len ho3; subst hv3; have hcg : Chg (fun _ => False) w w3 := (((Chg.refl (fun _ => False) w).alloc (.cells #[.int .i64 3, .int .i64 1, .int .i64 0, .slice none 0 0] 105)).alloc (.cells #[.int .i64 3, .int .i64 1, .int .i64 0, .slice none 0 0] 105)).drew.trans ((Chg.of_grown (S := fun _ => False) hg3 (fun j hj => by simp [Value.ownBlock] at hj)).mono fun j _ e => Or.inr e); have k42 : w3.cell? ⟨eb, 42, none⟩ = some (.slice none 0 0) := (by rw [hcg.cell (p := ⟨eb, 42, none⟩) hlt id]; exact c42); have g42 : w3.frozen? ⟨eb, 42, none⟩ = false := (by rw [hcg.frozen (p := ⟨eb, 42, none⟩) hlt id]; exact f42); have HO3 := hide ho3; have HCG := hide hcg; have HF3 := hide hfr3; clear ho3 hg3 hfr3 hcg))
  all_goals go_wp2
  all_goals
    have hE3 : EnB w3 eb g.m := H.out.chg HCG.out id
    have hset : Chg (fun j => j = eb) w3 (w3.setCell ⟨eb, 42, none⟩ (.slice s3 1 q3)) := chg_set (Chg.refl _ _) rfl
    refine bodyPost_end (results_none rfl _ _ _) rfl ⟨rfl, .slice s3 1 q3, EnB.of (blk_set hE3.blk) rfl, ?_, (HCG.out.mono fun _ _ e => e.elim).trans (hset.mono fun j _ e => Or.inr e)⟩
    have hr := owns_chg HO3.out hset (fun j hj e => by rw [e] at hj; exact owns_ne HO3.out hE3.blk (by decide) hj)
    refine owns_base hr (fun j hj => ?_)
    rcases HF3.out with e | e
    · rw [e] at hj; simp [Value.ownBlock] at hj
    · rw [e] at hj; simp at hj; omega
theorem Inv.answered {w w' : World} {eb mb : Nat} {g : GEnd} {n : Int} {v : Value} (h : Inv w eb mb g) (hc : Chg (fun j => j = eb) w w') (hen : EnB w' eb { g.m with answers := v, other := n }) (hr : RowAt w' 105 4 v 1 [.int .i64 3, .int .i64 1, .int .i64 0, .slice none 0 0]) (hfr : ∀ j, v.ownBlock = some j → w.heap.size ≤ j) :
    Next w w' eb mb g { g with m := { g.m with answers := v, other := n }, ans := [⟨3, 1, [], .slice none 0 0⟩] } := by
  have hrow : ∀ {k : Nat} {v' : Value} {xs : List Value} {ty : TypeId}, ty ≠ 98 → w.ownsRow 0 ty 1 v' k xs → w'.ownsRow 0 ty 1 v' k xs := fun hne hr => owns_chg hr hc (fun j hj e => by rw [e] at hj; exact owns_ne hr h.en.blk hne hj)
  refine ⟨⟨hen, h.kn.chg hc h.eb_mb (fun p hp => ?_), h.km, h.nd, h.nn, h.ln, h.has, hrow (by decide) h.row, hrow (by decide) h.out, hrow (by decide) h.got, fun p hp => hrow (by decide) (h.un p hp), fun p hp => hrow (by decide) (h.wa p hp), hr, ?_, ?_, ?_⟩, hc.mono fun j _ e => Or.inl e, ?_⟩
  · obtain ⟨q, hq, rfl⟩ := List.mem_map.1 hp
    exact h.st_eb hq
  · intro a ha
    rw [List.mem_singleton.1 ha]
    exact World.ownsRow_nil _ _ _ _
  · exact h.res.chg hc (fun j hj e => by rw [e] at hj; exact h.res.ne h.en.blk (by decide) hj)
  · obtain ⟨T, hT⟩ := h.ap
    refine ⟨T, ⟨hT.out, hT.got, hT.un, hT.wa, ?_⟩⟩
    intro a ha j hj
    rw [List.mem_singleton.1 ha] at hj
    simp [Value.ownBlock] at hj
  · intro j hj
    rcases hj with e | e | e | e | e | e | e | ⟨a, ha, e⟩ | e
    · exact Or.inl (Or.inl e)
    · exact Or.inl (Or.inr (Or.inl e))
    · exact Or.inl (by unfold Foot; simp [show g.m.out.ownBlock = some j from e])
    · exact Or.inl (by unfold Foot; simp [show g.m.got.ownBlock = some j from e])
    · exact Or.inl (by unfold Foot; simp [show g.m.opn.ownBlock = some j from e])
    · exact Or.inr (hfr j e)
    · exact Or.inl (by unfold Foot; simp [show g.m.resets.ownBlock = some j from e])
    · rw [List.mem_singleton.1 ha] at e
      simp [Value.ownBlock] at e
    · exact Or.inl (Or.inr (Or.inr (Or.inr (Or.inr (Or.inr (Or.inr (Or.inr (Or.inr e))))))))
set_option maxRecDepth 100000 in
set_option maxHeartbeats 1200000 in
theorem comeSettings_none (eb mb : Nat) (g : GEnd) (f n : Int) (sv : Option Addr) (len cb : Nat) (w : World) (h : Inv w eb mb g) (hf : 0 ≤ f ∧ f ≤ 255) (hak : hasB f 1 = false) (hK : g.K = []) (hv : g.m.answers = .slice none 0 0) (ha : g.ans = []) :
    Calls Tryz.prog 85 #[.pointer (some ⟨eb, 0, none⟩), .agg #[.int .i64 3, .int .i64 f, .int .i64 0, .slice sv len cb, .int .i64 n]] w fun e w' => e = .returned (.tuple #[]) ∧ ∃ g', g'.bare = ({ g with m := { g.m with other := n, answers := .tuple #[] }, ans := [⟨3, 1, [], .slice none 0 0⟩] } : GEnd).bare ∧ Next w w' eb mb g g' := by
  have hbA : Below w.heap.size w (w.alloc (.cells #[.int .i64 3, .int .i64 f, .int .i64 0, .slice sv len cb, .int .i64 n] 167)) := (Below.refl _ _).alloc (Nat.le_refl _) _
  have hnew := heap_alloc_new w (.cells #[.int .i64 3, .int .i64 f, .int .i64 0, .slice sv len cb, .int .i64 n] 167)
  obtain ⟨wA, hwA⟩ : ∃ wA, wA = w.alloc (.cells #[.int .i64 3, .int .i64 f, .int .i64 0, .slice sv len cb, .int .i64 n] 167) := ⟨_, rfl⟩
  rw [← hwA] at hbA hnew
  have hA := h.below hbA
  have hh := has_any 3 f 0 1 (.slice sv len cb) wA hf.1 (by omega) (Or.inl rfl)
  rw [hak] at hh
  have HH := hide hh
  have HEMP : Hid (∀ wx, Below wA.heap.size wA wx → ∃ clock, wx.heap[mb]? = some (.map #[] clock)) := fun wx hx => by
    obtain ⟨es, clock, hb, he, -⟩ := (hA.below hx).kn.blk
    rw [hK] at he
    have : es = #[] := by
      have h0 : es.toList = [] := by simpa using he
      cases es; simpa using h0
    rw [this] at hb
    exact ⟨clock, hb⟩
  have HWA := hide hwA
  have HBX := hide hnew
  have HA := hide hA
  have HBA := hide hbA
  have hlt : eb < wA.heap.size := hA.en.lt
  clear h hA hbA hh hf hak hnew
  go_enter Tryz.func85, Tryz.ntmps85
  go_wp2_with fail
  rw [← HWA.out]
  clear hwA
  refine HH.out.mono ?_
  rintro e w1 ⟨rfl, hb1⟩
  obtain ⟨clock, hmp⟩ := HEMP.out w1 hb1
  have hI1 := HA.out.below hb1
  have c22 := hI1.en.c22
  rw [hI1.km] at c22
  have HI1 := hide hI1
  have HB1 := hide hb1
  clear hI1 hb1
  have hrg := run_range_map (P := Tryz.prog) w1 73 3 118 mb #[] clock Tryz.underlying73 hmp
  have hnx : ∀ ty, (Instr.next (.pointer (some ⟨w1.heap.size, 0, none⟩)) false ty).run Tryz.prog (w1.alloc (.mapIter (some mb) clock #[] clock)) = .ok (.tuple #[.bool false]) (w1.alloc (.mapIter (some mb) clock #[] clock)) := fun ty => by
    rcases run_next_map (P := Tryz.prog) w1 ty mb clock clock #[] #[] clock hmp (by simp) (Nat.le_refl _) with ⟨-, h⟩ | ⟨e, he, -⟩
    · exact h
    · simp [leftOf] at he
  have hb2 : Below w1.heap.size w1 (w1.alloc (.mapIter (some mb) clock #[] clock)) := (Below.refl _ _).alloc (Nat.le_refl _) _
  obtain ⟨w2, hw2⟩ : ∃ w2, w2 = w1.alloc (.mapIter (some mb) clock #[] clock) := ⟨_, rfl⟩
  rw [← hw2] at hb2
  have hI2 := HI1.out.below hb2
  have HAN := hide (answer_first eb mb g w2 hI2 hv ha)
  have hbox2 : w2.heap[w.heap.size]? = some (.cells #[.int .i64 3, .int .i64 f, .int .i64 0, .slice sv len cb, .int .i64 n] 167 (0, 0)) := by
    have h1 := HB1.out.block _ (lt_of_block HBX.out)
    rw [hb2.block _ (by have := lt_of_block HBX.out; have := HB1.out.size; omega), h1]
    exact HBX.out
  have HI2 := hide hI2
  have HB2 := hide hb2
  have HBX2 := hide hbox2
  have HW2 := hide hw2
  clear hI2 hb2 hbox2
  go_wp2
  refine wp_loop_rounds 1 ?_
  rw [rounds_succ]
  go_wp2_with fail
  rw [← HW2.out]
  clear hw2 hrg hnx hmp
  refine HAN.out.mono ?_
  rintro e w3 ⟨rfl, v, hE3, hr3, hc3⟩
  have hbx3 : w3.heap[w.heap.size]? = some (.cells #[.int .i64 3, .int .i64 f, .int .i64 0, .slice sv len cb, .int .i64 n] 167 (0, 0)) := by
    rw [hc3.block _ (lt_of_block HBX2.out) (fun e => block_ne HBX2.out HI2.out.en.blk (by decide) e)]
    exact HBX2.out
  have q4 : w3.cell? ⟨w.heap.size, 4, none⟩ = some (.int .i64 n) := by rw [cell_of_row _ _ _ _ _ _ hbx3]; rfl
  have k12 := hE3.c12
  have f12 := hE3.fr 12
  have hset : Chg (fun j => j = eb) w3 (w3.setCell ⟨eb, 12, none⟩ (.int .i64 n)) := chg_set (Chg.refl _ _) rfl
  have hE4 : EnB (w3.setCell ⟨eb, 12, none⟩ (.int .i64 n)) eb { g.m with answers := v, other := n } := EnB.of (blk_set hE3.blk) rfl
  have hc4 : Chg (fun j => j = eb) w2 (w3.setCell ⟨eb, 12, none⟩ (.int .i64 n)) := hc3.trans (hset.mono fun j _ e => Or.inr e)
  have hr4 : RowAt (w3.setCell ⟨eb, 12, none⟩ (.int .i64 n)) 105 4 v 1 [.int .i64 3, .int .i64 1, .int .i64 0, .slice none 0 0] := RowAt.of_owns (owns_base (owns_chg hr3 hset (fun j hj e => by rw [e] at hj; exact owns_ne hr3 hE3.blk (by decide) hj)) (fun _ _ => Nat.zero_le _))
  have hfr : ∀ j, v.ownBlock = some j → w2.heap.size ≤ j := fun j hj => (hr3.lt j hj).1
  have HVS : Hid (∃ a n c, v = .slice (some a) n c) := by
    rcases hr3.2 with ⟨-, h0⟩ | ⟨gx, cx, cux, h1, -⟩
    · cases h0
    · exact ⟨_, _, _, h1⟩
  have HEND := hide (HI2.out.answered hc4 hE4 hr4 hfr)
  have HALL : Hid (Below w.heap.size w w2) := HBA.out.trans ((HB1.out.trans (HB2.out.mono HB1.out.size)).mono HBA.out.size)
  clear hE3 hr3 hc3 hbx3 hset hE4 hc4 hr4 hfr
  go_wp2
  refine bodyPost_end (results_none rfl _ _ _) rfl ⟨rfl, _, ?_, HEND.out.pre HALL.out⟩
  obtain ⟨ax, nx, cx, hvx⟩ := HVS.out
  subst hvx
  rfl
end Go.Proofs.YtiphkngfbpdeoaaGreatDoor
namespace Go.Proofs.YtiphkngfbpdeoaaGreatDoor
set_option linter.unusedVariables false
set_option linter.unusedSimpArgs false
open Go.RowKit
def roomN (len wait : Nat) : Nat := min len (100 - wait)
structure Wrote (w w' : World) (p : Str) (l b : List UInt8) (v : Value) : Prop where
  st : StB w' p.1 { p.2 with waiting := v }
  row : w'.ownsRow 0 5 1 v (l ++ b.take (roomN b.length l.length)).length ((l ++ b.take (roomN b.length l.length)).map B)
  chg : Chg (fun j => j = p.1 ∨ p.2.waiting.ownBlock = some j) w w'
  fresh : ∀ j, v.ownBlock = some j → p.2.waiting.ownBlock = some j ∨ w.heap.size ≤ j
set_option maxRecDepth 100000 in
set_option maxHeartbeats 1600000 in
theorem eWrite_no (eb mb : Nat) (m : EndM) (K : List Str) (n : Int) (bv : Value) (w : World) (h : EnB w eb m) (hm : m.known = .map (some mb)) (hK : KnownS w mb K) (hc : m.wcode (findK K n) ≠ 0) :
    Calls Tryz.prog 44 #[.pointer (some ⟨eb, 0, none⟩), .int .i64 n, bv] w fun e w' => e = .returned (.tuple #[.int .i64 0, .int .i64 (m.wcode (findK K n))]) ∧ w' = w := by
  have hw := writable_any eb mb m K n w h hm hK
  rw [if_neg hc] at hw
  obtain ⟨c, hcc⟩ : ∃ c, c = m.wcode (findK K n) := ⟨_, rfl⟩
  rw [← hcc] at hw hc ⊢
  have HW := hide hw
  have hcb : (c == 0) = false := by rw [beq_eq_false_iff_ne]; exact hc
  clear h hm hK hw hcc hc
  go_enter Tryz.func44, Tryz.ntmps44
  go_wp2_with fail
  refine HW.out.mono ?_
  rintro e w' ⟨hw', rfl⟩
  rw [hw']
  clear hw' w'
  go_wp2
  all_goals go_ret2
  all_goals exact ⟨rfl, rfl⟩
set_option maxRecDepth 100000 in
set_option maxHeartbeats 3200000 in
theorem eWrite_ok (eb mb : Nat) (m : EndM) (K : List Str) (n : Int) (p : Str) (sb : Option Addr) (cb : Nat) (l b : List UInt8) (w : World) (h : EnB w eb m) (hm : m.known = .map (some mb)) (hK : KnownS w mb K) (hf : findK K n = some p) (hc : m.wcode (some p) = 0) (hrow : w.ownsRow 0 5 1 p.2.waiting l.length (l.map B)) (hl : l.length ≤ 100) (hb : BytesIn w (.slice sb b.length cb) b) (hbl : b.length ≤ 1073741824) (hne : p.2.waiting.ownBlock ≠ some p.1) :
    Calls Tryz.prog 44 #[.pointer (some ⟨eb, 0, none⟩), .int .i64 n, .slice sb b.length cb] w fun e w' => e = .returned (.tuple #[.int .i64 (roomN b.length l.length), .int .i64 0]) ∧ ∃ v, Wrote w w' p l b v := by
  obtain ⟨i0, hi, hz0, hz1, hz2⟩ := info_parts Tryz.info5
  have hw := writable_any eb mb m K n w h hm hK
  have hs := hK.st p (findK_mem hf).1
  rw [hf, hc, if_pos rfl] at hw
  simp only [Option.map_some, ptrO] at hw
  obtain ⟨sw, cw, hwv⟩ := slice_len hrow
  have s12 := hs.c12
  rw [hwv] at s12
  have hslt := hs.lt
  obtain ⟨r, hr⟩ : ∃ r, r = roomN b.length l.length := ⟨_, rfl⟩
  have hrb : r ≤ b.length := by rw [hr]; unfold roomN; omega
  have hri : min (b.length : Int) (100 - (l.length : Int)) = (r : Int) := by rw [hr]; unfold roomN; omega
  have hcap : b.length ≤ cb := by
    rcases hb with ⟨e, e2⟩ | ⟨_, _, _, e, _, h3, _⟩
    · simp only [Value.slice.injEq] at e; rw [e2]; simp
    · simp only [Value.slice.injEq] at e; omega
  have HLI : Hid (Lies w (.slice sb r cb) r ((b.take r).map B)) := by
    have hbr : BytesIn w (.slice sb r cb) (b.take r) := by
      rcases hb with ⟨e, e2⟩ | ⟨bb, off, cap, e, h2, h3, h4⟩
      · simp only [Value.slice.injEq] at e
        subst e2
        have : r = 0 := by simpa using hrb
        subst this
        obtain ⟨rfl, _, rfl⟩ := e
        exact Or.inl ⟨rfl, rfl⟩
      · simp only [Value.slice.injEq] at e
        obtain ⟨rfl, _, rfl⟩ := e
        refine Or.inr ⟨bb, off, cb, by rw [List.length_take, Nat.min_eq_left hrb], h2, by rw [List.length_take]; omega, fun i hi => ?_⟩
        rw [List.length_take] at hi
        rw [h4 i (by omega)]
        simp [List.getD, List.getElem?_take, show i < r by omega]
    have := lies_of_bytesIn hbr
    rw [List.length_take, Nat.min_eq_left hrb] at this
    exact this
  have hsb : sb = none ∨ ∃ bb off, sb = some ⟨bb, off, none⟩ := by
    rcases hb with ⟨e, _⟩ | ⟨bb, off, cap, e, _⟩
    · simp only [Value.slice.injEq] at e; exact Or.inl e.1
    · simp only [Value.slice.injEq] at e; exact Or.inr ⟨bb, off, e.1⟩
  have hlen : (b.take r).length = r := by rw [List.length_take, Nat.min_eq_left hrb]
  have HLEN := hide hlen
  have HW := hide hw
  have HS := hide hs
  have HROW := hide hrow
  have HWV := hide hwv
  have HRI := hide hri
  have HNE := hide hne
  have HRR := hide hr
  have hr100 : r ≤ 1073741824 := by omega
  have hrcb : r ≤ cb := by omega
  obtain ⟨pb, st⟩ := p
  simp only at *
  clear h hm hK hf hc hw hs hrow hwv hri hb hr hlen hne
  rcases hsb with rfl | ⟨bb, off, rfl⟩
  · skip
    go_enter Tryz.func44, Tryz.ntmps44
    go_wp2_with fail
    refine HW.out.mono ?_
    rintro e w' ⟨hw', rfl⟩
    rw [hw']
    clear hw' w'
    go_upto_region 5 with fail
    rw [HRI.out]
    go_region_law (refine step_appd rfl (.tmp 33) (.tmp 36) 38 rfl 5 i0 (.int .u8 0) 1 1 Tryz.underlying38 hi hz0 hz1 hz2 rfl (by decide) (.slice sw l.length cw) l.length (l.map B) (by simp [Act.eval, Act.put]) (by rw [← HWV.out]; exact HROW.out) (.slice none r cb) r ((b.take r).map B) (by simp [Act.eval, Act.put]) (by rw [List.length_map, HLEN.out, Nat.mul_one]) HLI.out (by intro u hu; obtain ⟨x, -, rfl⟩ := List.mem_map.1 hu; rfl) (by unfold maxLen; omega) (by omega) ?_; intro v3 w3 ho3 hg3 hfr3; obtain ⟨s3, q3, hv3⟩ := slice_len ho3; subst hv3; have hb3 := kept_block (show w.drew.ownsRow _ _ _ _ _ _ from HROW.out) (by rw [HWV.out]; exact hg3) (show w.drew.heap[pb]? = _ from HS.out.blk) (by decide); have c12 : w3.cell? ⟨pb, 12, none⟩ = some (.slice sw l.length cw) := (by rw [cell_of_row w3 pb _ _ _ _ hb3]; rw [← HWV.out]; rfl); have f12 : w3.frozen? ⟨pb, 12, none⟩ = false := (by simp [World.frozen?, hb3]); have HO3 := hide ho3; have HG3 := hide hg3; have HF3 := hide hfr3; have HB3 := hide hb3; clear ho3 hg3 hfr3 hb3)
    all_goals go_wp2
    all_goals go_ret2
    all_goals
      refine ⟨by rw [← HRR.out]; rfl, .slice s3 (l.length + r) q3, ⟨StB.of (blk_set HB3.out) rfl, ?_, ?_, ?_⟩⟩
      · rw [← HRR.out, List.length_append, List.map_append, HLEN.out]
        exact owns_chg HO3.out (chg_set (S := fun j => j = pb) (Chg.refl _ _) rfl) (fun j hj e => by subst e; exact owns_ne HO3.out HB3.out (by decide) hj)
      · refine chg_set (Chg.trans (Chg.of_below (S := fun j => j = pb ∨ st.waiting.ownBlock = some j) (show Below w.heap.size w w.drew from ⟨rfl, rfl, rfl, Nat.le_refl _, fun _ _ => rfl⟩)) (Chg.of_grown HG3.out (fun j hj => Or.inr (Or.inr (by rw [HWV.out]; exact hj))))) (Or.inl rfl)
      · intro j hj
        rcases HF3.out with e | e
        · rw [e] at hj; exact Or.inl (by rw [HWV.out]; exact hj)
        · rw [e] at hj; simp at hj; exact Or.inr (by omega)
  · skip
    go_enter Tryz.func44, Tryz.ntmps44
    go_wp2_with fail
    refine HW.out.mono ?_
    rintro e w' ⟨hw', rfl⟩
    rw [hw']
    clear hw' w'
    go_upto_region 5 with fail
    rw [HRI.out]
    go_region_law (refine step_appd rfl (.tmp 33) (.tmp 36) 38 rfl 5 i0 (.int .u8 0) 1 1 Tryz.underlying38 hi hz0 hz1 hz2 rfl (by decide) (.slice sw l.length cw) l.length (l.map B) (by simp [Act.eval, Act.put]) (by rw [← HWV.out]; exact HROW.out) (.slice (some ⟨bb, off, none⟩) r cb) r ((b.take r).map B) (by simp [Act.eval, Act.put]) (by rw [List.length_map, HLEN.out, Nat.mul_one]) HLI.out (by intro u hu; obtain ⟨x, -, rfl⟩ := List.mem_map.1 hu; rfl) (by unfold maxLen; omega) (by omega) ?_; intro v3 w3 ho3 hg3 hfr3; obtain ⟨s3, q3, hv3⟩ := slice_len ho3; subst hv3; have hb3 := kept_block (show w.drew.ownsRow _ _ _ _ _ _ from HROW.out) (by rw [HWV.out]; exact hg3) (show w.drew.heap[pb]? = _ from HS.out.blk) (by decide); have c12 : w3.cell? ⟨pb, 12, none⟩ = some (.slice sw l.length cw) := (by rw [cell_of_row w3 pb _ _ _ _ hb3]; rw [← HWV.out]; rfl); have f12 : w3.frozen? ⟨pb, 12, none⟩ = false := (by simp [World.frozen?, hb3]); have HO3 := hide ho3; have HG3 := hide hg3; have HF3 := hide hfr3; have HB3 := hide hb3; clear ho3 hg3 hfr3 hb3)
    all_goals go_wp2
    all_goals go_ret2
    all_goals
      refine ⟨by rw [← HRR.out]; rfl, .slice s3 (l.length + r) q3, ⟨StB.of (blk_set HB3.out) rfl, ?_, ?_, ?_⟩⟩
      · rw [← HRR.out, List.length_append, List.map_append, HLEN.out]
        exact owns_chg HO3.out (chg_set (S := fun j => j = pb) (Chg.refl _ _) rfl) (fun j hj e => by subst e; exact owns_ne HO3.out HB3.out (by decide) hj)
      · refine chg_set (Chg.trans (Chg.of_below (S := fun j => j = pb ∨ st.waiting.ownBlock = some j) (show Below w.heap.size w w.drew from ⟨rfl, rfl, rfl, Nat.le_refl _, fun _ _ => rfl⟩)) (Chg.of_grown HG3.out (fun j hj => Or.inr (Or.inr (by rw [HWV.out]; exact hj))))) (Or.inl rfl)
      · intro j hj
        rcases HF3.out with e | e
        · rw [e] at hj; exact Or.inl (by rw [HWV.out]; exact hj)
        · rw [e] at hj; simp at hj; exact Or.inr (by omega)
end Go.Proofs.YtiphkngfbpdeoaaGreatDoor
namespace Go.Proofs.YtiphkngfbpdeoaaGreatDoor
set_option linter.unusedVariables false
set_option linter.unusedSimpArgs false
open Go.RowKit
set_option maxHeartbeats 400000 in
theorem xWrite_of (eb : Nat) (n : Int) (bv : Value) (w : World) {R : Value → Value → World → Prop} (h : Calls Tryz.prog 44 #[.pointer (some ⟨eb, 0, none⟩), .int .i64 n, bv] w fun e w' => ∃ a c, e = .returned (.tuple #[a, c]) ∧ R a c w') :
    Calls Tryz.prog 21 #[.pointer (some ⟨eb, 0, none⟩), .int .i64 n, bv] w fun e w' => ∃ a c, e = .returned (.tuple #[a, c]) ∧ R a c w' := by
  have HC := hide h
  clear h
  go_enter Tryz.func21, Tryz.ntmps21
  go_wp2_with fail
  refine HC.out.mono ?_
  rintro e w' ⟨a, c, rfl, h⟩
  have H := hide h
  clear h
  go_wp2
  go_ret2
  exact ⟨a, c, rfl, H.out⟩
set_option maxHeartbeats 400000 in
theorem xRead_of (eb : Nat) (s n : Int) (w : World) {R : Value → Value → Value → World → Prop} (h : Calls Tryz.prog 28 #[.pointer (some ⟨eb, 0, none⟩), .int .i64 s, .int .i64 n] w fun e w' => ∃ a b c, e = .returned (.tuple #[a, b, c]) ∧ R a b c w') :
    Calls Tryz.prog 10 #[.pointer (some ⟨eb, 0, none⟩), .int .i64 s, .int .i64 n] w fun e w' => ∃ a b c, e = .returned (.tuple #[a, b, c]) ∧ R a b c w' := by
  have HC := hide h
  clear h
  go_enter Tryz.func10, Tryz.ntmps10
  go_wp2_with fail
  refine HC.out.mono ?_
  rintro e w' ⟨a, b, c, rfl, h⟩
  have H := hide h
  clear h
  go_wp2
  refine bodyPost_ret (v := .tuple #[a, b, c]) ?_ rfl ⟨a, b, c, rfl, H.out⟩
  simp [results, Tryz.results10, go_sem]
end Go.Proofs.YtiphkngfbpdeoaaGreatDoor
namespace Go.Proofs.YtiphkngfbpdeoaaGreatDoor
set_option linter.unusedVariables false
set_option linter.unusedSimpArgs false
open Go.RowKit
theorem Inv.reseted {w w' : World} {eb mb : Nat} {g : GEnd} {v : Value} {n : Int} (h : Inv w eb mb g) (hc : Chg (fun j => j = eb) w w') (hen : EnB w' eb { g.m with resets := v }) (hr : RowAt w' 3 1 v 1 [.int .i64 n]) (hfr : ∀ j, v.ownBlock = some j → w.heap.size ≤ j) (hg : g.res = []) :
    Next w w' eb mb g { g with m := { g.m with resets := v }, res := [n] } := by
  have hrow : ∀ {k : Nat} {v' : Value} {xs : List Value} {ty : TypeId}, ty ≠ 98 → w.ownsRow 0 ty 1 v' k xs → w'.ownsRow 0 ty 1 v' k xs := fun hne hr => owns_chg hr hc (fun j hj e => by rw [e] at hj; exact owns_ne hr h.en.blk hne hj)
  refine ⟨⟨hen, h.kn.chg hc h.eb_mb (fun p hp => ?_), h.km, h.nd, h.nn, h.ln, h.has, hrow (by decide) h.row, hrow (by decide) h.out, hrow (by decide) h.got, fun p hp => hrow (by decide) (h.un p hp), fun p hp => hrow (by decide) (h.wa p hp), ?_, fun a ha => hrow (by decide) (h.anb a ha), hr, (by obtain ⟨T, hT⟩ := h.ap; exact ⟨T, ⟨hT.out, hT.got, hT.un, hT.wa, hT.an⟩⟩)⟩, hc.mono fun j _ e => Or.inl e, ?_⟩
  · obtain ⟨q, hq, rfl⟩ := List.mem_map.1 hp
    exact h.st_eb hq
  · exact h.ans.chg hc (fun j hj e => by rw [e] at hj; exact h.ans.ne h.en.blk (by decide) hj)
  · intro j hj
    rcases hj with e | e | e | e | e | e | e | e | e
    · exact Or.inl (Or.inl e)
    · exact Or.inl (Or.inr (Or.inl e))
    · exact Or.inl (by unfold Foot; simp [show g.m.out.ownBlock = some j from e])
    · exact Or.inl (by unfold Foot; simp [show g.m.got.ownBlock = some j from e])
    · exact Or.inl (by unfold Foot; simp [show g.m.opn.ownBlock = some j from e])
    · exact Or.inl (by unfold Foot; simp [show g.m.answers.ownBlock = some j from e])
    · exact Or.inr (hfr j e)
    · exact Or.inl (Or.inr (Or.inr (Or.inr (Or.inr (Or.inr (Or.inr (Or.inr (Or.inl e))))))))
    · exact Or.inl (Or.inr (Or.inr (Or.inr (Or.inr (Or.inr (Or.inr (Or.inr (Or.inr e))))))))
set_option maxRecDepth 100000 in
set_option maxHeartbeats 1200000 in
theorem eReset_first (eb mb : Nat) (g : GEnd) (k : Nat) (w : World) (h : Inv w eb mb g) (hk : k < g.L.length) (hf : g.m.fault = 0) (ha : (atN g.K g.L[k]).st.announced = true) (hr : (atN g.K g.L[k]).st.reset = 0) (hcl : (atN g.K g.L[k]).st.closed = false) (hv : g.m.resets = .slice none 0 0) (hg : g.res = []) (hL : g.L.length ≤ 1048576) (hul : (atN g.K g.L[k]).un.length ≤ 1048576) (b : -1099511627776 ≤ g.m.owed ∧ g.m.owed ≤ 1099511627776) :
    Calls Tryz.prog 45 #[.pointer (some ⟨eb, 0, none⟩), .int .i64 g.L[k]] w fun e w' => e = .returned (.int .i64 0) ∧ ∃ g', g'.bare = ({ g with m := { g.m.owes (atN g.K g.L[k]).un.length with resets := .tuple #[] }, K := updN g.L[k] (fun s => s.drop 1) g.K, L := g.L.eraseIdx k, res := [g.L[k]] } : GEnd).bare ∧ Next w w' eb mb g g' := by
  obtain ⟨i0, hi, hz0, hz1, hz2⟩ := info_parts Tryz.info3
  obtain ⟨hmem, hnum⟩ := h.at (List.getElem_mem hk)
  have c22 := h.en.c22
  rw [h.km] at c22
  have hlk := h.kn.lookup g.L[k]
  have hfi := h.find hmem
  rw [hnum] at hfi
  rw [hfi] at hlk
  simp only [Option.map_some, ptrO, GSt.str] at hlk
  have hd := isDead_any eb g.m w h.en
  rw [show (!(g.m.fault == 0)) = false from by rw [hf]; rfl] at hd
  have hir := isReset_any (atN g.K g.L[k]).sb (atN g.K g.L[k]).st w (h.st hmem)
  rw [show (!((atN g.K g.L[k]).st.reset == 0)) = false from by rw [hr]; rfl] at hir
  have hic := isClosed_any (atN g.K g.L[k]).sb (atN g.K g.L[k]).st w (h.st hmem)
  rw [hcl] at hic
  have HD := hide hd
  have HIR := hide hir
  have HIC := hide hic
  have HRS := hide (i_reset eb mb g k 1 w h hk (by omega) hL hul b)
  have hn2 : (atN g.K g.L[k]).st.number = g.L[k] := hnum
  have HEND : Hid (∀ w1 g1 w2 v, g1.bare = ({ g with m := g.m.owes (atN g.K g.L[k]).un.length, K := updN g.L[k] (fun s => s.drop 1) g.K, L := g.L.eraseIdx k } : GEnd).bare → Next w w1 eb mb g g1 → g1.res = g.res → w2.ownsRow 0 3 1 v 1 [.int .i64 g.L[k]] → Chg (fun _ => False) w1 w2 → (∀ j, v.ownBlock = some j → w1.heap.size ≤ j) → ∃ g', g'.bare = ({ g with m := { g.m.owes (atN g.K g.L[k]).un.length with resets := .tuple #[] }, K := updN g.L[k] (fun s => s.drop 1) g.K, L := g.L.eraseIdx k, res := [g.L[k]] } : GEnd).bare ∧ Next w (w2.setCell ⟨eb, 43, none⟩ v) eb mb g g') := fun w1 g1 w2 v hb hn h2 hrow hc hfr => by
    have hE2 : EnB w2 eb g1.m := hn.inv.en.chg hc id
    have hset : Chg (fun j => j = eb) w2 (w2.setCell ⟨eb, 43, none⟩ v) := chg_set (Chg.refl _ _) rfl
    have hcc : Chg (fun j => j = eb) w1 (w2.setCell ⟨eb, 43, none⟩ v) := (hc.mono fun _ _ e => e.elim).trans (hset.mono fun j _ e => Or.inr e)
    have hr2 : RowAt (w2.setCell ⟨eb, 43, none⟩ v) 3 1 v 1 [.int .i64 g.L[k]] := RowAt.of_owns (owns_chg hrow hset (fun j hj e => by rw [e] at hj; exact owns_ne hrow hE2.blk (by decide) hj))
    refine ⟨_, ?_, hn.trans (hn.inv.reseted hcc (EnB.of (blk_set hE2.blk) rfl) hr2 hfr (by rw [h2]; exact hg))⟩
    obtain ⟨ax, nx, cx, hvx⟩ : ∃ a n c, v = .slice (some a) n c := by
      rcases hrow.2 with ⟨-, h0⟩ | ⟨gx, cx, cux, h1, -⟩
      · cases h0
      · exact ⟨_, _, _, h1⟩
    subst hvx
    unfold GEnd.bare at hb ⊢
    simp only [GEnd.mk.injEq] at hb ⊢
    obtain ⟨a1, a2, a3, a4, a5, a6, a7⟩ := hb
    refine ⟨?_, a2, a3, a4, a5, a6, trivial⟩
    have := congrArg (fun m : EndM => ({ m with resets := .tuple #[] } : EndM)) a1
    exact this
  have hlt := h.en.lt
  have HV := hide hv
  have HA := hide ha
  clear h hd hir hic hmem hfi hg hcl hr
  go_enter Tryz.func45, Tryz.ntmps45
  go_wp2_with fail
  refine HD.out.mono ?_
  rintro e w' ⟨rfl, hw'⟩
  rw [hw']
  clear hw' w'
  go_wp2_with fail
  refine HIR.out.mono ?_
  rintro e w' ⟨rfl, hw'⟩
  rw [hw']
  clear hw' w'
  go_wp2_with fail
  refine HIC.out.mono ?_
  rintro e w' ⟨rfl, hw'⟩
  rw [hw']
  clear hw' w'
  go_wp2_with fail
  refine HRS.out.mono ?_
  rintro e w1 ⟨rfl, g1, hb1, hn1, hr1, hs1, hst1⟩
  have k7 : w1.cell? ⟨(atN g.K g.L[k]).sb, 7, none⟩ = some (.bool true) := by rw [hst1.c7]; exact congrArg (fun b => some (Value.bool b)) HA.out
  have k43 : w1.cell? ⟨eb, 43, none⟩ = some (.slice none 0 0) := by rw [hn1.inv.en.c43, hr1, HV.out]
  have f43 := hn1.inv.en.fr 43
  have hlt1 : eb < w1.heap.size := hn1.inv.en.lt
  have HB1 := hide hb1
  have HN1 := hide hn1
  have HS1 := hide hs1
  clear hb1 hn1 hr1 hs1 hst1
  go_wp2_with (at_builtin; refine wpList_app _ rfl (.tmp 37) (.tmp 39) 33 rfl 3 i0 (.int .i64 0) 1 8 Tryz.underlying33 hi hz0 hz1 hz2 rfl (by decide) (.slice none 0 0) 0 [] rfl (World.ownsRow_nil _ _ _ _) _ 1 [.int .i64 g.L[k]] rfl rfl (lies_one (one_alloc _ _ _)) (by intro u hu; rw [List.mem_singleton.1 hu]; rfl) (by decide) (by decide) ?_)
  intro v w2 hown hg2 hfr
  obtain ⟨s2, c2, rfl⟩ := slice_len hown
  have hc2 : Chg (fun _ => False) w1 w2 := ((Chg.refl _ _).alloc _).trans ((Chg.of_grown (S := fun _ => False) hg2 (fun j hj => by simp [Value.ownBlock] at hj)).mono fun j _ e => Or.inr e)
  have hfr2 : ∀ j, (Value.slice s2 (0 + 1) c2).ownBlock = some j → w1.heap.size ≤ j := fun j hj => by
    rcases hfr with e | e
    · rw [e] at hj; simp [Value.ownBlock] at hj
    · rw [e] at hj; simp at hj; omega
  have HE := hide (HEND.out w1 g1 w2 _ HB1.out HN1.out HS1.out hown hc2 hfr2)
  have k43b : w2.cell? ⟨eb, 43, none⟩ = some (.slice none 0 0) := by rw [hc2.cell (p := ⟨eb, 43, none⟩) hlt1 id]; exact k43
  have f43b : w2.frozen? ⟨eb, 43, none⟩ = false := by rw [hc2.frozen (p := ⟨eb, 43, none⟩) hlt1 id]; exact f43
  clear hown hg2 hfr hc2 hfr2 HEND
  go_wp2
  go_ret
  exact ⟨rfl, HE.out⟩
end Go.Proofs.YtiphkngfbpdeoaaGreatDoor
namespace Go.Proofs.YtiphkngfbpdeoaaGreatDoor
set_option linter.unusedVariables false
set_option linter.unusedSimpArgs false
open Go.RowKit
structure RdOk (g : GEnd) : Prop where
  got : Got g.got
  head : 6 ≤ g.got.length → hdOf g.got = ⟨g.m.hlen, g.m.hkind, g.m.hflags, g.m.hstream⟩
theorem RdOk.nil {g : GEnd} (h : g.got = []) : RdOk g := ⟨by rw [h]; exact got_nil, fun h6 => by rw [h] at h6; simp at h6⟩
theorem Inv.rdsg {w : World} {eb mb : Nat} {g : GEnd} (h : Inv w eb mb g) (hr : RdOk g) : RdSG w eb 25 98 g.m.cells g.m.got g.got :=
  ⟨hr.got, h.got, g.m.hlen, g.m.hkind, g.m.hflags, g.m.hstream, ⟨h.en.blk, by decide, rfl, rfl, rfl, rfl, rfl⟩, hr.head⟩
def EndM.rd (m : EndM) (gv : Value) (L K F S : Int) : EndM := { m with got := gv, hlen := L, hkind := K, hflags := F, hstream := S }
theorem rd_cells {m : EndM} {cs' : Array Value} {gv : Value} {L K F S : Int} (ha : Alike 25 m.cells cs') (h0 : cs'[25]? = some gv) (h1 : cs'[26]? = some (.int .i64 L)) (h2 : cs'[27]? = some (.int .i64 K)) (h3 : cs'[28]? = some (.int .i64 F)) (h4 : cs'[29]? = some (.int .i64 S)) : cs' = (m.rd gv L K F S).cells := by
  have e : (m.rd gv L K F S).cells = ((((m.cells.setIfInBounds 25 gv).setIfInBounds 26 (.int .i64 L)).setIfInBounds 27 (.int .i64 K)).setIfInBounds 28 (.int .i64 F)).setIfInBounds 29 (.int .i64 S) := rfl
  have hsz : m.cells.size = 50 := rfl
  rw [e]
  apply Array.ext_getElem?
  intro i
  by_cases i0 : i = 25
  · subst i0; rw [h0]; simp [hsz, Array.getElem?_setIfInBounds]
  by_cases i1 : i = 26
  · subst i1; rw [h1]; simp [hsz, Array.getElem?_setIfInBounds]
  by_cases i2 : i = 27
  · subst i2; rw [h2]; simp [hsz, Array.getElem?_setIfInBounds]
  by_cases i3 : i = 28
  · subst i3; rw [h3]; simp [hsz, Array.getElem?_setIfInBounds]
  by_cases i4 : i = 29
  · subst i4; rw [h4]; simp [hsz, Array.getElem?_setIfInBounds]
  rw [ha.2 i (by omega), Array.getElem?_setIfInBounds_ne (by omega), Array.getElem?_setIfInBounds_ne (by omega), Array.getElem?_setIfInBounds_ne (by omega), Array.getElem?_setIfInBounds_ne (by omega), Array.getElem?_setIfInBounds_ne (by omega)]
theorem Inv.onGot {w w' : World} {eb mb : Nat} {g : GEnd} {cs' : Array Value} {gv' : Value} {got' : List UInt8} (h : Inv w eb mb g) (hl : LeftG w w' eb 25 98 g.m.cells cs' g.m.got gv' got') : ∃ g', g'.bare = ({ g with got := got' } : GEnd).bare ∧ RdOk g' ∧ Next w w' eb mb g g' ∧ (∀ j, Foot eb mb g' j → Foot eb mb g j ∨ gv'.ownBlock = some j) := by
  obtain ⟨⟨hgot, hown, L, K, F, S, hrd, hhd⟩, hal, hc, hfr⟩ := hl
  have hen : EnB w' eb (g.m.rd gv' L K F S) := ⟨by rw [hrd.blk, rd_cells hal hrd.c0 hrd.c1 hrd.c2 hrd.c3 hrd.c4]⟩
  have hs : ∀ j, Touch eb g.m.got j → j = eb ∨ g.m.got.ownBlock = some j := fun j e => e
  refine ⟨{ g with m := g.m.rd gv' L K F S, got := got' }, rfl, ⟨hgot, hhd⟩, ⟨⟨hen, h.kn.chg hc (fun e => ?_) (fun p hp e => ?_), h.km, h.nd, h.nn, h.ln, h.has, ?_, ?_, hown, fun p hp => ?_, fun p hp => ?_, ?_, fun a ha => ?_, ?_, ?_⟩, hc.mono fun j _ e => ?_, fun j hj => ?_⟩, fun j hj => ?_⟩
  · rcases hs _ e with a | a
    · exact h.eb_mb a
    · exact owns_mb h.kn h.got a
  · obtain ⟨q, hq, rfl⟩ := List.mem_map.1 hp
    rcases hs _ e with a | a
    · exact h.st_eb hq a
    · exact owns_ne h.got (h.st hq).blk (by decide) a
  · refine owns_chg h.row hc (fun j hj e => ?_)
    rcases hs _ e with a | a
    · rw [a] at hj; exact owns_ne h.row h.en.blk (by decide) hj
    · exact rows_ne h.got h.row (by decide) a hj
  · refine owns_chg h.out hc (fun j hj e => ?_)
    rcases hs _ e with a | a
    · rw [a] at hj; exact owns_ne h.out h.en.blk (by decide) hj
    · exact h.out_got hj a
  · refine owns_chg (h.un p hp) hc (fun j hj e => ?_)
    rcases hs _ e with a | a
    · rw [a] at hj; exact owns_ne (h.un p hp) h.en.blk (by decide) hj
    · exact h.got_un hp hj a
  · refine owns_chg (h.wa p hp) hc (fun j hj e => ?_)
    rcases hs _ e with a | a
    · rw [a] at hj; exact owns_ne (h.wa p hp) h.en.blk (by decide) hj
    · exact h.got_wa hp hj a
  · refine h.ans.chg hc (fun j hj e => ?_)
    rcases hs _ e with a | a
    · rw [a] at hj; exact h.ans.ne h.en.blk (by decide) hj
    · exact rows_ne2 h.got h.ans (by decide) a hj
  · refine owns_chg (h.anb a ha) hc (fun j hj e => ?_)
    rcases hs _ e with b | b
    · rw [b] at hj; exact owns_ne (h.anb a ha) h.en.blk (by decide) hj
    · exact h.got_an ha hj b
  · refine h.res.chg hc (fun j hj e => ?_)
    rcases hs _ e with a | a
    · rw [a] at hj; exact h.res.ne h.en.blk (by decide) hj
    · exact rows_ne2 h.got h.res (by decide) a hj
  · exact h.apart (fun _ => 1) _ g.K g.ans (fun j hj => Or.inl hj) (fun j hj => (hfr j hj).imp_right fun a => ⟨a, rfl⟩) (fun p hp j hj => Or.inl ⟨p, hp, rfl, hj⟩) (fun p hp j hj => Or.inl ⟨p, hp, rfl, hj⟩) (fun a ha j hj => Or.inl ⟨a, ha, hj⟩)
  · rcases hs _ e with a | a
    · exact Or.inl a
    · unfold Foot; simp [a]
  · rcases hj with e | e | e | e | e | e | e | e | e
    · exact Or.inl (Or.inl e)
    · exact Or.inl (Or.inr (Or.inl e))
    · exact Or.inl (by unfold Foot; simp [show g.m.out.ownBlock = some j from e])
    · rcases hfr j e with a | a
      · exact Or.inl (by unfold Foot; simp [a])
      · exact Or.inr a
    · exact Or.inl (by unfold Foot; simp [show g.m.opn.ownBlock = some j from e])
    · exact Or.inl (by unfold Foot; simp [show g.m.answers.ownBlock = some j from e])
    · exact Or.inl (by unfold Foot; simp [show g.m.resets.ownBlock = some j from e])
    · exact Or.inl (Or.inr (Or.inr (Or.inr (Or.inr (Or.inr (Or.inr (Or.inr (Or.inl e))))))))
    · exact Or.inl (Or.inr (Or.inr (Or.inr (Or.inr (Or.inr (Or.inr (Or.inr (Or.inr e))))))))
  · rcases hj with e | e | e | e | e | e | e | e | e
    · exact Or.inl (Or.inl e)
    · exact Or.inl (Or.inr (Or.inl e))
    · exact Or.inl (by unfold Foot; simp [show g.m.out.ownBlock = some j from e])
    · exact Or.inr e
    · exact Or.inl (by unfold Foot; simp [show g.m.opn.ownBlock = some j from e])
    · exact Or.inl (by unfold Foot; simp [show g.m.answers.ownBlock = some j from e])
    · exact Or.inl (by unfold Foot; simp [show g.m.resets.ownBlock = some j from e])
    · exact Or.inl (Or.inr (Or.inr (Or.inr (Or.inr (Or.inr (Or.inr (Or.inr (Or.inl e))))))))
    · exact Or.inl (Or.inr (Or.inr (Or.inr (Or.inr (Or.inr (Or.inr (Or.inr (Or.inr e))))))))
theorem Inv.begins {w : World} {eb mb : Nat} {g : GEnd} (h : Inv w eb mb g) : ∃ g', g'.bare = ({ g with m := { g.m with begun := true } } : GEnd).bare ∧ Next w (w.setCell ⟨eb, 30, none⟩ (.bool true)) eb mb g g' := by
  have hc : Chg (fun j => j = eb) w (w.setCell ⟨eb, 30, none⟩ (.bool true)) := chg_set (Chg.refl _ _) rfl
  have hn := h.onEnd (S := fun j => j = eb) (m' := { g.m with begun := true }) (o' := g.out) (A' := g.ans) (R' := g.res) hc (fun j e => Or.inl e) (EnB.of (blk_set h.en.blk) rfl) rfl rfl rfl (owns_chg h.out hc (fun j hj e => by rw [e] at hj; exact owns_ne h.out h.en.blk (by decide) hj)) (fun j hj => Or.inl hj) h.ans (fun _ h => h) (fun _ h => h) h.res (fun _ h => h)
  exact ⟨_, rfl, hn⟩
end Go.Proofs.YtiphkngfbpdeoaaGreatDoor
namespace Go.Proofs.YtiphkngfbpdeoaaGreatDoor
set_option linter.unusedVariables false
set_option linter.unusedSimpArgs false
open Go.RowKit
def Ahead (w w1 : World) (eb mb : Nat) (g g1 : GEnd) : Prop := g1.bare = ({ g with m := { g.m with begun := true } } : GEnd).bare ∧ Next w w1 eb mb g g1
theorem ahead_of {w w0 w1 : World} {eb mb : Nat} {g g1 : GEnd} (hb : Below w.heap.size w w0) (h1 : g1.bare = ({ g with m := { g.m with begun := true } } : GEnd).bare) (h2 : Next w0 (w0.setCell ⟨eb, 30, none⟩ (.bool true)) eb mb g g1) (hb2 : Below (w0.setCell ⟨eb, 30, none⟩ (.bool true)).heap.size (w0.setCell ⟨eb, 30, none⟩ (.bool true)) w1) : Ahead w w1 eb mb g g1 := ⟨h1, (h2.pre hb).then_below hb2⟩
section
variable (eb mb : Nat) (g : GEnd) (w : World) (R : World → Prop)
set_option maxRecDepth 100000 in
set_option maxHeartbeats 800000 in
theorem come_data (f n : Int) (sv : Option Addr) (len cb : Nat) (h : Inv w eb mb g) (hb : g.m.bstream = 0) (hbg : g.m.begun = true) (hc : ∀ w1 g1, Ahead w w1 eb mb g g1 → Calls Tryz.prog 80 #[.pointer (some ⟨eb, 0, none⟩), dataV f n sv len cb] w1 fun e w' => e = .returned (.tuple #[]) ∧ R w') :
    Calls Tryz.prog 66 #[.pointer (some ⟨eb, 0, none⟩), .iface 155 (dataV f n sv len cb)] w fun e w' => e = .returned (.tuple #[]) ∧ R w' := by
  have hta : ∀ (x : Value) (w : World), (Instr.typeAssert (.iface 155 x) 135 155 true).run Tryz.prog w = .ok (.tuple #[x, .bool true]) w := fun _ _ => by kernel_rfl
  have HT := hide (checkTurn_ok eb g.m 155 (dataV f n sv len cb) w h.en (by simp) hb (Or.inl hbg))
  have HC : Hid (∀ w0 o, Below w.heap.size w w0 → Calls Tryz.prog 80 #[.pointer (some ⟨eb, 0, none⟩), dataV f n sv len cb] ((w0.setCell ⟨eb, 30, none⟩ (.bool true)).alloc o) fun e w' => e = .returned (.tuple #[]) ∧ R w') := fun w0 o hb0 => by
    obtain ⟨g1, h1, h2⟩ := (h.below hb0).begins
    exact hc _ g1 (ahead_of hb0 h1 h2 ((Below.refl _ _).alloc (Nat.le_refl _) _))
  have HE : Hid (∀ w0, Below w.heap.size w w0 → w0.cell? ⟨eb, 30, none⟩ = some (.bool g.m.begun) ∧ w0.frozen? ⟨eb, 30, none⟩ = false ∧ eb < w0.heap.size) := fun w0 hb0 => ⟨(h.below hb0).en.c30, (h.below hb0).en.fr 30, (h.below hb0).en.lt⟩
  clear h hb hbg hc
  unfold dataV at *
  go_enter Tryz.func66, Tryz.ntmps66
  go_wp2_with fail
  refine HT.out.mono ?_
  rintro e w0 ⟨rfl, hb0⟩
  obtain ⟨k30, f30, hlt⟩ := HE.out w0 hb0
  have HB0 := hide hb0
  clear hb0
  go_wp2_with fail
  refine (HC.out w0 _ HB0.out).mono ?_
  rintro e w' ⟨rfl, hx⟩
  have HX := hide hx
  clear hx
  go_wp2
  exact bodyPost_end (results_none rfl _ _ _) rfl ⟨rfl, HX.out⟩
set_option maxRecDepth 100000 in
set_option maxHeartbeats 800000 in
theorem come_data_p (f n : Int) (sv : Option Addr) (len cb : Nat) (h : Inv w eb mb g) (hb : g.m.bstream = 0) (hbg : g.m.begun = true) (hc : ∀ w1 g1, Ahead w w1 eb mb g g1 → Calls Tryz.prog 80 #[.pointer (some ⟨eb, 0, none⟩), dataV f n sv len cb] w1 fun e w' => e = .panicked [{ v := .iface 36 (.int .i64 11), recovered := false }] ∧ R w') :
    Calls Tryz.prog 66 #[.pointer (some ⟨eb, 0, none⟩), .iface 155 (dataV f n sv len cb)] w fun e w' => e = .panicked [{ v := .iface 36 (.int .i64 11), recovered := false }] ∧ R w' := by
  have hta : ∀ (x : Value) (w : World), (Instr.typeAssert (.iface 155 x) 135 155 true).run Tryz.prog w = .ok (.tuple #[x, .bool true]) w := fun _ _ => by kernel_rfl
  have HT := hide (checkTurn_ok eb g.m 155 (dataV f n sv len cb) w h.en (by simp) hb (Or.inl hbg))
  have HC : Hid (∀ w0 o, Below w.heap.size w w0 → Calls Tryz.prog 80 #[.pointer (some ⟨eb, 0, none⟩), dataV f n sv len cb] ((w0.setCell ⟨eb, 30, none⟩ (.bool true)).alloc o) fun e w' => e = .panicked [{ v := .iface 36 (.int .i64 11), recovered := false }] ∧ R w') := fun w0 o hb0 => by
    obtain ⟨g1, h1, h2⟩ := (h.below hb0).begins
    exact hc _ g1 (ahead_of hb0 h1 h2 ((Below.refl _ _).alloc (Nat.le_refl _) _))
  have HE : Hid (∀ w0, Below w.heap.size w w0 → w0.cell? ⟨eb, 30, none⟩ = some (.bool g.m.begun) ∧ w0.frozen? ⟨eb, 30, none⟩ = false ∧ eb < w0.heap.size) := fun w0 hb0 => ⟨(h.below hb0).en.c30, (h.below hb0).en.fr 30, (h.below hb0).en.lt⟩
  clear h hb hbg hc
  unfold dataV at *
  go_enter Tryz.func66, Tryz.ntmps66
  go_wp2_with fail
  refine HT.out.mono ?_
  rintro e w0 ⟨rfl, hb0⟩
  obtain ⟨k30, f30, hlt⟩ := HE.out w0 hb0
  have HB0 := hide hb0
  clear hb0
  go_wp2_with fail
  refine (HC.out w0 _ HB0.out).mono ?_
  rintro e w' ⟨rfl, hx⟩
  have HX := hide hx
  clear hx
  go_wp2
  exact ⟨rfl, rfl, HX.out⟩
set_option maxRecDepth 100000 in
set_option maxHeartbeats 800000 in
theorem come_headers (f n : Int) (sv : Option Addr) (len cb : Nat) (h : Inv w eb mb g) (hb : g.m.bstream = 0) (hbg : g.m.begun = true) (hc : ∀ w1 g1, Ahead w w1 eb mb g g1 → Calls Tryz.prog 81 #[.pointer (some ⟨eb, 0, none⟩), .agg #[.int .i64 1, .int .i64 f, .int .i64 n, .slice sv len cb, .slice sv len cb]] w1 fun e w' => e = .returned (.tuple #[]) ∧ R w') :
    Calls Tryz.prog 66 #[.pointer (some ⟨eb, 0, none⟩), .iface 158 (.agg #[.int .i64 1, .int .i64 f, .int .i64 n, .slice sv len cb, .slice sv len cb])] w fun e w' => e = .returned (.tuple #[]) ∧ R w' := by
  have hta : ∀ (x : Value) (w : World), (Instr.typeAssert (.iface 158 x) 135 158 true).run Tryz.prog w = .ok (.tuple #[x, .bool true]) w := fun _ _ => by kernel_rfl
  have ht0 : ∀ (x : Value) (w : World), (Instr.typeAssert (.iface 158 x) 135 155 true).run Tryz.prog w = .ok (.tuple #[.agg #[.int .i64 0, .int .i64 0, .int .i64 0, .slice none 0 0, .slice none 0 0], .bool false]) w := fun _ _ => by kernel_rfl
  have HT := hide (checkTurn_ok eb g.m 158 (.agg #[.int .i64 1, .int .i64 f, .int .i64 n, .slice sv len cb, .slice sv len cb]) w h.en (by simp) hb (Or.inl hbg))
  have HC : Hid (∀ w0 o, Below w.heap.size w w0 → Calls Tryz.prog 81 #[.pointer (some ⟨eb, 0, none⟩), .agg #[.int .i64 1, .int .i64 f, .int .i64 n, .slice sv len cb, .slice sv len cb]] ((w0.setCell ⟨eb, 30, none⟩ (.bool true)).alloc o) fun e w' => e = .returned (.tuple #[]) ∧ R w') := fun w0 o hb0 => by
    obtain ⟨g1, h1, h2⟩ := (h.below hb0).begins
    exact hc _ g1 (ahead_of hb0 h1 h2 ((Below.refl _ _).alloc (Nat.le_refl _) _))
  have HE : Hid (∀ w0, Below w.heap.size w w0 → w0.cell? ⟨eb, 30, none⟩ = some (.bool g.m.begun) ∧ w0.frozen? ⟨eb, 30, none⟩ = false ∧ eb < w0.heap.size) := fun w0 hb0 => ⟨(h.below hb0).en.c30, (h.below hb0).en.fr 30, (h.below hb0).en.lt⟩
  clear h hb hbg hc
  skip
  go_enter Tryz.func66, Tryz.ntmps66
  go_wp2_with fail
  refine HT.out.mono ?_
  rintro e w0 ⟨rfl, hb0⟩
  obtain ⟨k30, f30, hlt⟩ := HE.out w0 hb0
  have HB0 := hide hb0
  clear hb0
  go_wp2_with fail
  refine (HC.out w0 _ HB0.out).mono ?_
  rintro e w' ⟨rfl, hx⟩
  have HX := hide hx
  clear hx
  go_wp2
  exact bodyPost_end (results_none rfl _ _ _) rfl ⟨rfl, HX.out⟩
set_option maxRecDepth 100000 in
set_option maxHeartbeats 800000 in
theorem come_reset (f n : Int) (sv : Option Addr) (len cb : Nat) (h : Inv w eb mb g) (hb : g.m.bstream = 0) (hbg : g.m.begun = true) (hc : ∀ w1 g1, Ahead w w1 eb mb g g1 → Calls Tryz.prog 84 #[.pointer (some ⟨eb, 0, none⟩), .agg #[.int .i64 2, .int .i64 f, .int .i64 n, .slice sv len cb]] w1 fun e w' => e = .returned (.tuple #[]) ∧ R w') :
    Calls Tryz.prog 66 #[.pointer (some ⟨eb, 0, none⟩), .iface 164 (.agg #[.int .i64 2, .int .i64 f, .int .i64 n, .slice sv len cb])] w fun e w' => e = .returned (.tuple #[]) ∧ R w' := by
  have hta : ∀ (x : Value) (w : World), (Instr.typeAssert (.iface 164 x) 135 164 true).run Tryz.prog w = .ok (.tuple #[x, .bool true]) w := fun _ _ => by kernel_rfl
  have ht0 : ∀ (x : Value) (w : World), (Instr.typeAssert (.iface 164 x) 135 155 true).run Tryz.prog w = .ok (.tuple #[.agg #[.int .i64 0, .int .i64 0, .int .i64 0, .slice none 0 0, .slice none 0 0], .bool false]) w := fun _ _ => by kernel_rfl
  have ht1 : ∀ (x : Value) (w : World), (Instr.typeAssert (.iface 164 x) 135 158 true).run Tryz.prog w = .ok (.tuple #[.agg #[.int .i64 0, .int .i64 0, .int .i64 0, .slice none 0 0, .slice none 0 0], .bool false]) w := fun _ _ => by kernel_rfl
  have ht2 : ∀ (x : Value) (w : World), (Instr.typeAssert (.iface 164 x) 135 160 true).run Tryz.prog w = .ok (.tuple #[.agg #[.int .i64 0, .int .i64 0, .int .i64 0, .slice none 0 0, .slice none 0 0], .bool false]) w := fun _ _ => by kernel_rfl
  have HT := hide (checkTurn_ok eb g.m 164 (.agg #[.int .i64 2, .int .i64 f, .int .i64 n, .slice sv len cb]) w h.en (by simp) hb (Or.inl hbg))
  have HC : Hid (∀ w0 o, Below w.heap.size w w0 → Calls Tryz.prog 84 #[.pointer (some ⟨eb, 0, none⟩), .agg #[.int .i64 2, .int .i64 f, .int .i64 n, .slice sv len cb]] ((w0.setCell ⟨eb, 30, none⟩ (.bool true)).alloc o) fun e w' => e = .returned (.tuple #[]) ∧ R w') := fun w0 o hb0 => by
    obtain ⟨g1, h1, h2⟩ := (h.below hb0).begins
    exact hc _ g1 (ahead_of hb0 h1 h2 ((Below.refl _ _).alloc (Nat.le_refl _) _))
  have HE : Hid (∀ w0, Below w.heap.size w w0 → w0.cell? ⟨eb, 30, none⟩ = some (.bool g.m.begun) ∧ w0.frozen? ⟨eb, 30, none⟩ = false ∧ eb < w0.heap.size) := fun w0 hb0 => ⟨(h.below hb0).en.c30, (h.below hb0).en.fr 30, (h.below hb0).en.lt⟩
  clear h hb hbg hc
  skip
  go_enter Tryz.func66, Tryz.ntmps66
  go_wp2_with fail
  refine HT.out.mono ?_
  rintro e w0 ⟨rfl, hb0⟩
  obtain ⟨k30, f30, hlt⟩ := HE.out w0 hb0
  have HB0 := hide hb0
  clear hb0
  go_wp2_with fail
  refine (HC.out w0 _ HB0.out).mono ?_
  rintro e w' ⟨rfl, hx⟩
  have HX := hide hx
  clear hx
  go_wp2
  exact bodyPost_end (results_none rfl _ _ _) rfl ⟨rfl, HX.out⟩
set_option maxRecDepth 100000 in
set_option maxHeartbeats 800000 in
theorem come_settings (f nv : Int) (sv : Option Addr) (len cb : Nat) (h : Inv w eb mb g) (hb : g.m.bstream = 0) (hak : hasB f 1 = false) (hf : 0 ≤ f ∧ f ≤ 255) (hc : ∀ w1 g1, Ahead w w1 eb mb g g1 → Calls Tryz.prog 85 #[.pointer (some ⟨eb, 0, none⟩), .agg #[.int .i64 3, .int .i64 f, .int .i64 0, .slice sv len cb, .int .i64 nv]] w1 fun e w' => e = .returned (.tuple #[]) ∧ R w') :
    Calls Tryz.prog 66 #[.pointer (some ⟨eb, 0, none⟩), .iface 167 (.agg #[.int .i64 3, .int .i64 f, .int .i64 0, .slice sv len cb, .int .i64 nv])] w fun e w' => e = .returned (.tuple #[]) ∧ R w' := by
  have hta : ∀ (x : Value) (w : World), (Instr.typeAssert (.iface 167 x) 135 167 true).run Tryz.prog w = .ok (.tuple #[x, .bool true]) w := fun _ _ => by kernel_rfl
  have ht0 : ∀ (x : Value) (w : World), (Instr.typeAssert (.iface 167 x) 135 155 true).run Tryz.prog w = .ok (.tuple #[.agg #[.int .i64 0, .int .i64 0, .int .i64 0, .slice none 0 0, .slice none 0 0], .bool false]) w := fun _ _ => by kernel_rfl
  have ht1 : ∀ (x : Value) (w : World), (Instr.typeAssert (.iface 167 x) 135 158 true).run Tryz.prog w = .ok (.tuple #[.agg #[.int .i64 0, .int .i64 0, .int .i64 0, .slice none 0 0, .slice none 0 0], .bool false]) w := fun _ _ => by kernel_rfl
  have ht2 : ∀ (x : Value) (w : World), (Instr.typeAssert (.iface 167 x) 135 160 true).run Tryz.prog w = .ok (.tuple #[.agg #[.int .i64 0, .int .i64 0, .int .i64 0, .slice none 0 0, .slice none 0 0], .bool false]) w := fun _ _ => by kernel_rfl
  have ht3 : ∀ (x : Value) (w : World), (Instr.typeAssert (.iface 167 x) 135 164 true).run Tryz.prog w = .ok (.tuple #[.agg #[.int .i64 0, .int .i64 0, .int .i64 0, .slice none 0 0], .bool false]) w := fun _ _ => by kernel_rfl
  have HT := hide (checkTurn_ok eb g.m 167 (.agg #[.int .i64 3, .int .i64 f, .int .i64 0, .slice sv len cb, .int .i64 nv]) w h.en (by simp) hb (Or.inr fun w => by
    have := opensTalk_set 3 f 0 sv len cb nv w hf.1 (by omega)
    rw [hak] at this
    exact this))
  have HC : Hid (∀ w0 o, Below w.heap.size w w0 → Calls Tryz.prog 85 #[.pointer (some ⟨eb, 0, none⟩), .agg #[.int .i64 3, .int .i64 f, .int .i64 0, .slice sv len cb, .int .i64 nv]] ((w0.setCell ⟨eb, 30, none⟩ (.bool true)).alloc o) fun e w' => e = .returned (.tuple #[]) ∧ R w') := fun w0 o hb0 => by
    obtain ⟨g1, h1, h2⟩ := (h.below hb0).begins
    exact hc _ g1 (ahead_of hb0 h1 h2 ((Below.refl _ _).alloc (Nat.le_refl _) _))
  have HE : Hid (∀ w0, Below w.heap.size w w0 → w0.cell? ⟨eb, 30, none⟩ = some (.bool g.m.begun) ∧ w0.frozen? ⟨eb, 30, none⟩ = false ∧ eb < w0.heap.size) := fun w0 hb0 => ⟨(h.below hb0).en.c30, (h.below hb0).en.fr 30, (h.below hb0).en.lt⟩
  clear h hb hak hf hc
  skip
  go_enter Tryz.func66, Tryz.ntmps66
  go_wp2_with fail
  refine HT.out.mono ?_
  rintro e w0 ⟨rfl, hb0⟩
  obtain ⟨k30, f30, hlt⟩ := HE.out w0 hb0
  have HB0 := hide hb0
  clear hb0
  go_wp2_with fail
  refine (HC.out w0 _ HB0.out).mono ?_
  rintro e w' ⟨rfl, hx⟩
  have HX := hide hx
  clear hx
  go_wp2
  exact bodyPost_end (results_none rfl _ _ _) rfl ⟨rfl, HX.out⟩
end
end Go.Proofs.YtiphkngfbpdeoaaGreatDoor
