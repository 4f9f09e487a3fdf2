import Derived.Test.YtdccldbefdfppaaGreatDoorQGam
import Derived.Test.YtdccldbefdfppaaGreatDoorQGan
set_option linter.unusedVariables false
set_option linter.unusedSimpArgs false
/-
  Package ends: comeData, of Data that may be padded.
-/
namespace Go.Proofs.YtdccldbefdfppaaGreatDoor
set_option linter.unusedVariables false
set_option linter.unusedSimpArgs false
open Go.RowKit

/-- The value of Data, and its content. -/
def dataP (f n : Int) (sv : Option Addr) (len cb : Nat) (sc : Option Addr) (cl cc : Nat) : Value := .agg #[.int .i64 0, .int .i64 f, .int .i64 n, .slice sv len cb, .slice sc cl cc]
/-- Content is laid down to be read; what pads it is owed. -/
def GSt.morep (s : GSt) (n k : Nat) (c : List UInt8) (e : Bool) : GSt := { s with st := { s.st with receive := s.st.receive - n, owed := s.st.owed + k, hasAll := e }, un := s.un ++ c }
set_option maxRecDepth 100000 in
set_option maxHeartbeats 1200000 in
/-- Data for a stream that is open. -/
theorem comeData_pad (eb mb : Nat) (g : GEnd) (s : GSt) (f : Int) (sv : Option Addr) (len cb : Nat) (sc : Option Addr) (c : List UInt8) (cc k : Nat) (w : World) (h : Inv w eb mb g) (hs : s ∈ g.K) (ha : s.st.announced = true) (hh : s.st.hasAll = false) (hr : s.st.reset = 0) (hf : 0 ≤ f ∧ f ≤ 255) (hcl : ({ s.st with hasAll := hasB f 1 } : StM).closed = false) (hbd : BytesIn w (.slice sc c.length cc) c) (hbn : ∀ j, (Value.slice sc c.length cc).ownBlock = some j → ¬ Foot eb mb g j) (hlk : len = c.length + k) (hlen : len ≤ 1073741824) (hun : s.un.length ≤ 1073741824) (hfl : len = 0 ∨ ((len : Int) ≤ g.m.receive ∧ (len : Int) ≤ g.m.own + s.st.receive))
    (b1 : -1099511627776 ≤ g.m.receive ∧ g.m.receive ≤ 1099511627776) (b2 : -1099511627776 ≤ g.m.owed ∧ g.m.owed ≤ 1099511627776) (b3 : 0 ≤ g.m.count ∧ g.m.count ≤ 1099511627776) (b4 : -1099511627776 ≤ g.m.own ∧ g.m.own ≤ 1099511627776) (b5 : -1099511627776 ≤ s.st.receive ∧ s.st.receive ≤ 1099511627776) (b6 : -1099511627776 ≤ s.st.owed ∧ s.st.owed ≤ 1099511627776) :
    Calls Tryz.prog 95 #[.pointer (some ⟨eb, 0, none⟩), dataP f s.st.number sv len cb sc c.length cc] w fun e w' => e = .returned (.tuple #[]) ∧ ∃ g', g'.bare = ({ g with m := (g.m.got_ len).owes k, K := updN s.st.number (fun s => s.morep len k c (hasB f 1)) g.K } : GEnd).bare ∧ Next w w' eb mb g g' := by
  have hbA : Below w.heap.size w (w.alloc (.cells #[.int .i64 0, .int .i64 f, .int .i64 s.st.number, .slice sv len cb, .slice sc c.length cc] 162)) := (Below.refl _ _).alloc (Nat.le_refl _) _
  have hnew := heap_alloc_new w (.cells #[.int .i64 0, .int .i64 f, .int .i64 s.st.number, .slice sv len cb, .slice sc c.length cc] 162)
  obtain ⟨wA, hwA⟩ : ∃ wA, wA = w.alloc (.cells #[.int .i64 0, .int .i64 f, .int .i64 s.st.number, .slice sv len cb, .slice sc c.length cc] 162) := ⟨_, rfl⟩
  have hA := h.below hbA
  have han := announced_any eb mb g.m _ s.st.number _ hA.en h.km hA.kn
  rw [hA.find hs] at han
  simp only [GSt.str, ha, if_true] at han
  have hir := isReset_any s.sb s.st _ (hA.st hs)
  rw [show (!(s.st.reset == 0)) = false from by rw [hr]; rfl] at hir
  rw [← hwA] at hbA hA han hir hnew
  have HAN := hide han
  have HIR := hide hir
  have HRW := hide (receiveWindow_any eb s.sb g.m s.st wA hA.en (hA.st hs) (by omega) (by omega) (by omega) (by omega))
  have k9 := (hA.st hs).c9
  rw [hh] at k9
  have k10 := (hA.st hs).c10
  rw [hr] at k10
  have n2 : wA.cell? ⟨w.heap.size, 2, none⟩ = some (.int .i64 s.st.number) := by rw [cell_of_row _ _ _ _ _ _ hnew]; rfl
  have n3 : wA.cell? ⟨w.heap.size, 3, none⟩ = some (.slice sv len cb) := by rw [cell_of_row _ _ _ _ _ _ hnew]; rfl
  obtain ⟨b1a, b1b⟩ := b1
  obtain ⟨b2a, b2b⟩ := b2
  obtain ⟨hq1, hq2, hq3, hq4, hq5, hq6, hq7, hq8⟩ := counted_same { g.m with receive := g.m.receive - len } len
  have hsne := hA.st_eb hs
  -- behind the checks: at a world that is wA but for new blocks
  have HCELL : Hid (∀ wx, Below wA.heap.size wA wx → wx.cell? ⟨eb, 5, none⟩ = some (.int .i64 g.m.receive) ∧ wx.frozen? ⟨eb, 5, none⟩ = false ∧ (Calls Tryz.prog 129 #[.pointer (some ⟨eb, 13, none⟩), .int .i64 len] (wx.setCell ⟨eb, 5, none⟩ (.int .i64 (g.m.receive - len))) fun e w' => e = .returned (.tuple #[]) ∧ EnB w' eb (g.m.got_ len) ∧ Chg (fun j => j = eb) wA w')) := fun wx hx => by
    have hX := hA.below hx
    refine ⟨hX.en.c5, hX.en.fr 5, ?_⟩
    have hen5 : EnB (wx.setCell ⟨eb, 5, none⟩ (.int .i64 (g.m.receive - len))) eb { g.m with receive := g.m.receive - len } := EnB.of (blk_set hX.en.blk) rfl
    refine (tcount_any eb { g.m with receive := g.m.receive - len } len _ hen5 b3.1 (by have := b3.2; show g.m.count ≤ _; omega) (by omega) (by omega)).mono ?_
    rintro e w' ⟨h1, h2, h3⟩
    exact ⟨h1, h2, (chg_set (S := fun j => j = eb) (Chg.of_below hx) rfl).trans (h3.mono fun j _ e => Or.inr e)⟩
  have HIR2 : Hid (∀ w1, Chg (fun j => j = eb) wA w1 → Calls Tryz.prog 73 #[.pointer (some ⟨s.sb, 0, none⟩)] w1 fun e w' => e = .returned (.bool false) ∧ w' = w1) := fun w1 hc => by
    have := isReset_any s.sb s.st w1 ((hA.st hs).chg hc hsne)
    rw [show (!(s.st.reset == 0)) = false from by rw [hr]; rfl] at this
    exact this
  have HBOX : Hid (∀ w1, Chg (fun j => j = eb) wA w1 → w1.heap[w.heap.size]? = some (.cells #[.int .i64 0, .int .i64 f, .int .i64 s.st.number, .slice sv len cb, .slice sc c.length cc] 162 (0, 0))) := fun w1 hc => by
    rw [hc.block _ (lt_of_block hnew) (by have := h.en.lt; omega)]
    exact hnew
  have HKEEP : Hid (∀ w1, EnB w1 eb (g.m.got_ len) → Chg (fun j => j = eb) wA w1 → Calls Tryz.prog 130 #[.pointer (some ⟨eb, 0, none⟩), .pointer (some ⟨s.sb, 0, none⟩), .agg #[.int .i64 0, .int .i64 f, .int .i64 s.st.number, .slice sv len cb, .slice sc c.length cc]] w1 fun e w' => e = .returned (.tuple #[]) ∧ ∃ g', g'.bare = ({ g with m := (g.m.got_ len).owes k, K := updN s.st.number (fun s => s.morep len k c (hasB f 1)) g.K } : GEnd).bare ∧ Next w w' eb mb g g') := fun w1 he hc => by
    have hs1 := (hA.st hs).chg hc hsne
    have hu1 := owns_chg (hA.un s hs) hc (fun j hj e => by rw [e] at hj; exact owns_ne (hA.un s hs) hA.en.blk (by decide) hj)
    have hcw : Chg (fun j => j = eb) w w1 := (Chg.of_below hbA).trans (hc.mono fun j _ e => Or.inr e)
    have hby1 : BytesIn w1 (.slice sc c.length cc) c := hbd.chg hcw (fun j hj e => hbn j hj (Or.inl e))
    refine (keep_any eb s.sb (g.m.got_ len) s.st s.un c 0 f s.st.number sv len k cb sc cc w1 he hs1 hu1 hby1 (fun j hj => ⟨fun e => hbn j hj (Or.inl e), fun e => hbn j hj (by rw [e]; exact h.foot_st hs)⟩) hlk hf hcl hun (by omega) (by omega) (by rw [show (g.m.got_ len).owed = g.m.owed from hq7]; omega) (by omega) (by omega)).mono ?_
    rintro e w' ⟨rfl, v, hk⟩
    refine ⟨rfl, ?_⟩
    have hen' : EnB w' eb ((g.m.got_ len).owes k) := hk.en
    have hcc : Chg (fun j => j = eb ∨ j = s.sb ∨ s.st.unread.ownBlock = some j) w w' := (hcw.mono fun j _ e => Or.inl e).trans (hk.chg.mono fun j _ e => Or.inr e)
    have keep : ∀ {k : Nat} {v' : Value} {xs : List Value} {ty : TypeId}, w.ownsRow 0 ty 1 v' k xs → (∀ j, v'.ownBlock = some j → j ≠ eb ∧ j ≠ s.sb ∧ s.st.unread.ownBlock ≠ some j) → w'.ownsRow 0 ty 1 v' k xs := fun hr hj => owns_chg hr hcc (fun j hjj e => by
      obtain ⟨a, b, c⟩ := hj j hjj
      rcases e with e | e | e
      · exact a e
      · exact b e
      · exact c e)
    refine ⟨_, ?_, h.onSt (S := fun j => j = eb ∨ j = s.sb ∨ s.st.unread.ownBlock = some j) (m' := (g.m.got_ len).owes k) (s := s) (s' := ⟨s.sb, s.st.kept len k v (hasB f 1), s.un ++ c, s.wa⟩) (L' := g.L) (o' := g.out) (3 + 2 * s.sb) hs hcc ?_ hen' hk.st rfl rfl hq1 hq3 hq5 hq6 ?_ (fun j hj => Or.inl (by rw [← hq2]; exact hj)) (List.Sublist.refl _) ?_ (fun j hj => Or.inl (by rw [← hq4]; exact hj)) hk.row ?_ ?_ (fun j hj => Or.inl hj)⟩
    · unfold GEnd.bare
      simp only [GEnd.mk.injEq, true_and, and_true]
      rw [updN, updN, List.map_map, List.map_map]
      apply List.map_congr_left
      intro x hx
      show (if x.st.number = s.st.number then _ else x).bare = (if x.st.number = s.st.number then _ else x).bare
      by_cases e : x.st.number = s.st.number
      · rw [if_pos e, if_pos e, inj_nd (fun s : GSt => s.st.number) h.nn hx hs e]
        unfold GSt.bare GSt.morep StM.bare StM.kept
        simp
      · rw [if_neg e, if_neg e]
    · rintro j (e | e | e)
      · exact Or.inl e
      · exact Or.inr (Or.inl e)
      · exact Or.inr (Or.inr (Or.inr (Or.inr (Or.inl e))))
    · rw [show ((g.m.got_ len).owes k).opn = g.m.opn from hq2]
      exact keep h.row (fun j hj => ⟨fun e => by rw [e] at hj; exact owns_ne h.row h.en.blk (by decide) hj, fun e => by rw [e] at hj; exact owns_ne h.row (h.st hs).blk (by decide) hj, fun e => rows_ne (h.un s hs) h.row (by decide) e hj⟩)
    · rw [show ((g.m.got_ len).owes k).out = g.m.out from hq4]
      exact keep h.out (fun j hj => ⟨fun e => by rw [e] at hj; exact owns_ne h.out h.en.blk (by decide) hj, fun e => by rw [e] at hj; exact owns_ne h.out (h.st hs).blk (by decide) hj, fun e => h.out_un hs e hj⟩)
    · intro j hj
      rcases hk.fresh j hj with a | a
      · exact Or.inl a
      · exact Or.inr ⟨Nat.le_trans hcw.size a, rfl⟩
    · exact keep (h.wa s hs) (fun j hj => ⟨fun e => by rw [e] at hj; exact owns_ne (h.wa s hs) h.en.blk (by decide) hj, fun e => by rw [e] at hj; exact owns_ne (h.wa s hs) (h.st hs).blk (by decide) hj, fun e => h.un_wa hs hs e hj⟩)
  have hlt : eb < wA.heap.size := hA.en.lt
  have hw1 : IntKind.i64.wrap (g.m.receive - (len : Int)) = g.m.receive - len := by rw [IntKind.wrap_i64]; omega
  have HWA := hide hwA
  have k5 := hA.en.c5
  clear h hA han hir hbA hnew hq1 hq2 hq3 hq4 hq5 hq6 hq7 hq8 b3 hbd hbn hlk
  unfold dataP
  go_enter Tryz.func95, Tryz.ntmps95
  go_wp2_with fail
  rw [← HWA.out]
  clear hwA
  refine HAN.out.mono ?_
  rintro e w' ⟨hw', rfl⟩
  rw [hw']
  clear hw' w'
  by_cases hz : len = 0
  · have hge : ((1 : Int) ≤ (len : Int)) = False := eq_false (by omega)
    clear hz hfl
    obtain ⟨-, f5, htc⟩ := HCELL.out wA (Below.refl _ _)
    have HTC := hide htc
    clear htc
    go_wp2_with fail
    refine HTC.out.mono ?_
    rintro e w1 ⟨rfl, he1, hc1⟩
    have HI2 := hide (HIR2.out w1 hc1)
    have HK := hide (HKEEP.out w1 he1 hc1)
    have hbx := HBOX.out w1 hc1
    have q0 : w1.cell? ⟨w.heap.size, 0, none⟩ = some (.int .i64 0) := by rw [cell_of_row _ _ _ _ _ _ hbx]; rfl
    have q1 : w1.cell? ⟨w.heap.size, 1, none⟩ = some (.int .i64 f) := by rw [cell_of_row _ _ _ _ _ _ hbx]; rfl
    have q2 : w1.cell? ⟨w.heap.size, 2, none⟩ = some (.int .i64 s.st.number) := by rw [cell_of_row _ _ _ _ _ _ hbx]; rfl
    have q3 : w1.cell? ⟨w.heap.size, 3, none⟩ = some (.slice sv len cb) := by rw [cell_of_row _ _ _ _ _ _ hbx]; rfl
    have q4 : w1.cell? ⟨w.heap.size, 4, none⟩ = some (.slice sc c.length cc) := by rw [cell_of_row _ _ _ _ _ _ hbx]; rfl
    clear he1 hc1 hbx
    go_wp2_with fail
    refine HI2.out.mono ?_
    rintro e w' ⟨rfl, hw'⟩
    rw [hw']
    clear hw' w'
    go_wp2_with fail
    refine HK.out.mono ?_
    rintro e w' ⟨rfl, hx⟩
    have HX := hide hx
    clear hx
    go_wp2
    exact bodyPost_end (results_none rfl _ _ _) rfl ⟨rfl, HX.out⟩
  · have hge : ((1 : Int) ≤ (len : Int)) = True := eq_true (by omega)
    have hgt : ((g.m.receive : Int) < (len : Int)) = False := eq_false (by omega)
    have hgt2 : (g.m.own + s.st.receive < (len : Int)) = False := eq_false (by omega)
    clear hz hfl
    go_wp2_with fail
    refine HIR.out.mono ?_
    rintro e w' ⟨rfl, hw'⟩
    rw [hw']
    clear hw' w'
    go_wp2_with fail
    refine HRW.out.mono ?_
    rintro e wB ⟨rfl, hbB⟩
    obtain ⟨k5B, f5, htc⟩ := HCELL.out wB hbB
    have HTC := hide htc
    clear htc
    go_wp2_with fail
    refine HTC.out.mono ?_
    rintro e w1 ⟨rfl, he1, hc1⟩
    have HI2 := hide (HIR2.out w1 hc1)
    have HK := hide (HKEEP.out w1 he1 hc1)
    have hbx := HBOX.out w1 hc1
    have q0 : w1.cell? ⟨w.heap.size, 0, none⟩ = some (.int .i64 0) := by rw [cell_of_row _ _ _ _ _ _ hbx]; rfl
    have q1 : w1.cell? ⟨w.heap.size, 1, none⟩ = some (.int .i64 f) := by rw [cell_of_row _ _ _ _ _ _ hbx]; rfl
    have q2 : w1.cell? ⟨w.heap.size, 2, none⟩ = some (.int .i64 s.st.number) := by rw [cell_of_row _ _ _ _ _ _ hbx]; rfl
    have q3 : w1.cell? ⟨w.heap.size, 3, none⟩ = some (.slice sv len cb) := by rw [cell_of_row _ _ _ _ _ _ hbx]; rfl
    have q4 : w1.cell? ⟨w.heap.size, 4, none⟩ = some (.slice sc c.length cc) := by rw [cell_of_row _ _ _ _ _ _ hbx]; rfl
    clear he1 hc1 hbx
    go_wp2_with fail
    refine HI2.out.mono ?_
    rintro e w' ⟨rfl, hw'⟩
    rw [hw']
    clear hw' w'
    go_wp2_with fail
    refine HK.out.mono ?_
    rintro e w' ⟨rfl, hx⟩
    have HX := hide hx
    clear hx
    go_wp2
    exact bodyPost_end (results_none rfl _ _ _) rfl ⟨rfl, HX.out⟩
section
variable (eb mb : Nat) (g : GEnd) (w : World) (R : World → Prop)
set_option maxRecDepth 100000 in
set_option maxHeartbeats 800000 in
theorem come_dataP (f n : Int) (sv : Option Addr) (len cb : Nat) (sc : Option Addr) (cl cc : Nat) (h : Inv w eb mb g) (hb : g.m.bstream = 0) (hbg : g.m.begun = true) (hc : ∀ w1 g1, Ahead w w1 eb mb g g1 → Calls Tryz.prog 95 #[.pointer (some ⟨eb, 0, none⟩), dataP f n sv len cb sc cl cc] w1 fun e w' => e = .returned (.tuple #[]) ∧ R w') :
    Calls Tryz.prog 69 #[.pointer (some ⟨eb, 0, none⟩), .iface 162 (dataP f n sv len cb sc cl cc)] w fun e w' => e = .returned (.tuple #[]) ∧ R w' := by
  have hta : ∀ (x : Value) (w : World), (Instr.typeAssert (.iface 162 x) 140 162 true).run Tryz.prog w = .ok (.tuple #[x, .bool true]) w := fun _ _ => by kernel_rfl
  have HT := hide (checkTurn_ok eb g.m 162 (dataP f n sv len cb sc cl cc) w h.en (by simp) hb (Or.inl hbg))
  have HC : Hid (∀ w0 o, Below w.heap.size w w0 → Calls Tryz.prog 95 #[.pointer (some ⟨eb, 0, none⟩), dataP f n sv len cb sc cl cc] ((w0.setCell ⟨eb, 30, none⟩ (.bool true)).alloc o) fun e w' => e = .returned (.tuple #[]) ∧ R w') := fun w0 o hb0 => by
    obtain ⟨g1, h1, h2⟩ := (h.below hb0).begins
    exact hc _ g1 (ahead_of hb0 h1 h2 ((Below.refl _ _).alloc (Nat.le_refl _) _))
  have HE : Hid (∀ w0, Below w.heap.size w w0 → w0.cell? ⟨eb, 30, none⟩ = some (.bool g.m.begun) ∧ w0.frozen? ⟨eb, 30, none⟩ = false ∧ eb < w0.heap.size) := fun w0 hb0 => ⟨(h.below hb0).en.c30, (h.below hb0).en.fr 30, (h.below hb0).en.lt⟩
  clear h hb hbg hc
  unfold dataP at *
  go_enter Tryz.func69, Tryz.ntmps69
  go_wp2_with fail
  refine HT.out.mono ?_
  rintro e w0 ⟨rfl, hb0⟩
  obtain ⟨k30, f30, hlt⟩ := HE.out w0 hb0
  have HB0 := hide hb0
  clear hb0
  go_wp2_with fail
  refine (HC.out w0 _ HB0.out).mono ?_
  rintro e w' ⟨rfl, hx⟩
  have HX := hide hx
  clear hx
  go_wp2
  exact bodyPost_end (results_none rfl _ _ _) rfl ⟨rfl, HX.out⟩
end
/-- The content of padded Data, as it lies in the body. -/
theorem cut_in {w : World} {f : Int} {bv cv : Value} {b : List UInt8} (hp : hasB f 8 = true) (hb : BytesIn w bv b) (hc : ContV f bv cv b) (h1 : 1 ≤ b.length) : ∃ sc cc, cv = .slice sc (cutB f b).length cc ∧ BytesIn w cv (cutB f b) ∧ ∀ j, cv.ownBlock = some j → bv.ownBlock = some j := by
  unfold ContV at hc
  rw [hp] at hc
  simp only [if_true] at hc
  obtain ⟨g, off, cap, rfl, o, rfl, ho⟩ := hc
  rcases hb with ⟨e, -⟩ | ⟨bb, off', cap', e, h2, h3, h4⟩
  · cases e
  · simp only [Value.slice.injEq, Option.some.injEq, Addr.mk.injEq, true_and, and_true] at e
    obtain ⟨⟨rfl, rfl⟩, rfl⟩ := e
    have hl : (cutB f b).length ≤ b.length - 1 := by
      unfold cutB
      rw [hp]
      simp
    refine ⟨_, _, rfl, Or.inr ⟨g, o, cap - 1, rfl, h2, by omega, fun i hi => ?_⟩, fun j hj => by simpa [Value.ownBlock] using hj⟩
    rw [ho (by omega), show off + 1 + i = off + (1 + i) from by omega, h4 (1 + i) (by omega)]
    have e2 : (cutB f b).getD i 0 = b.getD (1 + i) 0 := by
      have hi2 := hi
      unfold cutB at hi2 ⊢
      rw [hp] at hi2 ⊢
      simp only [if_true, List.length_take, List.length_drop] at hi2 ⊢
      simp only [List.getD_eq_getElem?_getD]
      rw [List.getElem?_take_of_lt (by omega), List.getElem?_drop]
    rw [e2]
end Go.Proofs.YtdccldbefdfppaaGreatDoor
