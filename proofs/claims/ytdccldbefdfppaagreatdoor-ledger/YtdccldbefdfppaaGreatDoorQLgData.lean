import Derived.Test.YtdccldbefdfppaaGreatDoorQGav
import Derived.Test.YtdccldbefdfppaaGreatDoorQGax
import Derived.BigRegion
set_option linter.unusedVariables false
set_option linter.unusedSimpArgs false
/-
  Ledger: data.
-/
namespace Go.Proofs.YtdccldbefdfppaaGreatDoor
set_option linter.unusedVariables false
set_option linter.unusedSimpArgs false
open Go.RowKit

set_option maxHeartbeats 400000 in
theorem lflag_any (k s : Int) (e : Bool) (sa : Option Addr) (n cap : Nat) (w : World) :
    Calls Tryz.prog 45 #[.agg #[.int .i64 k, .int .i64 (if e then 1 else 0), .int .i64 s, .slice sa n cap], .int .i64 1] w fun r w' => r = .returned (.bool e) ∧ Below w.heap.size w w' := by
  cases e
  all_goals simp only [Bool.false_eq_true, if_false, if_true]
  all_goals go_enter Tryz.func45, Tryz.ntmps45
  all_goals go_wp2
  all_goals go_ret
  all_goals exact ⟨rfl, (Below.refl _ _).alloc (Nat.le_refl _) _⟩
theorem extract_l (l : List UInt8) (a m : Nat) : (⟨l.toArray⟩ : ByteArray).extract a (a + m) = ⟨((l.drop a).take m).toArray⟩ := by
  apply ByteArray.ext
  rw [ByteArray.data_extract]
  apply Array.ext'
  simp [List.take_drop]
theorem LIn.drew {w : World} {ab eb : Nat} {F : Nat → Prop} {fv : Value} {a : LAcc} {p : GEnd} (h : LIn w ab eb F fv a p) : LIn w.drew ab eb F fv a p := h.below (Below.drew (Below.refl _ _))
set_option maxRecDepth 100000 in
set_option maxHeartbeats 6400000 in
theorem ldata_f (ab eb : Nat) (F : Nat → Prop) (fv : Value) (a a' : LAcc) (p : GEnd) (f : Fr) (sb : Option Addr) (cb : Nat) (w : World) (i : Nat) (x : LFlow) (h : LIn w ab eb F fv a p) (hb : LBd a) (h1 : LNum a) (hx : a.fl[i]? = some x) (hs : x.s = f.stream) (hov : x.over = false) (h64 : f.body.length ≤ 64) (hwr : 0 < f.body.length → (f.body.length : Int) ≤ a.win x ∧ (f.body.length : Int) ≤ a.room) (hbo : f.body = (x.wr.drop x.sent).take f.body.length) (hle : x.sent + f.body.length ≤ x.wr.length) (hE : (x.closed && decide (x.sent + f.body.length = x.wr.length)) = false) (hfl : f.flags = 0) (ha : a' = { a with fl := a.fl.set i { x with sent := x.sent + f.body.length, over := false }, sent := a.sent + f.body.length }) (hby : BytesIn w (.slice sb f.body.length cb) f.body) :
    Calls Tryz.prog 23 #[.pointer (some ⟨ab, 0, none⟩), .agg #[.int .i64 f.kind, .int .i64 f.flags, .int .i64 f.stream, .slice sb f.body.length cb]] w fun e w' => e = .returned (.bool true) ∧ LIn w' ab eb F fv a' p ∧ Chg (fun j => j = ab ∨ fv.ownBlock = some j) w w' := by
  obtain ⟨kk, ff, ss, bd⟩ := f
  simp only at hs h64 hwr hbo hle hE hfl ha hby ⊢
  obtain ⟨n, hnl⟩ : ∃ n, n = bd.length := ⟨_, rfl⟩
  rw [← hnl] at h64 hwr hbo hle hE ha hby ⊢
  have HNL := hide hnl
  clear hnl
  obtain ⟨g, cap, hFA⟩ := h.fl.at hx
  have hm := hb.fl x (List.mem_of_getElem? hx)
  have hse := hb.se
  have b8 := hb.n
  obtain ⟨w0, hw0⟩ : ∃ w0, w0 = w.alloc (.cells #[.int .i64 kk, .int .i64 ff, .int .i64 ss, .slice sb n cb] 48) := ⟨_, rfl⟩
  have hfr0 : w0.heap[w.heap.size]? = some (.cells #[.int .i64 kk, .int .i64 ff, .int .i64 ss, .slice sb n cb] 48 (0, 0)) := by rw [hw0]; exact heap_alloc_new w _
  have hb0 : Below w.heap.size w w0 := by rw [hw0]; exact (Below.refl _ _).alloc (Nat.le_refl _) _
  have hin0 := h.below hb0
  obtain ⟨-, -, r2, r3, -⟩ := frame_block hfr0
  have HFI := hide (lfind_any ab _ fv a i x w0 hin0.ac hin0.fl hx (fun j y hj hy e => by have := h1 j i y x hy hx e; omega) hb)
  rw [hs] at HFI
  obtain ⟨w1, hw1⟩ : ∃ w1, w1 = w0.alloc (.cells #[.int .i64 x.s, .int .i64 x.credit, .string ⟨x.wr.toArray⟩, .int .i64 x.sent, .bool x.closed, .bool false] 56) := ⟨_, rfl⟩
  have hxb1 : w1.heap[w0.heap.size]? = some (.cells #[.int .i64 x.s, .int .i64 x.credit, .string ⟨x.wr.toArray⟩, .int .i64 x.sent, .bool x.closed, .bool false] 56 (0, 0)) := by rw [hw1]; exact heap_alloc_new w0 _
  have hb1 : Below w0.heap.size w0 w1 := by rw [hw1]; exact (Below.refl _ _).alloc (Nat.le_refl _) _
  have hin1 := hin0.below hb1
  have hfr1 := kept_told hfr0 hb1
  have HWI := hide (fun wx (hbx : Below w1.heap.size w1 wx) => lwindow_any ab _ fv a i x wx (hin1.below hbx).ac (hin1.below hbx).fl hx hb)
  have HRO := hide (fun wx (hbx : Below w1.heap.size w1 wx) => lroom_any ab _ fv a wx (hin1.below hbx).ac hb)
  obtain ⟨u0, u1, u2, u3, -⟩ := frame_block hfr1
  have c5 : w0.cell? ⟨ab, 5, none⟩ = some (.slice (some ⟨g, 0, none⟩) a.fl.length cap) := by rw [hin0.ac.c5, hFA.eq]
  have hF0 := hin0.fl.cells hFA.eq hx
  have q0 := hF0.f0
  have q1 := hF0.f1
  have q2 : w0.cell? ⟨g, i * 6 + 2, none⟩ = some (.string ⟨x.wr.toArray⟩) := hF0.f2
  have q3 := hF0.f3
  have q4 := hF0.f4
  have q5 := hF0.f5
  have hlt := hFA.lt
  have i1 : (0 : Int) ≤ (i : Int) := by omega
  have i2 : (i : Int) < (a.fl.length : Int) := by omega
  have i3 : ((i : Int) < 0) = False := eq_false (by omega)
  have hby1 : BytesIn w1 (.slice sb n cb) bd := (hby.chg (Chg.of_below (S := fun _ => False) hb0) (fun _ _ => id)).chg (Chg.of_below (S := fun _ => False) hb1) (fun _ _ => id)
  have htk : bd = (x.wr.drop x.sent).take n := hbo
  have hsl : (⟨x.wr.toArray⟩ : ByteArray).extract x.sent (x.sent + n) = ⟨bd.toArray⟩ := by rw [extract_l, ← hbo]
  have HH := hide h
  have HIN1 := hide hin1
  have HB01 : Hid (Below w.heap.size w w1) := hb0.trans (hb1.mono hb0.size)
  have HFR1 := hide hfr1
  have HXB1 := hide hxb1
  have HBY1 := hide hby1
  have HW0 := hide hw0
  have HW1 := hide hw1
  have HHX := hide hx
  have HFA := hide hFA.eq
  have HA := hide ha
  have HOV := hide hov
  have htz : (ByteArray.mk x.wr.toArray).size = x.wr.length := by simp [ByteArray.size]
  rw [hov] at q5
  have HFLG : Hid (∀ wx, Calls Tryz.prog 45 #[.agg #[.int .i64 kk, .int .i64 ff, .int .i64 ss, .slice sb n cb], .int .i64 1] wx fun r w' => r = .returned (.bool false) ∧ Below wx.heap.size wx w') := fun wx => by
    have := lflag_any kk ss false sb n cb wx
    simp only [Bool.false_eq_true, if_false, if_true] at this
    rw [hfl]
    exact this
  have HE := hide hE
  clear h hb hby hx hFA hfr0 hb0 hin0 hxb1 hb1 hin1 hfr1 hw0 hw1 hF0 hbo hs ha hby1 h1 htk hov hfl hE
  go_enter Tryz.func23, Tryz.ntmps23
  go_upto_region 1 with fail
  rw [← HW0.out]
  go_wp2_with fail
  refine HFI.out.mono ?_
  rintro e w' ⟨rfl, hw'⟩
  rw [hw']
  clear hw' w'
  go_upto_region 5 with fail
  rw [← HW1.out]
  clear q0 q1 q2 q3 q4 q5 c5 r2 r3
  go_wp2_with fail
  refine (HWI.out _ (Below.refl _ _)).mono ?_
  rintro e w2 ⟨rfl, hb2⟩
  have HB2 := hide hb2
  clear hb2
  go_wp2_with fail
  refine (HRO.out w2 HB2.out).mono ?_
  rintro e w3 ⟨rfl, hb3⟩
  have hb13 : Below w1.heap.size w1 w3 := HB2.out.trans (hb3.mono HB2.out.size)
  have hfr3 := kept_told HFR1.out hb13
  have hxb3 := kept_told HXB1.out hb13
  have HIN3 := hide (HIN1.out.below hb13)
  have HBY3 : Hid (BytesIn w3 (.slice sb n cb) bd) := HBY1.out.chg (Chg.of_below (S := fun _ => False) hb13) (fun _ _ => id)
  have HB03 : Hid (Below w.heap.size w w3) := HB01.out.trans (hb13.mono HB01.out.size)
  obtain ⟨v0, v1, v2, v3, -⟩ := frame_block hfr3
  have y2 : w3.cell? ⟨w0.heap.size, 2, none⟩ = some (.string ⟨x.wr.toArray⟩) := by rw [cell_of_row _ _ _ _ _ _ hxb3]; rfl
  have y3 : w3.cell? ⟨w0.heap.size, 3, none⟩ = some (.int .i64 x.sent) := by rw [cell_of_row _ _ _ _ _ _ hxb3]; rfl
  have y4 : w3.cell? ⟨w0.heap.size, 4, none⟩ = some (.bool x.closed) := by rw [cell_of_row _ _ _ _ _ _ hxb3]; rfl
  have y5 : w3.cell? ⟨w0.heap.size, 5, none⟩ = some (.bool false) := by rw [cell_of_row _ _ _ _ _ _ hxb3]; rfl
  have HFR3 := hide hfr3
  have HXB3 := hide hxb3
  clear hb3 hb13 hfr3 hxb3 u0 u1 u2 u3 HB2 HIN1 HBY1 HFR1 HXB1 HWI HRO HFI HB01
  obtain ⟨m1, m2, m3, m4⟩ := hm
  have hwL : IntKind.i64.wrap ((x.wr.length : Int) - (x.sent : Int)) = (x.wr.length : Int) - (x.sent : Int) := by rw [IntKind.wrap_i64]; omega
  have k64 : ((64 : Int) < (n : Int)) = False := eq_false (by omega)
  have kLe : ((x.wr.length : Int) - (x.sent : Int) < (n : Int)) = False := eq_false (by omega)
  have HHX3 : Hid (a.fl[i]? = some x) := HHX.out
  generalize a.win x = WI at *
  generalize a.room = RO at *
  go_upto_region 8 with fail
  go_cut [61] (fun s61 wx => s61 = .bool false ∧ wx = w3)
  case first =>
    by_cases h0 : 0 < n
    · obtain ⟨z1, z2⟩ := hwr h0
      have e0 : ((0 : Int) < (n : Int)) = True := eq_true (by omega)
      have e1 : (WI < (n : Int)) = False := eq_false (by omega)
      have e2 : (RO < (n : Int)) = False := eq_false (by omega)
      clear hwr z1 z2
      go_wp2_with fail
      go_meet
      exact ⟨rfl, rfl⟩
    · have e0 : ((0 : Int) < (n : Int)) = False := eq_false (by omega)
      clear hwr
      go_wp2_with fail
      go_meet
      exact ⟨rfl, rfl⟩
  case rest =>
    obtain ⟨hs, hw⟩ := hcut
    subst hs
    rw [hw]
    clear hw hwr
    go_wp2_with fail
    refine (HFLG.out _).mono ?_
    rintro e w4 ⟨rfl, hb4⟩
    have hfr4 := kept_told HFR3.out hb4
    have hxb4 := kept_told HXB3.out hb4
    have HIN4 := hide (HIN3.out.below hb4)
    have hby4 : BytesIn w4 (.slice sb n cb) bd := HBY3.out.chg (Chg.of_below (S := fun _ => False) hb4) (fun _ _ => id)
    have HB04 : Hid (Below w.heap.size w w4) := HB03.out.trans (hb4.mono HB03.out.size)
    obtain ⟨-, -, -, t3, -⟩ := frame_block hfr4
    have t3d : w4.drew.cell? ⟨w.heap.size, 3, none⟩ = some (.slice sb n cb) := t3
    have z2 : w4.cell? ⟨w0.heap.size, 2, none⟩ = some (.string ⟨x.wr.toArray⟩) := by rw [cell_of_row _ _ _ _ _ _ hxb4]; rfl
    have z3 : w4.cell? ⟨w0.heap.size, 3, none⟩ = some (.int .i64 x.sent) := by rw [cell_of_row _ _ _ _ _ _ hxb4]; rfl
    have z4 : w4.cell? ⟨w0.heap.size, 4, none⟩ = some (.bool x.closed) := by rw [cell_of_row _ _ _ _ _ _ hxb4]; rfl
    have z2d : w4.drew.cell? ⟨w0.heap.size, 2, none⟩ = some (.string ⟨x.wr.toArray⟩) := z2
    have z3d : w4.drew.cell? ⟨w0.heap.size, 3, none⟩ = some (.int .i64 x.sent) := z3
    have z4d : w4.drew.cell? ⟨w0.heap.size, 4, none⟩ = some (.bool x.closed) := z4
    have hcv : (convert 44 9 (.slice sb n cb)).run Tryz.prog w4.drew = .ok (.string ⟨bd.toArray⟩) w4.drew := conv_str (hby4.chg (Chg.of_below (S := fun _ => False) (Below.drew (Below.refl _ _))) (fun _ _ => id))
    have HXB4 := hide hxb4
    have hcases : x.closed = false ∨ (x.closed = true ∧ (((x.sent : Int) + (n : Int) == (x.wr.length : Int)) = false)) := by
      have hE := HE.out
      cases hc : x.closed with
      | false => first | exact Or.inl rfl | (rw [hc] at hE; simp at hE)
      | true =>
        rw [hc] at hE
        first
          | exact ⟨rfl, by simp at hE ⊢; omega⟩
          | exact Or.inr ⟨rfl, by simp at hE ⊢; omega⟩
    have wz : IntKind.i64.wrap ((x.sent : Int) + (n : Int)) = (x.sent : Int) + (n : Int) := by rw [IntKind.wrap_i64]; omega
    have iz1 : (0 : Int) ≤ (x.sent : Int) := by omega
    have iz2 : (x.sent : Int) ≤ (x.sent : Int) + (n : Int) := by omega
    have iz3 : (x.sent : Int) + (n : Int) ≤ (x.wr.length : Int) := by omega
    have HHE := hide HE.out
    clear HE hb4 hfr4 hxb4 hby4 v0 v1 v2 v3 y2 y3 y4 y5 HFLG k64 kLe hwL
    go_upto_region 11 with fail
    go_cut [92] (fun s92 wx => s92 = .bool false ∧ wx = w4.drew)
    case first =>
      rcases hcases with e1 | ⟨e1, e2⟩
      · rw [e1] at z4 z4d
        clear e1
        go_region
        all_goals (go_wp2_with fail; go_meet; exact ⟨rfl, rfl⟩)
      · rw [e1] at z4 z4d
        clear e1
        go_region
        all_goals (go_wp2_with fail; go_meet; exact ⟨rfl, rfl⟩)
    case rest =>
      obtain ⟨hs, hw⟩ := hcut
      subst hs
      rw [hw]
      clear hw hcases
      have hin5 := HIN4.out.drew
      obtain ⟨W5, hW5⟩ : ∃ W5, W5 = w4.drew := ⟨_, rfl⟩
      rw [← hW5] at hin5 z3d ⊢
      have HW5 := hide hW5
      have hg5 := HFA.out
      have hF5 := hin5.fl.cells hg5 HHX.out
      have s5 : W5.cell? ⟨ab, 5, none⟩ = some (.slice (some ⟨g, 0, none⟩) a.fl.length cap) := by rw [hin5.ac.c5, hg5]
      have sf3 := hF5.f3
      have sfr := hF5.fr (i * 6 + 3)
      have s5d : W5.drew.cell? ⟨ab, 5, none⟩ = some (.slice (some ⟨g, 0, none⟩) a.fl.length cap) := s5
      have sf3d : W5.drew.cell? ⟨g, i * 6 + 3, none⟩ = some (.int .i64 x.sent) := sf3
      have sfrd : W5.drew.frozen? ⟨g, i * 6 + 3, none⟩ = false := sfr
      have z3dd : W5.drew.cell? ⟨w0.heap.size, 3, none⟩ = some (.int .i64 x.sent) := z3d
      -- behind the first store
      obtain ⟨W6, hW6⟩ : ∃ W6, W6 = W5.setCell ⟨g, i * 6 + 3, none⟩ (.int .i64 ((x.sent : Int) + (n : Int))) := ⟨_, rfl⟩
      obtain ⟨x6, hx6⟩ : ∃ x6 : LFlow, x6 = { x with sent := x.sent + n } := ⟨_, rfl⟩
      have hin6 : LIn W6 ab eb F fv { a with fl := a.fl.set i x6 } p := by
        rw [hW6]
        exact hin5.writeF HHX.out hg5 (f := 3) (by omega) (by rw [hx6]; simp [LFlow.cells]) rfl
      have hc6 : Chg (fun j => j = ab ∨ fv.ownBlock = some j) W5 W6 := by rw [hW6]; exact chg_set (Chg.refl _ _) (Or.inr (by rw [hg5]; rfl))
      have HIN6 := hide hin6
      have HC6 := hide hc6
      have HW6 := hide hW6
      have HX6 := hide hx6
      clear hin5 hF5 hin6 hc6 hW6 hx6 hW5 z2 z3 z4 z2d z4d t3 t3d hcv
      go_upto_region 13 with fail
      go_region
      go_upto_region 14 with fail
      rw [← HW6.out]
      have hin6 := HIN6.out.drew
      obtain ⟨V6, hV6⟩ : ∃ V6, V6 = W6.drew := ⟨_, rfl⟩
      rw [← hV6] at hin6 ⊢
      have hl6 : (a.fl.set i x6).length = a.fl.length := List.length_set
      have hx66 : (a.fl.set i x6)[i]? = some x6 := by rw [List.getElem?_set]; simp [hlt]
      have hg6 : fv = .slice (some ⟨g, 0, none⟩) (a.fl.set i x6).length cap := by rw [hl6]; exact HFA.out
      have hF6 := hin6.fl.cells hg6 hx66
      have p5 : V6.cell? ⟨ab, 5, none⟩ = some (.slice (some ⟨g, 0, none⟩) a.fl.length cap) := by rw [hin6.ac.c5, HFA.out]
      have pf5 := hF6.f5
      have pfr := hF6.fr (i * 6 + 5)
      obtain ⟨W7, hW7⟩ : ∃ W7, W7 = V6.setCell ⟨g, i * 6 + 5, none⟩ (.bool false) := ⟨_, rfl⟩
      have hin7 : LIn W7 ab eb F fv { a with fl := a.fl.set i { x with sent := x.sent + n, over := false } } p := by
        have := hin6.writeF (x' := { x6 with over := false }) hx66 hg6 (f := 5) (v := .bool false) (by omega) (by simp [LFlow.cells]) rfl
        simp only [List.set_set] at this
        rw [hW7]
        rw [HX6.out] at this
        exact this
      have hc7 : Chg (fun j => j = ab ∨ fv.ownBlock = some j) V6 W7 := by rw [hW7]; exact chg_set (Chg.refl _ _) (Or.inr (by rw [hg6]; rfl))
      have a3 : W7.cell? ⟨ab, 3, none⟩ = some (.int .i64 a.sent) := hin7.ac.c3
      have af3 := hin7.ac.fr 3
      have wa3 : IntKind.i64.wrap (a.sent + (n : Int)) = a.sent + (n : Int) := by rw [IntKind.wrap_i64]; omega
      have hin8 : LIn (W7.setCell ⟨ab, 3, none⟩ (.int .i64 (a.sent + (n : Int)))) ab eb F fv a' p := by
        rw [HA.out]
        exact hin7.writeA (by simp [LAcc.cells]) rfl
      have HEND : Hid (LIn (W7.setCell ⟨ab, 3, none⟩ (.int .i64 (a.sent + (n : Int)))) ab eb F fv a' p ∧ Chg (fun j => j = ab ∨ fv.ownBlock = some j) w (W7.setCell ⟨ab, 3, none⟩ (.int .i64 (a.sent + (n : Int))))) := by
        refine ⟨hin8, ?_⟩
        have c1 : Chg (fun j => j = ab ∨ fv.ownBlock = some j) w w4 := Chg.of_below HB04.out
        have c2 : Chg (fun j => j = ab ∨ fv.ownBlock = some j) w W5 := by rw [HW5.out]; exact c1.drew
        have c3 : Chg (fun j => j = ab ∨ fv.ownBlock = some j) w W6 := c2.trans (HC6.out.mono fun j _ e => Or.inr e)
        have c4 : Chg (fun j => j = ab ∨ fv.ownBlock = some j) w V6 := by rw [hV6]; exact c3.drew
        have c5 : Chg (fun j => j = ab ∨ fv.ownBlock = some j) w W7 := c4.trans (hc7.mono fun j _ e => Or.inr e)
        exact chg_set c5 (Or.inl rfl)
      have HW7 := hide hW7
      clear hin6 hF6 hin7 hc7 hin8 hW7 hV6 hg6 s5 s5d sf3 sf3d sfr sfrd z3d z3dd
      go_upto_region 15 with fail
      rw [← HW7.out]
      go_wp2
      go_ret
      exact ⟨rfl, HEND.out⟩
set_option maxRecDepth 100000 in
set_option maxHeartbeats 6400000 in
theorem ldata_t (ab eb : Nat) (F : Nat → Prop) (fv : Value) (a a' : LAcc) (p : GEnd) (f : Fr) (sb : Option Addr) (cb : Nat) (w : World) (i : Nat) (x : LFlow) (h : LIn w ab eb F fv a p) (hb : LBd a) (h1 : LNum a) (hx : a.fl[i]? = some x) (hs : x.s = f.stream) (hov : x.over = false) (h64 : f.body.length ≤ 64) (hwr : 0 < f.body.length → (f.body.length : Int) ≤ a.win x ∧ (f.body.length : Int) ≤ a.room) (hbo : f.body = (x.wr.drop x.sent).take f.body.length) (hle : x.sent + f.body.length ≤ x.wr.length) (hE : (x.closed && decide (x.sent + f.body.length = x.wr.length)) = true) (hfl : f.flags = 1) (ha : a' = { a with fl := a.fl.set i { x with sent := x.sent + f.body.length, over := true }, sent := a.sent + f.body.length }) (hby : BytesIn w (.slice sb f.body.length cb) f.body) :
    Calls Tryz.prog 23 #[.pointer (some ⟨ab, 0, none⟩), .agg #[.int .i64 f.kind, .int .i64 f.flags, .int .i64 f.stream, .slice sb f.body.length cb]] w fun e w' => e = .returned (.bool true) ∧ LIn w' ab eb F fv a' p ∧ Chg (fun j => j = ab ∨ fv.ownBlock = some j) w w' := by
  obtain ⟨kk, ff, ss, bd⟩ := f
  simp only at hs h64 hwr hbo hle hE hfl ha hby ⊢
  obtain ⟨n, hnl⟩ : ∃ n, n = bd.length := ⟨_, rfl⟩
  rw [← hnl] at h64 hwr hbo hle hE ha hby ⊢
  have HNL := hide hnl
  clear hnl
  obtain ⟨g, cap, hFA⟩ := h.fl.at hx
  have hm := hb.fl x (List.mem_of_getElem? hx)
  have hse := hb.se
  have b8 := hb.n
  obtain ⟨w0, hw0⟩ : ∃ w0, w0 = w.alloc (.cells #[.int .i64 kk, .int .i64 ff, .int .i64 ss, .slice sb n cb] 48) := ⟨_, rfl⟩
  have hfr0 : w0.heap[w.heap.size]? = some (.cells #[.int .i64 kk, .int .i64 ff, .int .i64 ss, .slice sb n cb] 48 (0, 0)) := by rw [hw0]; exact heap_alloc_new w _
  have hb0 : Below w.heap.size w w0 := by rw [hw0]; exact (Below.refl _ _).alloc (Nat.le_refl _) _
  have hin0 := h.below hb0
  obtain ⟨-, -, r2, r3, -⟩ := frame_block hfr0
  have HFI := hide (lfind_any ab _ fv a i x w0 hin0.ac hin0.fl hx (fun j y hj hy e => by have := h1 j i y x hy hx e; omega) hb)
  rw [hs] at HFI
  obtain ⟨w1, hw1⟩ : ∃ w1, w1 = w0.alloc (.cells #[.int .i64 x.s, .int .i64 x.credit, .string ⟨x.wr.toArray⟩, .int .i64 x.sent, .bool x.closed, .bool false] 56) := ⟨_, rfl⟩
  have hxb1 : w1.heap[w0.heap.size]? = some (.cells #[.int .i64 x.s, .int .i64 x.credit, .string ⟨x.wr.toArray⟩, .int .i64 x.sent, .bool x.closed, .bool false] 56 (0, 0)) := by rw [hw1]; exact heap_alloc_new w0 _
  have hb1 : Below w0.heap.size w0 w1 := by rw [hw1]; exact (Below.refl _ _).alloc (Nat.le_refl _) _
  have hin1 := hin0.below hb1
  have hfr1 := kept_told hfr0 hb1
  have HWI := hide (fun wx (hbx : Below w1.heap.size w1 wx) => lwindow_any ab _ fv a i x wx (hin1.below hbx).ac (hin1.below hbx).fl hx hb)
  have HRO := hide (fun wx (hbx : Below w1.heap.size w1 wx) => lroom_any ab _ fv a wx (hin1.below hbx).ac hb)
  obtain ⟨u0, u1, u2, u3, -⟩ := frame_block hfr1
  have c5 : w0.cell? ⟨ab, 5, none⟩ = some (.slice (some ⟨g, 0, none⟩) a.fl.length cap) := by rw [hin0.ac.c5, hFA.eq]
  have hF0 := hin0.fl.cells hFA.eq hx
  have q0 := hF0.f0
  have q1 := hF0.f1
  have q2 : w0.cell? ⟨g, i * 6 + 2, none⟩ = some (.string ⟨x.wr.toArray⟩) := hF0.f2
  have q3 := hF0.f3
  have q4 := hF0.f4
  have q5 := hF0.f5
  have hlt := hFA.lt
  have i1 : (0 : Int) ≤ (i : Int) := by omega
  have i2 : (i : Int) < (a.fl.length : Int) := by omega
  have i3 : ((i : Int) < 0) = False := eq_false (by omega)
  have hby1 : BytesIn w1 (.slice sb n cb) bd := (hby.chg (Chg.of_below (S := fun _ => False) hb0) (fun _ _ => id)).chg (Chg.of_below (S := fun _ => False) hb1) (fun _ _ => id)
  have htk : bd = (x.wr.drop x.sent).take n := hbo
  have hsl : (⟨x.wr.toArray⟩ : ByteArray).extract x.sent (x.sent + n) = ⟨bd.toArray⟩ := by rw [extract_l, ← hbo]
  have HH := hide h
  have HIN1 := hide hin1
  have HB01 : Hid (Below w.heap.size w w1) := hb0.trans (hb1.mono hb0.size)
  have HFR1 := hide hfr1
  have HXB1 := hide hxb1
  have HBY1 := hide hby1
  have HW0 := hide hw0
  have HW1 := hide hw1
  have HHX := hide hx
  have HFA := hide hFA.eq
  have HA := hide ha
  have HOV := hide hov
  have htz : (ByteArray.mk x.wr.toArray).size = x.wr.length := by simp [ByteArray.size]
  rw [hov] at q5
  have HFLG : Hid (∀ wx, Calls Tryz.prog 45 #[.agg #[.int .i64 kk, .int .i64 ff, .int .i64 ss, .slice sb n cb], .int .i64 1] wx fun r w' => r = .returned (.bool true) ∧ Below wx.heap.size wx w') := fun wx => by
    have := lflag_any kk ss true sb n cb wx
    simp only [Bool.false_eq_true, if_false, if_true] at this
    rw [hfl]
    exact this
  have HE := hide hE
  clear h hb hby hx hFA hfr0 hb0 hin0 hxb1 hb1 hin1 hfr1 hw0 hw1 hF0 hbo hs ha hby1 h1 htk hov hfl hE
  go_enter Tryz.func23, Tryz.ntmps23
  go_upto_region 1 with fail
  rw [← HW0.out]
  go_wp2_with fail
  refine HFI.out.mono ?_
  rintro e w' ⟨rfl, hw'⟩
  rw [hw']
  clear hw' w'
  go_upto_region 5 with fail
  rw [← HW1.out]
  clear q0 q1 q2 q3 q4 q5 c5 r2 r3
  go_wp2_with fail
  refine (HWI.out _ (Below.refl _ _)).mono ?_
  rintro e w2 ⟨rfl, hb2⟩
  have HB2 := hide hb2
  clear hb2
  go_wp2_with fail
  refine (HRO.out w2 HB2.out).mono ?_
  rintro e w3 ⟨rfl, hb3⟩
  have hb13 : Below w1.heap.size w1 w3 := HB2.out.trans (hb3.mono HB2.out.size)
  have hfr3 := kept_told HFR1.out hb13
  have hxb3 := kept_told HXB1.out hb13
  have HIN3 := hide (HIN1.out.below hb13)
  have HBY3 : Hid (BytesIn w3 (.slice sb n cb) bd) := HBY1.out.chg (Chg.of_below (S := fun _ => False) hb13) (fun _ _ => id)
  have HB03 : Hid (Below w.heap.size w w3) := HB01.out.trans (hb13.mono HB01.out.size)
  obtain ⟨v0, v1, v2, v3, -⟩ := frame_block hfr3
  have y2 : w3.cell? ⟨w0.heap.size, 2, none⟩ = some (.string ⟨x.wr.toArray⟩) := by rw [cell_of_row _ _ _ _ _ _ hxb3]; rfl
  have y3 : w3.cell? ⟨w0.heap.size, 3, none⟩ = some (.int .i64 x.sent) := by rw [cell_of_row _ _ _ _ _ _ hxb3]; rfl
  have y4 : w3.cell? ⟨w0.heap.size, 4, none⟩ = some (.bool x.closed) := by rw [cell_of_row _ _ _ _ _ _ hxb3]; rfl
  have y5 : w3.cell? ⟨w0.heap.size, 5, none⟩ = some (.bool false) := by rw [cell_of_row _ _ _ _ _ _ hxb3]; rfl
  have HFR3 := hide hfr3
  have HXB3 := hide hxb3
  clear hb3 hb13 hfr3 hxb3 u0 u1 u2 u3 HB2 HIN1 HBY1 HFR1 HXB1 HWI HRO HFI HB01
  obtain ⟨m1, m2, m3, m4⟩ := hm
  have hwL : IntKind.i64.wrap ((x.wr.length : Int) - (x.sent : Int)) = (x.wr.length : Int) - (x.sent : Int) := by rw [IntKind.wrap_i64]; omega
  have k64 : ((64 : Int) < (n : Int)) = False := eq_false (by omega)
  have kLe : ((x.wr.length : Int) - (x.sent : Int) < (n : Int)) = False := eq_false (by omega)
  have HHX3 : Hid (a.fl[i]? = some x) := HHX.out
  generalize a.win x = WI at *
  generalize a.room = RO at *
  go_upto_region 8 with fail
  go_cut [61] (fun s61 wx => s61 = .bool false ∧ wx = w3)
  case first =>
    by_cases h0 : 0 < n
    · obtain ⟨z1, z2⟩ := hwr h0
      have e0 : ((0 : Int) < (n : Int)) = True := eq_true (by omega)
      have e1 : (WI < (n : Int)) = False := eq_false (by omega)
      have e2 : (RO < (n : Int)) = False := eq_false (by omega)
      clear hwr z1 z2
      go_wp2_with fail
      go_meet
      exact ⟨rfl, rfl⟩
    · have e0 : ((0 : Int) < (n : Int)) = False := eq_false (by omega)
      clear hwr
      go_wp2_with fail
      go_meet
      exact ⟨rfl, rfl⟩
  case rest =>
    obtain ⟨hs, hw⟩ := hcut
    subst hs
    rw [hw]
    clear hw hwr
    go_wp2_with fail
    refine (HFLG.out _).mono ?_
    rintro e w4 ⟨rfl, hb4⟩
    have hfr4 := kept_told HFR3.out hb4
    have hxb4 := kept_told HXB3.out hb4
    have HIN4 := hide (HIN3.out.below hb4)
    have hby4 : BytesIn w4 (.slice sb n cb) bd := HBY3.out.chg (Chg.of_below (S := fun _ => False) hb4) (fun _ _ => id)
    have HB04 : Hid (Below w.heap.size w w4) := HB03.out.trans (hb4.mono HB03.out.size)
    obtain ⟨-, -, -, t3, -⟩ := frame_block hfr4
    have t3d : w4.drew.cell? ⟨w.heap.size, 3, none⟩ = some (.slice sb n cb) := t3
    have z2 : w4.cell? ⟨w0.heap.size, 2, none⟩ = some (.string ⟨x.wr.toArray⟩) := by rw [cell_of_row _ _ _ _ _ _ hxb4]; rfl
    have z3 : w4.cell? ⟨w0.heap.size, 3, none⟩ = some (.int .i64 x.sent) := by rw [cell_of_row _ _ _ _ _ _ hxb4]; rfl
    have z4 : w4.cell? ⟨w0.heap.size, 4, none⟩ = some (.bool x.closed) := by rw [cell_of_row _ _ _ _ _ _ hxb4]; rfl
    have z2d : w4.drew.cell? ⟨w0.heap.size, 2, none⟩ = some (.string ⟨x.wr.toArray⟩) := z2
    have z3d : w4.drew.cell? ⟨w0.heap.size, 3, none⟩ = some (.int .i64 x.sent) := z3
    have z4d : w4.drew.cell? ⟨w0.heap.size, 4, none⟩ = some (.bool x.closed) := z4
    have hcv : (convert 44 9 (.slice sb n cb)).run Tryz.prog w4.drew = .ok (.string ⟨bd.toArray⟩) w4.drew := conv_str (hby4.chg (Chg.of_below (S := fun _ => False) (Below.drew (Below.refl _ _))) (fun _ _ => id))
    have HXB4 := hide hxb4
    have hcases : x.closed = true ∧ (((x.sent : Int) + (n : Int) == (x.wr.length : Int)) = true) := by
      have hE := HE.out
      cases hc : x.closed with
      | false => first | exact Or.inl rfl | (rw [hc] at hE; simp at hE)
      | true =>
        rw [hc] at hE
        first
          | exact ⟨rfl, by simp at hE ⊢; omega⟩
          | exact Or.inr ⟨rfl, by simp at hE ⊢; omega⟩
    have wz : IntKind.i64.wrap ((x.sent : Int) + (n : Int)) = (x.sent : Int) + (n : Int) := by rw [IntKind.wrap_i64]; omega
    have iz1 : (0 : Int) ≤ (x.sent : Int) := by omega
    have iz2 : (x.sent : Int) ≤ (x.sent : Int) + (n : Int) := by omega
    have iz3 : (x.sent : Int) + (n : Int) ≤ (x.wr.length : Int) := by omega
    have HHE := hide HE.out
    clear HE hb4 hfr4 hxb4 hby4 v0 v1 v2 v3 y2 y3 y4 y5 HFLG k64 kLe hwL
    go_upto_region 11 with fail
    go_cut [92] (fun s92 wx => s92 = .bool false ∧ wx = w4.drew)
    case first =>
      obtain ⟨e1, e2⟩ := hcases
      rw [e1] at z4 z4d
      clear e1
      go_region
      all_goals (go_wp2_with fail; go_meet; exact ⟨rfl, rfl⟩)
    case rest =>
      obtain ⟨hs, hw⟩ := hcut
      subst hs
      rw [hw]
      clear hw hcases
      have hin5 := HIN4.out.drew
      obtain ⟨W5, hW5⟩ : ∃ W5, W5 = w4.drew := ⟨_, rfl⟩
      rw [← hW5] at hin5 z3d ⊢
      have HW5 := hide hW5
      have hg5 := HFA.out
      have hF5 := hin5.fl.cells hg5 HHX.out
      have s5 : W5.cell? ⟨ab, 5, none⟩ = some (.slice (some ⟨g, 0, none⟩) a.fl.length cap) := by rw [hin5.ac.c5, hg5]
      have sf3 := hF5.f3
      have sfr := hF5.fr (i * 6 + 3)
      have s5d : W5.drew.cell? ⟨ab, 5, none⟩ = some (.slice (some ⟨g, 0, none⟩) a.fl.length cap) := s5
      have sf3d : W5.drew.cell? ⟨g, i * 6 + 3, none⟩ = some (.int .i64 x.sent) := sf3
      have sfrd : W5.drew.frozen? ⟨g, i * 6 + 3, none⟩ = false := sfr
      have z3dd : W5.drew.cell? ⟨w0.heap.size, 3, none⟩ = some (.int .i64 x.sent) := z3d
      -- behind the first store
      obtain ⟨W6, hW6⟩ : ∃ W6, W6 = W5.setCell ⟨g, i * 6 + 3, none⟩ (.int .i64 ((x.sent : Int) + (n : Int))) := ⟨_, rfl⟩
      obtain ⟨x6, hx6⟩ : ∃ x6 : LFlow, x6 = { x with sent := x.sent + n } := ⟨_, rfl⟩
      have hin6 : LIn W6 ab eb F fv { a with fl := a.fl.set i x6 } p := by
        rw [hW6]
        exact hin5.writeF HHX.out hg5 (f := 3) (by omega) (by rw [hx6]; simp [LFlow.cells]) rfl
      have hc6 : Chg (fun j => j = ab ∨ fv.ownBlock = some j) W5 W6 := by rw [hW6]; exact chg_set (Chg.refl _ _) (Or.inr (by rw [hg5]; rfl))
      have HIN6 := hide hin6
      have HC6 := hide hc6
      have HW6 := hide hW6
      have HX6 := hide hx6
      clear hin5 hF5 hin6 hc6 hW6 hx6 hW5 z2 z3 z4 z2d z4d t3 t3d hcv
      go_upto_region 13 with fail
      go_region
      go_upto_region 14 with fail
      rw [← HW6.out]
      have hin6 := HIN6.out.drew
      obtain ⟨V6, hV6⟩ : ∃ V6, V6 = W6.drew := ⟨_, rfl⟩
      rw [← hV6] at hin6 ⊢
      have hl6 : (a.fl.set i x6).length = a.fl.length := List.length_set
      have hx66 : (a.fl.set i x6)[i]? = some x6 := by rw [List.getElem?_set]; simp [hlt]
      have hg6 : fv = .slice (some ⟨g, 0, none⟩) (a.fl.set i x6).length cap := by rw [hl6]; exact HFA.out
      have hF6 := hin6.fl.cells hg6 hx66
      have p5 : V6.cell? ⟨ab, 5, none⟩ = some (.slice (some ⟨g, 0, none⟩) a.fl.length cap) := by rw [hin6.ac.c5, HFA.out]
      have pf5 := hF6.f5
      have pfr := hF6.fr (i * 6 + 5)
      obtain ⟨W7, hW7⟩ : ∃ W7, W7 = V6.setCell ⟨g, i * 6 + 5, none⟩ (.bool true) := ⟨_, rfl⟩
      have hin7 : LIn W7 ab eb F fv { a with fl := a.fl.set i { x with sent := x.sent + n, over := true } } p := by
        have := hin6.writeF (x' := { x6 with over := true }) hx66 hg6 (f := 5) (v := .bool true) (by omega) (by simp [LFlow.cells]) rfl
        simp only [List.set_set] at this
        rw [hW7]
        rw [HX6.out] at this
        exact this
      have hc7 : Chg (fun j => j = ab ∨ fv.ownBlock = some j) V6 W7 := by rw [hW7]; exact chg_set (Chg.refl _ _) (Or.inr (by rw [hg6]; rfl))
      have a3 : W7.cell? ⟨ab, 3, none⟩ = some (.int .i64 a.sent) := hin7.ac.c3
      have af3 := hin7.ac.fr 3
      have wa3 : IntKind.i64.wrap (a.sent + (n : Int)) = a.sent + (n : Int) := by rw [IntKind.wrap_i64]; omega
      have hin8 : LIn (W7.setCell ⟨ab, 3, none⟩ (.int .i64 (a.sent + (n : Int)))) ab eb F fv a' p := by
        rw [HA.out]
        exact hin7.writeA (by simp [LAcc.cells]) rfl
      have HEND : Hid (LIn (W7.setCell ⟨ab, 3, none⟩ (.int .i64 (a.sent + (n : Int)))) ab eb F fv a' p ∧ Chg (fun j => j = ab ∨ fv.ownBlock = some j) w (W7.setCell ⟨ab, 3, none⟩ (.int .i64 (a.sent + (n : Int))))) := by
        refine ⟨hin8, ?_⟩
        have c1 : Chg (fun j => j = ab ∨ fv.ownBlock = some j) w w4 := Chg.of_below HB04.out
        have c2 : Chg (fun j => j = ab ∨ fv.ownBlock = some j) w W5 := by rw [HW5.out]; exact c1.drew
        have c3 : Chg (fun j => j = ab ∨ fv.ownBlock = some j) w W6 := c2.trans (HC6.out.mono fun j _ e => Or.inr e)
        have c4 : Chg (fun j => j = ab ∨ fv.ownBlock = some j) w V6 := by rw [hV6]; exact c3.drew
        have c5 : Chg (fun j => j = ab ∨ fv.ownBlock = some j) w W7 := c4.trans (hc7.mono fun j _ e => Or.inr e)
        exact chg_set c5 (Or.inl rfl)
      have HW7 := hide hW7
      clear hin6 hF6 hin7 hc7 hin8 hW7 hV6 hg6 s5 s5d sf3 sf3d sfr sfrd z3d z3dd
      go_upto_region 15 with fail
      rw [← HW7.out]
      go_wp2
      go_ret
      exact ⟨rfl, HEND.out⟩
theorem ldata_ok (ab eb : Nat) (F : Nat → Prop) (fv : Value) (a a' : LAcc) (p : GEnd) (f : Fr) (sb : Option Addr) (cb : Nat) (w : World) (h : LIn w ab eb F fv a p) (hb : LBd a) (h1 : LNum a) (hd : LData a f a') (hby : BytesIn w (.slice sb f.body.length cb) f.body) :
    Calls Tryz.prog 23 #[.pointer (some ⟨ab, 0, none⟩), .agg #[.int .i64 f.kind, .int .i64 f.flags, .int .i64 f.stream, .slice sb f.body.length cb]] w fun e w' => e = .returned (.bool true) ∧ LIn w' ab eb F fv a' p ∧ Chg (fun j => j = ab ∨ fv.ownBlock = some j) w w' := by
  obtain ⟨i, x, hx, hs, hov, h64, hwr, hbo, hle, hfl, ha⟩ := hd.ok
  cases hE : (x.closed && decide (x.sent + f.body.length = x.wr.length)) with
  | false =>
    rw [hE] at hfl ha
    exact ldata_f ab eb F fv a a' p f sb cb w i x h hb h1 hx hs hov h64 hwr hbo hle hE (by simpa using hfl) ha hby
  | true =>
    rw [hE] at hfl ha
    exact ldata_t ab eb F fv a a' p f sb cb w i x h hb h1 hx hs hov h64 hwr hbo hle hE (by simpa using hfl) ha hby
end Go.Proofs.YtdccldbefdfppaaGreatDoor
