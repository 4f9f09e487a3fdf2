import Derived.Test.YtlhlmgfblbpdpaaGreatDoorWRcTells
set_option linter.unusedVariables false
set_option linter.unusedSimpArgs false
/-
  Receive: the law's tells: a Ping; and all kinds.
-/
namespace Go.Proofs.YtlhlmgfblbpdpaaGreatDoor
set_option linter.unusedVariables false
set_option linter.unusedSimpArgs false
open Go.RowKit

set_option maxRecDepth 100000 in
set_option maxHeartbeats 3200000 in
theorem ktells_ping (xb : Nat) (ev : Value) (x : XM) (sb : Option Addr) (cb : Nat) (b : List UInt8) (w : World) (h : XI w xb ev x (.slice none 0 0)) (hbd : XBd x) (hck : x.cf.c < x.cf.k) (hb : BytesIn w (.slice sb 4 cb) b) (h4 : b.length = 4) (hbn : ∀ j, (Value.slice sb 4 cb).ownBlock = some j → j ≠ xb) :
    Calls Tryz.prog 27 #[.pointer (some ⟨xb, 0, none⟩), .agg #[.int .i64 4, .int .i64 0, .int .i64 0, .slice sb 4 cb]] w fun e w' => e = .returned (.bool true) ∧ (∃ pb cap, XI w' xb ev { x with asked := x.asked + 1 } (.slice (some ⟨pb, 0, none⟩) 1 cap) ∧ 1 ≤ cap ∧ w.heap.size ≤ pb ∧ pb < w'.heap.size ∧ w'.cell? ⟨pb, 0, none⟩ = some (.int .i64 (num4 b))) ∧ Chg (fun j => j = xb) w w' := by
  have hcr := hbd.ak
  clear hbd
  obtain ⟨i0, hi, hz0, hz1, hz2⟩ := info_parts Tryz.info3
  obtain ⟨n0, n1⟩ := num4_le b
  obtain ⟨w0, hw0⟩ : ∃ w0, w0 = w.alloc (.cells #[.int .i64 4, .int .i64 0, .int .i64 0, .slice sb 4 cb] 99) := ⟨_, rfl⟩
  have hfr : w0.heap[w.heap.size]? = some (.cells #[.int .i64 4, .int .i64 0, .int .i64 0, .slice sb 4 cb] 99 (0, 0)) := by rw [hw0]; exact heap_alloc_new w _
  have hb0 : Below w.heap.size w w0 := by rw [hw0]; exact (Below.refl _ _).alloc (Nat.le_refl _) _
  have y0 : w0.cell? ⟨w.heap.size, 0, none⟩ = some (.int .i64 4) := by rw [cell_of_row _ _ _ _ _ _ hfr]; rfl
  have y1 : w0.cell? ⟨w.heap.size, 1, none⟩ = some (.int .i64 0) := by rw [cell_of_row _ _ _ _ _ _ hfr]; rfl
  have y2 : w0.cell? ⟨w.heap.size, 2, none⟩ = some (.int .i64 0) := by rw [cell_of_row _ _ _ _ _ _ hfr]; rfl
  have y3 : w0.cell? ⟨w.heap.size, 3, none⟩ = some (.slice sb 4 cb) := by rw [cell_of_row _ _ _ _ _ _ hfr]; rfl
  have HFL := hide (fun w => kflag_z 4 0 sb 4 cb w)
  have HFR := hide hfr
  have HB0 := hide hb0
  have HW0 := hide hw0
  have HX := hide h
  have HBY := hide hb
  have HBN := hide hbn
  have HV : Hid (∀ wx, BytesIn wx (.slice sb 4 cb) b → Calls Tryz.prog 42 #[.slice sb 4 cb] wx fun e w' => e = .returned (.int .i64 (num4 b)) ∧ Below wx.heap.size wx w') := fun wx hx => kvalue_of hx h4
  have hxlt := h.lt
  clear hfr hb0 hw0 h hb hbn h4
  go_enter Tryz.func27, Tryz.ntmps27
  go_upto_region 1 with fail
  rw [← HW0.out]
  go_wp2_with fail
  refine (HFL.out _).mono ?_
  rintro e w1 ⟨rfl, hb1⟩
  have hfr1 := kept_told HFR.out hb1
  have HB1 : Hid (Below w.heap.size w w1) := HB0.out.trans (hb1.mono HB0.out.size)
  have z0 : w1.cell? ⟨w.heap.size, 0, none⟩ = some (.int .i64 4) := by rw [cell_of_row _ _ _ _ _ _ hfr1]; rfl
  have z2 : w1.cell? ⟨w.heap.size, 2, none⟩ = some (.int .i64 0) := by rw [cell_of_row _ _ _ _ _ _ hfr1]; rfl
  have z3 : w1.cell? ⟨w.heap.size, 3, none⟩ = some (.slice sb 4 cb) := by rw [cell_of_row _ _ _ _ _ _ hfr1]; rfl
  have hx1 := HX.out.below HB1.out
  have HX1 := hide hx1
  have HFR1 := hide hfr1
  clear hb1 hfr1 y0 y1 y2 y3
  have hw1 : IntKind.i64.wrap (x.asked + 1) = x.asked + 1 := by rw [IntKind.wrap_i64]; omega
  have x28 : w1.cell? ⟨xb, 28, none⟩ = some (.int .i64 x.asked) := hx1.c28
  have f28 := hx1.fr 28
  have hx2 : XI (w1.setCell ⟨xb, 28, none⟩ (.int .i64 (x.asked + 1))) xb ev { x with asked := x.asked + 1 } (.slice none 0 0) := hx1.set (by simp [XM.cells])
  have hc2 : Chg (fun j => j = xb) w1 (w1.setCell ⟨xb, 28, none⟩ (.int .i64 (x.asked + 1))) := chg_set (Chg.refl _ _) rfl
  have hfl : w.heap.size < w1.heap.size := lt_of_block HFR1.out
  have hfr2 : (w1.setCell ⟨xb, 28, none⟩ (.int .i64 (x.asked + 1))).heap[w.heap.size]? = some (.cells #[.int .i64 4, .int .i64 0, .int .i64 0, .slice sb 4 cb] 99 (0, 0)) := by rw [hc2.block _ hfl (by omega)]; exact HFR1.out
  obtain ⟨w2, hw2⟩ : ∃ w2, w2 = w1.setCell ⟨xb, 28, none⟩ (.int .i64 (x.asked + 1)) := ⟨_, rfl⟩
  rw [← hw2] at hx2 hc2 hfr2
  have hby2 : BytesIn w2 (.slice sb 4 cb) b := (HBY.out.chg (Chg.of_below (S := fun _ => False) HB1.out) (fun _ _ => id)).chg hc2 (fun j hj e => HBN.out j hj e)
  have hd2 : Below w2.heap.size w2 w2.drew := Below.drew (Below.refl _ _)
  have HV2 := hide (HV.out w2.drew (hby2.chg (Chg.of_below (S := fun _ => False) hd2) (fun _ _ => id)))
  have v3 : w2.cell? ⟨w.heap.size, 3, none⟩ = some (.slice sb 4 cb) := by rw [cell_of_row _ _ _ _ _ _ hfr2]; rfl
  have v27 : w2.cell? ⟨xb, 27, none⟩ = some (.slice none 0 0) := hx2.c27
  have f27 := hx2.fr 27
  have HC12 : Hid (Chg (fun j => j = xb) w w2) := (Chg.of_below HB1.out).trans (hc2.mono fun j _ e => Or.inr e)
  have HX2 := hide hx2
  have hxl2 := hx2.lt
  have HW2 := hide hw2
  clear hx1 hx2 hc2 hfr2 hby2 hd2 hw2 hfl
  go_upto_region 12 with fail
  rw [← HW2.out]
  clear x28 f28 z0 z2 z3
  go_cut [] (fun wx => ∃ pb cap, XI wx xb ev { x with asked := x.asked + 1 } (.slice (some ⟨pb, 0, none⟩) 1 cap) ∧ 1 ≤ cap ∧ w.heap.size ≤ pb ∧ pb < wx.heap.size ∧ wx.cell? ⟨pb, 0, none⟩ = some (.int .i64 (num4 b)) ∧ Chg (fun j => j = xb) w wx)
  case first =>
   go_region_law (first
    | (refine step_call rfl 42 Tryz.f42 Tryz.func42 (by kernel_rfl) rfl [.tmp 59] #[43] rfl [.slice sb 4 cb] (by simp [Act.eval, Act.put]) HV2.out ?_; rintro e w3 ⟨rfl, hb3⟩; refine ⟨_, rfl, ?_⟩; have hbx3 : Below w2.heap.size w2 w3 := ⟨hb3.os, hb3.tape, hb3.output, hb3.size, hb3.block⟩; have hx3 := HX2.out.below hbx3; have u27 : w3.cell? ⟨xb, 27, none⟩ = some (.slice none 0 0) := hx3.c27; have g27 := hx3.fr 27; have HX3 := hide hx3; have hal : Below w3.heap.size w3 (w3.alloc (.cells #[.int .i64 (num4 b)] 3)) := (Below.refl _ _).alloc (Nat.le_refl _) _; have a27 : (w3.alloc (.cells #[.int .i64 (num4 b)] 3)).cell? ⟨xb, 27, none⟩ = some (.slice none 0 0) := (hx3.below hal).c27; clear hal; have HC3 : Hid (Chg (fun j => j = xb) w w3) := HC12.out.then_below hbx3; clear hx3 hb3 hbx3)
    | (refine step_appd rfl (.tmp 57) (.tmp 61) 36 rfl 3 i0 (.int .i64 0) 1 8 Tryz.underlying36 hi hz0 hz1 hz2 rfl (by decide) (.slice none 0 0) 0 [] (by simp [Act.eval, Act.put]) (World.ownsRow_nil _ _ _ _) (.slice (some ⟨w3.heap.size, 0, none⟩) 1 1) 1 [.int .i64 (num4 b)] (by simp [Act.eval, Act.put]) rfl (lies_one (one_alloc _ _ _)) (by intro u hu; rw [List.mem_singleton.1 hu]; rfl) (by decide) (by decide) ?_; intro v w5 hown hg5 hfr5; obtain ⟨s5, c5, hv5⟩ := slice_len hown; subst hv5; obtain ⟨pb, hpb, hpc⟩ := slice_some hown (by omega); subst hpb; have hc5 : Chg (fun _ => False) w3 w5 := ((Chg.refl _ _).alloc _).trans ((Chg.of_grown (S := fun _ => False) hg5 (fun j hj => by simp [Value.ownBlock] at hj)).mono fun j _ e => Or.inr e); have hge5 : w3.heap.size ≤ pb := (by rcases hfr5 with e | e <;> simp [Value.ownBlock] at e <;> omega); have hx5 := HX3.out.chg hc5 (fun e => e); have u27 : w5.cell? ⟨xb, 27, none⟩ = some (.slice none 0 0) := hx5.c27; have g27 := hx5.fr 27; have HX5 := hide hx5; have hpl : pb < w5.heap.size := (hown.lt pb rfl).2; have hpv : w5.cell? ⟨pb, 0, none⟩ = some (.int .i64 (num4 b)) := (by have := hown.cellAt 0 (by omega); simpa using this); have HP := hide (And.intro hpc (And.intro hpl (And.intro hpv hge5))); have HC5 : Hid (Chg (fun j => j = xb) w w5) := HC3.out.trans (hc5.mono fun j _ e => e.elim); clear hown hg5 hfr5 hc5 hx5 hpl hpv hge5 hpc))
   all_goals go_wp2_with fail
   all_goals go_meet
   all_goals obtain ⟨q1, q2, q3, q4⟩ := HP.out
   all_goals have hcs : Chg (fun j => j = xb) w5 (w5.setCell ⟨xb, 27, none⟩ (.slice (some ⟨pb, 0, none⟩) 1 c5)) := chg_set (Chg.refl _ _) rfl
   all_goals have hpx : pb ≠ xb := by have := HC3.out.size; omega
   all_goals exact ⟨pb, c5, HX5.out.set (by simp [XM.cells]), q1, Nat.le_trans HC3.out.size q4, Nat.lt_of_lt_of_le q2 hcs.size, by rw [hcs.cell (p := ⟨pb, 0, none⟩) q2 hpx]; exact q3, HC5.out.trans (hcs.mono fun j _ e => Or.inr e)⟩
  case rest =>
   obtain ⟨pb, cap, hx6, q1, q2, q3, q4, hc6⟩ := hcut
   obtain ⟨w6, hw6⟩ : ∃ w6, w6 = wc := ⟨wc, rfl⟩
   rw [← hw6] at hx6 q3 q4 hc6 ⊢
   clear hw6 v3 v27 f27
   have y0 : w6.cell? ⟨xb, 32, none⟩ = some (.bool true) := hx6.c32
   have y1 : w6.cell? ⟨xb, 27, none⟩ = some (.slice (some ⟨pb, 0, none⟩) 1 cap) := hx6.c27
   have y2 : w6.cell? ⟨xb, 2, none⟩ = some (.int .i64 x.cf.c) := hx6.c2
   have y3 : w6.cell? ⟨xb, 4, none⟩ = some (.int .i64 x.cf.k) := hx6.c4
   have y4 := hx6.fr 32
   have z0 : w6.drew.cell? ⟨xb, 32, none⟩ = some (.bool true) := y0
   have z1 : w6.drew.cell? ⟨xb, 27, none⟩ = some (.slice (some ⟨pb, 0, none⟩) 1 cap) := y1
   have z2 : w6.drew.cell? ⟨xb, 2, none⟩ = some (.int .i64 x.cf.c) := y2
   have z3 : w6.drew.cell? ⟨xb, 4, none⟩ = some (.int .i64 x.cf.k) := y3
   have z4 : w6.drew.frozen? ⟨xb, 32, none⟩ = false := y4
   have hx7 : XI (w6.setCell ⟨xb, 32, none⟩ (.bool true)).drew xb ev { x with asked := x.asked + 1 } (.slice (some ⟨pb, 0, none⟩) 1 cap) := by
     have : XI (w6.setCell ⟨xb, 32, none⟩ (.bool true)) xb ev { x with asked := x.asked + 1 } (.slice (some ⟨pb, 0, none⟩) 1 cap) := hx6.set (by simp [XM.cells])
     exact this
   have hc7 : Chg (fun j => j = xb) w6 (w6.setCell ⟨xb, 32, none⟩ (.bool true)).drew := Chg.drew (chg_set (S := fun j => j = xb) (Chg.refl _ _) rfl)
   have hpx : pb ≠ xb := by omega
   have HEND : Hid ((∃ pb cap, XI (w6.setCell ⟨xb, 32, none⟩ (.bool true)).drew xb ev { x with asked := x.asked + 1 } (.slice (some ⟨pb, 0, none⟩) 1 cap) ∧ 1 ≤ cap ∧ w.heap.size ≤ pb ∧ pb < (w6.setCell ⟨xb, 32, none⟩ (.bool true)).drew.heap.size ∧ (w6.setCell ⟨xb, 32, none⟩ (.bool true)).drew.cell? ⟨pb, 0, none⟩ = some (.int .i64 (num4 b))) ∧ Chg (fun j => j = xb) w (w6.setCell ⟨xb, 32, none⟩ (.bool true)).drew) := ⟨⟨pb, cap, hx7, q1, q2, Nat.lt_of_lt_of_le q3 hc7.size, by rw [hc7.cell (p := ⟨pb, 0, none⟩) q3 hpx]; exact q4⟩, hc6.trans (hc7.mono fun j _ e => Or.inr e)⟩
   clear hx6 hx7 hc6 hc7 q1 q2 q3 q4 hpx
   go_wp2_with fail
   go_region
   all_goals go_wp2
   all_goals go_ret
   all_goals exact ⟨rfl, HEND.out⟩
end Go.Proofs.YtlhlmgfblbpdpaaGreatDoor
