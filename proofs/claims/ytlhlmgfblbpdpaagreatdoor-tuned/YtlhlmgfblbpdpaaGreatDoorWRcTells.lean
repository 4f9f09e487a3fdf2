import Derived.Test.YtlhlmgfblbpdpaaGreatDoorWGaw
import Derived.Test.YtlhlmgfblbpdpaaGreatDoorWGaq
import Derived.Test.YtlhlmgfblbpdpaaGreatDoorWGac
set_option linter.unusedVariables false
set_option linter.unusedSimpArgs false
/-
  Receive: the law's tells, by kinds.
-/
namespace Go.Proofs.YtlhlmgfblbpdpaaGreatDoor
set_option linter.unusedVariables false
set_option linter.unusedSimpArgs false
open Go.RowKit

set_option maxHeartbeats 400000 in
theorem kflag_z (k s : Int) (sa : Option Addr) (n cap : Nat) (w : World) :
    Calls Tryz.prog 41 #[.agg #[.int .i64 k, .int .i64 0, .int .i64 s, .slice sa n cap], .int .i64 1] w fun e w' => e = .returned (.bool false) ∧ Below w.heap.size w w' := by
  go_enter Tryz.func41, Tryz.ntmps41
  go_wp2
  go_ret
  exact ⟨rfl, (Below.refl _ _).alloc (Nat.le_refl _) _⟩
theorem XI.no_u8 {w : World} {xb eb off : Nat} {sv : Option Addr} {sn sc : Nat} {x : XM} {n : Int} (h : XI w xb (.pointer (some ⟨eb, 0, none⟩)) x (.slice sv sn sc)) : w.cell? ⟨xb, off, none⟩ ≠ some (.int .u8 n) := by
  intro hc
  rw [cell_of_row w xb _ _ _ _ h] at hc
  have hm := Array.mem_of_getElem? hc
  rw [← Array.mem_toList_iff] at hm
  simp [XM.cells, strV] at hm
theorem XI.no_bytes {w : World} {xb eb : Nat} {sv sb : Option Addr} {sn sc cb : Nat} {x : XM} {b : List UInt8} (h : XI w xb (.pointer (some ⟨eb, 0, none⟩)) x (.slice sv sn sc)) (hb : BytesIn w (.slice sb b.length cb) b) (h1 : 1 ≤ b.length) : ∀ j, (Value.slice sb b.length cb).ownBlock = some j → j ≠ xb := by
  intro j hj e
  subst e
  rcases hb with ⟨-, h2⟩ | ⟨g, off, cap, h2, -, -, h3⟩
  · rw [h2] at h1; simp at h1
  · injection h2 with h4 h5 h6
    subst h4
    have : g = j := by simpa [Value.ownBlock] using hj
    subst this
    exact h.no_u8 (h3 0 (by omega))
set_option maxRecDepth 100000 in
set_option maxHeartbeats 3200000 in
theorem ktells_cr (xb : Nat) (ev pv : Value) (x : XM) (sb : Option Addr) (cb : Nat) (b : List UInt8) (w : World) (h : XI w xb ev x pv) (hbd : XBd x) (hb : BytesIn w (.slice sb 4 cb) b) (h4 : b.length = 4) (hbn : ∀ j, (Value.slice sb 4 cb).ownBlock = some j → j ≠ xb) :
    Calls Tryz.prog 27 #[.pointer (some ⟨xb, 0, none⟩), .agg #[.int .i64 6, .int .i64 0, .int .i64 0, .slice sb 4 cb]] w fun e w' => e = .returned (.bool true) ∧ XI w' xb ev { x with credit := x.credit + num4 b } pv ∧ Chg (fun j => j = xb) w w' := by
  have hcr := hbd.cr
  clear hbd
  obtain ⟨n0, n1⟩ := num4_le b
  obtain ⟨w0, hw0⟩ : ∃ w0, w0 = w.alloc (.cells #[.int .i64 6, .int .i64 0, .int .i64 0, .slice sb 4 cb] 99) := ⟨_, rfl⟩
  have hfr : w0.heap[w.heap.size]? = some (.cells #[.int .i64 6, .int .i64 0, .int .i64 0, .slice sb 4 cb] 99 (0, 0)) := by rw [hw0]; exact heap_alloc_new w _
  have hb0 : Below w.heap.size w w0 := by rw [hw0]; exact (Below.refl _ _).alloc (Nat.le_refl _) _
  have y0 : w0.cell? ⟨w.heap.size, 0, none⟩ = some (.int .i64 6) := by rw [cell_of_row _ _ _ _ _ _ hfr]; rfl
  have y1 : w0.cell? ⟨w.heap.size, 1, none⟩ = some (.int .i64 0) := by rw [cell_of_row _ _ _ _ _ _ hfr]; rfl
  have y2 : w0.cell? ⟨w.heap.size, 2, none⟩ = some (.int .i64 0) := by rw [cell_of_row _ _ _ _ _ _ hfr]; rfl
  have y3 : w0.cell? ⟨w.heap.size, 3, none⟩ = some (.slice sb 4 cb) := by rw [cell_of_row _ _ _ _ _ _ hfr]; rfl
  have HFL := hide (fun w => kflag_z 6 0 sb 4 cb w)
  have HFR := hide hfr
  have HB0 := hide hb0
  have HW0 := hide hw0
  have HX := hide h
  have HBY := hide hb
  have HBN := hide hbn
  have HV : Hid (∀ wx, BytesIn wx (.slice sb 4 cb) b → Calls Tryz.prog 42 #[.slice sb 4 cb] wx fun e w' => e = .returned (.int .i64 (num4 b)) ∧ Below wx.heap.size wx w') := fun wx hx => kvalue_of hx h4
  have hxlt := h.lt
  clear hfr hb0 hw0 h hb hbn h4
  go_enter Tryz.func27, Tryz.ntmps27
  go_upto_region 1 with fail
  rw [← HW0.out]
  go_wp2_with fail
  refine (HFL.out _).mono ?_
  rintro e w1 ⟨rfl, hb1⟩
  have hfr1 := kept_told HFR.out hb1
  have HB1 : Hid (Below w.heap.size w w1) := HB0.out.trans (hb1.mono HB0.out.size)
  have z0 : w1.cell? ⟨w.heap.size, 0, none⟩ = some (.int .i64 6) := by rw [cell_of_row _ _ _ _ _ _ hfr1]; rfl
  have z2 : w1.cell? ⟨w.heap.size, 2, none⟩ = some (.int .i64 0) := by rw [cell_of_row _ _ _ _ _ _ hfr1]; rfl
  have z3 : w1.cell? ⟨w.heap.size, 3, none⟩ = some (.slice sb 4 cb) := by rw [cell_of_row _ _ _ _ _ _ hfr1]; rfl
  have hx1 := HX.out.below HB1.out
  have HX1 := hide hx1
  have HFR1 := hide hfr1
  clear hb1 hfr1 y0 y1 y2 y3
  have hw1 : IntKind.i64.wrap (x.credit + num4 b) = x.credit + num4 b := by rw [IntKind.wrap_i64]; omega
  have x25 : w1.cell? ⟨xb, 25, none⟩ = some (.int .i64 x.credit) := hx1.c25
  have f25 := hx1.fr 25
  have HV1 := hide (HV.out w1.drew (HBY.out.chg (Chg.of_below (S := fun _ => False) HB1.out.drew) (fun _ _ => id)))
  clear hx1
  go_wp2_with fail
  go_region_law (refine step_call rfl 42 Tryz.f42 Tryz.func42 (by kernel_rfl) rfl [.tmp 108] #[43] rfl [.slice sb 4 cb] (by simp [Act.eval, Act.put]) HV1.out ?_; rintro e w2 ⟨rfl, hb2⟩; refine ⟨_, rfl, ?_⟩; have hx2 : XI w2 xb ev x pv := (HX1.out.below (w' := w1.drew) (Below.drew (Below.refl _ _))).below hb2; have u25 : w2.cell? ⟨xb, 25, none⟩ = some (.int .i64 x.credit) := hx2.c25; have g25 := hx2.fr 25; have HX2 := hide hx2; have HB2 : Hid (Below w.heap.size w w2) := (HB1.out.drew.trans (hb2.mono HB1.out.size)); clear hx2 hb2)
  all_goals go_wp2
  all_goals go_ret
  all_goals exact ⟨rfl, HX2.out.set (x' := { x with credit := x.credit + num4 b }) (by simp [XM.cells]), chg_set (Chg.of_below HB2.out) rfl⟩
set_option maxRecDepth 100000 in
set_option maxHeartbeats 3200000 in
theorem ktells_set (xb : Nat) (ev pv : Value) (x : XM) (sb : Option Addr) (cb : Nat) (b : List UInt8) (w : World) (h : XI w xb ev x pv) (hw : x.waits = false) (hb : BytesIn w (.slice sb 4 cb) b) (h4 : b.length = 4) (hbn : ∀ j, (Value.slice sb 4 cb).ownBlock = some j → j ≠ xb) :
    Calls Tryz.prog 27 #[.pointer (some ⟨xb, 0, none⟩), .agg #[.int .i64 3, .int .i64 0, .int .i64 0, .slice sb 4 cb]] w fun e w' => e = .returned (.bool true) ∧ XI w' xb ev { x with told := num4 b, waits := true } pv ∧ Chg (fun j => j = xb) w w' := by
  obtain ⟨n0, n1⟩ := num4_le b
  obtain ⟨w0, hw0⟩ : ∃ w0, w0 = w.alloc (.cells #[.int .i64 3, .int .i64 0, .int .i64 0, .slice sb 4 cb] 99) := ⟨_, rfl⟩
  have hfr : w0.heap[w.heap.size]? = some (.cells #[.int .i64 3, .int .i64 0, .int .i64 0, .slice sb 4 cb] 99 (0, 0)) := by rw [hw0]; exact heap_alloc_new w _
  have hb0 : Below w.heap.size w w0 := by rw [hw0]; exact (Below.refl _ _).alloc (Nat.le_refl _) _
  have y0 : w0.cell? ⟨w.heap.size, 0, none⟩ = some (.int .i64 3) := by rw [cell_of_row _ _ _ _ _ _ hfr]; rfl
  have y1 : w0.cell? ⟨w.heap.size, 1, none⟩ = some (.int .i64 0) := by rw [cell_of_row _ _ _ _ _ _ hfr]; rfl
  have y2 : w0.cell? ⟨w.heap.size, 2, none⟩ = some (.int .i64 0) := by rw [cell_of_row _ _ _ _ _ _ hfr]; rfl
  have y3 : w0.cell? ⟨w.heap.size, 3, none⟩ = some (.slice sb 4 cb) := by rw [cell_of_row _ _ _ _ _ _ hfr]; rfl
  have HFL := hide (fun w => kflag_z 3 0 sb 4 cb w)
  have HFR := hide hfr
  have HB0 := hide hb0
  have HW0 := hide hw0
  have HX := hide h
  have HBY := hide hb
  have HBN := hide hbn
  have HV : Hid (∀ wx, BytesIn wx (.slice sb 4 cb) b → Calls Tryz.prog 42 #[.slice sb 4 cb] wx fun e w' => e = .returned (.int .i64 (num4 b)) ∧ Below wx.heap.size wx w') := fun wx hx => kvalue_of hx h4
  have hxlt := h.lt
  clear hfr hb0 hw0 h hb hbn h4
  go_enter Tryz.func27, Tryz.ntmps27
  go_upto_region 1 with fail
  rw [← HW0.out]
  go_wp2_with fail
  refine (HFL.out _).mono ?_
  rintro e w1 ⟨rfl, hb1⟩
  have hfr1 := kept_told HFR.out hb1
  have HB1 : Hid (Below w.heap.size w w1) := HB0.out.trans (hb1.mono HB0.out.size)
  have z0 : w1.cell? ⟨w.heap.size, 0, none⟩ = some (.int .i64 3) := by rw [cell_of_row _ _ _ _ _ _ hfr1]; rfl
  have z2 : w1.cell? ⟨w.heap.size, 2, none⟩ = some (.int .i64 0) := by rw [cell_of_row _ _ _ _ _ _ hfr1]; rfl
  have z3 : w1.cell? ⟨w.heap.size, 3, none⟩ = some (.slice sb 4 cb) := by rw [cell_of_row _ _ _ _ _ _ hfr1]; rfl
  have hx1 := HX.out.below HB1.out
  have HX1 := hide hx1
  have HFR1 := hide hfr1
  clear hb1 hfr1 y0 y1 y2 y3
  have HV1 := hide (HV.out w1 (HBY.out.chg (Chg.of_below (S := fun _ => False) HB1.out) (fun _ _ => id)))
  clear hx1
  go_wp2_with fail
  refine HV1.out.mono ?_
  rintro e w2 ⟨rfl, hb2⟩
  have hx2 := HX1.out.below hb2
  have HB2 : Hid (Below w.heap.size w w2) := HB1.out.trans (hb2.mono HB1.out.size)
  have x22 : w2.cell? ⟨xb, 22, none⟩ = some (.int .i64 x.told) := hx2.c22
  have x23 : w2.cell? ⟨xb, 23, none⟩ = some (.bool false) := by rw [hx2.c23, hw]
  have f22 := hx2.fr 22
  have f23 := hx2.fr 23
  have hx3 : XI (w2.setCell ⟨xb, 22, none⟩ (.int .i64 (num4 b))) xb ev { x with told := num4 b } pv := hx2.set (by simp [XM.cells])
  have HX3 := hide hx3
  have HX4 : Hid (XI ((w2.setCell ⟨xb, 22, none⟩ (.int .i64 (num4 b))).setCell ⟨xb, 23, none⟩ (.bool true)) xb ev { x with told := num4 b, waits := true } pv) := hx3.set (by simp [XM.cells])
  clear hb2 hx2 hx3
  go_wp2
  go_ret
  exact ⟨rfl, HX4.out, chg_set (chg_set (Chg.of_below HB2.out) rfl) rfl⟩
set_option maxRecDepth 100000 in
set_option maxHeartbeats 3200000 in
theorem ktells_l0 (xb : Nat) (ev pv : Value) (x : XM) (sb : Option Addr) (cb : Nat) (b : List UInt8) (w : World) (h : XI w xb ev x pv) (hbd : XBd x) (hb : BytesIn w (.slice sb 4 cb) b) (h4 : b.length = 4) (hbn : ∀ j, (Value.slice sb 4 cb).ownBlock = some j → j ≠ xb) :
    Calls Tryz.prog 27 #[.pointer (some ⟨xb, 0, none⟩), .agg #[.int .i64 6, .int .i64 0, .int .i64 1, .slice sb 4 cb]] w fun e w' => e = .returned (.bool true) ∧ XI w' xb ev { x with ln := updL x.ln 0 { x.ln 0 with credit := (x.ln 0).credit + num4 b } } pv ∧ Chg (fun j => j = xb) w w' := by
  have hcr := hbd.lc 0 (by omega)
  clear hbd
  obtain ⟨n0, n1⟩ := num4_le b
  obtain ⟨w0, hw0⟩ : ∃ w0, w0 = w.alloc (.cells #[.int .i64 6, .int .i64 0, .int .i64 1, .slice sb 4 cb] 99) := ⟨_, rfl⟩
  have hfr : w0.heap[w.heap.size]? = some (.cells #[.int .i64 6, .int .i64 0, .int .i64 1, .slice sb 4 cb] 99 (0, 0)) := by rw [hw0]; exact heap_alloc_new w _
  have hb0 : Below w.heap.size w w0 := by rw [hw0]; exact (Below.refl _ _).alloc (Nat.le_refl _) _
  have y0 : w0.cell? ⟨w.heap.size, 0, none⟩ = some (.int .i64 6) := by rw [cell_of_row _ _ _ _ _ _ hfr]; rfl
  have y1 : w0.cell? ⟨w.heap.size, 1, none⟩ = some (.int .i64 0) := by rw [cell_of_row _ _ _ _ _ _ hfr]; rfl
  have y2 : w0.cell? ⟨w.heap.size, 2, none⟩ = some (.int .i64 1) := by rw [cell_of_row _ _ _ _ _ _ hfr]; rfl
  have y3 : w0.cell? ⟨w.heap.size, 3, none⟩ = some (.slice sb 4 cb) := by rw [cell_of_row _ _ _ _ _ _ hfr]; rfl
  have HFL := hide (fun w => kflag_z 6 1 sb 4 cb w)
  have HFR := hide hfr
  have HB0 := hide hb0
  have HW0 := hide hw0
  have HX := hide h
  have HBY := hide hb
  have HBN := hide hbn
  have HV : Hid (∀ wx, BytesIn wx (.slice sb 4 cb) b → Calls Tryz.prog 42 #[.slice sb 4 cb] wx fun e w' => e = .returned (.int .i64 (num4 b)) ∧ Below wx.heap.size wx w') := fun wx hx => kvalue_of hx h4
  have hxlt := h.lt
  clear hfr hb0 hw0 h hb hbn h4
  go_enter Tryz.func27, Tryz.ntmps27
  go_upto_region 1 with fail
  rw [← HW0.out]
  go_wp2_with fail
  refine (HFL.out _).mono ?_
  rintro e w1 ⟨rfl, hb1⟩
  have hfr1 := kept_told HFR.out hb1
  have HB1 : Hid (Below w.heap.size w w1) := HB0.out.trans (hb1.mono HB0.out.size)
  have z0 : w1.cell? ⟨w.heap.size, 0, none⟩ = some (.int .i64 6) := by rw [cell_of_row _ _ _ _ _ _ hfr1]; rfl
  have z2 : w1.cell? ⟨w.heap.size, 2, none⟩ = some (.int .i64 1) := by rw [cell_of_row _ _ _ _ _ _ hfr1]; rfl
  have z3 : w1.cell? ⟨w.heap.size, 3, none⟩ = some (.slice sb 4 cb) := by rw [cell_of_row _ _ _ _ _ _ hfr1]; rfl
  have hx1 := HX.out.below HB1.out
  have HX1 := hide hx1
  have HFR1 := hide hfr1
  clear hb1 hfr1 y0 y1 y2 y3
  have hw1 : IntKind.i64.wrap ((x.ln 0).credit + num4 b) = (x.ln 0).credit + num4 b := by rw [IntKind.wrap_i64]; omega
  have x25 : w1.cell? ⟨xb, 8, none⟩ = some (.int .i64 (x.ln 0).credit) := hx1.c8
  have f25 := hx1.fr 8
  have HV1 := hide (HV.out w1.drew (HBY.out.chg (Chg.of_below (S := fun _ => False) HB1.out.drew) (fun _ _ => id)))
  clear hx1
  go_wp2_with fail
  go_region_law (refine step_call rfl 42 Tryz.f42 Tryz.func42 (by kernel_rfl) rfl [.tmp 139] #[43] rfl [.slice sb 4 cb] (by simp [Act.eval, Act.put]) HV1.out ?_; rintro e w2 ⟨rfl, hb2⟩; refine ⟨_, rfl, ?_⟩; have hx2 : XI w2 xb ev x pv := (HX1.out.below (w' := w1.drew) (Below.drew (Below.refl _ _))).below hb2; have u25 : w2.cell? ⟨xb, 8, none⟩ = some (.int .i64 (x.ln 0).credit) := hx2.c8; have g25 := hx2.fr 8; have HX2 := hide hx2; have HB2 : Hid (Below w.heap.size w w2) := (HB1.out.drew.trans (hb2.mono HB1.out.size)); clear hx2 hb2)
  all_goals go_wp2
  all_goals go_ret
  all_goals exact ⟨rfl, HX2.out.set (x' := { x with ln := updL x.ln 0 { x.ln 0 with credit := (x.ln 0).credit + num4 b } }) (by simp [XM.cells, updL]), chg_set (Chg.of_below HB2.out) rfl⟩
set_option maxRecDepth 100000 in
set_option maxHeartbeats 3200000 in
theorem ktells_l1 (xb : Nat) (ev pv : Value) (x : XM) (sb : Option Addr) (cb : Nat) (b : List UInt8) (w : World) (h : XI w xb ev x pv) (hbd : XBd x) (hb : BytesIn w (.slice sb 4 cb) b) (h4 : b.length = 4) (hbn : ∀ j, (Value.slice sb 4 cb).ownBlock = some j → j ≠ xb) :
    Calls Tryz.prog 27 #[.pointer (some ⟨xb, 0, none⟩), .agg #[.int .i64 6, .int .i64 0, .int .i64 3, .slice sb 4 cb]] w fun e w' => e = .returned (.bool true) ∧ XI w' xb ev { x with ln := updL x.ln 1 { x.ln 1 with credit := (x.ln 1).credit + num4 b } } pv ∧ Chg (fun j => j = xb) w w' := by
  have hcr := hbd.lc 1 (by omega)
  clear hbd
  obtain ⟨n0, n1⟩ := num4_le b
  obtain ⟨w0, hw0⟩ : ∃ w0, w0 = w.alloc (.cells #[.int .i64 6, .int .i64 0, .int .i64 3, .slice sb 4 cb] 99) := ⟨_, rfl⟩
  have hfr : w0.heap[w.heap.size]? = some (.cells #[.int .i64 6, .int .i64 0, .int .i64 3, .slice sb 4 cb] 99 (0, 0)) := by rw [hw0]; exact heap_alloc_new w _
  have hb0 : Below w.heap.size w w0 := by rw [hw0]; exact (Below.refl _ _).alloc (Nat.le_refl _) _
  have y0 : w0.cell? ⟨w.heap.size, 0, none⟩ = some (.int .i64 6) := by rw [cell_of_row _ _ _ _ _ _ hfr]; rfl
  have y1 : w0.cell? ⟨w.heap.size, 1, none⟩ = some (.int .i64 0) := by rw [cell_of_row _ _ _ _ _ _ hfr]; rfl
  have y2 : w0.cell? ⟨w.heap.size, 2, none⟩ = some (.int .i64 3) := by rw [cell_of_row _ _ _ _ _ _ hfr]; rfl
  have y3 : w0.cell? ⟨w.heap.size, 3, none⟩ = some (.slice sb 4 cb) := by rw [cell_of_row _ _ _ _ _ _ hfr]; rfl
  have HFL := hide (fun w => kflag_z 6 3 sb 4 cb w)
  have HFR := hide hfr
  have HB0 := hide hb0
  have HW0 := hide hw0
  have HX := hide h
  have HBY := hide hb
  have HBN := hide hbn
  have HV : Hid (∀ wx, BytesIn wx (.slice sb 4 cb) b → Calls Tryz.prog 42 #[.slice sb 4 cb] wx fun e w' => e = .returned (.int .i64 (num4 b)) ∧ Below wx.heap.size wx w') := fun wx hx => kvalue_of hx h4
  have hxlt := h.lt
  clear hfr hb0 hw0 h hb hbn h4
  go_enter Tryz.func27, Tryz.ntmps27
  go_upto_region 1 with fail
  rw [← HW0.out]
  go_wp2_with fail
  refine (HFL.out _).mono ?_
  rintro e w1 ⟨rfl, hb1⟩
  have hfr1 := kept_told HFR.out hb1
  have HB1 : Hid (Below w.heap.size w w1) := HB0.out.trans (hb1.mono HB0.out.size)
  have z0 : w1.cell? ⟨w.heap.size, 0, none⟩ = some (.int .i64 6) := by rw [cell_of_row _ _ _ _ _ _ hfr1]; rfl
  have z2 : w1.cell? ⟨w.heap.size, 2, none⟩ = some (.int .i64 3) := by rw [cell_of_row _ _ _ _ _ _ hfr1]; rfl
  have z3 : w1.cell? ⟨w.heap.size, 3, none⟩ = some (.slice sb 4 cb) := by rw [cell_of_row _ _ _ _ _ _ hfr1]; rfl
  have hx1 := HX.out.below HB1.out
  have HX1 := hide hx1
  have HFR1 := hide hfr1
  clear hb1 hfr1 y0 y1 y2 y3
  have hw1 : IntKind.i64.wrap ((x.ln 1).credit + num4 b) = (x.ln 1).credit + num4 b := by rw [IntKind.wrap_i64]; omega
  have x25 : w1.cell? ⟨xb, 12, none⟩ = some (.int .i64 (x.ln 1).credit) := hx1.c12
  have f25 := hx1.fr 12
  have HV1 := hide (HV.out w1.drew (HBY.out.chg (Chg.of_below (S := fun _ => False) HB1.out.drew) (fun _ _ => id)))
  clear hx1
  go_wp2_with fail
  go_region_law (refine step_call rfl 42 Tryz.f42 Tryz.func42 (by kernel_rfl) rfl [.tmp 139] #[43] rfl [.slice sb 4 cb] (by simp [Act.eval, Act.put]) HV1.out ?_; rintro e w2 ⟨rfl, hb2⟩; refine ⟨_, rfl, ?_⟩; have hx2 : XI w2 xb ev x pv := (HX1.out.below (w' := w1.drew) (Below.drew (Below.refl _ _))).below hb2; have u25 : w2.cell? ⟨xb, 12, none⟩ = some (.int .i64 (x.ln 1).credit) := hx2.c12; have g25 := hx2.fr 12; have HX2 := hide hx2; have HB2 : Hid (Below w.heap.size w w2) := (HB1.out.drew.trans (hb2.mono HB1.out.size)); clear hx2 hb2)
  all_goals go_wp2
  all_goals go_ret
  all_goals exact ⟨rfl, HX2.out.set (x' := { x with ln := updL x.ln 1 { x.ln 1 with credit := (x.ln 1).credit + num4 b } }) (by simp [XM.cells, updL]), chg_set (Chg.of_below HB2.out) rfl⟩
set_option maxRecDepth 100000 in
set_option maxHeartbeats 3200000 in
theorem ktells_l2 (xb : Nat) (ev pv : Value) (x : XM) (sb : Option Addr) (cb : Nat) (b : List UInt8) (w : World) (h : XI w xb ev x pv) (hbd : XBd x) (hb : BytesIn w (.slice sb 4 cb) b) (h4 : b.length = 4) (hbn : ∀ j, (Value.slice sb 4 cb).ownBlock = some j → j ≠ xb) :
    Calls Tryz.prog 27 #[.pointer (some ⟨xb, 0, none⟩), .agg #[.int .i64 6, .int .i64 0, .int .i64 5, .slice sb 4 cb]] w fun e w' => e = .returned (.bool true) ∧ XI w' xb ev { x with ln := updL x.ln 2 { x.ln 2 with credit := (x.ln 2).credit + num4 b } } pv ∧ Chg (fun j => j = xb) w w' := by
  have hcr := hbd.lc 2 (by omega)
  clear hbd
  obtain ⟨n0, n1⟩ := num4_le b
  obtain ⟨w0, hw0⟩ : ∃ w0, w0 = w.alloc (.cells #[.int .i64 6, .int .i64 0, .int .i64 5, .slice sb 4 cb] 99) := ⟨_, rfl⟩
  have hfr : w0.heap[w.heap.size]? = some (.cells #[.int .i64 6, .int .i64 0, .int .i64 5, .slice sb 4 cb] 99 (0, 0)) := by rw [hw0]; exact heap_alloc_new w _
  have hb0 : Below w.heap.size w w0 := by rw [hw0]; exact (Below.refl _ _).alloc (Nat.le_refl _) _
  have y0 : w0.cell? ⟨w.heap.size, 0, none⟩ = some (.int .i64 6) := by rw [cell_of_row _ _ _ _ _ _ hfr]; rfl
  have y1 : w0.cell? ⟨w.heap.size, 1, none⟩ = some (.int .i64 0) := by rw [cell_of_row _ _ _ _ _ _ hfr]; rfl
  have y2 : w0.cell? ⟨w.heap.size, 2, none⟩ = some (.int .i64 5) := by rw [cell_of_row _ _ _ _ _ _ hfr]; rfl
  have y3 : w0.cell? ⟨w.heap.size, 3, none⟩ = some (.slice sb 4 cb) := by rw [cell_of_row _ _ _ _ _ _ hfr]; rfl
  have HFL := hide (fun w => kflag_z 6 5 sb 4 cb w)
  have HFR := hide hfr
  have HB0 := hide hb0
  have HW0 := hide hw0
  have HX := hide h
  have HBY := hide hb
  have HBN := hide hbn
  have HV : Hid (∀ wx, BytesIn wx (.slice sb 4 cb) b → Calls Tryz.prog 42 #[.slice sb 4 cb] wx fun e w' => e = .returned (.int .i64 (num4 b)) ∧ Below wx.heap.size wx w') := fun wx hx => kvalue_of hx h4
  have hxlt := h.lt
  clear hfr hb0 hw0 h hb hbn h4
  go_enter Tryz.func27, Tryz.ntmps27
  go_upto_region 1 with fail
  rw [← HW0.out]
  go_wp2_with fail
  refine (HFL.out _).mono ?_
  rintro e w1 ⟨rfl, hb1⟩
  have hfr1 := kept_told HFR.out hb1
  have HB1 : Hid (Below w.heap.size w w1) := HB0.out.trans (hb1.mono HB0.out.size)
  have z0 : w1.cell? ⟨w.heap.size, 0, none⟩ = some (.int .i64 6) := by rw [cell_of_row _ _ _ _ _ _ hfr1]; rfl
  have z2 : w1.cell? ⟨w.heap.size, 2, none⟩ = some (.int .i64 5) := by rw [cell_of_row _ _ _ _ _ _ hfr1]; rfl
  have z3 : w1.cell? ⟨w.heap.size, 3, none⟩ = some (.slice sb 4 cb) := by rw [cell_of_row _ _ _ _ _ _ hfr1]; rfl
  have hx1 := HX.out.below HB1.out
  have HX1 := hide hx1
  have HFR1 := hide hfr1
  clear hb1 hfr1 y0 y1 y2 y3
  have hw1 : IntKind.i64.wrap ((x.ln 2).credit + num4 b) = (x.ln 2).credit + num4 b := by rw [IntKind.wrap_i64]; omega
  have x25 : w1.cell? ⟨xb, 16, none⟩ = some (.int .i64 (x.ln 2).credit) := hx1.c16
  have f25 := hx1.fr 16
  have HV1 := hide (HV.out w1.drew (HBY.out.chg (Chg.of_below (S := fun _ => False) HB1.out.drew) (fun _ _ => id)))
  clear hx1
  go_wp2_with fail
  go_region_law (refine step_call rfl 42 Tryz.f42 Tryz.func42 (by kernel_rfl) rfl [.tmp 139] #[43] rfl [.slice sb 4 cb] (by simp [Act.eval, Act.put]) HV1.out ?_; rintro e w2 ⟨rfl, hb2⟩; refine ⟨_, rfl, ?_⟩; have hx2 : XI w2 xb ev x pv := (HX1.out.below (w' := w1.drew) (Below.drew (Below.refl _ _))).below hb2; have u25 : w2.cell? ⟨xb, 16, none⟩ = some (.int .i64 (x.ln 2).credit) := hx2.c16; have g25 := hx2.fr 16; have HX2 := hide hx2; have HB2 : Hid (Below w.heap.size w w2) := (HB1.out.drew.trans (hb2.mono HB1.out.size)); clear hx2 hb2)
  all_goals go_wp2
  all_goals go_ret
  all_goals exact ⟨rfl, HX2.out.set (x' := { x with ln := updL x.ln 2 { x.ln 2 with credit := (x.ln 2).credit + num4 b } }) (by simp [XM.cells, updL]), chg_set (Chg.of_below HB2.out) rfl⟩
set_option maxRecDepth 100000 in
set_option maxHeartbeats 3200000 in
theorem ktells_l3 (xb : Nat) (ev pv : Value) (x : XM) (sb : Option Addr) (cb : Nat) (b : List UInt8) (w : World) (h : XI w xb ev x pv) (hbd : XBd x) (hb : BytesIn w (.slice sb 4 cb) b) (h4 : b.length = 4) (hbn : ∀ j, (Value.slice sb 4 cb).ownBlock = some j → j ≠ xb) :
    Calls Tryz.prog 27 #[.pointer (some ⟨xb, 0, none⟩), .agg #[.int .i64 6, .int .i64 0, .int .i64 7, .slice sb 4 cb]] w fun e w' => e = .returned (.bool true) ∧ XI w' xb ev { x with ln := updL x.ln 3 { x.ln 3 with credit := (x.ln 3).credit + num4 b } } pv ∧ Chg (fun j => j = xb) w w' := by
  have hcr := hbd.lc 3 (by omega)
  clear hbd
  obtain ⟨n0, n1⟩ := num4_le b
  obtain ⟨w0, hw0⟩ : ∃ w0, w0 = w.alloc (.cells #[.int .i64 6, .int .i64 0, .int .i64 7, .slice sb 4 cb] 99) := ⟨_, rfl⟩
  have hfr : w0.heap[w.heap.size]? = some (.cells #[.int .i64 6, .int .i64 0, .int .i64 7, .slice sb 4 cb] 99 (0, 0)) := by rw [hw0]; exact heap_alloc_new w _
  have hb0 : Below w.heap.size w w0 := by rw [hw0]; exact (Below.refl _ _).alloc (Nat.le_refl _) _
  have y0 : w0.cell? ⟨w.heap.size, 0, none⟩ = some (.int .i64 6) := by rw [cell_of_row _ _ _ _ _ _ hfr]; rfl
  have y1 : w0.cell? ⟨w.heap.size, 1, none⟩ = some (.int .i64 0) := by rw [cell_of_row _ _ _ _ _ _ hfr]; rfl
  have y2 : w0.cell? ⟨w.heap.size, 2, none⟩ = some (.int .i64 7) := by rw [cell_of_row _ _ _ _ _ _ hfr]; rfl
  have y3 : w0.cell? ⟨w.heap.size, 3, none⟩ = some (.slice sb 4 cb) := by rw [cell_of_row _ _ _ _ _ _ hfr]; rfl
  have HFL := hide (fun w => kflag_z 6 7 sb 4 cb w)
  have HFR := hide hfr
  have HB0 := hide hb0
  have HW0 := hide hw0
  have HX := hide h
  have HBY := hide hb
  have HBN := hide hbn
  have HV : Hid (∀ wx, BytesIn wx (.slice sb 4 cb) b → Calls Tryz.prog 42 #[.slice sb 4 cb] wx fun e w' => e = .returned (.int .i64 (num4 b)) ∧ Below wx.heap.size wx w') := fun wx hx => kvalue_of hx h4
  have hxlt := h.lt
  clear hfr hb0 hw0 h hb hbn h4
  go_enter Tryz.func27, Tryz.ntmps27
  go_upto_region 1 with fail
  rw [← HW0.out]
  go_wp2_with fail
  refine (HFL.out _).mono ?_
  rintro e w1 ⟨rfl, hb1⟩
  have hfr1 := kept_told HFR.out hb1
  have HB1 : Hid (Below w.heap.size w w1) := HB0.out.trans (hb1.mono HB0.out.size)
  have z0 : w1.cell? ⟨w.heap.size, 0, none⟩ = some (.int .i64 6) := by rw [cell_of_row _ _ _ _ _ _ hfr1]; rfl
  have z2 : w1.cell? ⟨w.heap.size, 2, none⟩ = some (.int .i64 7) := by rw [cell_of_row _ _ _ _ _ _ hfr1]; rfl
  have z3 : w1.cell? ⟨w.heap.size, 3, none⟩ = some (.slice sb 4 cb) := by rw [cell_of_row _ _ _ _ _ _ hfr1]; rfl
  have hx1 := HX.out.below HB1.out
  have HX1 := hide hx1
  have HFR1 := hide hfr1
  clear hb1 hfr1 y0 y1 y2 y3
  have hw1 : IntKind.i64.wrap ((x.ln 3).credit + num4 b) = (x.ln 3).credit + num4 b := by rw [IntKind.wrap_i64]; omega
  have x25 : w1.cell? ⟨xb, 20, none⟩ = some (.int .i64 (x.ln 3).credit) := hx1.c20
  have f25 := hx1.fr 20
  have HV1 := hide (HV.out w1.drew (HBY.out.chg (Chg.of_below (S := fun _ => False) HB1.out.drew) (fun _ _ => id)))
  clear hx1
  go_wp2_with fail
  go_region_law (refine step_call rfl 42 Tryz.f42 Tryz.func42 (by kernel_rfl) rfl [.tmp 139] #[43] rfl [.slice sb 4 cb] (by simp [Act.eval, Act.put]) HV1.out ?_; rintro e w2 ⟨rfl, hb2⟩; refine ⟨_, rfl, ?_⟩; have hx2 : XI w2 xb ev x pv := (HX1.out.below (w' := w1.drew) (Below.drew (Below.refl _ _))).below hb2; have u25 : w2.cell? ⟨xb, 20, none⟩ = some (.int .i64 (x.ln 3).credit) := hx2.c20; have g25 := hx2.fr 20; have HX2 := hide hx2; have HB2 : Hid (Below w.heap.size w w2) := (HB1.out.drew.trans (hb2.mono HB1.out.size)); clear hx2 hb2)
  all_goals go_wp2
  all_goals go_ret
  all_goals exact ⟨rfl, HX2.out.set (x' := { x with ln := updL x.ln 3 { x.ln 3 with credit := (x.ln 3).credit + num4 b } }) (by simp [XM.cells, updL]), chg_set (Chg.of_below HB2.out) rfl⟩
end Go.Proofs.YtlhlmgfblbpdpaaGreatDoor
