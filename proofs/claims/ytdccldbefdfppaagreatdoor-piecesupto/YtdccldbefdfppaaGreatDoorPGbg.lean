import Derived.Test.YtdccldbefdfppaaGreatDoorPGbe
set_option linter.unusedVariables false
set_option linter.unusedSimpArgs false
namespace Go.Proofs.YtdccldbefdfppaaGreatDoor
open Go.RowKit
section
theorem mod128 (x : UInt8) : ((ofI ((x.toNat : Int) % 128)).toNat : Int) = (x.toNat : Int) % 128 := ofI_toNat (by omega) (by omega)
theorem four_of {l : List UInt8} (h : l.length = 4) : ∃ x0 x1 x2 x3, l = [x0, x1, x2, x3] := by
 match l, h with
 | [x0, x1, x2, x3], _ => exact ⟨x0, x1, x2, x3, rfl⟩
set_option maxHeartbeats 1600000 in
theorem tb3b_short (f s : Int) (sa : Option Addr) (l : List UInt8) (cap : Nat) (w : World) (h0 : 0 ≤ f) (h1 : f < 256) (hlen : l.length ≤ 64) (hf1 : hasB f 1 = false)
  (hb : BytesA w (.slice sa l.length cap) l) :
  Calls Tryz.prog 29 #[.agg #[.int .i64 3, .int .i64 f, .int .i64 s, .slice none 0 0], .slice sa l.length cap] w fun e w' => Tamed w w' 3 f e := by
 have hbx : BytesA (w.alloc (.cells #[.int .i64 3, .int .i64 f, .int .i64 s, .slice none 0 0] 48)) (.slice sa l.length cap) l := BytesA.chg (hb) ((Chg.refl (fun _ => False) w).alloc _)
 have HB : Hid (BytesA (w.alloc (.cells #[.int .i64 3, .int .i64 f, .int .i64 s, .slice none 0 0] 48)) (.slice sa l.length cap) l) := hbx
 have hLL : Hid (l.length = l.length) := by show _ = _; rfl
 clear hbx hb
 have H1 : Hid (hasB f 1 = false) := hf1
 clear hf1
 go_enter Tryz.func29, Tryz.ntmps29
 go_wp2_with fail
 have hfx := fixed_any sa l cap l.length (w.alloc (.cells #[.int .i64 3, .int .i64 f, .int .i64 s, .slice none 0 0] 48)) hlen HB.out
 refine hfx.mono ?_
 clear hfx
 rintro e w1 ⟨g1, cap1, rfl, hown1, hb1⟩
 have hbl1 : Below w.heap.size w w1 := ((Below.refl _ _).alloc (Nat.le_refl _) _).trans (hb1.mono (by simp))
 have hfb1 : w1.heap[w.heap.size]? = some (.cells #[.int .i64 3, .int .i64 f, .int .i64 s, .slice none 0 0] 48) := by rw [hb1.block _ (by simp)]; exact heap_alloc_new w _
 have hown1' := owns_base hown1 (base' := w.heap.size) (fun j hj => by have := (hown1.lt j hj).1; simp at this; omega)
 obtain ⟨y0, y1, y2, y3, -⟩ := frame_block hfb1
 have hlt1 := lt_of_block hfb1
 clear hown1 hb1
 go_wp2_with fail
 refine (kflag_any 3 f s 1 none 0 0 w1 h0 h1 (Or.inl rfl)).mono ?_
 rintro e w2 ⟨he, hb2⟩
 rw [H1.out] at he
 subst he
 have hfb2 : w2.heap[w.heap.size]? = some (.cells #[.int .i64 3, .int .i64 f, .int .i64 s, .slice none 0 0] 48) := by rw [hb2.block _ hlt1]; exact hfb1
 have hbl2 := hbl1.trans (hb2.mono hbl1.size)
 have hown2 := owns_chg hown1' (Chg.of_below (S := fun _ => False) hb2) (fun _ _ => id)
 clear y0 y1 y2 y3 hown1' hfb1
 obtain ⟨y0, y1, y2, y3, -⟩ := frame_block hfb2
 have hlt2 := lt_of_block hfb2
 go_wp2_with fail
 refine (kflag_any 3 f s 8 none 0 0 w2 h0 h1 (Or.inr rfl)).mono ?_
 rintro e w3 ⟨he, hb3⟩
 subst he
 have hfb3 : w3.heap[w.heap.size]? = some (.cells #[.int .i64 3, .int .i64 f, .int .i64 s, .slice none 0 0] 48) := by rw [hb3.block _ hlt2]; exact hfb2
 have hbl3 := hbl2.trans (hb3.mono hbl2.size)
 have hown3 := owns_chg hown2 (Chg.of_below (S := fun _ => False) hb3) (fun _ _ => id)
 clear y0 y1 y2 y3 hown2 hfb2
 obtain ⟨y0, y1, y2, y3, -⟩ := frame_block hfb3
 have hlt3 := lt_of_block hfb3
 have hblk : ∀ j, j < (w.alloc (.cells #[.int .i64 3, .int .i64 f, .int .i64 s, .slice none 0 0] 48)).heap.size → w3.heap[j]? = (w.alloc (.cells #[.int .i64 3, .int .i64 f, .int .i64 s, .slice none 0 0] 48)).heap[j]? := fun j hj => by
  rw [World.size_alloc] at hj
  rcases Nat.lt_or_ge j w.heap.size with h | h
  ·rw [hbl3.block j h, Below.heap_alloc _ _ _ h]
  ·have : j = w.heap.size := by omega
   subst this
   rw [hfb3]; exact (heap_alloc_new w _).symm
 have hb3x : BytesA w3 (.slice sa l.length cap) l := HB.out.chg (Chg.mk (S := fun _ => False) hbl3.os hbl3.tape hbl3.output (by simp; omega) (fun j hj _ => hblk j hj))
 have hfx := fixed_any sa l cap 4 w3 (by omega) hb3x
 clear hb3x hblk
 go_wp2_with fail
 refine hfx.mono ?_
 clear hfx
 rintro e w4 ⟨g4, cap4, rfl, hown4, hb4⟩
 have hbl4 := hbl3.trans (hb4.mono hbl3.size)
 have hown4' := owns_base hown4 (base' := w.heap.size) (fun j hj => by have := (hown4.lt j hj).1; have := hbl3.size; omega)
 obtain ⟨x0, x1, x2, x3, hx⟩ := four_of (fixedL_length l 4)
 rw [hx] at hown4'
 have q0 := tb_cell hown4' (j := 0) (by omega)
 have r0 := hown4'.frozenAt 0
 have hs4 := tb_set hown4' 0 (ofI ((x0.toNat : Int) % 128))
 obtain ⟨x0', hx0'⟩ : ∃ y, y = ofI ((x0.toNat : Int) % 128) := ⟨_, rfl⟩
 have hmod : (x0'.toNat : Int) = (x0.toNat : Int) % 128 := by rw [hx0']; exact mod128 x0
 have hlt : x0'.toNat < 128 := by omega
 rw [← hx0'] at hs4
 have hbm : B x0' = .int .u8 ((x0.toNat : Int) % 128) := by unfold B; rw [hmod]
 rw [hbm] at hs4
 obtain ⟨w5, hw5⟩ : ∃ w5, w4.setCell ⟨g4, 0, none⟩ (.int .u8 ((x0.toNat : Int) % 128)) = w5 := ⟨_, rfl⟩
 rw [hw5] at hs4
 simp only [List.set_cons_zero] at hs4
 have hg4 : w.heap.size ≤ g4 := (hown4'.lt g4 rfl).1
 have hbl5 : Below w.heap.size w w5 := by rw [← hw5]; exact hbl4.setCell hg4 _
 have p0 := tb_cell hs4 (j := 0) (by omega)
 have p1 := tb_cell hs4 (j := 1) (by omega)
 have p2 := tb_cell hs4 (j := 2) (by omega)
 have p3 := tb_cell hs4 (j := 3) (by omega)
 have r3 := hs4.frozenAt 3
 simp only [List.getD_cons_zero] at q0
 have HM : Hid ((x0'.toNat : Int) = (x0.toNat : Int) % 128) := hmod
 clear hmod hbm hx0' hx hown4' hown4
 go_wp2_with fail
 refine (value_any g4 0 4 cap4 x0' x1 x2 x3 w5 (by omega) (by simpa using p0) (by simpa using p1) (by simpa using p2) (by simpa using p3)).mono ?_
 rintro e w6 ⟨rfl, m6, rfl⟩
 have h1' := x1.toNat_lt
 have h2' := x2.toNat_lt
 have h3' := x3.toNat_lt
 have hs6 : (w5.drewN m6).ownsRow w.heap.size 5 1 (.slice (some ⟨g4, 0, none⟩) 4 cap4) 4 ([x0', x1, x2, x3].map B) := hs4
 by_cases hz : be4 x0' x1 x2 x3 = 0
 ·have hzb : (be4 x0' x1 x2 x3 == 0) = true := by simp [hz]
  have HZ : Hid (be4 x0' x1 x2 x3 = 0) := hz
  clear hz
  simp only [List.getD_cons_zero, List.getD_cons_succ] at p3
  go_wp2
  go_ret
  have h9 := tb_set hs6 3 1
  refine ⟨_, [x0', x1, x2, 1], rfl, h9, tb_num (Or.inl ⟨rfl, H1.out⟩) ?_ ?_, (below_drewN hbl5 m6).setCell hg4 _⟩
  ·have := HZ.out; unfold be4 at this ⊢; simp; omega
  ·have := HZ.out; unfold be4 at this ⊢; simp; omega
 ·have hzb : (be4 x0' x1 x2 x3 == 0) = false := by simp [hz]
  have HZ : Hid (¬ be4 x0' x1 x2 x3 = 0) := hz
  clear hz
  go_wp2
  go_ret
  refine ⟨_, [x0', x1, x2, x3], rfl, hs6, tb_num (Or.inl ⟨rfl, H1.out⟩) ?_ ?_, below_drewN hbl5 m6⟩
  ·have := HZ.out; unfold be4 at this ⊢; omega
  ·unfold be4; omega
set_option maxHeartbeats 1600000 in
theorem tb6_short (f s : Int) (sa : Option Addr) (l : List UInt8) (cap : Nat) (w : World) (h0 : 0 ≤ f) (h1 : f < 256) (hlen : l.length ≤ 64)
  (hb : BytesA w (.slice sa l.length cap) l) :
  Calls Tryz.prog 29 #[.agg #[.int .i64 6, .int .i64 f, .int .i64 s, .slice none 0 0], .slice sa l.length cap] w fun e w' => Tamed w w' 6 f e := by
 have hbx : BytesA (w.alloc (.cells #[.int .i64 6, .int .i64 f, .int .i64 s, .slice none 0 0] 48)) (.slice sa l.length cap) l := BytesA.chg (hb) ((Chg.refl (fun _ => False) w).alloc _)
 have HB : Hid (BytesA (w.alloc (.cells #[.int .i64 6, .int .i64 f, .int .i64 s, .slice none 0 0] 48)) (.slice sa l.length cap) l) := hbx
 have hLL : Hid (l.length = l.length) := by show _ = _; rfl
 clear hbx hb
 go_enter Tryz.func29, Tryz.ntmps29
 go_wp2_with fail
 have hfx := fixed_any sa l cap l.length (w.alloc (.cells #[.int .i64 6, .int .i64 f, .int .i64 s, .slice none 0 0] 48)) hlen HB.out
 refine hfx.mono ?_
 clear hfx
 rintro e w1 ⟨g1, cap1, rfl, hown1, hb1⟩
 have hbl1 : Below w.heap.size w w1 := ((Below.refl _ _).alloc (Nat.le_refl _) _).trans (hb1.mono (by simp))
 have hfb1 : w1.heap[w.heap.size]? = some (.cells #[.int .i64 6, .int .i64 f, .int .i64 s, .slice none 0 0] 48) := by rw [hb1.block _ (by simp)]; exact heap_alloc_new w _
 have hown1' := owns_base hown1 (base' := w.heap.size) (fun j hj => by have := (hown1.lt j hj).1; simp at this; omega)
 obtain ⟨y0, y1, y2, y3, -⟩ := frame_block hfb1
 have hlt1 := lt_of_block hfb1
 clear hown1 hb1
 go_wp2_with fail
 refine (kflag_any 6 f s 1 none 0 0 w1 h0 h1 (Or.inl rfl)).mono ?_
 rintro e w2 ⟨he, hb2⟩
 subst he
 have hfb2 : w2.heap[w.heap.size]? = some (.cells #[.int .i64 6, .int .i64 f, .int .i64 s, .slice none 0 0] 48) := by rw [hb2.block _ hlt1]; exact hfb1
 have hbl2 := hbl1.trans (hb2.mono hbl1.size)
 have hown2 := owns_chg hown1' (Chg.of_below (S := fun _ => False) hb2) (fun _ _ => id)
 clear y0 y1 y2 y3 hown1' hfb1
 obtain ⟨y0, y1, y2, y3, -⟩ := frame_block hfb2
 have hlt2 := lt_of_block hfb2
 go_wp2_with fail
 refine (kflag_any 6 f s 8 none 0 0 w2 h0 h1 (Or.inr rfl)).mono ?_
 rintro e w3 ⟨he, hb3⟩
 subst he
 have hfb3 : w3.heap[w.heap.size]? = some (.cells #[.int .i64 6, .int .i64 f, .int .i64 s, .slice none 0 0] 48) := by rw [hb3.block _ hlt2]; exact hfb2
 have hbl3 := hbl2.trans (hb3.mono hbl2.size)
 have hown3 := owns_chg hown2 (Chg.of_below (S := fun _ => False) hb3) (fun _ _ => id)
 clear y0 y1 y2 y3 hown2 hfb2
 obtain ⟨y0, y1, y2, y3, -⟩ := frame_block hfb3
 have hlt3 := lt_of_block hfb3
 have hblk : ∀ j, j < (w.alloc (.cells #[.int .i64 6, .int .i64 f, .int .i64 s, .slice none 0 0] 48)).heap.size → w3.heap[j]? = (w.alloc (.cells #[.int .i64 6, .int .i64 f, .int .i64 s, .slice none 0 0] 48)).heap[j]? := fun j hj => by
  rw [World.size_alloc] at hj
  rcases Nat.lt_or_ge j w.heap.size with h | h
  ·rw [hbl3.block j h, Below.heap_alloc _ _ _ h]
  ·have : j = w.heap.size := by omega
   subst this
   rw [hfb3]; exact (heap_alloc_new w _).symm
 have hb3x : BytesA w3 (.slice sa l.length cap) l := HB.out.chg (Chg.mk (S := fun _ => False) hbl3.os hbl3.tape hbl3.output (by simp; omega) (fun j hj _ => hblk j hj))
 have hfx := fixed_any sa l cap 4 w3 (by omega) hb3x
 clear hb3x hblk
 go_wp2_with fail
 refine hfx.mono ?_
 clear hfx
 rintro e w4 ⟨g4, cap4, rfl, hown4, hb4⟩
 have hbl4 := hbl3.trans (hb4.mono hbl3.size)
 have hown4' := owns_base hown4 (base' := w.heap.size) (fun j hj => by have := (hown4.lt j hj).1; have := hbl3.size; omega)
 obtain ⟨x0, x1, x2, x3, hx⟩ := four_of (fixedL_length l 4)
 rw [hx] at hown4'
 have q0 := tb_cell hown4' (j := 0) (by omega)
 have r0 := hown4'.frozenAt 0
 have hs4 := tb_set hown4' 0 (ofI ((x0.toNat : Int) % 128))
 obtain ⟨x0', hx0'⟩ : ∃ y, y = ofI ((x0.toNat : Int) % 128) := ⟨_, rfl⟩
 have hmod : (x0'.toNat : Int) = (x0.toNat : Int) % 128 := by rw [hx0']; exact mod128 x0
 have hlt : x0'.toNat < 128 := by omega
 rw [← hx0'] at hs4
 have hbm : B x0' = .int .u8 ((x0.toNat : Int) % 128) := by unfold B; rw [hmod]
 rw [hbm] at hs4
 obtain ⟨w5, hw5⟩ : ∃ w5, w4.setCell ⟨g4, 0, none⟩ (.int .u8 ((x0.toNat : Int) % 128)) = w5 := ⟨_, rfl⟩
 rw [hw5] at hs4
 simp only [List.set_cons_zero] at hs4
 have hg4 : w.heap.size ≤ g4 := (hown4'.lt g4 rfl).1
 have hbl5 : Below w.heap.size w w5 := by rw [← hw5]; exact hbl4.setCell hg4 _
 have p0 := tb_cell hs4 (j := 0) (by omega)
 have p1 := tb_cell hs4 (j := 1) (by omega)
 have p2 := tb_cell hs4 (j := 2) (by omega)
 have p3 := tb_cell hs4 (j := 3) (by omega)
 have r3 := hs4.frozenAt 3
 simp only [List.getD_cons_zero] at q0
 have HM : Hid ((x0'.toNat : Int) = (x0.toNat : Int) % 128) := hmod
 clear hmod hbm hx0' hx hown4' hown4
 go_wp2_with fail
 refine (value_any g4 0 4 cap4 x0' x1 x2 x3 w5 (by omega) (by simpa using p0) (by simpa using p1) (by simpa using p2) (by simpa using p3)).mono ?_
 rintro e w6 ⟨rfl, m6, rfl⟩
 have h1' := x1.toNat_lt
 have h2' := x2.toNat_lt
 have h3' := x3.toNat_lt
 have hs6 : (w5.drewN m6).ownsRow w.heap.size 5 1 (.slice (some ⟨g4, 0, none⟩) 4 cap4) 4 ([x0', x1, x2, x3].map B) := hs4
 by_cases hz : be4 x0' x1 x2 x3 = 0
 ·have hzb : (be4 x0' x1 x2 x3 == 0) = true := by simp [hz]
  have HZ : Hid (be4 x0' x1 x2 x3 = 0) := hz
  clear hz
  simp only [List.getD_cons_zero, List.getD_cons_succ] at p3
  go_wp2
  go_ret
  have h9 := tb_set hs6 3 1
  refine ⟨_, [x0', x1, x2, 1], rfl, h9, tb_num (Or.inr rfl) ?_ ?_, (below_drewN hbl5 m6).setCell hg4 _⟩
  ·have := HZ.out; unfold be4 at this ⊢; simp; omega
  ·have := HZ.out; unfold be4 at this ⊢; simp; omega
 ·have hzb : (be4 x0' x1 x2 x3 == 0) = false := by simp [hz]
  have HZ : Hid (¬ be4 x0' x1 x2 x3 = 0) := hz
  clear hz
  go_wp2
  go_ret
  refine ⟨_, [x0', x1, x2, x3], rfl, hs6, tb_num (Or.inr rfl) ?_ ?_, below_drewN hbl5 m6⟩
  ·have := HZ.out; unfold be4 at this ⊢; omega
  ·unfold be4; omega
set_option maxHeartbeats 1600000 in
theorem tb3b_long (f s : Int) (bb off : Nat) (l : List UInt8) (cap : Nat) (w : World) (h0 : 0 ≤ f) (h1 : f < 256) (hlen : 64 < l.length) (hf1 : hasB f 1 = false)
  (hb : BytesA w (.slice (some ⟨bb, off, none⟩) l.length cap) l) (hcap : l.length ≤ cap) :
  Calls Tryz.prog 29 #[.agg #[.int .i64 3, .int .i64 f, .int .i64 s, .slice none 0 0], .slice (some ⟨bb, off, none⟩) l.length cap] w fun e w' => Tamed w w' 3 f e := by
 have hbx : BytesA (w.alloc (.cells #[.int .i64 3, .int .i64 f, .int .i64 s, .slice none 0 0] 48)) (.slice (some ⟨bb, off, none⟩) 64 cap) (l.take 64) := BytesA.chg (bytesIn_cut hb (by omega)) ((Chg.refl (fun _ => False) w).alloc _)
 have HB : Hid (BytesA (w.alloc (.cells #[.int .i64 3, .int .i64 f, .int .i64 s, .slice none 0 0] 48)) (.slice (some ⟨bb, off, none⟩) 64 cap) (l.take 64)) := hbx
 have hLL : Hid ((l.take 64).length = 64) := by show _ = _; simp; omega
 clear hbx hb
 have H1 : Hid (hasB f 1 = false) := hf1
 clear hf1
 go_enter Tryz.func29, Tryz.ntmps29
 go_wp2_with fail
 have hfx := fixed_any (some ⟨bb, off, none⟩) (l.take 64) cap 64 (w.alloc (.cells #[.int .i64 3, .int .i64 f, .int .i64 s, .slice none 0 0] 48)) (by omega) (by rw [hLL.out]; exact HB.out)
 rw [hLL.out] at hfx
 refine hfx.mono ?_
 clear hfx
 rintro e w1 ⟨g1, cap1, rfl, hown1, hb1⟩
 have hbl1 : Below w.heap.size w w1 := ((Below.refl _ _).alloc (Nat.le_refl _) _).trans (hb1.mono (by simp))
 have hfb1 : w1.heap[w.heap.size]? = some (.cells #[.int .i64 3, .int .i64 f, .int .i64 s, .slice none 0 0] 48) := by rw [hb1.block _ (by simp)]; exact heap_alloc_new w _
 have hown1' := owns_base hown1 (base' := w.heap.size) (fun j hj => by have := (hown1.lt j hj).1; simp at this; omega)
 obtain ⟨y0, y1, y2, y3, -⟩ := frame_block hfb1
 have hlt1 := lt_of_block hfb1
 clear hown1 hb1
 go_wp2_with fail
 refine (kflag_any 3 f s 1 none 0 0 w1 h0 h1 (Or.inl rfl)).mono ?_
 rintro e w2 ⟨he, hb2⟩
 rw [H1.out] at he
 subst he
 have hfb2 : w2.heap[w.heap.size]? = some (.cells #[.int .i64 3, .int .i64 f, .int .i64 s, .slice none 0 0] 48) := by rw [hb2.block _ hlt1]; exact hfb1
 have hbl2 := hbl1.trans (hb2.mono hbl1.size)
 have hown2 := owns_chg hown1' (Chg.of_below (S := fun _ => False) hb2) (fun _ _ => id)
 clear y0 y1 y2 y3 hown1' hfb1
 obtain ⟨y0, y1, y2, y3, -⟩ := frame_block hfb2
 have hlt2 := lt_of_block hfb2
 go_wp2_with fail
 refine (kflag_any 3 f s 8 none 0 0 w2 h0 h1 (Or.inr rfl)).mono ?_
 rintro e w3 ⟨he, hb3⟩
 subst he
 have hfb3 : w3.heap[w.heap.size]? = some (.cells #[.int .i64 3, .int .i64 f, .int .i64 s, .slice none 0 0] 48) := by rw [hb3.block _ hlt2]; exact hfb2
 have hbl3 := hbl2.trans (hb3.mono hbl2.size)
 have hown3 := owns_chg hown2 (Chg.of_below (S := fun _ => False) hb3) (fun _ _ => id)
 clear y0 y1 y2 y3 hown2 hfb2
 obtain ⟨y0, y1, y2, y3, -⟩ := frame_block hfb3
 have hlt3 := lt_of_block hfb3
 have hblk : ∀ j, j < (w.alloc (.cells #[.int .i64 3, .int .i64 f, .int .i64 s, .slice none 0 0] 48)).heap.size → w3.heap[j]? = (w.alloc (.cells #[.int .i64 3, .int .i64 f, .int .i64 s, .slice none 0 0] 48)).heap[j]? := fun j hj => by
  rw [World.size_alloc] at hj
  rcases Nat.lt_or_ge j w.heap.size with h | h
  ·rw [hbl3.block j h, Below.heap_alloc _ _ _ h]
  ·have : j = w.heap.size := by omega
   subst this
   rw [hfb3]; exact (heap_alloc_new w _).symm
 have hb3x : BytesA w3 (.slice (some ⟨bb, off, none⟩) 64 cap) (l.take 64) := HB.out.chg (Chg.mk (S := fun _ => False) hbl3.os hbl3.tape hbl3.output (by simp; omega) (fun j hj _ => hblk j hj))
 have hfx := fixed_any (some ⟨bb, off, none⟩) (l.take 64) cap 4 w3 (by omega) (by rw [hLL.out]; exact hb3x)
 rw [hLL.out] at hfx
 clear hb3x hblk
 go_wp2_with fail
 refine hfx.mono ?_
 clear hfx
 rintro e w4 ⟨g4, cap4, rfl, hown4, hb4⟩
 have hbl4 := hbl3.trans (hb4.mono hbl3.size)
 have hown4' := owns_base hown4 (base' := w.heap.size) (fun j hj => by have := (hown4.lt j hj).1; have := hbl3.size; omega)
 obtain ⟨x0, x1, x2, x3, hx⟩ := four_of (fixedL_length (l.take 64) 4)
 rw [hx] at hown4'
 have q0 := tb_cell hown4' (j := 0) (by omega)
 have r0 := hown4'.frozenAt 0
 have hs4 := tb_set hown4' 0 (ofI ((x0.toNat : Int) % 128))
 obtain ⟨x0', hx0'⟩ : ∃ y, y = ofI ((x0.toNat : Int) % 128) := ⟨_, rfl⟩
 have hmod : (x0'.toNat : Int) = (x0.toNat : Int) % 128 := by rw [hx0']; exact mod128 x0
 have hlt : x0'.toNat < 128 := by omega
 rw [← hx0'] at hs4
 have hbm : B x0' = .int .u8 ((x0.toNat : Int) % 128) := by unfold B; rw [hmod]
 rw [hbm] at hs4
 obtain ⟨w5, hw5⟩ : ∃ w5, w4.setCell ⟨g4, 0, none⟩ (.int .u8 ((x0.toNat : Int) % 128)) = w5 := ⟨_, rfl⟩
 rw [hw5] at hs4
 simp only [List.set_cons_zero] at hs4
 have hg4 : w.heap.size ≤ g4 := (hown4'.lt g4 rfl).1
 have hbl5 : Below w.heap.size w w5 := by rw [← hw5]; exact hbl4.setCell hg4 _
 have p0 := tb_cell hs4 (j := 0) (by omega)
 have p1 := tb_cell hs4 (j := 1) (by omega)
 have p2 := tb_cell hs4 (j := 2) (by omega)
 have p3 := tb_cell hs4 (j := 3) (by omega)
 have r3 := hs4.frozenAt 3
 simp only [List.getD_cons_zero] at q0
 have HM : Hid ((x0'.toNat : Int) = (x0.toNat : Int) % 128) := hmod
 clear hmod hbm hx0' hx hown4' hown4
 go_wp2_with fail
 refine (value_any g4 0 4 cap4 x0' x1 x2 x3 w5 (by omega) (by simpa using p0) (by simpa using p1) (by simpa using p2) (by simpa using p3)).mono ?_
 rintro e w6 ⟨rfl, m6, rfl⟩
 have h1' := x1.toNat_lt
 have h2' := x2.toNat_lt
 have h3' := x3.toNat_lt
 have hs6 : (w5.drewN m6).ownsRow w.heap.size 5 1 (.slice (some ⟨g4, 0, none⟩) 4 cap4) 4 ([x0', x1, x2, x3].map B) := hs4
 by_cases hz : be4 x0' x1 x2 x3 = 0
 ·have hzb : (be4 x0' x1 x2 x3 == 0) = true := by simp [hz]
  have HZ : Hid (be4 x0' x1 x2 x3 = 0) := hz
  clear hz
  simp only [List.getD_cons_zero, List.getD_cons_succ] at p3
  go_wp2
  go_ret
  have h9 := tb_set hs6 3 1
  refine ⟨_, [x0', x1, x2, 1], rfl, h9, tb_num (Or.inl ⟨rfl, H1.out⟩) ?_ ?_, (below_drewN hbl5 m6).setCell hg4 _⟩
  ·have := HZ.out; unfold be4 at this ⊢; simp; omega
  ·have := HZ.out; unfold be4 at this ⊢; simp; omega
 ·have hzb : (be4 x0' x1 x2 x3 == 0) = false := by simp [hz]
  have HZ : Hid (¬ be4 x0' x1 x2 x3 = 0) := hz
  clear hz
  go_wp2
  go_ret
  refine ⟨_, [x0', x1, x2, x3], rfl, hs6, tb_num (Or.inl ⟨rfl, H1.out⟩) ?_ ?_, below_drewN hbl5 m6⟩
  ·have := HZ.out; unfold be4 at this ⊢; omega
  ·unfold be4; omega
set_option maxHeartbeats 1600000 in
theorem tb6_long (f s : Int) (bb off : Nat) (l : List UInt8) (cap : Nat) (w : World) (h0 : 0 ≤ f) (h1 : f < 256) (hlen : 64 < l.length)
  (hb : BytesA w (.slice (some ⟨bb, off, none⟩) l.length cap) l) (hcap : l.length ≤ cap) :
  Calls Tryz.prog 29 #[.agg #[.int .i64 6, .int .i64 f, .int .i64 s, .slice none 0 0], .slice (some ⟨bb, off, none⟩) l.length cap] w fun e w' => Tamed w w' 6 f e := by
 have hbx : BytesA (w.alloc (.cells #[.int .i64 6, .int .i64 f, .int .i64 s, .slice none 0 0] 48)) (.slice (some ⟨bb, off, none⟩) 64 cap) (l.take 64) := BytesA.chg (bytesIn_cut hb (by omega)) ((Chg.refl (fun _ => False) w).alloc _)
 have HB : Hid (BytesA (w.alloc (.cells #[.int .i64 6, .int .i64 f, .int .i64 s, .slice none 0 0] 48)) (.slice (some ⟨bb, off, none⟩) 64 cap) (l.take 64)) := hbx
 have hLL : Hid ((l.take 64).length = 64) := by show _ = _; simp; omega
 clear hbx hb
 go_enter Tryz.func29, Tryz.ntmps29
 go_wp2_with fail
 have hfx := fixed_any (some ⟨bb, off, none⟩) (l.take 64) cap 64 (w.alloc (.cells #[.int .i64 6, .int .i64 f, .int .i64 s, .slice none 0 0] 48)) (by omega) (by rw [hLL.out]; exact HB.out)
 rw [hLL.out] at hfx
 refine hfx.mono ?_
 clear hfx
 rintro e w1 ⟨g1, cap1, rfl, hown1, hb1⟩
 have hbl1 : Below w.heap.size w w1 := ((Below.refl _ _).alloc (Nat.le_refl _) _).trans (hb1.mono (by simp))
 have hfb1 : w1.heap[w.heap.size]? = some (.cells #[.int .i64 6, .int .i64 f, .int .i64 s, .slice none 0 0] 48) := by rw [hb1.block _ (by simp)]; exact heap_alloc_new w _
 have hown1' := owns_base hown1 (base' := w.heap.size) (fun j hj => by have := (hown1.lt j hj).1; simp at this; omega)
 obtain ⟨y0, y1, y2, y3, -⟩ := frame_block hfb1
 have hlt1 := lt_of_block hfb1
 clear hown1 hb1
 go_wp2_with fail
 refine (kflag_any 6 f s 1 none 0 0 w1 h0 h1 (Or.inl rfl)).mono ?_
 rintro e w2 ⟨he, hb2⟩
 subst he
 have hfb2 : w2.heap[w.heap.size]? = some (.cells #[.int .i64 6, .int .i64 f, .int .i64 s, .slice none 0 0] 48) := by rw [hb2.block _ hlt1]; exact hfb1
 have hbl2 := hbl1.trans (hb2.mono hbl1.size)
 have hown2 := owns_chg hown1' (Chg.of_below (S := fun _ => False) hb2) (fun _ _ => id)
 clear y0 y1 y2 y3 hown1' hfb1
 obtain ⟨y0, y1, y2, y3, -⟩ := frame_block hfb2
 have hlt2 := lt_of_block hfb2
 go_wp2_with fail
 refine (kflag_any 6 f s 8 none 0 0 w2 h0 h1 (Or.inr rfl)).mono ?_
 rintro e w3 ⟨he, hb3⟩
 subst he
 have hfb3 : w3.heap[w.heap.size]? = some (.cells #[.int .i64 6, .int .i64 f, .int .i64 s, .slice none 0 0] 48) := by rw [hb3.block _ hlt2]; exact hfb2
 have hbl3 := hbl2.trans (hb3.mono hbl2.size)
 have hown3 := owns_chg hown2 (Chg.of_below (S := fun _ => False) hb3) (fun _ _ => id)
 clear y0 y1 y2 y3 hown2 hfb2
 obtain ⟨y0, y1, y2, y3, -⟩ := frame_block hfb3
 have hlt3 := lt_of_block hfb3
 have hblk : ∀ j, j < (w.alloc (.cells #[.int .i64 6, .int .i64 f, .int .i64 s, .slice none 0 0] 48)).heap.size → w3.heap[j]? = (w.alloc (.cells #[.int .i64 6, .int .i64 f, .int .i64 s, .slice none 0 0] 48)).heap[j]? := fun j hj => by
  rw [World.size_alloc] at hj
  rcases Nat.lt_or_ge j w.heap.size with h | h
  ·rw [hbl3.block j h, Below.heap_alloc _ _ _ h]
  ·have : j = w.heap.size := by omega
   subst this
   rw [hfb3]; exact (heap_alloc_new w _).symm
 have hb3x : BytesA w3 (.slice (some ⟨bb, off, none⟩) 64 cap) (l.take 64) := HB.out.chg (Chg.mk (S := fun _ => False) hbl3.os hbl3.tape hbl3.output (by simp; omega) (fun j hj _ => hblk j hj))
 have hfx := fixed_any (some ⟨bb, off, none⟩) (l.take 64) cap 4 w3 (by omega) (by rw [hLL.out]; exact hb3x)
 rw [hLL.out] at hfx
 clear hb3x hblk
 go_wp2_with fail
 refine hfx.mono ?_
 clear hfx
 rintro e w4 ⟨g4, cap4, rfl, hown4, hb4⟩
 have hbl4 := hbl3.trans (hb4.mono hbl3.size)
 have hown4' := owns_base hown4 (base' := w.heap.size) (fun j hj => by have := (hown4.lt j hj).1; have := hbl3.size; omega)
 obtain ⟨x0, x1, x2, x3, hx⟩ := four_of (fixedL_length (l.take 64) 4)
 rw [hx] at hown4'
 have q0 := tb_cell hown4' (j := 0) (by omega)
 have r0 := hown4'.frozenAt 0
 have hs4 := tb_set hown4' 0 (ofI ((x0.toNat : Int) % 128))
 obtain ⟨x0', hx0'⟩ : ∃ y, y = ofI ((x0.toNat : Int) % 128) := ⟨_, rfl⟩
 have hmod : (x0'.toNat : Int) = (x0.toNat : Int) % 128 := by rw [hx0']; exact mod128 x0
 have hlt : x0'.toNat < 128 := by omega
 rw [← hx0'] at hs4
 have hbm : B x0' = .int .u8 ((x0.toNat : Int) % 128) := by unfold B; rw [hmod]
 rw [hbm] at hs4
 obtain ⟨w5, hw5⟩ : ∃ w5, w4.setCell ⟨g4, 0, none⟩ (.int .u8 ((x0.toNat : Int) % 128)) = w5 := ⟨_, rfl⟩
 rw [hw5] at hs4
 simp only [List.set_cons_zero] at hs4
 have hg4 : w.heap.size ≤ g4 := (hown4'.lt g4 rfl).1
 have hbl5 : Below w.heap.size w w5 := by rw [← hw5]; exact hbl4.setCell hg4 _
 have p0 := tb_cell hs4 (j := 0) (by omega)
 have p1 := tb_cell hs4 (j := 1) (by omega)
 have p2 := tb_cell hs4 (j := 2) (by omega)
 have p3 := tb_cell hs4 (j := 3) (by omega)
 have r3 := hs4.frozenAt 3
 simp only [List.getD_cons_zero] at q0
 have HM : Hid ((x0'.toNat : Int) = (x0.toNat : Int) % 128) := hmod
 clear hmod hbm hx0' hx hown4' hown4
 go_wp2_with fail
 refine (value_any g4 0 4 cap4 x0' x1 x2 x3 w5 (by omega) (by simpa using p0) (by simpa using p1) (by simpa using p2) (by simpa using p3)).mono ?_
 rintro e w6 ⟨rfl, m6, rfl⟩
 have h1' := x1.toNat_lt
 have h2' := x2.toNat_lt
 have h3' := x3.toNat_lt
 have hs6 : (w5.drewN m6).ownsRow w.heap.size 5 1 (.slice (some ⟨g4, 0, none⟩) 4 cap4) 4 ([x0', x1, x2, x3].map B) := hs4
 by_cases hz : be4 x0' x1 x2 x3 = 0
 ·have hzb : (be4 x0' x1 x2 x3 == 0) = true := by simp [hz]
  have HZ : Hid (be4 x0' x1 x2 x3 = 0) := hz
  clear hz
  simp only [List.getD_cons_zero, List.getD_cons_succ] at p3
  go_wp2
  go_ret
  have h9 := tb_set hs6 3 1
  refine ⟨_, [x0', x1, x2, 1], rfl, h9, tb_num (Or.inr rfl) ?_ ?_, (below_drewN hbl5 m6).setCell hg4 _⟩
  ·have := HZ.out; unfold be4 at this ⊢; simp; omega
  ·have := HZ.out; unfold be4 at this ⊢; simp; omega
 ·have hzb : (be4 x0' x1 x2 x3 == 0) = false := by simp [hz]
  have HZ : Hid (¬ be4 x0' x1 x2 x3 = 0) := hz
  clear hz
  go_wp2
  go_ret
  refine ⟨_, [x0', x1, x2, x3], rfl, hs6, tb_num (Or.inr rfl) ?_ ?_, below_drewN hbl5 m6⟩
  ·have := HZ.out; unfold be4 at this ⊢; omega
  ·unfold be4; omega
end
section
theorem cons_of {l : List UInt8} {n : Nat} (h : l.length = n) (hn : 0 < n) : ∃ x r, l = x :: r := by
 match l, h with
 | x :: r, _ => exact ⟨x, r, rfl⟩
 | [], h => simp at h; omega
structure Pads (w wr : World) (g cap n : Nat) (p : UInt8) (j : Nat) (y : List UInt8) : Prop where
 lo : n - p.toNat ≤ j
 hi : j ≤ n
 len : y.length = n
 first : y.getD 0 0 = p
 zero : ∀ t, n - p.toNat ≤ t → t < j → y.getD t 0 = 0
 own : wr.ownsRow w.heap.size 5 1 (.slice (some ⟨g, 0, none⟩) n cap) n (y.map B)
 bel : Below w.heap.size w wr
theorem Pads.next {w wr : World} {g cap n : Nat} {p : UInt8} {j : Nat} {y : List UInt8} (h : Pads w wr g cap n p j y) (hp : p.toNat < n) (hj : j < n) : Pads w (wr.setCell ⟨g, j, none⟩ (.int .u8 0)) g cap n p (j + 1) (y.set j 0) := by
 have hlo := h.lo
 refine ⟨by omega, hj, by simpa using h.len, ?_, fun t h1 h2 => ?_, tb_set h.own j 0, h.bel.setCell (h.own.lt g rfl).1 _⟩
 ·have e := h.first
  simp only [List.getD_eq_getElem?_getD] at e ⊢
  rw [List.getElem?_set_ne (by omega)]
  exact e
 ·simp only [List.getD_eq_getElem?_getD]
  by_cases e : t = j
  ·subst e
   rw [List.getElem?_set_self (by rw [h.len]; exact hj)]; rfl
  ·rw [List.getElem?_set_ne (by omega)]
   have := h.zero t h1 (by omega)
   simpa [List.getD_eq_getElem?_getD] using this
theorem Pads.done {w wr : World} {g cap n : Nat} {p : UInt8} {j : Nat} {y : List UInt8} {f : Int} (h : Pads w wr g cap n p j y) (hp : p.toNat < n) (hj : n ≤ j) (hn : n ≤ 64) (hf : hasB f 8 = true) : Tamed w wr 0 f (.returned (.slice (some ⟨g, 0, none⟩) n cap)) := by
 refine ⟨_, y, rfl, by rw [h.len]; exact h.own, tb_pad (by rw [h.len]; exact hn) hf ?_, h.bel⟩
 obtain ⟨x, r, rfl⟩ := cons_of h.len (by omega)
 have hl := h.len
 have hx : x = p := by have := h.first; simpa using this
 subst hx
 simp only [List.length_cons] at hl
 exact pad_ok (by omega) (fun t h1 h2 => h.zero t (by omega) (by omega))
set_option maxHeartbeats 1600000 in
theorem tb0e (f s : Int) (sa : Option Addr) (l : List UInt8) (cap : Nat) (w : World) (h0 : 0 ≤ f) (h1 : f < 256) (hlen : l.length ≤ 64) (hf8 : hasB f 8 = true) (hz : l = [])
  (hb : BytesA w (.slice sa l.length cap) l) :
  Calls Tryz.prog 29 #[.agg #[.int .i64 0, .int .i64 f, .int .i64 s, .slice none 0 0], .slice sa l.length cap] w fun e w' => Tamed w w' 0 f e := by
 subst hz
 have hbx : BytesA (w.alloc (.cells #[.int .i64 0, .int .i64 f, .int .i64 s, .slice none 0 0] 48)) (.slice sa 0 cap) [] := BytesA.chg (hb) ((Chg.refl (fun _ => False) w).alloc _)
 have HB : Hid (BytesA (w.alloc (.cells #[.int .i64 0, .int .i64 f, .int .i64 s, .slice none 0 0] 48)) (.slice sa 0 cap) []) := hbx
 have hLL : Hid (0 = 0) := by show _ = _; rfl
 clear hbx hb
 have H8 : Hid (hasB f 8 = true) := hf8
 clear hf8
 go_enter Tryz.func29, Tryz.ntmps29
 go_wp2_with fail
 have hfx := fixed_any sa [] cap 0 (w.alloc (.cells #[.int .i64 0, .int .i64 f, .int .i64 s, .slice none 0 0] 48)) hlen HB.out
 refine hfx.mono ?_
 clear hfx
 rintro e w1 ⟨g1, cap1, rfl, hown1, hb1⟩
 have hbl1 : Below w.heap.size w w1 := ((Below.refl _ _).alloc (Nat.le_refl _) _).trans (hb1.mono (by simp))
 have hfb1 : w1.heap[w.heap.size]? = some (.cells #[.int .i64 0, .int .i64 f, .int .i64 s, .slice none 0 0] 48) := by rw [hb1.block _ (by simp)]; exact heap_alloc_new w _
 have hown1' := owns_base hown1 (base' := w.heap.size) (fun j hj => by have := (hown1.lt j hj).1; simp at this; omega)
 obtain ⟨y0, y1, y2, y3, -⟩ := frame_block hfb1
 have hlt1 := lt_of_block hfb1
 clear hown1 hb1
 go_wp2_with fail
 refine (kflag_any 0 f s 1 none 0 0 w1 h0 h1 (Or.inl rfl)).mono ?_
 rintro e w2 ⟨he, hb2⟩
 subst he
 have hfb2 : w2.heap[w.heap.size]? = some (.cells #[.int .i64 0, .int .i64 f, .int .i64 s, .slice none 0 0] 48) := by rw [hb2.block _ hlt1]; exact hfb1
 have hbl2 := hbl1.trans (hb2.mono hbl1.size)
 have hown2 := owns_chg hown1' (Chg.of_below (S := fun _ => False) hb2) (fun _ _ => id)
 clear y0 y1 y2 y3 hown1' hfb1
 obtain ⟨y0, y1, y2, y3, -⟩ := frame_block hfb2
 have hlt2 := lt_of_block hfb2
 go_wp2_with fail
 refine (kflag_any 0 f s 8 none 0 0 w2 h0 h1 (Or.inr rfl)).mono ?_
 rintro e w3 ⟨he, hb3⟩
 rw [H8.out] at he
 subst he
 have hfb3 : w3.heap[w.heap.size]? = some (.cells #[.int .i64 0, .int .i64 f, .int .i64 s, .slice none 0 0] 48) := by rw [hb3.block _ hlt2]; exact hfb2
 have hbl3 := hbl2.trans (hb3.mono hbl2.size)
 have hown3 := owns_chg hown2 (Chg.of_below (S := fun _ => False) hb3) (fun _ _ => id)
 clear y0 y1 y2 y3 hown2 hfb2
 obtain ⟨y0, y1, y2, y3, -⟩ := frame_block hfb3
 have hlt3 := lt_of_block hfb3
 go_wp2
 go_ret
 refine ⟨_, [0], rfl, ?_, tb_pad (by simp) H8.out (by decide), hbl3.alloc hbl3.size _⟩
 exact World.ownsRow_lit w3 #[.int .u8 0] 1 hbl3.size (by decide) rfl
set_option maxHeartbeats 1600000 in
theorem tb0p_short (f s : Int) (sa : Option Addr) (l : List UInt8) (cap : Nat) (w : World) (h0 : 0 ≤ f) (h1 : f < 256) (hlen : l.length ≤ 64) (hf8 : hasB f 8 = true) (hpos : 0 < l.length)
  (hb : BytesA w (.slice sa l.length cap) l) :
  Calls Tryz.prog 29 #[.agg #[.int .i64 0, .int .i64 f, .int .i64 s, .slice none 0 0], .slice sa l.length cap] w fun e w' => Tamed w w' 0 f e := by
 have hbx : BytesA (w.alloc (.cells #[.int .i64 0, .int .i64 f, .int .i64 s, .slice none 0 0] 48)) (.slice sa l.length cap) l := BytesA.chg (hb) ((Chg.refl (fun _ => False) w).alloc _)
 have HB : Hid (BytesA (w.alloc (.cells #[.int .i64 0, .int .i64 f, .int .i64 s, .slice none 0 0] 48)) (.slice sa l.length cap) l) := hbx
 have hLL : Hid (l.length = l.length) := by show _ = _; rfl
 clear hbx hb
 have H8 : Hid (hasB f 8 = true) := hf8
 clear hf8
 go_enter Tryz.func29, Tryz.ntmps29
 go_wp2_with fail
 have hfx := fixed_any sa l cap l.length (w.alloc (.cells #[.int .i64 0, .int .i64 f, .int .i64 s, .slice none 0 0] 48)) hlen HB.out
 refine hfx.mono ?_
 clear hfx
 rintro e w1 ⟨g1, cap1, rfl, hown1, hb1⟩
 have hbl1 : Below w.heap.size w w1 := ((Below.refl _ _).alloc (Nat.le_refl _) _).trans (hb1.mono (by simp))
 have hfb1 : w1.heap[w.heap.size]? = some (.cells #[.int .i64 0, .int .i64 f, .int .i64 s, .slice none 0 0] 48) := by rw [hb1.block _ (by simp)]; exact heap_alloc_new w _
 have hown1' := owns_base hown1 (base' := w.heap.size) (fun j hj => by have := (hown1.lt j hj).1; simp at this; omega)
 obtain ⟨y0, y1, y2, y3, -⟩ := frame_block hfb1
 have hlt1 := lt_of_block hfb1
 clear hown1 hb1
 go_wp2_with fail
 refine (kflag_any 0 f s 1 none 0 0 w1 h0 h1 (Or.inl rfl)).mono ?_
 rintro e w2 ⟨he, hb2⟩
 subst he
 have hfb2 : w2.heap[w.heap.size]? = some (.cells #[.int .i64 0, .int .i64 f, .int .i64 s, .slice none 0 0] 48) := by rw [hb2.block _ hlt1]; exact hfb1
 have hbl2 := hbl1.trans (hb2.mono hbl1.size)
 have hown2 := owns_chg hown1' (Chg.of_below (S := fun _ => False) hb2) (fun _ _ => id)
 clear y0 y1 y2 y3 hown1' hfb1
 obtain ⟨y0, y1, y2, y3, -⟩ := frame_block hfb2
 have hlt2 := lt_of_block hfb2
 go_wp2_with fail
 refine (kflag_any 0 f s 8 none 0 0 w2 h0 h1 (Or.inr rfl)).mono ?_
 rintro e w3 ⟨he, hb3⟩
 rw [H8.out] at he
 subst he
 have hfb3 : w3.heap[w.heap.size]? = some (.cells #[.int .i64 0, .int .i64 f, .int .i64 s, .slice none 0 0] 48) := by rw [hb3.block _ hlt2]; exact hfb2
 have hbl3 := hbl2.trans (hb3.mono hbl2.size)
 have hown3 := owns_chg hown2 (Chg.of_below (S := fun _ => False) hb3) (fun _ _ => id)
 clear y0 y1 y2 y3 hown2 hfb2
 obtain ⟨y0, y1, y2, y3, -⟩ := frame_block hfb3
 have hlt3 := lt_of_block hfb3
 obtain ⟨x0, r0, hx⟩ := cons_of (fixedL_length l l.length) (by omega)
 rw [hx] at hown3
 have hrl : r0.length + 1 = l.length := by have := fixedL_length l l.length; rw [hx] at this; simpa using this
 have q0 := tb_cell hown3 (j := 0) (by omega)
 simp only [List.getD_cons_zero] at q0
 have rz := hown3.frozenAt 0
 have hx0 := x0.toNat_lt
 have hm0 : 0 ≤ (x0.toNat : Int) % (l.length : Nat) := Int.emod_nonneg _ (by omega)
 have hm1 : (x0.toNat : Int) % (l.length : Nat) < (l.length : Nat) := Int.emod_lt_of_pos _ (by omega)
 obtain ⟨p, hp⟩ : ∃ p, p = ofI ((x0.toNat : Int) % (l.length : Nat)) := ⟨_, rfl⟩
 have hpn : (p.toNat : Int) = (x0.toNat : Int) % (l.length : Nat) := by rw [hp]; exact ofI_toNat hm0 (by omega)
 have hs4 := tb_set hown3 0 p
 simp only [List.set_cons_zero] at hs4
 have hbp : B p = .int .u8 ((x0.toNat : Int) % (l.length : Nat)) := by unfold B; rw [hpn]
 rw [hbp] at hs4
 have hg3 : w.heap.size ≤ g1 := (hown3.lt g1 rfl).1
 have hbl4 := hbl3.setCell (p := ⟨g1, 0, none⟩) hg3 (.int .u8 ((x0.toNat : Int) % (l.length : Nat)))
 have hplt : p.toNat < l.length := by omega
 have hnz : ¬ ((l.length : Nat) : Int) = 0 := by omega
 have hnb : (((l.length : Nat) : Int) == 0) = false := beq_eq_false_iff_ne.2 (by omega)
 have hps : Pads w (w3.setCell ⟨g1, 0, none⟩ (.int .u8 ((x0.toNat : Int) % (l.length : Nat)))) g1 cap1 l.length p (l.length - p.toNat) (p :: r0) :=
  ⟨Nat.le_refl _, by omega, by simpa using hrl, rfl, fun t h1 h2 => by omega, hs4, hbl4⟩
 have HPS : Hid (Pads w (w3.setCell ⟨g1, 0, none⟩ (.int .u8 ((x0.toNat : Int) % (l.length : Nat)))) g1 cap1 l.length p (l.length - p.toNat) (p :: r0)) := hps
 have HPN : Hid ((p.toNat : Int) = (x0.toNat : Int) % (l.length : Nat)) := hpn
 clear hps hs4 hbl4 hp hpn hbp hown3 hx
 go_wp2
 go_loopw [9] (fun i wr => ∃ (j : Nat) (y : List UInt8), i = .int .i64 j ∧ Pads w wr g1 cap1 l.length p j y) (fun i _ => l.length - (intOf i).toNat)
 case atStart => exact ⟨l.length - p.toNat, p :: r0, by have := HPN.out; congr 1; omega, HPS.out⟩
 case round =>
  obtain ⟨j, y, rfl, hpd⟩ := hrel
  have hjh := hpd.hi
  clear HPN HPS
  by_cases hj : j < l.length
  ·have cj := tb_cell hpd.own hj
   have fj := hpd.own.frozenAt j
   go_wp2
   exact ⟨⟨j + 1, y.set j 0, by go_num, hpd.next hplt hj⟩, by simp [intOf]; omega⟩
  ·go_wp2
   go_ret
   exact hpd.done hplt (by omega) (by omega) H8.out
set_option maxHeartbeats 1600000 in
theorem tb0p_long (f s : Int) (bb off : Nat) (l : List UInt8) (cap : Nat) (w : World) (h0 : 0 ≤ f) (h1 : f < 256) (hlen : 64 < l.length) (hf8 : hasB f 8 = true) (hpos : 0 < l.length)
  (hb : BytesA w (.slice (some ⟨bb, off, none⟩) l.length cap) l) (hcap : l.length ≤ cap) :
  Calls Tryz.prog 29 #[.agg #[.int .i64 0, .int .i64 f, .int .i64 s, .slice none 0 0], .slice (some ⟨bb, off, none⟩) l.length cap] w fun e w' => Tamed w w' 0 f e := by
 have hbx : BytesA (w.alloc (.cells #[.int .i64 0, .int .i64 f, .int .i64 s, .slice none 0 0] 48)) (.slice (some ⟨bb, off, none⟩) 64 cap) (l.take 64) := BytesA.chg (bytesIn_cut hb (by omega)) ((Chg.refl (fun _ => False) w).alloc _)
 have HB : Hid (BytesA (w.alloc (.cells #[.int .i64 0, .int .i64 f, .int .i64 s, .slice none 0 0] 48)) (.slice (some ⟨bb, off, none⟩) 64 cap) (l.take 64)) := hbx
 have hLL : Hid ((l.take 64).length = 64) := by show _ = _; simp; omega
 clear hbx hb
 have H8 : Hid (hasB f 8 = true) := hf8
 clear hf8
 go_enter Tryz.func29, Tryz.ntmps29
 go_wp2_with fail
 have hfx := fixed_any (some ⟨bb, off, none⟩) (l.take 64) cap 64 (w.alloc (.cells #[.int .i64 0, .int .i64 f, .int .i64 s, .slice none 0 0] 48)) (by omega) (by rw [hLL.out]; exact HB.out)
 rw [hLL.out] at hfx
 refine hfx.mono ?_
 clear hfx
 rintro e w1 ⟨g1, cap1, rfl, hown1, hb1⟩
 have hbl1 : Below w.heap.size w w1 := ((Below.refl _ _).alloc (Nat.le_refl _) _).trans (hb1.mono (by simp))
 have hfb1 : w1.heap[w.heap.size]? = some (.cells #[.int .i64 0, .int .i64 f, .int .i64 s, .slice none 0 0] 48) := by rw [hb1.block _ (by simp)]; exact heap_alloc_new w _
 have hown1' := owns_base hown1 (base' := w.heap.size) (fun j hj => by have := (hown1.lt j hj).1; simp at this; omega)
 obtain ⟨y0, y1, y2, y3, -⟩ := frame_block hfb1
 have hlt1 := lt_of_block hfb1
 clear hown1 hb1
 go_wp2_with fail
 refine (kflag_any 0 f s 1 none 0 0 w1 h0 h1 (Or.inl rfl)).mono ?_
 rintro e w2 ⟨he, hb2⟩
 subst he
 have hfb2 : w2.heap[w.heap.size]? = some (.cells #[.int .i64 0, .int .i64 f, .int .i64 s, .slice none 0 0] 48) := by rw [hb2.block _ hlt1]; exact hfb1
 have hbl2 := hbl1.trans (hb2.mono hbl1.size)
 have hown2 := owns_chg hown1' (Chg.of_below (S := fun _ => False) hb2) (fun _ _ => id)
 clear y0 y1 y2 y3 hown1' hfb1
 obtain ⟨y0, y1, y2, y3, -⟩ := frame_block hfb2
 have hlt2 := lt_of_block hfb2
 go_wp2_with fail
 refine (kflag_any 0 f s 8 none 0 0 w2 h0 h1 (Or.inr rfl)).mono ?_
 rintro e w3 ⟨he, hb3⟩
 rw [H8.out] at he
 subst he
 have hfb3 : w3.heap[w.heap.size]? = some (.cells #[.int .i64 0, .int .i64 f, .int .i64 s, .slice none 0 0] 48) := by rw [hb3.block _ hlt2]; exact hfb2
 have hbl3 := hbl2.trans (hb3.mono hbl2.size)
 have hown3 := owns_chg hown2 (Chg.of_below (S := fun _ => False) hb3) (fun _ _ => id)
 clear y0 y1 y2 y3 hown2 hfb2
 obtain ⟨y0, y1, y2, y3, -⟩ := frame_block hfb3
 have hlt3 := lt_of_block hfb3
 obtain ⟨x0, r0, hx⟩ := cons_of (fixedL_length (l.take 64) 64) (by omega)
 rw [hx] at hown3
 have hrl : r0.length + 1 = 64 := by have := fixedL_length (l.take 64) 64; rw [hx] at this; simpa using this
 have q0 := tb_cell hown3 (j := 0) (by omega)
 simp only [List.getD_cons_zero] at q0
 have rz := hown3.frozenAt 0
 have hx0 := x0.toNat_lt
 have hm0 : 0 ≤ (x0.toNat : Int) % (64 : Nat) := Int.emod_nonneg _ (by omega)
 have hm1 : (x0.toNat : Int) % (64 : Nat) < (64 : Nat) := Int.emod_lt_of_pos _ (by omega)
 obtain ⟨p, hp⟩ : ∃ p, p = ofI ((x0.toNat : Int) % (64 : Nat)) := ⟨_, rfl⟩
 have hpn : (p.toNat : Int) = (x0.toNat : Int) % (64 : Nat) := by rw [hp]; exact ofI_toNat hm0 (by omega)
 have hs4 := tb_set hown3 0 p
 simp only [List.set_cons_zero] at hs4
 have hbp : B p = .int .u8 ((x0.toNat : Int) % (64 : Nat)) := by unfold B; rw [hpn]
 rw [hbp] at hs4
 have hg3 : w.heap.size ≤ g1 := (hown3.lt g1 rfl).1
 have hbl4 := hbl3.setCell (p := ⟨g1, 0, none⟩) hg3 (.int .u8 ((x0.toNat : Int) % (64 : Nat)))
 have hplt : p.toNat < 64 := by omega
 have hnz : ¬ ((64 : Nat) : Int) = 0 := by omega
 have hnb : (((64 : Nat) : Int) == 0) = false := beq_eq_false_iff_ne.2 (by omega)
 have hps : Pads w (w3.setCell ⟨g1, 0, none⟩ (.int .u8 ((x0.toNat : Int) % (64 : Nat)))) g1 cap1 64 p (64 - p.toNat) (p :: r0) :=
  ⟨Nat.le_refl _, by omega, by simpa using hrl, rfl, fun t h1 h2 => by omega, hs4, hbl4⟩
 have HPS : Hid (Pads w (w3.setCell ⟨g1, 0, none⟩ (.int .u8 ((x0.toNat : Int) % (64 : Nat)))) g1 cap1 64 p (64 - p.toNat) (p :: r0)) := hps
 have HPN : Hid ((p.toNat : Int) = (x0.toNat : Int) % (64 : Nat)) := hpn
 clear hps hs4 hbl4 hp hpn hbp hown3 hx
 go_wp2
 go_loopw [9] (fun i wr => ∃ (j : Nat) (y : List UInt8), i = .int .i64 j ∧ Pads w wr g1 cap1 64 p j y) (fun i _ => 64 - (intOf i).toNat)
 case atStart => exact ⟨64 - p.toNat, p :: r0, by have := HPN.out; congr 1; omega, HPS.out⟩
 case round =>
  obtain ⟨j, y, rfl, hpd⟩ := hrel
  have hjh := hpd.hi
  clear HPN HPS
  by_cases hj : j < 64
  ·have cj := tb_cell hpd.own hj
   have fj := hpd.own.frozenAt j
   go_wp2
   exact ⟨⟨j + 1, y.set j 0, by go_num, hpd.next hplt hj⟩, by simp [intOf]; omega⟩
  ·go_wp2
   go_ret
   exact hpd.done hplt (by omega) (by omega) H8.out
end
end Go.Proofs.YtdccldbefdfppaaGreatDoor
