import Derived.Test.YtdccldbefdfppaaGreatDoorPGbe
set_option linter.unusedVariables false
set_option linter.unusedSimpArgs false
namespace Go.Proofs.YtdccldbefdfppaaGreatDoor
open Go.RowKit
set_option maxHeartbeats 1600000 in
theorem tb2_short (f s : Int) (sa : Option Addr) (l : List UInt8) (cap : Nat) (w : World) (h0 : 0 ≤ f) (h1 : f < 256) (hlen : l.length ≤ 64)
  (hb : BytesA w (.slice sa l.length cap) l) :
  Calls Tryz.prog 29 #[.agg #[.int .i64 2, .int .i64 f, .int .i64 s, .slice none 0 0], .slice sa l.length cap] w fun e w' => Tamed w w' 2 f e := by
 have hbx : BytesA (w.alloc (.cells #[.int .i64 2, .int .i64 f, .int .i64 s, .slice none 0 0] 48)) (.slice sa l.length cap) l := BytesA.chg (hb) ((Chg.refl (fun _ => False) w).alloc _)
 have HB : Hid (BytesA (w.alloc (.cells #[.int .i64 2, .int .i64 f, .int .i64 s, .slice none 0 0] 48)) (.slice sa l.length cap) l) := hbx
 have hLL : Hid (l.length = l.length) := by show _ = _; rfl
 clear hbx hb
 go_enter Tryz.func29, Tryz.ntmps29
 go_wp2_with fail
 have hfx := fixed_any sa l cap l.length (w.alloc (.cells #[.int .i64 2, .int .i64 f, .int .i64 s, .slice none 0 0] 48)) hlen HB.out
 refine hfx.mono ?_
 clear hfx
 rintro e w1 ⟨g1, cap1, rfl, hown1, hb1⟩
 have hbl1 : Below w.heap.size w w1 := ((Below.refl _ _).alloc (Nat.le_refl _) _).trans (hb1.mono (by simp))
 have hfb1 : w1.heap[w.heap.size]? = some (.cells #[.int .i64 2, .int .i64 f, .int .i64 s, .slice none 0 0] 48) := by rw [hb1.block _ (by simp)]; exact heap_alloc_new w _
 have hown1' := owns_base hown1 (base' := w.heap.size) (fun j hj => by have := (hown1.lt j hj).1; simp at this; omega)
 obtain ⟨y0, y1, y2, y3, -⟩ := frame_block hfb1
 have hlt1 := lt_of_block hfb1
 clear hown1 hb1
 go_wp2_with fail
 refine (kflag_any 2 f s 1 none 0 0 w1 h0 h1 (Or.inl rfl)).mono ?_
 rintro e w2 ⟨he, hb2⟩
 subst he
 have hfb2 : w2.heap[w.heap.size]? = some (.cells #[.int .i64 2, .int .i64 f, .int .i64 s, .slice none 0 0] 48) := by rw [hb2.block _ hlt1]; exact hfb1
 have hbl2 := hbl1.trans (hb2.mono hbl1.size)
 have hown2 := owns_chg hown1' (Chg.of_below (S := fun _ => False) hb2) (fun _ _ => id)
 clear y0 y1 y2 y3 hown1' hfb1
 obtain ⟨y0, y1, y2, y3, -⟩ := frame_block hfb2
 have hlt2 := lt_of_block hfb2
 go_wp2_with fail
 refine (kflag_any 2 f s 8 none 0 0 w2 h0 h1 (Or.inr rfl)).mono ?_
 rintro e w3 ⟨he, hb3⟩
 subst he
 have hfb3 : w3.heap[w.heap.size]? = some (.cells #[.int .i64 2, .int .i64 f, .int .i64 s, .slice none 0 0] 48) := by rw [hb3.block _ hlt2]; exact hfb2
 have hbl3 := hbl2.trans (hb3.mono hbl2.size)
 have hown3 := owns_chg hown2 (Chg.of_below (S := fun _ => False) hb3) (fun _ _ => id)
 clear y0 y1 y2 y3 hown2 hfb2
 obtain ⟨y0, y1, y2, y3, -⟩ := frame_block hfb3
 have hlt3 := lt_of_block hfb3
 have hblk : ∀ j, j < (w.alloc (.cells #[.int .i64 2, .int .i64 f, .int .i64 s, .slice none 0 0] 48)).heap.size → w3.heap[j]? = (w.alloc (.cells #[.int .i64 2, .int .i64 f, .int .i64 s, .slice none 0 0] 48)).heap[j]? := fun j hj => by
  rw [World.size_alloc] at hj
  rcases Nat.lt_or_ge j w.heap.size with h | h
  ·rw [hbl3.block j h, Below.heap_alloc _ _ _ h]
  ·have : j = w.heap.size := by omega
   subst this
   rw [hfb3]; exact (heap_alloc_new w _).symm
 have hb3x : BytesA w3 (.slice sa l.length cap) l := HB.out.chg (Chg.mk (S := fun _ => False) hbl3.os hbl3.tape hbl3.output (by simp; omega) (fun j hj _ => hblk j hj))
 have hfx := fixed_any sa l cap 1 w3 (by omega) hb3x
 clear hb3x hblk
 go_wp2_with fail
 refine hfx.mono ?_
 clear hfx
 rintro e w4 ⟨g4, cap4, rfl, hown4, hb4⟩
 have hbl4 := hbl3.trans (hb4.mono hbl3.size)
 have hown4' := owns_base hown4 (base' := w.heap.size) (fun j hj => by have := (hown4.lt j hj).1; have := hbl3.size; omega)
 go_wp2
 go_ret
 exact ⟨_, fixedL l 1, rfl, by rw [fixedL_length]; exact hown4', tb_one (by omega) (fixedL_length _ _), hbl4⟩
set_option maxHeartbeats 1600000 in
theorem tb5_short (f s : Int) (sa : Option Addr) (l : List UInt8) (cap : Nat) (w : World) (h0 : 0 ≤ f) (h1 : f < 256) (hlen : l.length ≤ 64)
  (hb : BytesA w (.slice sa l.length cap) l) :
  Calls Tryz.prog 29 #[.agg #[.int .i64 5, .int .i64 f, .int .i64 s, .slice none 0 0], .slice sa l.length cap] w fun e w' => Tamed w w' 5 f e := by
 have hbx : BytesA (w.alloc (.cells #[.int .i64 5, .int .i64 f, .int .i64 s, .slice none 0 0] 48)) (.slice sa l.length cap) l := BytesA.chg (hb) ((Chg.refl (fun _ => False) w).alloc _)
 have HB : Hid (BytesA (w.alloc (.cells #[.int .i64 5, .int .i64 f, .int .i64 s, .slice none 0 0] 48)) (.slice sa l.length cap) l) := hbx
 have hLL : Hid (l.length = l.length) := by show _ = _; rfl
 clear hbx hb
 go_enter Tryz.func29, Tryz.ntmps29
 go_wp2_with fail
 have hfx := fixed_any sa l cap l.length (w.alloc (.cells #[.int .i64 5, .int .i64 f, .int .i64 s, .slice none 0 0] 48)) hlen HB.out
 refine hfx.mono ?_
 clear hfx
 rintro e w1 ⟨g1, cap1, rfl, hown1, hb1⟩
 have hbl1 : Below w.heap.size w w1 := ((Below.refl _ _).alloc (Nat.le_refl _) _).trans (hb1.mono (by simp))
 have hfb1 : w1.heap[w.heap.size]? = some (.cells #[.int .i64 5, .int .i64 f, .int .i64 s, .slice none 0 0] 48) := by rw [hb1.block _ (by simp)]; exact heap_alloc_new w _
 have hown1' := owns_base hown1 (base' := w.heap.size) (fun j hj => by have := (hown1.lt j hj).1; simp at this; omega)
 obtain ⟨y0, y1, y2, y3, -⟩ := frame_block hfb1
 have hlt1 := lt_of_block hfb1
 clear hown1 hb1
 go_wp2_with fail
 refine (kflag_any 5 f s 1 none 0 0 w1 h0 h1 (Or.inl rfl)).mono ?_
 rintro e w2 ⟨he, hb2⟩
 subst he
 have hfb2 : w2.heap[w.heap.size]? = some (.cells #[.int .i64 5, .int .i64 f, .int .i64 s, .slice none 0 0] 48) := by rw [hb2.block _ hlt1]; exact hfb1
 have hbl2 := hbl1.trans (hb2.mono hbl1.size)
 have hown2 := owns_chg hown1' (Chg.of_below (S := fun _ => False) hb2) (fun _ _ => id)
 clear y0 y1 y2 y3 hown1' hfb1
 obtain ⟨y0, y1, y2, y3, -⟩ := frame_block hfb2
 have hlt2 := lt_of_block hfb2
 go_wp2_with fail
 refine (kflag_any 5 f s 8 none 0 0 w2 h0 h1 (Or.inr rfl)).mono ?_
 rintro e w3 ⟨he, hb3⟩
 subst he
 have hfb3 : w3.heap[w.heap.size]? = some (.cells #[.int .i64 5, .int .i64 f, .int .i64 s, .slice none 0 0] 48) := by rw [hb3.block _ hlt2]; exact hfb2
 have hbl3 := hbl2.trans (hb3.mono hbl2.size)
 have hown3 := owns_chg hown2 (Chg.of_below (S := fun _ => False) hb3) (fun _ _ => id)
 clear y0 y1 y2 y3 hown2 hfb2
 obtain ⟨y0, y1, y2, y3, -⟩ := frame_block hfb3
 have hlt3 := lt_of_block hfb3
 have hblk : ∀ j, j < (w.alloc (.cells #[.int .i64 5, .int .i64 f, .int .i64 s, .slice none 0 0] 48)).heap.size → w3.heap[j]? = (w.alloc (.cells #[.int .i64 5, .int .i64 f, .int .i64 s, .slice none 0 0] 48)).heap[j]? := fun j hj => by
  rw [World.size_alloc] at hj
  rcases Nat.lt_or_ge j w.heap.size with h | h
  ·rw [hbl3.block j h, Below.heap_alloc _ _ _ h]
  ·have : j = w.heap.size := by omega
   subst this
   rw [hfb3]; exact (heap_alloc_new w _).symm
 have hb3x : BytesA w3 (.slice sa l.length cap) l := HB.out.chg (Chg.mk (S := fun _ => False) hbl3.os hbl3.tape hbl3.output (by simp; omega) (fun j hj _ => hblk j hj))
 have hfx := fixed_any sa l cap 1 w3 (by omega) hb3x
 clear hb3x hblk
 go_wp2_with fail
 refine hfx.mono ?_
 clear hfx
 rintro e w4 ⟨g4, cap4, rfl, hown4, hb4⟩
 have hbl4 := hbl3.trans (hb4.mono hbl3.size)
 have hown4' := owns_base hown4 (base' := w.heap.size) (fun j hj => by have := (hown4.lt j hj).1; have := hbl3.size; omega)
 go_wp2
 go_ret
 exact ⟨_, fixedL l 1, rfl, by rw [fixedL_length]; exact hown4', tb_one (by omega) (fixedL_length _ _), hbl4⟩
set_option maxHeartbeats 1600000 in
theorem tb4_short (f s : Int) (sa : Option Addr) (l : List UInt8) (cap : Nat) (w : World) (h0 : 0 ≤ f) (h1 : f < 256) (hlen : l.length ≤ 64)
  (hb : BytesA w (.slice sa l.length cap) l) :
  Calls Tryz.prog 29 #[.agg #[.int .i64 4, .int .i64 f, .int .i64 s, .slice none 0 0], .slice sa l.length cap] w fun e w' => Tamed w w' 4 f e := by
 have hbx : BytesA (w.alloc (.cells #[.int .i64 4, .int .i64 f, .int .i64 s, .slice none 0 0] 48)) (.slice sa l.length cap) l := BytesA.chg (hb) ((Chg.refl (fun _ => False) w).alloc _)
 have HB : Hid (BytesA (w.alloc (.cells #[.int .i64 4, .int .i64 f, .int .i64 s, .slice none 0 0] 48)) (.slice sa l.length cap) l) := hbx
 have hLL : Hid (l.length = l.length) := by show _ = _; rfl
 clear hbx hb
 go_enter Tryz.func29, Tryz.ntmps29
 go_wp2_with fail
 have hfx := fixed_any sa l cap l.length (w.alloc (.cells #[.int .i64 4, .int .i64 f, .int .i64 s, .slice none 0 0] 48)) hlen HB.out
 refine hfx.mono ?_
 clear hfx
 rintro e w1 ⟨g1, cap1, rfl, hown1, hb1⟩
 have hbl1 : Below w.heap.size w w1 := ((Below.refl _ _).alloc (Nat.le_refl _) _).trans (hb1.mono (by simp))
 have hfb1 : w1.heap[w.heap.size]? = some (.cells #[.int .i64 4, .int .i64 f, .int .i64 s, .slice none 0 0] 48) := by rw [hb1.block _ (by simp)]; exact heap_alloc_new w _
 have hown1' := owns_base hown1 (base' := w.heap.size) (fun j hj => by have := (hown1.lt j hj).1; simp at this; omega)
 obtain ⟨y0, y1, y2, y3, -⟩ := frame_block hfb1
 have hlt1 := lt_of_block hfb1
 clear hown1 hb1
 go_wp2_with fail
 refine (kflag_any 4 f s 1 none 0 0 w1 h0 h1 (Or.inl rfl)).mono ?_
 rintro e w2 ⟨he, hb2⟩
 subst he
 have hfb2 : w2.heap[w.heap.size]? = some (.cells #[.int .i64 4, .int .i64 f, .int .i64 s, .slice none 0 0] 48) := by rw [hb2.block _ hlt1]; exact hfb1
 have hbl2 := hbl1.trans (hb2.mono hbl1.size)
 have hown2 := owns_chg hown1' (Chg.of_below (S := fun _ => False) hb2) (fun _ _ => id)
 clear y0 y1 y2 y3 hown1' hfb1
 obtain ⟨y0, y1, y2, y3, -⟩ := frame_block hfb2
 have hlt2 := lt_of_block hfb2
 go_wp2_with fail
 refine (kflag_any 4 f s 8 none 0 0 w2 h0 h1 (Or.inr rfl)).mono ?_
 rintro e w3 ⟨he, hb3⟩
 subst he
 have hfb3 : w3.heap[w.heap.size]? = some (.cells #[.int .i64 4, .int .i64 f, .int .i64 s, .slice none 0 0] 48) := by rw [hb3.block _ hlt2]; exact hfb2
 have hbl3 := hbl2.trans (hb3.mono hbl2.size)
 have hown3 := owns_chg hown2 (Chg.of_below (S := fun _ => False) hb3) (fun _ _ => id)
 clear y0 y1 y2 y3 hown2 hfb2
 obtain ⟨y0, y1, y2, y3, -⟩ := frame_block hfb3
 have hlt3 := lt_of_block hfb3
 have hblk : ∀ j, j < (w.alloc (.cells #[.int .i64 4, .int .i64 f, .int .i64 s, .slice none 0 0] 48)).heap.size → w3.heap[j]? = (w.alloc (.cells #[.int .i64 4, .int .i64 f, .int .i64 s, .slice none 0 0] 48)).heap[j]? := fun j hj => by
  rw [World.size_alloc] at hj
  rcases Nat.lt_or_ge j w.heap.size with h | h
  ·rw [hbl3.block j h, Below.heap_alloc _ _ _ h]
  ·have : j = w.heap.size := by omega
   subst this
   rw [hfb3]; exact (heap_alloc_new w _).symm
 have hb3x : BytesA w3 (.slice sa l.length cap) l := HB.out.chg (Chg.mk (S := fun _ => False) hbl3.os hbl3.tape hbl3.output (by simp; omega) (fun j hj _ => hblk j hj))
 have hfx := fixed_any sa l cap 4 w3 (by omega) hb3x
 clear hb3x hblk
 go_wp2_with fail
 refine hfx.mono ?_
 clear hfx
 rintro e w4 ⟨g4, cap4, rfl, hown4, hb4⟩
 have hbl4 := hbl3.trans (hb4.mono hbl3.size)
 have hown4' := owns_base hown4 (base' := w.heap.size) (fun j hj => by have := (hown4.lt j hj).1; have := hbl3.size; omega)
 go_wp2
 go_ret
 exact ⟨_, fixedL l 4, rfl, by rw [fixedL_length]; exact hown4', tb_four (fixedL_length _ _), hbl4⟩
set_option maxHeartbeats 1600000 in
theorem tb3a_short (f s : Int) (sa : Option Addr) (l : List UInt8) (cap : Nat) (w : World) (h0 : 0 ≤ f) (h1 : f < 256) (hlen : l.length ≤ 64) (hf1 : hasB f 1 = true)
  (hb : BytesA w (.slice sa l.length cap) l) :
  Calls Tryz.prog 29 #[.agg #[.int .i64 3, .int .i64 f, .int .i64 s, .slice none 0 0], .slice sa l.length cap] w fun e w' => Tamed w w' 3 f e := by
 have hbx : BytesA (w.alloc (.cells #[.int .i64 3, .int .i64 f, .int .i64 s, .slice none 0 0] 48)) (.slice sa l.length cap) l := BytesA.chg (hb) ((Chg.refl (fun _ => False) w).alloc _)
 have HB : Hid (BytesA (w.alloc (.cells #[.int .i64 3, .int .i64 f, .int .i64 s, .slice none 0 0] 48)) (.slice sa l.length cap) l) := hbx
 have hLL : Hid (l.length = l.length) := by show _ = _; rfl
 clear hbx hb
 have H1 : Hid (hasB f 1 = true) := hf1
 clear hf1
 go_enter Tryz.func29, Tryz.ntmps29
 go_wp2_with fail
 have hfx := fixed_any sa l cap l.length (w.alloc (.cells #[.int .i64 3, .int .i64 f, .int .i64 s, .slice none 0 0] 48)) hlen HB.out
 refine hfx.mono ?_
 clear hfx
 rintro e w1 ⟨g1, cap1, rfl, hown1, hb1⟩
 have hbl1 : Below w.heap.size w w1 := ((Below.refl _ _).alloc (Nat.le_refl _) _).trans (hb1.mono (by simp))
 have hfb1 : w1.heap[w.heap.size]? = some (.cells #[.int .i64 3, .int .i64 f, .int .i64 s, .slice none 0 0] 48) := by rw [hb1.block _ (by simp)]; exact heap_alloc_new w _
 have hown1' := owns_base hown1 (base' := w.heap.size) (fun j hj => by have := (hown1.lt j hj).1; simp at this; omega)
 obtain ⟨y0, y1, y2, y3, -⟩ := frame_block hfb1
 have hlt1 := lt_of_block hfb1
 clear hown1 hb1
 go_wp2_with fail
 refine (kflag_any 3 f s 1 none 0 0 w1 h0 h1 (Or.inl rfl)).mono ?_
 rintro e w2 ⟨he, hb2⟩
 rw [H1.out] at he
 subst he
 have hfb2 : w2.heap[w.heap.size]? = some (.cells #[.int .i64 3, .int .i64 f, .int .i64 s, .slice none 0 0] 48) := by rw [hb2.block _ hlt1]; exact hfb1
 have hbl2 := hbl1.trans (hb2.mono hbl1.size)
 have hown2 := owns_chg hown1' (Chg.of_below (S := fun _ => False) hb2) (fun _ _ => id)
 clear y0 y1 y2 y3 hown1' hfb1
 obtain ⟨y0, y1, y2, y3, -⟩ := frame_block hfb2
 have hlt2 := lt_of_block hfb2
 go_wp2_with fail
 refine (kflag_any 3 f s 8 none 0 0 w2 h0 h1 (Or.inr rfl)).mono ?_
 rintro e w3 ⟨he, hb3⟩
 subst he
 have hfb3 : w3.heap[w.heap.size]? = some (.cells #[.int .i64 3, .int .i64 f, .int .i64 s, .slice none 0 0] 48) := by rw [hb3.block _ hlt2]; exact hfb2
 have hbl3 := hbl2.trans (hb3.mono hbl2.size)
 have hown3 := owns_chg hown2 (Chg.of_below (S := fun _ => False) hb3) (fun _ _ => id)
 clear y0 y1 y2 y3 hown2 hfb2
 obtain ⟨y0, y1, y2, y3, -⟩ := frame_block hfb3
 have hlt3 := lt_of_block hfb3
 go_wp2
 go_ret
 exact ⟨_, [], rfl, World.ownsRow_nil _ _ _ _, tb_ack H1.out, hbl3⟩
set_option maxHeartbeats 1600000 in
theorem tb0n_short (f s : Int) (sa : Option Addr) (l : List UInt8) (cap : Nat) (w : World) (h0 : 0 ≤ f) (h1 : f < 256) (hlen : l.length ≤ 64) (hf8 : hasB f 8 = false)
  (hb : BytesA w (.slice sa l.length cap) l) :
  Calls Tryz.prog 29 #[.agg #[.int .i64 0, .int .i64 f, .int .i64 s, .slice none 0 0], .slice sa l.length cap] w fun e w' => Tamed w w' 0 f e := by
 have hbx : BytesA (w.alloc (.cells #[.int .i64 0, .int .i64 f, .int .i64 s, .slice none 0 0] 48)) (.slice sa l.length cap) l := BytesA.chg (hb) ((Chg.refl (fun _ => False) w).alloc _)
 have HB : Hid (BytesA (w.alloc (.cells #[.int .i64 0, .int .i64 f, .int .i64 s, .slice none 0 0] 48)) (.slice sa l.length cap) l) := hbx
 have hLL : Hid (l.length = l.length) := by show _ = _; rfl
 clear hbx hb
 have H8 : Hid (hasB f 8 = false) := hf8
 clear hf8
 go_enter Tryz.func29, Tryz.ntmps29
 go_wp2_with fail
 have hfx := fixed_any sa l cap l.length (w.alloc (.cells #[.int .i64 0, .int .i64 f, .int .i64 s, .slice none 0 0] 48)) hlen HB.out
 refine hfx.mono ?_
 clear hfx
 rintro e w1 ⟨g1, cap1, rfl, hown1, hb1⟩
 have hbl1 : Below w.heap.size w w1 := ((Below.refl _ _).alloc (Nat.le_refl _) _).trans (hb1.mono (by simp))
 have hfb1 : w1.heap[w.heap.size]? = some (.cells #[.int .i64 0, .int .i64 f, .int .i64 s, .slice none 0 0] 48) := by rw [hb1.block _ (by simp)]; exact heap_alloc_new w _
 have hown1' := owns_base hown1 (base' := w.heap.size) (fun j hj => by have := (hown1.lt j hj).1; simp at this; omega)
 obtain ⟨y0, y1, y2, y3, -⟩ := frame_block hfb1
 have hlt1 := lt_of_block hfb1
 clear hown1 hb1
 go_wp2_with fail
 refine (kflag_any 0 f s 1 none 0 0 w1 h0 h1 (Or.inl rfl)).mono ?_
 rintro e w2 ⟨he, hb2⟩
 subst he
 have hfb2 : w2.heap[w.heap.size]? = some (.cells #[.int .i64 0, .int .i64 f, .int .i64 s, .slice none 0 0] 48) := by rw [hb2.block _ hlt1]; exact hfb1
 have hbl2 := hbl1.trans (hb2.mono hbl1.size)
 have hown2 := owns_chg hown1' (Chg.of_below (S := fun _ => False) hb2) (fun _ _ => id)
 clear y0 y1 y2 y3 hown1' hfb1
 obtain ⟨y0, y1, y2, y3, -⟩ := frame_block hfb2
 have hlt2 := lt_of_block hfb2
 go_wp2_with fail
 refine (kflag_any 0 f s 8 none 0 0 w2 h0 h1 (Or.inr rfl)).mono ?_
 rintro e w3 ⟨he, hb3⟩
 rw [H8.out] at he
 subst he
 have hfb3 : w3.heap[w.heap.size]? = some (.cells #[.int .i64 0, .int .i64 f, .int .i64 s, .slice none 0 0] 48) := by rw [hb3.block _ hlt2]; exact hfb2
 have hbl3 := hbl2.trans (hb3.mono hbl2.size)
 have hown3 := owns_chg hown2 (Chg.of_below (S := fun _ => False) hb3) (fun _ _ => id)
 clear y0 y1 y2 y3 hown2 hfb2
 obtain ⟨y0, y1, y2, y3, -⟩ := frame_block hfb3
 have hlt3 := lt_of_block hfb3
 go_wp2
 go_ret
 exact ⟨_, fixedL l l.length, rfl, by rw [fixedL_length]; exact hown3, tb_bare (by rw [fixedL_length]; omega) H8.out, hbl3⟩
set_option maxHeartbeats 1600000 in
theorem tbx_short (k f s : Int) (sa : Option Addr) (l : List UInt8) (cap : Nat) (w : World) (h0 : 0 ≤ f) (h1 : f < 256) (hlen : l.length ≤ 64) (k0 : ¬ k = 0) (k2 : ¬ k = 2) (k3 : ¬ k = 3) (k4 : ¬ k = 4) (k5 : ¬ k = 5) (k6 : ¬ k = 6)
  (hb : BytesA w (.slice sa l.length cap) l) :
  Calls Tryz.prog 29 #[.agg #[.int .i64 k, .int .i64 f, .int .i64 s, .slice none 0 0], .slice sa l.length cap] w fun e w' => Tamed w w' k f e := by
 have hbx : BytesA (w.alloc (.cells #[.int .i64 k, .int .i64 f, .int .i64 s, .slice none 0 0] 48)) (.slice sa l.length cap) l := BytesA.chg (hb) ((Chg.refl (fun _ => False) w).alloc _)
 have HB : Hid (BytesA (w.alloc (.cells #[.int .i64 k, .int .i64 f, .int .i64 s, .slice none 0 0] 48)) (.slice sa l.length cap) l) := hbx
 have hLL : Hid (l.length = l.length) := by show _ = _; rfl
 clear hbx hb
 go_enter Tryz.func29, Tryz.ntmps29
 go_wp2_with fail
 have hfx := fixed_any sa l cap l.length (w.alloc (.cells #[.int .i64 k, .int .i64 f, .int .i64 s, .slice none 0 0] 48)) hlen HB.out
 refine hfx.mono ?_
 clear hfx
 rintro e w1 ⟨g1, cap1, rfl, hown1, hb1⟩
 have hbl1 : Below w.heap.size w w1 := ((Below.refl _ _).alloc (Nat.le_refl _) _).trans (hb1.mono (by simp))
 have hfb1 : w1.heap[w.heap.size]? = some (.cells #[.int .i64 k, .int .i64 f, .int .i64 s, .slice none 0 0] 48) := by rw [hb1.block _ (by simp)]; exact heap_alloc_new w _
 have hown1' := owns_base hown1 (base' := w.heap.size) (fun j hj => by have := (hown1.lt j hj).1; simp at this; omega)
 obtain ⟨y0, y1, y2, y3, -⟩ := frame_block hfb1
 have hlt1 := lt_of_block hfb1
 clear hown1 hb1
 go_wp2_with fail
 refine (kflag_any k f s 1 none 0 0 w1 h0 h1 (Or.inl rfl)).mono ?_
 rintro e w2 ⟨he, hb2⟩
 subst he
 have hfb2 : w2.heap[w.heap.size]? = some (.cells #[.int .i64 k, .int .i64 f, .int .i64 s, .slice none 0 0] 48) := by rw [hb2.block _ hlt1]; exact hfb1
 have hbl2 := hbl1.trans (hb2.mono hbl1.size)
 have hown2 := owns_chg hown1' (Chg.of_below (S := fun _ => False) hb2) (fun _ _ => id)
 clear y0 y1 y2 y3 hown1' hfb1
 obtain ⟨y0, y1, y2, y3, -⟩ := frame_block hfb2
 have hlt2 := lt_of_block hfb2
 go_wp2_with fail
 refine (kflag_any k f s 8 none 0 0 w2 h0 h1 (Or.inr rfl)).mono ?_
 rintro e w3 ⟨he, hb3⟩
 subst he
 have hfb3 : w3.heap[w.heap.size]? = some (.cells #[.int .i64 k, .int .i64 f, .int .i64 s, .slice none 0 0] 48) := by rw [hb3.block _ hlt2]; exact hfb2
 have hbl3 := hbl2.trans (hb3.mono hbl2.size)
 have hown3 := owns_chg hown2 (Chg.of_below (S := fun _ => False) hb3) (fun _ _ => id)
 clear y0 y1 y2 y3 hown2 hfb2
 obtain ⟨y0, y1, y2, y3, -⟩ := frame_block hfb3
 have hlt3 := lt_of_block hfb3
 have b0 : (k == 0) = false := by simp [k0]
 have b2 : (k == 2) = false := by simp [k2]
 have b3 : (k == 3) = false := by simp [k3]
 have b4 : (k == 4) = false := by simp [k4]
 have b5 : (k == 5) = false := by simp [k5]
 have b6 : (k == 6) = false := by simp [k6]
 go_wp2
 go_ret
 exact ⟨_, fixedL l l.length, rfl, by rw [fixedL_length]; exact hown3, tb_else (by rw [fixedL_length]; omega) ⟨k0, k2, k3, k4, k5, k6⟩, hbl3⟩
set_option maxHeartbeats 1600000 in
theorem tb2_long (f s : Int) (bb off : Nat) (l : List UInt8) (cap : Nat) (w : World) (h0 : 0 ≤ f) (h1 : f < 256) (hlen : 64 < l.length)
  (hb : BytesA w (.slice (some ⟨bb, off, none⟩) l.length cap) l) (hcap : l.length ≤ cap) :
  Calls Tryz.prog 29 #[.agg #[.int .i64 2, .int .i64 f, .int .i64 s, .slice none 0 0], .slice (some ⟨bb, off, none⟩) l.length cap] w fun e w' => Tamed w w' 2 f e := by
 have hbx : BytesA (w.alloc (.cells #[.int .i64 2, .int .i64 f, .int .i64 s, .slice none 0 0] 48)) (.slice (some ⟨bb, off, none⟩) 64 cap) (l.take 64) := BytesA.chg (bytesIn_cut hb (by omega)) ((Chg.refl (fun _ => False) w).alloc _)
 have HB : Hid (BytesA (w.alloc (.cells #[.int .i64 2, .int .i64 f, .int .i64 s, .slice none 0 0] 48)) (.slice (some ⟨bb, off, none⟩) 64 cap) (l.take 64)) := hbx
 have hLL : Hid ((l.take 64).length = 64) := by show _ = _; simp; omega
 clear hbx hb
 go_enter Tryz.func29, Tryz.ntmps29
 go_wp2_with fail
 have hfx := fixed_any (some ⟨bb, off, none⟩) (l.take 64) cap 64 (w.alloc (.cells #[.int .i64 2, .int .i64 f, .int .i64 s, .slice none 0 0] 48)) (by omega) (by rw [hLL.out]; exact HB.out)
 rw [hLL.out] at hfx
 refine hfx.mono ?_
 clear hfx
 rintro e w1 ⟨g1, cap1, rfl, hown1, hb1⟩
 have hbl1 : Below w.heap.size w w1 := ((Below.refl _ _).alloc (Nat.le_refl _) _).trans (hb1.mono (by simp))
 have hfb1 : w1.heap[w.heap.size]? = some (.cells #[.int .i64 2, .int .i64 f, .int .i64 s, .slice none 0 0] 48) := by rw [hb1.block _ (by simp)]; exact heap_alloc_new w _
 have hown1' := owns_base hown1 (base' := w.heap.size) (fun j hj => by have := (hown1.lt j hj).1; simp at this; omega)
 obtain ⟨y0, y1, y2, y3, -⟩ := frame_block hfb1
 have hlt1 := lt_of_block hfb1
 clear hown1 hb1
 go_wp2_with fail
 refine (kflag_any 2 f s 1 none 0 0 w1 h0 h1 (Or.inl rfl)).mono ?_
 rintro e w2 ⟨he, hb2⟩
 subst he
 have hfb2 : w2.heap[w.heap.size]? = some (.cells #[.int .i64 2, .int .i64 f, .int .i64 s, .slice none 0 0] 48) := by rw [hb2.block _ hlt1]; exact hfb1
 have hbl2 := hbl1.trans (hb2.mono hbl1.size)
 have hown2 := owns_chg hown1' (Chg.of_below (S := fun _ => False) hb2) (fun _ _ => id)
 clear y0 y1 y2 y3 hown1' hfb1
 obtain ⟨y0, y1, y2, y3, -⟩ := frame_block hfb2
 have hlt2 := lt_of_block hfb2
 go_wp2_with fail
 refine (kflag_any 2 f s 8 none 0 0 w2 h0 h1 (Or.inr rfl)).mono ?_
 rintro e w3 ⟨he, hb3⟩
 subst he
 have hfb3 : w3.heap[w.heap.size]? = some (.cells #[.int .i64 2, .int .i64 f, .int .i64 s, .slice none 0 0] 48) := by rw [hb3.block _ hlt2]; exact hfb2
 have hbl3 := hbl2.trans (hb3.mono hbl2.size)
 have hown3 := owns_chg hown2 (Chg.of_below (S := fun _ => False) hb3) (fun _ _ => id)
 clear y0 y1 y2 y3 hown2 hfb2
 obtain ⟨y0, y1, y2, y3, -⟩ := frame_block hfb3
 have hlt3 := lt_of_block hfb3
 have hblk : ∀ j, j < (w.alloc (.cells #[.int .i64 2, .int .i64 f, .int .i64 s, .slice none 0 0] 48)).heap.size → w3.heap[j]? = (w.alloc (.cells #[.int .i64 2, .int .i64 f, .int .i64 s, .slice none 0 0] 48)).heap[j]? := fun j hj => by
  rw [World.size_alloc] at hj
  rcases Nat.lt_or_ge j w.heap.size with h | h
  ·rw [hbl3.block j h, Below.heap_alloc _ _ _ h]
  ·have : j = w.heap.size := by omega
   subst this
   rw [hfb3]; exact (heap_alloc_new w _).symm
 have hb3x : BytesA w3 (.slice (some ⟨bb, off, none⟩) 64 cap) (l.take 64) := HB.out.chg (Chg.mk (S := fun _ => False) hbl3.os hbl3.tape hbl3.output (by simp; omega) (fun j hj _ => hblk j hj))
 have hfx := fixed_any (some ⟨bb, off, none⟩) (l.take 64) cap 1 w3 (by omega) (by rw [hLL.out]; exact hb3x)
 rw [hLL.out] at hfx
 clear hb3x hblk
 go_wp2_with fail
 refine hfx.mono ?_
 clear hfx
 rintro e w4 ⟨g4, cap4, rfl, hown4, hb4⟩
 have hbl4 := hbl3.trans (hb4.mono hbl3.size)
 have hown4' := owns_base hown4 (base' := w.heap.size) (fun j hj => by have := (hown4.lt j hj).1; have := hbl3.size; omega)
 go_wp2
 go_ret
 exact ⟨_, fixedL (l.take 64) 1, rfl, by rw [fixedL_length]; exact hown4', tb_one (by omega) (fixedL_length _ _), hbl4⟩
set_option maxHeartbeats 1600000 in
theorem tb5_long (f s : Int) (bb off : Nat) (l : List UInt8) (cap : Nat) (w : World) (h0 : 0 ≤ f) (h1 : f < 256) (hlen : 64 < l.length)
  (hb : BytesA w (.slice (some ⟨bb, off, none⟩) l.length cap) l) (hcap : l.length ≤ cap) :
  Calls Tryz.prog 29 #[.agg #[.int .i64 5, .int .i64 f, .int .i64 s, .slice none 0 0], .slice (some ⟨bb, off, none⟩) l.length cap] w fun e w' => Tamed w w' 5 f e := by
 have hbx : BytesA (w.alloc (.cells #[.int .i64 5, .int .i64 f, .int .i64 s, .slice none 0 0] 48)) (.slice (some ⟨bb, off, none⟩) 64 cap) (l.take 64) := BytesA.chg (bytesIn_cut hb (by omega)) ((Chg.refl (fun _ => False) w).alloc _)
 have HB : Hid (BytesA (w.alloc (.cells #[.int .i64 5, .int .i64 f, .int .i64 s, .slice none 0 0] 48)) (.slice (some ⟨bb, off, none⟩) 64 cap) (l.take 64)) := hbx
 have hLL : Hid ((l.take 64).length = 64) := by show _ = _; simp; omega
 clear hbx hb
 go_enter Tryz.func29, Tryz.ntmps29
 go_wp2_with fail
 have hfx := fixed_any (some ⟨bb, off, none⟩) (l.take 64) cap 64 (w.alloc (.cells #[.int .i64 5, .int .i64 f, .int .i64 s, .slice none 0 0] 48)) (by omega) (by rw [hLL.out]; exact HB.out)
 rw [hLL.out] at hfx
 refine hfx.mono ?_
 clear hfx
 rintro e w1 ⟨g1, cap1, rfl, hown1, hb1⟩
 have hbl1 : Below w.heap.size w w1 := ((Below.refl _ _).alloc (Nat.le_refl _) _).trans (hb1.mono (by simp))
 have hfb1 : w1.heap[w.heap.size]? = some (.cells #[.int .i64 5, .int .i64 f, .int .i64 s, .slice none 0 0] 48) := by rw [hb1.block _ (by simp)]; exact heap_alloc_new w _
 have hown1' := owns_base hown1 (base' := w.heap.size) (fun j hj => by have := (hown1.lt j hj).1; simp at this; omega)
 obtain ⟨y0, y1, y2, y3, -⟩ := frame_block hfb1
 have hlt1 := lt_of_block hfb1
 clear hown1 hb1
 go_wp2_with fail
 refine (kflag_any 5 f s 1 none 0 0 w1 h0 h1 (Or.inl rfl)).mono ?_
 rintro e w2 ⟨he, hb2⟩
 subst he
 have hfb2 : w2.heap[w.heap.size]? = some (.cells #[.int .i64 5, .int .i64 f, .int .i64 s, .slice none 0 0] 48) := by rw [hb2.block _ hlt1]; exact hfb1
 have hbl2 := hbl1.trans (hb2.mono hbl1.size)
 have hown2 := owns_chg hown1' (Chg.of_below (S := fun _ => False) hb2) (fun _ _ => id)
 clear y0 y1 y2 y3 hown1' hfb1
 obtain ⟨y0, y1, y2, y3, -⟩ := frame_block hfb2
 have hlt2 := lt_of_block hfb2
 go_wp2_with fail
 refine (kflag_any 5 f s 8 none 0 0 w2 h0 h1 (Or.inr rfl)).mono ?_
 rintro e w3 ⟨he, hb3⟩
 subst he
 have hfb3 : w3.heap[w.heap.size]? = some (.cells #[.int .i64 5, .int .i64 f, .int .i64 s, .slice none 0 0] 48) := by rw [hb3.block _ hlt2]; exact hfb2
 have hbl3 := hbl2.trans (hb3.mono hbl2.size)
 have hown3 := owns_chg hown2 (Chg.of_below (S := fun _ => False) hb3) (fun _ _ => id)
 clear y0 y1 y2 y3 hown2 hfb2
 obtain ⟨y0, y1, y2, y3, -⟩ := frame_block hfb3
 have hlt3 := lt_of_block hfb3
 have hblk : ∀ j, j < (w.alloc (.cells #[.int .i64 5, .int .i64 f, .int .i64 s, .slice none 0 0] 48)).heap.size → w3.heap[j]? = (w.alloc (.cells #[.int .i64 5, .int .i64 f, .int .i64 s, .slice none 0 0] 48)).heap[j]? := fun j hj => by
  rw [World.size_alloc] at hj
  rcases Nat.lt_or_ge j w.heap.size with h | h
  ·rw [hbl3.block j h, Below.heap_alloc _ _ _ h]
  ·have : j = w.heap.size := by omega
   subst this
   rw [hfb3]; exact (heap_alloc_new w _).symm
 have hb3x : BytesA w3 (.slice (some ⟨bb, off, none⟩) 64 cap) (l.take 64) := HB.out.chg (Chg.mk (S := fun _ => False) hbl3.os hbl3.tape hbl3.output (by simp; omega) (fun j hj _ => hblk j hj))
 have hfx := fixed_any (some ⟨bb, off, none⟩) (l.take 64) cap 1 w3 (by omega) (by rw [hLL.out]; exact hb3x)
 rw [hLL.out] at hfx
 clear hb3x hblk
 go_wp2_with fail
 refine hfx.mono ?_
 clear hfx
 rintro e w4 ⟨g4, cap4, rfl, hown4, hb4⟩
 have hbl4 := hbl3.trans (hb4.mono hbl3.size)
 have hown4' := owns_base hown4 (base' := w.heap.size) (fun j hj => by have := (hown4.lt j hj).1; have := hbl3.size; omega)
 go_wp2
 go_ret
 exact ⟨_, fixedL (l.take 64) 1, rfl, by rw [fixedL_length]; exact hown4', tb_one (by omega) (fixedL_length _ _), hbl4⟩
set_option maxHeartbeats 1600000 in
theorem tb4_long (f s : Int) (bb off : Nat) (l : List UInt8) (cap : Nat) (w : World) (h0 : 0 ≤ f) (h1 : f < 256) (hlen : 64 < l.length)
  (hb : BytesA w (.slice (some ⟨bb, off, none⟩) l.length cap) l) (hcap : l.length ≤ cap) :
  Calls Tryz.prog 29 #[.agg #[.int .i64 4, .int .i64 f, .int .i64 s, .slice none 0 0], .slice (some ⟨bb, off, none⟩) l.length cap] w fun e w' => Tamed w w' 4 f e := by
 have hbx : BytesA (w.alloc (.cells #[.int .i64 4, .int .i64 f, .int .i64 s, .slice none 0 0] 48)) (.slice (some ⟨bb, off, none⟩) 64 cap) (l.take 64) := BytesA.chg (bytesIn_cut hb (by omega)) ((Chg.refl (fun _ => False) w).alloc _)
 have HB : Hid (BytesA (w.alloc (.cells #[.int .i64 4, .int .i64 f, .int .i64 s, .slice none 0 0] 48)) (.slice (some ⟨bb, off, none⟩) 64 cap) (l.take 64)) := hbx
 have hLL : Hid ((l.take 64).length = 64) := by show _ = _; simp; omega
 clear hbx hb
 go_enter Tryz.func29, Tryz.ntmps29
 go_wp2_with fail
 have hfx := fixed_any (some ⟨bb, off, none⟩) (l.take 64) cap 64 (w.alloc (.cells #[.int .i64 4, .int .i64 f, .int .i64 s, .slice none 0 0] 48)) (by omega) (by rw [hLL.out]; exact HB.out)
 rw [hLL.out] at hfx
 refine hfx.mono ?_
 clear hfx
 rintro e w1 ⟨g1, cap1, rfl, hown1, hb1⟩
 have hbl1 : Below w.heap.size w w1 := ((Below.refl _ _).alloc (Nat.le_refl _) _).trans (hb1.mono (by simp))
 have hfb1 : w1.heap[w.heap.size]? = some (.cells #[.int .i64 4, .int .i64 f, .int .i64 s, .slice none 0 0] 48) := by rw [hb1.block _ (by simp)]; exact heap_alloc_new w _
 have hown1' := owns_base hown1 (base' := w.heap.size) (fun j hj => by have := (hown1.lt j hj).1; simp at this; omega)
 obtain ⟨y0, y1, y2, y3, -⟩ := frame_block hfb1
 have hlt1 := lt_of_block hfb1
 clear hown1 hb1
 go_wp2_with fail
 refine (kflag_any 4 f s 1 none 0 0 w1 h0 h1 (Or.inl rfl)).mono ?_
 rintro e w2 ⟨he, hb2⟩
 subst he
 have hfb2 : w2.heap[w.heap.size]? = some (.cells #[.int .i64 4, .int .i64 f, .int .i64 s, .slice none 0 0] 48) := by rw [hb2.block _ hlt1]; exact hfb1
 have hbl2 := hbl1.trans (hb2.mono hbl1.size)
 have hown2 := owns_chg hown1' (Chg.of_below (S := fun _ => False) hb2) (fun _ _ => id)
 clear y0 y1 y2 y3 hown1' hfb1
 obtain ⟨y0, y1, y2, y3, -⟩ := frame_block hfb2
 have hlt2 := lt_of_block hfb2
 go_wp2_with fail
 refine (kflag_any 4 f s 8 none 0 0 w2 h0 h1 (Or.inr rfl)).mono ?_
 rintro e w3 ⟨he, hb3⟩
 subst he
 have hfb3 : w3.heap[w.heap.size]? = some (.cells #[.int .i64 4, .int .i64 f, .int .i64 s, .slice none 0 0] 48) := by rw [hb3.block _ hlt2]; exact hfb2
 have hbl3 := hbl2.trans (hb3.mono hbl2.size)
 have hown3 := owns_chg hown2 (Chg.of_below (S := fun _ => False) hb3) (fun _ _ => id)
 clear y0 y1 y2 y3 hown2 hfb2
 obtain ⟨y0, y1, y2, y3, -⟩ := frame_block hfb3
 have hlt3 := lt_of_block hfb3
 have hblk : ∀ j, j < (w.alloc (.cells #[.int .i64 4, .int .i64 f, .int .i64 s, .slice none 0 0] 48)).heap.size → w3.heap[j]? = (w.alloc (.cells #[.int .i64 4, .int .i64 f, .int .i64 s, .slice none 0 0] 48)).heap[j]? := fun j hj => by
  rw [World.size_alloc] at hj
  rcases Nat.lt_or_ge j w.heap.size with h | h
  ·rw [hbl3.block j h, Below.heap_alloc _ _ _ h]
  ·have : j = w.heap.size := by omega
   subst this
   rw [hfb3]; exact (heap_alloc_new w _).symm
 have hb3x : BytesA w3 (.slice (some ⟨bb, off, none⟩) 64 cap) (l.take 64) := HB.out.chg (Chg.mk (S := fun _ => False) hbl3.os hbl3.tape hbl3.output (by simp; omega) (fun j hj _ => hblk j hj))
 have hfx := fixed_any (some ⟨bb, off, none⟩) (l.take 64) cap 4 w3 (by omega) (by rw [hLL.out]; exact hb3x)
 rw [hLL.out] at hfx
 clear hb3x hblk
 go_wp2_with fail
 refine hfx.mono ?_
 clear hfx
 rintro e w4 ⟨g4, cap4, rfl, hown4, hb4⟩
 have hbl4 := hbl3.trans (hb4.mono hbl3.size)
 have hown4' := owns_base hown4 (base' := w.heap.size) (fun j hj => by have := (hown4.lt j hj).1; have := hbl3.size; omega)
 go_wp2
 go_ret
 exact ⟨_, fixedL (l.take 64) 4, rfl, by rw [fixedL_length]; exact hown4', tb_four (fixedL_length _ _), hbl4⟩
set_option maxHeartbeats 1600000 in
theorem tb3a_long (f s : Int) (bb off : Nat) (l : List UInt8) (cap : Nat) (w : World) (h0 : 0 ≤ f) (h1 : f < 256) (hlen : 64 < l.length) (hf1 : hasB f 1 = true)
  (hb : BytesA w (.slice (some ⟨bb, off, none⟩) l.length cap) l) (hcap : l.length ≤ cap) :
  Calls Tryz.prog 29 #[.agg #[.int .i64 3, .int .i64 f, .int .i64 s, .slice none 0 0], .slice (some ⟨bb, off, none⟩) l.length cap] w fun e w' => Tamed w w' 3 f e := by
 have hbx : BytesA (w.alloc (.cells #[.int .i64 3, .int .i64 f, .int .i64 s, .slice none 0 0] 48)) (.slice (some ⟨bb, off, none⟩) 64 cap) (l.take 64) := BytesA.chg (bytesIn_cut hb (by omega)) ((Chg.refl (fun _ => False) w).alloc _)
 have HB : Hid (BytesA (w.alloc (.cells #[.int .i64 3, .int .i64 f, .int .i64 s, .slice none 0 0] 48)) (.slice (some ⟨bb, off, none⟩) 64 cap) (l.take 64)) := hbx
 have hLL : Hid ((l.take 64).length = 64) := by show _ = _; simp; omega
 clear hbx hb
 have H1 : Hid (hasB f 1 = true) := hf1
 clear hf1
 go_enter Tryz.func29, Tryz.ntmps29
 go_wp2_with fail
 have hfx := fixed_any (some ⟨bb, off, none⟩) (l.take 64) cap 64 (w.alloc (.cells #[.int .i64 3, .int .i64 f, .int .i64 s, .slice none 0 0] 48)) (by omega) (by rw [hLL.out]; exact HB.out)
 rw [hLL.out] at hfx
 refine hfx.mono ?_
 clear hfx
 rintro e w1 ⟨g1, cap1, rfl, hown1, hb1⟩
 have hbl1 : Below w.heap.size w w1 := ((Below.refl _ _).alloc (Nat.le_refl _) _).trans (hb1.mono (by simp))
 have hfb1 : w1.heap[w.heap.size]? = some (.cells #[.int .i64 3, .int .i64 f, .int .i64 s, .slice none 0 0] 48) := by rw [hb1.block _ (by simp)]; exact heap_alloc_new w _
 have hown1' := owns_base hown1 (base' := w.heap.size) (fun j hj => by have := (hown1.lt j hj).1; simp at this; omega)
 obtain ⟨y0, y1, y2, y3, -⟩ := frame_block hfb1
 have hlt1 := lt_of_block hfb1
 clear hown1 hb1
 go_wp2_with fail
 refine (kflag_any 3 f s 1 none 0 0 w1 h0 h1 (Or.inl rfl)).mono ?_
 rintro e w2 ⟨he, hb2⟩
 rw [H1.out] at he
 subst he
 have hfb2 : w2.heap[w.heap.size]? = some (.cells #[.int .i64 3, .int .i64 f, .int .i64 s, .slice none 0 0] 48) := by rw [hb2.block _ hlt1]; exact hfb1
 have hbl2 := hbl1.trans (hb2.mono hbl1.size)
 have hown2 := owns_chg hown1' (Chg.of_below (S := fun _ => False) hb2) (fun _ _ => id)
 clear y0 y1 y2 y3 hown1' hfb1
 obtain ⟨y0, y1, y2, y3, -⟩ := frame_block hfb2
 have hlt2 := lt_of_block hfb2
 go_wp2_with fail
 refine (kflag_any 3 f s 8 none 0 0 w2 h0 h1 (Or.inr rfl)).mono ?_
 rintro e w3 ⟨he, hb3⟩
 subst he
 have hfb3 : w3.heap[w.heap.size]? = some (.cells #[.int .i64 3, .int .i64 f, .int .i64 s, .slice none 0 0] 48) := by rw [hb3.block _ hlt2]; exact hfb2
 have hbl3 := hbl2.trans (hb3.mono hbl2.size)
 have hown3 := owns_chg hown2 (Chg.of_below (S := fun _ => False) hb3) (fun _ _ => id)
 clear y0 y1 y2 y3 hown2 hfb2
 obtain ⟨y0, y1, y2, y3, -⟩ := frame_block hfb3
 have hlt3 := lt_of_block hfb3
 go_wp2
 go_ret
 exact ⟨_, [], rfl, World.ownsRow_nil _ _ _ _, tb_ack H1.out, hbl3⟩
set_option maxHeartbeats 1600000 in
theorem tb0n_long (f s : Int) (bb off : Nat) (l : List UInt8) (cap : Nat) (w : World) (h0 : 0 ≤ f) (h1 : f < 256) (hlen : 64 < l.length) (hf8 : hasB f 8 = false)
  (hb : BytesA w (.slice (some ⟨bb, off, none⟩) l.length cap) l) (hcap : l.length ≤ cap) :
  Calls Tryz.prog 29 #[.agg #[.int .i64 0, .int .i64 f, .int .i64 s, .slice none 0 0], .slice (some ⟨bb, off, none⟩) l.length cap] w fun e w' => Tamed w w' 0 f e := by
 have hbx : BytesA (w.alloc (.cells #[.int .i64 0, .int .i64 f, .int .i64 s, .slice none 0 0] 48)) (.slice (some ⟨bb, off, none⟩) 64 cap) (l.take 64) := BytesA.chg (bytesIn_cut hb (by omega)) ((Chg.refl (fun _ => False) w).alloc _)
 have HB : Hid (BytesA (w.alloc (.cells #[.int .i64 0, .int .i64 f, .int .i64 s, .slice none 0 0] 48)) (.slice (some ⟨bb, off, none⟩) 64 cap) (l.take 64)) := hbx
 have hLL : Hid ((l.take 64).length = 64) := by show _ = _; simp; omega
 clear hbx hb
 have H8 : Hid (hasB f 8 = false) := hf8
 clear hf8
 go_enter Tryz.func29, Tryz.ntmps29
 go_wp2_with fail
 have hfx := fixed_any (some ⟨bb, off, none⟩) (l.take 64) cap 64 (w.alloc (.cells #[.int .i64 0, .int .i64 f, .int .i64 s, .slice none 0 0] 48)) (by omega) (by rw [hLL.out]; exact HB.out)
 rw [hLL.out] at hfx
 refine hfx.mono ?_
 clear hfx
 rintro e w1 ⟨g1, cap1, rfl, hown1, hb1⟩
 have hbl1 : Below w.heap.size w w1 := ((Below.refl _ _).alloc (Nat.le_refl _) _).trans (hb1.mono (by simp))
 have hfb1 : w1.heap[w.heap.size]? = some (.cells #[.int .i64 0, .int .i64 f, .int .i64 s, .slice none 0 0] 48) := by rw [hb1.block _ (by simp)]; exact heap_alloc_new w _
 have hown1' := owns_base hown1 (base' := w.heap.size) (fun j hj => by have := (hown1.lt j hj).1; simp at this; omega)
 obtain ⟨y0, y1, y2, y3, -⟩ := frame_block hfb1
 have hlt1 := lt_of_block hfb1
 clear hown1 hb1
 go_wp2_with fail
 refine (kflag_any 0 f s 1 none 0 0 w1 h0 h1 (Or.inl rfl)).mono ?_
 rintro e w2 ⟨he, hb2⟩
 subst he
 have hfb2 : w2.heap[w.heap.size]? = some (.cells #[.int .i64 0, .int .i64 f, .int .i64 s, .slice none 0 0] 48) := by rw [hb2.block _ hlt1]; exact hfb1
 have hbl2 := hbl1.trans (hb2.mono hbl1.size)
 have hown2 := owns_chg hown1' (Chg.of_below (S := fun _ => False) hb2) (fun _ _ => id)
 clear y0 y1 y2 y3 hown1' hfb1
 obtain ⟨y0, y1, y2, y3, -⟩ := frame_block hfb2
 have hlt2 := lt_of_block hfb2
 go_wp2_with fail
 refine (kflag_any 0 f s 8 none 0 0 w2 h0 h1 (Or.inr rfl)).mono ?_
 rintro e w3 ⟨he, hb3⟩
 rw [H8.out] at he
 subst he
 have hfb3 : w3.heap[w.heap.size]? = some (.cells #[.int .i64 0, .int .i64 f, .int .i64 s, .slice none 0 0] 48) := by rw [hb3.block _ hlt2]; exact hfb2
 have hbl3 := hbl2.trans (hb3.mono hbl2.size)
 have hown3 := owns_chg hown2 (Chg.of_below (S := fun _ => False) hb3) (fun _ _ => id)
 clear y0 y1 y2 y3 hown2 hfb2
 obtain ⟨y0, y1, y2, y3, -⟩ := frame_block hfb3
 have hlt3 := lt_of_block hfb3
 go_wp2
 go_ret
 exact ⟨_, fixedL (l.take 64) 64, rfl, by rw [fixedL_length]; exact hown3, tb_bare (by rw [fixedL_length]; omega) H8.out, hbl3⟩
set_option maxHeartbeats 1600000 in
theorem tbx_long (k f s : Int) (bb off : Nat) (l : List UInt8) (cap : Nat) (w : World) (h0 : 0 ≤ f) (h1 : f < 256) (hlen : 64 < l.length) (k0 : ¬ k = 0) (k2 : ¬ k = 2) (k3 : ¬ k = 3) (k4 : ¬ k = 4) (k5 : ¬ k = 5) (k6 : ¬ k = 6)
  (hb : BytesA w (.slice (some ⟨bb, off, none⟩) l.length cap) l) (hcap : l.length ≤ cap) :
  Calls Tryz.prog 29 #[.agg #[.int .i64 k, .int .i64 f, .int .i64 s, .slice none 0 0], .slice (some ⟨bb, off, none⟩) l.length cap] w fun e w' => Tamed w w' k f e := by
 have hbx : BytesA (w.alloc (.cells #[.int .i64 k, .int .i64 f, .int .i64 s, .slice none 0 0] 48)) (.slice (some ⟨bb, off, none⟩) 64 cap) (l.take 64) := BytesA.chg (bytesIn_cut hb (by omega)) ((Chg.refl (fun _ => False) w).alloc _)
 have HB : Hid (BytesA (w.alloc (.cells #[.int .i64 k, .int .i64 f, .int .i64 s, .slice none 0 0] 48)) (.slice (some ⟨bb, off, none⟩) 64 cap) (l.take 64)) := hbx
 have hLL : Hid ((l.take 64).length = 64) := by show _ = _; simp; omega
 clear hbx hb
 go_enter Tryz.func29, Tryz.ntmps29
 go_wp2_with fail
 have hfx := fixed_any (some ⟨bb, off, none⟩) (l.take 64) cap 64 (w.alloc (.cells #[.int .i64 k, .int .i64 f, .int .i64 s, .slice none 0 0] 48)) (by omega) (by rw [hLL.out]; exact HB.out)
 rw [hLL.out] at hfx
 refine hfx.mono ?_
 clear hfx
 rintro e w1 ⟨g1, cap1, rfl, hown1, hb1⟩
 have hbl1 : Below w.heap.size w w1 := ((Below.refl _ _).alloc (Nat.le_refl _) _).trans (hb1.mono (by simp))
 have hfb1 : w1.heap[w.heap.size]? = some (.cells #[.int .i64 k, .int .i64 f, .int .i64 s, .slice none 0 0] 48) := by rw [hb1.block _ (by simp)]; exact heap_alloc_new w _
 have hown1' := owns_base hown1 (base' := w.heap.size) (fun j hj => by have := (hown1.lt j hj).1; simp at this; omega)
 obtain ⟨y0, y1, y2, y3, -⟩ := frame_block hfb1
 have hlt1 := lt_of_block hfb1
 clear hown1 hb1
 go_wp2_with fail
 refine (kflag_any k f s 1 none 0 0 w1 h0 h1 (Or.inl rfl)).mono ?_
 rintro e w2 ⟨he, hb2⟩
 subst he
 have hfb2 : w2.heap[w.heap.size]? = some (.cells #[.int .i64 k, .int .i64 f, .int .i64 s, .slice none 0 0] 48) := by rw [hb2.block _ hlt1]; exact hfb1
 have hbl2 := hbl1.trans (hb2.mono hbl1.size)
 have hown2 := owns_chg hown1' (Chg.of_below (S := fun _ => False) hb2) (fun _ _ => id)
 clear y0 y1 y2 y3 hown1' hfb1
 obtain ⟨y0, y1, y2, y3, -⟩ := frame_block hfb2
 have hlt2 := lt_of_block hfb2
 go_wp2_with fail
 refine (kflag_any k f s 8 none 0 0 w2 h0 h1 (Or.inr rfl)).mono ?_
 rintro e w3 ⟨he, hb3⟩
 subst he
 have hfb3 : w3.heap[w.heap.size]? = some (.cells #[.int .i64 k, .int .i64 f, .int .i64 s, .slice none 0 0] 48) := by rw [hb3.block _ hlt2]; exact hfb2
 have hbl3 := hbl2.trans (hb3.mono hbl2.size)
 have hown3 := owns_chg hown2 (Chg.of_below (S := fun _ => False) hb3) (fun _ _ => id)
 clear y0 y1 y2 y3 hown2 hfb2
 obtain ⟨y0, y1, y2, y3, -⟩ := frame_block hfb3
 have hlt3 := lt_of_block hfb3
 have b0 : (k == 0) = false := by simp [k0]
 have b2 : (k == 2) = false := by simp [k2]
 have b3 : (k == 3) = false := by simp [k3]
 have b4 : (k == 4) = false := by simp [k4]
 have b5 : (k == 5) = false := by simp [k5]
 have b6 : (k == 6) = false := by simp [k6]
 go_wp2
 go_ret
 exact ⟨_, fixedL (l.take 64) 64, rfl, by rw [fixedL_length]; exact hown3, tb_else (by rw [fixedL_length]; omega) ⟨k0, k2, k3, k4, k5, k6⟩, hbl3⟩
end Go.Proofs.YtdccldbefdfppaaGreatDoor
