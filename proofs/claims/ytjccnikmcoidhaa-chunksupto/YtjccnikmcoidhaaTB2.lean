import Derived.Test.YtjccnikmcoidhaaTB0
set_option linter.unusedVariables false
set_option linter.unusedSimpArgs false
/-
  sluicekeep.tameBody, the kinds that bear a number.
-/
namespace Go.Proofs.Ytjccnikmcoidhaa
open Go.RowKit

theorem mod128 (x : UInt8) : ((ofI ((x.toNat : Int) % 128)).toNat : Int) = (x.toNat : Int) % 128 := ofI_toNat (by omega) (by omega)

theorem four_of {l : List UInt8} (h : l.length = 4) : ∃ x0 x1 x2 x3, l = [x0, x1, x2, x3] := by
  match l, h with
  | [x0, x1, x2, x3], _ => exact ⟨x0, x1, x2, x3, rfl⟩

set_option maxHeartbeats 1600000 in
theorem tb3b_short (f s : Int) (sa : Option Addr) (l : List UInt8) (cap : Nat) (w : World) (h0 : 0 ≤ f) (h1 : f < 256) (hlen : l.length ≤ 64) (hf1 : hasB f 1 = false)
    (hb : BytesA w (.slice sa l.length cap) l) :
    Calls Try.prog 9 #[.agg #[.int .i64 3, .int .i64 f, .int .i64 s, .slice none 0 0], .slice sa l.length cap] w fun e w' => Tamed w w' 3 f e := by
  have hbx : BytesA (w.alloc (.cells #[.int .i64 3, .int .i64 f, .int .i64 s, .slice none 0 0] 26)) (.slice sa l.length cap) l := BytesA.chg (hb) ((Chg.refl (fun _ => False) w).alloc _)
  have HB : Hid (BytesA (w.alloc (.cells #[.int .i64 3, .int .i64 f, .int .i64 s, .slice none 0 0] 26)) (.slice sa l.length cap) l) := hbx
  have hLL : Hid (l.length = l.length) := by show _ = _; rfl
  clear hbx hb
  have H1 : Hid (hasB f 1 = false) := hf1
  clear hf1
  go_enter Try.func9, Try.ntmps9
  go_wp2_with fail
  have hfx := fixed_any sa l cap l.length (w.alloc (.cells #[.int .i64 3, .int .i64 f, .int .i64 s, .slice none 0 0] 26)) hlen HB.out
  refine hfx.mono ?_
  clear hfx
  rintro e w1 ⟨g1, cap1, rfl, hown1, hb1⟩
  have hbl1 : Below w.heap.size w w1 := ((Below.refl _ _).alloc (Nat.le_refl _) _).trans (hb1.mono (by simp))
  have hfb1 : w1.heap[w.heap.size]? = some (.cells #[.int .i64 3, .int .i64 f, .int .i64 s, .slice none 0 0] 26) := by rw [hb1.block _ (by simp)]; exact heap_alloc_new w _
  have hown1' := owns_base hown1 (base' := w.heap.size) (fun j hj => by have := (hown1.lt j hj).1; simp at this; omega)
  obtain ⟨y0, y1, y2, y3, -⟩ := frame_block hfb1
  have hlt1 := lt_of_block hfb1
  clear hown1 hb1
  go_wp2_with fail
  refine (kflag_any 3 f s 1 none 0 0 w1 h0 h1 (Or.inl rfl)).mono ?_
  rintro e w2 ⟨he, hb2⟩
  rw [H1.out] at he
  subst he
  have hfb2 : w2.heap[w.heap.size]? = some (.cells #[.int .i64 3, .int .i64 f, .int .i64 s, .slice none 0 0] 26) := by rw [hb2.block _ hlt1]; exact hfb1
  have hbl2 := hbl1.trans (hb2.mono hbl1.size)
  have hown2 := owns_chg hown1' (Chg.of_below (S := fun _ => False) hb2) (fun _ _ => id)
  clear y0 y1 y2 y3 hown1' hfb1
  obtain ⟨y0, y1, y2, y3, -⟩ := frame_block hfb2
  have hlt2 := lt_of_block hfb2
  go_wp2_with fail
  refine (kflag_any 3 f s 8 none 0 0 w2 h0 h1 (Or.inr rfl)).mono ?_
  rintro e w3 ⟨he, hb3⟩
  subst he
  have hfb3 : w3.heap[w.heap.size]? = some (.cells #[.int .i64 3, .int .i64 f, .int .i64 s, .slice none 0 0] 26) := by rw [hb3.block _ hlt2]; exact hfb2
  have hbl3 := hbl2.trans (hb3.mono hbl2.size)
  have hown3 := owns_chg hown2 (Chg.of_below (S := fun _ => False) hb3) (fun _ _ => id)
  clear y0 y1 y2 y3 hown2 hfb2
  obtain ⟨y0, y1, y2, y3, -⟩ := frame_block hfb3
  have hlt3 := lt_of_block hfb3
  have hblk : ∀ j, j < (w.alloc (.cells #[.int .i64 3, .int .i64 f, .int .i64 s, .slice none 0 0] 26)).heap.size → w3.heap[j]? = (w.alloc (.cells #[.int .i64 3, .int .i64 f, .int .i64 s, .slice none 0 0] 26)).heap[j]? := fun j hj => by
    rw [World.size_alloc] at hj
    rcases Nat.lt_or_ge j w.heap.size with h | h
    · rw [hbl3.block j h, Below.heap_alloc _ _ _ h]
    · have : j = w.heap.size := by omega
      subst this
      rw [hfb3]; exact (heap_alloc_new w _).symm
  have hb3x : BytesA w3 (.slice sa l.length cap) l := HB.out.chg (Chg.mk (S := fun _ => False) hbl3.os hbl3.tape hbl3.output (by simp; omega) (fun j hj _ => hblk j hj))
  have hfx := fixed_any sa l cap 4 w3 (by omega) hb3x
  clear hb3x hblk
  go_wp2_with fail
  refine hfx.mono ?_
  clear hfx
  rintro e w4 ⟨g4, cap4, rfl, hown4, hb4⟩
  have hbl4 := hbl3.trans (hb4.mono hbl3.size)
  have hown4' := owns_base hown4 (base' := w.heap.size) (fun j hj => by have := (hown4.lt j hj).1; have := hbl3.size; omega)
  obtain ⟨x0, x1, x2, x3, hx⟩ := four_of (fixedL_length l 4)
  rw [hx] at hown4'
  have q0 := owns_cell hown4' (j := 0) (by omega)
  have r0 := hown4'.frozenAt 0
  have hs4 := owns_set hown4' 0 (ofI ((x0.toNat : Int) % 128))
  obtain ⟨x0', hx0'⟩ : ∃ y, y = ofI ((x0.toNat : Int) % 128) := ⟨_, rfl⟩
  have hmod : (x0'.toNat : Int) = (x0.toNat : Int) % 128 := by rw [hx0']; exact mod128 x0
  have hlt : x0'.toNat < 128 := by omega
  rw [← hx0'] at hs4
  have hbm : B x0' = .int .u8 ((x0.toNat : Int) % 128) := by unfold B; rw [hmod]
  rw [hbm] at hs4
  obtain ⟨w5, hw5⟩ : ∃ w5, w4.setCell ⟨g4, 0, none⟩ (.int .u8 ((x0.toNat : Int) % 128)) = w5 := ⟨_, rfl⟩
  rw [hw5] at hs4
  simp only [List.set_cons_zero] at hs4
  have hg4 : w.heap.size ≤ g4 := (hown4'.lt g4 rfl).1
  have hbl5 : Below w.heap.size w w5 := by rw [← hw5]; exact hbl4.setCell hg4 _
  have p0 := owns_cell hs4 (j := 0) (by omega)
  have p1 := owns_cell hs4 (j := 1) (by omega)
  have p2 := owns_cell hs4 (j := 2) (by omega)
  have p3 := owns_cell hs4 (j := 3) (by omega)
  have r3 := hs4.frozenAt 3
  simp only [List.getD_cons_zero] at q0
  have HM : Hid ((x0'.toNat : Int) = (x0.toNat : Int) % 128) := hmod
  clear hmod hbm hx0' hx hown4' hown4
  go_wp2_with fail
  refine (value_any g4 0 4 cap4 x0' x1 x2 x3 w5 (by omega) (by simpa using p0) (by simpa using p1) (by simpa using p2) (by simpa using p3)).mono ?_
  rintro e w6 ⟨rfl, m6, rfl⟩
  have h1' := x1.toNat_lt
  have h2' := x2.toNat_lt
  have h3' := x3.toNat_lt
  have hs6 : (w5.drewN m6).ownsRow w.heap.size 5 1 (.slice (some ⟨g4, 0, none⟩) 4 cap4) 4 ([x0', x1, x2, x3].map B) := hs4
  by_cases hz : be4 x0' x1 x2 x3 = 0
  · have hzb : (be4 x0' x1 x2 x3 == 0) = true := by simp [hz]
    have HZ : Hid (be4 x0' x1 x2 x3 = 0) := hz
    clear hz
    simp only [List.getD_cons_zero, List.getD_cons_succ] at p3
    go_wp2
    go_ret
    have h9 := owns_set hs6 3 1
    refine ⟨_, [x0', x1, x2, 1], rfl, h9, tb_num (Or.inl ⟨rfl, H1.out⟩) ?_ ?_, (below_drewN hbl5 m6).setCell hg4 _⟩
    · have := HZ.out; unfold be4 at this ⊢; simp; omega
    · have := HZ.out; unfold be4 at this ⊢; simp; omega
  · have hzb : (be4 x0' x1 x2 x3 == 0) = false := by simp [hz]
    have HZ : Hid (¬ be4 x0' x1 x2 x3 = 0) := hz
    clear hz
    go_wp2
    go_ret
    refine ⟨_, [x0', x1, x2, x3], rfl, hs6, tb_num (Or.inl ⟨rfl, H1.out⟩) ?_ ?_, below_drewN hbl5 m6⟩
    · have := HZ.out; unfold be4 at this ⊢; omega
    · unfold be4; omega

set_option maxHeartbeats 1600000 in
theorem tb6_short (f s : Int) (sa : Option Addr) (l : List UInt8) (cap : Nat) (w : World) (h0 : 0 ≤ f) (h1 : f < 256) (hlen : l.length ≤ 64) 
    (hb : BytesA w (.slice sa l.length cap) l) :
    Calls Try.prog 9 #[.agg #[.int .i64 6, .int .i64 f, .int .i64 s, .slice none 0 0], .slice sa l.length cap] w fun e w' => Tamed w w' 6 f e := by
  have hbx : BytesA (w.alloc (.cells #[.int .i64 6, .int .i64 f, .int .i64 s, .slice none 0 0] 26)) (.slice sa l.length cap) l := BytesA.chg (hb) ((Chg.refl (fun _ => False) w).alloc _)
  have HB : Hid (BytesA (w.alloc (.cells #[.int .i64 6, .int .i64 f, .int .i64 s, .slice none 0 0] 26)) (.slice sa l.length cap) l) := hbx
  have hLL : Hid (l.length = l.length) := by show _ = _; rfl
  clear hbx hb
  go_enter Try.func9, Try.ntmps9
  go_wp2_with fail
  have hfx := fixed_any sa l cap l.length (w.alloc (.cells #[.int .i64 6, .int .i64 f, .int .i64 s, .slice none 0 0] 26)) hlen HB.out
  refine hfx.mono ?_
  clear hfx
  rintro e w1 ⟨g1, cap1, rfl, hown1, hb1⟩
  have hbl1 : Below w.heap.size w w1 := ((Below.refl _ _).alloc (Nat.le_refl _) _).trans (hb1.mono (by simp))
  have hfb1 : w1.heap[w.heap.size]? = some (.cells #[.int .i64 6, .int .i64 f, .int .i64 s, .slice none 0 0] 26) := by rw [hb1.block _ (by simp)]; exact heap_alloc_new w _
  have hown1' := owns_base hown1 (base' := w.heap.size) (fun j hj => by have := (hown1.lt j hj).1; simp at this; omega)
  obtain ⟨y0, y1, y2, y3, -⟩ := frame_block hfb1
  have hlt1 := lt_of_block hfb1
  clear hown1 hb1
  go_wp2_with fail
  refine (kflag_any 6 f s 1 none 0 0 w1 h0 h1 (Or.inl rfl)).mono ?_
  rintro e w2 ⟨he, hb2⟩
  subst he
  have hfb2 : w2.heap[w.heap.size]? = some (.cells #[.int .i64 6, .int .i64 f, .int .i64 s, .slice none 0 0] 26) := by rw [hb2.block _ hlt1]; exact hfb1
  have hbl2 := hbl1.trans (hb2.mono hbl1.size)
  have hown2 := owns_chg hown1' (Chg.of_below (S := fun _ => False) hb2) (fun _ _ => id)
  clear y0 y1 y2 y3 hown1' hfb1
  obtain ⟨y0, y1, y2, y3, -⟩ := frame_block hfb2
  have hlt2 := lt_of_block hfb2
  go_wp2_with fail
  refine (kflag_any 6 f s 8 none 0 0 w2 h0 h1 (Or.inr rfl)).mono ?_
  rintro e w3 ⟨he, hb3⟩
  subst he
  have hfb3 : w3.heap[w.heap.size]? = some (.cells #[.int .i64 6, .int .i64 f, .int .i64 s, .slice none 0 0] 26) := by rw [hb3.block _ hlt2]; exact hfb2
  have hbl3 := hbl2.trans (hb3.mono hbl2.size)
  have hown3 := owns_chg hown2 (Chg.of_below (S := fun _ => False) hb3) (fun _ _ => id)
  clear y0 y1 y2 y3 hown2 hfb2
  obtain ⟨y0, y1, y2, y3, -⟩ := frame_block hfb3
  have hlt3 := lt_of_block hfb3
  have hblk : ∀ j, j < (w.alloc (.cells #[.int .i64 6, .int .i64 f, .int .i64 s, .slice none 0 0] 26)).heap.size → w3.heap[j]? = (w.alloc (.cells #[.int .i64 6, .int .i64 f, .int .i64 s, .slice none 0 0] 26)).heap[j]? := fun j hj => by
    rw [World.size_alloc] at hj
    rcases Nat.lt_or_ge j w.heap.size with h | h
    · rw [hbl3.block j h, Below.heap_alloc _ _ _ h]
    · have : j = w.heap.size := by omega
      subst this
      rw [hfb3]; exact (heap_alloc_new w _).symm
  have hb3x : BytesA w3 (.slice sa l.length cap) l := HB.out.chg (Chg.mk (S := fun _ => False) hbl3.os hbl3.tape hbl3.output (by simp; omega) (fun j hj _ => hblk j hj))
  have hfx := fixed_any sa l cap 4 w3 (by omega) hb3x
  clear hb3x hblk
  go_wp2_with fail
  refine hfx.mono ?_
  clear hfx
  rintro e w4 ⟨g4, cap4, rfl, hown4, hb4⟩
  have hbl4 := hbl3.trans (hb4.mono hbl3.size)
  have hown4' := owns_base hown4 (base' := w.heap.size) (fun j hj => by have := (hown4.lt j hj).1; have := hbl3.size; omega)
  obtain ⟨x0, x1, x2, x3, hx⟩ := four_of (fixedL_length l 4)
  rw [hx] at hown4'
  have q0 := owns_cell hown4' (j := 0) (by omega)
  have r0 := hown4'.frozenAt 0
  have hs4 := owns_set hown4' 0 (ofI ((x0.toNat : Int) % 128))
  obtain ⟨x0', hx0'⟩ : ∃ y, y = ofI ((x0.toNat : Int) % 128) := ⟨_, rfl⟩
  have hmod : (x0'.toNat : Int) = (x0.toNat : Int) % 128 := by rw [hx0']; exact mod128 x0
  have hlt : x0'.toNat < 128 := by omega
  rw [← hx0'] at hs4
  have hbm : B x0' = .int .u8 ((x0.toNat : Int) % 128) := by unfold B; rw [hmod]
  rw [hbm] at hs4
  obtain ⟨w5, hw5⟩ : ∃ w5, w4.setCell ⟨g4, 0, none⟩ (.int .u8 ((x0.toNat : Int) % 128)) = w5 := ⟨_, rfl⟩
  rw [hw5] at hs4
  simp only [List.set_cons_zero] at hs4
  have hg4 : w.heap.size ≤ g4 := (hown4'.lt g4 rfl).1
  have hbl5 : Below w.heap.size w w5 := by rw [← hw5]; exact hbl4.setCell hg4 _
  have p0 := owns_cell hs4 (j := 0) (by omega)
  have p1 := owns_cell hs4 (j := 1) (by omega)
  have p2 := owns_cell hs4 (j := 2) (by omega)
  have p3 := owns_cell hs4 (j := 3) (by omega)
  have r3 := hs4.frozenAt 3
  simp only [List.getD_cons_zero] at q0
  have HM : Hid ((x0'.toNat : Int) = (x0.toNat : Int) % 128) := hmod
  clear hmod hbm hx0' hx hown4' hown4
  go_wp2_with fail
  refine (value_any g4 0 4 cap4 x0' x1 x2 x3 w5 (by omega) (by simpa using p0) (by simpa using p1) (by simpa using p2) (by simpa using p3)).mono ?_
  rintro e w6 ⟨rfl, m6, rfl⟩
  have h1' := x1.toNat_lt
  have h2' := x2.toNat_lt
  have h3' := x3.toNat_lt
  have hs6 : (w5.drewN m6).ownsRow w.heap.size 5 1 (.slice (some ⟨g4, 0, none⟩) 4 cap4) 4 ([x0', x1, x2, x3].map B) := hs4
  by_cases hz : be4 x0' x1 x2 x3 = 0
  · have hzb : (be4 x0' x1 x2 x3 == 0) = true := by simp [hz]
    have HZ : Hid (be4 x0' x1 x2 x3 = 0) := hz
    clear hz
    simp only [List.getD_cons_zero, List.getD_cons_succ] at p3
    go_wp2
    go_ret
    have h9 := owns_set hs6 3 1
    refine ⟨_, [x0', x1, x2, 1], rfl, h9, tb_num (Or.inr rfl) ?_ ?_, (below_drewN hbl5 m6).setCell hg4 _⟩
    · have := HZ.out; unfold be4 at this ⊢; simp; omega
    · have := HZ.out; unfold be4 at this ⊢; simp; omega
  · have hzb : (be4 x0' x1 x2 x3 == 0) = false := by simp [hz]
    have HZ : Hid (¬ be4 x0' x1 x2 x3 = 0) := hz
    clear hz
    go_wp2
    go_ret
    refine ⟨_, [x0', x1, x2, x3], rfl, hs6, tb_num (Or.inr rfl) ?_ ?_, below_drewN hbl5 m6⟩
    · have := HZ.out; unfold be4 at this ⊢; omega
    · unfold be4; omega

set_option maxHeartbeats 1600000 in
theorem tb3b_long (f s : Int) (bb off : Nat) (l : List UInt8) (cap : Nat) (w : World) (h0 : 0 ≤ f) (h1 : f < 256) (hlen : 64 < l.length) (hf1 : hasB f 1 = false)
    (hb : BytesA w (.slice (some ⟨bb, off, none⟩) l.length cap) l) (hcap : l.length ≤ cap) :
    Calls Try.prog 9 #[.agg #[.int .i64 3, .int .i64 f, .int .i64 s, .slice none 0 0], .slice (some ⟨bb, off, none⟩) l.length cap] w fun e w' => Tamed w w' 3 f e := by
  have hbx : BytesA (w.alloc (.cells #[.int .i64 3, .int .i64 f, .int .i64 s, .slice none 0 0] 26)) (.slice (some ⟨bb, off, none⟩) 64 cap) (l.take 64) := BytesA.chg (bytesIn_cut hb (by omega)) ((Chg.refl (fun _ => False) w).alloc _)
  have HB : Hid (BytesA (w.alloc (.cells #[.int .i64 3, .int .i64 f, .int .i64 s, .slice none 0 0] 26)) (.slice (some ⟨bb, off, none⟩) 64 cap) (l.take 64)) := hbx
  have hLL : Hid ((l.take 64).length = 64) := by show _ = _; simp; omega
  clear hbx hb
  have H1 : Hid (hasB f 1 = false) := hf1
  clear hf1
  go_enter Try.func9, Try.ntmps9
  go_wp2_with fail
  have hfx := fixed_any (some ⟨bb, off, none⟩) (l.take 64) cap 64 (w.alloc (.cells #[.int .i64 3, .int .i64 f, .int .i64 s, .slice none 0 0] 26)) (by omega) (by rw [hLL.out]; exact HB.out)
  rw [hLL.out] at hfx
  refine hfx.mono ?_
  clear hfx
  rintro e w1 ⟨g1, cap1, rfl, hown1, hb1⟩
  have hbl1 : Below w.heap.size w w1 := ((Below.refl _ _).alloc (Nat.le_refl _) _).trans (hb1.mono (by simp))
  have hfb1 : w1.heap[w.heap.size]? = some (.cells #[.int .i64 3, .int .i64 f, .int .i64 s, .slice none 0 0] 26) := by rw [hb1.block _ (by simp)]; exact heap_alloc_new w _
  have hown1' := owns_base hown1 (base' := w.heap.size) (fun j hj => by have := (hown1.lt j hj).1; simp at this; omega)
  obtain ⟨y0, y1, y2, y3, -⟩ := frame_block hfb1
  have hlt1 := lt_of_block hfb1
  clear hown1 hb1
  go_wp2_with fail
  refine (kflag_any 3 f s 1 none 0 0 w1 h0 h1 (Or.inl rfl)).mono ?_
  rintro e w2 ⟨he, hb2⟩
  rw [H1.out] at he
  subst he
  have hfb2 : w2.heap[w.heap.size]? = some (.cells #[.int .i64 3, .int .i64 f, .int .i64 s, .slice none 0 0] 26) := by rw [hb2.block _ hlt1]; exact hfb1
  have hbl2 := hbl1.trans (hb2.mono hbl1.size)
  have hown2 := owns_chg hown1' (Chg.of_below (S := fun _ => False) hb2) (fun _ _ => id)
  clear y0 y1 y2 y3 hown1' hfb1
  obtain ⟨y0, y1, y2, y3, -⟩ := frame_block hfb2
  have hlt2 := lt_of_block hfb2
  go_wp2_with fail
  refine (kflag_any 3 f s 8 none 0 0 w2 h0 h1 (Or.inr rfl)).mono ?_
  rintro e w3 ⟨he, hb3⟩
  subst he
  have hfb3 : w3.heap[w.heap.size]? = some (.cells #[.int .i64 3, .int .i64 f, .int .i64 s, .slice none 0 0] 26) := by rw [hb3.block _ hlt2]; exact hfb2
  have hbl3 := hbl2.trans (hb3.mono hbl2.size)
  have hown3 := owns_chg hown2 (Chg.of_below (S := fun _ => False) hb3) (fun _ _ => id)
  clear y0 y1 y2 y3 hown2 hfb2
  obtain ⟨y0, y1, y2, y3, -⟩ := frame_block hfb3
  have hlt3 := lt_of_block hfb3
  have hblk : ∀ j, j < (w.alloc (.cells #[.int .i64 3, .int .i64 f, .int .i64 s, .slice none 0 0] 26)).heap.size → w3.heap[j]? = (w.alloc (.cells #[.int .i64 3, .int .i64 f, .int .i64 s, .slice none 0 0] 26)).heap[j]? := fun j hj => by
    rw [World.size_alloc] at hj
    rcases Nat.lt_or_ge j w.heap.size with h | h
    · rw [hbl3.block j h, Below.heap_alloc _ _ _ h]
    · have : j = w.heap.size := by omega
      subst this
      rw [hfb3]; exact (heap_alloc_new w _).symm
  have hb3x : BytesA w3 (.slice (some ⟨bb, off, none⟩) 64 cap) (l.take 64) := HB.out.chg (Chg.mk (S := fun _ => False) hbl3.os hbl3.tape hbl3.output (by simp; omega) (fun j hj _ => hblk j hj))
  have hfx := fixed_any (some ⟨bb, off, none⟩) (l.take 64) cap 4 w3 (by omega) (by rw [hLL.out]; exact hb3x)
  rw [hLL.out] at hfx
  clear hb3x hblk
  go_wp2_with fail
  refine hfx.mono ?_
  clear hfx
  rintro e w4 ⟨g4, cap4, rfl, hown4, hb4⟩
  have hbl4 := hbl3.trans (hb4.mono hbl3.size)
  have hown4' := owns_base hown4 (base' := w.heap.size) (fun j hj => by have := (hown4.lt j hj).1; have := hbl3.size; omega)
  obtain ⟨x0, x1, x2, x3, hx⟩ := four_of (fixedL_length (l.take 64) 4)
  rw [hx] at hown4'
  have q0 := owns_cell hown4' (j := 0) (by omega)
  have r0 := hown4'.frozenAt 0
  have hs4 := owns_set hown4' 0 (ofI ((x0.toNat : Int) % 128))
  obtain ⟨x0', hx0'⟩ : ∃ y, y = ofI ((x0.toNat : Int) % 128) := ⟨_, rfl⟩
  have hmod : (x0'.toNat : Int) = (x0.toNat : Int) % 128 := by rw [hx0']; exact mod128 x0
  have hlt : x0'.toNat < 128 := by omega
  rw [← hx0'] at hs4
  have hbm : B x0' = .int .u8 ((x0.toNat : Int) % 128) := by unfold B; rw [hmod]
  rw [hbm] at hs4
  obtain ⟨w5, hw5⟩ : ∃ w5, w4.setCell ⟨g4, 0, none⟩ (.int .u8 ((x0.toNat : Int) % 128)) = w5 := ⟨_, rfl⟩
  rw [hw5] at hs4
  simp only [List.set_cons_zero] at hs4
  have hg4 : w.heap.size ≤ g4 := (hown4'.lt g4 rfl).1
  have hbl5 : Below w.heap.size w w5 := by rw [← hw5]; exact hbl4.setCell hg4 _
  have p0 := owns_cell hs4 (j := 0) (by omega)
  have p1 := owns_cell hs4 (j := 1) (by omega)
  have p2 := owns_cell hs4 (j := 2) (by omega)
  have p3 := owns_cell hs4 (j := 3) (by omega)
  have r3 := hs4.frozenAt 3
  simp only [List.getD_cons_zero] at q0
  have HM : Hid ((x0'.toNat : Int) = (x0.toNat : Int) % 128) := hmod
  clear hmod hbm hx0' hx hown4' hown4
  go_wp2_with fail
  refine (value_any g4 0 4 cap4 x0' x1 x2 x3 w5 (by omega) (by simpa using p0) (by simpa using p1) (by simpa using p2) (by simpa using p3)).mono ?_
  rintro e w6 ⟨rfl, m6, rfl⟩
  have h1' := x1.toNat_lt
  have h2' := x2.toNat_lt
  have h3' := x3.toNat_lt
  have hs6 : (w5.drewN m6).ownsRow w.heap.size 5 1 (.slice (some ⟨g4, 0, none⟩) 4 cap4) 4 ([x0', x1, x2, x3].map B) := hs4
  by_cases hz : be4 x0' x1 x2 x3 = 0
  · have hzb : (be4 x0' x1 x2 x3 == 0) = true := by simp [hz]
    have HZ : Hid (be4 x0' x1 x2 x3 = 0) := hz
    clear hz
    simp only [List.getD_cons_zero, List.getD_cons_succ] at p3
    go_wp2
    go_ret
    have h9 := owns_set hs6 3 1
    refine ⟨_, [x0', x1, x2, 1], rfl, h9, tb_num (Or.inl ⟨rfl, H1.out⟩) ?_ ?_, (below_drewN hbl5 m6).setCell hg4 _⟩
    · have := HZ.out; unfold be4 at this ⊢; simp; omega
    · have := HZ.out; unfold be4 at this ⊢; simp; omega
  · have hzb : (be4 x0' x1 x2 x3 == 0) = false := by simp [hz]
    have HZ : Hid (¬ be4 x0' x1 x2 x3 = 0) := hz
    clear hz
    go_wp2
    go_ret
    refine ⟨_, [x0', x1, x2, x3], rfl, hs6, tb_num (Or.inl ⟨rfl, H1.out⟩) ?_ ?_, below_drewN hbl5 m6⟩
    · have := HZ.out; unfold be4 at this ⊢; omega
    · unfold be4; omega

set_option maxHeartbeats 1600000 in
theorem tb6_long (f s : Int) (bb off : Nat) (l : List UInt8) (cap : Nat) (w : World) (h0 : 0 ≤ f) (h1 : f < 256) (hlen : 64 < l.length) 
    (hb : BytesA w (.slice (some ⟨bb, off, none⟩) l.length cap) l) (hcap : l.length ≤ cap) :
    Calls Try.prog 9 #[.agg #[.int .i64 6, .int .i64 f, .int .i64 s, .slice none 0 0], .slice (some ⟨bb, off, none⟩) l.length cap] w fun e w' => Tamed w w' 6 f e := by
  have hbx : BytesA (w.alloc (.cells #[.int .i64 6, .int .i64 f, .int .i64 s, .slice none 0 0] 26)) (.slice (some ⟨bb, off, none⟩) 64 cap) (l.take 64) := BytesA.chg (bytesIn_cut hb (by omega)) ((Chg.refl (fun _ => False) w).alloc _)
  have HB : Hid (BytesA (w.alloc (.cells #[.int .i64 6, .int .i64 f, .int .i64 s, .slice none 0 0] 26)) (.slice (some ⟨bb, off, none⟩) 64 cap) (l.take 64)) := hbx
  have hLL : Hid ((l.take 64).length = 64) := by show _ = _; simp; omega
  clear hbx hb
  go_enter Try.func9, Try.ntmps9
  go_wp2_with fail
  have hfx := fixed_any (some ⟨bb, off, none⟩) (l.take 64) cap 64 (w.alloc (.cells #[.int .i64 6, .int .i64 f, .int .i64 s, .slice none 0 0] 26)) (by omega) (by rw [hLL.out]; exact HB.out)
  rw [hLL.out] at hfx
  refine hfx.mono ?_
  clear hfx
  rintro e w1 ⟨g1, cap1, rfl, hown1, hb1⟩
  have hbl1 : Below w.heap.size w w1 := ((Below.refl _ _).alloc (Nat.le_refl _) _).trans (hb1.mono (by simp))
  have hfb1 : w1.heap[w.heap.size]? = some (.cells #[.int .i64 6, .int .i64 f, .int .i64 s, .slice none 0 0] 26) := by rw [hb1.block _ (by simp)]; exact heap_alloc_new w _
  have hown1' := owns_base hown1 (base' := w.heap.size) (fun j hj => by have := (hown1.lt j hj).1; simp at this; omega)
  obtain ⟨y0, y1, y2, y3, -⟩ := frame_block hfb1
  have hlt1 := lt_of_block hfb1
  clear hown1 hb1
  go_wp2_with fail
  refine (kflag_any 6 f s 1 none 0 0 w1 h0 h1 (Or.inl rfl)).mono ?_
  rintro e w2 ⟨he, hb2⟩
  subst he
  have hfb2 : w2.heap[w.heap.size]? = some (.cells #[.int .i64 6, .int .i64 f, .int .i64 s, .slice none 0 0] 26) := by rw [hb2.block _ hlt1]; exact hfb1
  have hbl2 := hbl1.trans (hb2.mono hbl1.size)
  have hown2 := owns_chg hown1' (Chg.of_below (S := fun _ => False) hb2) (fun _ _ => id)
  clear y0 y1 y2 y3 hown1' hfb1
  obtain ⟨y0, y1, y2, y3, -⟩ := frame_block hfb2
  have hlt2 := lt_of_block hfb2
  go_wp2_with fail
  refine (kflag_any 6 f s 8 none 0 0 w2 h0 h1 (Or.inr rfl)).mono ?_
  rintro e w3 ⟨he, hb3⟩
  subst he
  have hfb3 : w3.heap[w.heap.size]? = some (.cells #[.int .i64 6, .int .i64 f, .int .i64 s, .slice none 0 0] 26) := by rw [hb3.block _ hlt2]; exact hfb2
  have hbl3 := hbl2.trans (hb3.mono hbl2.size)
  have hown3 := owns_chg hown2 (Chg.of_below (S := fun _ => False) hb3) (fun _ _ => id)
  clear y0 y1 y2 y3 hown2 hfb2
  obtain ⟨y0, y1, y2, y3, -⟩ := frame_block hfb3
  have hlt3 := lt_of_block hfb3
  have hblk : ∀ j, j < (w.alloc (.cells #[.int .i64 6, .int .i64 f, .int .i64 s, .slice none 0 0] 26)).heap.size → w3.heap[j]? = (w.alloc (.cells #[.int .i64 6, .int .i64 f, .int .i64 s, .slice none 0 0] 26)).heap[j]? := fun j hj => by
    rw [World.size_alloc] at hj
    rcases Nat.lt_or_ge j w.heap.size with h | h
    · rw [hbl3.block j h, Below.heap_alloc _ _ _ h]
    · have : j = w.heap.size := by omega
      subst this
      rw [hfb3]; exact (heap_alloc_new w _).symm
  have hb3x : BytesA w3 (.slice (some ⟨bb, off, none⟩) 64 cap) (l.take 64) := HB.out.chg (Chg.mk (S := fun _ => False) hbl3.os hbl3.tape hbl3.output (by simp; omega) (fun j hj _ => hblk j hj))
  have hfx := fixed_any (some ⟨bb, off, none⟩) (l.take 64) cap 4 w3 (by omega) (by rw [hLL.out]; exact hb3x)
  rw [hLL.out] at hfx
  clear hb3x hblk
  go_wp2_with fail
  refine hfx.mono ?_
  clear hfx
  rintro e w4 ⟨g4, cap4, rfl, hown4, hb4⟩
  have hbl4 := hbl3.trans (hb4.mono hbl3.size)
  have hown4' := owns_base hown4 (base' := w.heap.size) (fun j hj => by have := (hown4.lt j hj).1; have := hbl3.size; omega)
  obtain ⟨x0, x1, x2, x3, hx⟩ := four_of (fixedL_length (l.take 64) 4)
  rw [hx] at hown4'
  have q0 := owns_cell hown4' (j := 0) (by omega)
  have r0 := hown4'.frozenAt 0
  have hs4 := owns_set hown4' 0 (ofI ((x0.toNat : Int) % 128))
  obtain ⟨x0', hx0'⟩ : ∃ y, y = ofI ((x0.toNat : Int) % 128) := ⟨_, rfl⟩
  have hmod : (x0'.toNat : Int) = (x0.toNat : Int) % 128 := by rw [hx0']; exact mod128 x0
  have hlt : x0'.toNat < 128 := by omega
  rw [← hx0'] at hs4
  have hbm : B x0' = .int .u8 ((x0.toNat : Int) % 128) := by unfold B; rw [hmod]
  rw [hbm] at hs4
  obtain ⟨w5, hw5⟩ : ∃ w5, w4.setCell ⟨g4, 0, none⟩ (.int .u8 ((x0.toNat : Int) % 128)) = w5 := ⟨_, rfl⟩
  rw [hw5] at hs4
  simp only [List.set_cons_zero] at hs4
  have hg4 : w.heap.size ≤ g4 := (hown4'.lt g4 rfl).1
  have hbl5 : Below w.heap.size w w5 := by rw [← hw5]; exact hbl4.setCell hg4 _
  have p0 := owns_cell hs4 (j := 0) (by omega)
  have p1 := owns_cell hs4 (j := 1) (by omega)
  have p2 := owns_cell hs4 (j := 2) (by omega)
  have p3 := owns_cell hs4 (j := 3) (by omega)
  have r3 := hs4.frozenAt 3
  simp only [List.getD_cons_zero] at q0
  have HM : Hid ((x0'.toNat : Int) = (x0.toNat : Int) % 128) := hmod
  clear hmod hbm hx0' hx hown4' hown4
  go_wp2_with fail
  refine (value_any g4 0 4 cap4 x0' x1 x2 x3 w5 (by omega) (by simpa using p0) (by simpa using p1) (by simpa using p2) (by simpa using p3)).mono ?_
  rintro e w6 ⟨rfl, m6, rfl⟩
  have h1' := x1.toNat_lt
  have h2' := x2.toNat_lt
  have h3' := x3.toNat_lt
  have hs6 : (w5.drewN m6).ownsRow w.heap.size 5 1 (.slice (some ⟨g4, 0, none⟩) 4 cap4) 4 ([x0', x1, x2, x3].map B) := hs4
  by_cases hz : be4 x0' x1 x2 x3 = 0
  · have hzb : (be4 x0' x1 x2 x3 == 0) = true := by simp [hz]
    have HZ : Hid (be4 x0' x1 x2 x3 = 0) := hz
    clear hz
    simp only [List.getD_cons_zero, List.getD_cons_succ] at p3
    go_wp2
    go_ret
    have h9 := owns_set hs6 3 1
    refine ⟨_, [x0', x1, x2, 1], rfl, h9, tb_num (Or.inr rfl) ?_ ?_, (below_drewN hbl5 m6).setCell hg4 _⟩
    · have := HZ.out; unfold be4 at this ⊢; simp; omega
    · have := HZ.out; unfold be4 at this ⊢; simp; omega
  · have hzb : (be4 x0' x1 x2 x3 == 0) = false := by simp [hz]
    have HZ : Hid (¬ be4 x0' x1 x2 x3 = 0) := hz
    clear hz
    go_wp2
    go_ret
    refine ⟨_, [x0', x1, x2, x3], rfl, hs6, tb_num (Or.inr rfl) ?_ ?_, below_drewN hbl5 m6⟩
    · have := HZ.out; unfold be4 at this ⊢; omega
    · unfold be4; omega

end Go.Proofs.Ytjccnikmcoidhaa
