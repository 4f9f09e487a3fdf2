import Derived.Test.YtdccldbefdfppaaGreatDoorPGar
import Derived.Test.YtdccldbefdfppaaGreatDoorPGat
import Derived.BigRegion
set_option linter.unusedVariables false
set_option linter.unusedSimpArgs false
namespace Go.Proofs.YtdccldbefdfppaaGreatDoor
open Go.RowKit
set_option maxRecDepth 100000 in
set_option maxHeartbeats 16000000 in
theorem comeHeaders2 (eb mb : Nat) (g : GEnd) (f n : Int) (sv : Option Addr) (len cb : Nat) (R S : World → Prop) (code : Int) (w : World) (h : Inv w eb mb g) (hf : 0 ≤ f ∧ f ≤ 255) (hop : g.m.opensN n = false) (hnw : g.m.newest < n) (hL : g.L.length ≤ 1048576) (h4 : ((g.L.length : Int) - (g.m.hereN (openS g.K g.L) : Nat)) < 4)
  (hcp : ∀ wx, Below w.heap.size w wx → Calls Tryz.prog 97 #[.pointer (some ⟨eb, 0, none⟩), .agg #[.int .i64 n, .slice none 0 0, .bool (hasB f 1)], .slice sv len cb, .bool (hasB f 4)] wx fun e w' => (e = .returned (.tuple #[]) ∧ R w') ∨ (e = .panicked [{ v := .iface 41 (.int .i64 code), recovered := false }] ∧ S w')) :
  Calls Tryz.prog 96 #[.pointer (some ⟨eb, 0, none⟩), .agg #[.int .i64 1, .int .i64 f, .int .i64 n, .slice sv len cb, .slice sv len cb]] w fun e w' => (e = .returned (.tuple #[]) ∧ R w') ∨ (e = .panicked [{ v := .iface 41 (.int .i64 code), recovered := false }] ∧ S w') := by
 have hbA : Below w.heap.size w (w.alloc (.cells #[.int .i64 1, .int .i64 f, .int .i64 n, .slice sv len cb, .slice sv len cb] 165)) := (Below.refl _ _).alloc (Nat.le_refl _) _
 have hnew := heap_alloc_new w (.cells #[.int .i64 1, .int .i64 f, .int .i64 n, .slice sv len cb, .slice sv len cb] 165)
 obtain ⟨wA, hwA⟩ : ∃ wA, wA = w.alloc (.cells #[.int .i64 1, .int .i64 f, .int .i64 n, .slice sv len cb, .slice sv len cb] 165) := ⟨_, rfl⟩
 rw [← hwA] at hbA hnew
 have hA := h.below hbA
 have HOPN : Hid (∀ wx, Below wA.heap.size wA wx → Calls Tryz.prog 76 #[.pointer (some ⟨eb, 0, none⟩), .int .i64 n] wx fun e w' => e = .returned (.bool false) ∧ w' = wx) := fun wx hx => by
  have := opens_any eb g.m n wx (hA.below hx).en
  rw [show ((n.tmod 2 == 1) == g.m.first) = false from hop] at this
  exact this
 have HOT : Hid (∀ wx, Below wA.heap.size wA wx → Calls Tryz.prog 131 #[.pointer (some ⟨eb, 0, none⟩)] wx fun e w' => e = .returned (.int .i64 ((g.L.length : Int) - (g.m.hereN (openS g.K g.L) : Nat))) ∧ Below wx.heap.size wx w') := fun wx hx => by
  have := openThere_any eb g.m (openS g.K g.L) wx (hA.below hx).en (hA.below hx).open (by rw [openS_length]; exact hL)
  rw [openS_length] at this
  exact this
 have HHB : Hid (∀ (b : Int) (wx : World), (b = 1 ∨ b = 4) → Calls Tryz.prog 98 #[.agg #[.int .i64 1, .int .i64 f, .int .i64 n, .slice sv len cb], .int .i64 b] wx fun e w' => e = .returned (.bool (hasB f b)) ∧ Below wx.heap.size wx w') := fun b wx hb => by
  rcases hb with rfl | rfl
  ·exact has_any 1 f n 1 _ wx hf.1 (by omega) (Or.inl rfl)
  ·exact has4_any 1 f n (.slice sv len cb) wx hf.1 (by omega)
 have HCP : Hid (∀ wx, Below wA.heap.size wA wx → Calls Tryz.prog 97 #[.pointer (some ⟨eb, 0, none⟩), .agg #[.int .i64 n, .slice none 0 0, .bool (hasB f 1)], .slice sv len cb, .bool (hasB f 4)] wx fun e w' => (e = .returned (.tuple #[]) ∧ R w') ∨ (e = .panicked [{ v := .iface 41 (.int .i64 code), recovered := false }] ∧ S w')) := fun wx hx => hcp wx (hbA.trans (hx.mono hbA.size))
 have HBOX : Hid (∀ wx, Below wA.heap.size wA wx → wx.cell? ⟨w.heap.size, 0, none⟩ = some (.int .i64 1) ∧ wx.cell? ⟨w.heap.size, 1, none⟩ = some (.int .i64 f) ∧ wx.cell? ⟨w.heap.size, 2, none⟩ = some (.int .i64 n) ∧ wx.cell? ⟨w.heap.size, 3, none⟩ = some (.slice sv len cb) ∧ wx.cell? ⟨w.heap.size, 4, none⟩ = some (.slice sv len cb) ∧ wx.cell? ⟨eb, 34, none⟩ = some (.int .i64 g.m.newest)) := fun wx hx => by
  have hb : wx.heap[w.heap.size]? = some (.cells #[.int .i64 1, .int .i64 f, .int .i64 n, .slice sv len cb, .slice sv len cb] 165 (0, 0)) := by rw [hx.block _ (lt_of_block hnew)]; exact hnew
  refine ⟨?_, ?_, ?_, ?_, ?_, (hA.below hx).en.c34⟩ <;> (rw [cell_of_row _ _ _ _ _ _ hb]; rfl)
 have hlt : eb < wA.heap.size := hA.en.lt
 have hltb : w.heap.size < wA.heap.size := lt_of_block hnew
 have hle : (n ≤ g.m.newest) = False := eq_false (by omega)
 have HWA := hide hwA
 generalize hZ : ((g.L.length : Int) - (g.m.hereN (openS g.K g.L) : Nat)) = Z at *
 have hz4 : ((4 : Int) ≤ Z) = False := eq_false (by omega)
 have HBA := hide hbA
 clear h hA hbA hnew hop hf hZ h4 hcp hL
 go_enter Tryz.func96, Tryz.ntmps96
 go_upto_region 1 with fail
 rw [← HWA.out]
 clear hwA
 obtain ⟨z0, z1, z2, z3, z4, z34⟩ := HBOX.out wA (Below.refl _ _)
 go_cut [26] (fun s26 wx => s26 = .bool false ∧ Below wA.heap.size wA wx)
 case first =>
  go_region_held3 (fun w' => w'.cell? ⟨w.heap.size, 2, none⟩ = some (.int .i64 n) ∧ w'.cell? ⟨eb, 34, none⟩ = some (.int .i64 g.m.newest)) (go_keep)
   (first
    | (go_at_call 76; refine (HOPN.out wA.drew ⟨rfl, rfl, rfl, Nat.le_refl _, fun _ _ => rfl⟩).mono ?_; rintro e w' ⟨rfl, rfl⟩)
    | (go_at_call 131; refine (HOT.out wA.drew ⟨rfl, rfl, rfl, Nat.le_refl _, fun _ _ => rfl⟩).mono ?_; rintro e w1 ⟨rfl, hb1⟩; have hB1 : Below wA.heap.size wA w1 := ⟨hb1.os, hb1.tape, hb1.output, hb1.size, hb1.block⟩; have t2 := (HBOX.out w1 hB1).2.2.1; have t34 := (HBOX.out w1 hB1).2.2.2.2.2))
  all_goals (go_wp2_with fail; go_meet; exact ⟨by simp [hz4], hB1⟩)
 case rest =>
  obtain ⟨rfl, hbx⟩ := hcut
  obtain ⟨wB, hwB⟩ : ∃ wB, wB = wc := ⟨wc, rfl⟩
  subst hwB
  have HX := hide hbx
  obtain ⟨y0, y1, y2, y3, y4, y34⟩ := HBOX.out wB hbx
  clear hbx z0 z1 z2 z3 z4 z34
  go_upto_region 3 with fail
  have hBB : Below wA.heap.size wA wB.drew := ⟨HX.out.os, HX.out.tape, HX.out.output, HX.out.size, HX.out.block⟩
  go_region_law (first
   | (refine step_call rfl 98 Tryz.f98 Tryz.func98 (by kernel_rfl) rfl [.tmp 34, .const (.int .i64 1)] #[160, 3] rfl [.agg #[.int .i64 1, .int .i64 f, .int .i64 n, .slice sv len cb], .int .i64 1] (by simp [Act.eval, Act.put]) (HHB.out 1 _ (Or.inl rfl)) ?_; rintro e w1 ⟨rfl, hb1⟩; refine ⟨_, rfl, ?_⟩; first | (have hB1 : Below wA.heap.size wA w1 := below_step hBB hb1; obtain ⟨x0, x1, x2, x3, x4, x34⟩ := HBOX.out w1 hB1; clear hb1) | (have hB2 : Below wA.heap.size wA w1 := below_step hB1 hb1; obtain ⟨v0, v1, v2, v3, v4, v34⟩ := HBOX.out w1 hB2; clear hb1))
   | (refine step_call rfl 98 Tryz.f98 Tryz.func98 (by kernel_rfl) rfl [.tmp 40, .const (.int .i64 4)] #[160, 3] rfl [.agg #[.int .i64 1, .int .i64 f, .int .i64 n, .slice sv len cb], .int .i64 4] (by simp [Act.eval, Act.put]) (HHB.out 4 _ (Or.inr rfl)) ?_; rintro e w1 ⟨rfl, hb1⟩; refine ⟨_, rfl, ?_⟩; first | (have hB1 : Below wA.heap.size wA w1 := below_step hBB hb1; obtain ⟨x0, x1, x2, x3, x4, x34⟩ := HBOX.out w1 hB1; clear hb1) | (have hB2 : Below wA.heap.size wA w1 := below_step hB1 hb1; obtain ⟨v0, v1, v2, v3, v4, v34⟩ := HBOX.out w1 hB2; clear hb1))
   | (refine step_both rfl 97 Tryz.f97 Tryz.func97 (by kernel_rfl) rfl [.tmp 28, .tmp 36, .tmp 38, .tmp 41] #[123, 87, 44, 4] rfl [.pointer (some ⟨eb, 0, none⟩), .agg #[.int .i64 n, .slice none 0 0, .bool (hasB f 1)], .slice sv len cb, .bool (hasB f 4)] (by simp [Act.eval, Act.put]) _ _ (HCP.out _ hB2) (fun w3 hs => ⟨rfl, Or.inr ⟨rfl, hs⟩⟩) ?_; intro w3 hR; have HR := hide hR; clear hR))
  all_goals (go_wp2; exact bodyPost_end (results_none rfl _ _ _) rfl (Or.inl ⟨rfl, HR.out⟩))
end Go.Proofs.YtdccldbefdfppaaGreatDoor
