import Derived.Test.YtiphkngfbpdeoaaGreatDoorVGap
import Derived.Test.YtiphkngfbpdeoaaGreatDoorVGak
set_option linter.unusedVariables false
set_option linter.unusedSimpArgs false
namespace Go.Proofs.YtiphkngfbpdeoaaGreatDoor
set_option linter.unusedVariables false
set_option linter.unusedSimpArgs false
open Go.RowKit
set_option maxRecDepth 100000 in
set_option maxHeartbeats 1200000 in
theorem comePiece_192 (eb : Nat) (m : EndM) (n : Int) (b : Bool) (sv : Option Addr) (cb : Nat) (w : World) (h : EnB w eb m) (hu : m.utab = .slice none 0 0) (hg : Gl w) (hbv : BytesIn w (.slice sv 1 cb) [192]) :
    Calls Tryz.prog 82 #[.pointer (some ⟨eb, 0, none⟩), .agg #[.int .i64 n, .slice none 0 0, .bool b], .slice sv 1 cb, .bool true] w fun e w' => e = .panicked [{ v := .iface 36 (.int .i64 13), recovered := false }] ∧ Below w.heap.size w w' := by
  obtain ⟨i0, hi, hz0, hz1, hz2⟩ := info_parts Tryz.info5
  have hlt := h.lt
  have HLI : Hid (∀ w', Below w.heap.size w w' → Lies w' (.slice sv 1 cb) 1 [.int .u8 192]) := fun w' hb => lies_of_bytesIn (hbv.chg (Chg.of_below (S := fun _ => False) hb) (fun _ _ => id))
  have H := hide h
  have HU := hide hu
  have HG := hide hg
  clear h hg hbv hu
  have hbA : Below w.heap.size w (w.alloc (.cells #[.int .i64 n, .slice none 0 0, .bool b] 82)) := (Below.refl _ _).alloc (Nat.le_refl _) _
  have HLA := hide (HLI.out _ hbA)
  clear hbA
  go_enter Tryz.func82, Tryz.ntmps82
  go_wp2_with (at_builtin; refine wpList_app _ rfl (.tmp 10) (.tmp 11) 38 rfl 5 i0 (.int .u8 0) 1 1 Tryz.underlying38 hi hz0 hz1 hz2 rfl (by decide) (.slice none 0 0) 0 [] rfl (World.ownsRow_nil _ _ _ _) _ 1 [.int .u8 192] rfl rfl HLA.out (by simp [Value.oneCell']) (by decide) (by decide) ?_)
  intro v1 w1 hown1 hg1 hfr1
  obtain ⟨s1, c1, rfl⟩ := slice_len hown1
  have hbA : Below w.heap.size w (w.alloc (.cells #[.int .i64 n, .slice none 0 0, .bool b] 82)) := (Below.refl _ _).alloc (Nat.le_refl _) _
  have hc1 : Below w.heap.size w w1 := below_of_chg hbA (Chg.of_grown (S := fun _ => False) hg1 (fun j hj => by simp [Value.ownBlock] at hj)) (fun _ e => e.elim)
  have hbox1 : w1.heap[w.heap.size]? = some (.cells #[.int .i64 n, .slice none 0 0, .bool b] 82 (0, 0)) := by
    have hcg := Chg.of_grown (S := fun _ => False) hg1 (fun j hj => by simp [Value.ownBlock] at hj)
    rw [hcg.block w.heap.size (by simp) id]
    exact heap_alloc_new w _
  have k1 : w1.cell? ⟨w.heap.size, 1, none⟩ = some (.slice none 0 0) := by rw [cell_of_row _ _ _ _ _ _ hbox1]; rfl
  have fz1 : w1.frozen? ⟨w.heap.size, 1, none⟩ = false := by simp [World.frozen?, hbox1]
  have hby1 : BytesIn w1 (.slice s1 (0 + 1) c1) [192] := bytesIn_of_owns (l := [192]) hown1 rfl
  simp only [Nat.zero_add] at hby1
  have HBX1 := hide hbox1
  have HC1 := hide hc1
  have HBY1 := hide hby1
  have HFR1 := hide hfr1
  clear hown1 hg1 hfr1 hc1 hbox1 hby1 hbA HLA
  try simp only [Nat.zero_add] at HFR1
  try simp only [Nat.zero_add]
  go_upto_region 6 with fail
  obtain ⟨w2, hw2⟩ : ∃ w2, w2 = w1.setCell ⟨w.heap.size, 1, none⟩ (.slice s1 1 c1) := ⟨_, rfl⟩
  rw [← hw2]
  have hC2 : Chg (fun _ => False) w w2 := by rw [hw2]; exact (Chg.of_below HC1.out).setCell (p := ⟨w.heap.size, 1, none⟩) (Or.inl (Nat.le_refl _)) _
  have hb2 : Below w.heap.size w w2 := hC2.below
  have hbox2 : w2.heap[w.heap.size]? = some (.cells #[.int .i64 n, .slice s1 1 c1, .bool b] 82 (0, 0)) := by rw [hw2, blk_set HBX1.out]; rfl
  have m1 : w2.cell? ⟨w.heap.size, 1, none⟩ = some (.slice s1 1 c1) := by rw [cell_of_row _ _ _ _ _ _ hbox2]; rfl
  have hs1 : ∀ j, (Value.slice s1 1 c1).ownBlock = some j → j ≠ w.heap.size := fun j hj e => by
    rcases HFR1.out with e1 | e1
    · rw [e1] at hj; simp [Value.ownBlock] at hj
    · rw [e1] at hj; simp at hj; omega
  have hby2 : BytesIn w2 (.slice s1 1 c1) [192] := by
    rw [hw2]
    exact HBY1.out.chg (chg_set (S := fun j => j = w.heap.size) (Chg.refl _ _) rfl) (fun j hj e => hs1 j hj e)
  have HUN : Hid (Calls Tryz.prog 123 #[.pointer (some ⟨eb, 35, none⟩), .slice s1 1 c1] w2.drew fun e w' => e = .panicked [{ v := .iface 36 (.int .i64 13), recovered := false }] ∧ Below w.heap.size w w') := by
    have hd : Below w2.heap.size w2 w2.drew := ⟨rfl, rfl, rfl, Nat.le_refl _, fun _ _ => rfl⟩
    have hbd := hb2.trans (hd.mono hb2.size)
    have hE := H.out.below hbd
    refine (bUnpack_192 eb 35 _ w2.drew (hby2.chg (Chg.of_below (S := fun _ => False) hd) (fun _ _ => id)) (HG.out.below hbd) (by have := hE.c37; rw [HU.out] at this; exact this) hE.lt).mono ?_
    rintro e w' ⟨h1, h2⟩
    exact ⟨h1, hbd.trans (h2.mono hbd.size)⟩
  clear hw2 hC2 hb2 hbox2 hby2 hs1 k1 fz1
  go_region_law (refine step_gone rfl 123 Tryz.f123 Tryz.func123 (by kernel_rfl) rfl [.tmp 29, .tmp 31] #[87, 38] rfl [.pointer (some ⟨eb, 35, none⟩), .slice s1 1 c1] (by simp [Act.eval, Act.put]) HUN.out (fun e w3 he => ⟨_, he.1, rfl, rfl, he.2⟩) (.slice none 0 0) ?_; intro hf; have HFL : Hid False := hf; clear hf)
  all_goals exact HFL.out.elim
set_option maxRecDepth 100000 in
set_option maxHeartbeats 16000000 in
theorem comeHeaders_192 (eb mb : Nat) (g : GEnd) (f n : Int) (sv : Option Addr) (cb : Nat) (w : World) (h : Inv w eb mb g) (hg : Gl w) (hu : g.m.utab = .slice none 0 0) (hbv : BytesIn w (.slice sv 1 cb) [192]) (hf : 0 ≤ f ∧ f ≤ 255) (hla : hasB f 4 = true) (hop : g.m.opensN n = false) (hnw : g.m.newest < n) (h4 : g.L.length < 4) :
    Calls Tryz.prog 81 #[.pointer (some ⟨eb, 0, none⟩), .agg #[.int .i64 1, .int .i64 f, .int .i64 n, .slice sv 1 cb, .slice sv 1 cb]] w fun e w' => e = .panicked [{ v := .iface 36 (.int .i64 13), recovered := false }] ∧ Below w.heap.size w w' := by
  have hbA : Below w.heap.size w (w.alloc (.cells #[.int .i64 1, .int .i64 f, .int .i64 n, .slice sv 1 cb, .slice sv 1 cb] 158)) := (Below.refl _ _).alloc (Nat.le_refl _) _
  have hnew := heap_alloc_new w (.cells #[.int .i64 1, .int .i64 f, .int .i64 n, .slice sv 1 cb, .slice sv 1 cb] 158)
  obtain ⟨wA, hwA⟩ : ∃ wA, wA = w.alloc (.cells #[.int .i64 1, .int .i64 f, .int .i64 n, .slice sv 1 cb, .slice sv 1 cb] 158) := ⟨_, rfl⟩
  rw [← hwA] at hbA hnew
  have hA := h.below hbA
  have HOPN : Hid (∀ wx, Below wA.heap.size wA wx → Calls Tryz.prog 100 #[.pointer (some ⟨eb, 0, none⟩), .int .i64 n] wx fun e w' => e = .returned (.bool false) ∧ w' = wx) := fun wx hx => by
    have := opens_any eb g.m n wx (hA.below hx).en
    rw [show ((n.tmod 2 == 1) == g.m.first) = false from hop] at this
    exact this
  have HOT : Hid (∀ wx, Below wA.heap.size wA wx → Calls Tryz.prog 122 #[.pointer (some ⟨eb, 0, none⟩)] wx fun e w' => e = .returned (.int .i64 ((g.L.length : Int) - (g.m.hereN (openS g.K g.L) : Nat))) ∧ Below wx.heap.size wx w') := fun wx hx => by
    have := openThere_any eb g.m (openS g.K g.L) wx (hA.below hx).en (hA.below hx).open (by rw [openS_length]; omega)
    rw [openS_length] at this
    exact this
  have HHB : Hid (∀ (b : Int) (wx : World), (b = 1 ∨ b = 4) → Calls Tryz.prog 83 #[.agg #[.int .i64 1, .int .i64 f, .int .i64 n, .slice sv 1 cb], .int .i64 b] wx fun e w' => e = .returned (.bool (hasB f b)) ∧ Below wx.heap.size wx w') := fun b wx hb => by
    rcases hb with rfl | rfl
    · exact has_any 1 f n 1 _ wx hf.1 (by omega) (Or.inl rfl)
    · exact has4_any 1 f n (.slice sv 1 cb) wx hf.1 (by omega)
  have HCP : Hid (∀ wx, Below wA.heap.size wA wx → Calls Tryz.prog 82 #[.pointer (some ⟨eb, 0, none⟩), .agg #[.int .i64 n, .slice none 0 0, .bool (hasB f 1)], .slice sv 1 cb, .bool (hasB f 4)] wx fun e w' => e = .panicked [{ v := .iface 36 (.int .i64 13), recovered := false }] ∧ Below w.heap.size w w') := fun wx hx => by
    have hbx := hbA.trans (hx.mono hbA.size)
    rw [hla]
    refine (comePiece_192 eb g.m n (hasB f 1) sv cb wx (h.below hbx).en hu (hg.below hbx) (hbv.chg (Chg.of_below (S := fun _ => False) hbx) (fun _ _ => id))).mono ?_
    rintro e w' ⟨h1, h2⟩
    exact ⟨h1, hbx.trans (h2.mono hbx.size)⟩
  have HBOX : Hid (∀ wx, Below wA.heap.size wA wx → wx.cell? ⟨w.heap.size, 0, none⟩ = some (.int .i64 1) ∧ wx.cell? ⟨w.heap.size, 1, none⟩ = some (.int .i64 f) ∧ wx.cell? ⟨w.heap.size, 2, none⟩ = some (.int .i64 n) ∧ wx.cell? ⟨w.heap.size, 3, none⟩ = some (.slice sv 1 cb) ∧ wx.cell? ⟨w.heap.size, 4, none⟩ = some (.slice sv 1 cb) ∧ wx.cell? ⟨eb, 34, none⟩ = some (.int .i64 g.m.newest)) := fun wx hx => by
    have hb : wx.heap[w.heap.size]? = some (.cells #[.int .i64 1, .int .i64 f, .int .i64 n, .slice sv 1 cb, .slice sv 1 cb] 158 (0, 0)) := by rw [hx.block _ (lt_of_block hnew)]; exact hnew
    refine ⟨?_, ?_, ?_, ?_, ?_, (hA.below hx).en.c34⟩ <;> (rw [cell_of_row _ _ _ _ _ _ hb]; rfl)
  have hlt : eb < wA.heap.size := hA.en.lt
  have hltb : w.heap.size < wA.heap.size := lt_of_block hnew
  have hle : (n ≤ g.m.newest) = False := eq_false (by omega)
  have HWA := hide hwA
  generalize hZ : ((g.L.length : Int) - (g.m.hereN (openS g.K g.L) : Nat)) = Z at *
  have hz4 : ((4 : Int) ≤ Z) = False := eq_false (by omega)
  have HBA := hide hbA
  clear h hg hA hbA hnew hop hf hla hZ h4 hu hbv
  go_enter Tryz.func81, Tryz.ntmps81
  go_upto_region 1 with fail
  rw [← HWA.out]
  clear hwA
  obtain ⟨z0, z1, z2, z3, z4, z34⟩ := HBOX.out wA (Below.refl _ _)
  go_cut [26] (fun s26 wx => s26 = .bool false ∧ Below wA.heap.size wA wx)
  case first =>
    go_region_held3 (fun w' => w'.cell? ⟨w.heap.size, 2, none⟩ = some (.int .i64 n) ∧ w'.cell? ⟨eb, 34, none⟩ = some (.int .i64 g.m.newest)) (go_keep)
      (first
        | (go_at_call 100; refine (HOPN.out wA.drew ⟨rfl, rfl, rfl, Nat.le_refl _, fun _ _ => rfl⟩).mono ?_; rintro e w' ⟨rfl, rfl⟩)
        | (go_at_call 122; refine (HOT.out wA.drew ⟨rfl, rfl, rfl, Nat.le_refl _, fun _ _ => rfl⟩).mono ?_; rintro e w1 ⟨rfl, hb1⟩; have hB1 : Below wA.heap.size wA w1 := ⟨hb1.os, hb1.tape, hb1.output, hb1.size, hb1.block⟩; have t2 := (HBOX.out w1 hB1).2.2.1; have t34 := (HBOX.out w1 hB1).2.2.2.2.2))
    all_goals (go_wp2_with fail; go_meet; exact ⟨by simp [hz4], hB1⟩)
  case rest =>
    obtain ⟨rfl, hbx⟩ := hcut
    obtain ⟨wB, hwB⟩ : ∃ wB, wB = wc := ⟨wc, rfl⟩
    subst hwB
    have HX := hide hbx
    obtain ⟨y0, y1, y2, y3, y4, y34⟩ := HBOX.out wB hbx
    clear hbx z0 z1 z2 z3 z4 z34
    go_upto_region 3 with fail
    have hBB : Below wA.heap.size wA wB.drew := ⟨HX.out.os, HX.out.tape, HX.out.output, HX.out.size, HX.out.block⟩
    go_region_law (first
      | (refine step_call rfl 83 Tryz.f83 Tryz.func83 (by kernel_rfl) rfl [.tmp 34, .const (.int .i64 1)] #[153, 3] rfl [.agg #[.int .i64 1, .int .i64 f, .int .i64 n, .slice sv 1 cb], .int .i64 1] (by simp [Act.eval, Act.put]) (HHB.out 1 _ (Or.inl rfl)) ?_; rintro e w1 ⟨rfl, hb1⟩; refine ⟨_, rfl, ?_⟩; first | (have hB1 : Below wA.heap.size wA w1 := below_step hBB hb1; obtain ⟨x0, x1, x2, x3, x4, x34⟩ := HBOX.out w1 hB1; clear hb1) | (have hB2 : Below wA.heap.size wA w1 := below_step hB1 hb1; obtain ⟨v0, v1, v2, v3, v4, v34⟩ := HBOX.out w1 hB2; clear hb1))
      | (refine step_call rfl 83 Tryz.f83 Tryz.func83 (by kernel_rfl) rfl [.tmp 40, .const (.int .i64 4)] #[153, 3] rfl [.agg #[.int .i64 1, .int .i64 f, .int .i64 n, .slice sv 1 cb], .int .i64 4] (by simp [Act.eval, Act.put]) (HHB.out 4 _ (Or.inr rfl)) ?_; rintro e w1 ⟨rfl, hb1⟩; refine ⟨_, rfl, ?_⟩; first | (have hB1 : Below wA.heap.size wA w1 := below_step hBB hb1; obtain ⟨x0, x1, x2, x3, x4, x34⟩ := HBOX.out w1 hB1; clear hb1) | (have hB2 : Below wA.heap.size wA w1 := below_step hB1 hb1; obtain ⟨v0, v1, v2, v3, v4, v34⟩ := HBOX.out w1 hB2; clear hb1))
      | (refine step_gone rfl 82 Tryz.f82 Tryz.func82 (by kernel_rfl) rfl [.tmp 28, .tmp 36, .tmp 38, .tmp 41] #[117, 82, 38, 4] rfl [.pointer (some ⟨eb, 0, none⟩), .agg #[.int .i64 n, .slice none 0 0, .bool (hasB f 1)], .slice sv 1 cb, .bool (hasB f 4)] (by simp [Act.eval, Act.put]) (HCP.out _ hB2) (fun e w3 he => ⟨_, he.1, rfl, rfl, he.2⟩) (.tuple #[]) ?_; intro hf; have HFL : Hid False := hf; clear hf))
    all_goals exact HFL.out.elim
end Go.Proofs.YtiphkngfbpdeoaaGreatDoor
