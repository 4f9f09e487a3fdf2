import Derived.Test.YtiphkngfbpdeoaaGreatDoorUGaq
import Derived.BigRegion
set_option linter.unusedVariables false
set_option linter.unusedSimpArgs false
/-
  The law's own: taken, where the end makes nothing but credit of the connection.
-/
namespace Go.Proofs.YtiphkngfbpdeoaaGreatDoor
set_option linter.unusedVariables false
set_option linter.unusedSimpArgs false
open Go.RowKit

theorem chg_two {F G : Nat → Prop} {w w' w2 : World} (h : Chg F w w') (h2 : Chg G w' w2) : Chg (fun j => F j ∨ G j) w w2 := (h.mono fun j _ e => Or.inl e).trans (h2.mono fun j _ e => Or.inr (Or.inr e))
set_option maxRecDepth 100000 in
set_option maxHeartbeats 3200000 in
theorem ktaken_open (xb eb : Nat) (F : Nat → Prop) (p p' : GEnd) (i c k : Int) (fs : List Fr) (w : World) (hx : XB w xb (.pointer (some ⟨eb, 0, none⟩)) i c k 0) (hxF : ¬ F xb) (h : StE w eb F p) (hf : Fine p) (hg : p.got = []) (hg' : p'.got = []) (hl : p.m.fault = 0) (hr : Runs 1099511627776 p p') (hout : p'.out = layFs fs) (hfs : ∀ f ∈ fs, f = ⟨6, 0, 0, f.body⟩ ∧ f.body.length = 4) (hlen : fs.length ≤ 1) (hol : p'.out.length ≤ 1073741824) (hcr : crSum fs ≤ k - 32) (hk : CfgOk i c 1 k) :
    Calls Tryz.prog 20 #[.pointer (some ⟨xb, 0, none⟩)] w fun e w' => e = .returned (.bool true) ∧ XB w' xb (.pointer (some ⟨eb, 0, none⟩)) i c k (crSum fs) ∧ ∃ F', StE w' eb F' { p' with out := [] } ∧ Chg (fun j => F j ∨ j = xb) w w' ∧ ∀ j, F' j → F j ∨ w.heap.size ≤ j := by
  have ht := c_take (n := 1099511627776) h hf hg hg' hl hr hol
  rw [cutN_all hol, List.take_of_length_le (Nat.le_refl _), List.drop_of_length_le (Nat.le_refl _), hout] at ht
  have HT := hide ht
  have hfit : ∀ f ∈ fs, FrFits f ∧ 1 ≤ f.body.length := fun f hm => by
    obtain ⟨h1, h2⟩ := hfs f hm
    rw [h1]
    refine ⟨⟨by show (0 : Int) ≤ 6; omega, by show (6 : Int) ≤ 255; omega, by show (0 : Int) ≤ 0; omega, by show (0 : Int) ≤ 255; omega, by show (0 : Int) ≤ 0; omega, by show (0 : Int) ≤ 32767; omega, by show f.body.length ≤ _; omega⟩, by show 1 ≤ f.body.length; omega⟩
  have HSP : Hid (∀ w1 sv, BytesIn w1 (.slice sv (layFs fs).length (layFs fs).length) (layFs fs) → Calls Tryz.prog 30 #[.slice sv (layFs fs).length (layFs fs).length] w1 fun e w' => ∃ v ps, e = .returned (.tuple #[v, .bool true]) ∧ SplitS w1 w' fs v ps) := fun w1 sv hb => ksplit_any sv _ fs w1 hfit (by omega) hb
  have HFS := hide hfs
  have hx0 : w.cell? ⟨xb, 0, none⟩ = some (.pointer (some ⟨eb, 0, none⟩)) := hx.cell (j := 0) rfl
  have HX := hide hx
  have HXF := hide hxF
  have HCR := hide hcr
  have HOK := hide hk
  have hxlt := lt_of_block hx.blk
  clear h hf hg hg' hl hr hout hfit hfs ht hol hx hxF hcr hk
  go_enter Tryz.func20, Tryz.ntmps20
  go_wp2_with fail
  refine HT.out.mono ?_
  rintro e w1 ⟨⟨sv, rfl, hby⟩, F1, hst1, hch1, hF1⟩
  have HS1 := hide (HSP.out w1 sv hby)
  have HX1 := hide (HX.out.chg hch1 HXF.out)
  have HST1 := hide hst1
  have HCH1 := hide hch1
  have HF1 := hide hF1
  clear hby hst1 hch1 hF1 hx0
  generalize (layFs fs).length = LL at *
  go_wp2_with fail
  refine HS1.out.mono ?_
  rintro e w2 ⟨v, ps, rfl, hsp⟩
  obtain ⟨vs, vc, hvs⟩ := slice_len hsp.row
  have hpl : ps.length = fs.length := by rw [← hsp.fst, List.length_map]
  subst hvs
  rw [hpl]
  have HSPL := hide hsp
  have HX2 := hide (HX1.out.below hsp.bel)
  have hx2lt := Nat.lt_of_lt_of_le (lt_of_block HX1.out.blk) hsp.bel.size
  clear hsp hpl
  go_wp2
  go_loopw [5, 6] (fun ok ix wr => ∃ (n : Nat) (wv : World), wv = wr ∧ ok = .bool true ∧ ix = .int .i64 (n : Int) ∧ n ≤ fs.length ∧ XB wv xb (.pointer (some ⟨eb, 0, none⟩)) i c k (crSum (fs.take n)) ∧ Chg (fun j => j = xb) w2 wv ∧ (n = 0 → wv = w2)) (fun _ ix _ => fs.length - (intOf ix).toNat)
  case atStart => exact ⟨0, _, rfl, rfl, rfl, Nat.zero_le _, HX2.out, Chg.refl _ _, fun _ => rfl⟩
  case round =>
    obtain ⟨n, wv, hwv, rfl, rfl, hn, hxv, hcv, hnv⟩ := hrel
    subst hwv
    by_cases hlk : n < fs.length
    · have hn0 : n = 0 := by omega
      subst hn0
      have hwe := hnv rfl
      subst hwe
      obtain ⟨gg, cc, bv, e1, e2, q0, q1, q2, q3, hbb, hgl⟩ := HSPL.out.at (Below.refl _ _) hlk
      have hlen2 : ps.length = fs.length := by rw [← HSPL.out.fst, List.length_map]
      rw [hlen2] at e1
      simp only [Value.slice.injEq, true_and] at e1
      obtain ⟨rfl, rfl⟩ := e1
      obtain ⟨hf0, hf4⟩ := HFS.out fs[0] (List.getElem_mem hlk)
      have hct := crSum_take hlk
      have hcf : crOf fs[0] = num4 fs[0].body := by rw [hf0]; unfold crOf; rw [if_pos ⟨rfl, rfl, hf4⟩]
      rw [hcf] at hct
      rw [hf0] at q0 q1 q2
      obtain ⟨sb, cb, hbv, -⟩ := bytesIn_len hbb
      subst hbv
      have HTL := hide (ktells_credit xb _ i c k (crSum (fs.take 0)) sb cb fs[0].body _ hxv hbb hf4 (by simp [crSum]))
      rw [← hct] at HTL
      have hkL : (0 : Int) < (fs.length : Int) := by omega
      have HCV := hide hcv
      clear hnv hxv hcv hbb hct hcf hf0
      generalize fs[0].body.length = FL at *
      subst hf4
      go_wp2_with fail
      refine HTL.out.mono ?_
      rintro e w3 ⟨rfl, hx3, hc3⟩
      have HX3 := hide hx3
      have HC3 := hide hc3
      clear hx3 hc3
      go_wp2
      all_goals go_roundw
      case rel => exact ⟨0 + 1, _, rfl, rfl, by go_num, by omega, HX3.out, HC3.out, fun h => by cases h⟩
      case measure => simp [intOf]; omega
    · have hne : n = fs.length := by omega
      have htk : fs.take n = fs := by rw [hne, List.take_of_length_le (Nat.le_refl _)]
      rw [htk] at hxv
      have HXV := hide hxv
      have HCV := hide hcv
      clear hnv hxv hcv hne htk
      go_wp2
      go_loopw [7, 8, 9] (fun rd idl ix wr => ∃ (n : Nat) (wu : World), wu = wr ∧ rd = .int .i64 0 ∧ idl = .bool true ∧ ix = .int .i64 (n : Int) ∧ n ≤ 4 ∧ Below wv.heap.size wv wu) (fun _ _ ix _ => 4 - (intOf ix).toNat)
      case atStart => exact ⟨0, _, rfl, rfl, rfl, rfl, by omega, Below.refl _ _⟩
      case round =>
        obtain ⟨n, wu, hwu, rfl, rfl, rfl, hn4, hbu⟩ := hrel
        subst hwu
        have hxu := HXV.out.below hbu
        have a5 : wu.cell? ⟨xb, 5, none⟩ = some (.string ⟨#[]⟩) := hxu.cell (j := 5) rfl
        have a9 : wu.cell? ⟨xb, 9, none⟩ = some (.string ⟨#[]⟩) := hxu.cell (j := 9) rfl
        have a13 : wu.cell? ⟨xb, 13, none⟩ = some (.string ⟨#[]⟩) := hxu.cell (j := 13) rfl
        have a17 : wu.cell? ⟨xb, 17, none⟩ = some (.string ⟨#[]⟩) := hxu.cell (j := 17) rfl
        have a6 : wu.cell? ⟨xb, 6, none⟩ = some (.int .i64 0) := hxu.cell (j := 6) rfl
        have a10 : wu.cell? ⟨xb, 10, none⟩ = some (.int .i64 0) := hxu.cell (j := 10) rfl
        have a14 : wu.cell? ⟨xb, 14, none⟩ = some (.int .i64 0) := hxu.cell (j := 14) rfl
        have a18 : wu.cell? ⟨xb, 18, none⟩ = some (.int .i64 0) := hxu.cell (j := 18) rfl
        have a21 : wu.cell? ⟨xb, 21, none⟩ = some (.int .i64 32) := hxu.cell (j := 21) rfl
        have HBU := hide hbu
        have HXU := hide hxu
        clear hbu
        by_cases hn : n < 4
        · have HR := hide (kroom_any xb _ i c k (crSum fs) n wu hxu hn)
          clear hxu
          have hcs : n = 0 ∨ n = 1 ∨ n = 2 ∨ n = 3 := by omega
          clear hn
          rcases hcs with rfl | rfl | rfl | rfl
          all_goals go_wp2_with fail
          all_goals refine HR.out.mono ?_
          all_goals rintro e w4 ⟨rfl, hb4⟩
          all_goals have hx4 := HXU.out.below hb4
          all_goals have b6 : w4.cell? ⟨xb, 6, none⟩ = some (.int .i64 0) := hx4.cell (j := 6) rfl
          all_goals have b10 : w4.cell? ⟨xb, 10, none⟩ = some (.int .i64 0) := hx4.cell (j := 10) rfl
          all_goals have b14 : w4.cell? ⟨xb, 14, none⟩ = some (.int .i64 0) := hx4.cell (j := 14) rfl
          all_goals have b18 : w4.cell? ⟨xb, 18, none⟩ = some (.int .i64 0) := hx4.cell (j := 18) rfl
          all_goals have b21 : w4.cell? ⟨xb, 21, none⟩ = some (.int .i64 32) := hx4.cell (j := 21) rfl
          all_goals have HB4 := hide (HBU.out.trans (hb4.mono HBU.out.size))
          all_goals clear hx4 hb4
          all_goals go_wp2
          · exact ⟨⟨1, _, rfl, rfl, rfl, rfl, by omega, HB4.out⟩, by simp [intOf]⟩
          · exact ⟨⟨2, _, rfl, rfl, rfl, rfl, by omega, HB4.out⟩, by simp [intOf]⟩
          · exact ⟨⟨3, _, rfl, rfl, rfl, rfl, by omega, HB4.out⟩, by simp [intOf]⟩
          · exact ⟨⟨4, _, rfl, rfl, rfl, rfl, by omega, HB4.out⟩, by simp [intOf]⟩
        · have hn0 : n = 4 := by omega
          subst hn0
          clear hn
          have HA := hide (kall_any xb _ i c k (crSum fs) wu hxu ⟨(crSum_le fs).1, by have := HCR.out; have := HOK.out.k1; omega⟩)
          clear hxu
          go_wp2_with fail
          refine HA.out.mono ?_
          rintro e w5 ⟨rfl, hb5⟩
          have hx5 := HXU.out.below hb5
          have hb5' := HBU.out.trans (hb5.mono HBU.out.size)
          have hset0 : XB (w5.setCell ⟨xb, 32, none⟩ (.bool true)) xb (.pointer (some ⟨eb, 0, none⟩)) i c k (crSum fs) := ⟨by rw [blk_set hx5.blk]; rfl⟩
          have hset : XB (w5.setCell ⟨xb, 32, none⟩ (.bool true)).drew xb (.pointer (some ⟨eb, 0, none⟩)) i c k (crSum fs) := ⟨hset0.blk⟩
          have hle : crSum fs ≤ k - 32 := HCR.out
          have hc0 := (crSum_le fs).1
          have hwk : IntKind.i64.wrap (k - 32) = k - 32 := by have := HOK.out.k1; have := HOK.out.k0; have := HOK.out.c0; rw [IntKind.wrap_i64]; omega
          have hgt : 0 < 32 + crSum fs := by omega
          have HEND : Hid (XB (w5.setCell ⟨xb, 32, none⟩ (.bool true)).drew xb (.pointer (some ⟨eb, 0, none⟩)) i c k (crSum fs) ∧ ∃ F', StE (w5.setCell ⟨xb, 32, none⟩ (.bool true)).drew eb F' { p' with out := [] } ∧ Chg (fun j => F j ∨ j = xb) w (w5.setCell ⟨xb, 32, none⟩ (.bool true)).drew ∧ ∀ j, F' j → F j ∨ w.heap.size ≤ j) := by
            have h25 : Chg (fun j => j = xb) w1 (w5.setCell ⟨xb, 32, none⟩ (.bool true)).drew := (chg_set ((((Chg.of_below HSPL.out.bel).trans (HCV.out.mono fun j _ e => Or.inr e)).then_below hb5')) rfl).drew
            refine ⟨hset, F1, HST1.out.chg h25 (fun j hj e => ?_), (HCH1.out.mono fun j _ e => Or.inl e).trans (h25.mono fun j _ e => Or.inr (Or.inr e)), HF1.out⟩
            subst e
            rcases HF1.out _ hj with h | h
            · exact HXF.out h
            · omega
          have y0 : w5.cell? ⟨xb, 2, none⟩ = some (.int .i64 c) := hx5.cell (j := 2) rfl
          have y1 : w5.cell? ⟨xb, 4, none⟩ = some (.int .i64 k) := hx5.cell (j := 4) rfl
          have y2 : w5.cell? ⟨xb, 25, none⟩ = some (.int .i64 (crSum fs)) := hx5.cell (j := 25) rfl
          have y3 : w5.cell? ⟨xb, 26, none⟩ = some (.int .i64 0) := hx5.cell (j := 26) rfl
          have y4 : w5.cell? ⟨xb, 28, none⟩ = some (.int .i64 0) := hx5.cell (j := 28) rfl
          have y5 : w5.cell? ⟨xb, 29, none⟩ = some (.bool false) := hx5.cell (j := 29) rfl
          have y6 : w5.cell? ⟨xb, 32, none⟩ = some (.bool true) := hx5.cell (j := 32) rfl
          have y7 := hx5.fr 32
          have z0 : w5.drew.cell? ⟨xb, 2, none⟩ = some (.int .i64 c) := y0
          have z1 : w5.drew.cell? ⟨xb, 4, none⟩ = some (.int .i64 k) := y1
          have z2 : w5.drew.cell? ⟨xb, 25, none⟩ = some (.int .i64 (crSum fs)) := y2
          have z3 : w5.drew.cell? ⟨xb, 26, none⟩ = some (.int .i64 0) := y3
          have z4 : w5.drew.cell? ⟨xb, 28, none⟩ = some (.int .i64 0) := y4
          have z5 : w5.drew.cell? ⟨xb, 29, none⟩ = some (.bool false) := y5
          have z6 : w5.drew.cell? ⟨xb, 32, none⟩ = some (.bool true) := y6
          have z7 : w5.drew.frozen? ⟨xb, 32, none⟩ = false := y7
          clear hx5 hb5 hb5' hset hset0
          go_wp2_with fail
          go_region
          all_goals go_wp2
          all_goals go_ret
          all_goals exact ⟨rfl, HEND.out⟩
end Go.Proofs.YtiphkngfbpdeoaaGreatDoor
