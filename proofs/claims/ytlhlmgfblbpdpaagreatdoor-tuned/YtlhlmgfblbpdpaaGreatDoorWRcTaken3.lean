import Derived.Test.YtlhlmgfblbpdpaaGreatDoorWRcTaken
import Derived.BigRegion
set_option linter.unusedVariables false
set_option linter.unusedSimpArgs false
/-
  Receive: the law's taken.
-/
namespace Go.Proofs.YtlhlmgfblbpdpaaGreatDoor
set_option linter.unusedVariables false
set_option linter.unusedSimpArgs false
open Go.RowKit

def rdN (x : XM) : Nat → Int
  | 0 => 0
  | n + 1 => rdN x n + (x.ln n).read
def idN (x : XM) : Nat → Bool
  | 0 => true
  | n + 1 => idN x n && decide ((x.ln n).read = (x.ln n).text.length)
theorem rdN_four (x : XM) : rdN x 4 = x.reads := by simp [rdN, XM.reads]
theorem idN_four {x : XM} (h : idN x 4 = true) : ∀ j, j < 4 → (x.ln j).read = (x.ln j).text.length := by
  simp [idN] at h
  intro j hj
  rcases four_cases hj with rfl | rfl | rfl | rfl <;> simp [h]
theorem rdN_le {x : XM} (h : XBd x) : ∀ n, n ≤ 4 → 0 ≤ rdN x n ∧ rdN x n ≤ n * 1152921504606846976
  | 0, _ => by simp [rdN]
  | n + 1, hn => by
    have h1 := rdN_le h n (by omega)
    have h2 := h.lt n (by omega)
    unfold rdN
    omega
theorem str_size (l : List UInt8) : ∃ T : ByteArray, strV l = .string T ∧ (T.size : Int) = l.length := ⟨⟨l.toArray⟩, rfl, by simp [ByteArray.size]⟩
theorem XI.text {w : World} {xb : Nat} {ev pv : Value} {x : XM} (h : XI w xb ev x pv) {j : Nat} (hj : j < 4) : w.cell? ⟨xb, 5 + 4 * j, none⟩ = some (strV (x.ln j).text) ∧ w.cell? ⟨xb, 6 + 4 * j, none⟩ = some (.int .i64 (x.ln j).read) := by
  rcases four_cases hj with rfl | rfl | rfl | rfl
  · exact ⟨h.c5, h.c6⟩
  · exact ⟨h.c9, h.c10⟩
  · exact ⟨h.c13, h.c14⟩
  · exact ⟨h.c17, h.c18⟩
/-- What taken asks at its end. -/
structure TkOk (x : XM) : Prop where
  room : ∀ j, j < 4 → (x.ln j).read = (x.ln j).text.length → 0 < x.force → 1 ≤ x.force + (x.ln j).credit - (x.ln j).bodies
  all : (∀ j, j < 4 → (x.ln j).read = (x.ln j).text.length) → 0 < 32 + x.credit - x.bodies
  cr : x.credit ≤ x.cf.k - 32 + x.reads + x.beside
  ask : x.came = true → x.cf.c = x.cf.k ∨ 0 < x.asked
theorem TkOk.of {N : Nat} {x : XM} {d : Dn} {s : Nat → Sn} (h : Rel N x d s) (hq : Quiet x.cf.b d s) : TkOk x := ⟨fun j hj a b => h.room hq hj a b, fun a => h.all hq a, (h.bounded hq).1, (h.bounded hq).2⟩

set_option maxRecDepth 100000 in
set_option maxHeartbeats 40000000 in
theorem ktaken_X (xb eb : Nat) (F : Nat → Prop) (x : XM) (d : Dn) (s : Nat → Sn) (N : Nat) (w : World) (h : In w xb eb F x (gD x.cf d s [])) (hr : Rel N x d s) (hN : N ≤ 9007199254740992) :
    Calls Tryz.prog 12 #[.pointer (some ⟨xb, 0, none⟩)] w fun e w' => e = .returned (.bool true) ∧ ∃ fs x' d' s', GoI w w' xb eb F x' (gD x'.cf d' s' []) ∧ TellsL N x fs x' ∧ Rel N x' d' s' ∧ Quiet x.cf.b d' s' ∧ SameT d d' := by
  obtain ⟨fs, x', d', s', hru, htl, hr', hq, hlen, hsm⟩ := hr.take
  obtain ⟨hcf, hfs⟩ := htl.cf
  have hol : (layFs fs).length ≤ 1073741824 := by
    have : ∀ l : List Fr, (∀ f ∈ l, f.body.length = 4 ∧ FrFits f) → (layFs l).length = 10 * l.length := by
      intro l
      induction l with
      | nil => intro _; rfl
      | cons f r ih =>
        intro hh
        rw [layFs_cons, List.length_append, lay_len, (hh f List.mem_cons_self).1, ih (fun g hg => hh g (List.mem_cons_of_mem _ hg)), List.length_cons]
        omega
    rw [this fs hfs]
    omega
  have ht := c_take (n := 1099511627776) h.st hr.fine rfl (p' := gD x.cf d' s' (layFs fs)) rfl rfl hru hol
  rw [show (gD x.cf d' s' (layFs fs)).out = layFs fs from rfl, cutN_all hol, List.take_of_length_le (Nat.le_refl _), List.drop_of_length_le (Nat.le_refl _)] at ht
  have HT : Hid (Calls Tryz.prog 17 #[.pointer (some ⟨eb, 0, none⟩), .int .i64 1099511627776] w fun e w' => (∃ s, e = .returned (.slice s (layFs fs).length (layFs fs).length) ∧ BytesIn w' (.slice s (layFs fs).length (layFs fs).length) (layFs fs)) ∧ GoE w w' eb F (gD x.cf d' s' [])) := ht
  have hfit : ∀ f ∈ fs, FrFits f ∧ 1 ≤ f.body.length := fun f hm => ⟨(hfs f hm).2, by rw [(hfs f hm).1]; omega⟩
  have HSP : Hid (∀ w1 sv, BytesIn w1 (.slice sv (layFs fs).length (layFs fs).length) (layFs fs) → Calls Tryz.prog 26 #[.slice sv (layFs fs).length (layFs fs).length] w1 fun e w' => ∃ v ps, e = .returned (.tuple #[v, .bool true]) ∧ SplitS w1 w' fs v ps) := fun w1 sv hb => ksplit_any sv _ fs w1 hfit (by omega) hb
  have HFS := hide hfs
  obtain ⟨pv, k1, -, -⟩ := h.xi
  have hx0 : w.cell? ⟨xb, 0, none⟩ = some (.pointer (some ⟨eb, 0, none⟩)) := k1.c0
  have HI := hide h
  have HTL := hide htl
  have HEX : Hid (Rel N x' d' s' ∧ Quiet x.cf.b d' s' ∧ SameT d d') := ⟨hr', hq, hsm⟩
  have HCF := hide hcf
  have HTK := hide (TkOk.of hr' (by rw [hcf]; exact hq))
  have HBD := hide (hr'.bd hN)
  have HBX : Hid (∀ y, (∃ d s, Rel N y d s) → XBd y) := fun y ⟨d, s, hh⟩ => hh.bd hN
  clear h hr ht htl hru hol hfit hfs k1 hr' hq hsm hcf
  go_enter Tryz.func12, Tryz.ntmps12
  go_wp2_with fail
  refine HT.out.mono ?_
  rintro e w1 ⟨⟨sv, rfl, hby⟩, hgo⟩
  obtain ⟨F1, hin1, hch1, hF1⟩ := HI.out.ends hgo
  have HS1 := hide (HSP.out w1 sv hby)
  have HIN1 := hide hin1
  have HCH1 := hide hch1
  have HF1 := hide hF1
  have hxl := hin1.xlt
  clear hby hgo hin1 hch1 hF1 hx0
  generalize (layFs fs).length = LL at *
  go_wp2_with fail
  refine HS1.out.mono ?_
  rintro e w2 ⟨v, ps, rfl, hsp⟩
  obtain ⟨vs, vc, hvs⟩ := slice_len hsp.row
  have hpl : ps.length = fs.length := by rw [← hsp.fst, List.length_map]
  subst hvs
  rw [hpl]
  have HNB : Hid (∀ p ∈ ps, ∀ j, p.2.ownBlock = some j → j ≠ xb) := fun p hp => by
    obtain ⟨pv, k1, k2, -⟩ := HIN1.out.xi
    obtain ⟨sv, sn, sc, e⟩ := k2.slice
    subst e
    have hb := hsp.body p hp
    obtain ⟨a, c, e, -⟩ := bytesIn_len hb
    rw [e] at hb ⊢
    have hm : p.1 ∈ fs := by rw [← hsp.fst]; exact List.mem_map_of_mem hp
    exact k1.no_bytes hb (by rw [(HFS.out p.1 hm).1]; omega)
  have HIN2 := hide (HIN1.out.below hsp.bel)
  have HSPL := hide hsp
  clear hsp hpl
  go_wp2
  go_loopw [5, 6] (fun ok ix wr => ∃ (n : Nat) (wv : World) (xv : XM), wv = wr ∧ ok = .bool true ∧ ix = .int .i64 (n : Int) ∧ n ≤ fs.length ∧ In wv xb eb F1 xv (gD x.cf d' s' []) ∧ TellsL N xv (fs.drop n) x' ∧ Chg (fun j => j = xb) w2 wv) (fun _ ix _ => fs.length - (intOf ix).toNat)
  case atStart => exact ⟨0, _, x, rfl, rfl, rfl, Nat.zero_le _, HIN2.out, HTL.out, Chg.refl _ _⟩
  case round =>
    obtain ⟨n, wv, xv, hwv, rfl, rfl, hn, hiv, htv, hcv⟩ := hrel
    subst hwv
    by_cases hlk : n < fs.length
    · obtain ⟨gg, cc, bv, e1, e2, q0, q1, q2, q3, hbb, hbn, hgl⟩ := HSPL.out.atX hcv hxl HNB.out hlk
      have hlen2 : ps.length = fs.length := by rw [← HSPL.out.fst, List.length_map]
      rw [hlen2] at e1
      simp only [Value.slice.injEq, true_and] at e1
      obtain ⟨rfl, rfl⟩ := e1
      obtain ⟨z, hrz, htz, htr⟩ := htv.head hlk
      have hf4 := (HFS.out fs[n] (List.getElem_mem hlk)).1
      obtain ⟨sb, cb, hbv, -⟩ := bytesIn_len hbb
      subst hbv
      rw [hf4] at q3 hbb hbn
      have HTE := hide (ktells_X hiv (HBX.out xv hrz) htz hbb hbn)
      have HTR := hide htr
      have HCV := hide hcv
      have hkI : (0 : Int) ≤ (n : Int) := by omega
      have hkL : (n : Int) < (fs.length : Int) := by omega
      clear hiv htv hcv hbb hbn htz htr hrz hf4
      generalize fs[n] = f at *
      generalize f.kind = fk at *
      generalize f.stream = fst at *
      generalize f.flags = ffl at *
      go_wp2_with fail
      refine HTE.out.mono ?_
      rintro e w3 ⟨rfl, hi3, hc3⟩
      have HI3 := hide hi3
      have HC3 := hide hc3
      clear hi3 hc3
      go_wp2
      all_goals go_roundw
      case rel => exact ⟨n + 1, _, z, rfl, rfl, by go_num, by omega, HI3.out, HTR.out, HCV.out.trans (HC3.out.mono fun j _ e => Or.inr e)⟩
      case measure => simp [intOf]; omega
    · have hne : n = fs.length := by omega
      have hxe : xv = x' := by
        rw [hne, List.drop_of_length_le (Nat.le_refl _)] at htv
        cases htv using TellsL.ind
        rfl
      subst hxe
      have HIV := hide hiv
      have HCV := hide hcv
      obtain ⟨pv, hxv, hpn, hpf⟩ := hiv.xi
      have HXV := hide hxv
      clear hiv htv hcv hne hpn hpf hxv
      go_wp2
      go_loopw [7, 8, 9] (fun rd idl ix wr => ∃ (n : Nat) (wu : World), wu = wr ∧ rd = .int .i64 (rdN xv n) ∧ idl = .bool (idN xv n) ∧ ix = .int .i64 (n : Int) ∧ n ≤ 4 ∧ Below wv.heap.size wv wu) (fun _ _ ix _ => 4 - (intOf ix).toNat)
      case atStart => exact ⟨0, _, rfl, rfl, rfl, rfl, by omega, Below.refl _ _⟩
      case round =>
        obtain ⟨n, wu, hwu, rfl, rfl, rfl, hn4, hbu⟩ := hrel
        subst hwu
        have hxu := HXV.out.below hbu
        have HBU := hide hbu
        have HXU := hide hxu
        clear hbu
        by_cases hn : n < 4
        · have HR := hide (kroom_X xb _ pv xv n wu hxu HBD.out hn)
          obtain ⟨T, hT, hTs⟩ := str_size (xv.ln n).text
          obtain ⟨a5, a6⟩ := hxu.text hn
          rw [hT] at a5
          have a21 : wu.cell? ⟨xb, 21, none⟩ = some (.int .i64 xv.force) := hxu.c21
          have hrl := rdN_le HBD.out n (by omega)
          have hll := HBD.out.lt n hn
          have hrm := HTK.out.room n hn
          have hw1 : IntKind.i64.wrap (rdN xv n + ((xv.ln n).read : Int)) = rdN xv n + ((xv.ln n).read : Int) := by rw [IntKind.wrap_i64]; omega
          have hAF : Hid (∀ w4, Below wu.heap.size wu w4 → w4.cell? ⟨xb, 5 + 4 * n, none⟩ = some (.string T) ∧ w4.cell? ⟨xb, 6 + 4 * n, none⟩ = some (.int .i64 (xv.ln n).read) ∧ w4.cell? ⟨xb, 21, none⟩ = some (.int .i64 xv.force)) := fun w4 h4 => by
            have hx4 := HXU.out.below h4
            obtain ⟨b5, b6⟩ := hx4.text hn
            rw [hT] at b5
            exact ⟨b5, b6, hx4.c21⟩
          have HNX : Hid (rdN xv (n + 1) = rdN xv n + ((xv.ln n).read : Int) ∧ idN xv (n + 1) = (idN xv n && decide ((xv.ln n).read = (xv.ln n).text.length))) := ⟨rfl, rfl⟩
          have hrc : ((xv.ln n).read : Int) = (T.size : Int) ∧ (xv.ln n).read = (xv.ln n).text.length ∨ ¬ ((xv.ln n).read : Int) = (T.size : Int) ∧ ¬ (xv.ln n).read = (xv.ln n).text.length := by omega
          clear hxu hT hTs hrl hll
          generalize (xv.ln n).text.length = tl at *
          generalize hRD : (xv.ln n).read = rd at *
          generalize xv.force + (xv.ln n).credit - (xv.ln n).bodies = rm at *
          generalize xv.force = fo at *
          generalize rdN xv n = R at *
          generalize idN xv n = I at *
          clear hRD
          rcases four_cases hn with rfl | rfl | rfl | rfl
          · have b5 : wu.cell? ⟨xb, 5, none⟩ = some (.string T) := a5
            have b6 : wu.cell? ⟨xb, 6, none⟩ = some (.int .i64 rd) := a6
            have HAF2 : Hid (∀ w4, Below wu.heap.size wu w4 → w4.cell? ⟨xb, 6, none⟩ = some (.int .i64 rd) ∧ w4.cell? ⟨xb, 21, none⟩ = some (.int .i64 fo)) := fun w4 h4 => ⟨(hAF.out w4 h4).2.1, (hAF.out w4 h4).2.2⟩
            have HN1 : Hid (rdN xv 1 = R + (rd : Int)) := HNX.out.1
            have HN2 : Hid (idN xv 1 = (I && decide (rd = tl))) := HNX.out.2
            clear a5 a6 hAF HNX HT HSP HFS HI HEX HTK HBX HS1 HIN1 HCH1 HF1 HNB HIN2 HSPL HIV HCV HXV HXU HBD HTL HCF
            rcases hrc with ⟨hrT, hrL⟩ | ⟨hrT, hrL⟩
            · obtain rfl : rd = T.size := by omega
              have HRL := hide hrL
              have hrm2 := hrm hrL
              clear hrL hrm hrT
              go_wp2_with fail
              refine HR.out.mono ?_
              rintro e w4 ⟨rfl, hb4⟩
              obtain ⟨c6, c21⟩ := HAF2.out w4 hb4
              have HB4 := hide (HBU.out.trans (hb4.mono HBU.out.size))
              clear hb4 HAF2
              go_upto_region 17 with fail
              go_cut [83] (fun s83 wx => s83 = .bool false ∧ wx = w4)
              case first =>
                by_cases hfo : 0 < fo
                · have hrm1 := hrm2 hfo
                  have hrmB : ¬ rm < 1 := by omega
                  clear hrm2
                  go_wp2_with fail
                  go_meet
                  exact ⟨rfl, rfl⟩
                · have hf0 : ¬ 0 < fo := hfo
                  clear hrm2
                  go_wp2_with fail
                  go_meet
                  exact ⟨rfl, rfl⟩
              case rest =>
                obtain ⟨hs83, hw83⟩ := hcut
                subst hs83
                rw [hw83]
                clear hw83 hrm2
                cases I
                all_goals go_wp2
                all_goals exact ⟨⟨1, _, rfl, by rw [HN1.out], by rw [HN2.out]; simp [HRL.out], rfl, by omega, HB4.out⟩, by simp [intOf]⟩
            · have HRL := hide hrL
              have hrB : ((rd : Int) == (T.size : Int)) = false := by simp [hrT]
              go_wp2_with fail
              refine HR.out.mono ?_
              rintro e w4 ⟨rfl, hb4⟩
              obtain ⟨c6, c21⟩ := HAF2.out w4 hb4
              have HB4 := hide (HBU.out.trans (hb4.mono HBU.out.size))
              clear hb4 HAF2 hrm hrL
              cases I
              all_goals go_wp2
              all_goals exact ⟨⟨1, _, rfl, by rw [HN1.out], by rw [HN2.out]; simp [HRL.out], rfl, by omega, HB4.out⟩, by simp [intOf]⟩
          · have b5 : wu.cell? ⟨xb, 9, none⟩ = some (.string T) := a5
            have b6 : wu.cell? ⟨xb, 10, none⟩ = some (.int .i64 rd) := a6
            have HAF2 : Hid (∀ w4, Below wu.heap.size wu w4 → w4.cell? ⟨xb, 10, none⟩ = some (.int .i64 rd) ∧ w4.cell? ⟨xb, 21, none⟩ = some (.int .i64 fo)) := fun w4 h4 => ⟨(hAF.out w4 h4).2.1, (hAF.out w4 h4).2.2⟩
            have HN1 : Hid (rdN xv 2 = R + (rd : Int)) := HNX.out.1
            have HN2 : Hid (idN xv 2 = (I && decide (rd = tl))) := HNX.out.2
            clear a5 a6 hAF HNX HT HSP HFS HI HEX HTK HBX HS1 HIN1 HCH1 HF1 HNB HIN2 HSPL HIV HCV HXV HXU HBD HTL HCF
            rcases hrc with ⟨hrT, hrL⟩ | ⟨hrT, hrL⟩
            · obtain rfl : rd = T.size := by omega
              have HRL := hide hrL
              have hrm2 := hrm hrL
              clear hrL hrm hrT
              go_wp2_with fail
              refine HR.out.mono ?_
              rintro e w4 ⟨rfl, hb4⟩
              obtain ⟨c6, c21⟩ := HAF2.out w4 hb4
              have HB4 := hide (HBU.out.trans (hb4.mono HBU.out.size))
              clear hb4 HAF2
              go_upto_region 17 with fail
              go_cut [83] (fun s83 wx => s83 = .bool false ∧ wx = w4)
              case first =>
                by_cases hfo : 0 < fo
                · have hrm1 := hrm2 hfo
                  have hrmB : ¬ rm < 1 := by omega
                  clear hrm2
                  go_wp2_with fail
                  go_meet
                  exact ⟨rfl, rfl⟩
                · have hf0 : ¬ 0 < fo := hfo
                  clear hrm2
                  go_wp2_with fail
                  go_meet
                  exact ⟨rfl, rfl⟩
              case rest =>
                obtain ⟨hs83, hw83⟩ := hcut
                subst hs83
                rw [hw83]
                clear hw83 hrm2
                cases I
                all_goals go_wp2
                all_goals exact ⟨⟨2, _, rfl, by rw [HN1.out], by rw [HN2.out]; simp [HRL.out], rfl, by omega, HB4.out⟩, by simp [intOf]⟩
            · have HRL := hide hrL
              have hrB : ((rd : Int) == (T.size : Int)) = false := by simp [hrT]
              go_wp2_with fail
              refine HR.out.mono ?_
              rintro e w4 ⟨rfl, hb4⟩
              obtain ⟨c6, c21⟩ := HAF2.out w4 hb4
              have HB4 := hide (HBU.out.trans (hb4.mono HBU.out.size))
              clear hb4 HAF2 hrm hrL
              cases I
              all_goals go_wp2
              all_goals exact ⟨⟨2, _, rfl, by rw [HN1.out], by rw [HN2.out]; simp [HRL.out], rfl, by omega, HB4.out⟩, by simp [intOf]⟩
          · have b5 : wu.cell? ⟨xb, 13, none⟩ = some (.string T) := a5
            have b6 : wu.cell? ⟨xb, 14, none⟩ = some (.int .i64 rd) := a6
            have HAF2 : Hid (∀ w4, Below wu.heap.size wu w4 → w4.cell? ⟨xb, 14, none⟩ = some (.int .i64 rd) ∧ w4.cell? ⟨xb, 21, none⟩ = some (.int .i64 fo)) := fun w4 h4 => ⟨(hAF.out w4 h4).2.1, (hAF.out w4 h4).2.2⟩
            have HN1 : Hid (rdN xv 3 = R + (rd : Int)) := HNX.out.1
            have HN2 : Hid (idN xv 3 = (I && decide (rd = tl))) := HNX.out.2
            clear a5 a6 hAF HNX HT HSP HFS HI HEX HTK HBX HS1 HIN1 HCH1 HF1 HNB HIN2 HSPL HIV HCV HXV HXU HBD HTL HCF
            rcases hrc with ⟨hrT, hrL⟩ | ⟨hrT, hrL⟩
            · obtain rfl : rd = T.size := by omega
              have HRL := hide hrL
              have hrm2 := hrm hrL
              clear hrL hrm hrT
              go_wp2_with fail
              refine HR.out.mono ?_
              rintro e w4 ⟨rfl, hb4⟩
              obtain ⟨c6, c21⟩ := HAF2.out w4 hb4
              have HB4 := hide (HBU.out.trans (hb4.mono HBU.out.size))
              clear hb4 HAF2
              go_upto_region 17 with fail
              go_cut [83] (fun s83 wx => s83 = .bool false ∧ wx = w4)
              case first =>
                by_cases hfo : 0 < fo
                · have hrm1 := hrm2 hfo
                  have hrmB : ¬ rm < 1 := by omega
                  clear hrm2
                  go_wp2_with fail
                  go_meet
                  exact ⟨rfl, rfl⟩
                · have hf0 : ¬ 0 < fo := hfo
                  clear hrm2
                  go_wp2_with fail
                  go_meet
                  exact ⟨rfl, rfl⟩
              case rest =>
                obtain ⟨hs83, hw83⟩ := hcut
                subst hs83
                rw [hw83]
                clear hw83 hrm2
                cases I
                all_goals go_wp2
                all_goals exact ⟨⟨3, _, rfl, by rw [HN1.out], by rw [HN2.out]; simp [HRL.out], rfl, by omega, HB4.out⟩, by simp [intOf]⟩
            · have HRL := hide hrL
              have hrB : ((rd : Int) == (T.size : Int)) = false := by simp [hrT]
              go_wp2_with fail
              refine HR.out.mono ?_
              rintro e w4 ⟨rfl, hb4⟩
              obtain ⟨c6, c21⟩ := HAF2.out w4 hb4
              have HB4 := hide (HBU.out.trans (hb4.mono HBU.out.size))
              clear hb4 HAF2 hrm hrL
              cases I
              all_goals go_wp2
              all_goals exact ⟨⟨3, _, rfl, by rw [HN1.out], by rw [HN2.out]; simp [HRL.out], rfl, by omega, HB4.out⟩, by simp [intOf]⟩
          · have b5 : wu.cell? ⟨xb, 17, none⟩ = some (.string T) := a5
            have b6 : wu.cell? ⟨xb, 18, none⟩ = some (.int .i64 rd) := a6
            have HAF2 : Hid (∀ w4, Below wu.heap.size wu w4 → w4.cell? ⟨xb, 18, none⟩ = some (.int .i64 rd) ∧ w4.cell? ⟨xb, 21, none⟩ = some (.int .i64 fo)) := fun w4 h4 => ⟨(hAF.out w4 h4).2.1, (hAF.out w4 h4).2.2⟩
            have HN1 : Hid (rdN xv 4 = R + (rd : Int)) := HNX.out.1
            have HN2 : Hid (idN xv 4 = (I && decide (rd = tl))) := HNX.out.2
            clear a5 a6 hAF HNX HT HSP HFS HI HEX HTK HBX HS1 HIN1 HCH1 HF1 HNB HIN2 HSPL HIV HCV HXV HXU HBD HTL HCF
            rcases hrc with ⟨hrT, hrL⟩ | ⟨hrT, hrL⟩
            · obtain rfl : rd = T.size := by omega
              have HRL := hide hrL
              have hrm2 := hrm hrL
              clear hrL hrm hrT
              go_wp2_with fail
              refine HR.out.mono ?_
              rintro e w4 ⟨rfl, hb4⟩
              obtain ⟨c6, c21⟩ := HAF2.out w4 hb4
              have HB4 := hide (HBU.out.trans (hb4.mono HBU.out.size))
              clear hb4 HAF2
              go_upto_region 17 with fail
              go_cut [83] (fun s83 wx => s83 = .bool false ∧ wx = w4)
              case first =>
                by_cases hfo : 0 < fo
                · have hrm1 := hrm2 hfo
                  have hrmB : ¬ rm < 1 := by omega
                  clear hrm2
                  go_wp2_with fail
                  go_meet
                  exact ⟨rfl, rfl⟩
                · have hf0 : ¬ 0 < fo := hfo
                  clear hrm2
                  go_wp2_with fail
                  go_meet
                  exact ⟨rfl, rfl⟩
              case rest =>
                obtain ⟨hs83, hw83⟩ := hcut
                subst hs83
                rw [hw83]
                clear hw83 hrm2
                cases I
                all_goals go_wp2
                all_goals exact ⟨⟨4, _, rfl, by rw [HN1.out], by rw [HN2.out]; simp [HRL.out], rfl, by omega, HB4.out⟩, by simp [intOf]⟩
            · have HRL := hide hrL
              have hrB : ((rd : Int) == (T.size : Int)) = false := by simp [hrT]
              go_wp2_with fail
              refine HR.out.mono ?_
              rintro e w4 ⟨rfl, hb4⟩
              obtain ⟨c6, c21⟩ := HAF2.out w4 hb4
              have HB4 := hide (HBU.out.trans (hb4.mono HBU.out.size))
              clear hb4 HAF2 hrm hrL
              cases I
              all_goals go_wp2
              all_goals exact ⟨⟨4, _, rfl, by rw [HN1.out], by rw [HN2.out]; simp [HRL.out], rfl, by omega, HB4.out⟩, by simp [intOf]⟩
        · have hn0 : n = 4 := by omega
          subst hn0
          clear hn
          have HA := hide (kall_X xb _ pv xv wu hxu HBD.out)
          have hcr := HTK.out.cr
          have hask := HTK.out.ask
          have hall : idN xv 4 = true → 0 < 32 + xv.credit - xv.bodies := fun hh => HTK.out.all (idN_four hh)
          have hck := HBD.out.cf
          have hk0 := hck.k0
          have hk1 := hck.k1
          have hc0 := hck.c0
          have hrl := rdN_le HBD.out 4 (by omega)
          have hbe := HBD.out.be
          rw [rdN_four] at hrl
          rw [rdN_four]
          have hw1 : IntKind.i64.wrap (xv.cf.k - 32) = xv.cf.k - 32 := by rw [IntKind.wrap_i64]; omega
          have hw2 : IntKind.i64.wrap (xv.cf.k - 32 + xv.reads) = xv.cf.k - 32 + xv.reads := by rw [IntKind.wrap_i64]; omega
          have hw3 : IntKind.i64.wrap (xv.cf.k - 32 + xv.reads + xv.beside) = xv.cf.k - 32 + xv.reads + xv.beside := by rw [IntKind.wrap_i64]; omega
          clear hxu hck hk0 hk1 hc0 hrl hbe
          go_wp2_with fail
          refine HA.out.mono ?_
          rintro e w5 ⟨rfl, hb5⟩
          have hx5 := HXU.out.below hb5
          have hb5' := HBU.out.trans (hb5.mono HBU.out.size)
          have HEND : Hid (∃ fs x' d' s', GoI w (w5.setCell ⟨xb, 32, none⟩ (.bool true)).drew xb eb F x' (gD x'.cf d' s' []) ∧ TellsL N x fs x' ∧ Rel N x' d' s' ∧ Quiet x.cf.b d' s' ∧ SameT d d') := by
            refine ⟨fs, xv, d', s', ?_, HTL.out, HEX.out⟩
            rw [HCF.out]
            have hin5 := HIV.out.below hb5'
            obtain ⟨pv2, x5, p5, f5⟩ := hin5.xi
            have hcs : Chg (fun j => j = xb) w5 (w5.setCell ⟨xb, 32, none⟩ (.bool true)).drew := Chg.drew (chg_set (S := fun j => j = xb) (Chg.refl _ _) rfl)
            have hxs : XI (w5.setCell ⟨xb, 32, none⟩ (.bool true)) xb (.pointer (some ⟨eb, 0, none⟩)) xv pv2 := x5.set (by simp [XM.cells])
            have hg := hin5.write hcs (show XI (w5.setCell ⟨xb, 32, none⟩ (.bool true)).drew xb (.pointer (some ⟨eb, 0, none⟩)) xv pv2 from hxs) p5 f5
            have hc15 : Chg (fun j => F1 j ∨ j = xb) w1 w5 := ((Chg.of_below HSPL.out.bel).trans (HCV.out.mono fun j _ e => Or.inr (Or.inr e))).then_below hb5'
            exact GoI.then HCH1.out HF1.out (GoI.then (F1 := F1) hc15 (fun j hj => Or.inl hj) hg)
          have y0 : w5.cell? ⟨xb, 2, none⟩ = some (.int .i64 xv.cf.c) := hx5.c2
          have y1 : w5.cell? ⟨xb, 4, none⟩ = some (.int .i64 xv.cf.k) := hx5.c4
          have y2 : w5.cell? ⟨xb, 25, none⟩ = some (.int .i64 xv.credit) := hx5.c25
          have y3 : w5.cell? ⟨xb, 26, none⟩ = some (.int .i64 xv.beside) := hx5.c26
          have y4 : w5.cell? ⟨xb, 28, none⟩ = some (.int .i64 xv.asked) := hx5.c28
          have y5 : w5.cell? ⟨xb, 29, none⟩ = some (.bool xv.came) := hx5.c29
          have y6 : w5.cell? ⟨xb, 32, none⟩ = some (.bool true) := hx5.c32
          have y7 := hx5.fr 32
          clear hx5 hb5 hb5' HA HT HSP HFS HI HEX HTK HBX HS1 HIN1 HCH1 HF1 HNB HIN2 HSPL HIV HCV HXV HXU HBD HTL HCF HBU
          generalize xv.cf.c = cc at *
          generalize xv.cf.k = kk at *
          generalize xv.reads = rs at *
          generalize xv.beside = bs at *
          generalize xv.asked = ak at *
          generalize xv.came = cm at *
          generalize 32 + xv.credit - xv.bodies = al at *
          generalize xv.credit = cr at *
          generalize idN xv 4 = idl at *
          have z0 : w5.drew.cell? ⟨xb, 2, none⟩ = some (.int .i64 cc) := y0
          have z1 : w5.drew.cell? ⟨xb, 4, none⟩ = some (.int .i64 kk) := y1
          have z2 : w5.drew.cell? ⟨xb, 25, none⟩ = some (.int .i64 cr) := y2
          have z3 : w5.drew.cell? ⟨xb, 26, none⟩ = some (.int .i64 bs) := y3
          have z4 : w5.drew.cell? ⟨xb, 28, none⟩ = some (.int .i64 ak) := y4
          have z5 : w5.drew.cell? ⟨xb, 29, none⟩ = some (.bool cm) := y5
          have z6 : w5.drew.cell? ⟨xb, 32, none⟩ = some (.bool true) := y6
          have z7 : w5.drew.frozen? ⟨xb, 32, none⟩ = false := y7
          go_upto_region 21 with fail
          go_cut [] (fun wx => wx = (w5.setCell ⟨xb, 32, none⟩ (.bool true)).drew)
          case first =>
            cases cm with
            | false =>
              clear hask hall
              go_region
              all_goals (go_wp2_with fail; go_meet; rfl)
            | true =>
              by_cases hck : cc = kk
              · subst hck
                clear hask hall
                go_region
                all_goals (go_wp2_with fail; go_meet; rfl)
              · have hak : 0 < ak := (hask rfl).resolve_left hck
                have hckB : (cc == kk) = false := by simp [hck]
                clear hask hall hck
                go_region
                all_goals (go_wp2_with fail; go_meet; rfl)
          case rest =>
            rw [hcut]
            clear hcut
            cases idl with
            | false =>
              go_wp2
              go_ret
              exact ⟨rfl, HEND.out⟩
            | true =>
              have hal := hall rfl
              go_wp2
              go_ret
              exact ⟨rfl, HEND.out⟩
end Go.Proofs.YtlhlmgfblbpdpaaGreatDoor
