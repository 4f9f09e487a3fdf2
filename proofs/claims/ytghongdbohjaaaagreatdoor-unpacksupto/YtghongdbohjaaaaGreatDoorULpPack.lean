import Derived.Test.YtghongdbohjaaaaGreatDoorULpRes
import Derived.Test.YtghongdbohjaaaaGreatDoorUGaj
set_option linter.unusedVariables false
set_option linter.unusedSimpArgs false
/-
  (*sluicelaw.World).packs, at KPack.
-/
namespace Go.Proofs.YtghongdbohjaaaaGreatDoor
set_option linter.unusedVariables false
set_option linter.unusedSimpArgs false
open Go.RowKit

theorem Tryz.infoS9 : (Tryz.prog.info? 9).map (fun i => (i.zero, i.size, i.bytes)) = some (some (.string ⟨#[]⟩), 1, 16) := by kernel_rfl

set_option maxRecDepth 100000 in
set_option maxHeartbeats 6400000 in
theorem packs_pack {Y : List Ob} (W0 V0 : World) (b N : Nat) (gF gC : Value) (gS : GX) (pv sv kv : Value) (sh : Option Addr) (ch : Nat) (hss : List (List HP × Value)) (prs : List PkR) (bls : List ByteArray) (recs : List RecB) (A B' C : Int) (S : ByteArray) (w : World) (hG : HdIn W0 sh hss) (hgl : Gl W0)
    (hI : PInvX W0 V0 w b gF (.slice sh hss.length ch) gC gS pv sv kv prs bls recs N Y) (hN : N + 1 ≤ 16777216) (hA : I64 A) (hB : I64 B') (h0 : 0 < prs.length) (hh0 : 0 < hss.length) (hhl : hss.length ≤ 1048576) :
    Calls Tryz.prog 11 #[.pointer (some ⟨b, 0, none⟩), .agg #[.int .i64 6, .int .i64 A, .int .i64 B', .int .i64 C, .string S]] w fun e w' => e = .returned (.bool true) ∧ ∃ sv' kv' prs' bls' recs', PInvX W0 V0 w' b gF (.slice sh hss.length ch) gC gS pv sv' kv' prs' bls' recs' (N + 1) Y := by
  have HG := hide hG
  have HGL := hide hgl
  have HBI := hide hB
  clear hG hgl hB
  obtain ⟨sr, cr, hpv⟩ := slice_len hI.rowP
  subst hpv
  obtain ⟨gr, hgr, hcr⟩ := slice_some hI.rowP h0
  subst hgr
  have hlt := lt_of_block hI.blk
  have hgl : gr < w.heap.size := owns_lt hI.rowP rfl
  have g5 : w.cell? ⟨b, 5, none⟩ = some (.slice (some ⟨gr, 0, none⟩) prs.length cr) := by rw [cell_of_row w b _ _ _ _ hI.blk]; rfl
  obtain ⟨j, hj, hjl⟩ := pkNat A h0
  obtain ⟨e0, e1⟩ := pkCells_get hjl
  have q0 : w.cell? ⟨gr, j * 2, none⟩ = some (.pointer (some ⟨prs[j].xb, 0, none⟩)) := by rw [hI.rowP.cellAt _ (by have := pkCells_length prs; omega)]; exact e0
  have q1 : w.cell? ⟨gr, j * 2 + 1, none⟩ = some (.pointer (some ⟨prs[j].pb, 0, none⟩)) := by rw [hI.rowP.cellAt _ (by have := pkCells_length prs; omega)]; exact e1
  have hfew := hI.few.1
  have hxl : prs[j].xb < w.heap.size := hI.sep.lt (o := pkOb prs[j]) (PInvX.mem2 (List.getElem_mem hjl)).1 (Or.inl rfl)
  have hpl : prs[j].pb < w.heap.size := hI.sep.lt (o := rpOb prs[j]) (PInvX.mem2 (List.getElem_mem hjl)).2 (Or.inl rfl)
  have hlog := hI.logs _ (List.getElem_mem hjl)
  have hIa := hI.below (atP_below w [.int .i64 6, .int .i64 A, .int .i64 B', .int .i64 C, .string S] prs[j])
  have HRJ := hide (List.getElem_mem hjl)
  have hop := atP_op w [.int .i64 6, .int .i64 A, .int .i64 B', .int .i64 C, .string S] prs[j]
  have hpp := atP_pk w [.int .i64 6, .int .i64 A, .int .i64 B', .int .i64 C, .string S] prs[j]
  have HBA := hide (atP_below w [.int .i64 6, .int .i64 A, .int .i64 B', .int .i64 C, .string S] prs[j])
  have HWA : Hid (atP w [.int .i64 6, .int .i64 A, .int .i64 B', .int .i64 C, .string S] prs[j] = ((w.alloc (.cells #[.int .i64 6, .int .i64 A, .int .i64 B', .int .i64 C, .string S] 49)).alloc (.cells #[.pointer (some ⟨prs[j].xb, 0, none⟩), .pointer (some ⟨prs[j].pb, 0, none⟩)] 112)).drew) := by show _ = _; rfl
  generalize atP w [.int .i64 6, .int .i64 A, .int .i64 B', .int .i64 C, .string S] prs[j] = wa at hIa hop hpp HBA HWA
  obtain ⟨xb, hxe⟩ : ∃ xb, xb = prs[j].xb := ⟨_, rfl⟩
  obtain ⟨pb, hpe⟩ : ∃ pb, pb = prs[j].pb := ⟨_, rfl⟩
  rw [← hxe] at q0 hxl hpp HWA
  rw [← hpe] at q1 hpl hpp HWA
  have HXE := hide hxe
  have HPE := hide hpe
  have HI := hide hI
  have HIA := hide hIa
  have HOP := hide hop
  have HPP := hide hpp
  have HJ := hide hj
  have HA := hide hA
  clear hI hIa hj hA e0 e1 hop hpp hxe hpe
  go_enter Tryz.func11, Tryz.ntmps11
  go_upto_region 11 with fail
  go_cut [9] (fun s9 wx => s9 = .pointer (some ⟨w.heap.size + 1, 0, none⟩) ∧ wx = wa)
  case first =>
    go_region_held3 (fun w' => w'.cell? ⟨b, 5, none⟩ = some (.slice (some ⟨gr, 0, none⟩) prs.length cr) ∧ w'.cell? ⟨w.heap.size, 1, none⟩ = some (.int .i64 A) ∧ w'.cell? ⟨gr, j * 2, none⟩ = some (.pointer (some ⟨xb, 0, none⟩)) ∧ w'.cell? ⟨gr, j * 2 + 1, none⟩ = some (.pointer (some ⟨pb, 0, none⟩))) (go_keep)
      (first | (go_at_call 20; refine (lpickAt A prs.length j _ h0 HA.out HJ.out).mono ?_; rintro e w' ⟨rfl, rfl⟩))
    all_goals (go_wp2_with fail; go_meet; exact ⟨rfl, HWA.out.symm⟩)
  case rest =>
    obtain ⟨rfl, hwc⟩ := hcut
    rw [hwc]
    clear hwc wc g5 q0 q1
    obtain ⟨o0, o1, o2, o3, o4⟩ := op_block HOP.out
    obtain ⟨p0, p1⟩ := pair_blk HPP.out
    have hsz := lt_of_block HPP.out
    have g1 : wa.cell? ⟨b, 1, none⟩ = some (.slice sh hss.length ch) := by rw [cell_of_row wa b _ _ _ _ HIA.out.blk]; rfl
    obtain ⟨i, hi, hil⟩ := pkNat B' hh0
    have hba := HIA.out.bel
    obtain ⟨hb, off, hsh, hhb, hcell⟩ := (HG.out.below hba).cell i hil
    subst hsh
    have hqm := List.getElem_mem hil
    have hbody := (HG.out.body _ hqm).1
    have hbl := (HG.out.body _ hqm).2
    have hlen := HG.out.len _ hqm
    generalize hss[i] = q at hcell hbody hbl hlen
    obtain ⟨hs, hv⟩ := q
    simp only at hcell hbody hbl hlen
    obtain ⟨sa, ca, hhv⟩ := hbody.form
    subst hhv
    have HBODY := hide hbody
    have HBL := hide hbl
    have HOK := hide hlen.2
    have hl1 := hlen.1
    have HII := hide hi
    have HBA2 := hide hba
    have hI0 := HIA.out.below (w' := wa.drew) ⟨rfl, rfl, rfl, Nat.le_refl _, fun _ _ => rfl⟩
    have HI0 := hide hI0
    have HB0 : Hid (Below w.heap.size w wa.drew) := ⟨HBA.out.os, HBA.out.tape, HBA.out.output, HBA.out.size, HBA.out.block⟩
    have HOP0 : Hid (wa.drew.heap[w.heap.size]? = some (.cells #[.int .i64 6, .int .i64 A, .int .i64 B', .int .i64 C, .string S] 49 (0, 0))) := HOP.out
    have HPP0 : Hid (wa.drew.heap[w.heap.size + 1]? = some (.cells #[.pointer (some ⟨xb, 0, none⟩), .pointer (some ⟨pb, 0, none⟩)] 112 (0, 0))) := HPP.out
    clear hi hbody hbl hlen hba hI0 hqm
    have hz0 : ((hss.length : Int) == 0) = false := by rw [beq_eq_false_iff_ne]; omega
    go_upto_region 22 with fail
    go_cut [14] (fun s14 wx => s14 = .slice sa hs.length ca ∧ wx = wa.drew)
    case first =>
      go_region_held3 (fun w' => w'.cell? ⟨b, 1, none⟩ = some (.slice (some ⟨hb, off, none⟩) hss.length ch) ∧ w'.cell? ⟨w.heap.size, 2, none⟩ = some (.int .i64 B') ∧ w'.cell? ⟨hb, off + i, none⟩ = some (.slice sa hs.length ca)) (go_keep)
        (first | (go_at_call 20; refine (lpickAt B' hss.length i _ hh0 HBI.out HII.out).mono ?_; rintro e w' ⟨rfl, rfl⟩))
      all_goals (go_wp2_with fail; go_meet; exact ⟨rfl, rfl⟩)
    case rest =>
      obtain ⟨rfl, hwc⟩ := hcut
      rw [hwc]
      clear hwc wc g1 hcell o0 o1 o2 o3 o4 p0 p1 HOP HPP HIA
      generalize wa.drew = w0 at HI0 HB0 HOP0 HPP0
      clear hsz HBA HWA HBA2
      have hb0 := HI0.out.bel
      have HLN := hide (lent_all (.slice sa hs.length ca) hs w0 (HBODY.out.chg (Chg.of_below (S := fun _ => False) hb0) (fun _ _ => id)) hl1)
      clear hb0
      go_wp2_with fail
      refine HLN.out.mono ?_
      rintro e w1 ⟨iv, rfl, hlv, hb1, hivf⟩
      have hI1 := HI0.out.put hb1 (lentOb iv (.slice sa hs.length ca) hs) hlv hivf
      have hpp1 := kept_told HPP0.out hb1
      obtain ⟨p0, p1⟩ := pair_blk hpp1
      have hz1 := hb1.size
      have hzw := HB0.out.size
      have hpl1 := lt_of_block hpp1
      have HI1 := hide hI1
      have HLV := hide hlv
      have HIVF := hide hivf
      have HPP1 := hide hpp1
      have hxF : ∀ i, (pkOb prs[j]).F i → i < w.heap.size := fun i hi => HI.out.sep.lt (o := pkOb prs[j]) (PInvX.mem2 HRJ.out).1 hi
      have hpF : ∀ i, (rpOb prs[j]).F i → i < w.heap.size := fun i hi => HI.out.sep.lt (o := rpOb prs[j]) (PInvX.mem2 HRJ.out).2 hi
      have HXF := hide hxF
      have HPF := hide hpF
      have hgl1 : Gl w1 := HGL.out.below hI1.bel
      have HBW1 := hide hI1.bel
      have hlo := HI.out.sep.lo (pkOb prs[j]) (PInvX.mem2 HRJ.out).1
      have hWV := HI.out.belV.size
      have hgW := HGL.out.lt
      have HSA1 := hide (HBODY.out.chg (Chg.of_below (S := fun _ => False) hI1.bel) (fun _ _ => id))
      obtain ⟨l, hle⟩ : ∃ l, l = (prs[j].pk.pack hs).1 := ⟨_, rfl⟩
      have HLE := hide hle
      clear hle HLN hlv hb1 hivf hI1 hpp1 hxF hpF
      cases hlist : listB hs with
      | false =>
        have hpn := pack_no xb iv hs w1 HLV.out.hs hlist (by omega) (fun x hx => by have := HOK.out x hx; omega)
        have HPN := hide hpn
        have HLI := hide hlist
        clear hpn hlist hgl1 hlo
        go_wp2_with fail
        refine HPN.out.mono ?_
        rintro e w2 ⟨rfl, hb2⟩
        have hpp2 := kept_told HPP1.out hb2
        obtain ⟨p0, p1⟩ := pair_blk hpp2
        have hpl2 := lt_of_block hpp2
        have HI2 := hide (HI1.out.below hb2)
        have hsa2 := HSA1.out.chg (Chg.of_below (S := fun _ => False) hb2) (fun _ _ => id)
        have HRN := hide (rPack_none pb sa ca hs w2 (hsa2.toA HOK.out) (by omega) HLI.out)
        have HSA2 := hide hsa2
        clear hb2 hpp2 hsa2 HPN
        go_wp2_with fail
        refine HRN.out.mono ?_
        rintro e w3 ⟨rfl, hb3⟩
        have HI3 := hide (HI2.out.below hb3)
        have HSA3 := hide (HSA2.out.chg (Chg.of_below (S := fun _ => False) hb3) (fun _ _ => id))
        clear hb3 HRN p0 p1
        have hnil2 : ∀ w' : World, (binOp .eql 54 (.slice none 0 0) (.slice none 0 0)).run Tryz.prog w' = .ok (.bool true) w' := fun w' => Lib.run_eql_slice_nil w' 54 5 none _ _ _ _ Tryz.underlying54
        go_wp2_with fail
        refine (sameBytes_true (.slice none 0 0) (.slice none 0 0) [] _ (Or.inl ⟨rfl, rfl⟩) (Or.inl ⟨rfl, rfl⟩)).mono ?_
        rintro e w' ⟨rfl, hw'⟩
        rw [hw']
        clear hw' w'
        go_wp2_with fail
        refine (num_any 2 _).mono ?_
        rintro e w' ⟨rfl, hw'⟩
        rw [hw']
        clear hw' w'
        have hfew3 := HI3.out.few
        go_wp2_with fail
        refine (keepBytes_any b (lwP gF (.slice (some ⟨hb, off, none⟩) hss.length ch) gC gS (.slice (some ⟨gr, 0, none⟩) prs.length cr) sv kv) kv (.slice none 0 0) recs [] w3.heap.size _ HI3.out.blk rfl HI3.out.rowB (World.ownsRow_nil _ _ _ _) (by omega) (by simp)).mono ?_
        rintro e w4 ⟨rfl, hk4⟩
        have hnil : ∀ i, (Value.slice none 0 0).ownBlock ≠ some i := fun i e => by simp [Value.ownBlock] at e
        obtain ⟨kv4, r4, hI4⟩ := pinv_kept (HI3.out.mono (Nat.le_succ N)) (by omega) (by omega) (by simp) (World.ownsRow_nil _ _ _ _) (fun o _ i hi => absurd hi (hnil i)) (fun i hi => absurd hi (hnil i)) hk4
        have HI4 := hide hI4
        have hsa4 : HsB w4 (.slice sa hs.length ca) hs := HBODY.out.chg (Chg.of_below (S := fun _ => False) hI4.bel) (fun _ _ => id)
        have HWA4 := hide (whole_all iv (.slice sa hs.length ca) hs w4 hI4.extra hsa4 hl1 (fun h0 i hi e => by have h1 := HBL.out i hi h0; have h2 := HIVF.out i e; have h3 := HI0.out.bel.size; omega))
        clear hk4 hI4 hsa4
        go_wp2_with fail
        refine HWA4.out.mono ?_
        rintro e w5 ⟨rfl, hc5⟩
        have HI5 := hide (HI4.out.off hc5 (fun i hi => hi))
        clear hc5
        go_wp2
        go_ret
        exact ⟨rfl, sv, kv4, prs, bls, _, HI5.out⟩
      | true =>
        have hpk1 := HI1.out.pk HRJ.out
        have hpa := pack_ok _ _ _ _ _ iv hs w1 hgl1 hpk1 HLV.out.hs (fun i hi e => by
            have h2 := HIVF.out i hi
            rcases e with e | e
            · have := HXF.out i (Or.inl e); omega
            · have := HXF.out i (Or.inr (Or.inl e)); omega) hlist (by have := hlo _ (Or.inl rfl); omega) (fun i hi => by have := hlo i (Or.inr (Or.inl hi)); omega)
        rw [← HXE.out] at hpa
        have HPA := hide hpa
        have HLI := hide hlist
        clear hpk1 hpa hlist hgl1 hlo
        go_wp2_with fail
        refine HPA.out.mono ?_
        rintro e w2 ⟨v, cs2, tv2, rfl, hP⟩
        rw [HXE.out] at hP
        have hpp2 : w2.heap[w.heap.size + 1]? = some (.cells #[.pointer (some ⟨xb, 0, none⟩), .pointer (some ⟨pb, 0, none⟩)] 112 (0, 0)) := by
          rw [hP.chg.block _ (lt_of_block HPP1.out) (by
            rintro (e | e)
            · have := HXF.out _ (Or.inl e); omega
            · have := HXF.out _ (Or.inr (Or.inl e)); omega)]; exact HPP1.out
        obtain ⟨p0, p1⟩ := pair_blk hpp2
        have hpl2 := lt_of_block hpp2
        have hz2 := hP.chg.size
        have hrp2 : RpS w2 prs[j].pb prs[j].av prs[j].bv prs[j].log prs[j].lim prs[j].told := (rpOb prs[j]).chg _ _ _ (HI1.out.rp HRJ.out) hP.chg (fun i hi e => by
          rcases e with e | e
          · exact HI1.out.two j hjl (j := i) (Or.inl e) hi
          · exact HI1.out.two j hjl (j := i) (Or.inr (Or.inl e)) hi)
        have hsaA : HsA w2 sa hs := by
          refine (HSA1.out.toA HOK.out).chg hP.chg (fun h0 hb' off' he e => ?_)
          have h1 := HBL.out hb' (by rw [he]; rfl) h0
          have h2 := HI.out.belV.size
          have h3 := HI.out.sep.lo (pkOb prs[j]) (PInvX.mem2 HRJ.out).1
          rcases e with e | e
          · have := h3 hb' (Or.inl e); omega
          · have := h3 hb' (Or.inr (Or.inl e)); omega
        have hrl := rPack_list _ _ _ _ _ _ sa ca hs w2 hrp2 hsaA (fun h0 hb' off' he e => by
            have h1 := HBL.out hb' (by rw [he]; rfl) h0
            have h2 := HI.out.belV.size
            have h3 := HI.out.sep.lo (rpOb prs[j]) (PInvX.mem2 HRJ.out).2
            rcases e with e | e
            · have := h3 hb' (Or.inl e); omega
            · have := h3 hb' (Or.inr (Or.inl e)); omega) (by have := hlog.1; omega) (HI.out.small HRJ.out) (by have := hlog.2; omega) HLI.out
        rw [← HPE.out] at hrl
        have HRL := hide hrl
        have HP := hide hP
        clear hP hpp2 hrp2 hsaA hrl HPA
        obtain ⟨sl, cl, hvl⟩ := slice_len HP.out.own
        subst hvl
        rw [← HLE.out]
        go_wp2_with fail
        refine HRL.out.mono ?_
        intro e w3 hR
        rw [HPE.out] at hR
        obtain ⟨mv, r', he, hmv, hv3, hI3, hc13, hsize⟩ := pinv_packed HI1.out j hjl HLI.out HP.out hR
        subst he
        rw [← HLE.out] at hmv hv3 hsize
        obtain ⟨sm, cm, hml⟩ := slice_len hmv
        subst hml
        have hz3 := hc13.size
        have HMV := hide hmv
        have HV3 := hide hv3
        have HI3 := hide hI3
        have HC13 := hide hc13
        clear hR hmv hv3 hI3 hc13 p0 p1 HRL
        have hnil2 : ∀ w' : World, (binOp .eql 54 (.slice sl l.length cl) (.slice none 0 0)).run Tryz.prog w' = .ok (.bool sl.isNone) w' := fun w' => Lib.run_eql_slice_nil w' 54 5 sl _ _ _ _ Tryz.underlying54
        go_upto_region 26 with fail
        go_cut [20] (fun s20 wx => s20 = .bool true ∧ wx = w3)
        case first =>
          go_wp2_with fail
          refine (sameBytes_true (.slice sl l.length cl) (.slice sm l.length cm) l _ (bytesIn_of_owns HV3.out rfl) (bytesIn_of_owns HMV.out rfl)).mono ?_
          rintro e w' ⟨rfl, hw'⟩
          rw [hw']
          clear hw' w'
          go_wp2_with fail
          refine (num_any 0 _).mono ?_
          rintro e w' ⟨rfl, hw'⟩
          rw [hw']
          clear hw' w'
          rcases sl with - | ad
          · go_wp2_with fail
            go_meet
            exact ⟨rfl, rfl⟩
          · go_wp2_with fail
            go_meet
            exact ⟨rfl, rfl⟩
        case rest =>
          obtain ⟨rfl, hwx⟩ := hcut
          rw [hwx]
          clear hwx wc hnil2
          obtain ⟨T, hT⟩ : ∃ T : ByteArray, T = ⟨l.toArray⟩ := ⟨_, rfl⟩
          have hcv : (convert 54 9 (.slice sm l.length cm)).run Tryz.prog w3 = .ok (.string T) w3 := by rw [hT]; exact conv_bytes (bytesIn_of_owns HMV.out rfl)
          have hcvd : (convert 54 9 (.slice sm l.length cm)).run Tryz.prog w3.drew = .ok (.string T) w3.drew := by rw [hT]; exact conv_bytes (bytesIn_of_owns (show w3.drew.ownsRow _ _ _ _ _ _ from HMV.out) rfl)
          have HTS : Hid (T.size ≤ 1048576) := by show _ ≤ _; rw [hT]; simpa [ByteArray.size] using hsize
          clear hT
          obtain ⟨j0, ji, jz0, jz1, jz2⟩ := info_parts Tryz.infoS9
          obtain ⟨ss, cs8, hsv⟩ := slice_len HI3.out.rowS
          subst hsv
          have c8 : w3.cell? ⟨b, 8, none⟩ = some (.slice ss bls.length cs8) := by rw [cell_of_row w3 b _ _ _ _ HI3.out.blk]; rfl
          have c8a : (w3.alloc (.cells #[.string T] 9)).cell? ⟨b, 8, none⟩ = some (.slice ss bls.length cs8) := by rw [cell_of_row _ b _ _ _ _ (alloc_block HI3.out.blk _)]; rfl
          have hb3 := lt_of_block HI3.out.blk
          have hfew3 := HI3.out.few
          have hfewN := HI.out.few
          have HBQ : Hid (Below w3.heap.size w3 (w3.alloc (.cells #[.string T] 9)).drew) := by
            have h := (Below.refl w3.heap.size w3).alloc (Nat.le_refl _) (.cells #[.string T] 9)
            exact ⟨h.os, h.tape, h.output, h.size, h.block⟩
          obtain ⟨X, hX⟩ : ∃ X : List Value, X = [.string T] := ⟨_, rfl⟩
          have HX := hide hX
          have HXL : Hid (X.length = 1 * 1) := by show _ = _; rw [hX]; rfl
          have HONE : Hid (∀ u ∈ X, u.oneCell' = true) := by rw [hX]; intro u hu; simp at hu; rw [hu]; rfl
          have HCEL : Hid (∀ i u, X[i]? = some u → (w3.alloc (.cells #[.string T] 9)).drew.cell? ((⟨w3.heap.size, 0, none⟩ : Addr).add i) = some u) := by
            subst hX
            exact fun i u hu => lies_row i u hu
          have HOWN : Hid ((w3.alloc (.cells #[.string T] 9)).drew.ownsRow 0 9 1 (.slice ss bls.length cs8) bls.length (strCells bls)) := HI3.out.rowS.alloc _
          have HBA6 : Hid ((w3.alloc (.cells #[.string T] 9)).drew.heap[b]? = some (.cells (lwP gF (.slice (some ⟨hb, off, none⟩) hss.length ch) gC gS (.slice (some ⟨gr, 0, none⟩) prs.length cr) (.slice ss bls.length cs8) kv) 46 (0, 0))) := alloc_block HI3.out.blk _
          have HN1 : Hid (bls.length + 1 ≤ maxLen) := by show _ ≤ _; unfold maxLen; omega
          have HN2 : Hid ((bls.length + 1) * 16 ≤ 140737488355328) := by show _ ≤ _; omega
          have HIQ := hide (HI3.out.below HBQ.out)
          clear hX
          go_upto_if 171 with fail
          go_cut [] (fun wx => ∃ sv4, PInvX W0 V0 wx b gF (.slice (some ⟨hb, off, none⟩) hss.length ch) gC gS (.slice (some ⟨gr, 0, none⟩) prs.length cr) sv4 kv (prs.set j r') (bls ++ [T]) recs (N + 1) (lentOb iv (.slice sa hs.length ca) hs :: Y) ∧ Chg (fun i => i = b ∨ (Value.slice ss bls.length cs8).ownBlock = some i) w3 wx)
          case first =>
            go_wp2
            go_region_law (refine step_app_full rfl (.tmp 176) (.tmp 179) 37 rfl 9 j0 (.string ⟨#[]⟩) 1 16 Tryz.underlying37 ji jz0 jz1 jz2 rfl (by decide) (.slice ss bls.length cs8) bls.length (strCells bls) (by simp [Act.eval]) HOWN.out ⟨w3.heap.size, 0, none⟩ 1 1 X (by simp [Act.eval]) (by decide) HXL.out HCEL.out HONE.out HN1.out HN2.out ?_; intro sv7 w7 hown7 hg7 happ7; obtain ⟨ss7, cs7, hsv7⟩ := slice_len hown7; subst hsv7; have hb7 := kept_block HOWN.out hg7 HBA6.out (by decide); have c7 : w7.cell? ⟨b, 8, none⟩ = some (.slice ss bls.length cs8) := (by rw [cell_of_row w7 b _ _ _ _ hb7]; rfl); have f7 : w7.frozen? ⟨b, 8, none⟩ = false := (by simp [World.frozen?, hb7]))
            all_goals (go_wp2_with fail)
            all_goals go_meet
            all_goals (rw [HX.out] at hown7)
            all_goals exact ⟨_, pinv_text HIQ.out hown7 hg7 happ7.block (by omega) HTS.out, Chg.setCell (S := fun i => i = b ∨ (Value.slice ss bls.length cs8).ownBlock = some i) ((Chg.of_below HBQ.out).trans (Chg.of_grown hg7 (fun i hi => Or.inr (Or.inr hi)))) (p := ⟨b, 8, none⟩) (Or.inr (Or.inl rfl)) _⟩
          case rest =>
            obtain ⟨sv4, hI4, hc4⟩ := hcut
            obtain ⟨w4, hw4⟩ : ∃ w4, w4 = wc := ⟨wc, rfl⟩
            subst hw4
            have hssl : ∀ i, (Value.slice ss bls.length cs8).ownBlock = some i → i < w.heap.size := fun i hi => owns_lt HI.out.rowS hi
            have hv4 : w4.ownsRow w1.heap.size 5 1 (.slice sl l.length cl) l.length (l.map B) := owns_chg HV3.out hc4 (fun i hi e => by
              have h1 := (HV3.out.lt i hi).1
              rcases e with e | e
              · omega
              · have := hssl i e; omega)
            have hfree := hI4.free hv4 (fun x hx u hu i hi => by have := HI.out.recs_lt x hx u hu i hi; omega) (fun o ho i hi => by
              rcases List.mem_cons.1 ho with rfl | ho
              · exact (lentOb iv (.slice sa hs.length ca) hs).lt w1 i HLV.out hi
              · have h1 := HI.out.sep.lt (PInvX.x_mem ho) hi; omega)
            have HFREE := hide hfree
            have HI4 := hide hI4
            have HV4 := hide hv4
            have hVw := HI.out.lo
            clear hI4 hc4 hssl hv4 hfree hcv hcvd c8 c8a
            go_wp2_with fail
            refine (keepBytes_any b (lwP gF (.slice (some ⟨hb, off, none⟩) hss.length ch) gC gS (.slice (some ⟨gr, 0, none⟩) prs.length cr) sv4 kv) kv (.slice sl l.length cl) recs l w1.heap.size _ HI4.out.blk rfl HI4.out.rowB HV4.out (by omega) (by omega)).mono ?_
            rintro e w5 ⟨rfl, hk5⟩
            obtain ⟨kv5, r5, hI5⟩ := pinv_kept HI4.out (by omega) (by omega) (by omega) (owns_base HV4.out (fun _ _ => Nat.zero_le _)) HFREE.out (fun i hi => by have := (HV4.out.lt i hi).1; omega) hk5
            have HI5 := hide hI5
            have hsa5 : HsB w5 (.slice sa hs.length ca) hs := HBODY.out.chg (Chg.of_below (S := fun _ => False) hI5.bel) (fun _ _ => id)
            have HWA5 := hide (whole_all iv (.slice sa hs.length ca) hs w5 hI5.extra hsa5 hl1 (fun h0 i hi e => by have h1 := HBL.out i hi h0; have h2 := HIVF.out i e; have h3 := HI0.out.bel.size; omega))
            clear hk5 hI5 hsa5
            go_wp2_with fail
            refine HWA5.out.mono ?_
            rintro e w6 ⟨rfl, hc6⟩
            have HI6 := hide (HI5.out.off hc6 (fun i hi => hi))
            clear hc6
            go_wp2
            go_ret
            exact ⟨rfl, sv4, kv5, _, _, _, HI6.out⟩
end Go.Proofs.YtghongdbohjaaaaGreatDoor
