import Derived.Test.YtghongdbohjaaaaGreatDoorUGah
import Derived.Test.YtghongdbohjaaaaGreatDoorUGab
set_option linter.unusedVariables false
set_option linter.unusedSimpArgs false
/-
  (*sluicelaw.World).packs, at KResize and KSize.
-/
namespace Go.Proofs.YtghongdbohjaaaaGreatDoor
set_option linter.unusedVariables false
set_option linter.unusedSimpArgs false
open Go.RowKit

/-- A packer, as the law takes it out of its row: the world then. -/
def atP (w : World) (o : List Value) (r : PkR) : World := ((w.alloc (.cells o.toArray 49)).alloc (.cells #[.pointer (some ⟨r.xb, 0, none⟩), .pointer (some ⟨r.pb, 0, none⟩)] 112)).drew
theorem atP_below (w : World) (o : List Value) (r : PkR) : Below w.heap.size w (atP w o r) := by
  have h := ((Below.refl w.heap.size w).alloc (Nat.le_refl _) (.cells o.toArray 49)).alloc (by simp) (.cells #[.pointer (some ⟨r.xb, 0, none⟩), .pointer (some ⟨r.pb, 0, none⟩)] 112)
  exact ⟨h.os, h.tape, h.output, h.size, h.block⟩
theorem atP_op (w : World) (o : List Value) (r : PkR) : (atP w o r).heap[w.heap.size]? = some (.cells o.toArray 49 (0, 0)) := heap_in (by simp) (heap_at rfl)
theorem atP_pk (w : World) (o : List Value) (r : PkR) : (atP w o r).heap[w.heap.size + 1]? = some (.cells #[.pointer (some ⟨r.xb, 0, none⟩), .pointer (some ⟨r.pb, 0, none⟩)] 112 (0, 0)) := heap_at (by simp)

set_option maxRecDepth 100000 in
set_option maxHeartbeats 3200000 in
theorem packs_size {Y : List Ob} (W0 V0 : World) (b N : Nat) (gF gH gC : Value) (gS : GX) (pv sv kv : Value) (prs : List PkR) (bls : List ByteArray) (recs : List RecB) (A B' C : Int) (S : ByteArray) (w : World) (hI : PInvX W0 V0 w b gF gH gC gS pv sv kv prs bls recs N Y) (hN : N ≤ 16777216) (hA : I64 A) (h0 : 0 < prs.length) :
    Calls Tryz.prog 11 #[.pointer (some ⟨b, 0, none⟩), .agg #[.int .i64 7, .int .i64 A, .int .i64 B', .int .i64 C, .string S]] w fun e w' => e = .returned (.bool true) ∧ Below w.heap.size w w' := by
  obtain ⟨sr, cr, hpv⟩ := slice_len hI.rowP
  subst hpv
  obtain ⟨gr, hgr, hcr⟩ := slice_some hI.rowP h0
  subst hgr
  have hlt := lt_of_block hI.blk
  have hgl : gr < w.heap.size := owns_lt hI.rowP rfl
  have g5 : w.cell? ⟨b, 5, none⟩ = some (.slice (some ⟨gr, 0, none⟩) prs.length cr) := by rw [cell_of_row w b _ _ _ _ hI.blk]; rfl
  obtain ⟨j, hj, hjl⟩ := pkNat A h0
  obtain ⟨e0, e1⟩ := pkCells_get hjl
  have q0 : w.cell? ⟨gr, j * 2, none⟩ = some (.pointer (some ⟨prs[j].xb, 0, none⟩)) := by rw [hI.rowP.cellAt _ (by have := pkCells_length prs; omega)]; exact e0
  have q1 : w.cell? ⟨gr, j * 2 + 1, none⟩ = some (.pointer (some ⟨prs[j].pb, 0, none⟩)) := by rw [hI.rowP.cellAt _ (by have := pkCells_length prs; omega)]; exact e1
  have hfew := hI.few.1
  have hxl : prs[j].xb < w.heap.size := hI.sep.lt (o := pkOb prs[j]) (PInvX.mem2 (List.getElem_mem hjl)).1 (Or.inl rfl)
  have hpl : prs[j].pb < w.heap.size := hI.sep.lt (o := rpOb prs[j]) (PInvX.mem2 (List.getElem_mem hjl)).2 (Or.inl rfl)
  have hlog := hI.logs _ (List.getElem_mem hjl)
  have hIa := hI.below (atP_below w [.int .i64 7, .int .i64 A, .int .i64 B', .int .i64 C, .string S] prs[j])
  have HRJ := hide (List.getElem_mem hjl)
  have hop := atP_op w [.int .i64 7, .int .i64 A, .int .i64 B', .int .i64 C, .string S] prs[j]
  have hpp := atP_pk w [.int .i64 7, .int .i64 A, .int .i64 B', .int .i64 C, .string S] prs[j]
  have HBA := hide (atP_below w [.int .i64 7, .int .i64 A, .int .i64 B', .int .i64 C, .string S] prs[j])
  have HWA : Hid (atP w [.int .i64 7, .int .i64 A, .int .i64 B', .int .i64 C, .string S] prs[j] = ((w.alloc (.cells #[.int .i64 7, .int .i64 A, .int .i64 B', .int .i64 C, .string S] 49)).alloc (.cells #[.pointer (some ⟨prs[j].xb, 0, none⟩), .pointer (some ⟨prs[j].pb, 0, none⟩)] 112)).drew) := by show _ = _; rfl
  generalize atP w [.int .i64 7, .int .i64 A, .int .i64 B', .int .i64 C, .string S] prs[j] = wa at hIa hop hpp HBA HWA
  obtain ⟨xb, hxe⟩ : ∃ xb, xb = prs[j].xb := ⟨_, rfl⟩
  obtain ⟨pb, hpe⟩ : ∃ pb, pb = prs[j].pb := ⟨_, rfl⟩
  rw [← hxe] at q0 hxl hpp HWA
  rw [← hpe] at q1 hpl hpp HWA
  have HXE := hide hxe
  have HPE := hide hpe
  have HI := hide hI
  have HIA := hide hIa
  have HOP := hide hop
  have HPP := hide hpp
  have HJ := hide hj
  have HA := hide hA
  clear hI hIa hj hA e0 e1 hop hpp hxe hpe
  go_enter Tryz.func11, Tryz.ntmps11
  go_upto_region 11 with fail
  go_cut [9] (fun s9 wx => s9 = .pointer (some ⟨w.heap.size + 1, 0, none⟩) ∧ wx = wa)
  case first =>
    go_region_held3 (fun w' => w'.cell? ⟨b, 5, none⟩ = some (.slice (some ⟨gr, 0, none⟩) prs.length cr) ∧ w'.cell? ⟨w.heap.size, 1, none⟩ = some (.int .i64 A) ∧ w'.cell? ⟨gr, j * 2, none⟩ = some (.pointer (some ⟨xb, 0, none⟩)) ∧ w'.cell? ⟨gr, j * 2 + 1, none⟩ = some (.pointer (some ⟨pb, 0, none⟩))) (go_keep)
      (first | (go_at_call 20; refine (lpickAt A prs.length j _ h0 HA.out HJ.out).mono ?_; rintro e w' ⟨rfl, rfl⟩))
    all_goals (go_wp2_with fail; go_meet; exact ⟨rfl, HWA.out.symm⟩)
  case rest =>
    obtain ⟨rfl, hwc⟩ := hcut
    rw [hwc]
    clear hwc wc g5 q0 q1
    obtain ⟨o0, o1, o2, o3, o4⟩ := op_block HOP.out
    obtain ⟨p0, p1⟩ := pair_blk HPP.out
    have hsz := lt_of_block HPP.out
    have hpk := HIA.out.pk HRJ.out
    have hrp := HIA.out.rp HRJ.out
    have hps := psize_any _ _ _ _ _ _ _ hpk.st
    have hrs := rSize_any _ _ _ _ _ _ _ hrp (by omega)
    rw [← HXE.out] at hps
    rw [← HPE.out, sizeB_tab] at hrs
    have hsm := HIA.out.small HRJ.out
    have hps2 : Calls Tryz.prog 37 #[.pointer (some ⟨xb, 0, none⟩)] wa fun e w' => e = .returned (.int .i64 (szT (tabL prs[j].log) : Int)) ∧ w' = wa := hps
    generalize szT (tabL prs[j].log) = z at hps2 hrs hsm
    have HPS := hide hps2
    have HRS := hide hrs
    clear hpk hrp hps hrs hps2
    go_wp2_with fail
    refine HPS.out.mono ?_
    rintro e w' ⟨rfl, hw'⟩
    rw [hw']
    clear hw' w'
    go_wp2_with fail
    refine HRS.out.mono ?_
    rintro e w1 ⟨rfl, hb1⟩
    have HB1 := hide (HBA.out.trans (hb1.mono HBA.out.size))
    clear hb1
    go_wp2
    go_ret
    exact ⟨by simp, HB1.out⟩

set_option maxRecDepth 100000 in
set_option maxHeartbeats 3200000 in
theorem packs_nores {Y : List Ob} (W0 V0 : World) (b N : Nat) (gF gH gC : Value) (gS : GX) (pv sv kv : Value) (prs : List PkR) (bls : List ByteArray) (recs : List RecB) (A B' C : Int) (S : ByteArray) (w : World) (hI : PInvX W0 V0 w b gF gH gC gS pv sv kv prs bls recs N Y) (hN : N ≤ 16777216) (hA : I64 A) (h0 : 0 < prs.length) (hB : ¬ (0 ≤ B' ∧ B' ≤ 256)) :
    Calls Tryz.prog 11 #[.pointer (some ⟨b, 0, none⟩), .agg #[.int .i64 5, .int .i64 A, .int .i64 B', .int .i64 C, .string S]] w fun e w' => e = .returned (.bool true) ∧ Below w.heap.size w w' := by
  have HL : Hid (limB B' = false) := by show _ = _; unfold limB; simp; omega
  have HN2 := hide hB
  clear hB
  obtain ⟨sr, cr, hpv⟩ := slice_len hI.rowP
  subst hpv
  obtain ⟨gr, hgr, hcr⟩ := slice_some hI.rowP h0
  subst hgr
  have hlt := lt_of_block hI.blk
  have hgl : gr < w.heap.size := owns_lt hI.rowP rfl
  have g5 : w.cell? ⟨b, 5, none⟩ = some (.slice (some ⟨gr, 0, none⟩) prs.length cr) := by rw [cell_of_row w b _ _ _ _ hI.blk]; rfl
  obtain ⟨j, hj, hjl⟩ := pkNat A h0
  obtain ⟨e0, e1⟩ := pkCells_get hjl
  have q0 : w.cell? ⟨gr, j * 2, none⟩ = some (.pointer (some ⟨prs[j].xb, 0, none⟩)) := by rw [hI.rowP.cellAt _ (by have := pkCells_length prs; omega)]; exact e0
  have q1 : w.cell? ⟨gr, j * 2 + 1, none⟩ = some (.pointer (some ⟨prs[j].pb, 0, none⟩)) := by rw [hI.rowP.cellAt _ (by have := pkCells_length prs; omega)]; exact e1
  have hfew := hI.few.1
  have hxl : prs[j].xb < w.heap.size := hI.sep.lt (o := pkOb prs[j]) (PInvX.mem2 (List.getElem_mem hjl)).1 (Or.inl rfl)
  have hpl : prs[j].pb < w.heap.size := hI.sep.lt (o := rpOb prs[j]) (PInvX.mem2 (List.getElem_mem hjl)).2 (Or.inl rfl)
  have hlog := hI.logs _ (List.getElem_mem hjl)
  have hIa := hI.below (atP_below w [.int .i64 5, .int .i64 A, .int .i64 B', .int .i64 C, .string S] prs[j])
  have HRJ := hide (List.getElem_mem hjl)
  have hop := atP_op w [.int .i64 5, .int .i64 A, .int .i64 B', .int .i64 C, .string S] prs[j]
  have hpp := atP_pk w [.int .i64 5, .int .i64 A, .int .i64 B', .int .i64 C, .string S] prs[j]
  have HBA := hide (atP_below w [.int .i64 5, .int .i64 A, .int .i64 B', .int .i64 C, .string S] prs[j])
  have HWA : Hid (atP w [.int .i64 5, .int .i64 A, .int .i64 B', .int .i64 C, .string S] prs[j] = ((w.alloc (.cells #[.int .i64 5, .int .i64 A, .int .i64 B', .int .i64 C, .string S] 49)).alloc (.cells #[.pointer (some ⟨prs[j].xb, 0, none⟩), .pointer (some ⟨prs[j].pb, 0, none⟩)] 112)).drew) := by show _ = _; rfl
  generalize atP w [.int .i64 5, .int .i64 A, .int .i64 B', .int .i64 C, .string S] prs[j] = wa at hIa hop hpp HBA HWA
  obtain ⟨xb, hxe⟩ : ∃ xb, xb = prs[j].xb := ⟨_, rfl⟩
  obtain ⟨pb, hpe⟩ : ∃ pb, pb = prs[j].pb := ⟨_, rfl⟩
  rw [← hxe] at q0 hxl hpp HWA
  rw [← hpe] at q1 hpl hpp HWA
  have HXE := hide hxe
  have HPE := hide hpe
  have HI := hide hI
  have HIA := hide hIa
  have HOP := hide hop
  have HPP := hide hpp
  have HJ := hide hj
  have HA := hide hA
  clear hI hIa hj hA e0 e1 hop hpp hxe hpe
  go_enter Tryz.func11, Tryz.ntmps11
  go_upto_region 11 with fail
  go_cut [9] (fun s9 wx => s9 = .pointer (some ⟨w.heap.size + 1, 0, none⟩) ∧ wx = wa)
  case first =>
    go_region_held3 (fun w' => w'.cell? ⟨b, 5, none⟩ = some (.slice (some ⟨gr, 0, none⟩) prs.length cr) ∧ w'.cell? ⟨w.heap.size, 1, none⟩ = some (.int .i64 A) ∧ w'.cell? ⟨gr, j * 2, none⟩ = some (.pointer (some ⟨xb, 0, none⟩)) ∧ w'.cell? ⟨gr, j * 2 + 1, none⟩ = some (.pointer (some ⟨pb, 0, none⟩))) (go_keep)
      (first | (go_at_call 20; refine (lpickAt A prs.length j _ h0 HA.out HJ.out).mono ?_; rintro e w' ⟨rfl, rfl⟩))
    all_goals (go_wp2_with fail; go_meet; exact ⟨rfl, HWA.out.symm⟩)
  case rest =>
    obtain ⟨rfl, hwc⟩ := hcut
    rw [hwc]
    clear hwc wc g5 q0 q1
    obtain ⟨o0, o1, o2, o3, o4⟩ := op_block HOP.out
    obtain ⟨p0, p1⟩ := pair_blk HPP.out
    have hsz := lt_of_block HPP.out
    go_wp2_with fail
    refine (resize_no xb B' _ HL.out).mono ?_
    rintro e w' ⟨rfl, hw'⟩
    rw [hw']
    clear hw' w'
    go_wp2_with fail
    refine (rResize_bad pb B' _ HN2.out).mono ?_
    rintro e w' ⟨rfl, hw'⟩
    rw [hw']
    clear hw' w'
    go_wp2_with fail
    refine (num_any 1 _).mono ?_
    rintro e w' ⟨rfl, hw'⟩
    rw [hw']
    clear hw' w'
    go_wp2
    go_ret
    exact ⟨rfl, HBA.out⟩

set_option maxRecDepth 100000 in
set_option maxHeartbeats 3200000 in
theorem packs_resize {Y : List Ob} (W0 V0 : World) (b N : Nat) (gF gH gC : Value) (gS : GX) (pv sv kv : Value) (prs : List PkR) (bls : List ByteArray) (recs : List RecB) (A C : Int) (n : Nat) (S : ByteArray) (w : World) (hI : PInvX W0 V0 w b gF gH gC gS pv sv kv prs bls recs N Y) (hN : N ≤ 16777216) (hA : I64 A) (h0 : 0 < prs.length) (hn : n ≤ 256) :
    Calls Tryz.prog 11 #[.pointer (some ⟨b, 0, none⟩), .agg #[.int .i64 5, .int .i64 A, .int .i64 n, .int .i64 C, .string S]] w fun e w' => e = .returned (.bool true) ∧ ∃ prs', PInvX W0 V0 w' b gF gH gC gS pv sv kv prs' bls recs (N + 1) Y := by
  obtain ⟨sr, cr, hpv⟩ := slice_len hI.rowP
  subst hpv
  obtain ⟨gr, hgr, hcr⟩ := slice_some hI.rowP h0
  subst hgr
  have hlt := lt_of_block hI.blk
  have hgl : gr < w.heap.size := owns_lt hI.rowP rfl
  have g5 : w.cell? ⟨b, 5, none⟩ = some (.slice (some ⟨gr, 0, none⟩) prs.length cr) := by rw [cell_of_row w b _ _ _ _ hI.blk]; rfl
  obtain ⟨j, hj, hjl⟩ := pkNat A h0
  obtain ⟨e0, e1⟩ := pkCells_get hjl
  have q0 : w.cell? ⟨gr, j * 2, none⟩ = some (.pointer (some ⟨prs[j].xb, 0, none⟩)) := by rw [hI.rowP.cellAt _ (by have := pkCells_length prs; omega)]; exact e0
  have q1 : w.cell? ⟨gr, j * 2 + 1, none⟩ = some (.pointer (some ⟨prs[j].pb, 0, none⟩)) := by rw [hI.rowP.cellAt _ (by have := pkCells_length prs; omega)]; exact e1
  have hfew := hI.few.1
  have hxl : prs[j].xb < w.heap.size := hI.sep.lt (o := pkOb prs[j]) (PInvX.mem2 (List.getElem_mem hjl)).1 (Or.inl rfl)
  have hpl : prs[j].pb < w.heap.size := hI.sep.lt (o := rpOb prs[j]) (PInvX.mem2 (List.getElem_mem hjl)).2 (Or.inl rfl)
  have hlog := hI.logs _ (List.getElem_mem hjl)
  have hIa := hI.below (atP_below w [.int .i64 5, .int .i64 A, .int .i64 n, .int .i64 C, .string S] prs[j])
  have HRJ := hide (List.getElem_mem hjl)
  have hop := atP_op w [.int .i64 5, .int .i64 A, .int .i64 n, .int .i64 C, .string S] prs[j]
  have hpp := atP_pk w [.int .i64 5, .int .i64 A, .int .i64 n, .int .i64 C, .string S] prs[j]
  have HBA := hide (atP_below w [.int .i64 5, .int .i64 A, .int .i64 n, .int .i64 C, .string S] prs[j])
  have HWA : Hid (atP w [.int .i64 5, .int .i64 A, .int .i64 n, .int .i64 C, .string S] prs[j] = ((w.alloc (.cells #[.int .i64 5, .int .i64 A, .int .i64 n, .int .i64 C, .string S] 49)).alloc (.cells #[.pointer (some ⟨prs[j].xb, 0, none⟩), .pointer (some ⟨prs[j].pb, 0, none⟩)] 112)).drew) := by show _ = _; rfl
  generalize atP w [.int .i64 5, .int .i64 A, .int .i64 n, .int .i64 C, .string S] prs[j] = wa at hIa hop hpp HBA HWA
  obtain ⟨xb, hxe⟩ : ∃ xb, xb = prs[j].xb := ⟨_, rfl⟩
  obtain ⟨pb, hpe⟩ : ∃ pb, pb = prs[j].pb := ⟨_, rfl⟩
  rw [← hxe] at q0 hxl hpp HWA
  rw [← hpe] at q1 hpl hpp HWA
  have HXE := hide hxe
  have HPE := hide hpe
  have HI := hide hI
  have HIA := hide hIa
  have HOP := hide hop
  have HPP := hide hpp
  have HJ := hide hj
  have HA := hide hA
  clear hI hIa hj hA e0 e1 hop hpp hxe hpe
  go_enter Tryz.func11, Tryz.ntmps11
  go_upto_region 11 with fail
  go_cut [9] (fun s9 wx => s9 = .pointer (some ⟨w.heap.size + 1, 0, none⟩) ∧ wx = wa)
  case first =>
    go_region_held3 (fun w' => w'.cell? ⟨b, 5, none⟩ = some (.slice (some ⟨gr, 0, none⟩) prs.length cr) ∧ w'.cell? ⟨w.heap.size, 1, none⟩ = some (.int .i64 A) ∧ w'.cell? ⟨gr, j * 2, none⟩ = some (.pointer (some ⟨xb, 0, none⟩)) ∧ w'.cell? ⟨gr, j * 2 + 1, none⟩ = some (.pointer (some ⟨pb, 0, none⟩))) (go_keep)
      (first | (go_at_call 20; refine (lpickAt A prs.length j _ h0 HA.out HJ.out).mono ?_; rintro e w' ⟨rfl, rfl⟩))
    all_goals (go_wp2_with fail; go_meet; exact ⟨rfl, HWA.out.symm⟩)
  case rest =>
    obtain ⟨rfl, hwc⟩ := hcut
    rw [hwc]
    clear hwc wc g5 q0 q1
    obtain ⟨o0, o1, o2, o3, o4⟩ := op_block HOP.out
    obtain ⟨p0, p1⟩ := pair_blk HPP.out
    have hsz := lt_of_block HPP.out
    have hpk := HIA.out.pk HRJ.out
    have hrz := resize_any _ _ _ _ _ n _ hpk hn
    rw [← HXE.out] at hrz
    have HRZ := hide hrz
    clear hpk hrz
    go_wp2_with fail
    refine HRZ.out.mono ?_
    rintro e w1 ⟨rfl, cs1, lv1, hpk1, hc1, hlv1⟩
    have hop1 : w1.heap[w.heap.size]? = some (.cells #[.int .i64 5, .int .i64 A, .int .i64 n, .int .i64 C, .string S] 49 (0, 0)) := by rw [hc1.block _ (lt_of_block HOP.out) (by omega)]; exact HOP.out
    have hpp1 : w1.heap[w.heap.size + 1]? = some (.cells #[.pointer (some ⟨xb, 0, none⟩), .pointer (some ⟨pb, 0, none⟩)] 112 (0, 0)) := by rw [hc1.block _ (lt_of_block HPP.out) (by omega)]; exact HPP.out
    have hrp1 : RpS w1 prs[j].pb prs[j].av prs[j].bv prs[j].log prs[j].lim prs[j].told := (rpOb prs[j]).chg _ _ _ (HIA.out.rp HRJ.out) hc1 (fun i hi e => HIA.out.two j hjl (j := i) (Or.inl (by rw [e]; exact HXE.out)) hi)
    have hz1 := hc1.size
    have HPK1 := hide hpk1
    have HC1 := hide hc1
    have HLV1 := hide hlv1
    have HRP1 := hide hrp1
    obtain ⟨o0, o1, o2, o3, o4⟩ := op_block hop1
    obtain ⟨p0, p1⟩ := pair_blk hpp1
    have hrr := rResize_ok _ _ _ _ _ _ n _ hrp1 hn (by omega)
    rw [← HPE.out] at hrr
    have HRR := hide hrr
    clear hpk1 hc1 hlv1 hop1 hpp1 hrp1 hrr HRZ
    go_wp2_with fail
    refine HRR.out.mono ?_
    rintro e w2 ⟨rfl, bv2, hrp2, hc2, hbv2⟩
    have hpk2 : PkS w2 prs[j].xb cs1 prs[j].tv lv1 (prs[j].pk.resize n) := by
      have hpk1 := HPK1.out
      rw [HXE.out] at hpk1
      have hF : ∀ i, (i = prs[j].xb ∨ prs[j].tv.ownBlock = some i ∨ lv1.ownBlock = some i) → ¬ (i = pb ∨ prs[j].bv.ownBlock = some i) := by
        have hrpF : ∀ i, (i = pb ∨ prs[j].bv.ownBlock = some i) → (rpOb prs[j]).F i := fun i hi => by
          rcases hi with e | e
          · exact Or.inl (by rw [e]; exact HPE.out)
          · exact Or.inr (Or.inr e)
        rintro i hi hi2
        rcases hi with e | e | e
        · exact HIA.out.two j hjl (j := i) (Or.inl e) (hrpF i hi2)
        · exact HIA.out.two j hjl (j := i) (Or.inr (Or.inl e)) (hrpF i hi2)
        · have h1 := HLV1.out i e
          have h2 := HIA.out.sep.lt (o := rpOb prs[j]) (PInvX.mem2 HRJ.out).2 (hrpF i hi2)
          omega
      exact ⟨hpk1.st.chg hc2 (hF _ (Or.inl rfl)) (fun i hi => hF i (Or.inr (Or.inl hi))), hpk1.c3, owns_chg hpk1.row hc2 (fun i hi => hF i (Or.inr (Or.inr hi))), hpk1.few, hpk1.ok⟩
    have hpke : prs[j].pk.resize n = (⟨prs[j].xb, cs1, prs[j].tv, lv1, prs[j].pb, prs[j].av, bv2, prs[j].log, prs[j].lim, prs[j].told ++ [n]⟩ : PkR).pk := wait_resize _ _ _ _
    rw [hpke] at hpk2
    have hc12 : Chg (fun i => i = xb ∨ (i = pb ∨ prs[j].bv.ownBlock = some i)) wa w2 := (HC1.out.mono fun i _ e => Or.inl e).trans (hc2.mono fun i _ e => Or.inr (Or.inr e))
    rw [HPE.out] at hrp2
    have hnx := pinv_turn (r := ⟨prs[j].xb, cs1, prs[j].tv, lv1, prs[j].pb, prs[j].av, bv2, prs[j].log, prs[j].lim, prs[j].told ++ [n]⟩) HIA.out j hjl rfl rfl hc12 (by
        rintro i (e | e | e)
        · exact Or.inl (Or.inl (by rw [e]; exact HXE.out))
        · exact Or.inr (Or.inl (by rw [e]; exact HPE.out))
        · exact Or.inr (Or.inr (Or.inr e))) hpk2 hrp2 (by
        rintro i (e | e | e)
        · exact Or.inl (Or.inl e)
        · exact Or.inl (Or.inr (Or.inl e))
        · exact Or.inr (HLV1.out i e)) (by
        rintro i (e | e | e)
        · exact Or.inl (Or.inl e)
        · exact Or.inl (Or.inr (Or.inl e))
        · rcases hbv2 i e with f | f
          · exact Or.inl (Or.inr (Or.inr f))
          · exact Or.inr (by omega)) (by
        rintro i hi (e | e | e) (f | f | f)
        · have h1 := HIA.out.sep.lt (o := pkOb prs[j]) (PInvX.mem2 HRJ.out).1 (Or.inl e); omega
        · have h1 := HIA.out.sep.lt (o := pkOb prs[j]) (PInvX.mem2 HRJ.out).1 (Or.inl e); omega
        · have h1 := HIA.out.sep.lt (o := pkOb prs[j]) (PInvX.mem2 HRJ.out).1 (Or.inl e); omega
        · have h1 := HIA.out.sep.lt (o := pkOb prs[j]) (PInvX.mem2 HRJ.out).1 (Or.inr (Or.inl e)); omega
        · have h1 := HIA.out.sep.lt (o := pkOb prs[j]) (PInvX.mem2 HRJ.out).1 (Or.inr (Or.inl e)); omega
        · have h1 := HIA.out.sep.lt (o := pkOb prs[j]) (PInvX.mem2 HRJ.out).1 (Or.inr (Or.inl e)); omega
        · have h1 := HIA.out.sep.lt (o := rpOb prs[j]) (PInvX.mem2 HRJ.out).2 (Or.inl f); omega
        · have h1 := HIA.out.sep.lt (o := rpOb prs[j]) (PInvX.mem2 HRJ.out).2 (Or.inr (Or.inl f)); omega
        · have h1 : lv1.ownBlock = some i := e
          have h2 : bv2.ownBlock = some i := f
          have h3 := owns_lt HPK1.out.row h1
          rcases hbv2 i h2 with g | g
          · have h4 := HIA.out.sep.lt (o := rpOb prs[j]) (PInvX.mem2 HRJ.out).2 (Or.inr (Or.inr g)); omega
          · omega) (N + 1) (by omega) ⟨by have := hlog.1; show prs[j].log.length ≤ _; omega, by have := hlog.2; show (prs[j].told ++ [n]).length ≤ _; simp; omega⟩
    have HNX := hide hnx
    clear hrp2 hc2 hbv2 hpk2 hpke hc12 hnx
    go_wp2_with fail
    refine (num_any 0 _).mono ?_
    rintro e w' ⟨rfl, hw'⟩
    rw [hw']
    clear hw' w'
    go_wp2
    go_ret
    exact ⟨rfl, _, HNX.out⟩

set_option maxRecDepth 100000 in
set_option maxHeartbeats 3200000 in
theorem packs_nohead {Y : List Ob} (W0 V0 : World) (b N : Nat) (gF gC : Value) (gS : GX) (pv sv kv : Value) (sh : Option Addr) (ch : Nat) (prs : List PkR) (bls : List ByteArray) (recs : List RecB) (A B' C : Int) (S : ByteArray) (w : World) (hI : PInvX W0 V0 w b gF (.slice sh 0 ch) gC gS pv sv kv prs bls recs N Y) (hN : N ≤ 16777216) (hA : I64 A) (h0 : 0 < prs.length) :
    Calls Tryz.prog 11 #[.pointer (some ⟨b, 0, none⟩), .agg #[.int .i64 6, .int .i64 A, .int .i64 B', .int .i64 C, .string S]] w fun e w' => e = .returned (.bool true) ∧ Below w.heap.size w w' := by
  obtain ⟨sr, cr, hpv⟩ := slice_len hI.rowP
  subst hpv
  obtain ⟨gr, hgr, hcr⟩ := slice_some hI.rowP h0
  subst hgr
  have hlt := lt_of_block hI.blk
  have hgl : gr < w.heap.size := owns_lt hI.rowP rfl
  have g5 : w.cell? ⟨b, 5, none⟩ = some (.slice (some ⟨gr, 0, none⟩) prs.length cr) := by rw [cell_of_row w b _ _ _ _ hI.blk]; rfl
  obtain ⟨j, hj, hjl⟩ := pkNat A h0
  obtain ⟨e0, e1⟩ := pkCells_get hjl
  have q0 : w.cell? ⟨gr, j * 2, none⟩ = some (.pointer (some ⟨prs[j].xb, 0, none⟩)) := by rw [hI.rowP.cellAt _ (by have := pkCells_length prs; omega)]; exact e0
  have q1 : w.cell? ⟨gr, j * 2 + 1, none⟩ = some (.pointer (some ⟨prs[j].pb, 0, none⟩)) := by rw [hI.rowP.cellAt _ (by have := pkCells_length prs; omega)]; exact e1
  have hfew := hI.few.1
  have hxl : prs[j].xb < w.heap.size := hI.sep.lt (o := pkOb prs[j]) (PInvX.mem2 (List.getElem_mem hjl)).1 (Or.inl rfl)
  have hpl : prs[j].pb < w.heap.size := hI.sep.lt (o := rpOb prs[j]) (PInvX.mem2 (List.getElem_mem hjl)).2 (Or.inl rfl)
  have hlog := hI.logs _ (List.getElem_mem hjl)
  have hIa := hI.below (atP_below w [.int .i64 6, .int .i64 A, .int .i64 B', .int .i64 C, .string S] prs[j])
  have HRJ := hide (List.getElem_mem hjl)
  have hop := atP_op w [.int .i64 6, .int .i64 A, .int .i64 B', .int .i64 C, .string S] prs[j]
  have hpp := atP_pk w [.int .i64 6, .int .i64 A, .int .i64 B', .int .i64 C, .string S] prs[j]
  have HBA := hide (atP_below w [.int .i64 6, .int .i64 A, .int .i64 B', .int .i64 C, .string S] prs[j])
  have HWA : Hid (atP w [.int .i64 6, .int .i64 A, .int .i64 B', .int .i64 C, .string S] prs[j] = ((w.alloc (.cells #[.int .i64 6, .int .i64 A, .int .i64 B', .int .i64 C, .string S] 49)).alloc (.cells #[.pointer (some ⟨prs[j].xb, 0, none⟩), .pointer (some ⟨prs[j].pb, 0, none⟩)] 112)).drew) := by show _ = _; rfl
  generalize atP w [.int .i64 6, .int .i64 A, .int .i64 B', .int .i64 C, .string S] prs[j] = wa at hIa hop hpp HBA HWA
  obtain ⟨xb, hxe⟩ : ∃ xb, xb = prs[j].xb := ⟨_, rfl⟩
  obtain ⟨pb, hpe⟩ : ∃ pb, pb = prs[j].pb := ⟨_, rfl⟩
  rw [← hxe] at q0 hxl hpp HWA
  rw [← hpe] at q1 hpl hpp HWA
  have HXE := hide hxe
  have HPE := hide hpe
  have HI := hide hI
  have HIA := hide hIa
  have HOP := hide hop
  have HPP := hide hpp
  have HJ := hide hj
  have HA := hide hA
  clear hI hIa hj hA e0 e1 hop hpp hxe hpe
  go_enter Tryz.func11, Tryz.ntmps11
  go_upto_region 11 with fail
  go_cut [9] (fun s9 wx => s9 = .pointer (some ⟨w.heap.size + 1, 0, none⟩) ∧ wx = wa)
  case first =>
    go_region_held3 (fun w' => w'.cell? ⟨b, 5, none⟩ = some (.slice (some ⟨gr, 0, none⟩) prs.length cr) ∧ w'.cell? ⟨w.heap.size, 1, none⟩ = some (.int .i64 A) ∧ w'.cell? ⟨gr, j * 2, none⟩ = some (.pointer (some ⟨xb, 0, none⟩)) ∧ w'.cell? ⟨gr, j * 2 + 1, none⟩ = some (.pointer (some ⟨pb, 0, none⟩))) (go_keep)
      (first | (go_at_call 20; refine (lpickAt A prs.length j _ h0 HA.out HJ.out).mono ?_; rintro e w' ⟨rfl, rfl⟩))
    all_goals (go_wp2_with fail; go_meet; exact ⟨rfl, HWA.out.symm⟩)
  case rest =>
    obtain ⟨rfl, hwc⟩ := hcut
    rw [hwc]
    clear hwc wc g5 q0 q1
    obtain ⟨o0, o1, o2, o3, o4⟩ := op_block HOP.out
    obtain ⟨p0, p1⟩ := pair_blk HPP.out
    have hsz := lt_of_block HPP.out
    have g1 : wa.cell? ⟨b, 1, none⟩ = some (.slice sh 0 ch) := by rw [cell_of_row wa b _ _ _ _ HIA.out.blk]; rfl
    go_wp2
    go_ret
    exact ⟨rfl, HBA.out⟩
end Go.Proofs.YtghongdbohjaaaaGreatDoor
