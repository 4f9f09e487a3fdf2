import Derived.Test.YtghongdbohjaaaaGreatDoorUGar
set_option linter.unusedVariables false
set_option linter.unusedSimpArgs false
/-
  (*sluicelaw.World).unpacks, at KUnpack and KPass.
-/
namespace Go.Proofs.YtghongdbohjaaaaGreatDoor
set_option linter.unusedVariables false
set_option linter.unusedSimpArgs false
open Go.RowKit

def textOb (g : Nat) (l : List UInt8) : Ob where
  P := fun w => w.heap[g]? = some (.cells (lentL l).toArray 5 (0, 0))
  F := fun j => j = g
  lt := fun w j h hj => by rw [hj]; exact lt_of_block h
  chg := fun S w w' h hc hs => by rw [hc.block _ (lt_of_block h) (hs _ rfl)]; exact h

/-- What the script hands to Unpack. -/
def TextIs (kd B' : Int) (S : ByteArray) (bls : List ByteArray) (T : ByteArray) : Prop := (kd = 9 ∧ T = S) ∨ (kd = 10 ∧ 0 < bls.length ∧ ∃ i : Nat, pkI B' bls.length = (i : Int) ∧ ∃ h : i < bls.length, T = bls[i])

set_option maxRecDepth 100000 in
set_option maxHeartbeats 6400000 in
theorem unpacks_text {Z : List Ob} (W0 V0 : World) (b N : Nat) (gF gH gC gS uv hv pv sv kv : Value) (prs : List PkR) (bls : List ByteArray) (recs : List RecB) (us : List UkR) (hrs : List HRec) (kd A B' C : Int) (S T : ByteArray) (w : World) (hI : UInv W0 V0 w b gF gH gC gS uv hv pv sv kv prs bls recs us hrs N Z) (hgl : Gl W0) (hN : N + 1 ≤ 16777216) (hA : I64 A) (hB : I64 B') (h0 : 0 < us.length) (hkd : TextIs kd B' S bls T) (hT : T.size ≤ 1048576) :
    Calls Tryz.prog 12 #[.pointer (some ⟨b, 0, none⟩), .agg #[.int .i64 kd, .int .i64 A, .int .i64 B', .int .i64 C, .string S]] w fun e w' => e = .returned (.bool true) ∧ ∃ hv' us' hrs', UInv W0 V0 w' b gF gH gC gS uv hv' pv sv kv prs bls recs us' hrs' (N + 1) Z := by
  have HGL := hide hgl
  have HBI := hide hB
  clear hgl hB
  have k8 : (kd == 8) = false := by rw [beq_eq_false_iff_ne]; rcases hkd with h | h <;> omega
  have k11 : (kd == 11) = false := by rw [beq_eq_false_iff_ne]; rcases hkd with h | h <;> omega
  obtain ⟨l, hTl⟩ : ∃ l : List UInt8, T = ⟨l.toArray⟩ := ⟨T.data.toList, by simp⟩
  have hll : l.length ≤ 1048576 := by rw [hTl] at hT; simpa [ByteArray.size] using hT
  obtain ⟨sr, cr, hpv⟩ := slice_len hI.rowU
  subst hpv
  obtain ⟨gr, hgr, hcr⟩ := slice_some hI.rowU h0
  subst hgr
  have hlt := lt_of_block hI.p.blk
  have hgl : gr < w.heap.size := owns_lt hI.rowU rfl
  have g6 : w.cell? ⟨b, 6, none⟩ = some (.slice (some ⟨gr, 0, none⟩) us.length cr) := by rw [cell_of_row w b _ _ _ _ hI.p.blk]; rfl
  obtain ⟨j, hj, hjl⟩ := pkNat A h0
  obtain ⟨e0, e1⟩ := ukCells_get hjl
  have q0 : w.cell? ⟨gr, j * 2, none⟩ = some (.pointer (some ⟨us[j].xb, 0, none⟩)) := by rw [hI.rowU.cellAt _ (by have := ukCells_length us; omega)]; exact e0
  have q1 : w.cell? ⟨gr, j * 2 + 1, none⟩ = some (.pointer (some ⟨us[j].ub, 0, none⟩)) := by rw [hI.rowU.cellAt _ (by have := ukCells_length us; omega)]; exact e1
  have hfew := hI.few.1
  have hfewH := hI.few.2
  have hfewB := hI.p.few.2.1
  have hxl : us[j].xb < w.heap.size := hI.p.x_lt (o := xuOb us[j]) (UInv.mem2 (List.getElem_mem hjl)).1 (Or.inl rfl)
  have hpl : us[j].ub < w.heap.size := hI.p.x_lt (o := unOb us[j]) (UInv.mem2 (List.getElem_mem hjl)).2 (Or.inl rfl)
  have HXF : Hid (∀ i, (xuOb us[j]).F i → i < w.heap.size) := fun i hi => hI.p.x_lt (o := xuOb us[j]) (UInv.mem2 (List.getElem_mem hjl)).1 hi
  have hIa := hI.below (atU_below w [.int .i64 kd, .int .i64 A, .int .i64 B', .int .i64 C, .string S] us[j])
  have hop := atU_op w [.int .i64 kd, .int .i64 A, .int .i64 B', .int .i64 C, .string S] us[j]
  have hpp := atU_pk w [.int .i64 kd, .int .i64 A, .int .i64 B', .int .i64 C, .string S] us[j]
  have HBA := hide (atU_below w [.int .i64 kd, .int .i64 A, .int .i64 B', .int .i64 C, .string S] us[j])
  have HWA : Hid (atU w [.int .i64 kd, .int .i64 A, .int .i64 B', .int .i64 C, .string S] us[j] = ((w.alloc (.cells #[.int .i64 kd, .int .i64 A, .int .i64 B', .int .i64 C, .string S] 49)).alloc (.cells #[.pointer (some ⟨us[j].xb, 0, none⟩), .pointer (some ⟨us[j].ub, 0, none⟩)] 127)).drew) := by show _ = _; rfl
  generalize atU w [.int .i64 kd, .int .i64 A, .int .i64 B', .int .i64 C, .string S] us[j] = wa at hIa hop hpp HBA HWA
  obtain ⟨xb, hxe⟩ : ∃ xb, xb = us[j].xb := ⟨_, rfl⟩
  obtain ⟨pb, hpe⟩ : ∃ pb, pb = us[j].ub := ⟨_, rfl⟩
  rw [← hxe] at q0 hxl hpp HWA
  rw [← hpe] at q1 hpl hpp HWA
  have HXE := hide hxe
  have HPE := hide hpe
  have HI := hide hI
  have HIA := hide hIa
  have HOP := hide hop
  have HPP := hide hpp
  have HJ := hide hj
  have HA := hide hA
  have HKD := hide hkd
  have HTL := hide hTl
  clear hI hIa hj hA e0 e1 hop hpp hxe hpe hkd hTl hT
  go_enter Tryz.func12, Tryz.ntmps12
  go_upto_region 11 with fail
  go_cut [9] (fun s9 wx => s9 = .pointer (some ⟨w.heap.size + 1, 0, none⟩) ∧ wx = wa)
  case first =>
    go_region_held3 (fun w' => w'.cell? ⟨b, 6, none⟩ = some (.slice (some ⟨gr, 0, none⟩) us.length cr) ∧ w'.cell? ⟨w.heap.size, 1, none⟩ = some (.int .i64 A) ∧ w'.cell? ⟨gr, j * 2, none⟩ = some (.pointer (some ⟨xb, 0, none⟩)) ∧ w'.cell? ⟨gr, j * 2 + 1, none⟩ = some (.pointer (some ⟨pb, 0, none⟩))) (go_keep)
      (first | (go_at_call 20; refine (lpickAt A us.length j _ h0 HA.out HJ.out).mono ?_; rintro e w' ⟨rfl, rfl⟩))
    all_goals (go_wp2_with fail; go_meet; exact ⟨rfl, HWA.out.symm⟩)
  case rest =>
    obtain ⟨rfl, hwc⟩ := hcut
    rw [hwc]
    clear hwc wc g6 q0 q1
    obtain ⟨o0, o1, o2, o3, o4⟩ := op_block HOP.out
    have hsz := lt_of_block HPP.out
    have hbl := lt_of_block HIA.out.p.blk
    go_upto_if 96 with fail
    go_cut [12] (fun s12 wx => s12 = .string T ∧ UInv W0 V0 wx b gF gH gC gS (.slice (some ⟨gr, 0, none⟩) us.length cr) hv pv sv kv prs bls recs us hrs N Z ∧ Below w.heap.size w wx ∧ wx.heap[w.heap.size + 1]? = some (.cells #[.pointer (some ⟨xb, 0, none⟩), .pointer (some ⟨pb, 0, none⟩)] 127 (0, 0)))
    case first =>
      rcases HKD.out with ⟨rfl, rfl⟩ | ⟨rfl, hb0, i, hi, hil, hTi⟩
      · go_wp2_with fail
        go_meet
        exact ⟨rfl, HIA.out, HBA.out, HPP.out⟩
      · obtain ⟨ss, cs8, hsv⟩ := slice_len HIA.out.p.rowS
        subst hsv
        obtain ⟨gs, hgs, hcs8⟩ := slice_some HIA.out.p.rowS hb0
        subst hgs
        have c8 : wa.cell? ⟨b, 8, none⟩ = some (.slice (some ⟨gs, 0, none⟩) bls.length cs8) := by rw [cell_of_row wa b _ _ _ _ HIA.out.p.blk]; rfl
        have ci : wa.cell? ⟨gs, i, none⟩ = some (.string T) := by
          rw [HIA.out.p.rowS.cellAt _ (by simp [strCells]; omega)]
          simp [strCells, hil, hTi]
        have hgsl : gs < wa.heap.size := owns_lt HIA.out.p.rowS rfl
        have hz0 : ((bls.length : Int) == 0) = false := by rw [beq_eq_false_iff_ne]; omega
        have HII := hide hi
        have HI0 : Hid (UInv W0 V0 wa.drew b gF gH gC gS (.slice (some ⟨gr, 0, none⟩) us.length cr) hv pv (.slice (some ⟨gs, 0, none⟩) bls.length cs8) kv prs bls recs us hrs N Z ∧ Below w.heap.size w wa.drew) := ⟨HIA.out.below (w' := wa.drew) ⟨rfl, rfl, rfl, Nat.le_refl _, fun _ _ => rfl⟩, HBA.out.os, HBA.out.tape, HBA.out.output, HBA.out.size, HBA.out.block⟩
        have HPP0 : Hid (wa.drew.heap[w.heap.size + 1]? = some (.cells #[.pointer (some ⟨xb, 0, none⟩), .pointer (some ⟨pb, 0, none⟩)] 127 (0, 0))) := HPP.out
        clear hi hTi
        go_upto_region 20 with fail
        go_region_held3 (fun w' => w'.cell? ⟨b, 8, none⟩ = some (.slice (some ⟨gs, 0, none⟩) bls.length cs8) ∧ w'.cell? ⟨w.heap.size, 2, none⟩ = some (.int .i64 B') ∧ w'.cell? ⟨gs, i, none⟩ = some (.string T)) (go_keep)
          (first | (go_at_call 20; refine (lpickAt B' bls.length i _ hb0 HBI.out HII.out).mono ?_; rintro e w' ⟨rfl, rfl⟩))
        all_goals (go_wp2_with fail; go_meet; exact ⟨rfl, HI0.out.1, HI0.out.2, HPP0.out⟩)
    case rest =>
      obtain ⟨rfl, hI0, hB0, hpp0⟩ := hcut
      obtain ⟨w0, hw0⟩ : ∃ w0, w0 = wc := ⟨wc, rfl⟩
      subst hw0
      clear o0 o1 o2 o3 o4 HOP HPP HIA HWA HBA hsz hbl
      have HI0 := hide hI0
      have HB0 := hide hB0
      have HPP0 := hide hpp0
      have hlen := lent_any l w0 (by omega)
      rw [← HTL.out] at hlen
      have HLN := hide hlen
      have hz0 := hB0.size
      clear hI0 hB0 hpp0 hlen
      go_wp2_with fail
      refine HLN.out.mono ?_
      rintro e w1 ⟨rfl, hg1, hb1⟩
      have hz1 := hb1.size
      have hI1 := HI0.out.put hb1 (textOb w0.heap.size l) hg1 (fun j hj => Nat.le_of_eq hj.symm)
      have hpp1 := kept_told HPP0.out hb1
      obtain ⟨p0, p1⟩ := pair_blk hpp1
      have hpl1 := lt_of_block hpp1
      have hub := un_both W0 V0 b N gF gH gC gS _ hv pv sv kv prs bls recs us hrs j w0.heap.size (l.length + 4) l w1 hI1 HGL.out hN hjl hll (lent_bytes hg1 (by omega)) (fun e => by have := HXF.out _ e; omega)
      rw [← HXE.out, ← HPE.out] at hub
      have HUB := hide hub
      have HPP1 := hide hpp1
      clear hub hI1 hpp1 hg1 hb1 HLN
      go_wp2_with fail
      refine HUB.out.mono ?_
      rintro e w2 ⟨s, n, cp, c, rfl, hc2, hrest⟩
      have hpp2 : w2.heap[w.heap.size + 1]? = some (.cells #[.pointer (some ⟨xb, 0, none⟩), .pointer (some ⟨pb, 0, none⟩)] 127 (0, 0)) := by
        rw [hc2.block _ (lt_of_block HPP1.out) (fun e => by have := HXF.out _ e; omega)]; exact HPP1.out
      obtain ⟨p0, p1⟩ := pair_blk hpp2
      have hpl2 := lt_of_block hpp2
      obtain ⟨w2a, cap, hcv, hby, hlt2, hb2a⟩ := conv_in w2 l
      rw [← HTL.out] at hcv
      have HR := hide (hrest w2a w2.heap.size cap hb2a (Nat.le_refl _) hlt2 hby)
      have HPP2 := hide hpp2
      clear hrest hby hlt2 hb2a hpp2 hc2 HUB
      go_wp2_with fail
      refine HR.out.mono ?_
      rintro e w3 ⟨mv, r', hs, xs, rfl, hl1, hl2, h8, hcz, hI3⟩
      obtain ⟨sm, cm, hmv⟩ := hl2.len
      subst hmv
      obtain ⟨sl, cl, hlv⟩ := hl1.len
      simp only [Value.slice.injEq] at hlv
      obtain ⟨rfl, rfl, rfl⟩ := hlv
      have hl3 := lsameHeads_eq (.slice s hs.length cp) (.slice sm hs.length cm) hs w3 hl1 hl2 (by omega)
      have HSM := hide hl3
      have HI3 := hide hI3
      have HCZ := hide hcz
      have hblt := lt_of_block hI3.p.blk
      clear hl1 hl2 hl3 hI3 hcz HR p0 p1 hcv
      have hnil2 : ∀ w' : World, (binOp .eql 57 (.slice s hs.length cp) (.slice none 0 0)).run Tryz.prog w' = .ok (.bool s.isNone) w' := fun w' => Lib.run_eql_slice_nil w' 57 62 s _ _ _ _ Tryz.underlying57
      go_upto_region 24 with fail
      go_cut [18] (fun s18 wx => s18 = .bool true ∧ Below w3.heap.size w3 wx)
      case first =>
        go_wp2_with fail
        refine HSM.out.mono ?_
        rintro e w4 ⟨rfl, hb4⟩
        have HB4 := hide hb4
        clear hb4
        go_wp2_with fail
        refine (num_any c _).mono ?_
        rintro e w' ⟨rfl, hw'⟩
        rw [hw']
        clear hw' w'
        rcases HCZ.out with rfl | hnl
        · rcases s with - | ad
          · go_wp2_with fail
            go_meet
            exact ⟨rfl, HB4.out⟩
          · go_wp2_with fail
            go_meet
            exact ⟨rfl, HB4.out⟩
        · simp only [Value.slice.injEq] at hnl
          obtain ⟨rfl, -, -⟩ := hnl
          go_wp2_with fail
          go_meet
          exact ⟨rfl, HB4.out⟩
      case rest =>
        obtain ⟨rfl, hb4⟩ := hcut
        obtain ⟨w4, hw4⟩ : ∃ w4, w4 = wc := ⟨wc, rfl⟩
        subst hw4
        have hI4 := HI3.out.below hb4
        have hbl4 := lt_of_block hI4.p.blk
        have HK := hide (keepHeads_any b (lwP gF gH gC ⟨gS, .slice (some ⟨gr, 0, none⟩) us.length cr, hv⟩ pv sv kv) hv (.slice s hs.length cp) hs.length xs hrs 0 w4 hI4.p.blk rfl hI4.rowH hI4.extra (by omega) (by omega))
        have HI4 := hide hI4
        clear hI4 hb4 hnil2
        go_wp2_with fail
        refine HK.out.mono ?_
        rintro e w5 ⟨rfl, hk5⟩
        obtain ⟨hv', r5, hI5⟩ := HI4.out.keptH (by omega) (by omega) hk5
        have hwh := wholeBytes_any w0.heap.size l w5 (by omega) hI5.extra
        rw [← HTL.out] at hwh
        have HWH := hide hwh
        have HI5 := hide hI5
        clear hk5 hI5 hwh HK
        go_wp2_with fail
        refine HWH.out.mono ?_
        rintro e w6 ⟨rfl, hc6⟩
        have HI6 := hide (HI5.out.off hc6 (fun i hi => hi))
        clear hc6
        go_wp2
        go_ret
        exact ⟨rfl, hv', _, _, HI6.out⟩

set_option maxRecDepth 100000 in
set_option maxHeartbeats 3200000 in
theorem unpacks_nobl {Z : List Ob} (W0 V0 : World) (b N : Nat) (gF gH gC gS uv hv pv sv kv : Value) (prs : List PkR) (recs : List RecB) (us : List UkR) (hrs : List HRec) (A B' C : Int) (S : ByteArray) (w : World) (hI : UInv W0 V0 w b gF gH gC gS uv hv pv sv kv prs [] recs us hrs N Z) (hN : N ≤ 16777216) (hA : I64 A) (h0 : 0 < us.length) :
    Calls Tryz.prog 12 #[.pointer (some ⟨b, 0, none⟩), .agg #[.int .i64 10, .int .i64 A, .int .i64 B', .int .i64 C, .string S]] w fun e w' => e = .returned (.bool true) ∧ Below w.heap.size w w' := by
  obtain ⟨sr, cr, hpv⟩ := slice_len hI.rowU
  subst hpv
  obtain ⟨gr, hgr, hcr⟩ := slice_some hI.rowU h0
  subst hgr
  obtain ⟨ss, cs8, hsv⟩ := slice_len hI.p.rowS
  subst hsv
  have hlt := lt_of_block hI.p.blk
  have hgl : gr < w.heap.size := owns_lt hI.rowU rfl
  have g6 : w.cell? ⟨b, 6, none⟩ = some (.slice (some ⟨gr, 0, none⟩) us.length cr) := by rw [cell_of_row w b _ _ _ _ hI.p.blk]; rfl
  obtain ⟨j, hj, hjl⟩ := pkNat A h0
  obtain ⟨e0, e1⟩ := ukCells_get hjl
  have q0 : w.cell? ⟨gr, j * 2, none⟩ = some (.pointer (some ⟨us[j].xb, 0, none⟩)) := by rw [hI.rowU.cellAt _ (by have := ukCells_length us; omega)]; exact e0
  have q1 : w.cell? ⟨gr, j * 2 + 1, none⟩ = some (.pointer (some ⟨us[j].ub, 0, none⟩)) := by rw [hI.rowU.cellAt _ (by have := ukCells_length us; omega)]; exact e1
  have hfew := hI.few.1
  have hxl : us[j].xb < w.heap.size := hI.p.x_lt (o := xuOb us[j]) (UInv.mem2 (List.getElem_mem hjl)).1 (Or.inl rfl)
  have hpl : us[j].ub < w.heap.size := hI.p.x_lt (o := unOb us[j]) (UInv.mem2 (List.getElem_mem hjl)).2 (Or.inl rfl)
  have hIa := hI.below (atU_below w [.int .i64 10, .int .i64 A, .int .i64 B', .int .i64 C, .string S] us[j])
  have hop := atU_op w [.int .i64 10, .int .i64 A, .int .i64 B', .int .i64 C, .string S] us[j]
  have hpp := atU_pk w [.int .i64 10, .int .i64 A, .int .i64 B', .int .i64 C, .string S] us[j]
  have HBA := hide (atU_below w [.int .i64 10, .int .i64 A, .int .i64 B', .int .i64 C, .string S] us[j])
  have HWA : Hid (atU w [.int .i64 10, .int .i64 A, .int .i64 B', .int .i64 C, .string S] us[j] = ((w.alloc (.cells #[.int .i64 10, .int .i64 A, .int .i64 B', .int .i64 C, .string S] 49)).alloc (.cells #[.pointer (some ⟨us[j].xb, 0, none⟩), .pointer (some ⟨us[j].ub, 0, none⟩)] 127)).drew) := by show _ = _; rfl
  generalize atU w [.int .i64 10, .int .i64 A, .int .i64 B', .int .i64 C, .string S] us[j] = wa at hIa hop hpp HBA HWA
  obtain ⟨xb, hxe⟩ : ∃ xb, xb = us[j].xb := ⟨_, rfl⟩
  obtain ⟨pb, hpe⟩ : ∃ pb, pb = us[j].ub := ⟨_, rfl⟩
  rw [← hxe] at q0 hxl hpp HWA
  rw [← hpe] at q1 hpl hpp HWA
  have HIA := hide hIa
  have HOP := hide hop
  have HPP := hide hpp
  have HJ := hide hj
  have HA := hide hA
  clear hI hIa hj hA e0 e1 hop hpp hxe hpe
  go_enter Tryz.func12, Tryz.ntmps12
  go_upto_region 11 with fail
  go_cut [9] (fun s9 wx => s9 = .pointer (some ⟨w.heap.size + 1, 0, none⟩) ∧ wx = wa)
  case first =>
    go_region_held3 (fun w' => w'.cell? ⟨b, 6, none⟩ = some (.slice (some ⟨gr, 0, none⟩) us.length cr) ∧ w'.cell? ⟨w.heap.size, 1, none⟩ = some (.int .i64 A) ∧ w'.cell? ⟨gr, j * 2, none⟩ = some (.pointer (some ⟨xb, 0, none⟩)) ∧ w'.cell? ⟨gr, j * 2 + 1, none⟩ = some (.pointer (some ⟨pb, 0, none⟩))) (go_keep)
      (first | (go_at_call 20; refine (lpickAt A us.length j _ h0 HA.out HJ.out).mono ?_; rintro e w' ⟨rfl, rfl⟩))
    all_goals (go_wp2_with fail; go_meet; exact ⟨rfl, HWA.out.symm⟩)
  case rest =>
    obtain ⟨rfl, hwc⟩ := hcut
    rw [hwc]
    clear hwc wc g6 q0 q1
    obtain ⟨o0, o1, o2, o3, o4⟩ := op_block HOP.out
    have hsz := lt_of_block HPP.out
    have hbl := lt_of_block HIA.out.p.blk
    have c8 : wa.cell? ⟨b, 8, none⟩ = some (.slice ss 0 cs8) := by rw [cell_of_row wa b _ _ _ _ HIA.out.p.blk]; rfl
    go_wp2
    go_ret
    exact ⟨rfl, HBA.out⟩
end Go.Proofs.YtghongdbohjaaaaGreatDoor
