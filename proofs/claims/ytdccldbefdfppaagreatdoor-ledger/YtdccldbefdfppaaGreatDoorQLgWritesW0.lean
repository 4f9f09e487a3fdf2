import Derived.Test.YtdccldbefdfppaaGreatDoorQLgWrites
import Derived.BigRegion
set_option linter.unusedVariables false
set_option linter.unusedSimpArgs false
/-
  Ledger: writes, w0.
-/
namespace Go.Proofs.YtdccldbefdfppaaGreatDoor
set_option linter.unusedVariables false
set_option linter.unusedSimpArgs false
open Go.RowKit

set_option maxRecDepth 100000 in
set_option maxHeartbeats 12800000 in
theorem lwrites_w0 (ab eb : Nat) (G : Nat → Prop) (a : LAcc) (p : GEnd) (K S N : Int) (T : List UInt8) (w : World) (h : LS w ab eb G a p) (hc : LCalm a p) (hS : I64 S) (hKi : I64 K) (hk : pkI K 7 = 3) (he : a.fl ≠ []) (i : Nat) (x : LFlow) (hi : pkI S (a.fl.length : Int) = i) (hx : a.fl[i]? = some x) (hcl : x.closed = false) (hTl : T.length ≤ 140737488355328) :
    Calls Tryz.prog 9 #[.pointer (some ⟨ab, 0, none⟩), .agg #[.int .i64 K, .int .i64 S, .int .i64 N, .string ⟨T.toArray⟩]] w fun e w' => LMoved w w' ab eb G e := by
  obtain ⟨F, fv, hin, hG⟩ := h
  have hfl0 : 0 < a.fl.length := List.length_pos_iff.2 he
  have hp2 := fun wx => kpick_fun K 7 wx (by omega) hKi
  rw [hk] at hp2
  have HP2 := hide hp2
  have hp3 := fun wx => kpick_fun S (a.fl.length : Int) wx (by omega) hS
  rw [hi] at hp3
  have hlt : i < a.fl.length := (List.getElem?_eq_some_iff.1 hx).1
  have hbd := hc.rel.bd
  have hmf := hbd.fl x (List.mem_of_getElem? hx)
  have b8 := hbd.n
  have hlK : i < p.K.length := by rw [← hc.rel.len]; exact hlt
  have hsK : p.K[i]? = some p.K[i] := List.getElem?_eq_getElem hlK
  have hsm : p.K[i] ∈ p.K := List.getElem_mem hlK
  obtain ⟨s, hse⟩ : ∃ s, s = p.K[i] := ⟨_, rfl⟩
  rw [← hse] at hsK hsm
  clear hse
  have hFS := hc.rel.fs i x s hx hsK
  obtain ⟨w0, hw0⟩ : ∃ w0, w0 = w.alloc (.cells #[.int .i64 K, .int .i64 S, .int .i64 N, .string ⟨T.toArray⟩] 35) := ⟨_, rfl⟩
  have hmb0 : w0.heap[w.heap.size]? = some (.cells #[.int .i64 K, .int .i64 S, .int .i64 N, .string ⟨T.toArray⟩] 35 (0, 0)) := by rw [hw0]; exact heap_alloc_new w _
  have hb0 : Below w.heap.size w w0 := by rw [hw0]; exact (Below.refl _ _).alloc (Nat.le_refl _) _
  have hin0 := hin.below hb0
  obtain ⟨r0, r1, r2, r3⟩ := move_cells hmb0
  have r1d : w0.drew.cell? ⟨w.heap.size, 1, none⟩ = some (.int .i64 S) := r1
  obtain ⟨g, cap, hFA⟩ := hin0.fl.at hx
  have hfveq : fv = .slice (some ⟨g, 0, none⟩) a.fl.length cap := hFA.eq
  have s5 : w0.cell? ⟨ab, 5, none⟩ = some (.slice (some ⟨g, 0, none⟩) a.fl.length cap) := by rw [hin0.ac.c5, hfveq]
  have s5d : w0.drew.cell? ⟨ab, 5, none⟩ = some (.slice (some ⟨g, 0, none⟩) a.fl.length cap) := s5
  have HP3 := hide (hp3 w0.drew)
  obtain ⟨V1, hV1⟩ : ∃ V1, V1 = w0.drew := ⟨_, rfl⟩
  have hb1 : Below w.heap.size w V1 := by rw [hV1]; exact hb0.drew
  have hin1 := hin.below hb1
  have hmb1 : V1.heap[w.heap.size]? = some (.cells #[.int .i64 K, .int .i64 S, .int .i64 N, .string ⟨T.toArray⟩] 35 (0, 0)) := by rw [hV1]; exact hmb0
  have hF1 := hin1.fl.cells hfveq hx
  have v5 : V1.cell? ⟨ab, 5, none⟩ = some (.slice (some ⟨g, 0, none⟩) a.fl.length cap) := by rw [hin1.ac.c5, hfveq]
  have q0 := hF1.f0
  have q1 := hF1.f1
  have q2 : V1.cell? ⟨g, i * 6 + 2, none⟩ = some (.string ⟨x.wr.toArray⟩) := hF1.f2
  have q3 := hF1.f3
  have q4 := hF1.f4
  have q5 := hF1.f5
  rw [hcl] at q4
  obtain ⟨W2, hW2⟩ : ∃ W2, W2 = V1.alloc (.cells #[.int .i64 x.s, .int .i64 x.credit, .string ⟨x.wr.toArray⟩, .int .i64 x.sent, .bool false, .bool x.over] 56) := ⟨_, rfl⟩
  have hxb2 : W2.heap[V1.heap.size]? = some (.cells #[.int .i64 x.s, .int .i64 x.credit, .string ⟨x.wr.toArray⟩, .int .i64 x.sent, .bool false, .bool x.over] 56 (0, 0)) := by rw [hW2]; exact heap_alloc_new V1 _
  have hb12 : Below V1.heap.size V1 W2 := by rw [hW2]; exact (Below.refl _ _).alloc (Nat.le_refl _) _
  have hb2 : Below w.heap.size w W2 := hb1.trans (hb12.mono hb1.size)
  have hin2 := hin.below hb2
  have hmb2 := kept_told hmb1 hb12
  obtain ⟨m0, m1, m2, m3⟩ := move_cells hmb2
  have y0 : W2.cell? ⟨ab, 0, none⟩ = some (.pointer (some ⟨eb, 0, none⟩)) := hin2.ac.c0
  have y1 : W2.cell? ⟨V1.heap.size, 0, none⟩ = some (.int .i64 x.s) := by rw [cell_of_row _ _ _ _ _ _ hxb2]; rfl
  have y0d : W2.drew.cell? ⟨ab, 0, none⟩ = some (.pointer (some ⟨eb, 0, none⟩)) := y0
  have y1d : W2.drew.cell? ⟨V1.heap.size, 0, none⟩ = some (.int .i64 x.s) := y1
  have HXL : Hid (V1.heap.size < W2.heap.size) := lt_of_block hxb2
  have HNX : Hid (∀ j, LFoot ab F fv j → j < V1.heap.size) := fun j hj => hin1.foot_lt hj
  have HML : Hid (w.heap.size < W2.heap.size ∧ ∀ j, LFoot ab F fv j → j < w.heap.size) := ⟨lt_of_block hmb2, fun j hj => hin.foot_lt hj⟩
  have HXB2 := hide hxb2
  have HMB2 := hide hmb2
  have HIN2 := hide hin2
  have HB2 := hide hb2
  have HW0 := hide hw0
  have HW2 := hide hW2
  have HV1 := hide hV1
  have HG := hide hG
  have HX := hide hx
  have HFV := hide hfveq
  have HC := hide hc
  have HF := hide hFS
  have HSK := hide hsK
  have HSM := hide hsm
  have hl0 : ((a.fl.length : Int) == 0) = false := by simp; omega
  have i1 : (0 : Int) ≤ (i : Int) := by omega
  have i2 : (i : Int) < (a.fl.length : Int) := by omega
  obtain ⟨wC, capC, hconv0, hbyC0, hbC⟩ := conv_text W2.drew T
  have hconv : (convert 9 44 (.string ⟨T.toArray⟩)).run Tryz.prog W2.drew = .ok (.slice (some ⟨W2.heap.size, 0, none⟩) T.length capC) wC := hconv0
  have hb2C : Below W2.heap.size W2 wC := (show Below W2.heap.size W2 W2.drew from (Below.refl _ _).drew).trans hbC
  have hinC := hin2.below hb2C
  have xC0 : wC.cell? ⟨ab, 0, none⟩ = some (.pointer (some ⟨eb, 0, none⟩)) := hinC.ac.c0
  have hxbC := kept_told hxb2 hb2C
  have xC1 : wC.cell? ⟨V1.heap.size, 0, none⟩ = some (.int .i64 x.s) := by rw [cell_of_row _ _ _ _ _ _ hxbC]; rfl
  have m3d : W2.drew.cell? ⟨w.heap.size, 3, none⟩ = some (.string ⟨T.toArray⟩) := m3
  have HWR := hide (c_write_big (s := s) (b := T) (sb := some ⟨W2.heap.size, 0, none⟩) (cb := capC) hinC.st hsm hc.rel.e.live hc.rel.e.got hFS.res hFS.last (by rw [hFS.shut]; exact hcl) hFS.w100 hbyC0 hTl)
  rw [hFS.num] at HWR
  have HBC := hide hb2C
  obtain ⟨r, hr⟩ : ∃ r, r = roomN T.length s.wa.length := ⟨_, rfl⟩
  rw [← hr] at HWR
  have hwl : s.wa.length = x.wr.length - x.sent := by rw [hFS.wa, List.length_drop]
  have hw100 := hFS.w100
  have hrr : r = min T.length (100 - (x.wr.length - x.sent)) := by rw [hr, hwl]; rfl
  rw [hwl] at hw100
  have HRE := hide hr
  have HRR := hide hrr
  clear hrr
  clear hconv0 hbyC0 hbC hb2C hinC hxbC hr hwl
  clear hin hG hc hmb0 hmb1 hmb2 hb0 hb1 hb12 hb2 hin0 hin1 hin2 hw0 hW2 hV1 hp2 hp3 hk hKi hS hbd hFA hfveq hF1 hx hi he hfl0 hxb2 hFS hsK hsm hlK
  go_enter Tryz.func9, Tryz.ntmps9
  go_upto_region 1 with fail
  rw [← HW0.out]
  go_upto_region 3 with fail
  go_cut [5] (fun s5 wx => s5 = .int .i64 (i : Int) ∧ wx = V1)
  case first =>
    go_region_law (refine step_call rfl 5 Tryz.f5 Tryz.func5 (by kernel_rfl) rfl [.tmp 19, .tmp 24] #[3, 3] rfl [.int .i64 S, .int .i64 (a.fl.length : Int)] (by simp [Act.eval, Act.put]) HP3.out ?_; rintro e w3 ⟨rfl, hw3⟩; refine ⟨_, rfl, ?_⟩; rw [hw3, ← HV1.out]; clear hw3 w3)
    all_goals (go_wp2_with fail; go_meet; exact ⟨rfl, rfl⟩)
  case rest =>
    obtain ⟨hs, hw⟩ := hcut
    subst hs
    rw [hw]
    clear hw r0 r1 r2 r3 r1d s5 s5d
    go_upto_region 5 with fail
    rw [← HW2.out]
    clear q0 q1 q2 q3 q4 q5 v5
    go_wp2_with fail
    refine (HP2.out _).mono ?_
    rintro e w' ⟨rfl, hw'⟩
    rw [hw']
    clear hw' w'
    go_upto_region 10 with fail
    have hszT : (ByteArray.mk T.toArray).size = T.length := by simp [ByteArray.size]
    have hsz : (ByteArray.mk x.wr.toArray).size = x.wr.length := by simp [ByteArray.size]
    have hcat : (ByteArray.mk x.wr.toArray) ++ (ByteArray.mk T.toArray).extract 0 r = ByteArray.mk (x.wr ++ T.take r).toArray := by
      have h1 : (ByteArray.mk T.toArray).extract 0 r = ByteArray.mk (T.take r).toArray := by
        have := extract_l T 0 r
        simpa using this
      rw [h1]
      apply ByteArray.ext
      simp
    have HCAT := hide hcat
    clear hcat
    obtain ⟨TS, hTS⟩ : ∃ TS, TS = ByteArray.mk T.toArray := ⟨_, rfl⟩
    obtain ⟨XS, hXS⟩ : ∃ XS, XS = ByteArray.mk x.wr.toArray := ⟨_, rfl⟩
    rw [← hTS, ← hXS] at HCAT
    rw [← hTS] at hszT hconv HMB2
    rw [← hXS] at hsz HXB2
    rw [← hTS] at m3 m3d
    clear hTS hXS
    go_cut [9, 10] (fun s9 s10 wx => s9 = .int .i64 (r : Int) ∧ s10 = .int .i64 0 ∧ GoE wC wx eb F { p with K := updN x.s (fun s => s.wrote T) p.K })
    case first =>
      go_region_with (first
        | (go_at_call 21; refine HWR.out.mono ?_; rintro e w3 ⟨rfl, hgo⟩; have HGO := hide hgo; clear hgo))
      all_goals (go_wp2_with fail; go_meet; exact ⟨rfl, rfl, HGO.out⟩)
    case rest =>
      obtain ⟨h9, h10, hgo⟩ := hcut
      subst h9 h10
      obtain ⟨w3, hw3⟩ : ∃ w3, w3 = wc := ⟨wc, rfl⟩
      rw [← hw3] at hgo ⊢
      clear hw3
      obtain ⟨F3, hin3, hc3, hg3⟩ := (HIN2.out.below HBC.out).go hgo
      have hF3 := hin3.fl.cells HFV.out HX.out
      have hxb3 : w3.heap[V1.heap.size]? = some (.cells #[.int .i64 x.s, .int .i64 x.credit, .string XS, .int .i64 x.sent, .bool false, .bool x.over] 56 (0, 0)) := by
        rw [hc3.block V1.heap.size (Nat.lt_of_lt_of_le HXL.out HBC.out.size) (fun hf => by have := HNX.out _ (Or.inr (Or.inr hf)); omega), HBC.out.block _ HXL.out]
        exact HXB2.out
      have hmb3 : w3.heap[w.heap.size]? = some (.cells #[.int .i64 K, .int .i64 S, .int .i64 N, .string TS] 35 (0, 0)) := by
        rw [hc3.block w.heap.size (Nat.lt_of_lt_of_le HML.out.1 HBC.out.size) (fun hf => by have := HML.out.2 _ (Or.inr (Or.inr hf)); omega), HBC.out.block _ HML.out.1]
        exact HMB2.out
      obtain ⟨-, -, -, n3⟩ := move_cells hmb3
      have z2 : w3.cell? ⟨V1.heap.size, 2, none⟩ = some (.string XS) := by rw [cell_of_row _ _ _ _ _ _ hxb3]; rfl
      have z3 : w3.cell? ⟨V1.heap.size, 3, none⟩ = some (.int .i64 x.sent) := by rw [cell_of_row _ _ _ _ _ _ hxb3]; rfl
      have z4 : w3.cell? ⟨V1.heap.size, 4, none⟩ = some (.bool false) := by rw [cell_of_row _ _ _ _ _ _ hxb3]; rfl
      have t5 : w3.cell? ⟨ab, 5, none⟩ = some (.slice (some ⟨g, 0, none⟩) a.fl.length cap) := by rw [hin3.ac.c5, HFV.out]
      have tf2 := hF3.f2
      have tfr := hF3.fr (i * 6 + 2)
      have n3d : w3.drew.cell? ⟨w.heap.size, 3, none⟩ = some (.string TS) := n3
      have z2d : w3.drew.cell? ⟨V1.heap.size, 2, none⟩ = some (.string XS) := z2
      have t5d : w3.drew.cell? ⟨ab, 5, none⟩ = some (.slice (some ⟨g, 0, none⟩) a.fl.length cap) := t5
      have tf2d : w3.drew.cell? ⟨g, i * 6 + 2, none⟩ = some (lstr x.wr) := tf2
      have tfrd : w3.drew.frozen? ⟨g, i * 6 + 2, none⟩ = false := tfr
      obtain ⟨W4, hW4⟩ : ∃ W4, W4 = w3.setCell ⟨g, i * 6 + 2, none⟩ (.string (XS ++ TS.extract 0 r)) := ⟨_, rfl⟩
      have hin4 : LIn W4 ab eb F3 fv { a with fl := a.fl.set i { x with wr := x.wr ++ T.take r } } { p with K := updN x.s (fun s => s.wrote T) p.K } := by
        rw [hW4, HCAT.out]
        exact hin3.writeF (x' := { x with wr := x.wr ++ T.take r }) HX.out HFV.out (f := 2) (by omega) (by simp [LFlow.cells, lstr]) rfl
      have HEND : Hid (LMoved w W4.drew ab eb G (.returned (.bool true))) := by
        have hrel := HC.out.rel.writes HX.out HSK.out hcl T
        rw [HF.out.num, ← HRE.out] at hrel
        refine ⟨rfl, _, _, GoL.of HG.out hin4.drew ?_ ?_, ⟨hrel, HC.out.out, by show p.ans.length ≤ 8; rw [HC.out.ans]; decide⟩⟩
        · have c1 : Chg (LFoot ab F fv) w wC := Chg.of_below (HB2.out.trans (HBC.out.mono HB2.out.size))
          have c2 : Chg (LFoot ab F fv) w w3 := c1.trans (hc3.mono fun j _ e => Or.inr (Or.inr (Or.inr e)))
          rw [hW4]
          exact (chg_set c2 (Or.inr (Or.inl (by rw [HFV.out]; rfl)))).drew
        · intro j hj
          rcases hj with e | e | e
          · exact Or.inl (Or.inl e)
          · exact Or.inl (Or.inr (Or.inl e))
          · rcases hg3 j e with b | b
            · exact Or.inl (Or.inr (Or.inr b))
            · exact Or.inr (Nat.le_trans (Nat.le_trans HB2.out.size HBC.out.size) b)
      have HW4 := hide hW4
      obtain ⟨mf1, mf2, mf3, mf4⟩ := hmf
      have hrr := HRR.out
      have wz1 : IntKind.i64.wrap ((x.wr.length : Int) - (x.sent : Int)) = (x.wr.length : Int) - (x.sent : Int) := by rw [IntKind.wrap_i64]; omega
      have wz2 : IntKind.i64.wrap (100 - ((x.wr.length : Int) - (x.sent : Int))) = 100 - ((x.wr.length : Int) - (x.sent : Int)) := by rw [IntKind.wrap_i64]; omega
      have e1 : ((r : Int) < 0) = False := eq_false (by omega)
      have e2 : ((T.length : Int) < (r : Int)) = False := eq_false (by omega)
      have e3 : ((100 : Int) - ((x.wr.length : Int) - (x.sent : Int)) < (r : Int)) = False := eq_false (by omega)
      have hcs : ((r : Int) < (T.length : Int)) = False ∨ (((r : Int) < (T.length : Int)) = True ∧ ((r : Int) != 100 - ((x.wr.length : Int) - (x.sent : Int))) = false) := by
        by_cases hrt : r < T.length
        · exact Or.inr ⟨eq_true (by omega), by simp; omega⟩
        · exact Or.inl (eq_false (by omega))
      have i3 : (0 : Int) ≤ (r : Int) := by omega
      have i4 : (r : Int) ≤ (T.length : Int) := by omega
      have hszc : (x.wr.length + r : Nat) ≤ 9223372036854775807 := by omega
      clear hgo hin3 hc3 hg3 hF3 hin4 hxb3 hmb3 hW4 y0 y1 y0d y1d xC0 xC1 hconv m3 m3d m0 m1 m2 hrr
      go_upto_region 14 with fail
      go_cut [115] (fun s115 wx => s115 = .bool false ∧ wx = w3)
      case first =>
        rcases hcs with hcs | ⟨hcs, hcs2⟩
        · go_wp2_with fail
          go_meet
          exact ⟨rfl, rfl⟩
        · go_wp2_with fail
          go_meet
          first
            | exact ⟨rfl, rfl⟩
            | exact ⟨congrArg Value.bool hcs2, rfl⟩
      case rest =>
        obtain ⟨hs, hw⟩ := hcut
        subst hs
        rw [hw]
        clear hw hcs e1 e2 e3
        go_upto_region 16 with fail
        go_region
        all_goals go_upto_region 17 with fail
        all_goals rw [← HW4.out]
        all_goals go_wp2
        all_goals go_ret
        all_goals exact HEND.out
end Go.Proofs.YtdccldbefdfppaaGreatDoor
