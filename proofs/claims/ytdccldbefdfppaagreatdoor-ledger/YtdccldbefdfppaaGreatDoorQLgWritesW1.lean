import Derived.Test.YtdccldbefdfppaaGreatDoorQLgWrites
import Derived.BigRegion
set_option linter.unusedVariables false
set_option linter.unusedSimpArgs false
/-
  Ledger: writes, w1.
-/
namespace Go.Proofs.YtdccldbefdfppaaGreatDoor
set_option linter.unusedVariables false
set_option linter.unusedSimpArgs false
open Go.RowKit

set_option maxRecDepth 100000 in
set_option maxHeartbeats 12800000 in
theorem lwrites_w1 (ab eb : Nat) (G : Nat → Prop) (a : LAcc) (p : GEnd) (K S N : Int) (T : List UInt8) (w : World) (h : LS w ab eb G a p) (hc : LCalm a p) (hS : I64 S) (hKi : I64 K) (hk : pkI K 7 = 3) (he : a.fl ≠ []) (i : Nat) (x : LFlow) (hi : pkI S (a.fl.length : Int) = i) (hx : a.fl[i]? = some x) (hcl : x.closed = true) :
    Calls Tryz.prog 9 #[.pointer (some ⟨ab, 0, none⟩), .agg #[.int .i64 K, .int .i64 S, .int .i64 N, .string ⟨T.toArray⟩]] w fun e w' => LMoved w w' ab eb G e := by
  obtain ⟨F, fv, hin, hG⟩ := h
  have hfl0 : 0 < a.fl.length := List.length_pos_iff.2 he
  have hp2 := fun wx => kpick_fun K 7 wx (by omega) hKi
  rw [hk] at hp2
  have HP2 := hide hp2
  have hp3 := fun wx => kpick_fun S (a.fl.length : Int) wx (by omega) hS
  rw [hi] at hp3
  have hlt : i < a.fl.length := (List.getElem?_eq_some_iff.1 hx).1
  have hbd := hc.rel.bd
  have hmf := hbd.fl x (List.mem_of_getElem? hx)
  have b8 := hbd.n
  have hlK : i < p.K.length := by rw [← hc.rel.len]; exact hlt
  have hsK : p.K[i]? = some p.K[i] := List.getElem?_eq_getElem hlK
  have hsm : p.K[i] ∈ p.K := List.getElem_mem hlK
  obtain ⟨s, hse⟩ : ∃ s, s = p.K[i] := ⟨_, rfl⟩
  rw [← hse] at hsK hsm
  clear hse
  have hFS := hc.rel.fs i x s hx hsK
  obtain ⟨w0, hw0⟩ : ∃ w0, w0 = w.alloc (.cells #[.int .i64 K, .int .i64 S, .int .i64 N, .string ⟨T.toArray⟩] 35) := ⟨_, rfl⟩
  have hmb0 : w0.heap[w.heap.size]? = some (.cells #[.int .i64 K, .int .i64 S, .int .i64 N, .string ⟨T.toArray⟩] 35 (0, 0)) := by rw [hw0]; exact heap_alloc_new w _
  have hb0 : Below w.heap.size w w0 := by rw [hw0]; exact (Below.refl _ _).alloc (Nat.le_refl _) _
  have hin0 := hin.below hb0
  obtain ⟨r0, r1, r2, r3⟩ := move_cells hmb0
  have r1d : w0.drew.cell? ⟨w.heap.size, 1, none⟩ = some (.int .i64 S) := r1
  obtain ⟨g, cap, hFA⟩ := hin0.fl.at hx
  have hfveq : fv = .slice (some ⟨g, 0, none⟩) a.fl.length cap := hFA.eq
  have s5 : w0.cell? ⟨ab, 5, none⟩ = some (.slice (some ⟨g, 0, none⟩) a.fl.length cap) := by rw [hin0.ac.c5, hfveq]
  have s5d : w0.drew.cell? ⟨ab, 5, none⟩ = some (.slice (some ⟨g, 0, none⟩) a.fl.length cap) := s5
  have HP3 := hide (hp3 w0.drew)
  obtain ⟨V1, hV1⟩ : ∃ V1, V1 = w0.drew := ⟨_, rfl⟩
  have hb1 : Below w.heap.size w V1 := by rw [hV1]; exact hb0.drew
  have hin1 := hin.below hb1
  have hmb1 : V1.heap[w.heap.size]? = some (.cells #[.int .i64 K, .int .i64 S, .int .i64 N, .string ⟨T.toArray⟩] 35 (0, 0)) := by rw [hV1]; exact hmb0
  have hF1 := hin1.fl.cells hfveq hx
  have v5 : V1.cell? ⟨ab, 5, none⟩ = some (.slice (some ⟨g, 0, none⟩) a.fl.length cap) := by rw [hin1.ac.c5, hfveq]
  have q0 := hF1.f0
  have q1 := hF1.f1
  have q2 : V1.cell? ⟨g, i * 6 + 2, none⟩ = some (.string ⟨x.wr.toArray⟩) := hF1.f2
  have q3 := hF1.f3
  have q4 := hF1.f4
  have q5 := hF1.f5
  rw [hcl] at q4
  obtain ⟨W2, hW2⟩ : ∃ W2, W2 = V1.alloc (.cells #[.int .i64 x.s, .int .i64 x.credit, .string ⟨x.wr.toArray⟩, .int .i64 x.sent, .bool true, .bool x.over] 56) := ⟨_, rfl⟩
  have hxb2 : W2.heap[V1.heap.size]? = some (.cells #[.int .i64 x.s, .int .i64 x.credit, .string ⟨x.wr.toArray⟩, .int .i64 x.sent, .bool true, .bool x.over] 56 (0, 0)) := by rw [hW2]; exact heap_alloc_new V1 _
  have hb12 : Below V1.heap.size V1 W2 := by rw [hW2]; exact (Below.refl _ _).alloc (Nat.le_refl _) _
  have hb2 : Below w.heap.size w W2 := hb1.trans (hb12.mono hb1.size)
  have hin2 := hin.below hb2
  have hmb2 := kept_told hmb1 hb12
  obtain ⟨m0, m1, m2, m3⟩ := move_cells hmb2
  have y0 : W2.cell? ⟨ab, 0, none⟩ = some (.pointer (some ⟨eb, 0, none⟩)) := hin2.ac.c0
  have y1 : W2.cell? ⟨V1.heap.size, 0, none⟩ = some (.int .i64 x.s) := by rw [cell_of_row _ _ _ _ _ _ hxb2]; rfl
  have y0d : W2.drew.cell? ⟨ab, 0, none⟩ = some (.pointer (some ⟨eb, 0, none⟩)) := y0
  have y1d : W2.drew.cell? ⟨V1.heap.size, 0, none⟩ = some (.int .i64 x.s) := y1
  have HXL : Hid (V1.heap.size < W2.heap.size) := lt_of_block hxb2
  have HNX : Hid (∀ j, LFoot ab F fv j → j < V1.heap.size) := fun j hj => hin1.foot_lt hj
  have HML : Hid (w.heap.size < W2.heap.size ∧ ∀ j, LFoot ab F fv j → j < w.heap.size) := ⟨lt_of_block hmb2, fun j hj => hin.foot_lt hj⟩
  have HXB2 := hide hxb2
  have HMB2 := hide hmb2
  have HIN2 := hide hin2
  have HB2 := hide hb2
  have HW0 := hide hw0
  have HW2 := hide hW2
  have HV1 := hide hV1
  have HG := hide hG
  have HX := hide hx
  have HFV := hide hfveq
  have HC := hide hc
  have HF := hide hFS
  have HSK := hide hsK
  have HSM := hide hsm
  have hl0 : ((a.fl.length : Int) == 0) = false := by simp; omega
  have i1 : (0 : Int) ≤ (i : Int) := by omega
  have i2 : (i : Int) < (a.fl.length : Int) := by omega
  obtain ⟨wC, capC, hconv0, hbyC0, hbC⟩ := conv_text W2.drew T
  have hconv : (convert 9 44 (.string ⟨T.toArray⟩)).run Tryz.prog W2.drew = .ok (.slice (some ⟨W2.heap.size, 0, none⟩) T.length capC) wC := hconv0
  have hb2C : Below W2.heap.size W2 wC := (show Below W2.heap.size W2 W2.drew from (Below.refl _ _).drew).trans hbC
  have hinC := hin2.below hb2C
  have xC0 : wC.cell? ⟨ab, 0, none⟩ = some (.pointer (some ⟨eb, 0, none⟩)) := hinC.ac.c0
  have hxbC := kept_told hxb2 hb2C
  have xC1 : wC.cell? ⟨V1.heap.size, 0, none⟩ = some (.int .i64 x.s) := by rw [cell_of_row _ _ _ _ _ _ hxbC]; rfl
  have z4 : wC.cell? ⟨V1.heap.size, 4, none⟩ = some (.bool true) := by rw [cell_of_row _ _ _ _ _ _ hxbC]; rfl
  have m3d : W2.drew.cell? ⟨w.heap.size, 3, none⟩ = some (.string ⟨T.toArray⟩) := m3
  have HWR := hide (c_write_shut (s := s) (bv := .slice (some ⟨W2.heap.size, 0, none⟩) T.length capC) hinC.st hsm hc.rel.e.live hFS.res (by rw [hFS.shut]; exact hcl))
  rw [hFS.num] at HWR
  have HEND : Hid (LMoved w wC ab eb G (.returned (.bool true))) := ⟨rfl, a, p, GoL.of hG hinC (Chg.of_below (hb2.trans (hb2C.mono hb2.size))) (fun j hj => Or.inl hj), hc.ok⟩
  clear hconv0 hbyC0 hbC hb2C hinC hxbC
  clear hin hG hc hmb0 hmb1 hmb2 hb0 hb1 hb12 hb2 hin0 hin1 hin2 hw0 hW2 hV1 hp2 hp3 hk hKi hS hbd hFA hfveq hF1 hx hi he hfl0 hxb2 hFS hsK hsm hlK
  go_enter Tryz.func9, Tryz.ntmps9
  go_upto_region 1 with fail
  rw [← HW0.out]
  go_upto_region 3 with fail
  go_cut [5] (fun s5 wx => s5 = .int .i64 (i : Int) ∧ wx = V1)
  case first =>
    go_region_law (refine step_call rfl 5 Tryz.f5 Tryz.func5 (by kernel_rfl) rfl [.tmp 19, .tmp 24] #[3, 3] rfl [.int .i64 S, .int .i64 (a.fl.length : Int)] (by simp [Act.eval, Act.put]) HP3.out ?_; rintro e w3 ⟨rfl, hw3⟩; refine ⟨_, rfl, ?_⟩; rw [hw3, ← HV1.out]; clear hw3 w3)
    all_goals (go_wp2_with fail; go_meet; exact ⟨rfl, rfl⟩)
  case rest =>
    obtain ⟨hs, hw⟩ := hcut
    subst hs
    rw [hw]
    clear hw r0 r1 r2 r3 r1d s5 s5d
    go_upto_region 5 with fail
    rw [← HW2.out]
    clear q0 q1 q2 q3 q4 q5 v5
    go_wp2_with fail
    refine (HP2.out _).mono ?_
    rintro e w' ⟨rfl, hw'⟩
    rw [hw']
    clear hw' w'
    go_upto_region 10 with fail
    generalize ByteArray.mk T.toArray = mstr at *
    go_cut [9, 10] (fun s9 s10 wx => s9 = .int .i64 0 ∧ s10 = .int .i64 5 ∧ wx = wC)
    case first =>
      go_region_with (first
        | (go_at_call 21; refine HWR.out.mono ?_; rintro e w3 ⟨rfl, hw3⟩; rw [hw3]; clear hw3 w3))
      all_goals (go_wp2_with fail; go_meet; exact ⟨rfl, rfl, rfl⟩)
    case rest =>
      obtain ⟨h9, h10, hw⟩ := hcut
      subst h9 h10
      rw [hw]
      clear hw
      go_wp2
      go_ret
      exact HEND.out
end Go.Proofs.YtdccldbefdfppaaGreatDoor
