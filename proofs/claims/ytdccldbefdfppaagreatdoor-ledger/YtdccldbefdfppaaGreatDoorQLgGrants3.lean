import Derived.Test.YtdccldbefdfppaaGreatDoorQGba
import Derived.BigRegion
set_option linter.unusedVariables false
set_option linter.unusedSimpArgs false
/-
  Ledger: grants of a stream's credit.
-/
namespace Go.Proofs.YtdccldbefdfppaaGreatDoor
set_option linter.unusedVariables false
set_option linter.unusedSimpArgs false
open Go.RowKit

set_option maxRecDepth 100000 in
set_option maxHeartbeats 6400000 in
theorem lgrants_2e (ab eb : Nat) (G : Nat → Prop) (a : LAcc) (p : GEnd) (K S N : Int) (T : ByteArray) (w : World) (h : LS w ab eb G a p) (hc : LCalm a p) (hN : I64 N) (hKi : I64 K) (hk : pkI K 7 = 2) (he : a.fl = []) (hbig : a.given ≤ 1073741824) :
    Calls Tryz.prog 8 #[.pointer (some ⟨ab, 0, none⟩), .agg #[.int .i64 K, .int .i64 S, .int .i64 N, .string T]] w fun e w' => LMoved w w' ab eb G e := by
  obtain ⟨F, fv, hin, hG⟩ := h
  have HP1 := hide (fun wx => kpick_fun N 300 wx (by omega) hN)
  have hp2 := fun wx => kpick_fun K 7 wx (by omega) hKi
  rw [hk] at hp2
  have HP2 := hide hp2
  obtain ⟨n, hn, hn3⟩ := lpk_nat N (n := 300) (by omega)
  rw [hn] at HP1
  obtain ⟨m, hm⟩ : ∃ m, m = n + 1 := ⟨_, rfl⟩
  have hbd := hc.rel.bd
  obtain ⟨w0, hw0⟩ : ∃ w0, w0 = w.alloc (.cells #[.int .i64 K, .int .i64 S, .int .i64 N, .string T] 35) := ⟨_, rfl⟩
  have hmb0 : w0.heap[w.heap.size]? = some (.cells #[.int .i64 K, .int .i64 S, .int .i64 N, .string T] 35 (0, 0)) := by rw [hw0]; exact heap_alloc_new w _
  have hb0 : Below w.heap.size w w0 := by rw [hw0]; exact (Below.refl _ _).alloc (Nat.le_refl _) _
  have hin0 := hin.below hb0
  obtain ⟨r0, r1, r2, r3⟩ := move_cells hmb0
  have s4 : w0.cell? ⟨ab, 4, none⟩ = some (.int .i64 a.given) := hin0.ac.c4
  have sf4 := hin0.ac.fr 4
  obtain ⟨W1, hW1⟩ : ∃ W1, W1 = w0.setCell ⟨ab, 4, none⟩ (.int .i64 (a.given + (m : Int))) := ⟨_, rfl⟩
  have hin1 : LIn W1 ab eb F fv { a with given := a.given + (m : Int) } p := by rw [hW1]; exact hin0.writeA (by simp [LAcc.cells]) rfl
  have hc1 : Chg (LFoot ab F fv) w W1 := by
    rw [hW1]
    exact chg_set (Chg.of_below hb0) (Or.inl rfl)
  have s5 : W1.cell? ⟨ab, 5, none⟩ = some fv := hin1.ac.c5
  obtain ⟨sv, cv, hsv⟩ := slice_len hin1.fl
  have hsv : fv = .slice sv 0 cv := by rw [hsv]; show Value.slice sv a.fl.length cv = _; rw [he]; rfl
  rw [hsv] at s5
  have HEND : Hid (LMoved w W1 ab eb G (.returned (.bool true))) := ⟨rfl, _, p, GoL.step hG hc1 (GoL.one ⟨F, fv, hin1, fun j => Iff.rfl⟩), ⟨hc.rel.gives (n := m) (by omega) (by omega), hc.out, by rw [hc.ans]; decide⟩⟩
  have b1 := hbd.gv
  have hw300 : IntKind.i64.wrap (1 + (n : Int)) = (m : Int) := by rw [IntKind.wrap_i64]; omega
  have hwg : IntKind.i64.wrap (a.given + (m : Int)) = a.given + (m : Int) := by rw [IntKind.wrap_i64]; omega
  have hbg : ((1073741824 : Int) < a.given) = False := eq_false (by omega)
  have HW0 := hide hw0
  have HW1 := hide hW1
  clear hin hG hc hmb0 hb0 hin0 hin1 hc1 hw0 hW1 hp2 hk hn hm hN hKi hbd b1 hbig hsv
  generalize a.given = gv at *
  go_enter Tryz.func8, Tryz.ntmps8
  go_upto_region 1 with fail
  rw [← HW0.out]
  go_wp2_with fail
  refine (HP1.out _).mono ?_
  rintro e w' ⟨rfl, hw'⟩
  rw [hw']
  clear hw' w'
  go_wp2_with fail
  refine (HP2.out _).mono ?_
  rintro e w' ⟨rfl, hw'⟩
  rw [hw']
  clear hw' w'
  go_upto_region 10 with fail
  rw [← HW1.out]
  clear s4 sf4 r0 r1 r2 r3
  go_wp2
  go_ret
  exact HEND.out
set_option maxRecDepth 100000 in
set_option maxHeartbeats 6400000 in
theorem lgrants_2 (ab eb : Nat) (G : Nat → Prop) (a : LAcc) (p : GEnd) (K S N : Int) (T : ByteArray) (w : World) (h : LS w ab eb G a p) (hc : LCalm a p) (hN : I64 N) (hKi : I64 K) (hk : pkI K 7 = 2) (hS : I64 S) (he : a.fl ≠ []) (hbig : a.given ≤ 1073741824) :
    Calls Tryz.prog 8 #[.pointer (some ⟨ab, 0, none⟩), .agg #[.int .i64 K, .int .i64 S, .int .i64 N, .string T]] w fun e w' => LMoved w w' ab eb G e := by
  obtain ⟨F, fv, hin, hG⟩ := h
  have HP1 := hide (fun wx => kpick_fun N 300 wx (by omega) hN)
  have hp2 := fun wx => kpick_fun K 7 wx (by omega) hKi
  rw [hk] at hp2
  have HP2 := hide hp2
  obtain ⟨n, hn, hn3⟩ := lpk_nat N (n := 300) (by omega)
  rw [hn] at HP1
  obtain ⟨m, hm⟩ : ∃ m, m = n + 1 := ⟨_, rfl⟩
  have hbd := hc.rel.bd
  have hfl0 : 0 < a.fl.length := List.length_pos_iff.2 he
  obtain ⟨i, hi, hi2⟩ := lpk_nat S (n := (a.fl.length : Int)) (by omega)
  have hlt : i < a.fl.length := by omega
  have hp3 := fun wx => kpick_fun S (a.fl.length : Int) wx (by omega) hS
  rw [hi] at hp3
  have hx : a.fl[i]? = some a.fl[i] := List.getElem?_eq_getElem hlt
  obtain ⟨x, hxe⟩ : ∃ x, x = a.fl[i] := ⟨_, rfl⟩
  rw [← hxe] at hx
  clear hxe
  have hmf := hbd.fl x (List.mem_of_getElem? hx)
  have b8 := hbd.n
  obtain ⟨q, q1, q2, q3, q4, q5⟩ := hc.rel.creds hc.told hx (n := m) (by omega) (by omega) (by omega)
  obtain ⟨w0, hw0⟩ : ∃ w0, w0 = w.alloc (.cells #[.int .i64 K, .int .i64 S, .int .i64 N, .string T] 35) := ⟨_, rfl⟩
  have hmb0 : w0.heap[w.heap.size]? = some (.cells #[.int .i64 K, .int .i64 S, .int .i64 N, .string T] 35 (0, 0)) := by rw [hw0]; exact heap_alloc_new w _
  have hb0 : Below w.heap.size w w0 := by rw [hw0]; exact (Below.refl _ _).alloc (Nat.le_refl _) _
  have hin0 := hin.below hb0
  obtain ⟨r0, r1, r2, r3⟩ := move_cells hmb0
  have s4 : w0.cell? ⟨ab, 4, none⟩ = some (.int .i64 a.given) := hin0.ac.c4
  have sf4 := hin0.ac.fr 4
  obtain ⟨W1, hW1⟩ : ∃ W1, W1 = w0.setCell ⟨ab, 4, none⟩ (.int .i64 (a.given + (m : Int))) := ⟨_, rfl⟩
  have hin1 : LIn W1 ab eb F fv { a with given := a.given + (m : Int) } p := by rw [hW1]; exact hin0.writeA (by simp [LAcc.cells]) rfl
  have hc1 : Chg (LFoot ab F fv) w W1 := by
    rw [hW1]
    exact chg_set (Chg.of_below hb0) (Or.inl rfl)
  have hmb1 : W1.heap[w.heap.size]? = some (.cells #[.int .i64 K, .int .i64 S, .int .i64 N, .string T] 35 (0, 0)) := by
    rw [hW1, (chg_set (S := fun j => j = ab) (Chg.refl _ w0) rfl).block w.heap.size (lt_of_block hmb0) (fun e => by have := hin.alt; omega)]
    exact hmb0
  obtain ⟨-, t1, -, -⟩ := move_cells hmb1
  have t1d : W1.drew.cell? ⟨w.heap.size, 1, none⟩ = some (.int .i64 S) := t1
  obtain ⟨g, cap, hFA⟩ := hin1.fl.at hx
  have hfveq : fv = .slice (some ⟨g, 0, none⟩) a.fl.length cap := hFA.eq
  have s5 : W1.cell? ⟨ab, 5, none⟩ = some (.slice (some ⟨g, 0, none⟩) a.fl.length cap) := by rw [hin1.ac.c5, hfveq]
  have s5d : W1.drew.cell? ⟨ab, 5, none⟩ = some (.slice (some ⟨g, 0, none⟩) a.fl.length cap) := s5
  have HP3 := hide (hp3 W1.drew)
  -- the stream's credit
  obtain ⟨V1, hV1⟩ : ∃ V1, V1 = W1.drew := ⟨_, rfl⟩
  have hinv := hin1.drew
  rw [← hV1] at hinv
  have hFv := hinv.fl.cells hfveq hx
  have v5 : V1.cell? ⟨ab, 5, none⟩ = some (.slice (some ⟨g, 0, none⟩) a.fl.length cap) := by rw [hinv.ac.c5, hfveq]
  have vf1 := hFv.f1
  have vfr := hFv.fr (i * 6 + 1)
  have v5d : V1.drew.cell? ⟨ab, 5, none⟩ = some (.slice (some ⟨g, 0, none⟩) a.fl.length cap) := v5
  have vf1d : V1.drew.cell? ⟨g, i * 6 + 1, none⟩ = some (.int .i64 x.credit) := vf1
  have vfrd : V1.drew.frozen? ⟨g, i * 6 + 1, none⟩ = false := vfr
  obtain ⟨W2, hW2⟩ : ∃ W2, W2 = V1.setCell ⟨g, i * 6 + 1, none⟩ (.int .i64 (x.credit + (m : Int))) := ⟨_, rfl⟩
  obtain ⟨A2, hA2⟩ : ∃ A2 : LAcc, A2 = { a with given := a.given + (m : Int), fl := a.fl.set i { x with credit := x.credit + (m : Int) } } := ⟨_, rfl⟩
  have hin2 : LIn W2 ab eb F fv A2 p := by
    rw [hW2, hA2]
    exact hinv.writeF (x' := { x with credit := x.credit + (m : Int) }) hx hfveq (f := 1) (by omega) (by simp [LFlow.cells]) rfl
  have hc2 : Chg (LFoot ab F fv) w W2 := by
    rw [hW2, hV1]
    exact chg_set hc1.drew (Or.inr (Or.inl (by rw [hfveq]; rfl)))
  obtain ⟨V2, hV2⟩ : ∃ V2, V2 = W2.drew := ⟨_, rfl⟩
  have hin3 := hin2.drew
  rw [← hV2] at hin3
  have hc3 : Chg (LFoot ab F fv) w V2 := by rw [hV2]; exact hc2.drew
  have hx2 : A2.fl[i]? = some { x with credit := x.credit + (m : Int) } := by rw [hA2]; show (a.fl.set i _)[i]? = _; rw [List.getElem?_set]; simp [hlt]
  have hl2 : A2.fl.length = a.fl.length := by rw [hA2]; exact List.length_set
  have hF3 := hin3.fl.cells (by rw [hl2]; exact hfveq) hx2
  have u0 : V2.cell? ⟨ab, 0, none⟩ = some (.pointer (some ⟨eb, 0, none⟩)) := hin3.ac.c0
  have u5 : V2.cell? ⟨ab, 5, none⟩ = some (.slice (some ⟨g, 0, none⟩) a.fl.length cap) := by rw [hin3.ac.c5, hfveq]
  have uf : V2.cell? ⟨g, i * 6, none⟩ = some (.int .i64 x.s) := hF3.f0
  have hd1 : Below V2.heap.size V2 V2.drew := Below.drew (Below.refl _ _)
  have HF4 := hide (kfour_any m V2.drew (by omega))
  have HL : Hid (∀ w3 v cap, Below V2.heap.size V2 w3 → BytesIn w3 (.slice v 4 cap) (four4 m) → Calls Tryz.prog 13 #[.int .i64 6, .int .i64 0, .int .i64 x.s, .slice v 4 cap] w3 fun e w' => ∃ v, e = .returned v ∧ Below w3.heap.size w3 w' ∧ ∀ w2', Below w'.heap.size w' w2' → Calls Tryz.prog 16 #[.pointer (some ⟨eb, 0, none⟩), v] w2' fun e w'' => e = .returned (.int .i64 0) ∧ GoL V2 w'' ab eb (LFoot ab F fv) A2 q) := fun w3 v cap hb hby =>
    LIn.feeds (w1 := w3) (sa := v) (cap := cap) (body := four4 m) hin3 q1 q2 hb (by omega) (by omega) (by omega) (by omega) (by omega) (by omega) (by simp [four4]) hby
  rw [← hA2] at q3
  have HEND : Hid (∀ w4, GoL V2 w4 ab eb (LFoot ab F fv) A2 q → LMoved w w4 ab eb G (.returned (.bool true))) := fun w4 hg => ⟨rfl, _, q, GoL.step hG hc3 hg, ⟨q3, by rw [q4]; exact hc.out, by rw [q5, hc.ans]; decide⟩⟩
  have b1 := hbd.gv
  have hw300 : IntKind.i64.wrap (1 + (n : Int)) = (m : Int) := by rw [IntKind.wrap_i64]; omega
  have hwg : IntKind.i64.wrap (a.given + (m : Int)) = a.given + (m : Int) := by rw [IntKind.wrap_i64]; omega
  have hwc : IntKind.i64.wrap (x.credit + (m : Int)) = x.credit + (m : Int) := by rw [IntKind.wrap_i64]; omega
  have hbg : ((1073741824 : Int) < a.given) = False := eq_false (by omega)
  have hl0 : ((a.fl.length : Int) == 0) = false := by simp; omega
  have i1 : (0 : Int) ≤ (i : Int) := by omega
  have i2 : (i : Int) < (a.fl.length : Int) := by omega
  have HX : Hid (∀ wx, Below V2.heap.size V2 wx → wx.cell? ⟨ab, 0, none⟩ = some (.pointer (some ⟨eb, 0, none⟩)) ∧ wx.cell? ⟨ab, 5, none⟩ = some (.slice (some ⟨g, 0, none⟩) a.fl.length cap) ∧ wx.cell? ⟨g, i * 6, none⟩ = some (.int .i64 x.s)) := fun wx hbx => by
    have hx3 := hin3.below hbx
    exact ⟨hx3.ac.c0, by rw [hx3.ac.c5, hfveq], (hx3.fl.cells (by rw [hl2]; exact hfveq) hx2).f0⟩
  have HW0 := hide hw0
  have HW1 := hide hW1
  have HW2 := hide hW2
  have HV1 := hide hV1
  have HV2 := hide hV2
  have HD2 := hide hd1
  clear hin hG hc q1 q2 q3 q4 q5 hmb0 hmb1 hb0 hin0 hin1 hin2 hin3 hinv hc1 hc2 hc3 hd1 hw0 hW1 hW2 hV1 hV2 hp2 hp3 hk hn hm hN hKi hbd b1 hbig hFA hfveq hFv hF3 hx hx2 hl2 hA2 hmf hi hi2 he hfl0
  generalize a.given = gv at *
  generalize a.fl.length = fl at *
  generalize x.s = xs at *
  generalize x.credit = xc at *
  go_enter Tryz.func8, Tryz.ntmps8
  go_upto_region 1 with fail
  rw [← HW0.out]
  go_wp2_with fail
  refine (HP1.out _).mono ?_
  rintro e w' ⟨rfl, hw'⟩
  rw [hw']
  clear hw' w'
  go_wp2_with fail
  refine (HP2.out _).mono ?_
  rintro e w' ⟨rfl, hw'⟩
  rw [hw']
  clear hw' w'
  go_upto_region 10 with fail
  rw [← HW1.out]
  clear s4 sf4 r0 r1 r2 r3
  go_upto_region 16 with fail
  go_cut [9] (fun s9 wx => s9 = .int .i64 (i : Int) ∧ wx = V1)
  case first =>
    go_region_law (refine step_call rfl 5 Tryz.f5 Tryz.func5 (by kernel_rfl) rfl [.tmp 81, .tmp 86] #[3, 3] rfl [.int .i64 S, .int .i64 (fl : Int)] (by simp [Act.eval, Act.put]) HP3.out ?_; rintro e w3 ⟨rfl, hw3⟩; refine ⟨_, rfl, ?_⟩; rw [hw3, ← HV1.out]; clear hw3 w3)
    all_goals (go_wp2_with fail; go_meet; exact ⟨rfl, rfl⟩)
  case rest =>
    obtain ⟨hs, hw⟩ := hcut
    subst hs
    rw [hw]
    clear hw t1 t1d s5 s5d
    go_upto_region 17 with fail
    go_region
    go_upto_region 18 with fail
    rw [← HW2.out, ← HV2.out]
    clear v5 v5d vf1 vf1d vfr vfrd
    go_region_law (first
      | (refine step_call rfl 14 Tryz.f14 Tryz.func14 (by kernel_rfl) rfl [.tmp 117] #[3] rfl [.int .i64 (m : Int)] (by simp [Act.eval, Act.put]) HF4.out ?_; rintro e w3 ⟨rfl, hby3, hb3⟩; refine ⟨_, rfl, ?_⟩; have hbx3 := HD2.out.trans (hb3.mono HD2.out.size); have HL3 := hide (HL.out w3 _ _ hbx3 hby3); have HBX3 := hide hbx3; obtain ⟨z0, z5, zf⟩ := HX.out w3 hbx3; clear hby3 hb3 hbx3)
      | (refine step_call rfl 13 Tryz.f13 Tryz.func13 (by kernel_rfl) rfl [.const (.int .i64 6), .const (.int .i64 0), .tmp 116, .tmp 118] #[3, 3, 3, 44] rfl [.int .i64 6, .int .i64 0, .int .i64 xs, .slice (some ⟨V2.drew.heap.size, 0, none⟩) 4 4] (by simp [Act.eval, Act.put]) HL3.out ?_; rintro e w4 ⟨v, rfl, hb4, hfd⟩; refine ⟨_, rfl, ?_⟩; have HFD := hide (hfd w4 (Below.refl _ _)); obtain ⟨y0, y5, yf⟩ := HX.out w4 (HBX3.out.trans (hb4.mono HBX3.out.size)); clear hb4 hfd)
      | (refine step_call rfl 16 Tryz.f16 Tryz.func16 (by kernel_rfl) rfl [.tmp 108, .tmp 119] #[27, 44] rfl [.pointer (some ⟨eb, 0, none⟩), v] (by simp [Act.eval, Act.put]) HFD.out ?_; rintro e w5 ⟨rfl, hgo⟩; refine ⟨_, rfl, ?_⟩; have HGO := hide hgo; clear hgo))
    all_goals go_wp2
    all_goals go_ret
    all_goals exact HEND.out _ HGO.out
end Go.Proofs.YtdccldbefdfppaaGreatDoor
