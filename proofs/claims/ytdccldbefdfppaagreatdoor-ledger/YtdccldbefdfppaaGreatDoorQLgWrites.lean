import Derived.Test.YtdccldbefdfppaaGreatDoorQGba
import Derived.Test.YtdccldbefdfppaaGreatDoorQEnWrite2
import Derived.BigRegion
set_option linter.unusedVariables false
set_option linter.unusedSimpArgs false
/-
  Ledger: writes.
-/
namespace Go.Proofs.YtdccldbefdfppaaGreatDoor
set_option linter.unusedVariables false
set_option linter.unusedSimpArgs false
open Go.RowKit

theorem set_self {l : List LFlow} {i : Nat} {x : LFlow} (h : l[i]? = some x) : l.set i x = l := by
  apply List.ext_getElem?
  intro j
  rw [List.getElem?_set]
  split
  · rename_i e
    subst e
    rw [h]
    simp [(List.getElem?_eq_some_iff.1 h).1]
  · rfl
/-- The end alone went on; the flows lie where they lay. -/
theorem LIn.go {w w' : World} {ab eb : Nat} {F : Nat → Prop} {fv : Value} {a : LAcc} {p q : GEnd} (h : LIn w ab eb F fv a p) (hg : GoE w w' eb F q) : ∃ F', LIn w' ab eb F' fv a q ∧ Chg F w w' ∧ ∀ j, F' j → F j ∨ w.heap.size ≤ j := by
  obtain ⟨F', h1, h2, h3⟩ := hg
  refine ⟨F', ⟨h.ac.chg h2 h.nf, h.fl.chg h2 h.ff, h1, fun hf => ?_, fun j hj hf => ?_, h.gl.chg h2 h.ge, h.ga, h.gv, fun j hf => ?_⟩, h2, h3⟩
  · rcases h3 ab hf with b | b
    · exact h.nf b
    · have := h.alt; omega
  · rcases h3 j hf with b | b
    · exact h.ff j hj b
    · have := h.vlt hj; omega
  · rcases h3 j hf with b | b
    · exact h.gf j b
    · have := h.alt; have := h.ga; omega
set_option maxRecDepth 100000 in
set_option maxHeartbeats 6400000 in
theorem lwrites_e (ab eb : Nat) (G : Nat → Prop) (a : LAcc) (p : GEnd) (K S N : Int) (T : ByteArray) (w : World) (h : LS w ab eb G a p) (hc : LCalm a p) (he : a.fl = []) :
    Calls Tryz.prog 9 #[.pointer (some ⟨ab, 0, none⟩), .agg #[.int .i64 K, .int .i64 S, .int .i64 N, .string T]] w fun e w' => LMoved w w' ab eb G e := by
  have hLS := h
  obtain ⟨F, fv, hin, hG⟩ := h
  obtain ⟨w0, hw0⟩ : ∃ w0, w0 = w.alloc (.cells #[.int .i64 K, .int .i64 S, .int .i64 N, .string T] 35) := ⟨_, rfl⟩
  have hb0 : Below w.heap.size w w0 := by rw [hw0]; exact (Below.refl _ _).alloc (Nat.le_refl _) _
  have hin0 := hin.below hb0
  have s5 : w0.cell? ⟨ab, 5, none⟩ = some fv := hin0.ac.c5
  obtain ⟨sv, cv, hsv⟩ := slice_len hin0.fl
  have hsv : fv = .slice sv 0 cv := by rw [hsv, he]; rfl
  rw [hsv] at s5
  have HEND : Hid (LMoved w w0 ab eb G (.returned (.bool true))) := ⟨rfl, a, p, GoL.of_below hLS hb0, hc.ok⟩
  have HW0 := hide hw0
  clear hin hG hc hb0 hin0 hw0 hLS hsv
  go_enter Tryz.func9, Tryz.ntmps9
  go_upto_region 1 with fail
  rw [← HW0.out]
  go_wp2
  go_ret
  exact HEND.out
set_option maxRecDepth 100000 in
set_option maxHeartbeats 12800000 in
theorem lwrites_c0 (ab eb : Nat) (G : Nat → Prop) (a : LAcc) (p : GEnd) (K S N : Int) (T : List UInt8) (w : World) (h : LS w ab eb G a p) (hc : LCalm a p) (hS : I64 S) (hKi : I64 K) (hk : pkI K 7 = 4) (he : a.fl ≠ []) (i : Nat) (x : LFlow) (hi : pkI S (a.fl.length : Int) = i) (hx : a.fl[i]? = some x) (hcl : x.closed = false) :
    Calls Tryz.prog 9 #[.pointer (some ⟨ab, 0, none⟩), .agg #[.int .i64 K, .int .i64 S, .int .i64 N, .string ⟨T.toArray⟩]] w fun e w' => LMoved w w' ab eb G e := by
  obtain ⟨F, fv, hin, hG⟩ := h
  have hfl0 : 0 < a.fl.length := List.length_pos_iff.2 he
  have hp2 := fun wx => kpick_fun K 7 wx (by omega) hKi
  rw [hk] at hp2
  have HP2 := hide hp2
  have hp3 := fun wx => kpick_fun S (a.fl.length : Int) wx (by omega) hS
  rw [hi] at hp3
  have hlt : i < a.fl.length := (List.getElem?_eq_some_iff.1 hx).1
  have hbd := hc.rel.bd
  have hmf := hbd.fl x (List.mem_of_getElem? hx)
  have b8 := hbd.n
  have hlK : i < p.K.length := by rw [← hc.rel.len]; exact hlt
  have hsK : p.K[i]? = some p.K[i] := List.getElem?_eq_getElem hlK
  have hsm : p.K[i] ∈ p.K := List.getElem_mem hlK
  obtain ⟨s, hse⟩ : ∃ s, s = p.K[i] := ⟨_, rfl⟩
  rw [← hse] at hsK hsm
  clear hse
  have hFS := hc.rel.fs i x s hx hsK
  obtain ⟨w0, hw0⟩ : ∃ w0, w0 = w.alloc (.cells #[.int .i64 K, .int .i64 S, .int .i64 N, .string ⟨T.toArray⟩] 35) := ⟨_, rfl⟩
  have hmb0 : w0.heap[w.heap.size]? = some (.cells #[.int .i64 K, .int .i64 S, .int .i64 N, .string ⟨T.toArray⟩] 35 (0, 0)) := by rw [hw0]; exact heap_alloc_new w _
  have hb0 : Below w.heap.size w w0 := by rw [hw0]; exact (Below.refl _ _).alloc (Nat.le_refl _) _
  have hin0 := hin.below hb0
  obtain ⟨r0, r1, r2, r3⟩ := move_cells hmb0
  have r1d : w0.drew.cell? ⟨w.heap.size, 1, none⟩ = some (.int .i64 S) := r1
  obtain ⟨g, cap, hFA⟩ := hin0.fl.at hx
  have hfveq : fv = .slice (some ⟨g, 0, none⟩) a.fl.length cap := hFA.eq
  have s5 : w0.cell? ⟨ab, 5, none⟩ = some (.slice (some ⟨g, 0, none⟩) a.fl.length cap) := by rw [hin0.ac.c5, hfveq]
  have s5d : w0.drew.cell? ⟨ab, 5, none⟩ = some (.slice (some ⟨g, 0, none⟩) a.fl.length cap) := s5
  have HP3 := hide (hp3 w0.drew)
  obtain ⟨V1, hV1⟩ : ∃ V1, V1 = w0.drew := ⟨_, rfl⟩
  have hb1 : Below w.heap.size w V1 := by rw [hV1]; exact hb0.drew
  have hin1 := hin.below hb1
  have hmb1 : V1.heap[w.heap.size]? = some (.cells #[.int .i64 K, .int .i64 S, .int .i64 N, .string ⟨T.toArray⟩] 35 (0, 0)) := by rw [hV1]; exact hmb0
  have hF1 := hin1.fl.cells hfveq hx
  have v5 : V1.cell? ⟨ab, 5, none⟩ = some (.slice (some ⟨g, 0, none⟩) a.fl.length cap) := by rw [hin1.ac.c5, hfveq]
  have q0 := hF1.f0
  have q1 := hF1.f1
  have q2 : V1.cell? ⟨g, i * 6 + 2, none⟩ = some (.string ⟨x.wr.toArray⟩) := hF1.f2
  have q3 := hF1.f3
  have q4 := hF1.f4
  have q5 := hF1.f5
  rw [hcl] at q4
  obtain ⟨W2, hW2⟩ : ∃ W2, W2 = V1.alloc (.cells #[.int .i64 x.s, .int .i64 x.credit, .string ⟨x.wr.toArray⟩, .int .i64 x.sent, .bool false, .bool x.over] 56) := ⟨_, rfl⟩
  have hxb2 : W2.heap[V1.heap.size]? = some (.cells #[.int .i64 x.s, .int .i64 x.credit, .string ⟨x.wr.toArray⟩, .int .i64 x.sent, .bool false, .bool x.over] 56 (0, 0)) := by rw [hW2]; exact heap_alloc_new V1 _
  have hb12 : Below V1.heap.size V1 W2 := by rw [hW2]; exact (Below.refl _ _).alloc (Nat.le_refl _) _
  have hb2 : Below w.heap.size w W2 := hb1.trans (hb12.mono hb1.size)
  have hin2 := hin.below hb2
  have hmb2 := kept_told hmb1 hb12
  obtain ⟨m0, m1, m2, m3⟩ := move_cells hmb2
  have y0 : W2.cell? ⟨ab, 0, none⟩ = some (.pointer (some ⟨eb, 0, none⟩)) := hin2.ac.c0
  have y1 : W2.cell? ⟨V1.heap.size, 0, none⟩ = some (.int .i64 x.s) := by rw [cell_of_row _ _ _ _ _ _ hxb2]; rfl
  have y0d : W2.drew.cell? ⟨ab, 0, none⟩ = some (.pointer (some ⟨eb, 0, none⟩)) := y0
  have y1d : W2.drew.cell? ⟨V1.heap.size, 0, none⟩ = some (.int .i64 x.s) := y1
  have HXL : Hid (V1.heap.size < W2.heap.size) := lt_of_block hxb2
  have HNX : Hid (∀ j, LFoot ab F fv j → j < V1.heap.size) := fun j hj => hin1.foot_lt hj
  have HML : Hid (w.heap.size < W2.heap.size ∧ ∀ j, LFoot ab F fv j → j < w.heap.size) := ⟨lt_of_block hmb2, fun j hj => hin.foot_lt hj⟩
  have HXB2 := hide hxb2
  have HMB2 := hide hmb2
  have HIN2 := hide hin2
  have HB2 := hide hb2
  have HW0 := hide hw0
  have HW2 := hide hW2
  have HV1 := hide hV1
  have HG := hide hG
  have HX := hide hx
  have HFV := hide hfveq
  have HC := hide hc
  have HF := hide hFS
  have HSK := hide hsK
  have HSM := hide hsm
  have hl0 : ((a.fl.length : Int) == 0) = false := by simp; omega
  have i1 : (0 : Int) ≤ (i : Int) := by omega
  have i2 : (i : Int) < (a.fl.length : Int) := by omega
  have HCL := hide (c_close_ok (s := s) hin2.drew.st hsm hc.rel.e.live hc.rel.e.got hFS.res hFS.last (by rw [hFS.shut]; exact hcl))
  rw [hFS.num] at HCL
  clear hin hG hc hmb0 hmb1 hmb2 hb0 hb1 hb12 hb2 hin0 hin1 hin2 hw0 hW2 hV1 hp2 hp3 hk hKi hS hbd hFA hfveq hF1 hx hi he hfl0 hxb2 hFS hsK hsm hlK
  go_enter Tryz.func9, Tryz.ntmps9
  go_upto_region 1 with fail
  rw [← HW0.out]
  go_upto_region 3 with fail
  go_cut [5] (fun s5 wx => s5 = .int .i64 (i : Int) ∧ wx = V1)
  case first =>
    go_region_law (refine step_call rfl 5 Tryz.f5 Tryz.func5 (by kernel_rfl) rfl [.tmp 19, .tmp 24] #[3, 3] rfl [.int .i64 S, .int .i64 (a.fl.length : Int)] (by simp [Act.eval, Act.put]) HP3.out ?_; rintro e w3 ⟨rfl, hw3⟩; refine ⟨_, rfl, ?_⟩; rw [hw3, ← HV1.out]; clear hw3 w3)
    all_goals (go_wp2_with fail; go_meet; exact ⟨rfl, rfl⟩)
  case rest =>
    obtain ⟨hs, hw⟩ := hcut
    subst hs
    rw [hw]
    clear hw r0 r1 r2 r3 r1d s5 s5d
    go_upto_region 5 with fail
    rw [← HW2.out]
    clear q0 q1 q2 q3 q4 q5 v5
    go_wp2_with fail
    refine (HP2.out _).mono ?_
    rintro e w' ⟨rfl, hw'⟩
    rw [hw']
    clear hw' w'
    go_upto_region 7 with fail
    go_cut [8] (fun s8 wx => s8 = .int .i64 0 ∧ GoE W2.drew wx eb F { p with K := updN x.s GSt.shuts p.K })
    case first =>
      go_region_law (refine step_call rfl 20 Tryz.f20 Tryz.func20 (by kernel_rfl) rfl [.tmp 41, .tmp 43] #[27, 3] rfl [.pointer (some ⟨eb, 0, none⟩), .int .i64 x.s] (by simp [Act.eval, Act.put]) HCL.out ?_; rintro e w3 ⟨rfl, hgo⟩; refine ⟨_, rfl, ?_⟩; have HGO := hide hgo; clear hgo)
      all_goals (go_wp2_with fail; go_meet; exact ⟨rfl, HGO.out⟩)
    case rest =>
      obtain ⟨h8, hgo⟩ := hcut
      subst h8
      obtain ⟨w3, hw3⟩ : ∃ w3, w3 = wc := ⟨wc, rfl⟩
      rw [← hw3] at hgo ⊢
      clear hw3
      obtain ⟨F3, hin3, hc3, hg3⟩ := HIN2.out.drew.go hgo
      have hF3 := hin3.fl.cells HFV.out HX.out
      have t5 : w3.cell? ⟨ab, 5, none⟩ = some (.slice (some ⟨g, 0, none⟩) a.fl.length cap) := by rw [hin3.ac.c5, HFV.out]
      have tf4 := hF3.f4
      rw [hcl] at tf4
      have tfr := hF3.fr (i * 6 + 4)
      have hxb3 : w3.heap[V1.heap.size]? = some (.cells #[.int .i64 x.s, .int .i64 x.credit, .string ⟨x.wr.toArray⟩, .int .i64 x.sent, .bool false, .bool x.over] 56 (0, 0)) := by
        rw [hc3.block V1.heap.size HXL.out (fun hf => by have := HNX.out _ (Or.inr (Or.inr hf)); omega)]
        exact HXB2.out
      obtain ⟨W4, hW4⟩ : ∃ W4, W4 = w3.setCell ⟨g, i * 6 + 4, none⟩ (.bool true) := ⟨_, rfl⟩
      have hin4 : LIn W4 ab eb F3 fv { a with fl := a.fl.set i { x with closed := true } } { p with K := updN x.s GSt.shuts p.K } := by
        rw [hW4]
        exact hin3.writeF (x' := { x with closed := true }) HX.out HFV.out (f := 4) (by omega) (by simp [LFlow.cells]) rfl
      have hxb4 : W4.heap[V1.heap.size]? = some (.cells #[.int .i64 x.s, .int .i64 x.credit, .string ⟨x.wr.toArray⟩, .int .i64 x.sent, .bool false, .bool x.over] 56 (0, 0)) := by
        rw [hW4, (chg_set (S := fun j => j = g) (Chg.refl _ w3) rfl).block V1.heap.size (lt_of_block hxb3) (fun e => by have := HNX.out g (Or.inr (Or.inl (by rw [HFV.out]; rfl))); omega)]
        exact hxb3
      have z4 : W4.cell? ⟨V1.heap.size, 4, none⟩ = some (.bool false) := by rw [cell_of_row _ _ _ _ _ _ hxb4]; rfl
      have HEND : Hid (LMoved w W4 ab eb G (.returned (.bool true))) := by
        have hrel := HC.out.rel.closes HX.out HSK.out
        rw [HF.out.num] at hrel
        refine ⟨rfl, _, _, GoL.of HG.out hin4 ?_ ?_, ⟨hrel, HC.out.out, by show p.ans.length ≤ 8; rw [HC.out.ans]; decide⟩⟩
        · have c1 : Chg (LFoot ab F fv) w W2.drew := (Chg.of_below HB2.out).drew
          have c2 : Chg (LFoot ab F fv) w w3 := c1.trans (hc3.mono fun j _ e => Or.inr (Or.inr (Or.inr e)))
          rw [hW4]
          exact chg_set c2 (Or.inr (Or.inl (by rw [HFV.out]; rfl)))
        · intro j hj
          rcases hj with e | e | e
          · exact Or.inl (Or.inl e)
          · exact Or.inl (Or.inr (Or.inl e))
          · rcases hg3 j e with b | b
            · exact Or.inl (Or.inr (Or.inr b))
            · exact Or.inr (Nat.le_trans HB2.out.size b)
      have HW4 := hide hW4
      clear hgo hin3 hc3 hg3 hF3 hin4 hxb3 hxb4 hW4 y0 y1 y0d y1d
      go_upto_region 9 with fail
      rw [← HW4.out]
      go_wp2
      go_ret
      exact HEND.out
set_option maxRecDepth 100000 in
set_option maxHeartbeats 12800000 in
theorem lwrites_c1 (ab eb : Nat) (G : Nat → Prop) (a : LAcc) (p : GEnd) (K S N : Int) (T : List UInt8) (w : World) (h : LS w ab eb G a p) (hc : LCalm a p) (hS : I64 S) (hKi : I64 K) (hk : pkI K 7 = 4) (he : a.fl ≠ []) (i : Nat) (x : LFlow) (hi : pkI S (a.fl.length : Int) = i) (hx : a.fl[i]? = some x) (hcl : x.closed = true) :
    Calls Tryz.prog 9 #[.pointer (some ⟨ab, 0, none⟩), .agg #[.int .i64 K, .int .i64 S, .int .i64 N, .string ⟨T.toArray⟩]] w fun e w' => LMoved w w' ab eb G e := by
  obtain ⟨F, fv, hin, hG⟩ := h
  have hfl0 : 0 < a.fl.length := List.length_pos_iff.2 he
  have hp2 := fun wx => kpick_fun K 7 wx (by omega) hKi
  rw [hk] at hp2
  have HP2 := hide hp2
  have hp3 := fun wx => kpick_fun S (a.fl.length : Int) wx (by omega) hS
  rw [hi] at hp3
  have hlt : i < a.fl.length := (List.getElem?_eq_some_iff.1 hx).1
  have hbd := hc.rel.bd
  have hmf := hbd.fl x (List.mem_of_getElem? hx)
  have b8 := hbd.n
  have hlK : i < p.K.length := by rw [← hc.rel.len]; exact hlt
  have hsK : p.K[i]? = some p.K[i] := List.getElem?_eq_getElem hlK
  have hsm : p.K[i] ∈ p.K := List.getElem_mem hlK
  obtain ⟨s, hse⟩ : ∃ s, s = p.K[i] := ⟨_, rfl⟩
  rw [← hse] at hsK hsm
  clear hse
  have hFS := hc.rel.fs i x s hx hsK
  obtain ⟨w0, hw0⟩ : ∃ w0, w0 = w.alloc (.cells #[.int .i64 K, .int .i64 S, .int .i64 N, .string ⟨T.toArray⟩] 35) := ⟨_, rfl⟩
  have hmb0 : w0.heap[w.heap.size]? = some (.cells #[.int .i64 K, .int .i64 S, .int .i64 N, .string ⟨T.toArray⟩] 35 (0, 0)) := by rw [hw0]; exact heap_alloc_new w _
  have hb0 : Below w.heap.size w w0 := by rw [hw0]; exact (Below.refl _ _).alloc (Nat.le_refl _) _
  have hin0 := hin.below hb0
  obtain ⟨r0, r1, r2, r3⟩ := move_cells hmb0
  have r1d : w0.drew.cell? ⟨w.heap.size, 1, none⟩ = some (.int .i64 S) := r1
  obtain ⟨g, cap, hFA⟩ := hin0.fl.at hx
  have hfveq : fv = .slice (some ⟨g, 0, none⟩) a.fl.length cap := hFA.eq
  have s5 : w0.cell? ⟨ab, 5, none⟩ = some (.slice (some ⟨g, 0, none⟩) a.fl.length cap) := by rw [hin0.ac.c5, hfveq]
  have s5d : w0.drew.cell? ⟨ab, 5, none⟩ = some (.slice (some ⟨g, 0, none⟩) a.fl.length cap) := s5
  have HP3 := hide (hp3 w0.drew)
  obtain ⟨V1, hV1⟩ : ∃ V1, V1 = w0.drew := ⟨_, rfl⟩
  have hb1 : Below w.heap.size w V1 := by rw [hV1]; exact hb0.drew
  have hin1 := hin.below hb1
  have hmb1 : V1.heap[w.heap.size]? = some (.cells #[.int .i64 K, .int .i64 S, .int .i64 N, .string ⟨T.toArray⟩] 35 (0, 0)) := by rw [hV1]; exact hmb0
  have hF1 := hin1.fl.cells hfveq hx
  have v5 : V1.cell? ⟨ab, 5, none⟩ = some (.slice (some ⟨g, 0, none⟩) a.fl.length cap) := by rw [hin1.ac.c5, hfveq]
  have q0 := hF1.f0
  have q1 := hF1.f1
  have q2 : V1.cell? ⟨g, i * 6 + 2, none⟩ = some (.string ⟨x.wr.toArray⟩) := hF1.f2
  have q3 := hF1.f3
  have q4 := hF1.f4
  have q5 := hF1.f5
  rw [hcl] at q4
  obtain ⟨W2, hW2⟩ : ∃ W2, W2 = V1.alloc (.cells #[.int .i64 x.s, .int .i64 x.credit, .string ⟨x.wr.toArray⟩, .int .i64 x.sent, .bool true, .bool x.over] 56) := ⟨_, rfl⟩
  have hxb2 : W2.heap[V1.heap.size]? = some (.cells #[.int .i64 x.s, .int .i64 x.credit, .string ⟨x.wr.toArray⟩, .int .i64 x.sent, .bool true, .bool x.over] 56 (0, 0)) := by rw [hW2]; exact heap_alloc_new V1 _
  have hb12 : Below V1.heap.size V1 W2 := by rw [hW2]; exact (Below.refl _ _).alloc (Nat.le_refl _) _
  have hb2 : Below w.heap.size w W2 := hb1.trans (hb12.mono hb1.size)
  have hin2 := hin.below hb2
  have hmb2 := kept_told hmb1 hb12
  obtain ⟨m0, m1, m2, m3⟩ := move_cells hmb2
  have y0 : W2.cell? ⟨ab, 0, none⟩ = some (.pointer (some ⟨eb, 0, none⟩)) := hin2.ac.c0
  have y1 : W2.cell? ⟨V1.heap.size, 0, none⟩ = some (.int .i64 x.s) := by rw [cell_of_row _ _ _ _ _ _ hxb2]; rfl
  have y0d : W2.drew.cell? ⟨ab, 0, none⟩ = some (.pointer (some ⟨eb, 0, none⟩)) := y0
  have y1d : W2.drew.cell? ⟨V1.heap.size, 0, none⟩ = some (.int .i64 x.s) := y1
  have HXL : Hid (V1.heap.size < W2.heap.size) := lt_of_block hxb2
  have HNX : Hid (∀ j, LFoot ab F fv j → j < V1.heap.size) := fun j hj => hin1.foot_lt hj
  have HML : Hid (w.heap.size < W2.heap.size ∧ ∀ j, LFoot ab F fv j → j < w.heap.size) := ⟨lt_of_block hmb2, fun j hj => hin.foot_lt hj⟩
  have HXB2 := hide hxb2
  have HMB2 := hide hmb2
  have HIN2 := hide hin2
  have HB2 := hide hb2
  have HW0 := hide hw0
  have HW2 := hide hW2
  have HV1 := hide hV1
  have HG := hide hG
  have HX := hide hx
  have HFV := hide hfveq
  have HC := hide hc
  have HF := hide hFS
  have HSK := hide hsK
  have HSM := hide hsm
  have hl0 : ((a.fl.length : Int) == 0) = false := by simp; omega
  have i1 : (0 : Int) ≤ (i : Int) := by omega
  have i2 : (i : Int) < (a.fl.length : Int) := by omega
  have HCL := hide (c_close_shut (s := s) hin2.drew.st hsm hc.rel.e.live hFS.res (by rw [hFS.shut]; exact hcl))
  rw [hFS.num] at HCL
  clear hin hG hc hmb0 hmb1 hmb2 hb0 hb1 hb12 hb2 hin0 hin1 hin2 hw0 hW2 hV1 hp2 hp3 hk hKi hS hbd hFA hfveq hF1 hx hi he hfl0 hxb2 hFS hsK hsm hlK
  go_enter Tryz.func9, Tryz.ntmps9
  go_upto_region 1 with fail
  rw [← HW0.out]
  go_upto_region 3 with fail
  go_cut [5] (fun s5 wx => s5 = .int .i64 (i : Int) ∧ wx = V1)
  case first =>
    go_region_law (refine step_call rfl 5 Tryz.f5 Tryz.func5 (by kernel_rfl) rfl [.tmp 19, .tmp 24] #[3, 3] rfl [.int .i64 S, .int .i64 (a.fl.length : Int)] (by simp [Act.eval, Act.put]) HP3.out ?_; rintro e w3 ⟨rfl, hw3⟩; refine ⟨_, rfl, ?_⟩; rw [hw3, ← HV1.out]; clear hw3 w3)
    all_goals (go_wp2_with fail; go_meet; exact ⟨rfl, rfl⟩)
  case rest =>
    obtain ⟨hs, hw⟩ := hcut
    subst hs
    rw [hw]
    clear hw r0 r1 r2 r3 r1d s5 s5d
    go_upto_region 5 with fail
    rw [← HW2.out]
    clear q0 q1 q2 q3 q4 q5 v5
    go_wp2_with fail
    refine (HP2.out _).mono ?_
    rintro e w' ⟨rfl, hw'⟩
    rw [hw']
    clear hw' w'
    go_upto_region 7 with fail
    obtain ⟨V3, hV3⟩ : ∃ V3, V3 = W2.drew := ⟨_, rfl⟩
    have HV3 := hide hV3
    go_cut [8] (fun s8 wx => s8 = .int .i64 5 ∧ wx = V3)
    case first =>
      go_region_law (refine step_call rfl 20 Tryz.f20 Tryz.func20 (by kernel_rfl) rfl [.tmp 41, .tmp 43] #[27, 3] rfl [.pointer (some ⟨eb, 0, none⟩), .int .i64 x.s] (by simp [Act.eval, Act.put]) HCL.out ?_; rintro e w3 ⟨rfl, hw3⟩; refine ⟨_, rfl, ?_⟩; rw [hw3]; clear hw3 w3)
      all_goals (go_wp2_with fail; go_meet; exact ⟨rfl, HV3.out.symm⟩)
    case rest =>
      obtain ⟨h8, hw⟩ := hcut
      subst h8
      rw [hw]
      clear hw
      have hin3 := HIN2.out.drew
      rw [← hV3] at hin3
      have hF3 := hin3.fl.cells HFV.out HX.out
      have t5 : V3.cell? ⟨ab, 5, none⟩ = some (.slice (some ⟨g, 0, none⟩) a.fl.length cap) := by rw [hin3.ac.c5, HFV.out]
      have tf4 := hF3.f4
      rw [hcl] at tf4
      have tfr := hF3.fr (i * 6 + 4)
      have hxb3 : V3.heap[V1.heap.size]? = some (.cells #[.int .i64 x.s, .int .i64 x.credit, .string ⟨x.wr.toArray⟩, .int .i64 x.sent, .bool true, .bool x.over] 56 (0, 0)) := by rw [hV3]; exact HXB2.out
      obtain ⟨W4, hW4⟩ : ∃ W4, W4 = V3.setCell ⟨g, i * 6 + 4, none⟩ (.bool true) := ⟨_, rfl⟩
      have hin4 : LIn W4 ab eb F fv a p := by
        have := hin3.writeF (x' := x) HX.out HFV.out (f := 4) (v := .bool true) (by omega) (by simp [LFlow.cells, hcl]) rfl
        have hfl := set_self HX.out
        rw [hfl] at this
        rw [hW4]
        exact this
      have hxb4 : W4.heap[V1.heap.size]? = some (.cells #[.int .i64 x.s, .int .i64 x.credit, .string ⟨x.wr.toArray⟩, .int .i64 x.sent, .bool true, .bool x.over] 56 (0, 0)) := by
        rw [hW4, (chg_set (S := fun j => j = g) (Chg.refl _ V3) rfl).block V1.heap.size (lt_of_block hxb3) (fun e => by have := HNX.out g (Or.inr (Or.inl (by rw [HFV.out]; rfl))); omega)]
        exact hxb3
      have z4 : W4.cell? ⟨V1.heap.size, 4, none⟩ = some (.bool true) := by rw [cell_of_row _ _ _ _ _ _ hxb4]; rfl
      have HEND : Hid (LMoved w W4 ab eb G (.returned (.bool true))) := by
        refine ⟨rfl, _, _, GoL.of HG.out hin4 ?_ (fun j hj => Or.inl hj), HC.out.ok⟩
        have c1 : Chg (LFoot ab F fv) w V3 := by rw [hV3]; exact (Chg.of_below HB2.out).drew
        rw [hW4]
        exact chg_set c1 (Or.inr (Or.inl (by rw [HFV.out]; rfl)))
      have HW4 := hide hW4
      clear hin3 hF3 hin4 hxb3 hxb4 hW4 y0 y1 y0d y1d hV3
      go_upto_region 9 with fail
      rw [← HW4.out]
      go_wp2
      go_ret
      exact HEND.out
end Go.Proofs.YtdccldbefdfppaaGreatDoor
