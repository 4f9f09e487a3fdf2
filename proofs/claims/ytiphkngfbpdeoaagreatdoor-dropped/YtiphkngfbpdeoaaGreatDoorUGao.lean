import Derived.Test.YtiphkngfbpdeoaaGreatDoorUGan
import Derived.Test.YtiphkngfbpdeoaaGreatDoorUGaf
import Derived.Test.YtiphkngfbpdeoaaGreatDoorUGai
import Derived.Lib.SlBytesConst
set_option linter.unusedVariables false
set_option linter.unusedSimpArgs false
/-
  The law's own: given.
-/
namespace Go.Proofs.YtiphkngfbpdeoaaGreatDoor
set_option linter.unusedVariables false
set_option linter.unusedSimpArgs false
open Go.RowKit

theorem cutN_all {n : Nat} (h : n ≤ 1073741824) : cutN 1099511627776 n = n := by unfold cutN; omega
theorem spC_get : ∀ {ps : List (Fr × Value)} {i j : Nat} (h : i < ps.length), j < 4 → (ps.flatMap spC)[i * 4 + j]? = (spC ps[i])[j]?
  | p :: r, 0, j, _, hj => by
    rw [List.flatMap_cons, List.getElem?_append_left (by simp [spC]; omega)]
    simp
  | p :: r, i + 1, j, h, hj => by
    have hl : (spC p).length = 4 := rfl
    rw [List.flatMap_cons, List.getElem?_append_right (by rw [hl]; omega), hl, show (i + 1) * 4 + j - 4 = i * 4 + j by omega]
    exact spC_get (by simpa using h) hj
/-- The frames, as they lie. -/
theorem SplitS.at {w w' w2 : World} {fs : List Fr} {v : Value} {ps : List (Fr × Value)} (h : SplitS w w' fs v ps) (hb : Below w'.heap.size w' w2) {i : Nat} (hi : i < fs.length) : ∃ g c bv, v = .slice (some ⟨g, 0, none⟩) fs.length c ∧ fs.length ≤ c ∧ w2.cell? ⟨g, i * 4, none⟩ = some (.int .i64 fs[i].kind) ∧ w2.cell? ⟨g, i * 4 + 1, none⟩ = some (.int .i64 fs[i].flags) ∧ w2.cell? ⟨g, i * 4 + 2, none⟩ = some (.int .i64 fs[i].stream) ∧ w2.cell? ⟨g, i * 4 + 3, none⟩ = some bv ∧ BytesIn w2 bv fs[i].body ∧ g < w2.heap.size := by
  have hlen : ps.length = fs.length := by rw [← h.fst, List.length_map]
  have hip : i < ps.length := by omega
  have hr := h.row
  have hfi : ps[i].1 = fs[i] := by
    have := h.fst
    subst this
    simp
  rcases hr.2 with ⟨-, h0⟩ | ⟨g, cap, cur, h1, h2, h3, h4, h5, h6, h7⟩
  · omega
  · have hl := lt_of_block h3
    have hblk : w2.heap[g]? = some (.cells cur 105 (0, 0)) := by rw [hb.block g hl]; exact h3
    have hc : ∀ j, j < 4 → w2.cell? ⟨g, i * 4 + j, none⟩ = (spC ps[i])[j]? := fun j hj => by
      rw [cell_of_row _ _ _ _ _ _ hblk, ← spC_get hip hj, ← h7, List.getElem?_take, if_pos (by omega), Array.getElem?_toList]
    have q0 := hc 0 (by omega)
    rw [Nat.add_zero] at q0
    refine ⟨g, cap, ps[i].2, by rw [h1, hlen], by omega, ?_, ?_, ?_, ?_, ?_, Nat.lt_of_lt_of_le hl hb.size⟩
    · rw [q0, ← hfi]; rfl
    · rw [hc 1 (by omega), ← hfi]; rfl
    · rw [hc 2 (by omega), ← hfi]; rfl
    · rw [hc 3 (by omega)]; rfl
    · rw [← hfi]
      exact (h.body ps[i] (List.getElem_mem hip)).chg (Chg.of_below (S := fun _ => False) (h.bel.trans (hb.mono h.bel.size))) (fun _ _ => id)

set_option maxRecDepth 100000 in
set_option maxHeartbeats 1600000 in
theorem kgiven_any (eb : Nat) (F : Nat → Prop) (p p' : GEnd) (s : Int) (fs : List Fr) (w : World) (h : StE w eb F p) (hf : Fine p) (hg : p.got = []) (hg' : p'.got = []) (hl : p.m.fault = 0) (hr : Runs 1099511627776 p p') (hout : p'.out = layFs fs) (hfit : ∀ f ∈ fs, FrFits f ∧ 1 ≤ f.body.length) (hno : ∀ f ∈ fs, ¬ (f.stream = s ∧ (f.kind = 0 ∨ f.kind = 6))) (hlen : fs.length ≤ 1000) (hol : p'.out.length ≤ 1073741824) :
    Calls Tryz.prog 11 #[.pointer (some ⟨eb, 0, none⟩), .int .i64 s] w fun e w' => e = .returned (.tuple #[.int .i64 (crSum fs), .int .i64 (rsSum s fs)]) ∧ GoE w w' eb F { p' with out := [] } := by
  have ht := c_take (n := 1099511627776) h hf hg hg' hl hr hol
  rw [cutN_all hol, List.take_of_length_le (Nat.le_refl _), List.drop_of_length_le (Nat.le_refl _), hout] at ht
  have HT := hide ht
  have HSP : Hid (∀ w1 sv, BytesIn w1 (.slice sv (layFs fs).length (layFs fs).length) (layFs fs) → Calls Tryz.prog 30 #[.slice sv (layFs fs).length (layFs fs).length] w1 fun e w' => ∃ v ps, e = .returned (.tuple #[v, .bool true]) ∧ SplitS w1 w' fs v ps) := fun w1 sv hb => ksplit_any sv _ fs w1 hfit (by omega) hb
  have HNO := hide hno
  have HEND : Hid (∀ w1 w2, GoE w w1 eb F { p' with out := [] } → Below w1.heap.size w1 w2 → GoE w w2 eb F { p' with out := [] }) := fun w1 w2 hgo hb => by
    obtain ⟨F', h1, h2, h3⟩ := hgo
    exact ⟨F', h1.below hb, h2.then_below hb, h3⟩
  clear h hf hg hg' hl hr hout hfit hno ht hol
  go_enter Tryz.func11, Tryz.ntmps11
  go_wp2_with fail
  refine HT.out.mono ?_
  rintro e w1 ⟨⟨sv, rfl, hby⟩, hgo⟩
  have HS1 := hide (HSP.out w1 sv hby)
  have HGO := hide hgo
  clear hby hgo
  generalize (layFs fs).length = LL at *
  go_wp2_with fail
  refine HS1.out.mono ?_
  rintro e w2 ⟨v, ps, rfl, hsp⟩
  obtain ⟨vs, vc, hvs⟩ := slice_len hsp.row
  have hpl : ps.length = fs.length := by rw [← hsp.fst, List.length_map]
  subst hvs
  rw [hpl]
  have HSPL := hide hsp
  clear hsp hpl
  go_wp2
  go_loopw [9, 10, 11] (fun c r i wr => ∃ (k : Nat) (wv : World), wv = wr ∧ i = .int .i64 (k : Int) ∧ c = .int .i64 (crSum (fs.take k)) ∧ r = .int .i64 (rsSum s (fs.take k)) ∧ k ≤ fs.length ∧ Below w2.heap.size w2 wv) (fun _ _ i _ => fs.length - (intOf i).toNat)
  case atStart => exact ⟨0, _, rfl, rfl, by simp [crSum], by simp [rsSum], Nat.zero_le _, Below.refl _ _⟩
  case round =>
    obtain ⟨k, wv, hwv, rfl, rfl, rfl, hk, hbel⟩ := hrel
    subst hwv
    by_cases hlk : k < fs.length
    · obtain ⟨gg, cc, bv, e1, e2, q0, q1, q2, q3, hbb, hgl⟩ := HSPL.out.at hbel hlk
      have hlen2 : ps.length = fs.length := by rw [← HSPL.out.fst, List.length_map]
      rw [hlen2] at e1
      simp only [Value.slice.injEq, true_and] at e1
      obtain ⟨rfl, rfl⟩ := e1
      have hn0 := HNO.out fs[k] (List.getElem_mem hlk)
      have hct := crSum_take hlk
      have hrt := rsSum_take (s := s) hlk
      have hcl := crSum_le (fs.take k)
      have hrl := rsSum_le s (fs.take k)
      have htl : (fs.take k).length ≤ 1000 := by rw [List.length_take]; omega
      generalize fs[k] = f at *
      generalize crSum (fs.take k) = C at *
      generalize rsSum s (fs.take k) = R at *
      generalize (fs.take k).length = TL at *
      obtain ⟨sb, cb, hbv, -⟩ := bytesIn_len hbb
      subst hbv
      have HBB := hide hbb
      have HCT := hide hct
      have HRT := hide hrt
      have HB := hide hbel
      obtain ⟨hc0, hc1⟩ := hcl
      obtain ⟨hr0, hr1⟩ := hrl
      have hcb : C ≤ 4294967295000 := by omega
      have hrb : R ≤ 1000 := by omega
      have hkI : (0 : Int) ≤ (k : Int) := by omega
      have hkL : (k : Int) < (fs.length : Int) := by omega
      have hwr : IntKind.i64.wrap (R + 1) = R + 1 := by rw [IntKind.wrap_i64]; omega
      clear hbb hct hrt hbel hc1 hr1 htl
      by_cases hs : f.stream = s
      · have hsb : (f.stream == s) = true := by simp [hs]
        have hk0 : (f.kind == 0) = false := by rw [beq_eq_false_iff_ne]; exact fun e => hn0 ⟨hs, Or.inl e⟩
        have hk6 : (f.kind == 6) = false := by rw [beq_eq_false_iff_ne]; exact fun e => hn0 ⟨hs, Or.inr e⟩
        have HCR : Hid (crOf f = 0) := by
          have : f.kind ≠ 6 := by simpa using hk6
          show crOf f = 0
          unfold crOf
          rw [if_neg (fun e => this e.1)]
        by_cases hk2 : f.kind = 2
        · have hk2b : (f.kind == 2) = true := by simp [hk2]
          have HRR : Hid (rsOf s f = 1) := by
            show rsOf s f = 1
            unfold rsOf
            rw [if_pos ⟨hs, hk2⟩]
          generalize f.kind = fk at *
          generalize f.stream = fst at *
          generalize f.flags = ffl at *
          generalize f.body.length = fbl at *
          clear hn0 hs hk2
          go_wp2
          all_goals go_roundw
          case rel => exact ⟨k + 1, _, rfl, by go_num, by rw [HCT.out, HCR.out]; simp, by rw [HRT.out, HRR.out], by omega, HB.out.trans (((Below.refl _ _).alloc (Nat.le_refl _) _).mono HB.out.size)⟩
          case measure => simp [intOf]; omega
        · have hk2b : (f.kind == 2) = false := by rw [beq_eq_false_iff_ne]; exact hk2
          have HRR : Hid (rsOf s f = 0) := by
            show rsOf s f = 0
            unfold rsOf
            rw [if_neg (fun e => hk2 e.2)]
          generalize f.kind = fk at *
          generalize f.stream = fst at *
          generalize f.flags = ffl at *
          generalize f.body.length = fbl at *
          clear hn0 hs hk2
          go_wp2
          all_goals go_roundw
          case rel => exact ⟨k + 1, _, rfl, by go_num, by rw [HCT.out, HCR.out]; simp, by rw [HRT.out, HRR.out]; simp, by omega, HB.out.trans (((Below.refl _ _).alloc (Nat.le_refl _) _).mono HB.out.size)⟩
          case measure => simp [intOf]; omega
      · have hsb : (f.stream == s) = false := by rw [beq_eq_false_iff_ne]; exact hs
        have HRR : Hid (rsOf s f = 0) := by
          show rsOf s f = 0
          unfold rsOf
          rw [if_neg (fun e => hs e.1)]
        by_cases h6 : f.kind = 6 ∧ f.stream = 0 ∧ f.body.length = 4
        · obtain ⟨hk6, hz, h4⟩ := h6
          have hk6b : (f.kind == 6) = true := by simp [hk6]
          have hzb : (f.stream == 0) = true := by simp [hz]
          have h4b : ((f.body.length : Int) == 4) = true := by rw [h4]; rfl
          have HCR : Hid (crOf f = num4 f.body) := by
            show crOf f = _
            unfold crOf
            rw [if_pos ⟨hk6, hz, h4⟩]
          have HV : Hid (∀ o, Calls Tryz.prog 31 #[.slice sb f.body.length cb] (wv.alloc o) fun e w' => e = .returned (.int .i64 (num4 f.body)) ∧ Below (wv.alloc o).heap.size (wv.alloc o) w') := fun o => kvalue_of (HBB.out.chg (Chg.of_below (S := fun _ => False) ((Below.refl _ _).alloc (Nat.le_refl _) _)) (fun _ _ => id)) h4
          have hnl := num4_le f.body
          obtain ⟨hn1, hn2⟩ := hnl
          have hwc : IntKind.i64.wrap (C + num4 f.body) = C + num4 f.body := by rw [IntKind.wrap_i64]; omega
          generalize num4 f.body = NV at *
          generalize f.kind = fk at *
          generalize f.stream = fst at *
          generalize f.flags = ffl at *
          generalize f.body.length = fbl at *
          clear hn0 hs hk6 hz h4
          go_wp2_with fail
          refine (HV.out _).mono ?_
          rintro e w5 ⟨rfl, hb5⟩
          have HB5 := hide hb5
          clear hb5
          go_wp2
          all_goals go_roundw
          case rel => exact ⟨k + 1, _, rfl, by go_num, by rw [HCT.out, HCR.out], by rw [HRT.out, HRR.out]; simp, by omega, HB.out.trans ((((Below.refl _ _).alloc (Nat.le_refl _) _).trans (HB5.out.mono (by simp))).mono HB.out.size)⟩
          case measure => simp [intOf]; omega
        · have HCR : Hid (crOf f = 0) := by
            show crOf f = 0
            unfold crOf
            rw [if_neg h6]
          have hcases : (f.kind == 6) = false ∨ ((f.kind == 6) = true ∧ (f.stream == 0) = false) ∨ ((f.kind == 6) = true ∧ (f.stream == 0) = true ∧ ((f.body.length : Int) == 4) = false) := by
            by_cases a : f.kind = 6
            · by_cases b : f.stream = 0
              · refine Or.inr (Or.inr ⟨by simp [a], by simp [b], ?_⟩)
                rw [beq_eq_false_iff_ne]
                intro e
                exact h6 ⟨a, b, by omega⟩
              · exact Or.inr (Or.inl ⟨by simp [a], by rw [beq_eq_false_iff_ne]; exact b⟩)
            · exact Or.inl (by rw [beq_eq_false_iff_ne]; exact a)
          generalize f.kind = fk at *
          generalize f.stream = fst at *
          generalize f.flags = ffl at *
          generalize f.body.length = fbl at *
          clear hn0 hs h6
          rcases hcases with ha | ⟨ha, hb⟩ | ⟨ha, hb, hc⟩
          all_goals go_wp2
          all_goals go_roundw
          case' rel => exact ⟨k + 1, _, rfl, by go_num, by rw [HCT.out, HCR.out]; simp, by rw [HRT.out, HRR.out]; simp, by omega, HB.out.trans (((Below.refl _ _).alloc (Nat.le_refl _) _).mono HB.out.size)⟩
          all_goals first
            | exact ⟨k + 1, _, rfl, by go_num, by rw [HCT.out, HCR.out]; simp, by rw [HRT.out, HRR.out]; simp, by omega, HB.out.trans (((Below.refl _ _).alloc (Nat.le_refl _) _).mono HB.out.size)⟩
            | (simp [intOf]; omega)
    · have hke : k = fs.length := by omega
      have HB := hide hbel
      have HTK : Hid (fs.take k = fs) := by show fs.take k = fs; rw [hke, List.take_of_length_le (Nat.le_refl _)]
      clear hbel hke
      go_wp2
      go_ret2
      rw [HTK.out]
      exact ⟨rfl, HEND.out w1 wv HGO.out (HSPL.out.bel.trans (HB.out.mono HSPL.out.bel.size))⟩
end Go.Proofs.YtiphkngfbpdeoaaGreatDoor
/-
  The law's own: gone.
-/
namespace Go.Proofs.YtiphkngfbpdeoaaGreatDoor
set_option linter.unusedVariables false
set_option linter.unusedSimpArgs false
open Go.RowKit

set_option maxRecDepth 100000 in
set_option maxHeartbeats 800000 in
/-- Of a stream that was reset nothing can be had. -/
theorem kgone_true (eb : Nat) (F : Nat → Prop) (p : GEnd) (s : GSt) (w : World) (h : StE w eb F p) (hs : s ∈ p.K) (hr : s.st.reset ≠ 0) (hl : p.m.fault = 0) :
    Calls Tryz.prog 12 #[.pointer (some ⟨eb, 0, none⟩), .int .i64 s.st.number] w fun e w' => e = .returned (.bool true) ∧ Below w.heap.size w w' := by
  have kc : ∀ (w : World) (C : Array Value) (n c : Nat), (convert 38 38 (.slice (some ⟨w.heap.size, 0, none⟩) n c)).run Tryz.prog (w.alloc (.cells C 5)) = .ok (.slice (some ⟨w.heap.size, 0, none⟩) n c) (w.alloc (.cells C 5 (C.size, C.size + 1))) := fun w C n c => Lib.run_convert_bytes_const (P := Tryz.prog) w 38 5 C n c Tryz.underlying38 Tryz.underlying5
  have HR := hide (c_read_reset (n := 1099511627776) h hs hr (by omega))
  have HW : Hid (∀ wx bv, Below w.heap.size w wx → Calls Tryz.prog 21 #[.pointer (some ⟨eb, 0, none⟩), .int .i64 s.st.number, bv] wx fun e w' => e = .returned (.tuple #[.int .i64 0, .int .i64 6]) ∧ w' = wx) := fun wx bv hb => c_write_reset (h.below hb) hs hr hl
  have HC : Hid (∀ wx, Below w.heap.size w wx → Calls Tryz.prog 32 #[.pointer (some ⟨eb, 0, none⟩), .int .i64 s.st.number] wx fun e w' => e = .returned (.int .i64 6) ∧ w' = wx) := fun wx hb => c_close_reset (h.below hb) hs hr hl
  have HX : Hid (∀ wx, Below w.heap.size w wx → Calls Tryz.prog 22 #[.pointer (some ⟨eb, 0, none⟩), .int .i64 s.st.number] wx fun e w' => e = .returned (.int .i64 6) ∧ w' = wx) := fun wx hb => c_reset_reset (h.below hb) hs hr hl
  have hbA : ∀ o, Below w.heap.size w (w.alloc o) := fun o => (Below.refl _ _).alloc (Nat.le_refl _) _
  have HBA := hide hbA
  clear h hs hr hl hbA
  generalize s.st.number = n at *
  go_enter Tryz.func12, Tryz.ntmps12
  go_wp2_with fail
  refine HR.out.mono ?_
  rintro e w' ⟨rfl, hw'⟩
  rw [hw']
  clear hw' w'
  go_wp2_with fail
  refine (HW.out _ _ (HBA.out _)).mono ?_
  rintro e w' ⟨rfl, hw'⟩
  rw [hw']
  clear hw' w'
  go_wp2_with fail
  refine (HC.out _ (HBA.out _)).mono ?_
  rintro e w' ⟨rfl, hw'⟩
  rw [hw']
  clear hw' w'
  go_wp2_with fail
  refine (HX.out _ (HBA.out _)).mono ?_
  rintro e w' ⟨rfl, hw'⟩
  rw [hw']
  clear hw' w'
  go_wp2
  go_ret
  exact ⟨rfl, HBA.out _⟩
end Go.Proofs.YtiphkngfbpdeoaaGreatDoor
/-
  append that must grow, whatever the row.
-/
namespace Go.Proofs.YtiphkngfbpdeoaaGreatDoor
set_option linter.unusedVariables false
set_option linter.unusedSimpArgs false
open Go.RowKit

theorem run_app_grow (w : World) (t ty : TypeId) (i : TypeInfo) (ht : Tryz.prog.underlying t = some (.slice 5)) (hi : Tryz.prog.info? 5 = some i) (hz : i.zero = some (.int .u8 0)) (hs : i.size = 1) (hby : i.bytes = 1)
    (b : Addr) (n cap : Nat) (xs : List Value) (hl : xs.length = n) (holds : ∀ j v, xs[j]? = some v → w.cell? (b.add j) = some v)
    (a : Addr) (m c : Nat) (news : List Value) (hm : news.length = m) (hnews : ∀ j v, news[j]? = some v → w.cell? (a.add j) = some v) (hg : cap < n + m) (h63 : n + m ≤ 1073741824) :
    ∃ v' w', (Builtin.append_ #[t, t] ty #[.slice (some b) n cap, .slice (some a) m c]).run Tryz.prog w = .ok v' w' ∧ w'.ownsRow w.heap.size 5 1 v' (n + m) (xs ++ news) ∧ Below w.heap.size w w' := by
  have h := run_append_grow (P := Tryz.prog) (w := w) t ty 5 i (.int .u8 0) ht hi hz b n cap xs (by rw [hs, hl, Nat.mul_one]) holds a m c news (by rw [hs, hm, Nat.mul_one]) hnews hg (by omega) (growslice_fits (by omega) (by rw [hby]; omega))
  refine ⟨_, _, h, ?_, ?_⟩
  · have hge := grownCap_ge w (n + m) cap 5
    have hcm : grownCap w (n + m) cap 5 ≤ maxLen := grownCap_le_maxLen w (n + m) cap 5 (by unfold maxLen; omega)
    have hlen : (xs ++ news).length = (n + m) * 1 := by rw [List.length_append, hl, hm, Nat.mul_one]
    refine ⟨hlen, .inr ⟨w.heap.size, _, _, rfl, Nat.le_refl _, heap_alloc_new w.drew _, hge, hcm, ?_, ?_⟩⟩
    · simp only [Array.size_append, List.size_toArray, size_zeroCells, hl, hm]
      show n + m + (grownCap w (n + m) cap 5 - (n + m)) * 1 = _
      omega
    · simp only [Array.toList_append, List.append_assoc]
      rw [← List.append_assoc, ← hlen]
      exact List.take_left
  · have := (Below.refl w.heap.size w).alloc (Nat.le_refl _) (.cells (xs.toArray ++ news.toArray ++ Builtin.zeroCells (Value.int .u8 0).cells (grownCap w (n + m) cap 5 - (n + m))) 5)
    exact ⟨this.os, this.tape, this.output, this.size, this.block⟩
/-- As a law for the walk. -/
theorem wpList_grow (w : World) {ops : Array Oper} {rest : List Oper} {o : Oper} {a : Act} {Q : Exit → Act → World → Prop} (hgd : o.guard = none) (s y : Operand) (t : TypeId)
    (ho : o.op = .call { callee := .builtin .append, args := #[s, y], argTypes := #[t, t] })
    (i : TypeInfo) (ht : Tryz.prog.underlying t = some (.slice 5)) (hi : Tryz.prog.info? 5 = some i) (hz : i.zero = some (.int .u8 0)) (hs : i.size = 1) (hby : i.bytes = 1)
    (b : Addr) (n cap : Nat) (xs : List Value) (hl : xs.length = n) (hsv : a.eval s = .slice (some b) n cap) (holds : ∀ j v, xs[j]? = some v → w.cell? (b.add j) = some v)
    (ad : Addr) (m c : Nat) (news : List Value) (hm : news.length = m) (hyv : a.eval y = .slice (some ad) m c) (hnews : ∀ j v, news[j]? = some v → w.cell? (ad.add j) = some v) (hg : cap < n + m) (h63 : n + m ≤ 1073741824)
    (hK : ∀ v' w', w'.ownsRow w.heap.size 5 1 v' (n + m) (xs ++ news) → Below w.heap.size w w' → wpList Tryz.prog ops Q rest (a.put o.dst v') w') :
    wpList Tryz.prog ops Q (o :: rest) a w := by
  obtain ⟨v', w', hr, h2, h3⟩ := run_app_grow w t o.type i ht hi hz hs hby b n cap xs hl holds ad m c news hm hnews hg h63
  refine wpList_plain hgd fun K hK' => ?_
  unfold Oper.wp
  simp [execOp, ho, resolve, invoke, builtin, hsv, hyv, hr, Result.andThen]
  exact hK' _ _ (hK v' w' h2 h3)
end Go.Proofs.YtiphkngfbpdeoaaGreatDoor
/-
  The end that the law makes: its states, without where things lie.
-/
namespace Go.Proofs.YtiphkngfbpdeoaaGreatDoor
set_option linter.unusedVariables false
set_option linter.unusedSimpArgs false
open Go.RowKit

/-- A new end. -/
def EndM.new (i c b k : Int) (mb : Nat) : EndM := ⟨false, 0, 0, b, 32, 32, c - 32, i, false, 0, false, 32, 32, c, k, 0, 1, 0, false, false, 0, 0, .map (some mb), .slice none 0 0, 0, .slice none 0 0, 0, 0, 0, 0, false, 0, .slice none 0 0, false, 0, 128, 0, .slice none 0 0, 128, false, false, .slice none 0 0, .slice none 0 0, .slice none 0 0, 2, 0, 128, 0, .slice none 0 0, .slice none 0 0⟩
def pNew (i c b k : Int) : GEnd := ⟨(EndM.new i c b k 0).bare, [], [], [], [], [], []⟩
/-- It has heard the greeting and Settings with 0. -/
def pHeard (i c b k : Int) : GEnd := { pNew i c b k with m := { (pNew i c b k).m with greeted := 7, begun := true, other := 0, answers := .tuple #[] }, ans := [⟨3, 1, [], .slice none 0 0⟩] }
/-- It has said its own Settings and its answer. -/
def pSaid (i c b k : Int) : GEnd := { pNew i c b k with m := { (pNew i c b k).m.setd with greeted := 7, begun := true, other := 0, answers := .tuple #[] } }
theorem right_of {k f s : Int} {body : List UInt8} (h : Right k f s body) : Right k f s body := h
theorem feed_heard (i c b k : Int) : FeedR (pNew i c b k) (greetB ++ lay 3 0 0 (four4 0)) (pHeard i c b k) := by
  refine (feedR_greet rfl rfl).app ?_
  refine feedR_lay ?_ rfl rfl rfl ?_
  · constructor <;> decide
  · have h0 : num4 (four4 0) = 0 := by decide
    have := Come.settings (p := { pNew i c b k with m := { (pNew i c b k).m with greeted := 7 } }) 0 (four4 0) ⟨by omega, by omega⟩ (by decide) rfl rfl rfl rfl
    rw [h0] at this
    exact this
end Go.Proofs.YtiphkngfbpdeoaaGreatDoor
/-
  The end that the law makes: what it says first, four streams, its first credit.
-/
namespace Go.Proofs.YtiphkngfbpdeoaaGreatDoor
set_option linter.unusedVariables false
set_option linter.unusedSimpArgs false
open Go.RowKit

theorem lay_len (k f s : Int) (b : List UInt8) : (lay k f s b).length = 6 + b.length := lay_length k f s b
/-- What it says first. -/
def firstB (i : Int) : List UInt8 := lay 3 0 0 (four4 i.toNat) ++ lay 3 1 0 []
theorem firstB_len (i : Int) : (firstB i).length = 16 := by unfold firstB; rw [List.length_append, lay_len, lay_len]; rfl
theorem runs_said (i c b k : Int) : Runs 16 (pHeard i c b k) { pSaid i c b k with out := firstB i } := by
  refine .step (q := { pHeard i c b k with m := (pHeard i c b k).m.setd, out := lay 3 0 0 (four4 i.toNat) }) (by show (0 : Int) < 16; omega) rfl ?_
  refine .step (q := { pSaid i c b k with out := firstB i }) ?_ rfl (.stop ?_)
  · show ((lay 3 0 0 (four4 i.toNat)).length : Int) < 16
    rw [lay_len]
    show ((6 + 4 : Nat) : Int) < 16
    omega
  · show (16 : Int) ≤ ((firstB i).length : Int)
    rw [firstB_len]
    omega
/-- With some streams. -/
def pOpen (i c b k : Int) : Nat → GEnd
  | 0 => pSaid i c b k
  | j + 1 => (pOpen i c b k j).begin.opened (2 * j + 1) false
theorem right_heads (n : Int) (h0 : 1 ≤ n) (h1 : n ≤ 7) : Right 1 4 n [] := by
  refine ⟨by omega, by omega, by omega, by omega, by omega, by omega, ?_, by simp, by decide, by decide⟩
  unfold sFits
  simp
  omega
theorem feed_open0 (i c b k : Int) : FeedR (pOpen i c b k 0) (lay 1 4 1 []) (pOpen i c b k 1) :=
  feedR_lay (right_heads 1 (by omega) (by omega)) rfl rfl rfl (Come.headers 4 1 ⟨by omega, by omega⟩ (by decide) rfl (by show (0 : Int) < 1; omega) (by show (0 : Nat) < 4; omega) (fun x hx => by cases hx) (fun i h => by simp [pOpen, pSaid, pNew] at h) rfl rfl)
theorem feed_open1 (i c b k : Int) : FeedR (pOpen i c b k 1) (lay 1 4 3 []) (pOpen i c b k 2) :=
  feedR_lay (right_heads 3 (by omega) (by omega)) rfl rfl rfl (Come.headers 4 3 ⟨by omega, by omega⟩ (by decide) rfl (by show (1 : Int) < 3; omega) (by show (1 : Nat) < 4; omega) (fun x hx => by
    have : x = ⟨0, StM.fresh 1 false, [], []⟩ := by simpa [pOpen, pSaid, pNew, GEnd.opened, GEnd.begin] using hx
    rw [this]; decide) (by
    show ∀ i (h : i + 1 < ([1, 3] : List Int).length), ([1, 3] : List Int)[i] ≤ ([1, 3] : List Int)[i + 1]
    intro i h
    have hc : i = 0 := by simp at h; omega
    subst hc; simp) rfl rfl)
theorem feed_open2 (i c b k : Int) : FeedR (pOpen i c b k 2) (lay 1 4 5 []) (pOpen i c b k 3) :=
  feedR_lay (right_heads 5 (by omega) (by omega)) rfl rfl rfl (Come.headers 4 5 ⟨by omega, by omega⟩ (by decide) rfl (by show (3 : Int) < 5; omega) (by show (2 : Nat) < 4; omega) (fun x hx => by
    have : x = ⟨0, StM.fresh 1 false, [], []⟩ ∨ x = ⟨0, StM.fresh 3 false, [], []⟩ := by simpa [pOpen, pSaid, pNew, GEnd.opened, GEnd.begin] using hx
    rcases this with rfl | rfl <;> decide) (by
    show ∀ i (h : i + 1 < ([1, 3, 5] : List Int).length), ([1, 3, 5] : List Int)[i] ≤ ([1, 3, 5] : List Int)[i + 1]
    intro i h
    have hc : i = 0 ∨ i = 1 := by simp at h; omega
    rcases hc with rfl | rfl <;> simp) rfl rfl)
theorem feed_open3 (i c b k : Int) : FeedR (pOpen i c b k 3) (lay 1 4 7 []) (pOpen i c b k 4) :=
  feedR_lay (right_heads 7 (by omega) (by omega)) rfl rfl rfl (Come.headers 4 7 ⟨by omega, by omega⟩ (by decide) rfl (by show (5 : Int) < 7; omega) (by show (3 : Nat) < 4; omega) (fun x hx => by
    have : x = ⟨0, StM.fresh 1 false, [], []⟩ ∨ x = ⟨0, StM.fresh 3 false, [], []⟩ ∨ x = ⟨0, StM.fresh 5 false, [], []⟩ := by simpa [pOpen, pSaid, pNew, GEnd.opened, GEnd.begin] using hx
    rcases this with rfl | rfl | rfl <;> decide) (by
    show ∀ i (h : i + 1 < ([1, 3, 5, 7] : List Int).length), ([1, 3, 5, 7] : List Int)[i] ≤ ([1, 3, 5, 7] : List Int)[i + 1]
    intro i h
    have hc : i = 0 ∨ i = 1 ∨ i = 2 := by simp at h; omega
    rcases hc with rfl | rfl | rfl <;> simp) rfl rfl)
/-- All that an end has to make, where it has said its Settings and owes no answers. -/
theorem next_calm {p : GEnd} (ht : p.m.told = true) (ha : p.ans = []) (hw : p.m.waits = true) : p.next = p.oPing.or (p.oCredit.or (p.oStream.or p.oReset)) := by
  have h1 : p.oFirst = none := by unfold GEnd.oFirst; rw [ht]; rfl
  have h2 : p.oAnswer = none := by unfold GEnd.oAnswer; rw [ha]
  have h3 : p.oSettings = none := by unfold GEnd.oSettings; rw [hw]; rfl
  unfold GEnd.next
  rw [h1, h2, h3]
  rfl
end Go.Proofs.YtiphkngfbpdeoaaGreatDoor
/-
  The law's own: pick, tameConfig.
-/
namespace Go.Proofs.YtiphkngfbpdeoaaGreatDoor
set_option linter.unusedVariables false
set_option linter.unusedSimpArgs false
open Go.RowKit

theorem kpick_neg {c n : Int} (hc : c < 0) (hn : 0 < n) : 0 ≤ -(c + 1).tmod n ∧ -(c + 1).tmod n < n := by
  have e : -(c + 1).tmod n = (-(c + 1)) % n := by
    rw [← Int.neg_tmod]
    exact Int.tmod_eq_emod_of_nonneg (by omega)
  rw [e]
  exact ⟨Int.emod_nonneg _ (by omega), Int.emod_lt_of_pos _ hn⟩
set_option maxHeartbeats 400000 in
theorem kpick_any (c n : Int) (w : World) (hn : 0 < n) (hn2 : n ≤ 4611686018427387904) (hc : -9223372036854775808 ≤ c ∧ c ≤ 9223372036854775807) :
    Calls Tryz.prog 16 #[.int .i64 c, .int .i64 n] w fun e w' => ∃ r : Int, e = .returned (.int .i64 r) ∧ 0 ≤ r ∧ r < n ∧ w' = w := by
  obtain ⟨hc1, hc2⟩ := hc
  have hnz : ¬ n = 0 := by omega
  by_cases hneg : c < 0
  · obtain ⟨h0, h1⟩ := kpick_neg hneg hn
    have H0 : Hid (0 ≤ -(c + 1).tmod n) := h0
    have H1 : Hid (-(c + 1).tmod n < n) := h1
    clear h0 h1
    go_enter Tryz.func16, Tryz.ntmps16
    go_wp2
    go_ret
    exact ⟨_, rfl, H0.out, H1.out, rfl⟩
  · go_enter Tryz.func16, Tryz.ntmps16
    go_wp2
    go_ret
    exact ⟨_, rfl, Int.emod_nonneg _ (by omega), Int.emod_lt_of_pos _ hn, rfl⟩
/-- A configuration that may be. -/
structure CfgOk (i c b k : Int) : Prop where
  i0 : 0 ≤ i
  i1 : i ≤ 1000
  c0 : 32 ≤ c
  c1 : c ≤ 1000
  b0 : 1 ≤ b
  b1 : b ≤ 1000
  k0 : c ≤ k
  k1 : k ≤ 1000

set_option maxHeartbeats 400000 in
theorem kpick_fun (c n : Int) (w : World) (hn : 0 < n) (hc : I64 c) :
    Calls Tryz.prog 16 #[.int .i64 c, .int .i64 n] w fun e w' => e = .returned (.int .i64 (pkI c n)) ∧ w' = w := by
  obtain ⟨hc1, hc2⟩ := hc
  have hnz : ¬ n = 0 := by omega
  by_cases hneg : c < 0
  · have e : pkI c n = -(c + 1).tmod n := by unfold pkI; rw [if_pos hneg]
    rw [e]
    clear e
    go_enter Tryz.func16, Tryz.ntmps16
    go_wp2
    go_ret
    exact ⟨rfl, rfl⟩
  · have e : pkI c n = c % n := by unfold pkI; rw [if_neg hneg]
    rw [e]
    clear e
    go_enter Tryz.func16, Tryz.ntmps16
    go_wp2
    go_ret
    exact ⟨rfl, rfl⟩
theorem blk_alloc {W : World} {b : Nat} {o x : Obj} (h : W.heap[b]? = some x) : (W.alloc o).heap[b]? = some x := by
  rw [heap_alloc_old _ _ (Array.getElem?_eq_some_iff.1 h).1]
  exact h
set_option maxRecDepth 100000 in
set_option maxHeartbeats 1600000 in
theorem tameConfig_any (x0 x1 x2 x3 : Int) (w : World) (h0 : I64 x0) (h1 : I64 x1) (h2 : I64 x2) (h3 : I64 x3) :
    Calls Tryz.prog 5 #[.agg #[.int .i64 x0, .int .i64 x1, .int .i64 x2, .int .i64 x3]] w fun e w' => ∃ i c b k, e = .returned (.agg #[.int .i64 i, .int .i64 c, .int .i64 b, .int .i64 k]) ∧ CfgOk i c b k ∧ Below w.heap.size w w' := by
  have HPK : Hid (∀ c n w, 0 < n → I64 c → Calls Tryz.prog 16 #[.int .i64 c, .int .i64 n] w fun e w' => e = .returned (.int .i64 (pkI c n)) ∧ w' = w) := fun c n w hn hc => kpick_fun c n w hn hc
  obtain ⟨i, hi⟩ : ∃ i, i = pkI x0 1001 := ⟨_, rfl⟩
  obtain ⟨b0, hb0⟩ : ∃ b, b = pkI x2 1000 := ⟨_, rfl⟩
  obtain ⟨c0, hc0⟩ : ∃ c, c = pkI x1 969 := ⟨_, rfl⟩
  have qi := pkI_bounds x0 (n := 1001) (by omega)
  have qb := pkI_bounds x2 (n := 1000) (by omega)
  have qc := pkI_bounds x1 (n := 969) (by omega)
  rw [← hi] at qi
  rw [← hb0] at qb
  rw [← hc0] at qc
  obtain ⟨qi0, qi1⟩ := qi
  obtain ⟨qb0, qb1⟩ := qb
  obtain ⟨qc0, qc1⟩ := qc
  have qk := pkI_bounds x3 (n := 1000 - (32 + c0) + 1) (by omega)
  obtain ⟨k0, hk0⟩ : ∃ k, k = pkI x3 (1000 - (32 + c0) + 1) := ⟨_, rfl⟩
  rw [← hk0] at qk
  obtain ⟨qk0, qk1⟩ := qk
  have w1 : IntKind.i64.wrap (1 + b0) = 1 + b0 := by rw [IntKind.wrap_i64]; omega
  have w2 : IntKind.i64.wrap (32 + c0) = 32 + c0 := by rw [IntKind.wrap_i64]; omega
  have w3 : IntKind.i64.wrap (1000 - (32 + c0)) = 1000 - (32 + c0) := by rw [IntKind.wrap_i64]; omega
  have w4 : IntKind.i64.wrap (1000 - (32 + c0) + 1) = 1000 - (32 + c0) + 1 := by rw [IntKind.wrap_i64]; omega
  have w5 : IntKind.i64.wrap (32 + c0 + k0) = 32 + c0 + k0 := by rw [IntKind.wrap_i64]; omega
  have n4 : 0 < 1000 - (32 + c0) + 1 := by omega
  have hi' : pkI x0 1001 = i := hi.symm
  have hb' : pkI x2 1000 = b0 := hb0.symm
  have hc' : pkI x1 969 = c0 := hc0.symm
  have hk' : pkI x3 (1000 - (32 + c0) + 1) = k0 := hk0.symm
  have hOK : CfgOk i (32 + c0) (1 + b0) (32 + c0 + k0) := ⟨by omega, by omega, by omega, by omega, by omega, by omega, by omega, by omega⟩
  have HOK := hide hOK
  clear hOK hi hb0 hc0 hk0
  go_enter Tryz.func5, Tryz.ntmps5
  go_upto_region 1 with fail
  go_cut [3] (fun s3 wx => s3 = .pointer (some ⟨w.heap.size + 1 + 1, 0, none⟩) ∧ wx = (((w.alloc (.cells #[.int .i64 x0, .int .i64 x1, .int .i64 x2, .int .i64 x3] 23)).alloc (.cells #[.int .i64 0, .int .i64 0, .int .i64 0, .int .i64 0] 23)).alloc (.cells #[.int .i64 i, .int .i64 0, .int .i64 (1 + b0), .int .i64 0] 23)).drew)
  case first =>
    go_region_held3 (fun w' => w'.cell? ⟨w.heap.size, 0, none⟩ = some (.int .i64 x0) ∧ w'.cell? ⟨w.heap.size, 1, none⟩ = some (.int .i64 x1) ∧ w'.cell? ⟨w.heap.size, 2, none⟩ = some (.int .i64 x2) ∧ w'.cell? ⟨w.heap.size, 3, none⟩ = some (.int .i64 x3)) (go_keep)
      (first | (go_at_call 16; refine (HPK.out _ _ _ (by first | decide | assumption) (by assumption)).mono ?_; rintro e w' ⟨rfl, rfl⟩))
    all_goals (go_wp2_with fail; go_meet)
    all_goals (simp only [hi', hb', w1]; exact ⟨trivial, trivial⟩)
  case rest =>
    obtain ⟨rfl, hwc⟩ := hcut
    rw [hwc]
    clear hwc
    go_wp2_with fail
    refine (HPK.out _ _ _ (by decide) h1).mono ?_
    rintro e w' ⟨rfl, hw'⟩
    rw [hw', hc']
    clear hw' w'
    go_upto_region 3 with fail
    obtain ⟨wB, hwB⟩ : ∃ wB, wB = (((w.alloc (.cells #[.int .i64 x0, .int .i64 x1, .int .i64 x2, .int .i64 x3] 23)).alloc (.cells #[.int .i64 0, .int .i64 0, .int .i64 0, .int .i64 0] 23)).alloc (.cells #[.int .i64 i, .int .i64 (32 + c0), .int .i64 (1 + b0), .int .i64 0] 23)).drew := ⟨_, rfl⟩
    rw [← hwB]
    have ha : wB.heap[w.heap.size]? = some (.cells #[.int .i64 x0, .int .i64 x1, .int .i64 x2, .int .i64 x3] 23 (0, 0)) := by
      rw [hwB]
      exact blk_alloc (blk_alloc (heap_alloc_new w _))
    have hb : wB.heap[w.heap.size + 1]? = some (.cells #[.int .i64 0, .int .i64 0, .int .i64 0, .int .i64 0] 23 (0, 0)) := by
      rw [hwB]
      have := heap_alloc_new (w.alloc (.cells #[.int .i64 x0, .int .i64 x1, .int .i64 x2, .int .i64 x3] 23)) (.cells #[.int .i64 0, .int .i64 0, .int .i64 0, .int .i64 0] 23)
      rw [World.size_alloc] at this
      exact blk_alloc this
    have hc : wB.heap[w.heap.size + 1 + 1]? = some (.cells #[.int .i64 i, .int .i64 (32 + c0), .int .i64 (1 + b0), .int .i64 0] 23 (0, 0)) := by
      rw [hwB]
      have := heap_alloc_new ((w.alloc (.cells #[.int .i64 x0, .int .i64 x1, .int .i64 x2, .int .i64 x3] 23)).alloc (.cells #[.int .i64 0, .int .i64 0, .int .i64 0, .int .i64 0] 23)) (.cells #[.int .i64 i, .int .i64 (32 + c0), .int .i64 (1 + b0), .int .i64 0] 23)
      rw [World.size_alloc, World.size_alloc] at this
      exact this
    have hbe : Below w.heap.size w wB := by
      rw [hwB]
      have := (((Below.refl w.heap.size w).alloc (Nat.le_refl _) (.cells #[.int .i64 x0, .int .i64 x1, .int .i64 x2, .int .i64 x3] 23)).alloc (by simp) (.cells #[.int .i64 0, .int .i64 0, .int .i64 0, .int .i64 0] 23)).alloc (by simp; omega) (.cells #[.int .i64 i, .int .i64 (32 + c0), .int .i64 (1 + b0), .int .i64 0] 23)
      exact ⟨this.os, this.tape, this.output, this.size, this.block⟩
    have y3 : wB.cell? ⟨w.heap.size, 3, none⟩ = some (.int .i64 x3) := by rw [cell_of_row _ _ _ _ _ _ ha]; rfl
    have y1 : wB.cell? ⟨w.heap.size + 1 + 1, 1, none⟩ = some (.int .i64 (32 + c0)) := by rw [cell_of_row _ _ _ _ _ _ hc]; rfl
    have z3 : wB.cell? ⟨w.heap.size + 1 + 1, 3, none⟩ = some (.int .i64 0) := by rw [cell_of_row _ _ _ _ _ _ hc]; rfl
    have zf : wB.frozen? ⟨w.heap.size + 1 + 1, 3, none⟩ = false := by simp [World.frozen?, hc]
    have hKP : (wB.setCell ⟨w.heap.size + 1 + 1, 3, none⟩ (.int .i64 (32 + c0 + k0))).cell? ⟨w.heap.size, 3, none⟩ = some (.int .i64 x3) ∧ (wB.setCell ⟨w.heap.size + 1 + 1, 3, none⟩ (.int .i64 (32 + c0 + k0))).cell? ⟨w.heap.size + 1 + 1, 1, none⟩ = some (.int .i64 (32 + c0)) := by
      have hset : Chg (fun j => j = w.heap.size + 1 + 1) wB (wB.setCell ⟨w.heap.size + 1 + 1, 3, none⟩ (.int .i64 (32 + c0 + k0))) := chg_set (Chg.refl _ _) rfl
      refine ⟨?_, ?_⟩
      · rw [hset.cell (p := ⟨w.heap.size, 3, none⟩) (lt_of_block ha) (by show ¬ w.heap.size = w.heap.size + 1 + 1; omega)]
        exact y3
      · rw [cell_of_row _ _ _ _ _ _ (blk_set hc)]
        rfl
    have HKP := hide hKP
    have HB := hide hb
    have HC := hide hc
    have HBE := hide hbe
    clear hwB ha hb hc hbe hKP
    go_cut [] (fun wx => wx.heap[w.heap.size + 1 + 1]? = some (.cells #[.int .i64 i, .int .i64 (32 + c0), .int .i64 (1 + b0), .int .i64 (32 + c0 + k0)] 23 (0, 0)) ∧ wx.heap[w.heap.size + 1]? = some (.cells #[.int .i64 0, .int .i64 0, .int .i64 0, .int .i64 0] 23 (0, 0)) ∧ Below w.heap.size w wx)
    case first =>
      go_region_held3 (fun w' => w'.cell? ⟨w.heap.size, 3, none⟩ = some (.int .i64 x3) ∧ w'.cell? ⟨w.heap.size + 1 + 1, 1, none⟩ = some (.int .i64 (32 + c0))) (first | exact HKP.out | go_keep)
        (first | (go_at_call 16; refine (HPK.out _ _ _ (by first | assumption | (rw [w3, w4]; assumption)) (by assumption)).mono ?_; rintro e w' ⟨rfl, rfl⟩))
      all_goals (go_wp2_with fail; go_meet)
      all_goals
        skip
        have hset : Chg (fun j => j = w.heap.size + 1 + 1) wB (wB.setCell ⟨w.heap.size + 1 + 1, 3, none⟩ (.int .i64 (32 + c0 + k0))) := chg_set (Chg.refl _ _) rfl
        refine ⟨blk_set HC.out, ?_, ?_⟩
        · have := hset.block (w.heap.size + 1) (lt_of_block HB.out) (by omega)
          exact this.trans HB.out
        · have := below_of_chg HBE.out hset (fun j e => by omega)
          exact ⟨this.os, this.tape, this.output, this.size, this.block⟩
    case rest =>
      obtain ⟨hc, hb, hbe⟩ := hcut
      obtain ⟨wD, hwD⟩ : ∃ wD, wD = wc := ⟨wc, rfl⟩
      subst hwD
      have c0' : wD.cell? ⟨w.heap.size + 1 + 1, 0, none⟩ = some (.int .i64 i) := by rw [cell_of_row _ _ _ _ _ _ hc]; rfl
      have c1' : wD.cell? ⟨w.heap.size + 1 + 1, 1, none⟩ = some (.int .i64 (32 + c0)) := by rw [cell_of_row _ _ _ _ _ _ hc]; rfl
      have c2' : wD.cell? ⟨w.heap.size + 1 + 1, 2, none⟩ = some (.int .i64 (1 + b0)) := by rw [cell_of_row _ _ _ _ _ _ hc]; rfl
      have c3' : wD.cell? ⟨w.heap.size + 1 + 1, 3, none⟩ = some (.int .i64 (32 + c0 + k0)) := by rw [cell_of_row _ _ _ _ _ _ hc]; rfl
      have r0 : wD.cell? ⟨w.heap.size + 1, 0, none⟩ = some (.int .i64 0) := by rw [cell_of_row _ _ _ _ _ _ hb]; rfl
      have r1 : wD.cell? ⟨w.heap.size + 1, 1, none⟩ = some (.int .i64 0) := by rw [cell_of_row _ _ _ _ _ _ hb]; rfl
      have r2 : wD.cell? ⟨w.heap.size + 1, 2, none⟩ = some (.int .i64 0) := by rw [cell_of_row _ _ _ _ _ _ hb]; rfl
      have r3 : wD.cell? ⟨w.heap.size + 1, 3, none⟩ = some (.int .i64 0) := by rw [cell_of_row _ _ _ _ _ _ hb]; rfl
      have f0 : wD.frozen? ⟨w.heap.size + 1, 0, none⟩ = false := by simp [World.frozen?, hb]
      have f1 : wD.frozen? ⟨w.heap.size + 1, 1, none⟩ = false := by simp [World.frozen?, hb]
      have f2 : wD.frozen? ⟨w.heap.size + 1, 2, none⟩ = false := by simp [World.frozen?, hb]
      have f3 : wD.frozen? ⟨w.heap.size + 1, 3, none⟩ = false := by simp [World.frozen?, hb]
      have hbb : ((((wD.setCell ⟨w.heap.size + 1, 0, none⟩ (.int .i64 i)).setCell ⟨w.heap.size + 1, 1, none⟩ (.int .i64 (32 + c0))).setCell ⟨w.heap.size + 1, 2, none⟩ (.int .i64 (1 + b0))).setCell ⟨w.heap.size + 1, 3, none⟩ (.int .i64 (32 + c0 + k0))).heap[w.heap.size + 1]? = some (.cells #[.int .i64 i, .int .i64 (32 + c0), .int .i64 (1 + b0), .int .i64 (32 + c0 + k0)] 23 (0, 0)) := blk_set (blk_set (blk_set (blk_set hb)))
      have s0 := cell_of_row _ _ 0 _ _ _ hbb
      have s1 := cell_of_row _ _ 1 _ _ _ hbb
      have s2 := cell_of_row _ _ 2 _ _ _ hbb
      have s3 := cell_of_row _ _ 3 _ _ _ hbb
      have HS0 := hide s0
      have HS1 := hide s1
      have HS2 := hide s2
      have HS3 := hide s3
      have HBE2 := hide hbe
      clear hc hb hbe hbb s0 s1 s2 s3
      go_wp2
      refine bodyPost_ret (v := .agg #[.int .i64 i, .int .i64 (32 + c0), .int .i64 (1 + b0), .int .i64 (32 + c0 + k0)]) ?_ rfl ⟨_, _, _, _, rfl, HOK.out, ?_⟩
      · have e0 := HS0.out
        have e1 := HS1.out
        have e2 := HS2.out
        have e3 := HS3.out
        simp [results, Tryz.results5, go_sem, e0, e1, e2, e3]
      · have hset : Chg (fun j => j = w.heap.size + 1) wD ((((wD.setCell ⟨w.heap.size + 1, 0, none⟩ (.int .i64 i)).setCell ⟨w.heap.size + 1, 1, none⟩ (.int .i64 (32 + c0))).setCell ⟨w.heap.size + 1, 2, none⟩ (.int .i64 (1 + b0))).setCell ⟨w.heap.size + 1, 3, none⟩ (.int .i64 (32 + c0 + k0))) := chg_set (chg_set (chg_set (chg_set (Chg.refl _ _) rfl) rfl) rfl) rfl
        exact below_of_chg HBE2.out hset (fun j e => by omega)
end Go.Proofs.YtiphkngfbpdeoaaGreatDoor
/-
  The end that the law makes, behind its four streams: its states, and what it makes then.
-/
namespace Go.Proofs.YtiphkngfbpdeoaaGreatDoor
set_option linter.unusedVariables false
set_option linter.unusedSimpArgs false
open Go.RowKit

/-- What changes of an end's own cells. -/
structure Dy where
  receive : Int
  owed : Int
  pnum : Nat
  under : Bool
  pinged : Bool
  start : Int
  count : Int
  resets : Value
def mS (i c k : Int) (d : Dy) : EndM := { (pOpen i c 1 k 4).m with receive := d.receive, owed := d.owed, pnum := d.pnum, under := d.under, pinged := d.pinged, start := d.start, count := d.count, resets := d.resets }
def gS (i c k : Int) (d : Dy) (K : List GSt) (L : List Int) (out : List UInt8) (res : List Int) : GEnd := ⟨mS i c k d, K, L, out, [], [], res⟩
def kF (n : Int) : GSt := ⟨0, StM.fresh n false, [], []⟩
theorem pOpen_gS (i c k : Int) : pOpen i c 1 k 4 = gS i c k ⟨32, c - 32, 0, false, false, 0, 0, .slice none 0 0⟩ [kF 1, kF 3, kF 5, kF 7] [1, 3, 5, 7] [] [] := rfl
def Dy.ping (d : Dy) : Dy := if d.under && !d.pinged then { d with pinged := true, start := 0 } else d
def Dy.cred (d : Dy) : Dy := if 1 ≤ d.owed then { d with receive := d.receive + d.owed, owed := 0 } else d
def pingF (d : Dy) : List Fr := if d.under && !d.pinged then [⟨4, 0, 0, four4 d.pnum⟩] else []
def credF (d : Dy) : List Fr := if 1 ≤ d.owed then [⟨6, 0, 0, four4 d.owed.toNat⟩] else []
section
variable {i c k : Int} {d : Dy} {K : List GSt} {L : List Int} {out : List UInt8} {res : List Int} {p' : GEnd}
theorem next_gS : (gS i c k d K L out res).next = (gS i c k d K L out res).oPing.or ((gS i c k d K L out res).oCredit.or ((gS i c k d K L out res).oStream.or (gS i c k d K L out res).oReset)) := next_calm rfl rfl rfl
theorem lt_all (h : out.length ≤ 1000) : ((gS i c k d K L out res).out.length : Int) < 1099511627776 := by
  show (out.length : Int) < _
  omega
theorem layFs_nil : layFs [] = [] := rfl
theorem layFs_one (k f s : Int) (b : List UInt8) : layFs [⟨k, f, s, b⟩] = lay k f s b := by simp [layFs]
theorem run_ping (ho : out.length ≤ 1000) (h : Runs 1099511627776 (gS i c k d.ping K L (out ++ layFs (pingF d)) res) p') : Runs 1099511627776 (gS i c k d K L out res) p' := by
  by_cases hc : (d.under && !d.pinged) = true
  · refine .step (lt_all ho) ?_ h
    rw [next_gS]
    have h1 : (gS i c k d K L out res).oPing = some (gS i c k d.ping K L (out ++ layFs (pingF d)) res) := by
      unfold GEnd.oPing
      rw [if_pos (show ((gS i c k d K L out res).m.under && !(gS i c k d K L out res).m.pinged) = true from hc)]
      unfold Dy.ping pingF
      rw [if_pos hc, if_pos hc, layFs_one]
      rfl
    rw [h1]
    rfl
  · unfold Dy.ping pingF at h
    rw [if_neg hc, if_neg hc, layFs_nil, List.append_nil] at h
    exact h
theorem no_ping (hp : (d.under && !d.pinged) = false) : (gS i c k d K L out res).oPing = none := by
  unfold GEnd.oPing
  rw [if_neg (by rw [show ((gS i c k d K L out res).m.under && !(gS i c k d K L out res).m.pinged) = (d.under && !d.pinged) from rfl, hp]; decide)]
theorem no_cred (hc : d.owed < 1) : (gS i c k d K L out res).oCredit = none := by
  unfold GEnd.oCredit
  rw [if_neg]
  unfold dueB
  have : ¬ 1 ≤ (gS i c k d K L out res).m.owed := by show ¬ 1 ≤ d.owed; omega
  simp [this]
theorem run_cred (ho : out.length ≤ 1000) (hp : (d.under && !d.pinged) = false) (h : Runs 1099511627776 (gS i c k d.cred K L (out ++ layFs (credF d)) res) p') : Runs 1099511627776 (gS i c k d K L out res) p' := by
  by_cases hc : 1 ≤ d.owed
  · refine .step (lt_all ho) ?_ h
    rw [next_gS, no_ping hp]
    have h1 : (gS i c k d K L out res).oCredit = some (gS i c k d.cred K L (out ++ layFs (credF d)) res) := by
      unfold GEnd.oCredit
      rw [if_pos (show dueB (gS i c k d K L out res).m.owed (gS i c k d K L out res).m.receive (gS i c k d K L out res).m.batch = true from (by unfold dueB; simp [hc] : dueB d.owed d.receive 1 = true))]
      unfold Dy.cred credF
      rw [if_pos hc, if_pos hc, layFs_one]
      rfl
    rw [h1]
    rfl
  · unfold Dy.cred credF at h
    rw [if_neg hc, if_neg hc, layFs_nil, List.append_nil] at h
    exact h
theorem run_stream {n : Int} (ho : out.length ≤ 1000) (hp : (d.under && !d.pinged) = false) (hc : d.owed < 1) (hd : firstDueN (mS i c k d) K L = some n) (h : Runs 1099511627776 (gS i c k d (updN n GSt.granted K) L (out ++ layFs [⟨6, 0, n, four4 (atN K n).st.owed.toNat⟩]) res) p') : Runs 1099511627776 (gS i c k d K L out res) p' := by
  refine .step (lt_all ho) ?_ h
  rw [next_gS, no_ping hp, no_cred hc]
  have h1 : (gS i c k d K L out res).oStream = some (gS i c k d (updN n GSt.granted K) L (out ++ layFs [⟨6, 0, n, four4 (atN K n).st.owed.toNat⟩]) res) := by
    unfold GEnd.oStream
    rw [show firstDueN (gS i c k d K L out res).m (gS i c k d K L out res).K (gS i c k d K L out res).L = some n from hd, layFs_one]
    rfl
  rw [h1]
  rfl
theorem no_stream (hd : firstDueN (mS i c k d) K L = none) : (gS i c k d K L out res).oStream = none := by
  unfold GEnd.oStream
  rw [show firstDueN (gS i c k d K L out res).m (gS i c k d K L out res).K (gS i c k d K L out res).L = none from hd]
  rfl
theorem run_reset {n : Int} {r : List Int} (ho : out.length ≤ 1000) (hp : (d.under && !d.pinged) = false) (hc : d.owed < 1) (hd : firstDueN (mS i c k d) K L = none) (h : Runs 1099511627776 (gS i c k d K L (out ++ layFs [⟨2, 0, n, [0]⟩]) r) p') : Runs 1099511627776 (gS i c k d K L out (n :: r)) p' := by
  refine .step (lt_all ho) ?_ h
  rw [next_gS, no_ping hp, no_cred hc, no_stream hd, layFs_one]
  rfl
theorem run_done (hp : (d.under && !d.pinged) = false) (hc : d.owed < 1) (hd : firstDueN (mS i c k d) K L = none) : Runs 1099511627776 (gS i c k d K L out []) (gS i c k d K L out []) := by
  refine .none ?_
  rw [next_gS, no_ping hp, no_cred hc, no_stream hd]
  rfl
theorem ping_off : (d.ping.under && !d.ping.pinged) = false := by
  unfold Dy.ping
  split
  · simp
  · next h => simpa using h
theorem cred_off : d.cred.owed < 1 := by
  unfold Dy.cred
  split
  · show (0 : Int) < 1; omega
  · omega
theorem cred_under : d.cred.under = d.under ∧ d.cred.pinged = d.pinged := by
  unfold Dy.cred
  split <;> exact ⟨rfl, rfl⟩
theorem ping_owed : d.ping.owed = d.owed ∧ d.ping.receive = d.receive := by
  unfold Dy.ping
  split <;> exact ⟨rfl, rfl⟩
theorem fine_gS (h : CfgOk i c 1 k) (h1 : 0 ≤ d.owed ∧ d.owed ≤ 1000000) (h2 : -1000000 ≤ d.receive ∧ d.receive ≤ 1000000) (h3 : d.pnum ≤ 1000) (hr : ∀ n ∈ res, 0 ≤ n ∧ n ≤ 32767) (hL : L.length ≤ 1000)
    (hK : ∀ s ∈ K, (-1000000 ≤ s.st.receive ∧ s.st.receive ≤ 1000000) ∧ (0 ≤ s.st.owed ∧ s.st.owed ≤ 1000000) ∧ (0 ≤ s.st.number ∧ s.st.number ≤ 32767) ∧ s.st.send = 0 ∧ s.st.announced = true ∧ s.st.sentAll = false ∧ s.st.shut = false) : Fine (gS i c k d K L out res) where
  greets := rfl
  wanted := ⟨h.i0, h.i1⟩
  owed := by show 0 ≤ d.owed ∧ d.owed ≤ 4294967295; omega
  receive := by show -1099511627776 ≤ d.receive ∧ d.receive + d.owed ≤ 1099511627776; omega
  pnum := by show d.pnum < 4294967296; omega
  own := by show -1099511627776 ≤ (32 : Int) ∧ (32 : Int) ≤ 1099511627776; decide
  other := by show -1099511627776 ≤ (0 : Int) ∧ (0 : Int) ≤ 1099511627776; decide
  ans := fun a ha => by cases ha
  res := hr
  st := fun s hs => by
    obtain ⟨a1, a2, a3, a4, a5, a6, a7⟩ := hK s hs
    refine ⟨by omega, by omega, a3, by omega, a5, ?_⟩
    unfold EndM.hasD
    rw [a5, a6, a7, a4]
    have : (gS i c k d K L out res).m.other = 0 := rfl
    rw [this]
    by_cases hw : s.wa.length = 0
    · simp [hw]
    · simp [hw]
  few := by show L.length ≤ 1048576; omega
end
end Go.Proofs.YtiphkngfbpdeoaaGreatDoor
/-
  The law's own: the states that dropped goes through.
-/
namespace Go.Proofs.YtiphkngfbpdeoaaGreatDoor
set_option linter.unusedVariables false
set_option linter.unusedSimpArgs false
open Go.RowKit

/-- n bytes came. -/
def Dy.got (c k : Int) (d : Dy) (n : Nat) : Dy :=
  if d.under then { d with receive := d.receive - n, count := min (d.count + n) 2147483647 }
  else if 1 ≤ (n : Int) ∧ c < k then { d with receive := d.receive - n, pnum := (d.pnum + 1) % 4294967296, under := true, pinged := false, start := 0, count := n }
  else { d with receive := d.receive - n }
def Dy.owes (d : Dy) (n : Nat) : Dy := { d with owed := d.owed + n }
def Dy.made (d : Dy) : Dy := d.ping.cred
def madeF (d : Dy) : List Fr := pingF d ++ credF d
/-- Its bounds: what may come, what is owed, at most so many probes. -/
structure DyB (d : Dy) (N : Nat) (rc ow : Int) : Prop where
  rc : d.receive = rc
  ow : d.owed = ow
  pnum : d.pnum ≤ N
  count : 0 ≤ d.count ∧ d.count ≤ 2147483647
section
variable {i c k : Int} {d : Dy} {N : Nat} {rc ow : Int}
theorem mS_got (n : Nat) : ({ mS i c k d with begun := true } : EndM).got_ n = mS i c k (d.got c k n) := by
  unfold EndM.got_ EndM.counted Dy.got
  by_cases h1 : d.under = true
  · rw [if_pos h1, if_pos (show (mS i c k d).under = true from h1)]; rfl
  · rw [if_neg h1, if_neg (show ¬ (mS i c k d).under = true from h1)]
    by_cases h2 : 1 ≤ (n : Int) ∧ c < k
    · rw [if_pos h2, if_pos (show 1 ≤ (n : Int) ∧ (mS i c k d).target < (mS i c k d).most from h2)]; rfl
    · rw [if_neg h2, if_neg (show ¬ (1 ≤ (n : Int) ∧ (mS i c k d).target < (mS i c k d).most) from h2)]; rfl
theorem mS_owes (n : Nat) : (mS i c k d).owes n = mS i c k (d.owes n) := rfl
theorem DyB.got (h : DyB d N rc ow) {n : Nat} (hn : n ≤ 64) : DyB (d.got c k n) (N + 1) (rc - n) ow := by
  have h1 := h.count
  have h2 := h.pnum
  have h3 := h.rc
  unfold Dy.got
  split
  · exact ⟨by rw [← h3], h.ow, by show d.pnum ≤ N + 1; omega, by show 0 ≤ min (d.count + n) 2147483647 ∧ min (d.count + n) 2147483647 ≤ 2147483647; omega⟩
  · split
    · exact ⟨by rw [← h3], h.ow, by show (d.pnum + 1) % 4294967296 ≤ N + 1; omega, by show 0 ≤ (n : Int) ∧ (n : Int) ≤ 2147483647; omega⟩
    · exact ⟨by rw [← h3], h.ow, by show d.pnum ≤ N + 1; omega, h1⟩
theorem DyB.owes (h : DyB d N rc ow) (n : Nat) : DyB (d.owes n) N rc (ow + n) := ⟨h.rc, by rw [← h.ow]; rfl, h.pnum, h.count⟩
theorem DyB.ping (h : DyB d N rc ow) : DyB d.ping N rc ow := by
  unfold Dy.ping
  split
  · exact ⟨h.rc, h.ow, h.pnum, h.count⟩
  · exact h
theorem DyB.cred (h : DyB d N rc ow) (h0 : 0 ≤ ow) : DyB d.cred N (rc + ow) 0 := by
  have h1 := h.ow
  have h2 := h.rc
  unfold Dy.cred
  split
  · exact ⟨by show d.receive + d.owed = _; omega, rfl, h.pnum, h.count⟩
  · exact ⟨by omega, by omega, h.pnum, h.count⟩
theorem DyB.made (h : DyB d N rc ow) (h0 : 0 ≤ ow) : DyB d.made N (rc + ow) 0 := h.ping.cred h0
theorem crSum_app (a b : List Fr) : crSum (a ++ b) = crSum a + crSum b := by unfold crSum; rw [List.map_append, List.sum_append]
theorem rsSum_app (s : Int) (a b : List Fr) : rsSum s (a ++ b) = rsSum s a + rsSum s b := by unfold rsSum; rw [List.map_append, List.sum_append]
theorem num4_four4 (n : Nat) (h : n ≤ 4294967295) : num4 (four4 n) = n := by
  have h1 : num4 (four4 n) = be4 (UInt8.ofNat (n / 16777216)) (UInt8.ofNat (n / 65536)) (UInt8.ofNat (n / 256)) (UInt8.ofNat n) := rfl
  rw [h1]
  unfold be4
  simp only [UInt8.toNat_ofNat']
  omega
theorem pingF_cr : crSum (pingF d) = 0 := by
  unfold pingF
  split
  · simp [crSum, crOf]
  · rfl
theorem credF_cr (h0 : 0 ≤ d.owed ∧ d.owed ≤ 1000000) : crSum (credF d) = d.owed := by
  unfold credF
  split
  · have : crSum [⟨6, 0, 0, four4 d.owed.toNat⟩] = num4 (four4 d.owed.toNat) := by
      simp [crSum, crOf, four4]
    rw [this, num4_four4 _ (by omega)]
    omega
  · simp [crSum]; omega
theorem pingF_rs (s : Int) : rsSum s (pingF d) = 0 := by
  unfold pingF
  split
  · simp [rsSum, rsOf]
  · rfl
theorem credF_rs (s : Int) : rsSum s (credF d) = 0 := by
  unfold credF
  split
  · simp [rsSum, rsOf]
  · rfl
theorem madeF_cr (h : DyB d N rc ow) (h0 : 0 ≤ ow ∧ ow ≤ 1000000) : crSum (madeF d) = ow := by
  unfold madeF
  rw [crSum_app, pingF_cr, credF_cr (by rw [h.ow]; exact h0), h.ow]
  omega
theorem madeF_rs (s : Int) : rsSum s (madeF d) = 0 := by
  unfold madeF
  rw [rsSum_app, pingF_rs, credF_rs]
  rfl
theorem madeF_len : (madeF d).length ≤ 2 := by
  unfold madeF pingF credF
  split <;> split <;> simp
theorem four4_len (n : Nat) : (four4 n).length = 4 := rfl
theorem madeF_fit : ∀ f ∈ madeF d, (FrFits f ∧ 1 ≤ f.body.length) ∧ f.stream = 0 ∧ f.body.length = 4 := by
  intro f hf
  unfold madeF pingF credF at hf
  rw [List.mem_append] at hf
  rcases hf with hf | hf
  · split at hf
    · rw [List.mem_singleton] at hf
      subst hf
      exact ⟨⟨⟨by show (0 : Int) ≤ 4; omega, by show (4 : Int) ≤ 255; omega, by show (0 : Int) ≤ 0; omega, by show (0 : Int) ≤ 255; omega, by show (0 : Int) ≤ 0; omega, by show (0 : Int) ≤ 32767; omega, by show 4 ≤ 64; omega⟩, by show 1 ≤ 4; omega⟩, rfl, rfl⟩
    · cases hf
  · split at hf
    · rw [List.mem_singleton] at hf
      subst hf
      exact ⟨⟨⟨by show (0 : Int) ≤ 6; omega, by show (6 : Int) ≤ 255; omega, by show (0 : Int) ≤ 0; omega, by show (0 : Int) ≤ 255; omega, by show (0 : Int) ≤ 0; omega, by show (0 : Int) ≤ 32767; omega, by show 4 ≤ 64; omega⟩, by show 1 ≤ 4; omega⟩, rfl, rfl⟩
    · cases hf
theorem layFs_app (a b : List Fr) : layFs (a ++ b) = layFs a ++ layFs b := by unfold layFs; rw [List.flatMap_append]
theorem layFs_len : ∀ (fs : List Fr), (∀ f ∈ fs, f.body.length ≤ 4) → (layFs fs).length ≤ 10 * fs.length
  | [], _ => by simp [layFs]
  | f :: r, h => by
    have h1 := layFs_len r (fun x hx => h x (List.mem_cons_of_mem _ hx))
    have h2 := h f List.mem_cons_self
    have e : layFs (f :: r) = lay f.kind f.flags f.stream f.body ++ layFs r := rfl
    rw [e, List.length_append, lay_len, List.length_cons]
    omega
end
section
variable {i c k : Int} {d : Dy} {K : List GSt} {L : List Int} {res : List Int} {p' : GEnd}
/-- Ping and Credit of the connection are made. -/
theorem run_made (h : Runs 1099511627776 (gS i c k d.made K L (layFs (madeF d)) res) p') : Runs 1099511627776 (gS i c k d K L [] res) p' := by
  refine run_ping (by simp) ?_
  refine run_cred (d := d.ping) ?_ ping_off ?_
  · rw [List.nil_append]
    have := layFs_len (pingF d) (fun f hf => by rw [((madeF_fit (d := d)) f (List.mem_append_left _ hf)).2.2]; omega)
    have h2 : (pingF d).length ≤ 1 := by unfold pingF; split <;> simp
    omega
  · rw [List.nil_append, ← layFs_app]
    have e : pingF d ++ credF d.ping = madeF d := by
      unfold madeF credF
      rw [ping_owed.1]
    rw [e]
    exact h
theorem made_off : (d.made.under && !d.made.pinged) = false := by
  unfold Dy.made
  rw [cred_under.1, cred_under.2]
  exact ping_off
theorem made_owed : d.made.owed < 1 := cred_off
theorem made_len : (layFs (madeF d)).length ≤ 20 := by
  have := layFs_len (madeF d) (fun f hf => by rw [((madeF_fit (d := d)) f hf).2.2]; omega)
  have h2 := madeF_len (d := d)
  omega
end
end Go.Proofs.YtiphkngfbpdeoaaGreatDoor
/-
  The law's own: what is fed to the end that it made.
-/
namespace Go.Proofs.YtiphkngfbpdeoaaGreatDoor
set_option linter.unusedVariables false
set_option linter.unusedSimpArgs false
open Go.RowKit

theorem right_data {n : Int} {b : List UInt8} (h0 : 1 ≤ n) (h1 : n ≤ 32767) (hb : b.length ≤ 64) : Right 0 0 n b := by
  refine ⟨by omega, by omega, by omega, by omega, by omega, by omega, ?_, by simpa using hb, ?_, by unfold bodyCode; simp [hasB]⟩
  · unfold sFits
    simp
    omega
  · unfold lFits
    simp
theorem right_reset {n : Int} {x : UInt8} (h0 : 1 ≤ n) (h1 : n ≤ 32767) : Right 2 0 n [x] := by
  refine ⟨by omega, by omega, by omega, by omega, by omega, by omega, ?_, by simp, ?_, by unfold bodyCode; simp [hasB]⟩
  · unfold sFits
    simp
    omega
  · unfold lFits
    simp
section
variable {i c k : Int} {d : Dy} {K : List GSt} {L : List Int} {res : List Int} {N : Nat} {rc ow : Int} {s : GSt} {b : List UInt8}
theorem feed_kept (hd : DyB d N rc ow) (h1 : -1000000 ≤ rc ∧ rc ≤ 1000000) (h2 : 0 ≤ ow ∧ ow ≤ 1000000) (hs : s ∈ K) (hn : 1 ≤ s.st.number ∧ s.st.number ≤ 32767) (ha : s.st.announced = true) (hh : s.st.hasAll = false) (hr : s.st.reset = 0) (hu : s.un.length ≤ 1000) (hb : b.length ≤ 64) (hfl : (b.length : Int) ≤ rc ∧ (b.length : Int) ≤ 32 + s.st.receive) (b5 : -1000000 ≤ s.st.receive ∧ s.st.receive ≤ 1000000) (b6 : 0 ≤ s.st.owed ∧ s.st.owed ≤ 1000000) :
    FeedR (gS i c k d K L [] res) (lay 0 0 s.st.number b) (gS i c k (d.got c k b.length) (updN s.st.number (fun x => x.more b false) K) L [] res) := by
  have e1 : (gS i c k d K L [] res).m.receive = rc := hd.rc
  have e2 : (gS i c k d K L [] res).m.owed = ow := hd.ow
  have e3 : (gS i c k d K L [] res).m.count = d.count := rfl
  have e4 : (gS i c k d K L [] res).m.own = 32 := rfl
  have hc := hd.count
  have := feedR_lay (right_data hn.1 hn.2 hb) (p := gS i c k d K L [] res) rfl rfl rfl (Come.kept 0 s b hs ⟨by omega, by omega⟩ (by decide) ha hh hr (by unfold StM.closed; simp [hr, hasB]) (by omega) (by omega) (.inr ⟨by rw [e1]; exact hfl.1, by rw [e4]; exact hfl.2⟩) (by rw [e1]; omega) (by rw [e2]; omega) (by rw [e3]; omega) (by rw [e4]; omega) (by omega) (by omega) rfl rfl)
  have e5 : (gS i c k d K L [] res).begin.m.got_ b.length = mS i c k (d.got c k b.length) := mS_got _
  rw [e5] at this
  exact this
theorem feed_lost (hd : DyB d N rc ow) (h1 : -1000000 ≤ rc ∧ rc ≤ 1000000) (h2 : 0 ≤ ow ∧ ow ≤ 1000000) (hs : s ∈ K) (hn : 1 ≤ s.st.number ∧ s.st.number ≤ 32767) (ha : s.st.announced = true) (hh : s.st.hasAll = false) (hr : s.st.reset = 1) (hb : b.length ≤ 64) (hfl : (b.length : Int) ≤ rc) :
    FeedR (gS i c k d K L [] res) (lay 0 0 s.st.number b) (gS i c k ((d.got c k b.length).owes b.length) K L [] res) := by
  have e1 : (gS i c k d K L [] res).m.receive = rc := hd.rc
  have e2 : (gS i c k d K L [] res).m.owed = ow := hd.ow
  have e3 : (gS i c k d K L [] res).m.count = d.count := rfl
  have hc := hd.count
  have := feedR_lay (right_data hn.1 hn.2 hb) (p := gS i c k d K L [] res) rfl rfl rfl (Come.lost 0 s b hs ⟨by omega, by omega⟩ (by decide) ha hh hr (by omega) (.inr (by rw [e1]; exact hfl)) (by rw [e1]; omega) (by rw [e2]; omega) (by rw [e3]; omega) rfl rfl)
  have e5 : (gS i c k d K L [] res).begin.m.got_ b.length = mS i c k (d.got c k b.length) := mS_got _
  rw [e5, mS_owes] at this
  exact this
theorem feed_reset {j : Nat} {x : UInt8} (hd : DyB d N rc ow) (h2 : 0 ≤ ow ∧ ow ≤ 1000000) (hj : j < L.length) (hL : L.length ≤ 1000) (hn : 1 ≤ L[j] ∧ L[j] ≤ 32767) (ha : (atN K L[j]).st.announced = true) (hcl : (atN K L[j]).st.closed = false) (hu : (atN K L[j]).un.length ≤ 1000) :
    FeedR (gS i c k d K L [] res) (lay 2 0 L[j] [x]) (gS i c k (d.owes (atN K L[j]).un.length) (updN L[j] (fun s => s.drop 2) K) (L.eraseIdx j) [] res) := by
  have e2 : (gS i c k d K L [] res).m.owed = ow := hd.ow
  exact feedR_lay (right_reset hn.1 hn.2) (p := gS i c k d K L [] res) rfl rfl rfl (Come.reset 0 j [x] hj ⟨by omega, by omega⟩ ha hcl (by show L.length ≤ 1048576; omega) (by show (atN K L[j]).un.length ≤ 1048576; omega) (by rw [e2]; omega) rfl rfl)
end
section
variable {a b : GSt}
theorem upd1 (f : GSt → GSt) (ha : a.st.number = 1) (hb : b.st.number = 3) : updN 1 f [a, b, kF 5, kF 7] = [f a, b, kF 5, kF 7] := by
  have h5 : (kF 5).st.number = 5 := rfl
  have h7 : (kF 7).st.number = 7 := rfl
  simp [updN, ha, hb, h5, h7]
theorem upd3 (f : GSt → GSt) (ha : a.st.number = 1) (hb : b.st.number = 3) : updN 3 f [a, b, kF 5, kF 7] = [a, f b, kF 5, kF 7] := by
  have h5 : (kF 5).st.number = 5 := rfl
  have h7 : (kF 7).st.number = 7 := rfl
  simp [updN, ha, hb, h5, h7]
theorem at1 (ha : a.st.number = 1) : atN [a, b, kF 5, kF 7] 1 = a := by simp [atN, ha]
theorem at3 (ha : a.st.number = 1) (hb : b.st.number = 3) : atN [a, b, kF 5, kF 7] 3 = b := by simp [atN, ha, hb]
theorem at5 (ha : a.st.number = 1) (hb : b.st.number = 3) : atN [a, b, kF 5, kF 7] 5 = kF 5 := by simp [atN, ha, hb, kF, StM.fresh]
theorem at7 (ha : a.st.number = 1) (hb : b.st.number = 3) : atN [a, b, kF 5, kF 7] 7 = kF 7 := by simp [atN, ha, hb, kF, StM.fresh]
theorem due_none {i c k : Int} {d : Dy} (ha : a.st.number = 1) (hb : b.st.number = 3) (ho : b.st.owed = 0) : firstDueN (mS i c k d) [a, b, kF 5, kF 7] [3, 5, 7] = none := by
  have h0 : ∀ s : StM, s.owed = 0 → (mS i c k d).dueS s = false := fun s h => by unfold EndM.dueS dueB; rw [h]; simp
  simp only [firstDueN, at3 ha hb, at5 ha hb, at7 ha hb, h0 b.st ho, h0 (kF 5).st rfl, h0 (kF 7).st rfl]
  simp
theorem due_none4 {i c k : Int} {d : Dy} : firstDueN (mS i c k d) [kF 1, kF 3, kF 5, kF 7] [1, 3, 5, 7] = none := by
  have h0 : ∀ s : StM, s.owed = 0 → (mS i c k d).dueS s = false := fun s h => by unfold EndM.dueS dueB; rw [h]; simp
  simp only [firstDueN, at1 (a := kF 1) rfl, at3 (a := kF 1) (b := kF 3) rfl rfl, at5 (a := kF 1) (b := kF 3) rfl rfl, at7 (a := kF 1) (b := kF 3) rfl rfl, h0 (kF 1).st rfl, h0 (kF 3).st rfl, h0 (kF 5).st rfl, h0 (kF 7).st rfl]
  simp
theorem due_three {i c k : Int} {d : Dy} (ha : a.st.number = 1) (hb : b.st.number = 3) (hh : b.st.hasAll = false) (ho : 1 ≤ b.st.owed) : firstDueN (mS i c k d) [a, b, kF 5, kF 7] [3, 5, 7] = some 3 := by
  have h0 : (mS i c k d).dueS b.st = true := by
    have e : (mS i c k d).batch = 1 := rfl
    unfold EndM.dueS dueB
    rw [hh, e]
    simp [ho]
  simp only [firstDueN, at3 ha hb, h0]
  simp
end
end Go.Proofs.YtiphkngfbpdeoaaGreatDoor
/-
  The law's own: given, in the states that dropped goes through.
-/
namespace Go.Proofs.YtiphkngfbpdeoaaGreatDoor
set_option linter.unusedVariables false
set_option linter.unusedSimpArgs false
open Go.RowKit

/-- What a stream is, among those that the law opened. -/
structure StO (s : GSt) (n : Int) : Prop where
  number : s.st.number = n
  rc : -1000000 ≤ s.st.receive ∧ s.st.receive ≤ 1000000
  ow : 0 ≤ s.st.owed ∧ s.st.owed ≤ 1000000
  send : s.st.send = 0
  ann : s.st.announced = true
  sent : s.st.sentAll = false
  shut : s.st.shut = false
theorem kF_o (n : Int) : StO (kF n) n := ⟨rfl, by show -1000000 ≤ (0 : Int) ∧ (0 : Int) ≤ 1000000; omega, by show (0 : Int) ≤ 0 ∧ (0 : Int) ≤ 1000000; omega, rfl, rfl, rfl, rfl⟩
section
variable {i c k : Int} {d : Dy} {K : List GSt} {L : List Int} {res : List Int} {N : Nat} {rc ow : Int} {a b : GSt} {w : World} {eb : Nat} {F : Nat → Prop}
theorem fine_o (h : CfgOk i c 1 k) (hd : DyB d N rc ow) (hN : N ≤ 1000) (h1 : -1000000 ≤ rc ∧ rc ≤ 1000000) (h2 : 0 ≤ ow ∧ ow ≤ 1000000) (hr : ∀ n ∈ res, 0 ≤ n ∧ n ≤ 32767) (hL : L.length ≤ 1000) (ha : StO a 1) (hb : StO b 3) : Fine (gS i c k d [a, b, kF 5, kF 7] L [] res) := by
  refine fine_gS h (by rw [hd.ow]; exact h2) (by rw [hd.rc]; exact h1) (by have := hd.pnum; omega) hr hL ?_
  have h0 : ∀ {s : GSt} {n : Int}, StO s n → 0 ≤ n ∧ n ≤ 32767 → (-1000000 ≤ s.st.receive ∧ s.st.receive ≤ 1000000) ∧ (0 ≤ s.st.owed ∧ s.st.owed ≤ 1000000) ∧ (0 ≤ s.st.number ∧ s.st.number ≤ 32767) ∧ s.st.send = 0 ∧ s.st.announced = true ∧ s.st.sentAll = false ∧ s.st.shut = false := fun h hn => ⟨h.rc, h.ow, by rw [h.number]; exact hn, h.send, h.ann, h.sent, h.shut⟩
  intro s hs
  simp only [List.mem_cons, List.not_mem_nil, or_false] at hs
  rcases hs with rfl | rfl | rfl | rfl
  · exact h0 ha (by omega)
  · exact h0 hb (by omega)
  · exact h0 (kF_o 5) (by omega)
  · exact h0 (kF_o 7) (by omega)
def resF (by_ : Bool) : List Fr := if by_ then [⟨2, 0, 1, [0]⟩] else []
def resL (by_ : Bool) : List Int := if by_ then [1] else []
theorem layFs_le {fs : List Fr} (h : ∀ f ∈ fs, f.body.length ≤ 4) (h2 : fs.length ≤ 10) : (layFs fs).length ≤ 1073741824 := by
  have := layFs_len fs h
  omega
/-- Behind the reset. -/
theorem given_reset (h : CfgOk i c 1 k) (hd : DyB d N rc ow) (hN : N ≤ 1000) (h1 : -1000000 ≤ rc ∧ rc ≤ 1000000) (h2 : 0 ≤ ow ∧ ow ≤ 1000000) (ha : StO a 1) (hb : StO b 3) (ho : b.st.owed = 0) (by_ : Bool) (he : StE w eb F (gS i c k d [a, b, kF 5, kF 7] [3, 5, 7] [] (resL by_))) :
    Calls Tryz.prog 11 #[.pointer (some ⟨eb, 0, none⟩), .int .i64 1] w fun e w' => e = .returned (.tuple #[.int .i64 ow, .int .i64 (if by_ then 1 else 0)]) ∧ GoE w w' eb F (gS i c k d.made [a, b, kF 5, kF 7] [3, 5, 7] [] []) := by
  have hdn : ∀ d : Dy, firstDueN (mS i c k d) [a, b, kF 5, kF 7] [3, 5, 7] = none := fun d => due_none ha.number hb.number ho
  have hr : Runs 1099511627776 (gS i c k d [a, b, kF 5, kF 7] [3, 5, 7] [] (resL by_)) (gS i c k d.made [a, b, kF 5, kF 7] [3, 5, 7] (layFs (madeF d ++ resF by_)) []) := by
    refine run_made ?_
    rw [layFs_app]
    have hl := made_len (d := d)
    cases by_ with
    | true => exact run_reset (by omega) made_off made_owed (hdn _) (run_done made_off made_owed (hdn _))
    | false =>
      have e : layFs (madeF d) ++ layFs (resF false) = layFs (madeF d) := by simp [resF, layFs]
      rw [e]
      exact run_done made_off made_owed (hdn _)
  have hfit : ∀ f ∈ madeF d ++ resF by_, (FrFits f ∧ 1 ≤ f.body.length) ∧ ¬ (f.stream = 1 ∧ (f.kind = 0 ∨ f.kind = 6)) ∧ f.body.length ≤ 4 := by
    intro f hf
    rw [List.mem_append] at hf
    rcases hf with hf | hf
    · obtain ⟨q1, q2, q3⟩ := madeF_fit f hf
      exact ⟨q1, fun h => by rw [q2] at h; omega, by omega⟩
    · cases by_ with
      | true =>
        simp only [resF, if_pos, List.mem_singleton] at hf
        subst hf
        exact ⟨⟨⟨by show (0 : Int) ≤ 2; omega, by show (2 : Int) ≤ 255; omega, by show (0 : Int) ≤ 0; omega, by show (0 : Int) ≤ 255; omega, by show (0 : Int) ≤ 1; omega, by show (1 : Int) ≤ 32767; omega, by show 1 ≤ 64; omega⟩, by show 1 ≤ 1; omega⟩, (by intro h; rcases h.2 with h | h <;> cases h), by show 1 ≤ 4; omega⟩
      | false => cases hf
  have hlen : (madeF d ++ resF by_).length ≤ 10 := by
    rw [List.length_append]
    have := madeF_len (d := d)
    have h2 : (resF by_).length ≤ 1 := by cases by_ <;> simp [resF]
    omega
  have hg := kgiven_any eb F _ _ 1 (madeF d ++ resF by_) w he (fine_o h hd hN h1 h2 (by cases by_ <;> simp [resL]) (by simp) ha hb) rfl rfl rfl hr rfl (fun f hf => (hfit f hf).1) (fun f hf => (hfit f hf).2.1) (by omega) (layFs_le (fun f hf => (hfit f hf).2.2) hlen)
  have e1 : crSum (madeF d ++ resF by_) = ow := by
    rw [crSum_app, madeF_cr hd h2]
    cases by_ <;> simp [resF, crSum, crOf]
  have e2 : rsSum 1 (madeF d ++ resF by_) = if by_ then 1 else 0 := by
    rw [rsSum_app, madeF_rs]
    cases by_ <;> simp [resF, rsSum, rsOf]
  rw [e1, e2] at hg
  exact hg
/-- Behind the other stream's bytes. -/
theorem given_stream (h : CfgOk i c 1 k) (hd : DyB d N rc ow) (hN : N ≤ 1000) (h1 : -1000000 ≤ rc ∧ rc ≤ 1000000) (h2 : 0 ≤ ow ∧ ow ≤ 1000000) (ha : StO a 1) (hb : StO b 3) (hh : b.st.hasAll = false) (ho : 1 ≤ b.st.owed) (he : StE w eb F (gS i c k d [a, b, kF 5, kF 7] [3, 5, 7] [] [])) :
    Calls Tryz.prog 11 #[.pointer (some ⟨eb, 0, none⟩), .int .i64 1] w fun e w' => e = .returned (.tuple #[.int .i64 ow, .int .i64 0]) ∧ GoE w w' eb F (gS i c k d.made [a, b.granted, kF 5, kF 7] [3, 5, 7] [] []) := by
  have hr : Runs 1099511627776 (gS i c k d [a, b, kF 5, kF 7] [3, 5, 7] [] []) (gS i c k d.made [a, b.granted, kF 5, kF 7] [3, 5, 7] (layFs (madeF d ++ [⟨6, 0, 3, four4 b.st.owed.toNat⟩])) []) := by
    refine run_made ?_
    rw [layFs_app]
    have hl := made_len (d := d)
    refine run_stream (n := 3) (by omega) made_off made_owed (due_three ha.number hb.number hh ho) ?_
    rw [upd3 _ ha.number hb.number, at3 ha.number hb.number]
    exact run_done made_off made_owed (due_none (b := b.granted) ha.number hb.number rfl)
  have hfit : ∀ f ∈ madeF d ++ [(⟨6, 0, 3, four4 b.st.owed.toNat⟩ : Fr)], (FrFits f ∧ 1 ≤ f.body.length) ∧ ¬ (f.stream = 1 ∧ (f.kind = 0 ∨ f.kind = 6)) ∧ f.body.length ≤ 4 := by
    intro f hf
    rw [List.mem_append] at hf
    rcases hf with hf | hf
    · obtain ⟨q1, q2, q3⟩ := madeF_fit f hf
      exact ⟨q1, fun h => by rw [q2] at h; omega, by omega⟩
    · rw [List.mem_singleton] at hf
      subst hf
      exact ⟨⟨⟨by show (0 : Int) ≤ 6; omega, by show (6 : Int) ≤ 255; omega, by show (0 : Int) ≤ 0; omega, by show (0 : Int) ≤ 255; omega, by show (0 : Int) ≤ 3; omega, by show (3 : Int) ≤ 32767; omega, by show 4 ≤ 64; omega⟩, by show 1 ≤ 4; omega⟩, (by intro h; have := h.1; cases this), by show 4 ≤ 4; omega⟩
  have hlen : (madeF d ++ [(⟨6, 0, 3, four4 b.st.owed.toNat⟩ : Fr)]).length ≤ 10 := by
    rw [List.length_append]
    have := madeF_len (d := d)
    simp
    omega
  have hg := kgiven_any eb F _ _ 1 (madeF d ++ [(⟨6, 0, 3, four4 b.st.owed.toNat⟩ : Fr)]) w he (fine_o h hd hN h1 h2 (by simp) (by simp) ha hb) rfl rfl rfl hr rfl (fun f hf => (hfit f hf).1) (fun f hf => (hfit f hf).2.1) (by omega) (layFs_le (fun f hf => (hfit f hf).2.2) hlen)
  have e1 : crSum (madeF d ++ [(⟨6, 0, 3, four4 b.st.owed.toNat⟩ : Fr)]) = ow := by
    rw [crSum_app, madeF_cr hd h2]
    simp [crSum, crOf]
  have e2 : rsSum 1 (madeF d ++ [(⟨6, 0, 3, four4 b.st.owed.toNat⟩ : Fr)]) = 0 := by
    rw [rsSum_app, madeF_rs]
    simp [rsSum, rsOf]
  rw [e1, e2] at hg
  exact hg
end
end Go.Proofs.YtiphkngfbpdeoaaGreatDoor
/-
  Package ends: ConfigFits, newTuner, Set, Tick.
-/
namespace Go.Proofs.YtiphkngfbpdeoaaGreatDoor
set_option linter.unusedVariables false
set_option linter.unusedSimpArgs false
open Go.RowKit

def cfgB (i c b k : Int) : Bool := withinB i 0 && withinB c 32 && withinB b 1 && withinB k c
set_option maxRecDepth 100000 in
set_option maxHeartbeats 1600000 in
theorem configFits_ok (i c b k : Int) (w : World) (h : cfgB i c b k = true) : Calls Tryz.prog 33 #[.agg #[.int .i64 i, .int .i64 c, .int .i64 b, .int .i64 k]] w fun e w' => e = .returned (.bool true) ∧ Below w.heap.size w w' := by
  unfold cfgB at h
  simp only [Bool.and_eq_true] at h
  obtain ⟨⟨⟨h1, h2⟩, h3⟩, h4⟩ := h
  have H1 : Hid (∀ w, Calls Tryz.prog 52 #[.int .i64 i, .int .i64 0] w fun e w' => e = .returned (.bool true) ∧ w' = w) := fun w => by have := isWithin_any i 0 w; rw [h1] at this; exact this
  have H2 : Hid (∀ w, Calls Tryz.prog 52 #[.int .i64 c, .int .i64 32] w fun e w' => e = .returned (.bool true) ∧ w' = w) := fun w => by have := isWithin_any c 32 w; rw [h2] at this; exact this
  have H3 : Hid (∀ w, Calls Tryz.prog 52 #[.int .i64 b, .int .i64 1] w fun e w' => e = .returned (.bool true) ∧ w' = w) := fun w => by have := isWithin_any b 1 w; rw [h3] at this; exact this
  have H4 : Hid (∀ w, Calls Tryz.prog 52 #[.int .i64 k, .int .i64 c] w fun e w' => e = .returned (.bool true) ∧ w' = w) := fun w => by have := isWithin_any k c w; rw [h4] at this; exact this
  clear h1 h2 h3 h4
  go_enter Tryz.func33, Tryz.ntmps33
  go_wp2_with fail
  refine (H1.out _).mono ?_
  rintro e w' ⟨rfl, hw'⟩
  rw [hw']
  clear hw' w'
  go_wp2_with fail
  refine (H2.out _).mono ?_
  rintro e w' ⟨rfl, hw'⟩
  rw [hw']
  clear hw' w'
  go_wp2_with fail
  refine (H3.out _).mono ?_
  rintro e w' ⟨rfl, hw'⟩
  rw [hw']
  clear hw' w'
  go_wp2_with fail
  refine (H4.out _).mono ?_
  rintro e w' ⟨rfl, hw'⟩
  rw [hw']
  clear hw' w'
  go_wp2
  go_ret
  exact ⟨rfl, (Below.refl _ _).alloc (Nat.le_refl _) _⟩

set_option maxHeartbeats 800000 in
theorem newTuner_any (t k : Int) (w : World) : Calls Tryz.prog 53 #[.int .i64 t, .int .i64 k] w fun e w' => e = .returned (.agg #[.int .i64 t, .int .i64 k, .int .i64 0, .int .i64 1, .int .u32 0, .bool false, .bool false, .int .i64 0, .int .i64 0]) ∧ Below w.heap.size w w' := by
  go_enter Tryz.func53, Tryz.ntmps53
  go_wp2
  refine bodyPost_ret (v := .agg #[.int .i64 t, .int .i64 k, .int .i64 0, .int .i64 1, .int .u32 0, .bool false, .bool false, .int .i64 0, .int .i64 0]) ?_ rfl ⟨rfl, ?_⟩
  · simp [results, Tryz.results53, go_sem]
  · exact (Below.refl _ _).alloc (Nat.le_refl _) _
end Go.Proofs.YtiphkngfbpdeoaaGreatDoor
/-
  Package ends: newStreams.
-/
namespace Go.Proofs.YtiphkngfbpdeoaaGreatDoor
set_option linter.unusedVariables false
set_option linter.unusedSimpArgs false
open Go.RowKit

set_option maxHeartbeats 800000 in
theorem newStreams_any (w : World) : Calls Tryz.prog 54 #[] w fun e w' => ∃ mb, e = .returned (.agg #[.map (some mb), .slice none 0 0]) ∧ w.heap.size ≤ mb ∧ w'.heap[mb]? = some (.map #[] 0) ∧ Below w.heap.size w w' := by
  have hmk : (Instr.makeMap 73 none).run Tryz.prog (w.alloc (.cells #[.map none, .slice none 0 0] 76)) = .ok (.map (some (w.heap.size + 1))) ((w.alloc (.cells #[.map none, .slice none 0 0] 76)).alloc (.map #[] 0)) := by
    simp [Instr.makeMap, run_underlying Tryz.underlying73, Result.andThen, newObj, Sem.run]
    rfl
  go_enter Tryz.func54, Tryz.ntmps54
  go_wp2
  have hh : ((w.alloc (.cells #[.map (some (w.heap.size + 1)), .slice none 0 0] 76)).alloc (.map #[] 0)).heap[w.heap.size + 1]? = some (.map #[] 0) := by
    have := (MapKept.heap_alloc (w.alloc (.cells #[.map (some (w.heap.size + 1)), .slice none 0 0] 76)) (.map #[] 0)).1
    simpa using this
  refine bodyPost_ret (v := .agg #[.map (some (w.heap.size + 1)), .slice none 0 0]) ?_ rfl ⟨w.heap.size + 1, rfl, by omega, hh, ((Below.refl _ _).alloc (Nat.le_refl _) _).alloc (by simp) _⟩
  simp [results, Tryz.results54, go_sem]
end Go.Proofs.YtiphkngfbpdeoaaGreatDoor
