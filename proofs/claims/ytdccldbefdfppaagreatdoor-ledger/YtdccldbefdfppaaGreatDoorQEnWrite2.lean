import Derived.Test.YtdccldbefdfppaaGreatDoorQGau
set_option linter.unusedVariables false
set_option linter.unusedSimpArgs false
/-
  Write of a text of any length.
-/
namespace Go.Proofs.YtdccldbefdfppaaGreatDoor
set_option linter.unusedVariables false
set_option linter.unusedSimpArgs false
open Go.RowKit

set_option maxRecDepth 100000 in
set_option maxHeartbeats 3200000 in
theorem eWrite_big (eb mb : Nat) (m : EndM) (K : List Str) (n : Int) (p : Str) (sb : Option Addr) (cb : Nat) (l b : List UInt8) (w : World) (h : EnB w eb m) (hm : m.known = .map (some mb)) (hK : KnownS w mb K) (hf : findK K n = some p) (hc : m.wcode (some p) = 0) (hrow : w.ownsRow 0 5 1 p.2.waiting l.length (l.map B)) (hl : l.length ≤ 100) (hb : BytesIn w (.slice sb b.length cb) b) (hbl : b.length ≤ 140737488355328) (hne : p.2.waiting.ownBlock ≠ some p.1) :
    Calls Tryz.prog 43 #[.pointer (some ⟨eb, 0, none⟩), .int .i64 n, .slice sb b.length cb] w fun e w' => e = .returned (.tuple #[.int .i64 (roomN b.length l.length), .int .i64 0]) ∧ ∃ v, Wrote w w' p l b v := by
  obtain ⟨i0, hi, hz0, hz1, hz2⟩ := info_parts Tryz.info5
  have hw := writable_any eb mb m K n w h hm hK
  have hs := hK.st p (findK_mem hf).1
  rw [hf, hc, if_pos rfl] at hw
  simp only [Option.map_some, ptrO] at hw
  obtain ⟨sw, cw, hwv⟩ := slice_len hrow
  have s12 := hs.c12
  rw [hwv] at s12
  have hslt := hs.lt
  obtain ⟨r, hr⟩ : ∃ r, r = roomN b.length l.length := ⟨_, rfl⟩
  have hrb : r ≤ b.length := by rw [hr]; unfold roomN; omega
  have hri : min (b.length : Int) (100 - (l.length : Int)) = (r : Int) := by rw [hr]; unfold roomN; omega
  have hcap : b.length ≤ cb := by
    rcases hb with ⟨e, e2⟩ | ⟨_, _, _, e, _, h3, _⟩
    · simp only [Value.slice.injEq] at e; rw [e2]; simp
    · simp only [Value.slice.injEq] at e; omega
  have HLI : Hid (Lies w (.slice sb r cb) r ((b.take r).map B)) := by
    have hbr : BytesIn w (.slice sb r cb) (b.take r) := by
      rcases hb with ⟨e, e2⟩ | ⟨bb, off, cap, e, h2, h3, h4⟩
      · simp only [Value.slice.injEq] at e
        subst e2
        have : r = 0 := by simpa using hrb
        subst this
        obtain ⟨rfl, _, rfl⟩ := e
        exact Or.inl ⟨rfl, rfl⟩
      · simp only [Value.slice.injEq] at e
        obtain ⟨rfl, _, rfl⟩ := e
        refine Or.inr ⟨bb, off, cb, by rw [List.length_take, Nat.min_eq_left hrb], h2, by rw [List.length_take]; omega, fun i hi => ?_⟩
        rw [List.length_take] at hi
        rw [h4 i (by omega)]
        simp [List.getD, List.getElem?_take, show i < r by omega]
    have := lies_of_bytesIn hbr
    rw [List.length_take, Nat.min_eq_left hrb] at this
    exact this
  have hsb : sb = none ∨ ∃ bb off, sb = some ⟨bb, off, none⟩ := by
    rcases hb with ⟨e, _⟩ | ⟨bb, off, cap, e, _⟩
    · simp only [Value.slice.injEq] at e; exact Or.inl e.1
    · simp only [Value.slice.injEq] at e; exact Or.inr ⟨bb, off, e.1⟩
  have hlen : (b.take r).length = r := by rw [List.length_take, Nat.min_eq_left hrb]
  have HLEN := hide hlen
  have HW := hide hw
  have HS := hide hs
  have HROW := hide hrow
  have HWV := hide hwv
  have HRI := hide hri
  have HNE := hide hne
  have HRR := hide hr
  have hr100 : r ≤ 1073741824 := by omega
  have hrcb : r ≤ cb := by omega
  obtain ⟨pb, st⟩ := p
  simp only at *
  clear h hm hK hf hc hw hs hrow hwv hri hb hr hlen hne
  rcases hsb with rfl | ⟨bb, off, rfl⟩
  · skip
    go_enter Tryz.func43, Tryz.ntmps43
    go_wp2_with fail
    refine HW.out.mono ?_
    rintro e w' ⟨hw', rfl⟩
    rw [hw']
    clear hw' w'
    go_upto_region 5 with fail
    rw [HRI.out]
    go_region_law (refine step_appd rfl (.tmp 33) (.tmp 36) 44 rfl 5 i0 (.int .u8 0) 1 1 Tryz.underlying44 hi hz0 hz1 hz2 rfl (by decide) (.slice sw l.length cw) l.length (l.map B) (by simp [Act.eval, Act.put]) (by rw [← HWV.out]; exact HROW.out) (.slice none r cb) r ((b.take r).map B) (by simp [Act.eval, Act.put]) (by rw [List.length_map, HLEN.out, Nat.mul_one]) HLI.out (by intro u hu; obtain ⟨x, -, rfl⟩ := List.mem_map.1 hu; rfl) (by unfold maxLen; omega) (by omega) ?_; intro v3 w3 ho3 hg3 hfr3; obtain ⟨s3, q3, hv3⟩ := slice_len ho3; subst hv3; have hb3 := kept_block (show w.drew.ownsRow _ _ _ _ _ _ from HROW.out) (by rw [HWV.out]; exact hg3) (show w.drew.heap[pb]? = _ from HS.out.blk) (by decide); have c12 : w3.cell? ⟨pb, 12, none⟩ = some (.slice sw l.length cw) := (by rw [cell_of_row w3 pb _ _ _ _ hb3]; rw [← HWV.out]; rfl); have f12 : w3.frozen? ⟨pb, 12, none⟩ = false := (by simp [World.frozen?, hb3]); have HO3 := hide ho3; have HG3 := hide hg3; have HF3 := hide hfr3; have HB3 := hide hb3; clear ho3 hg3 hfr3 hb3)
    all_goals go_wp2
    all_goals go_ret2
    all_goals
      refine ⟨by rw [← HRR.out]; rfl, .slice s3 (l.length + r) q3, ⟨StB.of (blk_set HB3.out) rfl, ?_, ?_, ?_⟩⟩
      · rw [← HRR.out, List.length_append, List.map_append, HLEN.out]
        exact owns_chg HO3.out (chg_set (S := fun j => j = pb) (Chg.refl _ _) rfl) (fun j hj e => by subst e; exact owns_ne HO3.out HB3.out (by decide) hj)
      · refine chg_set (Chg.trans (Chg.of_below (S := fun j => j = pb ∨ st.waiting.ownBlock = some j) (show Below w.heap.size w w.drew from ⟨rfl, rfl, rfl, Nat.le_refl _, fun _ _ => rfl⟩)) (Chg.of_grown HG3.out (fun j hj => Or.inr (Or.inr (by rw [HWV.out]; exact hj))))) (Or.inl rfl)
      · intro j hj
        rcases HF3.out with e | e
        · rw [e] at hj; exact Or.inl (by rw [HWV.out]; exact hj)
        · rw [e] at hj; simp at hj; exact Or.inr (by omega)
  · skip
    go_enter Tryz.func43, Tryz.ntmps43
    go_wp2_with fail
    refine HW.out.mono ?_
    rintro e w' ⟨hw', rfl⟩
    rw [hw']
    clear hw' w'
    go_upto_region 5 with fail
    rw [HRI.out]
    go_region_law (refine step_appd rfl (.tmp 33) (.tmp 36) 44 rfl 5 i0 (.int .u8 0) 1 1 Tryz.underlying44 hi hz0 hz1 hz2 rfl (by decide) (.slice sw l.length cw) l.length (l.map B) (by simp [Act.eval, Act.put]) (by rw [← HWV.out]; exact HROW.out) (.slice (some ⟨bb, off, none⟩) r cb) r ((b.take r).map B) (by simp [Act.eval, Act.put]) (by rw [List.length_map, HLEN.out, Nat.mul_one]) HLI.out (by intro u hu; obtain ⟨x, -, rfl⟩ := List.mem_map.1 hu; rfl) (by unfold maxLen; omega) (by omega) ?_; intro v3 w3 ho3 hg3 hfr3; obtain ⟨s3, q3, hv3⟩ := slice_len ho3; subst hv3; have hb3 := kept_block (show w.drew.ownsRow _ _ _ _ _ _ from HROW.out) (by rw [HWV.out]; exact hg3) (show w.drew.heap[pb]? = _ from HS.out.blk) (by decide); have c12 : w3.cell? ⟨pb, 12, none⟩ = some (.slice sw l.length cw) := (by rw [cell_of_row w3 pb _ _ _ _ hb3]; rw [← HWV.out]; rfl); have f12 : w3.frozen? ⟨pb, 12, none⟩ = false := (by simp [World.frozen?, hb3]); have HO3 := hide ho3; have HG3 := hide hg3; have HF3 := hide hfr3; have HB3 := hide hb3; clear ho3 hg3 hfr3 hb3)
    all_goals go_wp2
    all_goals go_ret2
    all_goals
      refine ⟨by rw [← HRR.out]; rfl, .slice s3 (l.length + r) q3, ⟨StB.of (blk_set HB3.out) rfl, ?_, ?_, ?_⟩⟩
      · rw [← HRR.out, List.length_append, List.map_append, HLEN.out]
        exact owns_chg HO3.out (chg_set (S := fun j => j = pb) (Chg.refl _ _) rfl) (fun j hj e => by subst e; exact owns_ne HO3.out HB3.out (by decide) hj)
      · refine chg_set (Chg.trans (Chg.of_below (S := fun j => j = pb ∨ st.waiting.ownBlock = some j) (show Below w.heap.size w w.drew from ⟨rfl, rfl, rfl, Nat.le_refl _, fun _ _ => rfl⟩)) (Chg.of_grown HG3.out (fun j hj => Or.inr (Or.inr (by rw [HWV.out]; exact hj))))) (Or.inl rfl)
      · intro j hj
        rcases HF3.out with e | e
        · rw [e] at hj; exact Or.inl (by rw [HWV.out]; exact hj)
        · rw [e] at hj; simp at hj; exact Or.inr (by omega)
section
variable {w w' : World} {eb : Nat} {F : Nat → Prop} {p : GEnd}
theorem c_write_big {s : GSt} {sb : Option Addr} {cb : Nat} {b : List UInt8} (h : StE w eb F p) (hs : s ∈ p.K) (hl : p.m.fault = 0) (hg : p.got = []) (hr : s.st.reset = 0) (hla : s.st.last = false) (hsh : s.st.shut = false) (hwl : s.wa.length ≤ 100) (hb : BytesIn w (.slice sb b.length cb) b) (hbl : b.length ≤ 140737488355328) :
    Calls Tryz.prog 21 #[.pointer (some ⟨eb, 0, none⟩), .int .i64 s.st.number, .slice sb b.length cb] w fun e w' => e = .returned (.tuple #[.int .i64 (roomN b.length s.wa.length), .int .i64 0]) ∧ GoE w w' eb F { p with K := updN s.st.number (fun s => s.wrote b) p.K } := by
  obtain ⟨mb, g, hi, hrd, hp, hF⟩ := h
  obtain ⟨x, hx, rfl, hfi⟩ := stE_at hi hp hs
  have hl' : g.m.fault = 0 := by rw [← hp] at hl; exact hl
  have hfi' : findK (g.K.map GSt.str) x.st.number = some x.str := hfi
  have q1 : x.st.reset = 0 := hr
  have q2 : x.st.last = false := hla
  have q3 : x.st.shut = false := hsh
  have hw0 : g.m.wcode (some x.str) = 0 := by simp [EndM.wcode, hl', GSt.str, q1, q2, q3]
  have he := eWrite_big eb mb g.m _ x.st.number x.str sb cb x.wa b w hi.en hi.km hi.kn hfi' hw0 (hi.wa x hx) hwl hb hbl (fun e => owns_ne (hi.wa x hx) (hi.st hx).blk (by decide) e)
  have hc := xWrite_of (R := fun a c w' => (a = .int .i64 (roomN b.length x.wa.length) ∧ c = .int .i64 0) ∧ GoE w w' eb F { p with K := updN x.st.number (fun s => s.wrote b) p.K }) eb x.st.number (.slice sb b.length cb) w (he.mono fun e w' h => by
    obtain ⟨h1, v, hW⟩ := h
    refine ⟨_, _, h1, ⟨rfl, rfl⟩, ?_⟩
    have keep : ∀ {k : Nat} {v' : Value} {xs : List Value} {ty : TypeId}, w.ownsRow 0 ty 1 v' k xs → (∀ j, v'.ownBlock = some j → j ≠ x.sb ∧ x.st.waiting.ownBlock ≠ some j) → w'.ownsRow 0 ty 1 v' k xs := fun hr hj => owns_chg hr hW.chg (fun j hjj e => by
      obtain ⟨a, b⟩ := hj j hjj
      rcases e with e | e
      · exact a e
      · exact b e)
    have hn := hi.onSt (S := fun j => j = x.sb ∨ x.st.waiting.ownBlock = some j) (m' := g.m) (s := x) (s' := ⟨x.sb, { x.st with waiting := v }, x.un, x.wa ++ b.take (roomN b.length x.wa.length)⟩) (L' := g.L) (o' := g.out) (4 + 2 * x.sb) hx hW.chg (by
        rintro j (e | e)
        · exact Or.inr (Or.inl e)
        · exact Or.inr (Or.inr (Or.inr (Or.inr (Or.inr e))))) (hi.en.chg hW.chg (by
        rintro (e | e)
        · exact hi.st_eb hx e.symm
        · exact owns_ne (hi.wa x hx) hi.en.blk (by decide) e)) hW.st rfl rfl rfl rfl rfl rfl
      (keep hi.row (fun j hj => ⟨fun e => by rw [e] at hj; exact owns_ne hi.row (hi.st hx).blk (by decide) hj, fun e => rows_ne (hi.wa x hx) hi.row (by decide) e hj⟩)) (fun j hj => Or.inl hj) (List.Sublist.refl _)
      (keep hi.out (fun j hj => ⟨fun e => by rw [e] at hj; exact owns_ne hi.out (hi.st hx).blk (by decide) hj, fun e => hi.out_wa hx e hj⟩)) (fun j hj => Or.inl hj)
      (keep (hi.un x hx) (fun j hj => ⟨fun e => by rw [e] at hj; exact owns_ne (hi.un x hx) (hi.st hx).blk (by decide) hj, fun e => hi.un_wa hx hx hj e⟩)) (fun j hj => Or.inl hj)
      hW.row (fun j hj => (hW.fresh j hj).imp_right fun a => ⟨a, rfl⟩)
    refine GoE.of hF hn ?_ ?_
    · exact RdOk.nil (show g.got = [] from bare_got hp hg)
    · rw [← hp]
      unfold GEnd.bare
      simp only [GEnd.mk.injEq, true_and, and_true]
      rw [← updN_bare _ (fun s => s.wrote b) (fun s => rfl), ← updN_const (f := fun s => s.wrote b) hi.nn hx rfl]
      unfold updN
      rw [List.map_map, List.map_map]
      apply List.map_congr_left
      intro y hy
      show (if y.st.number = x.st.number then _ else y).bare = (if y.st.number = x.st.number then _ else y).bare
      split <;> rfl)
  refine hc.mono ?_
  rintro e w' ⟨a, c, rfl, ⟨rfl, rfl⟩, hgo⟩
  exact ⟨rfl, hgo⟩
end
end Go.Proofs.YtdccldbefdfppaaGreatDoor
