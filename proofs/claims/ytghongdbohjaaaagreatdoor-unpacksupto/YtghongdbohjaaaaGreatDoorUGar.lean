import Derived.Test.YtghongdbohjaaaaGreatDoorUGaq
set_option linter.unusedVariables false
set_option linter.unusedSimpArgs false
/-
  (*sluicelaw.World).unpacks: KUnpacker, KTable, and where there is no unpacker.
-/
namespace Go.Proofs.YtghongdbohjaaaaGreatDoor
set_option linter.unusedVariables false
set_option linter.unusedSimpArgs false
open Go.RowKit

theorem Tryz.info127 : (Tryz.prog.info? 127).map (fun i => (i.zero, i.size, i.bytes)) = some (some (.agg #[.pointer none, .pointer none]), 2, 16) := by kernel_rfl

set_option maxRecDepth 100000 in
set_option maxHeartbeats 1600000 in
theorem unpacks_nonew (b : Nat) (A B' C : Int) (S : ByteArray) (w : World) (hA : ¬ (0 ≤ A ∧ A ≤ 256)) :
    Calls Tryz.prog 12 #[.pointer (some ⟨b, 0, none⟩), .agg #[.int .i64 8, .int .i64 A, .int .i64 B', .int .i64 C, .string S]] w fun e w' => e = .returned (.bool true) ∧ Below w.heap.size w w' := by
  have HA : Hid (limB A = false) := by show _ = _; unfold limB; simp; omega
  have HN := hide hA
  clear hA
  go_enter Tryz.func12, Tryz.ntmps12
  go_wp2_with fail
  refine (newUnpacker_no A _ HA.out).mono ?_
  rintro e w1 ⟨rfl, hw1⟩
  rw [hw1]
  clear hw1 w1
  go_wp2_with fail
  refine (rNewUnpacker_no A _ HN.out).mono ?_
  rintro e w1 ⟨rfl, hw1⟩
  rw [hw1]
  clear hw1 w1
  go_wp2_with fail
  refine (num_any 1 _).mono ?_
  rintro e w1 ⟨rfl, hw1⟩
  rw [hw1]
  clear hw1 w1
  go_wp2
  go_ret
  exact ⟨rfl, (Below.refl _ _).alloc (Nat.le_refl _) _⟩

set_option maxRecDepth 100000 in
set_option maxHeartbeats 1600000 in
theorem unpacks_none (b : Nat) (cs : Array Value) (sr : Option Addr) (cr : Nat) (k A B' C : Int) (S : ByteArray) (w : World) (hb : w.heap[b]? = some (.cells cs 46 (0, 0))) (h5 : cs[6]? = some (.slice sr 0 cr)) (hk : (k == 8) = false) :
    Calls Tryz.prog 12 #[.pointer (some ⟨b, 0, none⟩), .agg #[.int .i64 k, .int .i64 A, .int .i64 B', .int .i64 C, .string S]] w fun e w' => e = .returned (.bool true) ∧ Below w.heap.size w w' := by
  have hlt := lt_of_block hb
  have g0 : w.cell? ⟨b, 6, none⟩ = some (.slice sr 0 cr) := by rw [cell_of_row w b _ _ _ _ hb]; exact h5
  clear hb h5
  go_enter Tryz.func12, Tryz.ntmps12
  go_wp2
  go_ret
  exact ⟨rfl, (Below.refl _ _).alloc (Nat.le_refl _) _⟩

section
variable {W0 V0 w : World} {b N : Nat} {gF gH gC gS uv hv pv sv kv : Value} {prs : List PkR} {bls : List ByteArray} {recs : List RecB} {us : List UkR} {hrs : List HRec} {Z : List Ob}
/-- One unpacker more. -/
theorem uinv_new {wX w3 : World} {r : UkR} {uv' : Value} (h : UInv W0 V0 w b gF gH gC gS uv hv pv sv kv prs bls recs us hrs N Z) (hX : Below w.heap.size w wX) (h1 : (xuOb r).P wX) (h2 : (unOb r).P wX) (hF1 : ∀ j, (xuOb r).F j → w.heap.size ≤ j) (hF2 : ∀ j, (unOb r).F j → w.heap.size ≤ j) (hap : ∀ j, (xuOb r).F j → ¬ (unOb r).F j)
    (hok : UOk (N + 1) r) (hown : w3.ownsRow 0 127 2 uv' (us.length + 1) (ukCells us ++ ukCells [r])) (hg : wX.grownBy w3 uv.ownBlock) (hfr : uv'.ownBlock = uv.ownBlock ∨ uv'.ownBlock = some wX.heap.size) :
    UInv W0 V0 (w3.setCell ⟨b, 6, none⟩ uv') b gF gH gC gS uv' hv pv sv kv prs bls recs (us ++ [r]) hrs (N + 1) Z := by
  have hpX := h.p.below hX
  have hrowX := (h.below hX).rowU
  have b3 := kept_block hrowX hg hpX.blk (by decide)
  have c3 : Chg (fun j => uv.ownBlock = some j) wX w3 := Chg.of_grown hg (fun j e => e)
  have hset : Chg (fun j => j = b) w3 (w3.setCell ⟨b, 6, none⟩ uv') := (Chg.refl (fun j => j = b) w3).setCell (p := ⟨b, 6, none⟩) (Or.inr rfl) _
  have cX : Chg (fun j => uv.ownBlock = some j ∨ j = b) wX (w3.setCell ⟨b, 6, none⟩ uv') := (c3.mono (fun j _ e => Or.inl e)).trans (hset.mono (fun j _ e => Or.inr (Or.inr e)))
  have hown' : (w3.setCell ⟨b, 6, none⟩ uv').ownsRow 0 127 2 uv' (us.length + 1) (ukCells us ++ ukCells [r]) := owns_chg hown hset (fun j hj e => by subst e; exact owns_ne hown b3 (by decide) hj)
  have hzX := hX.size
  -- the new two, beside the others
  have hp2 : PInvX W0 V0 wX b gF gH gC ⟨gS, uv, hv⟩ pv sv kv prs bls recs N (twoU r ++ obsU uv hv us hrs Z) := by
    refine PInvX.turnX (os := []) (os' := twoU r) (S := fun _ => False) h.p (Chg.of_below hX) (fun _ e => e.elim) ?_ ?_ ?_
    · intro o ho
      simp only [twoU, List.mem_cons, List.not_mem_nil, or_false] at ho
      rcases ho with rfl | rfl
      · exact h1
      · exact h2
    · refine List.pairwise_cons.2 ⟨fun o ho j hj hj2 => ?_, List.pairwise_singleton _ _⟩
      simp only [List.mem_cons, List.not_mem_nil, or_false] at ho
      subst ho
      exact hap j hj hj2
    · intro o ho j hj
      simp only [twoU, List.mem_cons, List.not_mem_nil, or_false] at ho
      rcases ho with rfl | rfl
      · exact Or.inr (hF1 j hj)
      · exact Or.inr (hF2 j hj)
  have hperm : (twoU r ++ obsU uv hv us hrs Z).Perm ([rowOb 127 2 uv us.length (ukCells us)] ++ ((us ++ [r]).flatMap twoU ++ (rowOb 72 6 hv hrs.length (hrCells hrs) :: (hrs.map hrOb ++ Z)))) := by
    unfold obsU restU
    rw [List.flatMap_append]
    simp only [List.flatMap_cons, List.flatMap_nil, List.append_nil]
    generalize rowOb 127 2 uv us.length (ukCells us) = U
    generalize rowOb 72 6 hv hrs.length (hrCells hrs) :: (hrs.map hrOb ++ Z) = R
    generalize us.flatMap twoU = A
    generalize twoU r = T
    show (T ++ (A ++ U :: R)).Perm (U :: ((A ++ T) ++ R))
    have e1 : T ++ (A ++ U :: R) = (T ++ A) ++ U :: R := by simp
    rw [e1]
    refine List.perm_middle.trans (List.Perm.cons U ?_)
    exact List.perm_append_comm.append_right R
  have hperm2 : (obsU uv' hv (us ++ [r]) hrs Z).Perm ([rowOb 127 2 uv' (us.length + 1) (ukCells us ++ ukCells [r])] ++ ((us ++ [r]).flatMap twoU ++ (rowOb 72 6 hv hrs.length (hrCells hrs) :: (hrs.map hrOb ++ Z)))) := by
    unfold obsU restU
    rw [ukCells_append, List.length_append]
    exact List.perm_middle
  refine ⟨((hp2.permX hperm).turnG (gS' := ⟨gS, uv', hv⟩) (by rw [block_setCell b3]; rfl) cX ?_ ?_ (List.pairwise_singleton _ _) ?_).permX hperm2.symm |>.mono (Nat.le_succ _), ?_, h.okH, ⟨by simp; have := h.few.1; omega, Nat.le_trans h.few.2 (Nat.le_succ _)⟩⟩
  · rintro j (e | e)
    · exact Or.inl ⟨_, List.mem_cons_self, e⟩
    · exact Or.inr e
  · intro o ho
    simp only [List.mem_cons, List.not_mem_nil, or_false] at ho
    subst ho
    exact hown'
  · intro o ho j hj
    simp only [List.mem_cons, List.not_mem_nil, or_false] at ho
    subst ho
    have hj' : uv'.ownBlock = some j := hj
    rcases hfr with e | e
    · rw [e] at hj'; exact Or.inl ⟨_, List.mem_cons_self, hj'⟩
    · rw [e] at hj'; simp at hj'; exact Or.inr (by omega)
  · intro x hx
    rcases List.mem_append.1 hx with hx | hx
    · exact (h.okU x hx).mono (Nat.le_succ _)
    · simp only [List.mem_cons, List.not_mem_nil, or_false] at hx
      subst hx
      exact hok
end

set_option maxRecDepth 100000 in
set_option maxHeartbeats 1600000 in
theorem unpacks_new {Z : List Ob} (W0 V0 : World) (b N : Nat) (gF gH gC gS uv hv pv sv kv : Value) (prs : List PkR) (bls : List ByteArray) (recs : List RecB) (us : List UkR) (hrs : List HRec) (n : Nat) (B' C : Int) (S : ByteArray) (w : World) (hI : UInv W0 V0 w b gF gH gC gS uv hv pv sv kv prs bls recs us hrs N Z) (hN : N ≤ 16777216) (hn : n ≤ 256) :
    Calls Tryz.prog 12 #[.pointer (some ⟨b, 0, none⟩), .agg #[.int .i64 8, .int .i64 n, .int .i64 B', .int .i64 C, .string S]] w fun e w' => e = .returned (.bool true) ∧ ∃ uv' us', UInv W0 V0 w' b gF gH gC gS uv' hv pv sv kv prs bls recs us' hrs (N + 1) Z := by
  obtain ⟨j0, ji, jz0, jz1, jz2⟩ := info_parts Tryz.info127
  have hfew := hI.few.1
  have hlt := lt_of_block hI.p.blk
  have HI := hide hI
  have ho : (w.alloc (.cells #[.int .i64 8, .int .i64 n, .int .i64 B', .int .i64 C, .string S] 49)).heap[w.heap.size]? = some (.cells #[.int .i64 8, .int .i64 n, .int .i64 B', .int .i64 C, .string S] 49 (0, 0)) := heap_alloc_new w _
  have hbo : Below w.heap.size w (w.alloc (.cells #[.int .i64 8, .int .i64 n, .int .i64 B', .int .i64 C, .string S] 49)) := (Below.refl _ _).alloc (Nat.le_refl _) _
  have HO := hide ho
  have HBO := hide hbo
  clear hI ho hbo
  go_enter Tryz.func12, Tryz.ntmps12
  go_wp2_with fail
  refine (newUnpacker_ok n _ hn).mono ?_
  rintro e w1 ⟨xb, rfl, hxb, hb1, hpk⟩
  have hxl := lt_of_block hpk.st.tb.blk
  have ho1 := kept_told HO.out hb1
  obtain ⟨-, o1, -, -, -⟩ := op_block ho1
  have hol := lt_of_block ho1
  have HPK := hide hpk
  have HB1 := hide (HBO.out.trans (hb1.mono HBO.out.size))
  have HXB := hide hxb
  clear hpk hb1 ho1 hxb HO
  go_wp2_with fail
  refine (rNewUnpacker_ok n _ hn).mono ?_
  rintro e w2 ⟨rfl, hrp, hb2⟩
  have hpl := lt_of_block hrp.blk
  have HRP := hide hrp
  have hXB : w.heap.size ≤ xb := by have h1 := HXB.out; simp at h1; omega
  have hX : Below w.heap.size w w2 := HB1.out.trans (hb2.mono HB1.out.size)
  have hpk2 := (xuOb ⟨xb, newUs n, .slice none 0 0, w1.heap.size, .slice none 0 0, [], n, n, false⟩).chg (fun _ => False) w1 w2 (Or.inr ⟨rfl, HPK.out, rfl⟩) (Chg.of_below hb2) (fun _ _ => id)
  have HPK2 := hide hpk2
  have hI2 := HI.out.below hX
  obtain ⟨sr, cr, hpv⟩ := slice_len hI2.rowU
  subst hpv
  have g6 : w2.cell? ⟨b, 6, none⟩ = some (.slice sr us.length cr) := by rw [cell_of_row w2 b _ _ _ _ hI2.p.blk]; rfl
  have HRR := hide hI2.rowU
  have HX := hide hX
  have HX1 := hide hXB
  have hz1 := HB1.out.size
  have hz2 := hb2.size
  clear hb2 hrp hX hXB hpk2 hI2 o1
  go_wp2_with fail
  refine (num_any 0 _).mono ?_
  rintro e w' ⟨rfl, hw'⟩
  rw [hw']
  clear hw' w'
  go_wp2_with (at_builtin; refine wpList_app _ rfl (.tmp 52) (.tmp 56) 35 rfl 127 j0 (.agg #[.pointer none, .pointer none]) 2 16 Tryz.underlying35 ji jz0 jz1 jz2 rfl (by decide) _ _ _ rfl (HRR.out.alloc _) (.slice (some ⟨w2.heap.size, 0, none⟩) 1 1) 1 [.pointer (some ⟨xb, 0, none⟩), .pointer (some ⟨w1.heap.size, 0, none⟩)] rfl rfl ?c1 ?c2 ?c3 ?c4 ?_)
  case c1 => exact Or.inr ⟨_, _, rfl, fun j u hu => lies_row (xs := [.pointer (some ⟨xb, 0, none⟩), .pointer (some ⟨w1.heap.size, 0, none⟩)]) j u hu⟩
  case c2 =>
    intro u hu
    simp at hu
    rcases hu with rfl | rfl <;> rfl
  case c3 => unfold maxLen; omega
  case c4 => omega
  intro uv' w3 hown3 hg3 hfr3
  obtain ⟨sr', cr', rfl⟩ := slice_len hown3
  obtain ⟨wX, hwX⟩ : ∃ wX, wX = w2.alloc (.cells #[.pointer (some ⟨xb, 0, none⟩), .pointer (some ⟨w1.heap.size, 0, none⟩)] 127) := ⟨_, rfl⟩
  have hb2X : Below w2.heap.size w2 wX := by rw [hwX]; exact (Below.refl _ _).alloc (Nat.le_refl _) _
  have hX3 : Below w.heap.size w wX := HX.out.trans (hb2X.mono HX.out.size)
  have hnil : ∀ j, (Value.slice none 0 0).ownBlock ≠ some j := fun j e => by simp [Value.ownBlock] at e
  have hpX := (xuOb ⟨xb, newUs n, .slice none 0 0, w1.heap.size, .slice none 0 0, [], n, n, false⟩).chg (fun _ => False) w2 wX HPK2.out (Chg.of_below hb2X) (fun _ _ => id)
  have hrX := (unOb ⟨xb, newUs n, .slice none 0 0, w1.heap.size, .slice none 0 0, [], n, n, false⟩).chg (fun _ => False) w2 wX HRP.out (Chg.of_below hb2X) (fun _ _ => id)
  have hszX : wX.heap.size = w2.heap.size + 1 := by rw [hwX]; simp
  rw [← hwX] at hg3
  rw [← hszX] at hfr3
  have hb3 := kept_block (owns_chg HRR.out (Chg.of_below (S := fun _ => False) hb2X) (fun _ _ => id)) hg3 (kept_told (HI.out.below HX.out).p.blk hb2X) (by decide)
  have hnx := uinv_new HI.out hX3 hpX hrX (by
      rintro j (e | e)
      · show _ ≤ j; rw [e]; exact HX1.out
      · exact absurd e (hnil j)) (by
      rintro j (e | e)
      · show _ ≤ j; rw [e]; exact hz1
      · exact absurd e (hnil j)) (by
      rintro j (e | e) (f | f)
      · have h1 : j = xb := e
        have h2 : j = w1.heap.size := f
        omega
      · exact absurd f (hnil j)
      · exact absurd e (hnil j)
      · exact absurd e (hnil j)) ⟨hn, fun _ => ⟨hn, by simp [tabL, szT], fun x hx => by simp [tabL] at hx, by simp⟩⟩ hown3 hg3 hfr3
  have HNX := hide hnx
  have q6 : w3.cell? ⟨b, 6, none⟩ = some (.slice sr us.length cr) := by rw [cell_of_row w3 b _ _ _ _ hb3]; rfl
  have q6f : w3.frozen? ⟨b, 6, none⟩ = false := by simp [World.frozen?, hb3]
  clear hown3 hg3 hfr3 hb3 hnx g6 hpX hrX hX3 hb2X hwX hszX
  go_wp2
  go_ret
  exact ⟨rfl, _, _, HNX.out⟩

def atU (w : World) (o : List Value) (r : UkR) : World := ((w.alloc (.cells o.toArray 49)).alloc (.cells #[.pointer (some ⟨r.xb, 0, none⟩), .pointer (some ⟨r.ub, 0, none⟩)] 127)).drew
theorem atU_below (w : World) (o : List Value) (r : UkR) : Below w.heap.size w (atU w o r) := by
  have h := ((Below.refl w.heap.size w).alloc (Nat.le_refl _) (.cells o.toArray 49)).alloc (by simp) (.cells #[.pointer (some ⟨r.xb, 0, none⟩), .pointer (some ⟨r.ub, 0, none⟩)] 127)
  exact ⟨h.os, h.tape, h.output, h.size, h.block⟩
theorem atU_op (w : World) (o : List Value) (r : UkR) : (atU w o r).heap[w.heap.size]? = some (.cells o.toArray 49 (0, 0)) := heap_in (by simp) (heap_at rfl)
theorem atU_pk (w : World) (o : List Value) (r : UkR) : (atU w o r).heap[w.heap.size + 1]? = some (.cells #[.pointer (some ⟨r.xb, 0, none⟩), .pointer (some ⟨r.ub, 0, none⟩)] 127 (0, 0)) := heap_at (by simp)

set_option maxRecDepth 100000 in
set_option maxHeartbeats 3200000 in
theorem unpacks_size {Z : List Ob} (W0 V0 : World) (b N : Nat) (gF gH gC gS uv hv pv sv kv : Value) (prs : List PkR) (bls : List ByteArray) (recs : List RecB) (us : List UkR) (hrs : List HRec) (A B' C : Int) (S : ByteArray) (w : World) (hI : UInv W0 V0 w b gF gH gC gS uv hv pv sv kv prs bls recs us hrs N Z) (hN : N ≤ 16777216) (hA : I64 A) (h0 : 0 < us.length) :
    Calls Tryz.prog 12 #[.pointer (some ⟨b, 0, none⟩), .agg #[.int .i64 11, .int .i64 A, .int .i64 B', .int .i64 C, .string S]] w fun e w' => e = .returned (.bool true) ∧ Below w.heap.size w w' := by
  obtain ⟨sr, cr, hpv⟩ := slice_len hI.rowU
  subst hpv
  obtain ⟨gr, hgr, hcr⟩ := slice_some hI.rowU h0
  subst hgr
  have hlt := lt_of_block hI.p.blk
  have hgl : gr < w.heap.size := owns_lt hI.rowU rfl
  have g6 : w.cell? ⟨b, 6, none⟩ = some (.slice (some ⟨gr, 0, none⟩) us.length cr) := by rw [cell_of_row w b _ _ _ _ hI.p.blk]; rfl
  obtain ⟨j, hj, hjl⟩ := pkNat A h0
  obtain ⟨e0, e1⟩ := ukCells_get hjl
  have q0 : w.cell? ⟨gr, j * 2, none⟩ = some (.pointer (some ⟨us[j].xb, 0, none⟩)) := by rw [hI.rowU.cellAt _ (by have := ukCells_length us; omega)]; exact e0
  have q1 : w.cell? ⟨gr, j * 2 + 1, none⟩ = some (.pointer (some ⟨us[j].ub, 0, none⟩)) := by rw [hI.rowU.cellAt _ (by have := ukCells_length us; omega)]; exact e1
  have hfew := hI.few.1
  have hxl : us[j].xb < w.heap.size := hI.p.x_lt (o := xuOb us[j]) (UInv.mem2 (List.getElem_mem hjl)).1 (Or.inl rfl)
  have hpl : us[j].ub < w.heap.size := hI.p.x_lt (o := unOb us[j]) (UInv.mem2 (List.getElem_mem hjl)).2 (Or.inl rfl)
  have HLIVE := hide (hI.okU _ (List.getElem_mem hjl)).live
  have hIa := hI.below (atU_below w [.int .i64 11, .int .i64 A, .int .i64 B', .int .i64 C, .string S] us[j])
  have HRJ := hide (List.getElem_mem hjl)
  have hop := atU_op w [.int .i64 11, .int .i64 A, .int .i64 B', .int .i64 C, .string S] us[j]
  have hpp := atU_pk w [.int .i64 11, .int .i64 A, .int .i64 B', .int .i64 C, .string S] us[j]
  have HBA := hide (atU_below w [.int .i64 11, .int .i64 A, .int .i64 B', .int .i64 C, .string S] us[j])
  have HWA : Hid (atU w [.int .i64 11, .int .i64 A, .int .i64 B', .int .i64 C, .string S] us[j] = ((w.alloc (.cells #[.int .i64 11, .int .i64 A, .int .i64 B', .int .i64 C, .string S] 49)).alloc (.cells #[.pointer (some ⟨us[j].xb, 0, none⟩), .pointer (some ⟨us[j].ub, 0, none⟩)] 127)).drew) := by show _ = _; rfl
  generalize atU w [.int .i64 11, .int .i64 A, .int .i64 B', .int .i64 C, .string S] us[j] = wa at hIa hop hpp HBA HWA
  obtain ⟨xb, hxe⟩ : ∃ xb, xb = us[j].xb := ⟨_, rfl⟩
  obtain ⟨pb, hpe⟩ : ∃ pb, pb = us[j].ub := ⟨_, rfl⟩
  rw [← hxe] at q0 hxl hpp HWA
  rw [← hpe] at q1 hpl hpp HWA
  have HXE := hide hxe
  have HPE := hide hpe
  have HI := hide hI
  have HIA := hide hIa
  have HOP := hide hop
  have HPP := hide hpp
  have HJ := hide hj
  have HA := hide hA
  clear hI hIa hj hA e0 e1 hop hpp hxe hpe
  go_enter Tryz.func12, Tryz.ntmps12
  go_upto_region 11 with fail
  go_cut [9] (fun s9 wx => s9 = .pointer (some ⟨w.heap.size + 1, 0, none⟩) ∧ wx = wa)
  case first =>
    go_region_held3 (fun w' => w'.cell? ⟨b, 6, none⟩ = some (.slice (some ⟨gr, 0, none⟩) us.length cr) ∧ w'.cell? ⟨w.heap.size, 1, none⟩ = some (.int .i64 A) ∧ w'.cell? ⟨gr, j * 2, none⟩ = some (.pointer (some ⟨xb, 0, none⟩)) ∧ w'.cell? ⟨gr, j * 2 + 1, none⟩ = some (.pointer (some ⟨pb, 0, none⟩))) (go_keep)
      (first | (go_at_call 20; refine (lpickAt A us.length j _ h0 HA.out HJ.out).mono ?_; rintro e w' ⟨rfl, rfl⟩))
    all_goals (go_wp2_with fail; go_meet; exact ⟨rfl, HWA.out.symm⟩)
  case rest =>
    obtain ⟨rfl, hwc⟩ := hcut
    rw [hwc]
    clear hwc wc g6 q0 q1
    obtain ⟨o0, o1, o2, o3, o4⟩ := op_block HOP.out
    obtain ⟨p0, p1⟩ := pair_blk HPP.out
    have hsz := lt_of_block HPP.out
    have hxu := HIA.out.xu HRJ.out
    have hun := HIA.out.un HRJ.out
    have hcall : ∃ sz : Int, (Calls Tryz.prog 45 #[.pointer (some ⟨xb, 0, none⟩)] wa fun e w' => e = .returned (.int .i64 sz) ∧ w' = wa) ∧ (Calls Tryz.prog 46 #[.pointer (some ⟨pb, 0, none⟩)] wa fun e w' => e = .returned (.int .i64 sz) ∧ Below wa.heap.size wa w') := by
      rw [HXE.out, HPE.out]
      rcases hxu with ⟨hd, _, hb⟩ | ⟨hd, hu, _⟩
      · rw [hd] at hun
        exact ⟨0, usize_broken _ _ hb, (uSize_dead _ _ _ _ _ _ hun).mono fun e w' h => ⟨h.1, by rw [h.2]; exact Below.refl _ _⟩⟩
      · rw [hd] at hun
        exact ⟨_, usize_any _ _ _ _ _ _ _ hu.st, uSize_any _ _ _ _ _ _ hun (by have := (HLIVE.out hd).2.2.2; omega)⟩
    obtain ⟨z, hps2, hrs⟩ := hcall
    have HPS := hide hps2
    have HRS := hide hrs
    clear hxu hun hps2 hrs
    go_wp2_with fail
    refine HPS.out.mono ?_
    rintro e w' ⟨rfl, hw'⟩
    rw [hw']
    clear hw' w'
    go_wp2_with fail
    refine HRS.out.mono ?_
    rintro e w1 ⟨rfl, hb1⟩
    have HB1 := hide (HBA.out.trans (hb1.mono HBA.out.size))
    clear hb1
    go_wp2
    go_ret
    exact ⟨by simp, HB1.out⟩
end Go.Proofs.YtghongdbohjaaaaGreatDoor
/-
  Unpack, the program's and the document's, on two unpackers that stand alike.
-/
namespace Go.Proofs.YtghongdbohjaaaaGreatDoor
set_option linter.unusedVariables false
set_option linter.unusedSimpArgs false
open Go.RowKit

theorem pairsR_len (lim : Nat) (l : List UInt8) (f : Nat) : ∀ acc log at_ hs log', pairsR lim l f acc log at_ = some (hs, log') → acc.length ≤ 8 → hs.length ≤ 8 := by
  induction f with
  | zero => intro acc log at_ hs log' h _; simp [pairsR] at h
  | succ f ih =>
    intro acc log at_ hs log' h ha
    rw [pairsR] at h
    split at h
    · simp only [Option.some.injEq, Prod.mk.injEq] at h
      rw [← h.1]; exact ha
    · split at h
      · next hc =>
        simp only [Bool.and_eq_true, decide_eq_true_eq] at hc
        exact ih _ _ _ _ _ h (by simpa using hc.2)
      · simp at h
theorem unpackR_len {most lim lim' : Nat} {log log' : List Ch} {b : List UInt8} {hs : List HP} (h : unpackR most log lim b = some (hs, log', lim')) : hs.length ≤ 8 := by
  unfold unpackR at h
  split at h
  · simp at h
  · split at h
    · simp at h
    · next hp =>
      simp only [Option.some.injEq, Prod.mk.injEq] at h
      rw [← h.1]
      exact pairsR_len _ _ _ _ _ _ _ _ hp (by simp)

theorem conv_in (w : World) (l : List UInt8) : ∃ w' cap, (convert 9 54 (.string ⟨l.toArray⟩)).run Tryz.prog w = .ok (.slice (some ⟨w.heap.size, 0, none⟩) l.length cap) w' ∧ BytesIn w' (.slice (some ⟨w.heap.size, 0, none⟩) l.length cap) l ∧ w.heap.size < w'.heap.size ∧ Below w.heap.size w w' := by
  have h := run_bytes_of_string (P := Tryz.prog) w 9 54 5 ⟨l.toArray⟩ Tryz.underlying9 Tryz.underlying54 Tryz.underlying5
  have hs : (ByteArray.mk l.toArray).size = l.length := by simp [ByteArray.size]
  rw [hs] at h
  have h1 : Below w.heap.size w w.drew := ⟨rfl, rfl, rfl, Nat.le_refl _, fun _ _ => rfl⟩
  have hh := heap_alloc_new w.drew (.cells (bytesRow ⟨l.toArray⟩ (grownCap w l.length 0 5)) 5 ((bytesRow ⟨l.toArray⟩ (grownCap w l.length 0 5)).size, (bytesRow ⟨l.toArray⟩ (grownCap w l.length 0 5)).size + 1))
  refine ⟨_, _, h, Or.inr ⟨w.heap.size, 0, _, rfl, lt_of_block hh, grownCap_ge w l.length 0 5, fun i hi => ?_⟩, lt_of_block hh, h1.alloc (Nat.le_refl _) _⟩
  rw [cell_of_row _ w.heap.size _ _ _ _ hh, Nat.zero_add]
  simp only [bytesRow]
  rw [Array.getElem?_append_left (by simpa using hi)]
  simp [hi, List.getD]

section
variable {W0 V0 w w1 w3 : World} {b N : Nat} {gF gH gC gS uv hv pv sv kv : Value} {prs : List PkR} {bls : List ByteArray} {recs : List RecB} {us : List UkR} {hrs : List HRec} {Z : List Ob}
theorem obsU_more (o : Ob) : (obsU uv hv us hrs (o :: Z)).Perm (o :: obsU uv hv us hrs Z) := by
  unfold obsU restU
  have e : us.flatMap twoU ++ rowOb 127 2 uv us.length (ukCells us) :: rowOb 72 6 hv hrs.length (hrCells hrs) :: (hrs.map hrOb ++ o :: Z) = (us.flatMap twoU ++ rowOb 127 2 uv us.length (ukCells us) :: rowOb 72 6 hv hrs.length (hrCells hrs) :: hrs.map hrOb) ++ o :: Z := by simp
  have e2 : us.flatMap twoU ++ rowOb 127 2 uv us.length (ukCells us) :: rowOb 72 6 hv hrs.length (hrCells hrs) :: (hrs.map hrOb ++ Z) = (us.flatMap twoU ++ rowOb 127 2 uv us.length (ukCells us) :: rowOb 72 6 hv hrs.length (hrCells hrs) :: hrs.map hrOb) ++ Z := by simp
  rw [e, e2]
  exact List.perm_middle
theorem UInv.put (h : UInv W0 V0 w b gF gH gC gS uv hv pv sv kv prs bls recs us hrs N Z) {w' : World} (hb : Below w.heap.size w w') (o : Ob) (hP : o.P w') (hF : ∀ j, o.F j → w.heap.size ≤ j) : UInv W0 V0 w' b gF gH gC gS uv hv pv sv kv prs bls recs us hrs N (o :: Z) :=
  ⟨(h.p.put hb o hP hF).permX (obsU_more o).symm, h.okU, h.okH, h.few⟩
theorem UInv.off {S : Nat → Prop} {o : Ob} (h : UInv W0 V0 w b gF gH gC gS uv hv pv sv kv prs bls recs us hrs N (o :: Z)) {w' : World} (hc : Chg S w w') (hS : ∀ j, S j → o.F j) : UInv W0 V0 w' b gF gH gC gS uv hv pv sv kv prs bls recs us hrs N Z :=
  ⟨(h.p.permX (obsU_more o)).off hc hS, h.okU, h.okH, h.few⟩
theorem UInv.extra {o : Ob} (h : UInv W0 V0 w b gF gH gC gS uv hv pv sv kv prs bls recs us hrs N (o :: Z)) : o.P w := (h.p.permX (obsU_more o)).extra
theorem UInv.two (h : UInv W0 V0 w b gF gH gC gS uv hv pv sv kv prs bls recs us hrs N Z) (k : Nat) (hk : k < us.length) {j : Nat} (hj : (xuOb us[k]).F j) : ¬ (unOb us[k]).F j := by
  have h1 := (h.p.permX (obsU_get k hk)).sep.perm obs_moreL
  exact Sep.two h1 hj
/-- The k-th unpacker is another now; and a list is there. -/
theorem UInv.swap {S : Nat → Prop} {r' : UkR} {lv : Value} {n : Nat} {xs : List Value} (h : UInv W0 V0 w1 b gF gH gC gS uv hv pv sv kv prs bls recs us hrs N Z) (k : Nat) (hk : k < us.length) (hx : r'.xb = us[k].xb) (hp : r'.ub = us[k].ub) (hc : Chg S w1 w3)
    (hS : ∀ j, S j → (xuOb us[k]).F j ∨ (unOb us[k]).F j) (h1 : (xuOb r').P w3) (h2 : (unOb r').P w3) (h3 : w3.ownsRow 0 62 2 lv n xs) (hF1 : ∀ j, (xuOb r').F j → (xuOb us[k]).F j ∨ w1.heap.size ≤ j) (hF2 : ∀ j, (unOb r').F j → (unOb us[k]).F j ∨ w1.heap.size ≤ j) (hF3 : ∀ j, lv.ownBlock = some j → w1.heap.size ≤ j)
    (hap : ∀ j, w1.heap.size ≤ j → (xuOb r').F j → ¬ (unOb r').F j) (hap1 : ∀ j, lv.ownBlock = some j → ¬ (xuOb r').F j) (hap2 : ∀ j, lv.ownBlock = some j → ¬ (unOb r').F j) (hok : UOk (N + 1) r') :
    UInv W0 V0 w3 b gF gH gC gS uv hv pv sv kv prs bls recs (us.set k r') hrs (N + 1) (rowOb 62 2 lv n xs :: Z) := by
  have hm := UInv.mem2 (uv := uv) (hv := hv) (hrs := hrs) (Z := Z) (List.getElem_mem hk)
  have hg := h.p.permX (obsU_get k hk)
  have ht := hg.turnX (os' := rowOb 62 2 lv n xs :: twoU r') hc ?_ ?_ ?_ ?_
  · refine ⟨(ht.permX ?_).mono (Nat.le_succ _), fun r hr => ?_, h.okH, ⟨by rw [List.length_set]; exact Nat.le_trans h.few.1 (Nat.le_succ _), Nat.le_trans h.few.2 (Nat.le_succ _)⟩⟩
    · exact ((obsU_more _).trans ((obsU_set k hk r' hx hp Z).cons _)).symm
    · rcases List.mem_or_eq_of_mem_set hr with hr | rfl
      · exact (h.okU r hr).mono (Nat.le_succ _)
      · exact hok
  · intro j hj
    rcases hS j hj with e | e
    · exact ⟨_, by simp [twoU], e⟩
    · exact ⟨unOb us[k], by simp [twoU], e⟩
  · intro o ho
    simp only [twoU, List.mem_cons, List.not_mem_nil, or_false] at ho
    rcases ho with rfl | rfl | rfl
    · exact h3
    · exact h1
    · exact h2
  · refine List.pairwise_cons.2 ⟨fun o ho j hj hj2 => ?_, List.pairwise_cons.2 ⟨fun o ho j hj hj2 => ?_, List.pairwise_singleton _ _⟩⟩
    · simp only [twoU, List.mem_cons, List.not_mem_nil, or_false] at ho
      rcases ho with rfl | rfl
      · exact hap1 j hj hj2
      · exact hap2 j hj hj2
    · simp only [List.mem_cons, List.not_mem_nil, or_false] at ho
      subst ho
      rcases hF1 j hj with e1 | e1
      · rcases hF2 j hj2 with e2 | e2
        · exact h.two k hk e1 e2
        · have := h.p.x_lt hm.1 e1; omega
      · exact hap j e1 hj hj2
  · intro o ho j hj
    simp only [twoU, List.mem_cons, List.not_mem_nil, or_false] at ho
    rcases ho with rfl | rfl | rfl
    · exact Or.inr (hF3 j hj)
    · exact (hF1 j hj).imp_left fun e => ⟨_, by simp [twoU], e⟩
    · exact (hF2 j hj).imp_left fun e => ⟨unOb us[k], by simp [twoU], e⟩
/-- The list, kept. -/
theorem UInv.keptH {len : Nat} {lv : Value} {xs : List Value} {w' : World} (h : UInv W0 V0 w b gF gH gC gS uv hv pv sv kv prs bls recs us hrs N (rowOb 62 2 lv len xs :: Z)) (hn : hrs.length + 1 ≤ N) (hlen : len ≤ 1073741824) (hk : KeptH w w' b (lwP gF gH gC ⟨gS, uv, hv⟩ pv sv kv) hv lv hrs len) :
    ∃ hv' r, UInv W0 V0 w' b gF gH gC gS uv hv' pv sv kv prs bls recs us (hrs ++ [r]) N Z := by
  obtain ⟨hv', r, hb6, hrow6, hrn, hrlen, hfam, hsep, hch, hhv'⟩ := hk
  refine ⟨hv', r, ?_, h.okU, fun x hx => ?_, ⟨h.few.1, by simpa using hn⟩⟩
  · have hperm : (obsU uv hv us hrs (rowOb 62 2 lv len xs :: Z)).Perm ([rowOb 62 2 lv len xs, rowOb 72 6 hv hrs.length (hrCells hrs)] ++ (us.flatMap twoU ++ rowOb 127 2 uv us.length (ukCells us) :: (hrs.map hrOb ++ Z))) := by
      refine (obsU_more _).trans (List.Perm.cons _ ?_)
      unfold obsU restU
      generalize rowOb 72 6 hv hrs.length (hrCells hrs) = A
      generalize rowOb 127 2 uv us.length (ukCells us) = B
      generalize us.flatMap twoU = L
      generalize hrs.map hrOb ++ Z = M
      show (L ++ B :: A :: M).Perm (A :: (L ++ B :: M))
      have e : L ++ B :: A :: M = (L ++ [B]) ++ A :: M := by simp
      have e2 : L ++ B :: M = (L ++ [B]) ++ M := by simp
      rw [e, e2]
      exact List.perm_middle
    have hperm2 : (obsU uv hv' us (hrs ++ [r]) Z).Perm ([hrOb r, rowOb 72 6 hv' (hrs ++ [r]).length (hrCells (hrs ++ [r]))] ++ (us.flatMap twoU ++ rowOb 127 2 uv us.length (ukCells us) :: (hrs.map hrOb ++ Z))) := by
      unfold obsU restU
      rw [List.map_append]
      generalize rowOb 72 6 hv' (hrs ++ [r]).length (hrCells (hrs ++ [r])) = A
      generalize rowOb 127 2 uv us.length (ukCells us) = B
      generalize us.flatMap twoU = L
      generalize hrs.map hrOb = M
      show (L ++ B :: A :: (M ++ [hrOb r] ++ Z)).Perm (hrOb r :: A :: (L ++ B :: (M ++ Z)))
      have e : L ++ B :: A :: (M ++ [hrOb r] ++ Z) = (L ++ [B] ++ A :: M) ++ hrOb r :: Z := by simp
      rw [e]
      refine List.perm_middle.trans (List.Perm.cons _ ?_)
      have e2 : (L ++ [B] ++ A :: M) ++ Z = (L ++ [B]) ++ A :: (M ++ Z) := by simp
      have e3 : L ++ B :: (M ++ Z) = (L ++ [B]) ++ (M ++ Z) := by simp
      rw [e2, e3]
      exact List.perm_middle
    refine ((h.p.permX hperm).turnG (gS' := ⟨gS, uv, hv'⟩) (by rw [hb6]; rfl) hch ?_ ?_ ?_ ?_).permX hperm2.symm
    · rintro j (e | e | e)
      · exact Or.inr e
      · exact Or.inl ⟨rowOb 72 6 hv hrs.length (hrCells hrs), by simp, e⟩
      · exact Or.inl ⟨rowOb 62 2 lv len xs, by simp, e⟩
    · intro o ho
      simp only [List.mem_cons, List.not_mem_nil, or_false] at ho
      rcases ho with rfl | rfl
      · exact hfam
      · exact hrow6
    · refine List.pairwise_cons.2 ⟨fun o ho j hj hj2 => ?_, List.pairwise_singleton _ _⟩
      simp only [List.mem_cons, List.not_mem_nil, or_false] at ho
      subst ho
      obtain ⟨u, hu, e⟩ := hj
      have hj2' : hv'.ownBlock = some j := hj2
      simp only [List.mem_cons, List.not_mem_nil, or_false] at hu
      rcases hu with rfl | rfl | rfl | rfl
      · exact rows_ne hfam.l hrow6 (by decide) e hj2'
      · exact rows_ne hfam.a hrow6 (by decide) e hj2'
      · exact rows_ne hfam.b hrow6 (by decide) e hj2'
      · exact rows_ne hfam.c hrow6 (by decide) e hj2'
    · intro o ho j hj
      simp only [List.mem_cons, List.not_mem_nil, or_false] at ho
      rcases ho with rfl | rfl
      · obtain ⟨u, hu, e⟩ := hj
        exact (hsep u hu j e).imp_left fun e => ⟨rowOb 62 2 lv len xs, by simp, e⟩
      · exact (hhv' j hj).imp_left fun e => ⟨rowOb 72 6 hv hrs.length (hrCells hrs), by simp, e⟩
  · rcases List.mem_append.1 hx with hx | hx
    · exact h.okH x hx
    · simp only [List.mem_cons, List.not_mem_nil, or_false] at hx
      rw [hx, hrlen]; exact hlen
end

/-- After both. -/
def TwoUn (W0 V0 w3 : World) (b N : Nat) (gF gH gC gS uv hv pv sv kv : Value) (prs : List PkR) (bls : List ByteArray) (recs : List RecB) (us : List UkR) (hrs : List HRec) (Z : List Ob) (k : Nat) (lv : Value) (c : Int) (e : Ending) : Prop :=
  ∃ mv r' hs xs, e = .returned (.tuple #[mv, .int .i64 c]) ∧ HsIn w3 lv hs ∧ HsIn w3 mv hs ∧ hs.length ≤ 8 ∧ (c = 0 ∨ lv = .slice none 0 0) ∧ UInv W0 V0 w3 b gF gH gC gS uv hv pv sv kv prs bls recs (us.set k r') hrs (N + 1) (rowOb 62 2 lv hs.length xs :: Z)

theorem un_both {Z : List Ob} (W0 V0 : World) (b N : Nat) (gF gH gC gS uv hv pv sv kv : Value) (prs : List PkR) (bls : List ByteArray) (recs : List RecB) (us : List UkR) (hrs : List HRec) (k g cg : Nat) (l : List UInt8) (w1 : World) (hI : UInv W0 V0 w1 b gF gH gC gS uv hv pv sv kv prs bls recs us hrs N Z) (hgl : Gl W0) (hN : N + 1 ≤ 16777216) (hk : k < us.length)
    (hl : l.length ≤ 1048576) (hbt : BytesIn w1 (.slice (some ⟨g, 0, none⟩) l.length cg) l) (hg : ¬ (xuOb us[k]).F g) :
    Calls Tryz.prog 47 #[.pointer (some ⟨us[k].xb, 0, none⟩), .slice (some ⟨g, 0, none⟩) l.length cg] w1 fun e w2 => ∃ s n cp c, e = .returned (.tuple #[.slice s n cp, .int .i64 c]) ∧ Chg (fun j => (xuOb us[k]).F j) w1 w2 ∧
      ∀ w2a gg cb, Below w2.heap.size w2 w2a → w2.heap.size ≤ gg → gg < w2a.heap.size → BytesIn w2a (.slice (some ⟨gg, 0, none⟩) l.length cb) l →
        Calls Tryz.prog 48 #[.pointer (some ⟨us[k].ub, 0, none⟩), .slice (some ⟨gg, 0, none⟩) l.length cb] w2a fun e' w3 => TwoUn W0 V0 w3 b N gF gH gC gS uv hv pv sv kv prs bls recs us hrs Z k (.slice s n cp) c e' := by
  have hmem := List.getElem_mem hk
  have hxu := hI.xu hmem
  have hun := hI.un hmem
  have hok := hI.okU _ hmem
  have hm := UInv.mem2 (uv := uv) (hv := hv) (hrs := hrs) (Z := Z) hmem
  have hnil : ∀ j, (Value.slice none 0 0).ownBlock ≠ some j := fun j e => by simp [Value.ownBlock] at e
  have htwo := fun j => hI.two k hk (j := j)
  have hxlt : ∀ j, (xuOb us[k]).F j → j < w1.heap.size := fun j hj => hI.p.x_lt hm.1 hj
  have hult : ∀ j, (unOb us[k]).F j → j < w1.heap.size := fun j hj => hI.p.x_lt hm.2 hj
  have hxlo : ∀ j, (xuOb us[k]).F j → 7 ≤ j := fun j hj => by
    have h1 := hI.p.x_lo hm.1 hj
    have h2 := hI.p.belV.size
    have h3 := hgl.lt
    omega
  rcases hxu with ⟨hd, htv, hb⟩ | ⟨hd, hu, h5⟩
  · refine (unpack_broken us[k].xb _ _ _ w1 hb).mono ?_
    rintro e w2 ⟨rfl, hb2⟩
    refine ⟨_, _, _, _, rfl, Chg.of_below hb2, fun w2a gg cb hba hgg hgl2 hby => ?_⟩
    rw [hd] at hun
    have hb12 : Below w1.heap.size w1 w2a := hb2.trans (hba.mono hb2.size)
    refine (rUnpack_dead us[k].ub us[k].lv _ _ _ _ w2a (hun.below hb12)).mono ?_
    rintro e w3 ⟨rfl, rfl⟩
    refine ⟨_, us[k], [], [], rfl, Or.inl ⟨rfl, rfl⟩, Or.inl ⟨rfl, rfl⟩, by simp, Or.inr rfl, ?_⟩
    rw [List.set_getElem_self]
    exact ((hI.below hb12).mono (Nat.le_succ _)).put (Below.refl _ _) (rowOb 62 2 (.slice none 0 0) 0 []) (World.ownsRow_nil _ _ _ _) (fun j hj => absurd hj (hnil j))
  · obtain ⟨hlim, hsz, hall, hlog⟩ := hok.live hd
    rw [hd] at hun
    have hmt := unpack_match us[k].most us[k].log us[k].lim l hall
    have hbu : (Value.slice (some ⟨g, 0, none⟩) l.length cg).ownBlock ≠ some us[k].xb := fun e => hg (Or.inl (by simpa [Value.ownBlock] using e))
    have hbt2 : ∀ j, (Value.slice (some ⟨g, 0, none⟩) l.length cg).ownBlock = some j → us[k].tv.ownBlock ≠ some j := fun j e f => hg (Or.inr (by rw [show g = j from by simpa [Value.ownBlock] using e]; exact f))
    cases hq : unpackR us[k].most us[k].log us[k].lim l with
    | none =>
      rw [hq] at hmt
      refine (unpack_bad us[k].xb us[k].cs us[k].tv _ _ l w1 (hgl.below hI.p.bel) hu h5 hbt hbu hbt2 (by omega) (hxlo _ (Or.inl rfl)) (fun j hj => hxlo j (Or.inr hj)) hmt).mono ?_
      rintro e w2 ⟨rfl, hbr, hc2⟩
      have hz2 := hc2.size
      refine ⟨_, _, _, _, rfl, hc2, fun w2a gg cb hba hgg hgl2 hby => ?_⟩
      have hza := hba.size
      have hun2 : UnB w2a us[k].ub us[k].lv us[k].lim us[k].most false us[k].log := (hun.chg hc2 (fun e => htwo _ e (Or.inl rfl)) (fun j hj e => htwo j e (Or.inr hj))).below hba
      have hul := hult _ (Or.inl rfl)
      refine (rUnpack_any us[k].ub gg 0 cb l us[k].lv us[k].log us[k].lim us[k].most w2a hun2 hby hgl2 (by omega) (fun e => by have := hult gg (Or.inr e); omega) hl hok.most hlim hsz (by omega)).mono ?_
      rintro e w3 ⟨hc3, ⟨_, rfl, lv', lim', log', hun3, hfr⟩ | ⟨hs, log', lim', v, lv', hs', _⟩⟩
      · have hz3 := hc3.size
        refine ⟨_, ⟨us[k].xb, us[k].cs, .slice none 0 0, us[k].ub, lv', log', lim', us[k].most, true⟩, [], [], rfl, Or.inl ⟨rfl, rfl⟩, Or.inl ⟨rfl, rfl⟩, by simp, Or.inr rfl, ?_⟩
        refine hI.swap (S := fun j => (xuOb us[k]).F j ∨ (unOb us[k]).F j) k hk rfl rfl (((hc2.mono fun j _ e => Or.inl e).then_below hba).trans (hc3.mono fun j _ e => Or.inr (Or.inr e))) (fun j hj => hj) ?_ hun3 (World.ownsRow_nil _ _ _ _) ?_ ?_ (fun j hj => absurd hj (hnil j)) ?_ (fun j hj => absurd hj (hnil j)) (fun j hj => absurd hj (hnil j)) ⟨hok.most, fun h => by simp at h⟩
        · refine Or.inl ⟨rfl, rfl, ?_⟩
          have h2a := kept_told hbr hba
          show w3.heap[us[k].xb]? = _
          rw [hc3.block _ (lt_of_block h2a) (fun e => htwo us[k].xb (Or.inl rfl) e)]
          exact h2a
        · rintro j (e | e)
          · exact Or.inl (Or.inl e)
          · exact absurd e (hnil j)
        · rintro j (e | e)
          · exact Or.inl (Or.inl e)
          · rcases hfr j e with e | e
            · exact Or.inl (Or.inr e)
            · exact Or.inr (by omega)
        · rintro j hj (e | e) _
          · have := hxlt j (Or.inl e); omega
          · exact hnil j e
      · rw [hq] at hs'; simp at hs'
    | some p =>
      obtain ⟨hs, log', lim'⟩ := p
      rw [hq] at hmt
      obtain ⟨hmt, hall'⟩ := hmt
      refine (unpack_ok us[k].xb us[k].cs us[k].tv _ _ l hs lim' (tabL log') w1 (hgl.below hI.p.bel) hu hbt hbu hbt2 (by omega) (hxlo _ (Or.inl rfl)) (fun j hj => hxlo j (Or.inr hj)) hmt).mono ?_
      rintro e w2 ⟨lv2, cs', tv', rfl, hU⟩
      obtain ⟨s2, c2, rfl⟩ := slice_len hU.row
      have hc2 := hU.chg
      have hz2 := hc2.size
      refine ⟨_, _, _, _, rfl, hc2, fun w2a gg cb hba hgg hgl2 hby => ?_⟩
      have hza := hba.size
      have hun2 : UnB w2a us[k].ub us[k].lv us[k].lim us[k].most false us[k].log := (hun.chg hc2 (fun e => htwo _ e (Or.inl rfl)) (fun j hj e => htwo j e (Or.inr hj))).below hba
      have hul := hult _ (Or.inl rfl)
      refine (rUnpack_any us[k].ub gg 0 cb l us[k].lv us[k].log us[k].lim us[k].most w2a hun2 hby hgl2 (by omega) (fun e => by have := hult gg (Or.inr e); omega) hl hok.most hlim hsz (by omega)).mono ?_
      rintro e w3 ⟨hc3, ⟨hs', _⟩ | ⟨hs3, log3, lim3, v, lv3, hs', rfl, hrow3, hun3, hfr, hlen3, hsz3, hlim3⟩⟩
      · rw [hq] at hs'; simp at hs'
      · rw [hq] at hs'
        simp only [Option.some.injEq, Prod.mk.injEq] at hs'
        obtain ⟨rfl, rfl, rfl⟩ := hs'
        have hz3 := hc3.size
        -- what the document changes lies apart from the program's
        have htvlt : ∀ j, tv'.ownBlock = some j → (unOb us[k]).F j → False := fun j hj e => by
          rcases hU.tfresh j hj with f | f
          · exact htwo j (Or.inr f) e
          · have := hult j e; omega
        have hlv2 : ∀ j, (Value.slice s2 hs.length c2).ownBlock = some j → w1.heap.size ≤ j := fun j hj => (hU.row.lt j hj).1
        have hrow2 : w3.ownsRow w1.heap.size 62 2 (.slice s2 hs.length c2) hs.length (hpCells hs) := owns_chg (owns_chg hU.row (Chg.of_below (S := fun _ => False) hba) (fun _ _ => id)) hc3 (fun j hj e => by have h1 := hlv2 j hj; have h2 := hult j e; omega)
        have hst3 : TbS w3 us[k].xb cs' 193 lim' tv' (tabL log') := (hU.st.below hba).chg hc3 (fun e => htwo _ (Or.inl rfl) e) (fun j hj e => htvlt j hj e)
        have hu3 : UpS w3 us[k].xb cs' tv' ⟨lim', tabL log', us[k].most⟩ := ⟨hst3, (hU.cs3 3 (by omega)).trans hu.c3, (hU.cs3 4 (by omega)).trans hu.c4, hu.most⟩
        refine ⟨v, ⟨us[k].xb, cs', tv', us[k].ub, lv3, log', lim', us[k].most, false⟩, hs, hpCells hs, rfl, hsIn_of_owns hrow2, hsIn_of_owns (by rw [hp_hd]; exact hrow3), unpackR_len hq, Or.inl rfl, ?_⟩
        refine hI.swap (S := fun j => (xuOb us[k]).F j ∨ (unOb us[k]).F j) k hk rfl rfl (((hc2.mono fun j _ e => Or.inl e).then_below hba).trans (hc3.mono fun j _ e => Or.inr (Or.inr e))) (fun j hj => hj) (Or.inr ⟨rfl, hu3, (hU.cs3 5 (by omega)).trans h5⟩) hun3 (owns_base hrow2 (fun _ _ => Nat.zero_le _)) ?_ ?_ hlv2 ?_ ?_ ?_ ⟨hok.most, fun _ => ⟨hlim3, hsz3, hall', by show log'.length ≤ _; omega⟩⟩
        · rintro j (e | e)
          · exact Or.inl (Or.inl e)
          · rcases hU.tfresh j e with e | e
            · exact Or.inl (Or.inr e)
            · exact Or.inr e
        · rintro j (e | e)
          · exact Or.inl (Or.inl e)
          · rcases hfr j e with e | e
            · exact Or.inl (Or.inr e)
            · exact Or.inr (by omega)
        · rintro j hj (e | e) (f | f)
          · have := hxlt j (Or.inl e); omega
          · have := hxlt j (Or.inl e); omega
          · have := hult j (Or.inl f); omega
          · exact rows_ne hst3.row hun3.row (by decide) e f
        · rintro j hj (e | e)
          · have h1 := hlv2 j hj; have := hxlt j (Or.inl e); omega
          · exact hU.ap j hj e
        · rintro j hj (e | e)
          · have h1 := hlv2 j hj; have := hult j (Or.inl e); omega
          · exact rows_ne hrow2 hun3.row (by decide) hj e
end Go.Proofs.YtghongdbohjaaaaGreatDoor
