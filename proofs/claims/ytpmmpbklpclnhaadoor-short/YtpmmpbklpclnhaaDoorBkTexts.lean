import Derived.Test.YtpmmpbklpclnhaaDoorBkAdd
import Derived.Test.YtpmmpbklpclnhaaDoorBkClone
set_option linter.unusedVariables false
set_option linter.unusedSimpArgs false
/-
  Package blocks: appendTexts.
-/
namespace Go.Proofs.YtpmmpbklpclnhaaDoor
set_option linter.unusedVariables false
set_option linter.unusedSimpArgs false
open Go.RowKit

theorem Laid.gl {w w' : World} {gv v : Value} {l : List UInt8} (h : Laid w gv w' v l) (hg : Gl w) (hgg : ∀ j, gv.ownBlock = some j → 7 ≤ j) : Gl w' := hg.chg h.chg (fun j hj e => by have := hgg j e; omega)
theorem Laid.gg {w w' : World} {gv v : Value} {l : List UInt8} (h : Laid w gv w' v l) (hg : Gl w) (hgg : ∀ j, gv.ownBlock = some j → 7 ≤ j) : ∀ j, v.ownBlock = some j → 7 ≤ j := fun j hj => by
  rcases h.fresh j hj with e | e
  · exact hgg j e
  · exact Nat.le_trans hg.lt e
theorem Laid.keep {w w' : World} {gv v : Value} {l : List UInt8} (h : Laid w gv w' v l) {q : Nat} {o : Obj} (hq : w.heap[q]? = some o) (hne : gv.ownBlock ≠ some q) : w'.heap[q]? = some o := by
  rw [h.chg.block q (Array.getElem?_eq_some_iff.1 hq).1 hne]; exact hq
theorem Laid.ne {w w' : World} {gv v : Value} {l : List UInt8} (h : Laid w gv w' v l) {q : Nat} (hq : q < w.heap.size) (hne : gv.ownBlock ≠ some q) : v.ownBlock ≠ some q := fun e => by
  rcases h.fresh q e with a | a
  · exact hne a
  · omega
theorem cnt_len (f k n : Nat) (hn : n ≤ 1048576) : (cnt f k n).length ≤ 1048580 := by
  have := tail7_len (n - (2 ^ k - 1))
  unfold cnt
  split
  · simp
  · rw [List.length_cons]; omega
theorem txt_le (t : List UInt8) (h : t.length ≤ 262144) : (txt t).length ≤ 2097152 := by
  have h1 := packB_len t
  unfold txt
  split
  · have := cnt_len 128 7 (bytesB (packB t)).length (by omega)
    rw [List.length_append]; omega
  · have := cnt_len 0 7 t.length (by omega)
    rw [List.length_append]; omega

set_option maxRecDepth 100000 in
set_option maxHeartbeats 800000 in
theorem appendTexts_any (pb : Nat) (cs : Array Value) (tP : TypeId) (lim : Nat) (tv : Value) (tab : List HP) (f k : Nat) (h : HP) (gv : Value) (l : List UInt8) (w : World) (hgl : Gl w) (ht : TbS w pb cs tP lim tv tab) (hown : w.ownsRow 0 5 1 gv l.length (l.map B)) (hgg : ∀ j, gv.ownBlock = some j → 7 ≤ j)
    (hl : l.length ≤ 134217728) (hn : h.n.size ≤ 262144) (hv : h.v.size ≤ 262144) (hk : k = 4 ∨ k = 5 ∨ k = 6 ∨ k = 7) (hf : f + 2 ^ k ≤ 256) (hz : f % 2 ^ k = 0) :
    Calls Tryd.prog 41 #[.pointer (some ⟨pb, 0, none⟩), gv, fm f k, .agg #[.string h.n, .string h.v]] w fun e w' => ∃ v, e = .returned v ∧ Laid w gv w' v (l ++ txs tab f k h) := by
  have hfew := ht.few
  have hbel : Below w.heap.size w ((w.alloc (.cells #[.int .u8 (f : Int), .int .i64 (k : Int)] 69)).alloc (.cells #[.string h.n, .string h.v] 33)) := ((Below.refl _ _).alloc (Nat.le_refl _) _).alloc (by simp) _
  have hfr : ((w.alloc (.cells #[.int .u8 (f : Int), .int .i64 (k : Int)] 69)).alloc (.cells #[.string h.n, .string h.v] 33)).heap[w.heap.size]? = some (.cells #[.int .u8 (f : Int), .int .i64 (k : Int)] 69 (0, 0)) := by
    rw [Below.heap_alloc _ _ _ (by simp)]; exact heap_alloc_new w _
  have hhd : ((w.alloc (.cells #[.int .u8 (f : Int), .int .i64 (k : Int)] 69)).alloc (.cells #[.string h.n, .string h.v] 33)).heap[w.heap.size + 1]? = some (.cells #[.string h.n, .string h.v] 33 (0, 0)) := by
    have := heap_alloc_new (w.alloc (.cells #[.int .u8 (f : Int), .int .i64 (k : Int)] 69)) (.cells #[.string h.n, .string h.v] 33)
    simpa using this
  have hfn := findName_any pb cs tP lim tv tab h.n ((w.alloc (.cells #[.int .u8 (f : Int), .int .i64 (k : Int)] 69)).alloc (.cells #[.string h.n, .string h.v] 33)).drew ((hgl.below hbel).below ⟨rfl, rfl, rfl, Nat.le_refl _, fun _ _ => rfl⟩) ((ht.below hbel).below ⟨rfl, rfl, rfl, Nat.le_refl _, fun _ _ => rfl⟩)
  have hgvl : ∀ j, gv.ownBlock = some j → j < w.heap.size := fun j hj => owns_lt hown hj
  have htx : txs tab f k h = cnt f k (nmF (numd tab) h.n) ++ ((if nmF (numd tab) h.n = 0 then txt h.n.data.toList else []) ++ txt h.v.data.toList) := rfl
  have hnm := nmF_le (numd tab) h.n
  rw [numd_length] at hnm
  generalize nmF (numd tab) h.n = N at hfn htx hnm
  have HFN := hide hfn
  have HBEL := hide hbel
  have HFR := hide hfr
  have HHD := hide hhd
  have HGL := hide hgl
  have HOW := hide hown
  have HGG := hide hgg
  have HGV := hide hgvl
  have HTX := hide htx
  have HKF := hide (And.intro hk (And.intro hf hz))
  clear hfn hbel hfr hhd hgl ht hown hgg hgvl htx hk hf hz
  go_enter Tryd.func41, Tryd.ntmps41
  go_wp2
  go_cut [9] (fun s9 wx => s9 = .int .i64 (N : Int) ∧ Below ((w.alloc (.cells #[.int .u8 (f : Int), .int .i64 (k : Int)] 69)).alloc (.cells #[.string h.n, .string h.v] 33)).heap.size ((w.alloc (.cells #[.int .u8 (f : Int), .int .i64 (k : Int)] 69)).alloc (.cells #[.string h.n, .string h.v] 33)) wx)
  case first =>
    go_region_law (refine step_call rfl 52 Tryd.f52 Tryd.func52 (by kernel_rfl) rfl [.tmp 12, .tmp 14] #[45, 9] rfl [.pointer (some ⟨pb, 0, none⟩), .string h.n] (by simp [Act.eval, Act.put]) HFN.out ?_; rintro e w1 ⟨rfl, hb1⟩; refine ⟨_, rfl, ?_⟩; have HB1 := hide hb1; clear hb1)
    all_goals (go_wp2_with fail; go_meet; exact ⟨rfl, HB1.out.os, HB1.out.tape, HB1.out.output, HB1.out.size, HB1.out.block⟩)
  case rest =>
    obtain ⟨rfl, hb1⟩ := hcut
    have hB1 : Below w.heap.size w wc := HBEL.out.trans (hb1.mono HBEL.out.size)
    have hg1 := HGL.out.below hB1
    have ho1 := owns_chg HOW.out (Chg.of_below (S := fun _ => False) hB1) (fun _ _ => id)
    have hf1 : wc.heap[w.heap.size]? = some (.cells #[.int .u8 (f : Int), .int .i64 (k : Int)] 69 (0, 0)) := by rw [hb1.block _ (lt_of_block HFR.out)]; exact HFR.out
    have hh1 : wc.heap[w.heap.size + 1]? = some (.cells #[.string h.n, .string h.v] 33 (0, 0)) := by rw [hb1.block _ (lt_of_block HHD.out)]; exact HHD.out
    have hac := appendCount_any f k N gv l wc ho1 (by omega) HKF.out.1 HKF.out.2.1 HKF.out.2.2 (by omega)
    have q0 : wc.cell? ⟨w.heap.size, 0, none⟩ = some (.int .u8 (f : Int)) := by rw [cell_of_row _ _ _ _ _ _ hf1]; rfl
    have q1 : wc.cell? ⟨w.heap.size, 1, none⟩ = some (.int .i64 (k : Int)) := by rw [cell_of_row _ _ _ _ _ _ hf1]; rfl
    have hcl := cnt_len f k N (by omega)
    have HB1 := hide hB1
    have HG1 := hide hg1
    have HH1 := hide hh1
    have HAC := hide hac
    clear hb1 hB1 hg1 ho1 hf1 hh1 hac
    go_wp2_with fail
    refine HAC.out.mono ?_
    rintro e w2 ⟨v2, rfl, hl2⟩
    have hnb : gv.ownBlock ≠ some (w.heap.size + 1) := fun e => by have := HGV.out _ e; omega
    have hh2 := hl2.keep HH1.out hnb
    have hnb2 := hl2.ne (lt_of_block HH1.out) hnb
    have hg2 := hl2.gl HG1.out HGG.out
    have hgg2 := hl2.gg HG1.out HGG.out
    have r0 : w2.cell? ⟨w.heap.size + 1, 0, none⟩ = some (.string h.n) := by rw [cell_of_row _ _ _ _ _ _ hh2]; rfl
    have r1 : w2.cell? ⟨w.heap.size + 1, 1, none⟩ = some (.string h.v) := by rw [cell_of_row _ _ _ _ _ _ hh2]; rfl
    have hll : (l ++ cnt f k N).length ≤ 134217728 + 1048580 := by rw [List.length_append]; omega
    obtain ⟨L2, hL2⟩ : ∃ L2, L2 = l ++ cnt f k N := ⟨_, rfl⟩
    rw [← hL2] at hl2 hll
    have HL2 := hide hl2
    have HE2 := hide hL2
    have HH2 := hide hh2
    have HNB2 := hide hnb2
    have HG2 := hide hg2
    have HGG2 := hide hgg2
    clear hl2 hL2 hh2 hnb hnb2 hg2 hgg2
    by_cases hN : N = 0
    · have hN' : ((N : Int) == 0) = true := by simp [hN]
      have HHN := hide hN
      have hat := appendText_any h.n v2 L2 w2 HG2.out HL2.out.own (by omega) hn
      have htl := txt_le h.n.data.toList hn
      have HAT := hide hat
      clear hat hN
      go_wp2_with fail
      refine HAT.out.mono ?_
      rintro e w3 ⟨v3, rfl, hl3⟩
      have hh3 := hl3.keep HH2.out HNB2.out
      have s1 : w3.cell? ⟨w.heap.size + 1, 1, none⟩ = some (.string h.v) := by rw [cell_of_row _ _ _ _ _ _ hh3]; rfl
      have hll3 : (L2 ++ txt h.n.data.toList).length ≤ 134217728 + 1048580 + 2097152 := by rw [List.length_append]; omega
      have hat3 := appendText_any h.v v3 _ w3 (hl3.gl HG2.out HGG2.out) hl3.own (by omega) hv
      have hfin := Laid.below HB1.out (HL2.out.trans hl3)
      have HAT3 := hide hat3
      have HFIN := hide hfin
      clear hat3 hl3 hh3 hfin
      go_wp2_with fail
      refine HAT3.out.mono ?_
      rintro e w4 ⟨v4, rfl, hl4⟩
      have HF4 := hide (HFIN.out.trans hl4)
      clear hl4
      go_wp2
      go_ret
      refine ⟨v4, rfl, ?_⟩
      rw [HTX.out, if_pos HHN.out]
      have h9 := HF4.out
      rw [HE2.out] at h9
      simpa [List.append_assoc] using h9
    · have hN' : ((N : Int) == 0) = false := by simp; omega
      have HHN := hide hN
      have hat3 := appendText_any h.v v2 L2 w2 HG2.out HL2.out.own (by omega) hv
      have hfin := Laid.below HB1.out HL2.out
      have HAT3 := hide hat3
      have HFIN := hide hfin
      clear hat3 hfin hN
      go_wp2_with fail
      refine HAT3.out.mono ?_
      rintro e w4 ⟨v4, rfl, hl4⟩
      have HF4 := hide (HFIN.out.trans hl4)
      clear hl4
      go_wp2
      go_ret
      refine ⟨v4, rfl, ?_⟩
      rw [HTX.out, if_neg HHN.out]
      have h9 := HF4.out
      rw [HE2.out] at h9
      simpa [List.append_assoc] using h9
end Go.Proofs.YtpmmpbklpclnhaaDoor
