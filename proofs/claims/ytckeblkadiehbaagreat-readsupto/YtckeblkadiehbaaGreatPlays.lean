/-
  sluicelaw: plays.
-/
import Derived.Test.YtckeblkadiehbaaGreatPlaysRel
namespace Go.Proofs.YtckeblkadiehbaaGreat
open Go.RowKit

set_option maxRecDepth 100000 in
set_option maxHeartbeats 6400000 in
theorem plays_true {lo hi : Int} {G : World → Value → Prop} {I : World → World → World → Nat → Value → Value → Value → Value → Nat → Prop} (P : Played lo hi G I) (sF sH sC sS : Option Addr) (nF cF nH cH nC cC nS cS : Nat) (so : Option Addr) (co : Nat) (ops : List OpV) (W : World)
    (hG : G W (.slice sF nF cF)) (hO : OpsIn W so ops) (hn : ops.length ≤ 1048576) (hwt : wt ops ≤ 16777216) :
    Calls Tryz.prog 5 #[.agg #[.slice sF nF cF, .slice sH nH cH, .slice sC nC cC, .slice sS nS cS], .slice so ops.length co, .int .i64 lo, .int .i64 hi] W fun e w' => e = .returned (.bool true) ∧ Below W.heap.size W w' := by
  have HP := hide P
  have HG := hide hG
  have HO := hide hO
  clear P hG hO
  go_enter Tryz.func5, Tryz.ntmps5
  go_wp2_with fail
  refine (known_any _).mono ?_
  rintro e w1 ⟨rfl, hb1, hk6, hk2⟩
  have hg1 := told_kept (heap_alloc_new W (.cells #[.slice sF nF cF, .slice sH nH cH, .slice sC nC cC, .slice sS nS cS] 27)) hb1
  have HG1 := hide hg1
  have hBW : Below W.heap.size W w1 := ((Below.refl _ W).alloc (Nat.le_refl _) _).trans (hb1.mono (by simp))
  have hsz1 := lt_of_block hg1
  have HBW := hide hBW
  clear hb1 hg1 hBW
  generalize (W.alloc (.cells #[.slice sF nF cF, .slice sH nH cH, .slice sC nC cC, .slice sS nS cS] 27)).heap.size = nk at hk6 hk2 ⊢
  have HK := hide (HP.out.known w1 _ hk6 hk2)
  clear hk6 hk2
  go_wp2_with fail
  refine (opening_any _).mono ?_
  rintro e w2 ⟨rfl, hw2⟩
  have hv2 : w2.heap[w1.heap.size]? = some (.cells (lw (.slice (some ⟨nk + 6, 0, none⟩) 1 1) (.slice (some ⟨nk + 8, 0, none⟩) 1 1) (.slice (some ⟨nk + 9, 0, none⟩) 1 1) (.slice (some ⟨nk + 10, 0, none⟩) 1 1) (.slice none 0 0) (.slice none 0 0) (.slice none 0 0)) 46 (0, 0)) := by
    rw [hw2]; exact heap_in (by simp) (heap_at rfl)
  have hb2 : Below w1.heap.size w1 w2 := by
    rw [hw2]; exact ((Below.refl _ _).alloc (Nat.le_refl _) _).alloc (by simp) _
  have ho2 : OpsIn w2 (some ⟨w1.heap.size + 1, 0, none⟩) openOps := by
    refine opsIn_of_block (t := 49) (fr := (0, 0)) ?_ openOps_ok
    rw [hw2]; exact heap_at (by simp)
  have hI2 := HP.out.new w1 w2 w1.heap.size _ _ _ _ hv2 (Nat.le_refl _) hb2
  have HI2 := hide hI2
  have HO2 := hide ho2
  have hadr : ∀ o : Obj, (w1.alloc o).heap.size = w1.heap.size + 1 := fun o => by simp
  rw [hadr]
  clear hw2 hv2 hb2 ho2 hI2 hadr
  go_wp2
  have HWT := hide hwt
  go_loopw [11] (fun i wr => ∃ k : Nat, k ≤ 14 ∧ i = .int .i64 k ∧ I w1 w2 wr w1.heap.size (.slice (some ⟨nk + 6, 0, none⟩) 1 1) (.slice (some ⟨nk + 8, 0, none⟩) 1 1) (.slice (some ⟨nk + 9, 0, none⟩) 1 1) (.slice (some ⟨nk + 10, 0, none⟩) 1 1) (wt (openOps.take k))) (fun i _ => 14 - (intOf i).toNat)
  case atStart => exact ⟨0, by omega, rfl, HI2.out⟩
  case round =>
    obtain ⟨k, hk, rfl, hI⟩ := hrel
    by_cases hlt : k < 14
    · obtain ⟨ob, off, hso, hob, c0, c1, c2, c3, c4⟩ := (HO2.out.chg (HP.out.bel _ _ _ _ _ _ _ _ _ hI).2 (fun ob off he => by simp at he; omega)).cell k hlt
      simp only [Option.some.injEq, Addr.mk.injEq, and_true] at hso
      obtain ⟨rfl, rfl⟩ := hso
      simp only [Nat.zero_add] at c0 c1 c2 c3 c4
      have hok := HO2.out.ok openOps[k] (List.getElem_mem _)
      have hnx := wt_next (ops := openOps) hlt
      have htl := Nat.le_trans (wt_take openOps (k + 1)) wt_open
      generalize openOps[k] = o at c0 c1 c2 c3 c4 hok hnx
      obtain ⟨ok, oa, ob, oc, os⟩ := o
      simp only at c0 c1 c2 c3 c4
      have HI := hide hI
      have HOK := hide hok
      rw [hnx] at htl
      simp only at hnx htl
      have HNX := hide hnx
      have HTL := hide htl
      clear hI hok HI2 hnx htl
      by_cases hin : lo ≤ ok ∧ ok ≤ hi
      · obtain ⟨h1, h2⟩ := hin
        go_wp2_with fail
        refine (HP.out.step w1 w2 _ w1.heap.size _ _ _ _ (wt (openOps.take k)) ⟨ok, oa, ob, oc, os⟩ h1 h2 HOK.out HK.out HTL.out HI.out).mono ?_
        rintro e w' ⟨rfl, hI'⟩
        clear c0 c1 c2 c3 c4
        go_wp2
        go_roundw
        case rel => exact ⟨k + 1, by omega, by go_num, by rw [HNX.out]; exact hI'⟩
        case measure => simp [intOf]; omega
      · by_cases h1 : lo ≤ ok
        · have h2 : ¬ ok ≤ hi := fun h => hin ⟨h1, h⟩
          clear hin
          go_wp2
          go_roundw
          case rel => exact ⟨k + 1, by omega, by go_num, HP.out.mono _ _ _ _ _ _ _ _ _ _ (by rw [HNX.out]; omega) HI.out⟩
          case measure => simp [intOf]; omega
        · clear hin
          go_wp2
          go_roundw
          case rel => exact ⟨k + 1, by omega, by go_num, HP.out.mono _ _ _ _ _ _ _ _ _ _ (by rw [HNX.out]; omega) HI.out⟩
          case measure => simp [intOf]; omega
    · have hbr := (HP.out.bel _ _ _ _ _ _ _ _ _ hI).1
      have hgr : wr.heap[W.heap.size]? = some (.cells #[.slice sF nF cF, .slice sH nH cH, .slice sC nC cC, .slice sS nS cS] 27 (0, 0)) := by
        rw [hbr.block _ hsz1]; exact HG1.out
      obtain ⟨g0, g1, g2, g3, -⟩ := frame_blockT hgr
      have HBR := hide (HBW.out.trans (hbr.mono HBW.out.size))
      clear hI hbr hgr HI2 HK
      obtain ⟨wq, hwq⟩ : ∃ wq, wq = wr := ⟨wr, rfl⟩
      subst hwq
      go_wp2
      obtain ⟨V2, hV2⟩ : ∃ V2, V2 = wq.alloc (.cells (lw (.slice sF nF cF) (.slice sH nH cH) (.slice sC nC cC) (.slice sS nS cS) (.slice none 0 0) (.slice none 0 0) (.slice none 0 0)) 46) := ⟨_, rfl⟩
      have hbV : Below W.heap.size W V2 := by rw [hV2]; exact HBR.out.alloc HBR.out.size _
      have hvV : V2.heap[wq.heap.size]? = some (.cells (lw (.slice sF nF cF) (.slice sH nH cH) (.slice sC nC cC) (.slice sS nS cS) (.slice none 0 0) (.slice none 0 0) (.slice none 0 0)) 46 (0, 0)) := by rw [hV2]; exact heap_at rfl
      have HIV := hide (HP.out.new W V2 wq.heap.size _ _ _ _ hvV HBR.out.size hbV)
      rw [← hV2]
      clear hV2 hbV hvV g0 g1 g2 g3 HG1
      go_loopw [14] (fun i wr => ∃ k : Nat, k ≤ ops.length ∧ i = .int .i64 k ∧ I W V2 wr wq.heap.size (.slice sF nF cF) (.slice sH nH cH) (.slice sC nC cC) (.slice sS nS cS) (wt (ops.take k))) (fun i _ => ops.length - (intOf i).toNat)
      case atStart => exact ⟨0, by omega, rfl, HIV.out⟩
      case round =>
        obtain ⟨k, hk, rfl, hI⟩ := hrel
        by_cases hlt : k < ops.length
        · obtain ⟨ob, off, hso, hob, c0, c1, c2, c3, c4⟩ := (HO.out.below (HP.out.bel _ _ _ _ _ _ _ _ _ hI).1).cell k hlt
          subst hso
          have hok := HO.out.ok ops[k] (List.getElem_mem _)
          have hnx := wt_next (ops := ops) hlt
          have htl := Nat.le_trans (wt_take ops (k + 1)) hwt
          generalize ops[k] = o at c0 c1 c2 c3 c4 hok hnx
          obtain ⟨ok, oa, ob', oc, os⟩ := o
          simp only at c0 c1 c2 c3 c4
          have HI := hide hI
          have HOK := hide hok
          rw [hnx] at htl
          simp only at hnx htl
          have HNX := hide hnx
          have HTL := hide htl
          clear hI hok HIV hnx htl
          by_cases h1 : ok < lo
          · go_wp2
            go_roundw
            case rel => exact ⟨k + 1, by omega, by go_num, HP.out.mono _ _ _ _ _ _ _ _ _ _ (by rw [HNX.out]; omega) HI.out⟩
            case measure => simp [intOf]; omega
          · by_cases h2 : hi < ok
            · go_wp2
              go_roundw
              case rel => exact ⟨k + 1, by omega, by go_num, HP.out.mono _ _ _ _ _ _ _ _ _ _ (by rw [HNX.out]; omega) HI.out⟩
              case measure => simp [intOf]; omega
            · go_wp2_with fail
              refine (HP.out.step W V2 _ wq.heap.size _ _ _ _ (wt (ops.take k)) ⟨ok, oa, ob', oc, os⟩ (by show lo ≤ ok; omega) (by show ok ≤ hi; omega) HOK.out HG.out HTL.out HI.out).mono ?_
              rintro e w5 ⟨rfl, hI5⟩
              obtain ⟨cs, kv, fv, recs, frs, hbk, hr, hf⟩ := HP.out.bks _ _ _ _ _ _ _ _ _ hI5
              have HI5 := hide hI5
              have HBK := hide hbk
              clear c0 c1 c2 c3 c4 hI5 hbk
              go_wp2_with fail
              refine (whole_true wq.heap.size cs kv fv recs frs _ HBK.out (by have := HTL.out; omega) (by have := HTL.out; omega)).mono ?_
              rintro e w6 ⟨rfl, hb6⟩
              have HI6 := hide (HP.out.below _ _ _ _ _ _ _ _ _ _ HI5.out hb6)
              clear hb6
              go_wp2
              go_roundw
              case rel => exact ⟨k + 1, by omega, by go_num, by rw [HNX.out]; exact HI6.out⟩
              case measure => simp [intOf]; omega
        · have hbe := (HP.out.bel _ _ _ _ _ _ _ _ _ hI).1
          go_wp2
          go_ret
          exact ⟨rfl, hbe⟩
end Go.Proofs.YtckeblkadiehbaaGreat
