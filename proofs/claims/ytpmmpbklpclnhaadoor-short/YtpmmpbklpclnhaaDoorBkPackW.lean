import Derived.Test.YtpmmpbklpclnhaaDoorBkPackP
set_option linter.unusedVariables false
set_option linter.unusedSimpArgs false
/-
  Package blocks: (*Packer).Pack, walked.
-/
namespace Go.Proofs.YtpmmpbklpclnhaaDoor
set_option linter.unusedVariables false
set_option linter.unusedSimpArgs false
open Go.RowKit

/-- A packer behind Pack. -/
structure Packd (w w' : World) (pb : Nat) (tv : Value) (v : Value) (cs' : Array Value) (tv' : Value) (q : List UInt8 × Pk) : Prop where
  own : w'.ownsRow w.heap.size 5 1 v q.1.length (q.1.map B)
  st : PkS w' pb cs' tv' (.slice none 0 0) q.2
  chg : Chg (TouchT pb tv) w w'
  tfresh : ∀ j, tv'.ownBlock = some j → tv.ownBlock = some j ∨ w.heap.size ≤ j

theorem Pkd.gl {w w' : World} {v : Value} {l : List UInt8} {pb : Nat} {cs cs' : Array Value} {tP : TypeId} {lim : Nat} {tv tv' : Value} {tab' : List HP} (h : Pkd w w' pb cs cs' tP lim tv tv' tab' (.slice none 0 0) v l) (hg : Gl w) (hpb : 7 ≤ pb) (htv : ∀ j, tv.ownBlock = some j → 7 ≤ j) : Gl w' := by
  refine hg.chg h.chg ?_
  rintro j hj (e | e | e)
  · simp [Value.ownBlock] at e
  · omega
  · have := htv j e; omega
theorem Pkd.gg {w w' : World} {v : Value} {l : List UInt8} {pb : Nat} {cs cs' : Array Value} {tP : TypeId} {lim : Nat} {tv tv' : Value} {tab' : List HP} (h : Pkd w w' pb cs cs' tP lim tv tv' tab' (.slice none 0 0) v l) (hg : Gl w) : ∀ j, v.ownBlock = some j → 7 ≤ j := fun j hj => by
  rcases h.fresh j hj with e | e
  · simp [Value.ownBlock] at e
  · exact Nat.le_trans hg.lt e
theorem Pkd.alloc {w w' : World} {gv v : Value} {l : List UInt8} {pb : Nat} {cs cs' : Array Value} {tP : TypeId} {lim : Nat} {tv tv' : Value} {tab' : List HP} (h : Pkd w w' pb cs cs' tP lim tv tv' tab' gv v l) (o : Obj) : Pkd w (w'.alloc o) pb cs cs' tP lim tv tv' tab' gv v l :=
  ⟨h.own.alloc _, h.st.below ((Below.refl _ _).alloc (Nat.le_refl _) _), h.cs3, h.chg.alloc o, h.fresh, h.tfresh⟩

set_option maxRecDepth 100000 in
set_option maxHeartbeats 800000 in
theorem bPack_any (pb : Nat) (cs : Array Value) (tv lv : Value) (p : Pk) (sv : Value) (hs : List HP) (w : World) (hgl : Gl w) (h : PkS w pb cs tv lv p) (hin : HsIn w sv hs) (hsep : ∀ j, sv.ownBlock = some j → ¬ TouchT pb tv j) (hlen : hs.length ≤ 8) (hok : ∀ h ∈ hs, h.n.size ≤ 262144 ∧ h.v.size ≤ 262144) (hpb : 7 ≤ pb) (htv : ∀ j, tv.ownBlock = some j → 7 ≤ j) :
    Calls Tryd.prog 21 #[.pointer (some ⟨pb, 0, none⟩), sv] w fun e w' => ∃ v cs' tv', e = .returned v ∧ Packd w w' pb tv v cs' tv' (p.pack hs) := by
  obtain ⟨lim, tab, wait⟩ := p
  have hst : TbS w pb cs 50 lim tv tab := h.st
  have hlr : w.ownsRow 0 3 1 lv wait.length (nCells wait) := h.row
  have hfw : wait.length ≤ 2 := h.few
  have hwo : ∀ x ∈ wait, x ≤ 256 := h.ok
  obtain ⟨sl, cl, hlv⟩ := slice_len hlr
  subst hlv
  obtain ⟨ss, cc, hsv⟩ := hin.len
  subst hsv
  have c3 : w.cell? ⟨pb, 3, none⟩ = some (.slice sl wait.length cl) := by rw [cell_of_row w pb _ _ _ _ hst.tb.blk]; exact h.c3
  have hpl := hst.tb.lt
  have hpk : (Pk.mk lim tab wait).pack hs = ((limsK wait lim tab).1 ++ (pairsK hs (limsK wait lim tab).2.2 (limsK wait lim tab).2.1).1, ⟨(limsK wait lim tab).2.1, (pairsK hs (limsK wait lim tab).2.2 (limsK wait lim tab).2.1).2, []⟩) := rfl
  have h0 : Pkd w w pb cs cs 50 (limsK (wait.take 0) lim tab).2.1 tv tv (limsK (wait.take 0) lim tab).2.2 (.slice none 0 0) (.slice none 0 0) (limsK (wait.take 0) lim tab).1 := ⟨World.ownsRow_nil _ _ _ _, hst, fun _ _ => rfl, Chg.refl _ _, fun j hj => Or.inl hj, fun j hj => Or.inl hj⟩
  have hc30 : cs[3]? = some (.slice sl wait.length cl) := h.c3
  have H0 := hide h0
  have HST := hide hst
  have HLR := hide hlr
  have HWO := hide hwo
  have HPK := hide hpk
  have HIN := hide hin
  have HSEP := hide hsep
  have HOK := hide hok
  have HTV := hide htv
  have HGL := hide hgl
  have HC3 := hide hc30
  clear hst hlr hwo hpk hin hsep hok htv hgl h0 h hc30
  go_enter Tryd.func21, Tryd.ntmps21
  go_wp2
  go_loopw [5, 15] (fun b i wr => ∃ k cs1 tv1, i = .int .i64 ((k : Nat) : Int) ∧ k ≤ wait.length ∧ Pkd w wr pb cs cs1 50 (limsK (wait.take k) lim tab).2.1 tv tv1 (limsK (wait.take k) lim tab).2.2 (.slice none 0 0) b (limsK (wait.take k) lim tab).1) (fun _ i _ => wait.length - (intOf i).toNat)
  case atStart => exact ⟨0, cs, tv, rfl, Nat.zero_le _, H0.out⟩
  case round =>
    obtain ⟨k, cs1, tv1, rfl, hk, hr⟩ := hrel
    have hg1 := hr.gl HGL.out hpb HTV.out
    have hgg1 := hr.gg HGL.out
    have hll := limsK_take HWO.out k lim tab
    by_cases hlt : k < wait.length
    · have hw1 : wr.ownsRow 0 3 1 (.slice sl wait.length cl) wait.length (nCells wait) := owns_chg HLR.out hr.chg (by
        rintro j hj (e | e | e)
        · simp [Value.ownBlock] at e
        · subst e; exact owns_ne HLR.out HST.out.tb.blk (by decide) hj
        · exact rows_ne HLR.out HST.out.row (by decide) hj e)
      obtain ⟨g, hgs, hcl⟩ := slice_some hw1 (by omega)
      subst hgs
      have d0 : wr.cell? ⟨g, k, none⟩ = some (.int .i64 (wait[k] : Int)) := by rw [hw1.cellAt k (by simp [nCells]; omega)]; simp [nCells, hlt]
      have hx := HWO.out wait[k] (List.getElem_mem _)
      have hnx := limsK_next hlt lim tab
      obtain ⟨g0, g1⟩ := hg1.lim
      obtain ⟨Q, hQ⟩ : ∃ Q, Q = limsK (wait.take k) lim tab := ⟨_, rfl⟩
      rw [← hQ] at hr hnx hll
      clear hQ
      obtain ⟨qb, ql, qt⟩ := Q
      simp only at hr hnx hll
      generalize wait[k] = x at d0 hx hnx
      have HR := hide hr
      have HNX := hide hnx
      have HGG1 := hide hgg1
      have hac := appendCount_any 32 5 x u5 qb wr hr.own (by omega) (by omega) (by decide) (by decide) (by omega)
      have HAC := hide hac
      clear hw1 hg1 hgg1 hnx hac hr
      go_wp2_with fail
      refine HAC.out.mono ?_
      rintro e w2 ⟨v2, rfl, hl2⟩
      have hr2 := HR.out.lay hl2 (by decide)
      have hrz := tresize_any pb cs1 50 ql tv1 qt x w2 hr2.st hx
      have HR2 := hide hr2
      have HRZ := hide hrz
      clear hl2 hr2 hrz
      go_wp2_with fail
      refine HRZ.out.mono ?_
      rintro e w3 ⟨rfl, cs3, tv3, h3⟩
      have HR3 := hide (HR2.out.turn h3 (by decide))
      clear h3
      go_wp2
      go_roundw
      case rel => exact ⟨k + 1, cs3, tv3, by go_num, by omega, by rw [HNX.out]; exact HR3.out⟩
      case measure => simp [intOf]; omega
    · have hke : k = wait.length := by omega
      subst hke
      rw [List.take_length] at hr hll
      obtain ⟨Q, hQ⟩ : ∃ Q, Q = limsK wait lim tab := ⟨_, rfl⟩
      have hpk := HPK.out
      rw [← hQ] at hr hll hpk
      clear hQ
      obtain ⟨qb, ql, qt⟩ := Q
      simp only at hr hll hpk
      have c3' : wr.cell? ⟨pb, 3, none⟩ = some (.slice sl wait.length cl) := by rw [cell_of_row wr pb _ _ _ _ hr.st.tb.blk, hr.cs3 3 (by decide)]; exact HC3.out
      have f3 := hr.st.tb.free 3
      have hc9 : Chg (fun j => j = pb) wr (wr.setCell ⟨pb, 3, none⟩ (.slice none 0 0)) := (Chg.refl (fun j => j = pb) wr).setCell (p := ⟨pb, 3, none⟩) (Or.inr rfl) _
      have hr9 : Pkd w (wr.setCell ⟨pb, 3, none⟩ (.slice none 0 0)) pb (cs.setIfInBounds 3 (.slice none 0 0)) (cs1.setIfInBounds 3 (.slice none 0 0)) 50 ql tv tv1 qt (.slice none 0 0) u5 qb := by
        refine ⟨owns_chg hr.own hc9 (fun j hj e => by subst e; exact owns_ne hr.own hr.st.tb.blk (by decide) hj), ⟨⟨block_setCell hr.st.tb.blk, by rw [set_ne (by decide)]; exact hr.st.tb.c0, by rw [set_ne (by decide)]; exact hr.st.tb.c1, by rw [set_ne (by decide)]; exact hr.st.tb.c2, hr.st.tb.ne⟩, owns_chg hr.st.row hc9 (fun j hj e => by subst e; exact owns_ne hr.st.row hr.st.tb.blk (by decide) hj), hr.st.fit, hr.st.small⟩, fun i hi => ?_, hr.chg.setCell (p := ⟨pb, 3, none⟩) (Or.inr (Or.inr (Or.inl rfl))) _, hr.fresh, hr.tfresh⟩
        by_cases h3 : i = 3
        · subst h3
          rw [set_get HC3.out, set_get ((hr.cs3 3 (by decide)).trans HC3.out)]
        · rw [set_ne (by omega), set_ne (by omega)]
          exact hr.cs3 i hi
      have hfit : szT qt ≤ ql := hr.st.fit
      have hsm : ql ≤ 256 := hr.st.small
      have HR9 := hide hr9
      have HPK2 := hide hpk
      clear hr hg1 hgg1 hc9 hr9 hpk
      go_wp2
      go_loopw [5, 34] (fun b i wr => ∃ k cs2 tv2, i = .int .i64 ((k : Nat) : Int) ∧ k ≤ hs.length ∧ Pkd w wr pb (cs.setIfInBounds 3 (.slice none 0 0)) cs2 50 ql tv tv2 (pairsK (hs.take k) qt ql).2 (.slice none 0 0) b (qb ++ (pairsK (hs.take k) qt ql).1)) (fun _ i _ => hs.length - (intOf i).toNat)
      case atStart => exact ⟨0, _, _, rfl, Nat.zero_le _, by simpa [pairsK] using HR9.out⟩
      case round =>
        obtain ⟨k, cs2, tv2, rfl, hk2, hr2⟩ := hrel
        have hg2 := hr2.gl HGL.out hpb HTV.out
        have hgg2 := hr2.gg HGL.out
        by_cases hlt2 : k < hs.length
        · have hin2 : HsIn wr (.slice ss hs.length cc) hs := HIN.out.chg hr2.chg (by
            rintro j hj (e | e)
            · simp [Value.ownBlock] at e
            · exact HSEP.out j hj e)
          rcases hin2 with ⟨h1, h2⟩ | ⟨bb, off, cap, h1, h2, h3⟩
          · rw [h2] at hlt2; simp at hlt2
          · simp only [Value.slice.injEq, true_and] at h1
            obtain ⟨hss, hcc⟩ := h1
            subst hss hcc
            obtain ⟨d0, d1⟩ := h3 k hlt2
            obtain ⟨o1, o2⟩ := HOK.out hs[k] (List.getElem_mem _)
            have hnx := pairsK_next hlt2 qt ql
            have hlb := pairsK_le (hs := hs.take k) (tab := qt) (lim := ql) hfit hsm (fun y hy => HOK.out y (List.mem_of_mem_take hy))
            rw [List.length_take] at hlb
            obtain ⟨Q2, hQ2⟩ : ∃ Q2, Q2 = pairsK (hs.take k) qt ql := ⟨_, rfl⟩
            rw [← hQ2] at hr2 hnx hlb
            clear hQ2
            obtain ⟨rb, rt⟩ := Q2
            simp only at hr2 hnx hlb
            have hll2 : (qb ++ rb).length ≤ 134217728 := by rw [List.length_append]; omega
            obtain ⟨LB, hLB⟩ : ∃ LB, LB = qb ++ rb := ⟨_, rfl⟩
            rw [← hLB] at hr2 hll2
            generalize hs[k] = x at d0 d1 o1 o2 hnx
            obtain ⟨xn, xv⟩ := x
            simp only at d0 d1 o1 o2
            have hra := hr2.alloc (.cells #[.string xn, .string xv] 33)
            have hap := appendPair_any pb cs2 50 ql tv2 rt ⟨xn, xv⟩ u5 LB (wr.alloc (.cells #[.string xn, .string xv] 33)) (hra.gl HGL.out hpb HTV.out) hra.st (by decide) hra.own hgg2 hll2 o1 o2
            have HRA := hide hra
            have HAP := hide hap
            have HNX := hide hnx
            have HLB := hide hLB
            clear hra hap hnx hr2 hg2 hgg2 h3 hLB
            go_wp2_with fail
            refine HAP.out.mono ?_
            rintro e w2 ⟨v2, cs4, tv4, rfl, h4⟩
            have HR4 := hide (HRA.out.trans h4)
            clear h4
            go_wp2
            go_roundw
            case rel =>
              refine ⟨k + 1, cs4, tv4, by go_num, by omega, ?_⟩
              rw [HNX.out]
              have h9 := HR4.out
              rw [HLB.out, List.append_assoc] at h9
              exact h9
            case measure => simp [intOf]; omega
        · have hke : k = hs.length := by omega
          subst hke
          rw [List.take_length] at hr2
          have HR2 := hide hr2
          clear hr2 hg2 hgg2
          go_wp2
          go_ret
          refine ⟨u5, cs2, tv2, rfl, ?_⟩
          rw [HPK2.out]
          have h9 := HR2.out
          refine ⟨owns_base h9.own (fun j hj => ?_), ⟨h9.st, ?_, World.ownsRow_nil _ _ _ _, by simp, by simp⟩, h9.chg.mono ?_, h9.tfresh⟩
          · rcases h9.fresh j hj with e | e
            · simp [Value.ownBlock] at e
            · exact e
          · rw [h9.cs3 3 (by decide)]
            exact set_get HC3.out
          · rintro j _ (e | e)
            · simp [Value.ownBlock] at e
            · exact e
end Go.Proofs.YtpmmpbklpclnhaaDoor
