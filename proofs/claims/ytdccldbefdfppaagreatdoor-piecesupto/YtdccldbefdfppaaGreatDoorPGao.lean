import Derived.Test.YtdccldbefdfppaaGreatDoorPGal
import Derived.Test.YtdccldbefdfppaaGreatDoorPGan
import Derived.Test.YtdccldbefdfppaaGreatDoorPGak
import Derived.BigRegion
set_option linter.unusedVariables false
set_option linter.unusedSimpArgs false
namespace Go.Proofs.YtdccldbefdfppaaGreatDoor
open Go.RowKit
section
set_option maxRecDepth 100000 in
set_option maxHeartbeats 1600000 in
theorem bUnpack_badZ (ub : Nat) (cs : Array Value) (tP : TypeId) (lim : Nat) (tv : Value) (tab : List HP) (most : Nat) (bv : Value) (b : List UInt8) (w : World) (hgl : Gl w) (ht : TbSZ w ub cs tP lim tv tab) (hm : cs[38]? = some (.int .i64 (most : Int))) (hmo : most ≤ 256) (hb : BytesIn w bv b) (hbu : bv.ownBlock ≠ some ub) (hbt : ∀ j, bv.ownBlock = some j → tv.ownBlock ≠ some j) (hl : b.length ≤ 134217728) (hub : 7 ≤ ub) (htv : ∀ j, tv.ownBlock = some j → 7 ≤ j)
  (hts : tP ≠ 231) (hq : (Up.mk lim tab most).unpack b = none) :
  Calls Tryz.prog 132 #[.pointer (some ⟨ub, 35, none⟩), bv] w fun e w' => Gone e ∧ Chg (TouchT ub tv) w w' ∧ ∃ lim' tab' cs' tv', TbSZ w' ub cs' tP lim' tv' tab' ∧ ∀ i, (i < 35 ∨ 38 ≤ i) → cs'[i]? = cs[i]? := by
 have hlims : BadT most 2 lim tab b := by
  intro lim1 tab1 r h1
  unfold Up.unpack at hq
  simp only at hq
  rw [h1] at hq
  simp only at hq
  cases h2 : rdPairs 9 [] tab1 lim1 r with
  | none => rfl
  | some y => rw [h2] at hq; cases hq
 obtain ⟨i0, hi, hz0, hz1, hz2⟩ := info_parts Tryz.info130
 have hbA : Below w.heap.size w (w.alloc (.cells #[bv] 231)) := (Below.refl _ _).alloc (Nat.le_refl _) _
 have htl := ht.tb.lt
 have hsA : SrS (w.alloc (.cells #[bv] 231)) w.heap.size bv b := ⟨heap_alloc_new w _, hb.chg ((Chg.refl (fun _ => False) w).alloc _) (fun _ _ => id), fun e => by have := hb.lt e; omega⟩
 have haA : Apart ub w.heap.size tv bv := ⟨by omega, fun e => by have := owns_lt ht.row e; omega, hbu, hbt⟩
 have huA : UnToZ (w.alloc (.cells #[bv] 231)) (w.alloc (.cells #[bv] 231)) ub cs cs tP lim tv tv tab w.heap.size bv bv b := ⟨ht.below hbA, fun _ _ => rfl, hsA, Chg.refl _ _, fun _ e => Or.inl e, fun _ e => e⟩
 have hgA := hgl.below hbA
 have hgs : 7 ≤ w.heap.size := hgl.lt
 obtain ⟨sv, cv, hv, _⟩ := bytesIn_len hb
 subst hv
 have HB := hide hb
 have HT := hide ht
 have HM := hide hm
 have HGA := hide hgA
 have HSA := hide hsA
 have HAA := hide haA
 have HUA := hide huA
 have HBA := hide hbA
 have HTV := hide htv
 have HLIMS := hide hlims
 clear hgl ht hm hb hbu hbt hsA haA huA hgA hbA htv hlims hq
 go_enter Tryz.func132, Tryz.ntmps132
 go_wp2
 go_loopw [6] (fun i wr => ∃ (j lim2 : Nat) (tab2 : List HP) (l2 : List UInt8) (cs2 : Array Value) (tv2 rv2 : Value), i = .int .i64 (j : Int) ∧ j ≤ 2 ∧ l2.length ≤ b.length ∧ BadT most (2 - j) lim2 tab2 l2 ∧ UnToZ (w.alloc (.cells #[.slice sv b.length cv] 231)) wr ub cs cs2 tP lim2 tv tv2 tab2 w.heap.size (.slice sv b.length cv) rv2 l2) (fun i _ => 2 - (intOf i).toNat)
 case atStart => exact ⟨0, lim, tab, b, cs, tv, _, rfl, by omega, Nat.le_refl _, HLIMS.out, HUA.out⟩
 case round =>
  obtain ⟨j, lim2, tab2, l2, cs2, tv2, rv2, rfl, hj, hll, hlm, hu⟩ := hrel
  by_cases hj2 : j = 2
  ·rw [show 2 - j = 0 from by omega] at hlm
   have HPAIRS := hide (hlm lim2 tab2 l2 rfl)
   have hjd : decide ((j : Int) < 2) = false := by simp; omega
   have HU := hide hu
   clear hu hj2 hj hlm
   go_wp2
   go_loopw [7] (fun v wx => ∃ (acc tab3 : List HP) (l3 : List UInt8) (cs3 : Array Value) (tv3 rv3 : Value), acc.length ≤ 8 ∧ (∀ x ∈ acc, x.n.size ≤ 268435456 ∧ x.v.size ≤ 268435456) ∧ l3.length ≤ b.length ∧ rdPairs (9 - acc.length) acc tab3 lim2 l3 = none ∧ UnToZ (w.alloc (.cells #[.slice sv b.length cv] 231)) wx ub cs cs3 tP lim2 tv tv3 tab3 w.heap.size (.slice sv b.length cv) rv3 l3 ∧ wx.ownsRow w.heap.size 130 2 v acc.length (hpCells acc) ∧ (∀ j, v.ownBlock = some j → tv3.ownBlock ≠ some j)) (fun v _ => 9 - lenV v)
   case atStart => exact ⟨[], tab2, l2, cs2, tv2, rv2, by simp, by simp, by omega, HPAIRS.out, HU.out, World.ownsRow_nil _ _ _ _, fun j e => by simp [Value.ownBlock] at e⟩
   case round =>
    obtain ⟨acc, tab3, l3, cs3, tv3, rv3, ha8, hsz, hl3, hrp, hu3, how, hap3⟩ := hrel
    obtain ⟨sl, cl, hvl⟩ := slice_len how
    subst hvl
    have hae := atEnd_any w.heap.size rv3 l3 wr hu3.sr
    have HAE := hide hae
    have HU3 := hide hu3
    have HOW := hide how
    have HAP3 := hide hap3
    have HSZ := hide hsz
    have HRP := hide hrp
    clear hae hu3 how hap3 hsz hrp HU
    obtain ⟨f, hf⟩ : ∃ f, 9 - acc.length = f + 1 := ⟨8 - acc.length, by omega⟩
    have HFF := hide hf
    clear hf
    cases l3 with
    | nil =>
     have hrp := HRP.out
     rw [HFF.out] at hrp
     simp [rdPairs] at hrp
    | cons c r =>
     have hap := HU3.out.apart HAA.out HSA.out
     have hg3 := HU3.out.gl HGA.out hub hgs HTV.out
     have HAP := hide hap
     have HG3 := hide hg3
     clear hap hg3
     cases hp : rdPair tab3 lim2 (c :: r) with
     | none =>
      have htp := takePair_badZ ub cs3 tP lim2 tv3 tab3 w.heap.size rv3 (c :: r) wr HG3.out HU3.out.st HU3.out.sr HAP.out (by omega) hgs hp
      have HTP := hide htp
      clear htp hp HRP
      go_wp2_with fail
      refine HAE.out.mono ?_
      rintro e w9 ⟨rfl, hw9⟩
      rw [hw9]
      clear hw9
      go_wp2_with fail
      refine HTP.out.mono ?_
      rintro e w4 ⟨he, hc4⟩
      rw [he]
      exact ⟨rfl, rfl, unp_chg HBA.out (HU3.out.chg.trans (hc4.mono fun j _ e => Or.inr (Or.inl e))), _, _, cs3, tv3, HU3.out.st.chg hc4 HAP.out.us (fun j hj e => HAP.out.ts (e ▸ hj)), HU3.out.cs3⟩
     | some y =>
      obtain ⟨x, tab4, q⟩ := y
      obtain ⟨hq4, hxn, hxv⟩ := rdPair_len hp (numd_small (Nat.le_trans HU3.out.st.fit HU3.out.st.small)) (by omega)
      have htp := takePair_okZ ub cs3 tP lim2 tv3 tab3 w.heap.size rv3 (c :: r) x tab4 q wr HG3.out HU3.out.st HU3.out.sr HAP.out (by omega) hgs hp
      have hrp := HRP.out
      rw [HFF.out] at hrp
      simp only [rdPairs] at hrp
      rw [hp] at hrp
      simp only at hrp
      have HTP := hide htp
      have HRP4 := hide hrp
      clear htp hrp hp HRP
      go_wp2_with fail
      refine HAE.out.mono ?_
      rintro e w9 ⟨rfl, hw9⟩
      rw [hw9]
      clear hw9
      go_wp2_with fail
      refine HTP.out.mono ?_
      rintro e w4 ⟨rfl, cs4, tv4, rv4, hu4⟩
      have how4 := owns_chg HOW.out hu4.chg (by
       rintro j hj (e | e | e)
       ·subst e; exact owns_ne HOW.out HU3.out.sr.blk (by decide) hj
       ·subst e; exact owns_ne HOW.out HU3.out.st.tb.blk (fun e => HU3.out.st.tb.ne e.symm) hj
       ·exact HAP3.out j hj e)
      have hap4 : ∀ j, (Value.slice sl acc.length cl).ownBlock = some j → tv4.ownBlock ≠ some j := fun j hj e => by
       rcases hu4.tfresh j e with a | a
       ·exact HAP3.out j hj a
       ·have := owns_lt HOW.out hj; omega
      have HU4 := hide (HU3.out.trans hu4)
      have HOW4 := hide how4
      have HAP4 := hide hap4
      clear hu4 how4 hap4
      go_wp2_with (at_builtin; refine wpList_app _ rfl (.tmp 22) (.tmp 25) 88 rfl 130 i0 (.agg #[.string ⟨#[]⟩, .string ⟨#[]⟩]) 2 32 Tryz.underlying88 hi hz0 hz1 hz2 rfl (by decide) _ _ _ rfl ((owns_base HOW4.out (fun _ _ => Nat.zero_le _)).alloc _) (.slice (some ⟨w4.heap.size, 0, none⟩) 1 1) 1 (hpCells [x]) rfl rfl (lies_pair w4 x) (hp_one _) ?c3 ?c4 ?_)
      case c3 => unfold maxLen; omega
      case c4 => omega
      intro v5 w5 hown5 hg5 hf5
      obtain ⟨hu5, how5, hap5⟩ := unp_appZ HB.out HT.out HBA.out HU4.out HOW4.out HAP4.out hown5 hg5 (by simpa using hf5)
      have hsz5 : ∀ y ∈ acc ++ [x], y.n.size ≤ 281474976710656 ∧ y.v.size ≤ 281474976710656 := fun y hy => by
       rcases List.mem_append.1 hy with hy | hy
       ·have := HSZ.out y hy; omega
       ·rw [List.mem_singleton.1 hy]; omega
      have hil := isList_any v5 (acc ++ [x]) w5 (hsIn_of_owns how5) (by rw [List.length_append, List.length_singleton]; omega) hsz5
      obtain ⟨s5, c5, hv5⟩ := slice_len hown5
      subst hv5
      have HIL := hide hil
      have HU5 := hide hu5
      have HOW5 := hide how5
      have HAP5 := hide hap5
      clear hown5 hg5 hf5 hil hu5 how5 hap5 hsz5
      cases hli : listB (acc ++ [x]) with
      | false =>
       rw [hli] at HIL
       go_wp2_with fail
       refine HIL.out.mono ?_
       rintro e w6 ⟨rfl, hb6⟩
       have HU6 := hide (HU5.out.below hb6)
       have HC6 := hide (unp_chg HBA.out (HU5.out.below hb6).chg)
       clear hb6
       go_wp2
       exact ⟨rfl, rfl, HC6.out, _, _, cs4, tv4, HU6.out.st, HU6.out.cs3⟩
      | true =>
       rw [hli] at HIL
       have hrp := HRP4.out
       rw [hli] at hrp
       simp only [if_true] at hrp
       have HRP5 := hide hrp
       have hl8 : acc.length + 1 ≤ 8 := by
        have := hli
        unfold listB at this
        simp only [Bool.and_eq_true, decide_eq_true_eq, List.length_append, List.length_singleton] at this
        exact this.1
       clear hrp hli HRP4
       go_wp2_with fail
       refine HIL.out.mono ?_
       rintro e w6 ⟨rfl, hb6⟩
       have HU6 := hide (HU5.out.below hb6)
       have HOW6 := hide (owns_chg HOW5.out (Chg.of_below (S := fun _ => False) hb6) (fun _ _ => id))
       clear hb6
       go_wp2
       go_roundw
       case rel =>
        refine ⟨acc ++ [x], tab4, q, cs4, tv4, rv4, by rw [List.length_append, List.length_singleton]; omega, ?_, by omega, ?_, HU6.out, HOW6.out, HAP5.out⟩
        ·intro y hy
         rcases List.mem_append.1 hy with hy | hy
         ·exact HSZ.out y hy
         ·rw [List.mem_singleton.1 hy]; exact ⟨hxn, hxv⟩
        ·rw [List.length_append, List.length_singleton, show 9 - (acc.length + 1) = f from by have := HFF.out; omega]; exact HRP5.out
       case measure => simp [lenV]; omega
  ·obtain ⟨f, hf⟩ : ∃ f, 2 - j = f + 1 := ⟨1 - j, by omega⟩
   rw [hf] at hlm
   have hg := hu.gl HGA.out hub hgs HTV.out
   have hhas := shas_any w.heap.size rv2 l2 32 5 wr hu.sr (by decide)
   obtain ⟨g0, g1⟩ := hg.lim
   have HG := hide hg
   have HHAS := hide hhas
   have HU := hide hu
   have HLM := hide hlm
   clear hg hhas hu hlm
   have hjd : decide ((j : Int) < 2) = true := by simp; omega
   cases hh : hasF 32 5 l2 with
   | false =>
    rw [hh] at HHAS
    have HPAIRS : Hid (rdPairs 9 [] tab2 lim2 l2 = none) := by
     refine HLM.out lim2 tab2 l2 ?_
     cases l2 with
     | nil => rfl
     | cons c r =>
      have hc : ¬ c.toNat / 32 = 1 := by simpa [hasF] using hh
      simp only [rdLims]
      rw [if_neg hc]
    clear HLM
    go_wp2_with fail
    refine HHAS.out.mono ?_
    rintro e w1 ⟨rfl, hb1⟩
    have HU1 := hide (HU.out.below hb1)
    clear hb1 HU
    have HU := HU1
    clear HU1 g0 g1
    go_wp2
    go_loopw [7] (fun v wx => ∃ (acc tab3 : List HP) (l3 : List UInt8) (cs3 : Array Value) (tv3 rv3 : Value), acc.length ≤ 8 ∧ (∀ x ∈ acc, x.n.size ≤ 268435456 ∧ x.v.size ≤ 268435456) ∧ l3.length ≤ b.length ∧ rdPairs (9 - acc.length) acc tab3 lim2 l3 = none ∧ UnToZ (w.alloc (.cells #[.slice sv b.length cv] 231)) wx ub cs cs3 tP lim2 tv tv3 tab3 w.heap.size (.slice sv b.length cv) rv3 l3 ∧ wx.ownsRow w.heap.size 130 2 v acc.length (hpCells acc) ∧ (∀ j, v.ownBlock = some j → tv3.ownBlock ≠ some j)) (fun v _ => 9 - lenV v)
    case atStart => exact ⟨[], tab2, l2, cs2, tv2, rv2, by simp, by simp, by omega, HPAIRS.out, HU.out, World.ownsRow_nil _ _ _ _, fun j e => by simp [Value.ownBlock] at e⟩
    case round =>
     obtain ⟨acc, tab3, l3, cs3, tv3, rv3, ha8, hsz, hl3, hrp, hu3, how, hap3⟩ := hrel
     obtain ⟨sl, cl, hvl⟩ := slice_len how
     subst hvl
     have hae := atEnd_any w.heap.size rv3 l3 wr hu3.sr
     have HAE := hide hae
     have HU3 := hide hu3
     have HOW := hide how
     have HAP3 := hide hap3
     have HSZ := hide hsz
     have HRP := hide hrp
     clear hae hu3 how hap3 hsz hrp HU
     obtain ⟨f, hf⟩ : ∃ f, 9 - acc.length = f + 1 := ⟨8 - acc.length, by omega⟩
     have HFF := hide hf
     clear hf
     cases l3 with
     | nil =>
      have hrp := HRP.out
      rw [HFF.out] at hrp
      simp [rdPairs] at hrp
     | cons c r =>
      have hap := HU3.out.apart HAA.out HSA.out
      have hg3 := HU3.out.gl HGA.out hub hgs HTV.out
      have HAP := hide hap
      have HG3 := hide hg3
      clear hap hg3
      cases hp : rdPair tab3 lim2 (c :: r) with
      | none =>
       have htp := takePair_badZ ub cs3 tP lim2 tv3 tab3 w.heap.size rv3 (c :: r) wr HG3.out HU3.out.st HU3.out.sr HAP.out (by omega) hgs hp
       have HTP := hide htp
       clear htp hp HRP
       go_wp2_with fail
       refine HAE.out.mono ?_
       rintro e w9 ⟨rfl, hw9⟩
       rw [hw9]
       clear hw9
       go_wp2_with fail
       refine HTP.out.mono ?_
       rintro e w4 ⟨he, hc4⟩
       rw [he]
       exact ⟨rfl, rfl, unp_chg HBA.out (HU3.out.chg.trans (hc4.mono fun j _ e => Or.inr (Or.inl e))), _, _, cs3, tv3, HU3.out.st.chg hc4 HAP.out.us (fun j hj e => HAP.out.ts (e ▸ hj)), HU3.out.cs3⟩
      | some y =>
       obtain ⟨x, tab4, q⟩ := y
       obtain ⟨hq4, hxn, hxv⟩ := rdPair_len hp (numd_small (Nat.le_trans HU3.out.st.fit HU3.out.st.small)) (by omega)
       have htp := takePair_okZ ub cs3 tP lim2 tv3 tab3 w.heap.size rv3 (c :: r) x tab4 q wr HG3.out HU3.out.st HU3.out.sr HAP.out (by omega) hgs hp
       have hrp := HRP.out
       rw [HFF.out] at hrp
       simp only [rdPairs] at hrp
       rw [hp] at hrp
       simp only at hrp
       have HTP := hide htp
       have HRP4 := hide hrp
       clear htp hrp hp HRP
       go_wp2_with fail
       refine HAE.out.mono ?_
       rintro e w9 ⟨rfl, hw9⟩
       rw [hw9]
       clear hw9
       go_wp2_with fail
       refine HTP.out.mono ?_
       rintro e w4 ⟨rfl, cs4, tv4, rv4, hu4⟩
       have how4 := owns_chg HOW.out hu4.chg (by
        rintro j hj (e | e | e)
        ·subst e; exact owns_ne HOW.out HU3.out.sr.blk (by decide) hj
        ·subst e; exact owns_ne HOW.out HU3.out.st.tb.blk (fun e => HU3.out.st.tb.ne e.symm) hj
        ·exact HAP3.out j hj e)
       have hap4 : ∀ j, (Value.slice sl acc.length cl).ownBlock = some j → tv4.ownBlock ≠ some j := fun j hj e => by
        rcases hu4.tfresh j e with a | a
        ·exact HAP3.out j hj a
        ·have := owns_lt HOW.out hj; omega
       have HU4 := hide (HU3.out.trans hu4)
       have HOW4 := hide how4
       have HAP4 := hide hap4
       clear hu4 how4 hap4
       go_wp2_with (at_builtin; refine wpList_app _ rfl (.tmp 22) (.tmp 25) 88 rfl 130 i0 (.agg #[.string ⟨#[]⟩, .string ⟨#[]⟩]) 2 32 Tryz.underlying88 hi hz0 hz1 hz2 rfl (by decide) _ _ _ rfl ((owns_base HOW4.out (fun _ _ => Nat.zero_le _)).alloc _) (.slice (some ⟨w4.heap.size, 0, none⟩) 1 1) 1 (hpCells [x]) rfl rfl (lies_pair w4 x) (hp_one _) ?c3 ?c4 ?_)
       case c3 => unfold maxLen; omega
       case c4 => omega
       intro v5 w5 hown5 hg5 hf5
       obtain ⟨hu5, how5, hap5⟩ := unp_appZ HB.out HT.out HBA.out HU4.out HOW4.out HAP4.out hown5 hg5 (by simpa using hf5)
       have hsz5 : ∀ y ∈ acc ++ [x], y.n.size ≤ 281474976710656 ∧ y.v.size ≤ 281474976710656 := fun y hy => by
        rcases List.mem_append.1 hy with hy | hy
        ·have := HSZ.out y hy; omega
        ·rw [List.mem_singleton.1 hy]; omega
       have hil := isList_any v5 (acc ++ [x]) w5 (hsIn_of_owns how5) (by rw [List.length_append, List.length_singleton]; omega) hsz5
       obtain ⟨s5, c5, hv5⟩ := slice_len hown5
       subst hv5
       have HIL := hide hil
       have HU5 := hide hu5
       have HOW5 := hide how5
       have HAP5 := hide hap5
       clear hown5 hg5 hf5 hil hu5 how5 hap5 hsz5
       cases hli : listB (acc ++ [x]) with
       | false =>
        rw [hli] at HIL
        go_wp2_with fail
        refine HIL.out.mono ?_
        rintro e w6 ⟨rfl, hb6⟩
        have HU6 := hide (HU5.out.below hb6)
        have HC6 := hide (unp_chg HBA.out (HU5.out.below hb6).chg)
        clear hb6
        go_wp2
        exact ⟨rfl, rfl, HC6.out, _, _, cs4, tv4, HU6.out.st, HU6.out.cs3⟩
       | true =>
        rw [hli] at HIL
        have hrp := HRP4.out
        rw [hli] at hrp
        simp only [if_true] at hrp
        have HRP5 := hide hrp
        have hl8 : acc.length + 1 ≤ 8 := by
         have := hli
         unfold listB at this
         simp only [Bool.and_eq_true, decide_eq_true_eq, List.length_append, List.length_singleton] at this
         exact this.1
        clear hrp hli HRP4
        go_wp2_with fail
        refine HIL.out.mono ?_
        rintro e w6 ⟨rfl, hb6⟩
        have HU6 := hide (HU5.out.below hb6)
        have HOW6 := hide (owns_chg HOW5.out (Chg.of_below (S := fun _ => False) hb6) (fun _ _ => id))
        clear hb6
        go_wp2
        go_roundw
        case rel =>
         refine ⟨acc ++ [x], tab4, q, cs4, tv4, rv4, by rw [List.length_append, List.length_singleton]; omega, ?_, by omega, ?_, HU6.out, HOW6.out, HAP5.out⟩
         ·intro y hy
          rcases List.mem_append.1 hy with hy | hy
          ·exact HSZ.out y hy
          ·rw [List.mem_singleton.1 hy]; exact ⟨hxn, hxv⟩
         ·rw [List.length_append, List.length_singleton, show 9 - (acc.length + 1) = f from by have := HFF.out; omega]; exact HRP5.out
        case measure => simp [lenV]; omega
   | true =>
    rw [hh] at HHAS
    cases l2 with
    | nil => simp [hasF] at hh
    | cons c r =>
     have hc : c.toNat / 32 = 1 := by simpa [hasF] using hh
     have hap := HU.out.apart HAA.out HSA.out
     have hm2 : cs2[38]? = some (.int .i64 (most : Int)) := (HU.out.cs3 38 (by omega)).trans HM.out
     have HAP := hide hap
     have HM2 := hide hm2
     have HC := hide hc
     clear hap hm2 hc hh
     go_wp2_with fail
     refine HHAS.out.mono ?_
     rintro e w1 ⟨rfl, hb1⟩
     have hu1 := HU.out.below hb1
     have HU1 := hide hu1
     have HG1 := hide (hu1.gl HGA.out hub hgs HTV.out)
     clear hb1 hu1 g0 g1
     cases hcn : rdCnt 5 c r with
     | none =>
      have HTL := hide (takeLimit_nocountZ ub w.heap.size rv2 c r w1 HG1.out HU1.out.sr (by omega) hgs hcn)
      clear hcn
      go_wp2_with fail
      refine HTL.out.mono ?_
      rintro e w2 ⟨he, hc2⟩
      rw [he]
      exact ⟨rfl, rfl, unp_chg HBA.out (HU1.out.chg.trans (hc2.mono fun j _ e => Or.inr (Or.inl e))), _, _, cs2, tv2, HU1.out.st.chg hc2 HAP.out.us (fun j hj e => HAP.out.ts (e ▸ hj)), HU1.out.cs3⟩
     | some nq =>
      obtain ⟨n, q⟩ := nq
      have hqr := rdCnt_len hcn
      by_cases hnm : most < n
      ·have HTL := hide (takeLimit_greatZ ub cs2 tP lim2 tv2 tab2 most w.heap.size rv2 c r n q w1 HG1.out HU1.out.st HM2.out HU1.out.sr HAP.out (by omega) hgs hcn hnm)
       clear hcn
       go_wp2_with fail
       refine HTL.out.mono ?_
       rintro e w2 ⟨he, hc2⟩
       rw [he]
       exact ⟨rfl, rfl, unp_chg HBA.out (HU1.out.chg.trans (hc2.mono fun j _ e => Or.inr (Or.inl e))), _, _, cs2, tv2, HU1.out.st.chg hc2 HAP.out.us (fun j hj e => HAP.out.ts (e ▸ hj)), HU1.out.cs3⟩
      ·have HTL := hide (takeLimit_okZ ub cs2 tP lim2 tv2 tab2 most w.heap.size rv2 c r n q w1 HG1.out HU1.out.st HM2.out HU1.out.sr HAP.out (by omega) hgs hcn (by omega) hmo)
       have HNX : Hid (BadT most f n (shr tab2 n) q) := by
        intro lim1 tab1 r1 hr1
        refine HLM.out lim1 tab1 r1 ?_
        simp only [rdLims]
        rw [if_pos HC.out, hcn]
        simp only
        rw [if_neg hnm]
        exact hr1
       clear hcn
       simp only [List.length_cons] at hll
       go_wp2_with fail
       refine HTL.out.mono ?_
       rintro e w2 ⟨rfl, cs3, tv3, rv3, hu3⟩
       have HU3 := hide (HU1.out.trans hu3)
       clear hu3
       go_wp2
       go_roundw
       case rel =>
        refine ⟨j + 1, n, shr tab2 n, q, cs3, tv3, rv3, by simp, by omega, by omega, ?_, HU3.out⟩
        rw [show 2 - (j + 1) = f from by omega]; exact HNX.out
       case measure => simp [intOf]; omega
end
section
structure GX where
 g : GEnd
 ul : Nat
 ut : List HP
 um : Nat
 ub : List UInt8
 hs : Int → List HP
def GX.blk (X : GX) (j : Nat) : Prop := X.g.m.utab.ownBlock = some j ∨ X.g.m.bbytes.ownBlock = some j ∨ ∃ s ∈ X.g.K, s.st.heads.ownBlock = some j
structure InvX (w : World) (eb mb : Nat) (X : GX) : Prop where
 inv : Inv w eb mb X.g
 lim : X.g.m.ulim = (X.ul : Int)
 sz : X.g.m.usz = (szT X.ut : Int)
 most : X.g.m.umost = (X.um : Int)
 m256 : X.um ≤ 256
 tab : w.ownsRow 0 130 2 X.g.m.utab X.ut.length (hpCells X.ut)
 fit : szT X.ut ≤ X.ul
 small : X.ul ≤ 256
 bb : w.ownsRow 0 5 1 X.g.m.bbytes X.ub.length (X.ub.map B)
 b700 : X.ub.length ≤ 700
 hd : ∀ s ∈ X.g.K, w.ownsRow 0 130 2 s.st.heads (X.hs s.st.number).length (hpCells (X.hs s.st.number))
 nf : ∀ j, X.blk j → ¬ Foot eb mb X.g j
 au : ∀ s ∈ X.g.K, ∀ j, s.st.heads.ownBlock = some j → X.g.m.utab.ownBlock ≠ some j
def FootX (eb mb : Nat) (X : GX) (j : Nat) : Prop := Foot eb mb X.g j ∨ X.blk j
structure NextX (w w' : World) (eb mb : Nat) (X X' : GX) : Prop where
 inv : InvX w' eb mb X'
 chg : Chg (FootX eb mb X) w w'
 grow : ∀ j, FootX eb mb X' j → FootX eb mb X j ∨ w.heap.size ≤ j
section
variable {w w' w'' : World} {eb mb : Nat} {X X' X'' : GX} {g' : GEnd}
theorem InvX.blk_lt (h : InvX w eb mb X) {j : Nat} (hj : X.blk j) : j < w.heap.size := by
 rcases hj with e | e | ⟨s, hs, e⟩
 ·exact owns_lt h.tab e
 ·exact owns_lt h.bb e
 ·exact owns_lt (h.hd s hs) e
theorem InvX.lt (h : InvX w eb mb X) {j : Nat} (hj : FootX eb mb X j) : j < w.heap.size := hj.elim (fun e => Foot.lt h.inv e) h.blk_lt
theorem InvX.ne_eb (h : InvX w eb mb X) {j : Nat} (hj : X.blk j) : j ≠ eb := fun e => h.nf j hj (Or.inl e)
theorem InvX.tbs (h : InvX w eb mb X) : TbSZ w eb X.g.m.cells 103 X.ul X.g.m.utab X.ut where
 tb := ⟨h.inv.en.blk, by show some (Value.int .i64 X.g.m.ulim) = _; rw [h.lim], by show some (Value.int .i64 X.g.m.usz) = _; rw [h.sz], rfl, by decide⟩
 row := h.tab
 fit := h.fit
 small := h.small
theorem InvX.chg {S : Nat → Prop} (h : InvX w eb mb X) (hc : Chg S w w') (hs : ∀ j, FootX eb mb X j → ¬ S j) : InvX w' eb mb X :=
 ⟨h.inv.chg hc (fun j hj => hs j (Or.inl hj)), h.lim, h.sz, h.most, h.m256, owns_chg h.tab hc (fun j hj => hs j (Or.inr (Or.inl hj))), h.fit, h.small, owns_chg h.bb hc (fun j hj => hs j (Or.inr (Or.inr (Or.inl hj)))), h.b700, fun s hs' => owns_chg (h.hd s hs') hc (fun j hj => hs j (Or.inr (Or.inr (Or.inr ⟨s, hs', hj⟩)))), h.nf, h.au⟩
theorem InvX.below (h : InvX w eb mb X) (hb : Below w.heap.size w w') : InvX w' eb mb X := h.chg (Chg.of_below (S := fun _ => False) hb) (fun _ _ => id)
theorem NextX.refl (h : InvX w eb mb X) : NextX w w eb mb X X := ⟨h, Chg.refl _ _, fun _ hj => Or.inl hj⟩
theorem NextX.of_below (h : InvX w eb mb X) (hb : Below w.heap.size w w') : NextX w w' eb mb X X := ⟨h.below hb, Chg.of_below hb, fun _ hj => Or.inl hj⟩
theorem NextX.trans (h : NextX w w' eb mb X X') (h' : NextX w' w'' eb mb X' X'') : NextX w w'' eb mb X X'' where
 inv := h'.inv
 chg := h.chg.trans (h'.chg.mono fun j _ hj => (h.grow j hj).symm)
 grow := fun j hj => by
  rcases h'.grow j hj with a | a
  ·exact h.grow j a
  ·exact Or.inr (Nat.le_trans h.chg.size a)
theorem NextX.pre (h : NextX w' w'' eb mb X X') (hb : Below w.heap.size w w') : NextX w w'' eb mb X X' where
 inv := h.inv
 chg := (Chg.of_below hb).trans (h.chg.mono fun j _ hj => Or.inr hj)
 grow := fun j hj => (h.grow j hj).imp_right fun a => Nat.le_trans hb.size a
theorem NextX.then_below (h : NextX w w' eb mb X X') (hb : Below w'.heap.size w' w'') : NextX w w'' eb mb X X' := h.trans (NextX.of_below h.inv hb)
structure SameX (g g' : GEnd) : Prop where
 ulim : g'.m.ulim = g.m.ulim
 usz : g'.m.usz = g.m.usz
 utab : g'.m.utab = g.m.utab
 umost : g'.m.umost = g.m.umost
 bbytes : g'.m.bbytes = g.m.bbytes
 heads : ∀ s ∈ g'.K, ∃ t ∈ g.K, t.st.number = s.st.number ∧ t.st.heads = s.st.heads
theorem SameX.of_bare {g q g' : GEnd} (h : SameX g q) (he : g'.bare = q.bare) : SameX g g' := by
 have hm : g'.m.bare = q.m.bare := by have := congrArg GEnd.m he; exact this
 have hK : g'.K.map GSt.bare = q.K.map GSt.bare := by have := congrArg GEnd.K he; exact this
 refine ⟨?_, ?_, ?_, ?_, ?_, fun s hs => ?_⟩
 ·exact (congrArg EndM.ulim hm).trans h.ulim
 ·exact (congrArg EndM.usz hm).trans h.usz
 ·exact (congrArg EndM.utab hm).trans h.utab
 ·exact (congrArg EndM.umost hm).trans h.umost
 ·exact (congrArg EndM.bbytes hm).trans h.bbytes
 ·have hs' : s.bare ∈ q.K.map GSt.bare := by rw [← hK]; exact List.mem_map.2 ⟨s, hs, rfl⟩
  obtain ⟨u, hu, e⟩ := List.mem_map.1 hs'
  obtain ⟨t, ht, e1, e2⟩ := h.heads u hu
  have f1 : u.st.number = s.st.number := by have := congrArg (fun x : GSt => x.st.number) e; exact this
  have f2 : u.st.heads = s.st.heads := by have := congrArg (fun x : GSt => x.st.heads) e; exact this
  exact ⟨t, ht, e1.trans f1, e2.trans f2⟩
theorem SameX.refl (g : GEnd) : SameX g g := ⟨rfl, rfl, rfl, rfl, rfl, fun s hs => ⟨s, hs, rfl, rfl⟩⟩
theorem SameX.upd {g : GEnd} {n : Int} {f : GSt → GSt} {m' : EndM} {L' : List Int} {o' got' : List UInt8} {A' : List Ans} {R' : List Int} (hf : ∀ s, (f s).st.number = s.st.number ∧ (f s).st.heads = s.st.heads) (h1 : m'.ulim = g.m.ulim) (h2 : m'.usz = g.m.usz) (h3 : m'.utab = g.m.utab) (h4 : m'.umost = g.m.umost) (h5 : m'.bbytes = g.m.bbytes) : SameX g ⟨m', updN n f g.K, L', o', got', A', R'⟩ := by
 refine ⟨h1, h2, h3, h4, h5, fun s hs => ?_⟩
 obtain ⟨t, ht, rfl⟩ := List.mem_map.1 hs
 refine ⟨t, ht, ?_⟩
 split
 ·exact ⟨(hf t).1.symm, (hf t).2.symm⟩
 ·exact ⟨rfl, rfl⟩
theorem InvX.next (h : InvX w eb mb X) (hn : Next w w' eb mb X.g g') (hs : SameX X.g g') : NextX w w' eb mb X { X with g := g' } := by
 have hkeep : ∀ j, X.blk j → ¬ Foot eb mb X.g j := h.nf
 have hblk : ∀ j, GX.blk { X with g := g' } j → X.blk j := fun j hj => by
  rcases hj with e | e | ⟨s, hs', e⟩
  ·exact Or.inl (by rw [← hs.utab]; exact e)
  ·exact Or.inr (Or.inl (by rw [← hs.bbytes]; exact e))
  ·obtain ⟨t, ht, -, e2⟩ := hs.heads s hs'
   exact Or.inr (Or.inr ⟨t, ht, by rw [e2]; exact e⟩)
 refine ⟨⟨hn.inv, hs.ulim.trans h.lim, hs.usz.trans h.sz, hs.umost.trans h.most, h.m256, ?_, h.fit, h.small, ?_, h.b700, fun s hs' => ?_, fun j hj hf => ?_, fun s hs' j hj => ?_⟩, hn.chg.mono fun j _ e => Or.inl e, fun j hj => ?_⟩
 ·show w'.ownsRow 0 130 2 g'.m.utab _ _
  rw [hs.utab]
  exact owns_chg h.tab hn.chg (fun j hj => hkeep j (Or.inl hj))
 ·show w'.ownsRow 0 5 1 g'.m.bbytes _ _
  rw [hs.bbytes]
  exact owns_chg h.bb hn.chg (fun j hj => hkeep j (Or.inr (Or.inl hj)))
 ·obtain ⟨t, ht, e1, e2⟩ := hs.heads s hs'
  show w'.ownsRow 0 130 2 s.st.heads (X.hs s.st.number).length (hpCells (X.hs s.st.number))
  rw [← e1, ← e2]
  exact owns_chg (h.hd t ht) hn.chg (fun j hj => hkeep j (Or.inr (Or.inr ⟨t, ht, hj⟩)))
 ·have hx := hblk j hj
  rcases hn.grow j hf with a | a
  ·exact hkeep j hx a
  ·have := h.blk_lt hx; omega
 ·obtain ⟨t, ht, e1, e2⟩ := hs.heads s hs'
  show g'.m.utab.ownBlock ≠ some j
  rw [hs.utab]
  exact h.au t ht j (by rw [e2]; exact hj)
 ·rcases hj with e | e
  ·exact (hn.grow j e).imp_left Or.inl
  ·exact Or.inl (Or.inr (hblk j e))
theorem InvX.step {q : GEnd} (h : InvX w eb mb X) (hn : ∃ g', g'.bare = q.bare ∧ Next w w' eb mb X.g g') (hs : SameX X.g q) : ∃ g', g'.bare = q.bare ∧ NextX w w' eb mb X { X with g := g' } := by
 obtain ⟨g', h1, h2⟩ := hn
 exact ⟨g', h1, h.next h2 (hs.of_bare h1)⟩
end
end
section
def GEnd.crude (g : GEnd) : GEnd := { g.bare with m := { g.bare.m with utab := .slice none 0 0, ptab := .slice none 0 0, bbytes := .slice none 0 0 }, K := g.bare.K.map fun s => { s with st := { s.st with heads := .slice none 0 0 } } }
def GX.bare (X : GX) : GX := { X with g := X.g.crude }
theorem crude_of_bare {g g' : GEnd} (h : g'.bare = g.bare) : g'.crude = g.crude := by unfold GEnd.crude; rw [h]
section
variable {w w' : World} {eb mb : Nat} {X : GX}
theorem Inv.offFoot {g : GEnd} {Q : Nat → Prop} {m' : EndM} (i : Inv w eb mb g) (hc : Chg (fun j => j = eb ∨ Q j) w w') (hQ : ∀ j, Q j → ¬ Foot eb mb g j) (hen : EnB w' eb m') (h1 : m'.known = g.m.known) (h2 : m'.opn = g.m.opn) (h3 : m'.got = g.m.got) (h4 : m'.out = g.m.out) (h5 : m'.answers = g.m.answers) (h6 : m'.resets = g.m.resets) :
  Inv w' eb mb { g with m := m' } ∧ ∀ j, Foot eb mb { g with m := m' } j ↔ Foot eb mb g j := by
 have hS : ∀ j, Foot eb mb g j → j ≠ eb → ¬ (j = eb ∨ Q j) := fun j hj hne e => by
  rcases e with e | e
  ·exact hne e
  ·exact hQ j e hj
 have rk : ∀ {ty sz n : Nat} {v : Value} {xs : List Value}, w.ownsRow 0 ty sz v n xs → ty ≠ 103 → (∀ j, v.ownBlock = some j → Foot eb mb g j) → w'.ownsRow 0 ty sz v n xs := fun hr hty hF => owns_chg hr hc (fun j hj => hS j (hF j hj) (fun e => by rw [e] at hj; exact owns_ne hr i.en.blk hty hj))
 refine ⟨⟨hen, i.kn.chg hc (fun e => ?_) (fun p hp e => ?_), by rw [h1]; exact i.km, i.nd, i.nn, i.ln, i.has, ?_, ?_, ?_, fun p hp => ?_, fun p hp => ?_, ?_, fun a ha => ?_, ?_, ?_⟩, fun j => ?_⟩
 ·exact hS mb (Or.inr (Or.inl rfl)) i.eb_mb e
 ·obtain ⟨s, hs, rfl⟩ := List.mem_map.1 hp
  exact hS s.sb (i.foot_st hs) (i.st_eb hs) e
 ·show w'.ownsRow 0 124 1 m'.opn _ _
  rw [h2]; exact rk i.row (by decide) (fun j hj => by unfold Foot; simp [hj])
 ·show w'.ownsRow 0 5 1 m'.out _ _
  rw [h4]; exact rk i.out (by decide) (fun j hj => by unfold Foot; simp [hj])
 ·show w'.ownsRow 0 5 1 m'.got _ _
  rw [h3]; exact rk i.got (by decide) (fun j hj => by unfold Foot; simp [hj])
 ·exact rk (i.un p hp) (by decide) (fun j hj => Or.inr (Or.inr (Or.inr (Or.inr (Or.inr (Or.inr (Or.inr (Or.inr ⟨p, hp, Or.inr (Or.inl hj)⟩))))))))
 ·exact rk (i.wa p hp) (by decide) (fun j hj => Or.inr (Or.inr (Or.inr (Or.inr (Or.inr (Or.inr (Or.inr (Or.inr ⟨p, hp, Or.inr (Or.inr hj)⟩))))))))
 ·show RowAt w' 48 4 m'.answers _ _
  rw [h5]; exact i.ans.chg hc (fun j hj => hS j (by unfold Foot; simp [hj]) (fun e => by rw [e] at hj; exact i.ans.ne i.en.blk (by decide) hj))
 ·exact rk (i.anb a ha) (by decide) (fun j hj => Or.inr (Or.inr (Or.inr (Or.inr (Or.inr (Or.inr (Or.inr (Or.inl ⟨a, ha, hj⟩))))))))
 ·show RowAt w' 3 1 m'.resets _ _
  rw [h6]; exact i.res.chg hc (fun j hj => hS j (by unfold Foot; simp [hj]) (fun e => by rw [e] at hj; exact i.res.ne i.en.blk (by decide) hj))
 ·obtain ⟨T, hT⟩ := i.ap
  exact ⟨T, ⟨fun j hj => hT.out j (by rw [← h4]; exact hj), fun j hj => hT.got j (by rw [← h3]; exact hj), hT.un, hT.wa, hT.an⟩⟩
 ·unfold Foot
  show (j = eb ∨ j = mb ∨ m'.out.ownBlock = some j ∨ m'.got.ownBlock = some j ∨ m'.opn.ownBlock = some j ∨ m'.answers.ownBlock = some j ∨ m'.resets.ownBlock = some j ∨ _) ↔ _
  rw [h2, h3, h4, h5, h6]
theorem InvX.bytes (h : InvX w eb mb X) {m' : EndM} {v1 : Value} {l1 : List UInt8} (hc : Chg (fun j => j = eb ∨ X.g.m.bbytes.ownBlock = some j) w w') (hen : EnB w' eb m') (hv1 : m'.bbytes = v1) (ho : w'.ownsRow 0 5 1 v1 l1.length (l1.map B)) (hl : l1.length ≤ 700) (hfr : ∀ j, v1.ownBlock = some j → X.g.m.bbytes.ownBlock = some j ∨ w.heap.size ≤ j)
  (h1 : m'.known = X.g.m.known) (h2 : m'.opn = X.g.m.opn) (h3 : m'.got = X.g.m.got) (h4 : m'.out = X.g.m.out) (h5 : m'.answers = X.g.m.answers) (h6 : m'.resets = X.g.m.resets) (h7 : m'.ulim = X.g.m.ulim) (h8 : m'.usz = X.g.m.usz) (h9 : m'.utab = X.g.m.utab) (h10 : m'.umost = X.g.m.umost) :
  NextX w w' eb mb X { X with g := { X.g with m := m' }, ub := l1 } := by
 have hbf : ∀ j, X.g.m.bbytes.ownBlock = some j → ¬ Foot eb mb X.g j := fun j hj => h.nf j (Or.inr (Or.inl hj))
 have i := h.inv
 obtain ⟨hInv, hFt⟩ := i.offFoot hc hbf hen h1 h2 h3 h4 h5 h6
 have hbb : ∀ {ty n : Nat} {v : Value} {xs : List Value}, w.ownsRow 0 ty 2 v n xs → ty = 130 → X.blk = X.blk → (∀ j, v.ownBlock = some j → X.blk j) → w'.ownsRow 0 ty 2 v n xs := fun hr hty _ hF => owns_chg hr hc (fun j hj e => by
  rcases e with e | e
  ·exact h.ne_eb (hF j hj) e
  ·exact rows_ne h.bb hr (by rw [hty]; decide) e hj)
 refine ⟨⟨hInv, h7.trans h.lim, h8.trans h.sz, h10.trans h.most, h.m256, ?_, h.fit, h.small, ?_, hl, fun s hs => ?_, fun j hj hf => ?_, fun s hs j hj => ?_⟩, hc.mono fun j _ e => ?_, fun j hj => ?_⟩
 ·show w'.ownsRow 0 130 2 m'.utab _ _
  rw [h9]
  exact hbb h.tab rfl rfl (fun j hj => Or.inl hj)
 ·show w'.ownsRow 0 5 1 m'.bbytes _ _
  rw [hv1]; exact ho
 ·exact hbb (h.hd s hs) rfl rfl (fun j hj => Or.inr (Or.inr ⟨s, hs, hj⟩))
 ·rw [hFt] at hf
  rcases hj with e | e | ⟨s, hs, e⟩
  ·exact h.nf j (Or.inl (by rw [← h9]; exact e)) hf
  ·rcases hfr j (by rw [← hv1]; exact e) with b | b
   ·exact hbf j b hf
   ·have := Foot.lt i hf; omega
  ·exact h.nf j (Or.inr (Or.inr ⟨s, hs, e⟩)) hf
 ·show m'.utab.ownBlock ≠ some j
  rw [h9]; exact h.au s hs j hj
 ·rcases e with e | e
  ·exact Or.inl (Or.inl e)
  ·exact Or.inr (Or.inr (Or.inl e))
 ·rcases hj with e | e
  ·exact Or.inl (Or.inl ((hFt j).1 e))
  ·rcases e with e | e | ⟨s, hs, e⟩
   ·exact Or.inl (Or.inr (Or.inl (by rw [← h9]; exact e)))
   ·rcases hfr j (by rw [← hv1]; exact e) with b | b
    ·exact Or.inl (Or.inr (Or.inr (Or.inl b)))
    ·exact Or.inr b
   ·exact Or.inl (Or.inr (Or.inr (Or.inr ⟨s, hs, e⟩)))
end
end
section
def GX.piece (X : GX) (n : Int) (bl : Bool) (l : List UInt8) : GX := { X with g := { X.g with m := { X.g.m with bstream := n, blast := bl } }, ub := l }
set_option maxRecDepth 100000 in
set_option maxHeartbeats 1600000 in
theorem comePiece_moreX (eb mb : Nat) (X : GX) (n : Int) (bl : Bool) (bv : Value) (l0 l : List UInt8) (sv : Option Addr) (cb : Nat) (w : World) (h : InvX w eb mb X) (hbv : w.ownsRow 0 5 1 bv l0.length (l0.map B)) (hbo : ∀ j, bv.ownBlock = some j → X.g.m.bbytes.ownBlock = some j) (hl : BytesIn w (.slice sv l.length cb) l) (hlen : l0.length + l.length ≤ 700) :
  Calls Tryz.prog 97 #[.pointer (some ⟨eb, 0, none⟩), .agg #[.int .i64 n, bv, .bool bl], .slice sv l.length cb, .bool false] w fun e w' => e = .returned (.tuple #[]) ∧ ∃ X', X'.bare = (X.piece n bl (l0 ++ l)).bare ∧ NextX w w' eb mb X X' := by
 obtain ⟨i0, hi, hz0, hz1, hz2⟩ := info_parts Tryz.info5
 have hlt := h.inv.en.lt
 obtain ⟨s0, c0, hs0⟩ := slice_len hbv
 subst hs0
 obtain ⟨wA, hwA⟩ : ∃ wA, wA = w.alloc (.cells #[.int .i64 n, .slice s0 l0.length c0, .bool bl] 87) := ⟨_, rfl⟩
 have hbA : Below w.heap.size w wA := by rw [hwA]; exact (Below.refl _ _).alloc (Nat.le_refl _) _
 have hbox : wA.heap[w.heap.size]? = some (.cells #[.int .i64 n, .slice s0 l0.length c0, .bool bl] 87 (0, 0)) := by rw [hwA]; exact heap_alloc_new w _
 have k0 : wA.cell? ⟨w.heap.size, 0, none⟩ = some (.int .i64 n) := by rw [cell_of_row _ _ _ _ _ _ hbox]; rfl
 have k1 : wA.cell? ⟨w.heap.size, 1, none⟩ = some (.slice s0 l0.length c0) := by rw [cell_of_row _ _ _ _ _ _ hbox]; rfl
 have k2 : wA.cell? ⟨w.heap.size, 2, none⟩ = some (.bool bl) := by rw [cell_of_row _ _ _ _ _ _ hbox]; rfl
 have HRA : Hid (wA.ownsRow 0 5 1 (.slice s0 l0.length c0) l0.length (l0.map B)) := owns_chg hbv (Chg.of_below (S := fun _ => False) hbA) (fun _ _ => id)
 have HLI : Hid (Lies wA (.slice sv l.length cb) l.length (l.map B)) := lies_of_bytesIn (hl.chg (Chg.of_below (S := fun _ => False) hbA) (fun _ _ => id))
 have HH := hide h
 have HBO := hide hbo
 have HBA := hide hbA
 have HBOX := hide hbox
 have HWA := hide hwA
 clear h hbv hbo hl hbA hbox hwA
 go_enter Tryz.func97, Tryz.ntmps97
 go_upto_region 1 with fail
 rw [← HWA.out]
 go_wp2_with (at_builtin; refine wpList_app _ rfl (.tmp 10) (.tmp 11) 44 rfl 5 i0 (.int .u8 0) 1 1 Tryz.underlying44 hi hz0 hz1 hz2 rfl (by decide) (.slice s0 l0.length c0) l0.length (l0.map B) rfl HRA.out (.slice sv l.length cb) l.length (l.map B) rfl (by simp) HLI.out (by intro u hu; obtain ⟨x, -, rfl⟩ := List.mem_map.1 hu; rfl) (by unfold maxLen; omega) (by omega) ?_)
 intro v1 w1 hown1 hg1 hfr1
 obtain ⟨s1, c1, rfl⟩ := slice_len hown1
 have hc1 : Chg (fun j => (Value.slice s0 l0.length c0).ownBlock = some j) wA w1 := Chg.of_grown hg1 (fun j hj => hj)
 have hnb : ∀ j, (Value.slice s0 l0.length c0).ownBlock = some j → j ≠ w.heap.size := fun j hj e => by
  have := HH.out.blk_lt (Or.inr (Or.inl (HBO.out j hj)))
  omega
 have hbox1 : w1.heap[w.heap.size]? = some (.cells #[.int .i64 n, .slice s0 l0.length c0, .bool bl] 87 (0, 0)) := by
  rw [hc1.block w.heap.size (lt_of_block HBOX.out) (fun e => hnb _ e rfl)]
  exact HBOX.out
 have f1 : w1.cell? ⟨w.heap.size, 1, none⟩ = some (.slice s0 l0.length c0) := by rw [cell_of_row _ _ _ _ _ _ hbox1]; rfl
 have ff1 : w1.frozen? ⟨w.heap.size, 1, none⟩ = false := by simp [World.frozen?, hbox1]
 obtain ⟨w2, hw2⟩ : ∃ w2, w2 = w1.setCell ⟨w.heap.size, 1, none⟩ (.slice s1 (l0.length + l.length) c1) := ⟨_, rfl⟩
 have hbox2 : w2.heap[w.heap.size]? = some (.cells #[.int .i64 n, .slice s1 (l0.length + l.length) c1, .bool bl] 87 (0, 0)) := by rw [hw2, blk_set hbox1]; rfl
 have hs12 : Chg (fun j => j = w.heap.size) w1 w2 := by rw [hw2]; exact chg_set (Chg.refl _ _) rfl
 have hcw2 : Chg (fun j => X.g.m.bbytes.ownBlock = some j) w w2 := by
  have a1 : Chg (fun j => X.g.m.bbytes.ownBlock = some j) w w1 := (Chg.of_below HBA.out).trans (hc1.mono fun j _ e => Or.inr (HBO.out j e))
  exact a1.trans (hs12.mono fun j _ e => Or.inl (by omega))
 have hown2 : w2.ownsRow 0 5 1 (.slice s1 (l0.length + l.length) c1) (l0.length + l.length) (l0.map B ++ l.map B) := owns_chg hown1 hs12 (fun j hj e => by rw [e] at hj; exact owns_ne hown1 hbox1 (by decide) hj)
 have g0 : w2.cell? ⟨w.heap.size, 0, none⟩ = some (.int .i64 n) := by rw [cell_of_row _ _ _ _ _ _ hbox2]; rfl
 have g1 : w2.cell? ⟨w.heap.size, 1, none⟩ = some (.slice s1 (l0.length + l.length) c1) := by rw [cell_of_row _ _ _ _ _ _ hbox2]; rfl
 have g2 : w2.cell? ⟨w.heap.size, 2, none⟩ = some (.bool bl) := by rw [cell_of_row _ _ _ _ _ _ hbox2]; rfl
 have hen2 : EnB w2 eb X.g.m := HH.out.inv.en.chg hcw2 (fun e => HH.out.ne_eb (Or.inr (Or.inl e)) rfl)
 have e31 := hen2.c31
 have e32 := hen2.c32
 have e33 := hen2.c33
 have t31 := hen2.fr 31
 have t32 := hen2.fr 32
 have t33 := hen2.fr 33
 have hle7 : ((700 : Int) < (l0.length : Int) + (l.length : Int)) = False := eq_false (by omega)
 have hfr : ∀ j, (Value.slice s1 (l0.length + l.length) c1).ownBlock = some j → X.g.m.bbytes.ownBlock = some j ∨ w.heap.size ≤ j := fun j hj => by
  rcases hfr1 with e | e
  ·rw [e] at hj; exact Or.inl (HBO.out j hj)
  ·rw [e] at hj
   simp at hj
   have := HBA.out.size
   omega
 have HEND : Hid (∃ X', X'.bare = (X.piece n bl (l0 ++ l)).bare ∧ NextX w (((w2.setCell ⟨eb, 31, none⟩ (.int .i64 n)).setCell ⟨eb, 32, none⟩ (.slice s1 (l0.length + l.length) c1)).setCell ⟨eb, 33, none⟩ (.bool bl)) eb mb X X') := by
  have hset : Chg (fun j => j = eb) w2 (((w2.setCell ⟨eb, 31, none⟩ (.int .i64 n)).setCell ⟨eb, 32, none⟩ (.slice s1 (l0.length + l.length) c1)).setCell ⟨eb, 33, none⟩ (.bool bl)) := chg_set (chg_set (chg_set (Chg.refl _ _) rfl) rfl) rfl
  have hN := HH.out.bytes (m' := { X.g.m with bstream := n, bbytes := .slice s1 (l0.length + l.length) c1, blast := bl }) (v1 := .slice s1 (l0.length + l.length) c1) (l1 := l0 ++ l) ((hcw2.mono fun j _ e => Or.inr e).trans (hset.mono fun j _ e => Or.inr (Or.inl e))) (EnB.of (blk_set (blk_set (blk_set hen2.blk))) rfl) rfl
   (by rw [List.length_append, List.map_append]; exact owns_chg hown2 hset (fun j hj e => by rw [e] at hj; exact owns_ne hown2 hen2.blk (by decide) hj)) (by rw [List.length_append]; exact hlen) hfr rfl rfl rfl rfl rfl rfl rfl rfl rfl rfl
  refine ⟨_, ?_, hN⟩
  rfl
 have HW2 := hide hw2
 clear hown1 hg1 hfr1 hc1 hnb hbox1 hw2 hbox2 hs12 hcw2 hown2 hen2 hfr k0 k1 k2
 go_upto_region 2 with fail
 rw [← HW2.out]
 clear f1 ff1
 go_wp2
 exact bodyPost_ret (results_none rfl _ _ _) rfl ⟨rfl, HEND.out⟩
end
section
section
variable {w w' W0 : World} {eb mb : Nat} {X X0 : GX} {g' : GEnd}
theorem NextX.newS {s : GSt} {n : Int} {lv : Value} {hs' : List HP} (h0 : NextX W0 w eb mb X0 X) (hn : Next w w' eb mb X.g g') (e1 : g'.m.ulim = X.g.m.ulim) (e2 : g'.m.usz = X.g.m.usz) (e3 : g'.m.utab = X.g.m.utab) (e4 : g'.m.umost = X.g.m.umost) (e5 : g'.m.bbytes = X.g.m.bbytes) (hK : g'.K = X.g.K ++ [s]) (hsn : s.st.number = n) (hsh : s.st.heads = lv) (hnew : ∀ t ∈ X.g.K, t.st.number ≠ n) (hlv : w.ownsRow 0 130 2 lv hs'.length (hpCells hs')) (hlf : ∀ j, lv.ownBlock = some j → W0.heap.size ≤ j ∧ ¬ Foot eb mb X.g j ∧ X.g.m.utab.ownBlock ≠ some j) :
  NextX W0 w' eb mb X0 { X with g := g', hs := fun k => if k = n then hs' else X.hs k } := by
 have h := h0.inv
 have hmem : ∀ t ∈ g'.K, t ∈ X.g.K ∨ t = s := fun t ht => by rw [hK] at ht; simpa using ht
 have hblk : ∀ j, GX.blk { X with g := g', hs := fun k => if k = n then hs' else X.hs k } j → X.blk j ∨ lv.ownBlock = some j := fun j hj => by
  rcases hj with e | e | ⟨t, ht, e⟩
  ·exact Or.inl (Or.inl (by rw [← e3]; exact e))
  ·exact Or.inl (Or.inr (Or.inl (by rw [← e5]; exact e)))
  ·rcases hmem t ht with a | a
   ·exact Or.inl (Or.inr (Or.inr ⟨t, a, e⟩))
   ·rw [a, hsh] at e; exact Or.inr e
 refine ⟨⟨hn.inv, e1.trans h.lim, e2.trans h.sz, e4.trans h.most, h.m256, ?_, h.fit, h.small, ?_, h.b700, fun t ht => ?_, fun j hj hf => ?_, fun t ht j hj => ?_⟩, h0.chg.trans (hn.chg.mono fun j _ e => ?_), fun j hj => ?_⟩
 ·show w'.ownsRow 0 130 2 g'.m.utab _ _
  rw [e3]
  exact owns_chg h.tab hn.chg (fun j hj => h.nf j (Or.inl hj))
 ·show w'.ownsRow 0 5 1 g'.m.bbytes _ _
  rw [e5]
  exact owns_chg h.bb hn.chg (fun j hj => h.nf j (Or.inr (Or.inl hj)))
 ·rcases hmem t ht with a | a
  ·have hne := hnew t a
   show w'.ownsRow 0 130 2 t.st.heads (if t.st.number = n then hs' else X.hs t.st.number).length (hpCells (if t.st.number = n then hs' else X.hs t.st.number))
   rw [if_neg hne]
   exact owns_chg (h.hd t a) hn.chg (fun j hj => h.nf j (Or.inr (Or.inr ⟨t, a, hj⟩)))
  ·subst a
   show w'.ownsRow 0 130 2 t.st.heads (if t.st.number = n then hs' else X.hs t.st.number).length (hpCells (if t.st.number = n then hs' else X.hs t.st.number))
   rw [if_pos hsn, hsh]
   exact owns_chg hlv hn.chg (fun j hj => (hlf j hj).2.1)
 ·rcases hn.grow j hf with a | a
  ·rcases hblk j hj with b | b
   ·exact h.nf j b a
   ·exact (hlf j b).2.1 a
  ·rcases hblk j hj with b | b
   ·have := h.blk_lt b; omega
   ·have := owns_lt hlv b; omega
 ·show g'.m.utab.ownBlock ≠ some j
  rw [e3]
  rcases hmem t ht with a | a
  ·exact h.au t a j hj
  ·rw [a, hsh] at hj; exact (hlf j hj).2.2
 ·exact (h0.grow j (Or.inl e)).symm
 ·rcases hj with e | e
  ·rcases hn.grow j e with a | a
   ·exact h0.grow j (Or.inl a)
   ·exact Or.inr (Nat.le_trans h0.chg.size a)
  ·rcases hblk j e with b | b
   ·exact h0.grow j (Or.inr b)
   ·exact Or.inr (hlf j b).1
theorem unpd_cells {m : EndM} {cs' : Array Value} {tv tv' : Value} {lim' : Nat} {tab' : List HP} {lv : Value} {hs : List HP} (h : UnpdZ w w' eb m.cells cs' 103 lim' tv tv' tab' lv hs) : cs' = ({ m with ulim := (lim' : Int), usz := (szT tab' : Int), utab := tv' } : EndM).cells := by
 have e : ({ m with ulim := (lim' : Int), usz := (szT tab' : Int), utab := tv' } : EndM).cells = ((m.cells.setIfInBounds 35 (.int .i64 (lim' : Int))).setIfInBounds 36 (.int .i64 (szT tab' : Int))).setIfInBounds 37 tv' := rfl
 rw [e]
 apply Array.ext_getElem?
 intro i
 by_cases h5 : i = 35
 ·subst h5
  rw [h.st.tb.c0]
  rfl
 by_cases h6 : i = 36
 ·subst h6
  rw [h.st.tb.c1]
  rfl
 by_cases h7 : i = 37
 ·subst h7
  rw [h.st.tb.c2]
  rfl
 rw [h.cs3 i (by omega), set_ne (by omega), set_ne (by omega), set_ne (by omega)]
end
section
variable {w w' : World} {eb mb : Nat} {X : GX}
theorem InvX.recast (h : InvX w eb mb X) {m' : EndM} {lim : Nat} {tab : List HP} {l1 : List UInt8} (hc : Chg (fun j => j = eb ∨ (X.g.m.utab.ownBlock = some j ∨ X.g.m.bbytes.ownBlock = some j)) w w') (hen : EnB w' eb m') (h1 : m'.known = X.g.m.known) (h2 : m'.opn = X.g.m.opn) (h3 : m'.got = X.g.m.got) (h4 : m'.out = X.g.m.out) (h5 : m'.answers = X.g.m.answers) (h6 : m'.resets = X.g.m.resets) (h7 : m'.ulim = (lim : Int)) (h8 : m'.usz = (szT tab : Int)) (h9 : m'.umost = X.g.m.umost)
  (hoT : w'.ownsRow 0 130 2 m'.utab tab.length (hpCells tab)) (hoB : w'.ownsRow 0 5 1 m'.bbytes l1.length (l1.map B)) (hfit : szT tab ≤ lim) (hsm : lim ≤ 256) (hl : l1.length ≤ 700) (hfT : ∀ j, m'.utab.ownBlock = some j → X.g.m.utab.ownBlock = some j ∨ w.heap.size ≤ j) (hfB : ∀ j, m'.bbytes.ownBlock = some j → X.g.m.bbytes.ownBlock = some j ∨ w.heap.size ≤ j) :
  NextX w w' eb mb X { X with g := { X.g with m := m' }, ul := lim, ut := tab, ub := l1 } := by
 have hQ : ∀ j, (X.g.m.utab.ownBlock = some j ∨ X.g.m.bbytes.ownBlock = some j) → ¬ Foot eb mb X.g j := fun j hj => h.nf j (by
  rcases hj with e | e
  ·exact Or.inl e
  ·exact Or.inr (Or.inl e))
 obtain ⟨hInv, hFt⟩ := h.inv.offFoot hc hQ hen h1 h2 h3 h4 h5 h6
 refine ⟨⟨hInv, h7, h8, h9.trans h.most, h.m256, hoT, hfit, hsm, hoB, hl, fun s hs => ?_, fun j hj hf => ?_, fun s hs j hj e => ?_⟩, hc.mono fun j _ e => ?_, fun j hj => ?_⟩
 ·exact owns_chg (h.hd s hs) hc (fun j hj e => by
   rcases e with e | e | e
   ·exact h.ne_eb (Or.inr (Or.inr ⟨s, hs, hj⟩)) e
   ·exact h.au s hs j hj e
   ·exact rows_ne h.bb (h.hd s hs) (by decide) e hj)
 ·rw [hFt] at hf
  have hl := Foot.lt h.inv hf
  rcases hj with e | e | ⟨s, hs, e⟩
  ·rcases hfT j e with b | b
   ·exact hQ j (Or.inl b) hf
   ·omega
  ·rcases hfB j e with b | b
   ·exact hQ j (Or.inr b) hf
   ·omega
  ·exact h.nf j (Or.inr (Or.inr ⟨s, hs, e⟩)) hf
 ·rcases hfT j e with b | b
  ·exact h.au s hs j hj b
  ·have := h.blk_lt (Or.inr (Or.inr ⟨s, hs, hj⟩)); omega
 ·rcases e with e | e | e
  ·exact Or.inl (Or.inl e)
  ·exact Or.inr (Or.inl e)
  ·exact Or.inr (Or.inr (Or.inl e))
 ·rcases hj with e | e
  ·exact Or.inl (Or.inl ((hFt j).1 e))
  ·rcases e with e | e | ⟨s, hs, e⟩
   ·rcases hfT j e with b | b
    ·exact Or.inl (Or.inr (Or.inl b))
    ·exact Or.inr b
   ·rcases hfB j e with b | b
    ·exact Or.inl (Or.inr (Or.inr (Or.inl b)))
    ·exact Or.inr b
   ·exact Or.inl (Or.inr (Or.inr (Or.inr ⟨s, hs, e⟩)))
end
def GX.opened (X : GX) (n : Int) (bl : Bool) (hs : List HP) (lim : Nat) (tab : List HP) : GX := ⟨{ X.g with m := { X.g.m with bstream := 0, bbytes := .slice none 0 0, blast := false, newest := n, ulim := (lim : Int), usz := (szT tab : Int) }, K := X.g.K ++ [⟨0, StM.fresh n bl, [], []⟩], L := insL n X.g.L }, lim, tab, X.um, [], fun k => if k = n then hs else X.hs k⟩
end
section
set_option maxRecDepth 100000 in
set_option maxHeartbeats 3200000 in
theorem comePiece_lastX (eb mb : Nat) (X : GX) (n : Int) (bl : Bool) (bv : Value) (l0 l : List UInt8) (sv : Option Addr) (cb : Nat) (hs : List HP) (lim' : Nat) (tab' : List HP) (w : World) (h : InvX w eb mb X) (hgl : Gl w) (hge : ∀ j, j < 7 → ¬ FootX eb mb X j) (hq : (Up.mk X.ul X.ut X.um).unpack (l0 ++ l) = some (hs, lim', tab')) (hn : ∀ x ∈ X.g.K, x.st.number ≠ n) (hup : Rise X.g.L) (hL : X.g.L.length ≤ 11) (hbv : w.ownsRow 0 5 1 bv l0.length (l0.map B)) (hbo : ∀ j, bv.ownBlock = some j → X.g.m.bbytes.ownBlock = some j) (hl : BytesIn w (.slice sv l.length cb) l) (hlen : l0.length + l.length ≤ 700) :
  Calls Tryz.prog 97 #[.pointer (some ⟨eb, 0, none⟩), .agg #[.int .i64 n, bv, .bool bl], .slice sv l.length cb, .bool true] w fun e w' => e = .returned (.tuple #[]) ∧ ∃ X', X'.bare = (X.opened n bl hs lim' tab').bare ∧ NextX w w' eb mb X X' := by
 obtain ⟨i0, hi, hz0, hz1, hz2⟩ := info_parts Tryz.info5
 have hlt := h.inv.en.lt
 obtain ⟨s0, c0, hs0⟩ := slice_len hbv
 subst hs0
 obtain ⟨wA, hwA⟩ : ∃ wA, wA = w.alloc (.cells #[.int .i64 n, .slice s0 l0.length c0, .bool bl] 87) := ⟨_, rfl⟩
 have hbA : Below w.heap.size w wA := by rw [hwA]; exact (Below.refl _ _).alloc (Nat.le_refl _) _
 have hbox : wA.heap[w.heap.size]? = some (.cells #[.int .i64 n, .slice s0 l0.length c0, .bool bl] 87 (0, 0)) := by rw [hwA]; exact heap_alloc_new w _
 have k0 : wA.cell? ⟨w.heap.size, 0, none⟩ = some (.int .i64 n) := by rw [cell_of_row _ _ _ _ _ _ hbox]; rfl
 have k1 : wA.cell? ⟨w.heap.size, 1, none⟩ = some (.slice s0 l0.length c0) := by rw [cell_of_row _ _ _ _ _ _ hbox]; rfl
 have k2 : wA.cell? ⟨w.heap.size, 2, none⟩ = some (.bool bl) := by rw [cell_of_row _ _ _ _ _ _ hbox]; rfl
 have HRA : Hid (wA.ownsRow 0 5 1 (.slice s0 l0.length c0) l0.length (l0.map B)) := owns_chg hbv (Chg.of_below (S := fun _ => False) hbA) (fun _ _ => id)
 have HLI : Hid (Lies wA (.slice sv l.length cb) l.length (l.map B)) := lies_of_bytesIn (hl.chg (Chg.of_below (S := fun _ => False) hbA) (fun _ _ => id))
 have HH := hide h
 have HBO := hide hbo
 have HBA := hide hbA
 have HBOX := hide hbox
 have HWA := hide hwA
 have HGL := hide hgl
 have HGE := hide hge
 have HQ := hide hq
 have HN := hide hn
 have HUP := hide hup
 clear h hbv hbo hl hbA hbox hwA hgl hge hq hn hup
 go_enter Tryz.func97, Tryz.ntmps97
 go_upto_region 1 with fail
 rw [← HWA.out]
 go_wp2_with (at_builtin; refine wpList_app _ rfl (.tmp 10) (.tmp 11) 44 rfl 5 i0 (.int .u8 0) 1 1 Tryz.underlying44 hi hz0 hz1 hz2 rfl (by decide) (.slice s0 l0.length c0) l0.length (l0.map B) rfl HRA.out (.slice sv l.length cb) l.length (l.map B) rfl (by simp) HLI.out (by intro u hu; obtain ⟨x, -, rfl⟩ := List.mem_map.1 hu; rfl) (by unfold maxLen; omega) (by omega) ?_)
 intro v1 w1 hown1 hg1 hfr1
 obtain ⟨s1, c1, rfl⟩ := slice_len hown1
 have hc1 : Chg (fun j => (Value.slice s0 l0.length c0).ownBlock = some j) wA w1 := Chg.of_grown hg1 (fun j hj => hj)
 have hnb : ∀ j, (Value.slice s0 l0.length c0).ownBlock = some j → j ≠ w.heap.size := fun j hj e => by
  have := HH.out.blk_lt (Or.inr (Or.inl (HBO.out j hj)))
  omega
 have hbox1 : w1.heap[w.heap.size]? = some (.cells #[.int .i64 n, .slice s0 l0.length c0, .bool bl] 87 (0, 0)) := by
  rw [hc1.block w.heap.size (lt_of_block HBOX.out) (fun e => hnb _ e rfl)]
  exact HBOX.out
 have f1 : w1.cell? ⟨w.heap.size, 1, none⟩ = some (.slice s0 l0.length c0) := by rw [cell_of_row _ _ _ _ _ _ hbox1]; rfl
 have ff1 : w1.frozen? ⟨w.heap.size, 1, none⟩ = false := by simp [World.frozen?, hbox1]
 obtain ⟨w2, hw2⟩ : ∃ w2, w2 = w1.setCell ⟨w.heap.size, 1, none⟩ (.slice s1 (l0.length + l.length) c1) := ⟨_, rfl⟩
 have hbox2 : w2.heap[w.heap.size]? = some (.cells #[.int .i64 n, .slice s1 (l0.length + l.length) c1, .bool bl] 87 (0, 0)) := by rw [hw2, blk_set hbox1]; rfl
 have hs12 : Chg (fun j => j = w.heap.size) w1 w2 := by rw [hw2]; exact chg_set (Chg.refl _ _) rfl
 have hcw2 : Chg (fun j => X.g.m.bbytes.ownBlock = some j) w w2 := by
  have a1 : Chg (fun j => X.g.m.bbytes.ownBlock = some j) w w1 := (Chg.of_below HBA.out).trans (hc1.mono fun j _ e => Or.inr (HBO.out j e))
  exact a1.trans (hs12.mono fun j _ e => Or.inl (by omega))
 have hown2 : w2.ownsRow 0 5 1 (.slice s1 (l0.length + l.length) c1) (l0.length + l.length) (l0.map B ++ l.map B) := owns_chg hown1 hs12 (fun j hj e => by rw [e] at hj; exact owns_ne hown1 hbox1 (by decide) hj)
 have g0 : w2.cell? ⟨w.heap.size, 0, none⟩ = some (.int .i64 n) := by rw [cell_of_row _ _ _ _ _ _ hbox2]; rfl
 have g1 : w2.cell? ⟨w.heap.size, 1, none⟩ = some (.slice s1 (l0.length + l.length) c1) := by rw [cell_of_row _ _ _ _ _ _ hbox2]; rfl
 have g2 : w2.cell? ⟨w.heap.size, 2, none⟩ = some (.bool bl) := by rw [cell_of_row _ _ _ _ _ _ hbox2]; rfl
 have hen2 : EnB w2 eb X.g.m := HH.out.inv.en.chg hcw2 (fun e => HH.out.ne_eb (Or.inr (Or.inl e)) rfl)
 have hle7 : ((700 : Int) < (l0.length : Int) + (l.length : Int)) = False := eq_false (by omega)
 have hfr : ∀ j, (Value.slice s1 (l0.length + l.length) c1).ownBlock = some j → X.g.m.bbytes.ownBlock = some j ∨ w.heap.size ≤ j := fun j hj => by
  rcases hfr1 with e | e
  ·rw [e] at hj; exact Or.inl (HBO.out j hj)
  ·rw [e] at hj
   simp at hj
   have := HBA.out.size
   omega
 have hb2d : Below w2.heap.size w2 w2.drew := Below.drew (Below.refl _ _)
 have hby2 : BytesIn w2 (.slice s1 (l0.length + l.length) c1) (l0 ++ l) := bytesIn_of_owns (by rw [List.map_append]; exact hown2) (by rw [List.length_append])
 have hgl2 : Gl w2 := HGL.out.chg hcw2 (fun j hj e => HGE.out j hj (Or.inr (Or.inr (Or.inl e))))
 have htb2 : TbSZ w2 eb X.g.m.cells 103 X.ul X.g.m.utab X.ut := HH.out.tbs.chg hcw2 (fun e => HH.out.ne_eb (Or.inr (Or.inl e)) rfl) (fun j hj e => rows_ne HH.out.bb HH.out.tab (by decide) e hj)
 have hebg : 7 ≤ eb := Nat.le_of_not_lt (fun hlt => HGE.out eb hlt (Or.inl (Or.inl rfl)))
 have HUN : Hid (Calls Tryz.prog 132 #[.pointer (some ⟨eb, 35, none⟩), .slice s1 (l0.length + l.length) c1] w2.drew fun e w' => ∃ lv cs' tv', e = .returned lv ∧ UnpdZ w2 w' eb X.g.m.cells cs' 103 lim' X.g.m.utab tv' tab' lv hs) := by
  refine (bUnpack_okZ eb X.g.m.cells 103 X.ul X.g.m.utab X.ut X.um (.slice s1 (l0.length + l.length) c1) (l0 ++ l) hs lim' tab' w2.drew (hgl2.below hb2d) (htb2.below hb2d) (by show some (Value.int .i64 X.g.m.umost) = _; rw [HH.out.most]) HH.out.m256 (hby2.chg (Chg.of_below (S := fun _ => False) hb2d) (fun _ _ => id)) (fun e => owns_ne hown2 hen2.blk (by decide) e) (fun j hj e => rows_ne hown2 htb2.row (by decide) hj e) (by rw [List.length_append]; omega) hebg (fun j hj => Nat.le_of_not_lt (fun hlt => HGE.out j hlt (Or.inr (Or.inl hj)))) (by decide) HQ.out).mono ?_
  rintro e w' ⟨lv, cs', tv', rfl, hU⟩
  exact ⟨lv, cs', tv', rfl, ⟨hU.st, hU.cs3, (Chg.of_below hb2d).trans (hU.chg.mono fun j _ e => Or.inr e), hU.tfresh, hU.row, hU.ap⟩⟩
 have HW2 := hide hw2
 have HBOX2 := hide hbox2
 have HCW2 := hide hcw2
 have HEN2 := hide hen2
 have HB2L : Hid (w.heap.size ≤ w2.heap.size) := hcw2.size
 clear hown1 hg1 hfr1 hc1 hnb hbox1 hw2 hbox2 hs12 hcw2 hown2 hen2 hfr k0 k1 k2 hby2 hgl2 htb2 hebg hb2d
 go_upto_region 2 with fail
 rw [← HW2.out]
 clear f1 ff1
 have g1d : w2.drew.cell? ⟨w.heap.size, 1, none⟩ = some (.slice s1 (l0.length + l.length) c1) := g1
 go_upto_region 6 with fail
 go_cut [8] (fun s8 wx => ∃ lv cs' tv', s8 = lv ∧ UnpdZ w2 wx eb X.g.m.cells cs' 103 lim' X.g.m.utab tv' tab' lv hs)
 case first =>
  go_region_law (first | (refine step_call rfl 132 Tryz.f132 Tryz.func132 (by kernel_rfl) rfl [.tmp 29, .tmp 31] #[92, 44] rfl [.pointer (some ⟨eb, 35, none⟩), .slice s1 (l0.length + l.length) c1] (by simp [Act.eval, Act.put]) HUN.out ?_; rintro e w3 ⟨lv, cs', tv', rfl, hU⟩; refine ⟨_, rfl, ?_⟩; have HU : Hid (∃ cs' tv', UnpdZ w2 w3 eb X.g.m.cells cs' 103 lim' X.g.m.utab tv' tab' lv hs) := ⟨cs', tv', hU⟩; clear hU))
  all_goals (go_wp2_with fail; go_meet; obtain ⟨cs', tv', hU⟩ := HU.out; exact ⟨_, cs', tv', rfl, hU⟩)
 case rest =>
  obtain ⟨lv, cs', tv', hs8, hU⟩ := hcut
  have hs8' := hs8.symm
  clear hs8
  subst hs8'
  obtain ⟨sl, cl, hlv⟩ := slice_len hU.row
  subst hlv
  obtain ⟨w3, hw3⟩ : ∃ w3, w3 = wc := ⟨wc, rfl⟩
  rw [← hw3] at hU ⊢
  clear hw3 HUN g0 g1 g2 g1d
  have hcs := unpd_cells hU
  obtain ⟨m3, hm3⟩ : ∃ m3 : EndM, m3 = { X.g.m with ulim := (lim' : Int), usz := (szT tab' : Int), utab := tv' } := ⟨_, rfl⟩
  have hen3 : EnB w3 eb m3 := ⟨by rw [hU.st.tb.blk, hcs, hm3]⟩
  have hxe : w.heap.size ≠ eb := by omega
  have hbox3 : w3.heap[w.heap.size]? = some (.cells #[.int .i64 n, .slice s1 (l0.length + l.length) c1, .bool bl] 87 (0, 0)) := by
   rw [hU.chg.block w.heap.size (lt_of_block HBOX2.out) (fun e => by
    rcases e with e | e
    ·exact hxe e
    ·have := HH.out.blk_lt (Or.inl e); omega)]
   exact HBOX2.out
  have j0 : w3.cell? ⟨w.heap.size, 0, none⟩ = some (.int .i64 n) := by rw [cell_of_row _ _ _ _ _ _ hbox3]; rfl
  have j2 : w3.cell? ⟨w.heap.size, 2, none⟩ = some (.bool bl) := by rw [cell_of_row _ _ _ _ _ _ hbox3]; rfl
  have e31 := hen3.c31
  have e32 := hen3.c32
  have e33 := hen3.c33
  have e34 := hen3.c34
  have f31 := hen3.fr 31
  have f32 := hen3.fr 32
  have f33 := hen3.fr 33
  have f34 := hen3.fr 34
  obtain ⟨w4, hw4⟩ : ∃ w4, w4 = (((w3.setCell ⟨eb, 31, none⟩ (.int .i64 0)).setCell ⟨eb, 32, none⟩ (.slice none 0 0)).setCell ⟨eb, 33, none⟩ (.bool false)).setCell ⟨eb, 34, none⟩ (.int .i64 n) := ⟨_, rfl⟩
  have hC4 : Chg (fun j => j = eb) w3 w4 := by rw [hw4]; exact chg_set (chg_set (chg_set (chg_set (Chg.refl _ _) rfl) rfl) rfl) rfl
  obtain ⟨m4, hm4⟩ : ∃ m4 : EndM, m4 = { m3 with bstream := 0, bbytes := .slice none 0 0, blast := false, newest := n } := ⟨_, rfl⟩
  have hE4 : EnB w4 eb m4 := by rw [hw4, hm4]; exact EnB.of (blk_set (blk_set (blk_set (blk_set hen3.blk)))) rfl
  have hcw4 : Chg (fun j => j = eb ∨ (X.g.m.utab.ownBlock = some j ∨ X.g.m.bbytes.ownBlock = some j)) w w4 := by
   have a1 : Chg (fun j => j = eb ∨ (X.g.m.utab.ownBlock = some j ∨ X.g.m.bbytes.ownBlock = some j)) w w2 := HCW2.out.mono fun j _ e => Or.inr (Or.inr e)
   have a2 := a1.trans (hU.chg.mono fun j _ e => Or.inr (by
    rcases e with e | e
    ·exact Or.inl e
    ·exact Or.inr (Or.inl e)))
   exact a2.trans (hC4.mono fun j _ e => Or.inr (Or.inl e))
  have hrow4 : w4.ownsRow 0 130 2 tv' tab'.length (hpCells tab') := owns_chg hU.st.row hC4 (fun j hj e => by rw [e] at hj; exact owns_ne hU.st.row hen3.blk (by decide) hj)
  have hlv4 : w4.ownsRow w2.heap.size 130 2 (.slice sl hs.length cl) hs.length (hpCells hs) := owns_chg hU.row hC4 (fun j hj e => by rw [e] at hj; exact owns_ne hU.row hen3.blk (by decide) hj)
  have hN4 : NextX w w4 eb mb X { X with g := { X.g with m := m4 }, ul := lim', ut := tab', ub := [] } := by
   refine HH.out.recast (m' := m4) (l1 := []) hcw4 hE4 (by rw [hm4, hm3]) (by rw [hm4, hm3]) (by rw [hm4, hm3]) (by rw [hm4, hm3]) (by rw [hm4, hm3]) (by rw [hm4, hm3]) (by rw [hm4, hm3]) (by rw [hm4, hm3]) (by rw [hm4, hm3]) ?_ ?_ hU.st.fit hU.st.small (by simp) ?_ ?_
   ·rw [hm4, hm3]; exact hrow4
   ·rw [hm4]; exact World.ownsRow_nil _ _ _ _
   ·intro j hj
    rw [hm4, hm3] at hj
    rcases hU.tfresh j hj with b | b
    ·exact Or.inl b
    ·exact Or.inr (Nat.le_trans HB2L.out b)
   ·intro j hj
    rw [hm4] at hj
    simp [Value.ownBlock] at hj
  have hbox4 : w4.heap[w.heap.size]? = some (.cells #[.int .i64 n, .slice s1 (l0.length + l.length) c1, .bool bl] 87 (0, 0)) := by rw [hC4.block _ (lt_of_block hbox3) hxe]; exact hbox3
  have y0 : w4.cell? ⟨w.heap.size, 0, none⟩ = some (.int .i64 n) := by rw [cell_of_row _ _ _ _ _ _ hbox4]; rfl
  have y2 : w4.cell? ⟨w.heap.size, 2, none⟩ = some (.bool bl) := by rw [cell_of_row _ _ _ _ _ _ hbox4]; rfl
  obtain ⟨st, hst⟩ : ∃ st : StM, st = { StM.fresh n bl with heads := (.slice sl hs.length cl) } := ⟨_, rfl⟩
  have HADD : Hid (∀ wx, Below w4.heap.size w4 wx → wx.heap[w4.heap.size]? = some (.cells st.cells 127 (0, 0)) → Calls Tryz.prog 62 #[.pointer (some ⟨eb, 22, none⟩), .pointer (some ⟨w4.heap.size, 0, none⟩)] wx fun e w' => e = .returned (.tuple #[]) ∧ ∃ X', X'.bare = (X.opened n bl hs lim' tab').bare ∧ NextX w w' eb mb X X') := fun wx hbx hnew => by
   have hNx := hN4.then_below hbx
   have hIx := hNx.inv.inv
   have hsx : StB wx w4.heap.size st := ⟨hnew⟩
   refine (sadd_any eb mb w4.heap.size _ (X.g.K.map GSt.str) (openS X.g.K X.g.L) st wx hIx.en hIx.km hIx.kn hIx.open hsx ?_ ?_ (by rw [openS_length]; exact hL)).mono ?_
   ·rw [findK_str, hst]
    rw [List.find?_eq_none.2 fun x hx => by simpa [StM.fresh] using HN.out x hx]
    rfl
   ·have hmap : (openS X.g.K X.g.L).map (fun p => p.2.number) = X.g.L := by
     unfold openS
     rw [List.map_map]
     conv => rhs; rw [← List.map_id X.g.L]
     apply List.map_congr_left
     intro k hk
     exact (HH.out.inv.at hk).2
    rw [hmap]
    exact HUP.out
   ·rintro e w' ⟨rfl, v, hA⟩
    have hAd := Inv.added (n := n) (Next.of_below hN4.inv.inv hbx) (Nat.le_refl _) hsx (by rw [hst]; rfl) (by rw [hst]; rfl) (by rw [hst]; rfl) (fun hf => by
     have := Foot.lt hN4.inv.inv hf
     omega) HN.out hA
    have hlf : ∀ j, (Value.slice sl hs.length cl).ownBlock = some j → w.heap.size ≤ j ∧ ¬ Foot eb mb { X.g with m := m4 } j ∧ m4.utab.ownBlock ≠ some j := fun j hj => by
     have h1 := (hlv4.lt j hj).1
     have h2 := HB2L.out
     refine ⟨by omega, fun hf => ?_, ?_⟩
     ·have hf' : Foot eb mb X.g j := by rw [hm4, hm3] at hf; exact hf
      have := Foot.lt HH.out.inv hf'
      omega
     ·rw [hm4, hm3]; exact hU.ap j hj
    refine ⟨rfl, _, ?_, hN4.newS (n := n) (lv := .slice sl hs.length cl) (hs' := hs) hAd rfl rfl rfl rfl rfl rfl (by rw [hst]; rfl) (by rw [hst]) HN.out (owns_base hlv4 (fun _ _ => Nat.zero_le _)) hlf⟩
    unfold GX.bare GX.opened GEnd.crude
    rw [hm4, hm3, hst]
    simp only [GX.mk.injEq, and_true]
    unfold GEnd.bare
    simp only [GEnd.mk.injEq, and_true]
    first
     | (refine ⟨rfl, ?_⟩; rw [List.map_append, List.map_append, List.map_append, List.map_append]; rfl)
     | (refine ⟨?_, ?_⟩; rfl; rw [List.map_append, List.map_append]; rfl)
     | (constructor; rfl; simp [GSt.bare, StM.bare, StM.fresh])
  have HW4 := hide hw4
  have HST : Hid (st.cells = #[.int .i64 0, .int .i64 0, .int .i64 0, .int .i64 n, (.slice sl hs.length cl), .bool false, .bool false, .bool true, .bool false, .bool bl, .int .i64 0, .slice none 0 0, .slice none 0 0]) := by
   show st.cells = _
   rw [hst]
   rfl
  clear hU hcs hen3 hbox3 hC4 hE4 hcw4 hrow4 hlv4 hN4 hbox4 hw4 hm3 hm4 hst
  go_upto_region 9 with fail
  rw [← HW4.out]
  clear e31 e32 e33 e34 f31 f32 f33 f34 j0 j2
  go_region_law (first
   | (refine step_call rfl 62 Tryz.f62 Tryz.func62 (by kernel_rfl) rfl [.tmp 46, .tmp 53] #[81, 124] rfl [.pointer (some ⟨eb, 22, none⟩), .pointer (some ⟨w4.heap.size, 0, none⟩)] (by simp [Act.eval, Act.put]) (HADD.out _ ⟨rfl, rfl, rfl, by simp, fun k hk => Below.heap_alloc _ _ _ hk⟩ (by rw [HST.out]; exact heap_alloc_new w4 _)) ?_; rintro e w5 ⟨rfl, hx5⟩; refine ⟨_, rfl, ?_⟩; have HX5 := hide hx5; clear hx5))
  all_goals (go_wp2; exact bodyPost_end (results_none rfl _ _ _) rfl ⟨rfl, HX5.out⟩)
end
section
def faultE (c : Int) : Ending := .panicked [{ v := .iface 41 (.int .i64 c), recovered := false }]
def EndM.turn (m : EndM) (ot : Bool) (go : Int) : Bool := (m.begun || ot) && decide (go = m.bstream)
set_option maxRecDepth 100000 in
set_option maxHeartbeats 1600000 in
theorem checkTurnX (eb : Nat) (m : EndM) (t : TypeId) (x : Value) (ot : Bool) (go : Int) (w : World) (h : EnB w eb m)
  (ho : ∀ w, Calls Tryz.prog 126 #[.iface t x] w fun e w' => e = .returned (.bool ot) ∧ Below w.heap.size w w') (hg : ∀ w, Calls Tryz.prog 127 #[.iface t x] w fun e w' => e = .returned (.int .i64 go) ∧ Below w.heap.size w w') :
  Calls Tryz.prog 94 #[.pointer (some ⟨eb, 0, none⟩), .iface t x] w fun e w' => e = (if m.turn ot go then .returned (.tuple #[]) else faultE 11) ∧ Below w.heap.size w w' := by
 obtain ⟨E, hE⟩ : ∃ E, E = (if m.turn ot go then Ending.returned (.tuple #[]) else faultE 11) := ⟨_, rfl⟩
 rw [← hE]
 have HE := hide hE
 clear hE
 have c30 := h.c30
 have HO := hide ho
 have HG := hide hg
 have HR : Hid (∀ w1, Below w.heap.size w w1 → w1.cell? ⟨eb, 31, none⟩ = some (.int .i64 m.bstream)) := fun w1 hb1 => (h.below hb1).c31
 clear h ho hg
 have hne : (go = m.bstream ∧ decide (go = m.bstream) = true ∧ (go != m.bstream) = false) ∨ (go ≠ m.bstream ∧ decide (go = m.bstream) = false ∧ (go != m.bstream) = true) := by
  by_cases e : go = m.bstream
  ·exact Or.inl ⟨e, by simp [e], by simp [e]⟩
  ·exact Or.inr ⟨e, by simp [e], by simp [e]⟩
 have HT : Hid (m.turn ot go = ((m.begun || ot) && decide (go = m.bstream))) := (rfl : m.turn ot go = _)
 cases hbg : m.begun with
 | true =>
  rw [hbg] at c30 HT
  go_enter Tryz.func94, Tryz.ntmps94
  go_upto_region 2 with fail
  have k31 := HR.out w (Below.refl _ _)
  generalize m.bstream = bs at *
  go_cut [24] (fun s24 wx => s24 = .bool (go != bs) ∧ Below w.heap.size w wx)
  case first =>
   go_region_held3 (fun w' => w'.cell? ⟨eb, 31, none⟩ = some (.int .i64 bs)) (go_keep)
    (first | (go_at_call 127; refine (HG.out w.drew).mono ?_; rintro e w1 ⟨rfl, hb1⟩; have hB1 : Below w.heap.size w w1 := ⟨hb1.os, hb1.tape, hb1.output, hb1.size, hb1.block⟩; have t31 := HR.out w1 hB1))
   all_goals (go_wp2_with fail; go_meet; exact ⟨rfl, hB1⟩)
  case rest =>
   obtain ⟨hs, hbx⟩ := hcut
   subst hs
   have HX := hide hbx
   clear hbx
   rcases hne with ⟨e1, e2, e3⟩ | ⟨e1, e2, e3⟩
   ·rw [e3]
    go_wp2
    refine bodyPost_end (results_none rfl _ _ _) rfl ⟨?_, HX.out⟩
    rw [HE.out, HT.out, e2]; rfl
   ·rw [e3]
    go_wp2
    refine ⟨rfl, ?_, HX.out⟩
    rw [HE.out, HT.out, e2]; rfl
 | false =>
  rw [hbg] at c30 HT
  go_enter Tryz.func94, Tryz.ntmps94
  go_wp2_with fail
  refine (HO.out _).mono ?_
  rintro e w0 ⟨rfl, hb0⟩
  have HB0 := hide hb0
  have k31 := HR.out w0 hb0
  clear hb0
  cases ot with
  | false =>
   go_wp2
   refine ⟨rfl, ?_, HB0.out⟩
   rw [HE.out, HT.out]; rfl
  | true =>
   go_upto_region 2 with fail
   generalize m.bstream = bs at *
   go_cut [24] (fun s24 wx => s24 = .bool (go != bs) ∧ Below w.heap.size w wx)
   case first =>
    go_region_held3 (fun w' => w'.cell? ⟨eb, 31, none⟩ = some (.int .i64 bs)) (go_keep)
     (first | (go_at_call 127; refine (HG.out w0.drew).mono ?_; rintro e w1 ⟨rfl, hb1⟩; have hB1 : Below w.heap.size w w1 := HB0.out.trans ((show Below w0.heap.size w0 w1 from ⟨hb1.os, hb1.tape, hb1.output, hb1.size, hb1.block⟩).mono HB0.out.size); have t31 := HR.out w1 hB1))
    all_goals (go_wp2_with fail; go_meet; exact ⟨rfl, hB1⟩)
   case rest =>
    obtain ⟨hs, hbx⟩ := hcut
    subst hs
    have HX := hide hbx
    clear hbx
    rcases hne with ⟨e1, e2, e3⟩ | ⟨e1, e2, e3⟩
    ·rw [e3]
     go_wp2
     refine bodyPost_end (results_none rfl _ _ _) rfl ⟨?_, HX.out⟩
     rw [HE.out, HT.out, e2]; rfl
    ·rw [e3]
     go_wp2
     refine ⟨rfl, ?_, HX.out⟩
     rw [HE.out, HT.out, e2]; rfl
end
section
def StM.kept (s : StM) (n k : Nat) (v : Value) (b : Bool) : StM := { s with receive := s.receive - n, owed := s.owed + k, unread := v, hasAll := b }
structure KeptS (w w' : World) (eb sb : Nat) (m : EndM) (s : StM) (u c : List UInt8) (n k : Nat) (b : Bool) (v : Value) : Prop where
 en : EnB w' eb (m.owes k)
 st : StB w' sb (s.kept n k v b)
 row : w'.ownsRow 0 5 1 v (u ++ c).length ((u ++ c).map B)
 chg : Chg (fun j => j = eb ∨ j = sb ∨ s.unread.ownBlock = some j) w w'
 fresh : ∀ j, v.ownBlock = some j → s.unread.ownBlock = some j ∨ w.heap.size ≤ j
set_option maxRecDepth 100000 in
set_option maxHeartbeats 3200000 in
theorem keep_any (eb sb : Nat) (m : EndM) (st : StM) (u c : List UInt8) (kf ff sf : Int) (sv : Option Addr) (n k cb : Nat) (sc : Option Addr) (cc : Nat) (w : World) (h : EnB w eb m) (hs : StB w sb st) (hu : w.ownsRow 0 5 1 st.unread u.length (u.map B)) (hc : BytesIn w (.slice sc c.length cc) c) (hcn : ∀ j, (Value.slice sc c.length cc).ownBlock = some j → j ≠ eb ∧ j ≠ sb) (hn : n = c.length + k) (hff : 0 ≤ ff ∧ ff ≤ 255) (hcl : ({ st with hasAll := hasB ff 1 } : StM).closed = false) (hul : u.length ≤ 1073741824) (hcu : c.length ≤ 1073741824) (hk : k ≤ 1073741824)
  (b1 : -1152921504606846976 ≤ m.owed ∧ m.owed ≤ 1152921504606846976) (b2 : -1152921504606846976 ≤ st.owed ∧ st.owed ≤ 1152921504606846976) (b3 : -1152921504606846976 ≤ st.receive ∧ st.receive ≤ 1152921504606846976) :
  Calls Tryz.prog 130 #[.pointer (some ⟨eb, 0, none⟩), .pointer (some ⟨sb, 0, none⟩), .agg #[.int .i64 kf, .int .i64 ff, .int .i64 sf, .slice sv n cb, .slice sc c.length cc]] w fun e w' => e = .returned (.tuple #[]) ∧ ∃ v, KeptS w w' eb sb m st u c n k (hasB ff 1) v := by
 obtain ⟨i0, hi, hz0, hz1, hz2⟩ := info_parts Tryz.info5
 obtain ⟨su, cu, hsu⟩ := slice_len hu
 have hlt := h.lt
 have hslt := hs.lt
 have hne : sb ≠ eb := block_ne hs.blk h.blk (by decide)
 have c6 := h.c6
 have s1 := hs.c1
 have s2 := hs.c2
 have s11 := hs.c11
 rw [hsu] at s11
 have f6 := h.fr 6
 have g1 := hs.fr 1
 have g2 := hs.fr 2
 obtain ⟨b1a, b1b⟩ := b1
 obtain ⟨b2a, b2b⟩ := b2
 obtain ⟨b3a, b3b⟩ := b3
 have hw1 : IntKind.i64.wrap (st.receive - (n : Int)) = st.receive - n := by rw [IntKind.wrap_i64]; omega
 have hw2 : IntKind.i64.wrap (st.owed + (k : Int)) = st.owed + k := by rw [IntKind.wrap_i64]; omega
 have hw3 : IntKind.i64.wrap (m.owed + (k : Int)) = m.owed + k := by rw [IntKind.wrap_i64]; omega
 have hwn : IntKind.i64.wrap ((n : Int) - (c.length : Int)) = (k : Int) := by rw [IntKind.wrap_i64]; omega
 have hnI : (n : Int) ≤ 4294967296 := by omega
 have H := hide h
 have HS := hide hs
 have HU := hide hu
 have HC := hide hc
 have HSU := hide hsu
 have HCN := hide hcn
 have HCL := hide hcl
 clear h hs hu hc hn hcn hcl hsu
 go_enter Tryz.func130, Tryz.ntmps130
 go_upto_region 2 with fail
 go_cut [] (fun wx => StB wx sb { st with receive := st.receive - n } ∧ Chg (fun j => j = sb) w wx ∧ wx.heap[w.heap.size]? = some (.cells #[.int .i64 kf, .int .i64 ff, .int .i64 sf, .slice sv n cb, .slice sc c.length cc] 162 (0, 0)))
 case first =>
  go_region_law (fail)
  all_goals (go_wp2_with fail; go_meet)
  all_goals
   have q : StB (w.setCell ⟨sb, 1, none⟩ (.int .i64 (st.receive - n))) sb { st with receive := st.receive - n } := StB.of (blk_set HS.out.blk) rfl
   have hsz : (w.setCell ⟨sb, 1, none⟩ (.int .i64 (st.receive - n))).heap.size = w.heap.size := by simp [World.setCell]
   have hnew := heap_alloc_new (w.setCell ⟨sb, 1, none⟩ (.int .i64 (st.receive - n))) (.cells #[.int .i64 kf, .int .i64 ff, .int .i64 sf, .slice sv n cb, .slice sc c.length cc] 162)
   rw [hsz] at hnew
   exact ⟨⟨(q.below ((Below.refl _ _).alloc (Nat.le_refl _) _)).blk⟩, ((chg_set (S := fun j => j = sb) (Chg.refl _ _) rfl).alloc _).drew, hnew⟩
 case rest =>
  obtain ⟨hs4, hc4, hb4⟩ := hcut
  obtain ⟨w4, hw4⟩ : ∃ w4, w4 = wc := ⟨wc, rfl⟩
  subst hw4
  have he4 : EnB w4 eb m := H.out.chg hc4 (fun e => hne e.symm)
  have hu4 : w4.ownsRow 0 5 1 st.unread u.length (u.map B) := owns_chg HU.out hc4 (fun j hj e => by rw [e] at hj; exact owns_ne HU.out HS.out.blk (by decide) hj)
  have d2 : w4.cell? ⟨sb, 2, none⟩ = some (.int .i64 st.owed) := hs4.c2
  have d6 : w4.cell? ⟨eb, 6, none⟩ = some (.int .i64 m.owed) := he4.c6
  have e2 := hs4.fr 2
  have e6 := he4.fr 6
  have hlt4 : eb < w4.heap.size := he4.lt
  have hslt4 : sb < w4.heap.size := hs4.lt
  have HS4 := hide hs4
  have HC4 := hide hc4
  have HB4 := hide hb4
  have HE4 := hide he4
  have HU4 := hide hu4
  clear hs4 hc4 hb4 he4 hu4
  go_upto_region 5 with fail
  obtain ⟨w5, hw5⟩ : ∃ w5, w5 = (w4.setCell ⟨sb, 2, none⟩ (.int .i64 (st.owed + k))).setCell ⟨eb, 6, none⟩ (.int .i64 (m.owed + k)) := ⟨_, rfl⟩
  rw [← hw5]
  have hc45 : Chg (fun j => j = eb ∨ j = sb) w4 w5 := by rw [hw5]; exact chg_set (chg_set (Chg.refl _ _) (Or.inr rfl)) (Or.inl rfl)
  have hs5 : StB w5 sb { st with receive := st.receive - n, owed := st.owed + k } := by
   rw [hw5]
   exact (StB.of (blk_set HS4.out.blk) rfl : StB (w4.setCell ⟨sb, 2, none⟩ (.int .i64 (st.owed + k))) sb { st with receive := st.receive - n, owed := st.owed + k }).chg (chg_set (S := fun j => j = eb) (Chg.refl _ _) rfl) hne
  have he5 : EnB w5 eb (m.owes k) := by
   rw [hw5]
   exact EnB.of (blk_set (HE4.out.chg (chg_set (S := fun j => j = sb) (Chg.refl _ _) rfl) (fun e => hne e.symm)).blk) rfl
  have hc5 : Chg (fun j => j = eb ∨ j = sb) w w5 := (HC4.out.mono fun j _ e => Or.inr e).trans (hc45.mono fun j _ e => Or.inr e)
  have hu5 : w5.ownsRow 0 5 1 st.unread u.length (u.map B) := owns_chg HU.out hc5 (fun j hj e => by
   rcases e with e | e
   ·rw [e] at hj; exact owns_ne HU.out H.out.blk (by decide) hj
   ·rw [e] at hj; exact owns_ne HU.out HS.out.blk (by decide) hj)
  have hby5 : BytesIn w5 (.slice sc c.length cc) c := HC.out.chg hc5 (fun j hj e => by
   rcases e with e | e
   ·exact (HCN.out j hj).1 e
   ·exact (HCN.out j hj).2 e)
  have hb5 : w5.heap[w.heap.size]? = some (.cells #[.int .i64 kf, .int .i64 ff, .int .i64 sf, .slice sv n cb, .slice sc c.length cc] 162 (0, 0)) := by
   rw [hc45.block w.heap.size (lt_of_block HB4.out) (by omega)]
   exact HB4.out
  have k11 : w5.cell? ⟨sb, 11, none⟩ = some (.slice su u.length cu) := by rw [hs5.c11, ← HSU.out]
  have k4 : w5.cell? ⟨w.heap.size, 4, none⟩ = some (.slice sc c.length cc) := by rw [cell_of_row _ _ _ _ _ _ hb5]; rfl
  have hlt5 : eb < w5.heap.size := he5.lt
  have hslt5 : sb < w5.heap.size := hs5.lt
  have HS5 := hide hs5
  have HE5 := hide he5
  have HC5 := hide hc5
  have HU5 := hide hu5
  have HY5 := hide hby5
  have HB5 := hide hb5
  have HUD : Hid (w5.drew.ownsRow 0 5 1 st.unread u.length (u.map B)) := hu5
  have HSD : Hid (w5.drew.heap[sb]? = some (.cells ({ st with receive := st.receive - n, owed := st.owed + k } : StM).cells 127 (0, 0))) := hs5.blk
  clear hs5 he5 hc5 hu5 hby5 hb5 hc45 hw5 d2 d6 e2 e6
  go_cut [] (fun wx => ∃ v, StB wx sb { st with receive := st.receive - n, owed := st.owed + k, unread := v } ∧ EnB wx eb (m.owes k) ∧ wx.ownsRow 0 5 1 v (u ++ c).length ((u ++ c).map B) ∧ Chg (fun j => j = sb ∨ st.unread.ownBlock = some j) w5 wx ∧ (∀ j, v.ownBlock = some j → st.unread.ownBlock = some j ∨ w.heap.size ≤ j) ∧ wx.heap[w.heap.size]? = some (.cells #[.int .i64 kf, .int .i64 ff, .int .i64 sf, .slice sv n cb, .slice sc c.length cc] 162 (0, 0)))
  case first =>
   go_region_law (first
    | (refine step_appd rfl (.tmp 54) (.tmp 56) 44 rfl 5 i0 (.int .u8 0) 1 1 Tryz.underlying44 hi hz0 hz1 hz2 rfl (by decide) (.slice su u.length cu) u.length (u.map B) (by simp [Act.eval, Act.put]) (by rw [← HSU.out]; exact HU5.out) _ c.length (c.map B) (by simp [Act.eval, Act.put]) (by simp) (lies_of_bytesIn HY5.out) (by intro x hx; obtain ⟨y, -, rfl⟩ := List.mem_map.1 hx; rfl) (by unfold maxLen; omega) (by omega) ?_; intro v3 w3 ho3 hg3 hfr3; obtain ⟨s3, q3, hv3⟩ := slice_len ho3; subst hv3; have hb3 := kept_block HUD.out (by rw [HSU.out]; exact hg3) HSD.out (by decide); have k11c : w3.cell? ⟨sb, 11, none⟩ = some (.slice su u.length cu) := (by rw [cell_of_row w3 sb _ _ _ _ hb3, ← HSU.out]; rfl); have f11c : w3.frozen? ⟨sb, 11, none⟩ = false := (by simp [World.frozen?, hb3]); have HO3 := hide ho3; have HG3 := hide hg3; have HF3 := hide hfr3; have HBB3 := hide hb3; clear ho3 hg3 hfr3 hb3))
   all_goals (go_wp2_with fail; go_meet)
   all_goals
    have hg5 : Chg (fun j => st.unread.ownBlock = some j) w5 w3 := by
     have q : Chg (fun j => st.unread.ownBlock = some j) w5.drew w3 := Chg.of_grown HG3.out (fun j hj => by rw [HSU.out]; exact hj)
     exact ⟨q.os, q.tape, q.output, q.size, q.block⟩
    have hen3 : EnB w3 eb (m.owes k) := HE5.out.chg hg5 (fun e => owns_ne HU5.out HE5.out.blk (by decide) e)
    have hst3 : StB w3 sb { st with receive := st.receive - n, owed := st.owed + k } := ⟨HBB3.out⟩
    have hset : Chg (fun j => j = sb) w3 (w3.setCell ⟨sb, 11, none⟩ (.slice s3 (u.length + c.length) q3)) := chg_set (Chg.refl _ _) rfl
    refine ⟨.slice s3 (u.length + c.length) q3, StB.of (blk_set hst3.blk) rfl, hen3.chg hset (fun e => hne e.symm), ?_, (hg5.mono fun j _ e => Or.inr e).trans (hset.mono fun j _ e => Or.inr (Or.inl e)), ?_, ?_⟩
    ·rw [List.length_append, List.map_append]
     exact owns_chg HO3.out hset (fun j hj e => by rw [e] at hj; exact owns_ne HO3.out HBB3.out (by decide) hj)
    ·intro j hj
     have hz := HC5.out.size
     rcases HF3.out with e | e
     ·rw [e] at hj; exact Or.inl (by rw [HSU.out]; exact hj)
     ·rw [e] at hj; simp at hj; exact Or.inr (by omega)
    ·rw [hset.block w.heap.size (by have := hg5.size; have := lt_of_block HB5.out; omega) (by omega), hg5.block w.heap.size (lt_of_block HB5.out) (fun e => owns_ne HU5.out HB5.out (by decide) e)]
     exact HB5.out
  case rest =>
   obtain ⟨v, hs6, he6, hr6, hc6, hf6, hb6⟩ := hcut
   obtain ⟨w6, hw6⟩ : ∃ w6, w6 = wc := ⟨wc, rfl⟩
   subst hw6
   have k0 : w6.cell? ⟨w.heap.size, 0, none⟩ = some (.int .i64 kf) := by rw [cell_of_row _ _ _ _ _ _ hb6]; rfl
   have k1 : w6.cell? ⟨w.heap.size, 1, none⟩ = some (.int .i64 ff) := by rw [cell_of_row _ _ _ _ _ _ hb6]; rfl
   have k2 : w6.cell? ⟨w.heap.size, 2, none⟩ = some (.int .i64 sf) := by rw [cell_of_row _ _ _ _ _ _ hb6]; rfl
   have k3 : w6.cell? ⟨w.heap.size, 3, none⟩ = some (.slice sv n cb) := by rw [cell_of_row _ _ _ _ _ _ hb6]; rfl
   have HH := hide (has_any kf ff sf 1 (.slice sv n cb) w6 hff.1 (by omega) (Or.inl rfl))
   have HS6 := hide hs6
   have HE6 := hide he6
   have HR6 := hide hr6
   have HC6 := hide hc6
   have HF6 := hide hf6
   clear hs6 he6 hr6 hc6 hf6 hb6
   go_wp2_with fail
   refine HH.out.mono ?_
   rintro e w7 ⟨rfl, hb7⟩
   have hs7 := HS6.out.below hb7
   have k9 := hs7.c9
   have f9 := hs7.fr 9
   have hset : Chg (fun j => j = sb) w7 (w7.setCell ⟨sb, 9, none⟩ (.bool (hasB ff 1))) := chg_set (Chg.refl _ _) rfl
   have hs8 : StB (w7.setCell ⟨sb, 9, none⟩ (.bool (hasB ff 1))) sb (st.kept n k v (hasB ff 1)) := StB.of (blk_set hs7.blk) rfl
   have HSE := hide (settle_no eb sb (st.kept n k v (hasB ff 1)) _ hs8 (by have := HCL.out; exact this))
   have he8 := (HE6.out.below hb7).chg hset (fun e => hne e.symm)
   have hr8 := owns_chg (owns_chg HR6.out (Chg.of_below (S := fun _ => False) hb7) (fun _ _ => id)) hset (fun j hj e => by rw [e] at hj; exact owns_ne HR6.out HS6.out.blk (by decide) hj)
   have hc8 : Chg (fun j => j = eb ∨ j = sb ∨ st.unread.ownBlock = some j) w (w7.setCell ⟨sb, 9, none⟩ (.bool (hasB ff 1))) := (((HC5.out.mono fun j _ e => by
     rcases e with e | e
     ·exact Or.inl e
     ·exact Or.inr (Or.inl e)).trans (HC6.out.mono fun j _ e => Or.inr (Or.inr e))).then_below hb7).trans (hset.mono fun j _ e => Or.inr (Or.inr (Or.inl e)))
   have HS8 := hide hs8
   have HE8 := hide he8
   have HR8 := hide hr8
   have HC8 := hide hc8
   clear hs7 hset hs8 he8 hr8 hc8 hb7
   generalize hhb : hasB ff 1 = hb at *
   have HHB := hide hhb
   clear hhb
   go_wp2_with fail
   refine HSE.out.mono ?_
   rintro e w9 ⟨rfl, hb9⟩
   have HB9 := hide hb9
   clear hb9
   go_wp2
   have hhb := HHB.out
   subst hhb
   exact bodyPost_end (results_none rfl _ _ _) rfl ⟨rfl, v, ⟨HE8.out.below HB9.out, HS8.out.below HB9.out, owns_chg HR8.out (Chg.of_below (S := fun _ => False) HB9.out) (fun _ _ => id), HC8.out.then_below HB9.out, HF6.out⟩⟩
end
end Go.Proofs.YtdccldbefdfppaaGreatDoor
