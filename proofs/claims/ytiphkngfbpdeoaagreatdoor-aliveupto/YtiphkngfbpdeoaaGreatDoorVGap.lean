import Derived.Test.YtiphkngfbpdeoaaGreatDoorVGae
import Derived.Test.YtiphkngfbpdeoaaGreatDoorVGao
import Derived.Test.YtiphkngfbpdeoaaGreatDoorVGak
set_option linter.unusedVariables false
set_option linter.unusedSimpArgs false
namespace Go.Proofs.YtiphkngfbpdeoaaGreatDoor
set_option linter.unusedVariables false
set_option linter.unusedSimpArgs false
open Go.RowKit
def BadT (most f lim : Nat) (tab : List HP) (l : List UInt8) : Prop := ∀ lim1 tab1 r, rdLims most f lim tab l = some (lim1, tab1, r) → rdPairs 9 [] tab1 lim1 r = none
set_option maxRecDepth 100000 in
set_option maxHeartbeats 1600000 in
theorem bUnpack_bad (ub : Nat) (cs : Array Value) (tP : TypeId) (lim : Nat) (tv : Value) (tab : List HP) (most : Nat) (bv : Value) (b : List UInt8) (w : World) (hgl : Gl w) (ht : TbS w ub cs tP lim tv tab) (hm : cs[3]? = some (.int .i64 (most : Int))) (hmo : most ≤ 256) (hb : BytesIn w bv b) (hbu : bv.ownBlock ≠ some ub) (hbt : ∀ j, bv.ownBlock = some j → tv.ownBlock ≠ some j) (hl : b.length ≤ 134217728) (hub : 7 ≤ ub) (htv : ∀ j, tv.ownBlock = some j → 7 ≤ j)
    (hts : tP ≠ 218) (hq : (Up.mk lim tab most).unpack b = none) :
    Calls Tryz.prog 123 #[.pointer (some ⟨ub, 0, none⟩), bv] w fun e w' => Gone e ∧ Chg (TouchT ub tv) w w' ∧ ∃ lim' tab' cs' tv', TbS w' ub cs' tP lim' tv' tab' ∧ ∀ i, 3 ≤ i → cs'[i]? = cs[i]? := by
  have hlims : BadT most 2 lim tab b := by
    intro lim1 tab1 r h1
    unfold Up.unpack at hq
    simp only at hq
    rw [h1] at hq
    simp only at hq
    cases h2 : rdPairs 9 [] tab1 lim1 r with
    | none => rfl
    | some y => rw [h2] at hq; cases hq
  obtain ⟨i0, hi, hz0, hz1, hz2⟩ := info_parts Tryz.info147
  have hbA : Below w.heap.size w (w.alloc (.cells #[bv] 218)) := (Below.refl _ _).alloc (Nat.le_refl _) _
  have htl := ht.tb.lt
  have hsA : SrS (w.alloc (.cells #[bv] 218)) w.heap.size bv b := ⟨heap_alloc_new w _, hb.chg ((Chg.refl (fun _ => False) w).alloc _) (fun _ _ => id), fun e => by have := hb.lt e; omega⟩
  have haA : Apart ub w.heap.size tv bv := ⟨by omega, fun e => by have := owns_lt ht.row e; omega, hbu, hbt⟩
  have huA : UnTo (w.alloc (.cells #[bv] 218)) (w.alloc (.cells #[bv] 218)) ub cs cs tP lim tv tv tab w.heap.size bv bv b := ⟨ht.below hbA, fun _ _ => rfl, hsA, Chg.refl _ _, fun _ e => Or.inl e, fun _ e => e⟩
  have hgA := hgl.below hbA
  have hgs : 7 ≤ w.heap.size := hgl.lt
  obtain ⟨sv, cv, hv, _⟩ := bytesIn_len hb
  subst hv
  have HB := hide hb
  have HT := hide ht
  have HM := hide hm
  have HGA := hide hgA
  have HSA := hide hsA
  have HAA := hide haA
  have HUA := hide huA
  have HBA := hide hbA
  have HTV := hide htv
  have HLIMS := hide hlims
  clear hgl ht hm hb hbu hbt hsA haA huA hgA hbA htv hlims hq
  go_enter Tryz.func123, Tryz.ntmps123
  go_wp2
  go_loopw [6] (fun i wr => ∃ (j lim2 : Nat) (tab2 : List HP) (l2 : List UInt8) (cs2 : Array Value) (tv2 rv2 : Value), i = .int .i64 (j : Int) ∧ j ≤ 2 ∧ l2.length ≤ b.length ∧ BadT most (2 - j) lim2 tab2 l2 ∧ UnTo (w.alloc (.cells #[.slice sv b.length cv] 218)) wr ub cs cs2 tP lim2 tv tv2 tab2 w.heap.size (.slice sv b.length cv) rv2 l2) (fun i _ => 2 - (intOf i).toNat)
  case atStart => exact ⟨0, lim, tab, b, cs, tv, _, rfl, by omega, Nat.le_refl _, HLIMS.out, HUA.out⟩
  case round =>
    obtain ⟨j, lim2, tab2, l2, cs2, tv2, rv2, rfl, hj, hll, hlm, hu⟩ := hrel
    by_cases hj2 : j = 2
    · rw [show 2 - j = 0 from by omega] at hlm
      have HPAIRS := hide (hlm lim2 tab2 l2 rfl)
      have hjd : decide ((j : Int) < 2) = false := by simp; omega
      have HU := hide hu
      clear hu hj2 hj hlm
      go_wp2
      go_loopw [7] (fun v wx => ∃ (acc tab3 : List HP) (l3 : List UInt8) (cs3 : Array Value) (tv3 rv3 : Value), acc.length ≤ 8 ∧ (∀ x ∈ acc, x.n.size ≤ 268435456 ∧ x.v.size ≤ 268435456) ∧ l3.length ≤ b.length ∧ rdPairs (9 - acc.length) acc tab3 lim2 l3 = none ∧ UnTo (w.alloc (.cells #[.slice sv b.length cv] 218)) wx ub cs cs3 tP lim2 tv tv3 tab3 w.heap.size (.slice sv b.length cv) rv3 l3 ∧ wx.ownsRow w.heap.size 147 2 v acc.length (hpCells acc) ∧ (∀ j, v.ownBlock = some j → tv3.ownBlock ≠ some j)) (fun v _ => 9 - lenV v)
      case atStart => exact ⟨[], tab2, l2, cs2, tv2, rv2, by simp, by simp, by omega, HPAIRS.out, HU.out, World.ownsRow_nil _ _ _ _, fun j e => by simp [Value.ownBlock] at e⟩
      case round =>
        obtain ⟨acc, tab3, l3, cs3, tv3, rv3, ha8, hsz, hl3, hrp, hu3, how, hap3⟩ := hrel
        obtain ⟨sl, cl, hvl⟩ := slice_len how
        subst hvl
        have hae := atEnd_any w.heap.size rv3 l3 wr hu3.sr
        have HAE := hide hae
        have HU3 := hide hu3
        have HOW := hide how
        have HAP3 := hide hap3
        have HSZ := hide hsz
        have HRP := hide hrp
        clear hae hu3 how hap3 hsz hrp HU
        obtain ⟨f, hf⟩ : ∃ f, 9 - acc.length = f + 1 := ⟨8 - acc.length, by omega⟩
        have HFF := hide hf
        clear hf
        cases l3 with
        | nil =>
          have hrp := HRP.out
          rw [HFF.out] at hrp
          simp [rdPairs] at hrp
        | cons c r =>
          have hap := HU3.out.apart HAA.out HSA.out
          have hg3 := HU3.out.gl HGA.out hub hgs HTV.out
          have HAP := hide hap
          have HG3 := hide hg3
          clear hap hg3
          cases hp : rdPair tab3 lim2 (c :: r) with
          | none =>
            have htp := takePair_bad ub cs3 tP lim2 tv3 tab3 w.heap.size rv3 (c :: r) wr HG3.out HU3.out.st HU3.out.sr HAP.out (by omega) hgs hp
            have HTP := hide htp
            clear htp hp HRP
            go_wp2_with fail
            refine HAE.out.mono ?_
            rintro e w9 ⟨rfl, hw9⟩
            rw [hw9]
            clear hw9
            go_wp2_with fail
            refine HTP.out.mono ?_
            rintro e w4 ⟨he, hc4⟩
            rw [he]
            exact ⟨rfl, rfl, unp_chg HBA.out (HU3.out.chg.trans (hc4.mono fun j _ e => Or.inr (Or.inl e))), _, _, cs3, tv3, HU3.out.st.chg hc4 HAP.out.us (fun j hj e => HAP.out.ts (e ▸ hj)), HU3.out.cs3⟩
          | some y =>
            obtain ⟨x, tab4, q⟩ := y
            obtain ⟨hq4, hxn, hxv⟩ := rdPair_len hp (numd_small (Nat.le_trans HU3.out.st.fit HU3.out.st.small)) (by omega)
            have htp := takePair_ok ub cs3 tP lim2 tv3 tab3 w.heap.size rv3 (c :: r) x tab4 q wr HG3.out HU3.out.st HU3.out.sr HAP.out (by omega) hgs hp
            have hrp := HRP.out
            rw [HFF.out] at hrp
            simp only [rdPairs] at hrp
            rw [hp] at hrp
            simp only at hrp
            have HTP := hide htp
            have HRP4 := hide hrp
            clear htp hrp hp HRP
            go_wp2_with fail
            refine HAE.out.mono ?_
            rintro e w9 ⟨rfl, hw9⟩
            rw [hw9]
            clear hw9
            go_wp2_with fail
            refine HTP.out.mono ?_
            rintro e w4 ⟨rfl, cs4, tv4, rv4, hu4⟩
            have how4 := owns_chg HOW.out hu4.chg (by
              rintro j hj (e | e | e)
              · subst e; exact owns_ne HOW.out HU3.out.sr.blk (by decide) hj
              · subst e; exact owns_ne HOW.out HU3.out.st.tb.blk (fun e => HU3.out.st.tb.ne e.symm) hj
              · exact HAP3.out j hj e)
            have hap4 : ∀ j, (Value.slice sl acc.length cl).ownBlock = some j → tv4.ownBlock ≠ some j := fun j hj e => by
              rcases hu4.tfresh j e with a | a
              · exact HAP3.out j hj a
              · have := owns_lt HOW.out hj; omega
            have HU4 := hide (HU3.out.trans hu4)
            have HOW4 := hide how4
            have HAP4 := hide hap4
            clear hu4 how4 hap4
            go_wp2_with (at_builtin; refine wpList_app _ rfl (.tmp 22) (.tmp 25) 83 rfl 147 i0 (.agg #[.string ⟨#[]⟩, .string ⟨#[]⟩]) 2 32 Tryz.underlying83 hi hz0 hz1 hz2 rfl (by decide) _ _ _ rfl ((owns_base HOW4.out (fun _ _ => Nat.zero_le _)).alloc _) (.slice (some ⟨w4.heap.size, 0, none⟩) 1 1) 1 (hpCells [x]) rfl rfl (lies_pair w4 x) (hp_one _) ?c3 ?c4 ?_)
            case c3 => unfold maxLen; omega
            case c4 => omega
            intro v5 w5 hown5 hg5 hf5
            obtain ⟨hu5, how5, hap5⟩ := unp_app HB.out HT.out HBA.out HU4.out HOW4.out HAP4.out hown5 hg5 (by simpa using hf5)
            have hsz5 : ∀ y ∈ acc ++ [x], y.n.size ≤ 281474976710656 ∧ y.v.size ≤ 281474976710656 := fun y hy => by
              rcases List.mem_append.1 hy with hy | hy
              · have := HSZ.out y hy; omega
              · rw [List.mem_singleton.1 hy]; omega
            have hil := isList_any v5 (acc ++ [x]) w5 (hsIn_of_owns how5) (by rw [List.length_append, List.length_singleton]; omega) hsz5
            obtain ⟨s5, c5, hv5⟩ := slice_len hown5
            subst hv5
            have HIL := hide hil
            have HU5 := hide hu5
            have HOW5 := hide how5
            have HAP5 := hide hap5
            clear hown5 hg5 hf5 hil hu5 how5 hap5 hsz5
            cases hli : listB (acc ++ [x]) with
            | false =>
              rw [hli] at HIL
              go_wp2_with fail
              refine HIL.out.mono ?_
              rintro e w6 ⟨rfl, hb6⟩
              have HU6 := hide (HU5.out.below hb6)
              have HC6 := hide (unp_chg HBA.out (HU5.out.below hb6).chg)
              clear hb6
              go_wp2
              exact ⟨rfl, rfl, HC6.out, _, _, cs4, tv4, HU6.out.st, HU6.out.cs3⟩
            | true =>
              rw [hli] at HIL
              have hrp := HRP4.out
              rw [hli] at hrp
              simp only [if_true] at hrp
              have HRP5 := hide hrp
              have hl8 : acc.length + 1 ≤ 8 := by
                have := hli
                unfold listB at this
                simp only [Bool.and_eq_true, decide_eq_true_eq, List.length_append, List.length_singleton] at this
                exact this.1
              clear hrp hli HRP4
              go_wp2_with fail
              refine HIL.out.mono ?_
              rintro e w6 ⟨rfl, hb6⟩
              have HU6 := hide (HU5.out.below hb6)
              have HOW6 := hide (owns_chg HOW5.out (Chg.of_below (S := fun _ => False) hb6) (fun _ _ => id))
              clear hb6
              go_wp2
              go_roundw
              case rel =>
                refine ⟨acc ++ [x], tab4, q, cs4, tv4, rv4, by rw [List.length_append, List.length_singleton]; omega, ?_, by omega, ?_, HU6.out, HOW6.out, HAP5.out⟩
                · intro y hy
                  rcases List.mem_append.1 hy with hy | hy
                  · exact HSZ.out y hy
                  · rw [List.mem_singleton.1 hy]; exact ⟨hxn, hxv⟩
                · rw [List.length_append, List.length_singleton, show 9 - (acc.length + 1) = f from by have := HFF.out; omega]; exact HRP5.out
              case measure => simp [lenV]; omega
    · obtain ⟨f, hf⟩ : ∃ f, 2 - j = f + 1 := ⟨1 - j, by omega⟩
      rw [hf] at hlm
      have hg := hu.gl HGA.out hub hgs HTV.out
      have hhas := shas_any w.heap.size rv2 l2 32 5 wr hu.sr (by decide)
      obtain ⟨g0, g1⟩ := hg.lim
      have HG := hide hg
      have HHAS := hide hhas
      have HU := hide hu
      have HLM := hide hlm
      clear hg hhas hu hlm
      have hjd : decide ((j : Int) < 2) = true := by simp; omega
      cases hh : hasF 32 5 l2 with
      | false =>
        rw [hh] at HHAS
        have HPAIRS : Hid (rdPairs 9 [] tab2 lim2 l2 = none) := by
          refine HLM.out lim2 tab2 l2 ?_
          cases l2 with
          | nil => rfl
          | cons c r =>
            have hc : ¬ c.toNat / 32 = 1 := by simpa [hasF] using hh
            simp only [rdLims]
            rw [if_neg hc]
        clear HLM
        go_wp2_with fail
        refine HHAS.out.mono ?_
        rintro e w1 ⟨rfl, hb1⟩
        have HU1 := hide (HU.out.below hb1)
        clear hb1 HU
        have HU := HU1
        clear HU1 g0 g1
        go_wp2
        go_loopw [7] (fun v wx => ∃ (acc tab3 : List HP) (l3 : List UInt8) (cs3 : Array Value) (tv3 rv3 : Value), acc.length ≤ 8 ∧ (∀ x ∈ acc, x.n.size ≤ 268435456 ∧ x.v.size ≤ 268435456) ∧ l3.length ≤ b.length ∧ rdPairs (9 - acc.length) acc tab3 lim2 l3 = none ∧ UnTo (w.alloc (.cells #[.slice sv b.length cv] 218)) wx ub cs cs3 tP lim2 tv tv3 tab3 w.heap.size (.slice sv b.length cv) rv3 l3 ∧ wx.ownsRow w.heap.size 147 2 v acc.length (hpCells acc) ∧ (∀ j, v.ownBlock = some j → tv3.ownBlock ≠ some j)) (fun v _ => 9 - lenV v)
        case atStart => exact ⟨[], tab2, l2, cs2, tv2, rv2, by simp, by simp, by omega, HPAIRS.out, HU.out, World.ownsRow_nil _ _ _ _, fun j e => by simp [Value.ownBlock] at e⟩
        case round =>
          obtain ⟨acc, tab3, l3, cs3, tv3, rv3, ha8, hsz, hl3, hrp, hu3, how, hap3⟩ := hrel
          obtain ⟨sl, cl, hvl⟩ := slice_len how
          subst hvl
          have hae := atEnd_any w.heap.size rv3 l3 wr hu3.sr
          have HAE := hide hae
          have HU3 := hide hu3
          have HOW := hide how
          have HAP3 := hide hap3
          have HSZ := hide hsz
          have HRP := hide hrp
          clear hae hu3 how hap3 hsz hrp HU
          obtain ⟨f, hf⟩ : ∃ f, 9 - acc.length = f + 1 := ⟨8 - acc.length, by omega⟩
          have HFF := hide hf
          clear hf
          cases l3 with
          | nil =>
            have hrp := HRP.out
            rw [HFF.out] at hrp
            simp [rdPairs] at hrp
          | cons c r =>
            have hap := HU3.out.apart HAA.out HSA.out
            have hg3 := HU3.out.gl HGA.out hub hgs HTV.out
            have HAP := hide hap
            have HG3 := hide hg3
            clear hap hg3
            cases hp : rdPair tab3 lim2 (c :: r) with
            | none =>
              have htp := takePair_bad ub cs3 tP lim2 tv3 tab3 w.heap.size rv3 (c :: r) wr HG3.out HU3.out.st HU3.out.sr HAP.out (by omega) hgs hp
              have HTP := hide htp
              clear htp hp HRP
              go_wp2_with fail
              refine HAE.out.mono ?_
              rintro e w9 ⟨rfl, hw9⟩
              rw [hw9]
              clear hw9
              go_wp2_with fail
              refine HTP.out.mono ?_
              rintro e w4 ⟨he, hc4⟩
              rw [he]
              exact ⟨rfl, rfl, unp_chg HBA.out (HU3.out.chg.trans (hc4.mono fun j _ e => Or.inr (Or.inl e))), _, _, cs3, tv3, HU3.out.st.chg hc4 HAP.out.us (fun j hj e => HAP.out.ts (e ▸ hj)), HU3.out.cs3⟩
            | some y =>
              obtain ⟨x, tab4, q⟩ := y
              obtain ⟨hq4, hxn, hxv⟩ := rdPair_len hp (numd_small (Nat.le_trans HU3.out.st.fit HU3.out.st.small)) (by omega)
              have htp := takePair_ok ub cs3 tP lim2 tv3 tab3 w.heap.size rv3 (c :: r) x tab4 q wr HG3.out HU3.out.st HU3.out.sr HAP.out (by omega) hgs hp
              have hrp := HRP.out
              rw [HFF.out] at hrp
              simp only [rdPairs] at hrp
              rw [hp] at hrp
              simp only at hrp
              have HTP := hide htp
              have HRP4 := hide hrp
              clear htp hrp hp HRP
              go_wp2_with fail
              refine HAE.out.mono ?_
              rintro e w9 ⟨rfl, hw9⟩
              rw [hw9]
              clear hw9
              go_wp2_with fail
              refine HTP.out.mono ?_
              rintro e w4 ⟨rfl, cs4, tv4, rv4, hu4⟩
              have how4 := owns_chg HOW.out hu4.chg (by
                rintro j hj (e | e | e)
                · subst e; exact owns_ne HOW.out HU3.out.sr.blk (by decide) hj
                · subst e; exact owns_ne HOW.out HU3.out.st.tb.blk (fun e => HU3.out.st.tb.ne e.symm) hj
                · exact HAP3.out j hj e)
              have hap4 : ∀ j, (Value.slice sl acc.length cl).ownBlock = some j → tv4.ownBlock ≠ some j := fun j hj e => by
                rcases hu4.tfresh j e with a | a
                · exact HAP3.out j hj a
                · have := owns_lt HOW.out hj; omega
              have HU4 := hide (HU3.out.trans hu4)
              have HOW4 := hide how4
              have HAP4 := hide hap4
              clear hu4 how4 hap4
              go_wp2_with (at_builtin; refine wpList_app _ rfl (.tmp 22) (.tmp 25) 83 rfl 147 i0 (.agg #[.string ⟨#[]⟩, .string ⟨#[]⟩]) 2 32 Tryz.underlying83 hi hz0 hz1 hz2 rfl (by decide) _ _ _ rfl ((owns_base HOW4.out (fun _ _ => Nat.zero_le _)).alloc _) (.slice (some ⟨w4.heap.size, 0, none⟩) 1 1) 1 (hpCells [x]) rfl rfl (lies_pair w4 x) (hp_one _) ?c3 ?c4 ?_)
              case c3 => unfold maxLen; omega
              case c4 => omega
              intro v5 w5 hown5 hg5 hf5
              obtain ⟨hu5, how5, hap5⟩ := unp_app HB.out HT.out HBA.out HU4.out HOW4.out HAP4.out hown5 hg5 (by simpa using hf5)
              have hsz5 : ∀ y ∈ acc ++ [x], y.n.size ≤ 281474976710656 ∧ y.v.size ≤ 281474976710656 := fun y hy => by
                rcases List.mem_append.1 hy with hy | hy
                · have := HSZ.out y hy; omega
                · rw [List.mem_singleton.1 hy]; omega
              have hil := isList_any v5 (acc ++ [x]) w5 (hsIn_of_owns how5) (by rw [List.length_append, List.length_singleton]; omega) hsz5
              obtain ⟨s5, c5, hv5⟩ := slice_len hown5
              subst hv5
              have HIL := hide hil
              have HU5 := hide hu5
              have HOW5 := hide how5
              have HAP5 := hide hap5
              clear hown5 hg5 hf5 hil hu5 how5 hap5 hsz5
              cases hli : listB (acc ++ [x]) with
              | false =>
                rw [hli] at HIL
                go_wp2_with fail
                refine HIL.out.mono ?_
                rintro e w6 ⟨rfl, hb6⟩
                have HU6 := hide (HU5.out.below hb6)
                have HC6 := hide (unp_chg HBA.out (HU5.out.below hb6).chg)
                clear hb6
                go_wp2
                exact ⟨rfl, rfl, HC6.out, _, _, cs4, tv4, HU6.out.st, HU6.out.cs3⟩
              | true =>
                rw [hli] at HIL
                have hrp := HRP4.out
                rw [hli] at hrp
                simp only [if_true] at hrp
                have HRP5 := hide hrp
                have hl8 : acc.length + 1 ≤ 8 := by
                  have := hli
                  unfold listB at this
                  simp only [Bool.and_eq_true, decide_eq_true_eq, List.length_append, List.length_singleton] at this
                  exact this.1
                clear hrp hli HRP4
                go_wp2_with fail
                refine HIL.out.mono ?_
                rintro e w6 ⟨rfl, hb6⟩
                have HU6 := hide (HU5.out.below hb6)
                have HOW6 := hide (owns_chg HOW5.out (Chg.of_below (S := fun _ => False) hb6) (fun _ _ => id))
                clear hb6
                go_wp2
                go_roundw
                case rel =>
                  refine ⟨acc ++ [x], tab4, q, cs4, tv4, rv4, by rw [List.length_append, List.length_singleton]; omega, ?_, by omega, ?_, HU6.out, HOW6.out, HAP5.out⟩
                  · intro y hy
                    rcases List.mem_append.1 hy with hy | hy
                    · exact HSZ.out y hy
                    · rw [List.mem_singleton.1 hy]; exact ⟨hxn, hxv⟩
                  · rw [List.length_append, List.length_singleton, show 9 - (acc.length + 1) = f from by have := HFF.out; omega]; exact HRP5.out
                case measure => simp [lenV]; omega
      | true =>
        rw [hh] at HHAS
        cases l2 with
        | nil => simp [hasF] at hh
        | cons c r =>
          have hc : c.toNat / 32 = 1 := by simpa [hasF] using hh
          have hap := HU.out.apart HAA.out HSA.out
          have hm2 : cs2[3]? = some (.int .i64 (most : Int)) := (HU.out.cs3 3 (by omega)).trans HM.out
          have HAP := hide hap
          have HM2 := hide hm2
          have HC := hide hc
          clear hap hm2 hc hh
          go_wp2_with fail
          refine HHAS.out.mono ?_
          rintro e w1 ⟨rfl, hb1⟩
          have hu1 := HU.out.below hb1
          have HU1 := hide hu1
          have HG1 := hide (hu1.gl HGA.out hub hgs HTV.out)
          clear hb1 hu1 g0 g1
          cases hcn : rdCnt 5 c r with
          | none =>
            have HTL := hide (takeLimit_nocount ub w.heap.size rv2 c r w1 HG1.out HU1.out.sr (by omega) hgs hcn)
            clear hcn
            go_wp2_with fail
            refine HTL.out.mono ?_
            rintro e w2 ⟨he, hc2⟩
            rw [he]
            exact ⟨rfl, rfl, unp_chg HBA.out (HU1.out.chg.trans (hc2.mono fun j _ e => Or.inr (Or.inl e))), _, _, cs2, tv2, HU1.out.st.chg hc2 HAP.out.us (fun j hj e => HAP.out.ts (e ▸ hj)), HU1.out.cs3⟩
          | some nq =>
            obtain ⟨n, q⟩ := nq
            have hqr := rdCnt_len hcn
            by_cases hnm : most < n
            · have HTL := hide (takeLimit_great ub cs2 tP lim2 tv2 tab2 most w.heap.size rv2 c r n q w1 HG1.out HU1.out.st HM2.out HU1.out.sr HAP.out (by omega) hgs hcn hnm)
              clear hcn
              go_wp2_with fail
              refine HTL.out.mono ?_
              rintro e w2 ⟨he, hc2⟩
              rw [he]
              exact ⟨rfl, rfl, unp_chg HBA.out (HU1.out.chg.trans (hc2.mono fun j _ e => Or.inr (Or.inl e))), _, _, cs2, tv2, HU1.out.st.chg hc2 HAP.out.us (fun j hj e => HAP.out.ts (e ▸ hj)), HU1.out.cs3⟩
            · have HTL := hide (takeLimit_ok ub cs2 tP lim2 tv2 tab2 most w.heap.size rv2 c r n q w1 HG1.out HU1.out.st HM2.out HU1.out.sr HAP.out (by omega) hgs hcn (by omega) hmo)
              have HNX : Hid (BadT most f n (shr tab2 n) q) := by
                intro lim1 tab1 r1 hr1
                refine HLM.out lim1 tab1 r1 ?_
                simp only [rdLims]
                rw [if_pos HC.out, hcn]
                simp only
                rw [if_neg hnm]
                exact hr1
              clear hcn
              simp only [List.length_cons] at hll
              go_wp2_with fail
              refine HTL.out.mono ?_
              rintro e w2 ⟨rfl, cs3, tv3, rv3, hu3⟩
              have HU3 := hide (HU1.out.trans hu3)
              clear hu3
              go_wp2
              go_roundw
              case rel =>
                refine ⟨j + 1, n, shr tab2 n, q, cs3, tv3, rv3, by simp, by omega, by omega, ?_, HU3.out⟩
                rw [show 2 - (j + 1) = f from by omega]; exact HNX.out
              case measure => simp [intOf]; omega
end Go.Proofs.YtiphkngfbpdeoaaGreatDoor
namespace Go.Proofs.YtiphkngfbpdeoaaGreatDoor
set_option linter.unusedVariables false
set_option linter.unusedSimpArgs false
open Go.RowKit
set_option maxHeartbeats 400000 in
theorem highest_nil (b o : Nat) (w : World) (hc : w.cell? ⟨b, o + 2, none⟩ = some (.slice none 0 0)) :
    Calls Tryz.prog 193 #[.pointer (some ⟨b, o, none⟩)] w fun e w' => e = .returned (.int .i64 8) ∧ w' = w := by
  go_enter Tryz.func193, Tryz.ntmps193
  go_wp2
  go_ret
  exact ⟨by go_num, rfl⟩
set_option maxRecDepth 100000 in
set_option maxHeartbeats 800000 in
theorem pair_nil (b o : Nat) (w : World) (hc : w.cell? ⟨b, o + 2, none⟩ = some (.slice none 0 0)) (hb : b < w.heap.size) :
    Calls Tryz.prog 177 #[.pointer (some ⟨b, o, none⟩), .int .i64 64] w fun e w' => Gone e ∧ Below w.heap.size w w' := by
  have HH := hide (fun wx hc => highest_nil b o wx hc)
  have g0 : ((w.alloc (.cells #[.string ⟨#[]⟩, .string ⟨#[]⟩] 147))).cell? ⟨b, o + 2, none⟩ = some (.slice none 0 0) := (((Chg.refl (fun _ => False) w).alloc _).cell (p := ⟨b, o + 2, none⟩) hb id).trans hc
  go_enter Tryz.func177, Tryz.ntmps177
  go_wp2_with fail
  refine (HH.out _ g0).mono ?_
  rintro e w1 ⟨rfl, hw1⟩
  rw [hw1]
  clear hw1 w1
  go_wp2
  exact ⟨rfl, rfl, (Below.refl w.heap.size w).alloc (Nat.le_refl _) _⟩
set_option maxRecDepth 100000 in
set_option maxHeartbeats 1600000 in
theorem takePair_192 (ub uo sb : Nat) (rv : Value) (w : World) (hgl : Gl w) (hc : w.cell? ⟨ub, uo + 2, none⟩ = some (.slice none 0 0)) (hub : ub < w.heap.size) (hne : ub ≠ sb) (hs : SrS w sb rv [192]) (hsb : 7 ≤ sb) :
    Calls Tryz.prog 148 #[.pointer (some ⟨ub, uo, none⟩), .pointer (some ⟨sb, 0, none⟩)] w fun e w' => Gone e ∧ Chg (fun j => j = sb) w w' := by
  have hbA : Below w.heap.size w (w.alloc (.cells #[.string ⟨#[]⟩, .string ⟨#[]⟩] 147)) := (Below.refl _ _).alloc (Nat.le_refl _) _
  have hbox := heap_alloc_new w (.cells #[.string ⟨#[]⟩, .string ⟨#[]⟩] 147)
  have htk := stake_ok sb rv 192 [] _ (hs.below hbA) (by simp)
  have hsl := lt_of_block hs.blk
  have HF7 : Hid (∀ wx, Calls Tryz.prog 173 #[fm 128 7, .int .u8 192] wx fun e w' => e = .returned (.bool true) ∧ Below wx.heap.size wx w') := fun wx => fbegins_any 128 7 192 wx (by decide)
  have HCN : Hid (∀ rv' wx, SrS wx sb rv' [] → Calls Tryz.prog 174 #[.pointer (some ⟨sb, 0, none⟩), .int .u8 192, fm 128 7] wx fun e w' => ∃ rv'', e = .returned (.int .i64 64) ∧ SrTo wx w' sb rv' rv'' []) := fun rv' wx hh => by
    refine (takeCount_any sb rv' [] 192 128 7 wx hh (by decide) (by simp)).mono ?_
    have hcnt : rdCnt 7 192 [] = some (64, []) := by decide
    rintro e w' (⟨N, r', rv'', e1, e0, e2, e3⟩ | ⟨e1, _⟩)
    · rw [hcnt] at e1
      simp only [Option.some.injEq, Prod.mk.injEq] at e1
      obtain ⟨rfl, rfl⟩ := e1
      exact ⟨rv'', e2, e3⟩
    · rw [hcnt] at e1; cases e1
  have HPB : Hid (∀ wx, Chg (fun j => j = sb) w wx → Calls Tryz.prog 177 #[.pointer (some ⟨ub, uo, none⟩), .int .i64 64] wx fun e w' => Gone e ∧ Below wx.heap.size wx w') := fun wx hh => pair_nil ub uo wx (by rw [hh.cell (p := ⟨ub, uo + 2, none⟩) hub hne]; exact hc) (Nat.lt_of_lt_of_le hub hh.size)
  have HTK := hide htk
  have HBA := hide hbA
  have HBX := hide hbox
  have HG := hide hgl
  clear htk hbA hbox hgl hs hc
  simp only [fm] at HF7 HCN
  go_enter Tryz.func148, Tryz.ntmps148
  go_wp2_with fail
  refine HTK.out.mono ?_
  rintro e w1 ⟨rv1, rfl, hs1⟩
  have hg1 := (HG.out.below HBA.out).sr hs1.chg hsb
  have hx1 : w1.heap[w.heap.size]? = some (.cells #[.string ⟨#[]⟩, .string ⟨#[]⟩] 147 (0, 0)) := by rw [hs1.chg.block _ (lt_of_block HBX.out) (by omega)]; exact HBX.out
  have hs1' : SrTo w w1 sb rv rv1 [] := SrTo.before HBA.out hs1
  obtain ⟨g0, g1⟩ := hg1.num
  have HG1 := hide hg1
  have HX1 := hide hx1
  have HS1 := hide hs1'
  clear hs1 hs1' hg1 hx1
  go_wp2_with fail
  refine (HF7.out _).mono ?_
  rintro e w2 ⟨rfl, hb⟩
  have hg := HG1.out.below hb
  have hx : w2.heap[w.heap.size]? = some (.cells #[.string ⟨#[]⟩, .string ⟨#[]⟩] 147 (0, 0)) := by rw [hb.block _ (lt_of_block HX1.out)]; exact HX1.out
  have hs := HS1.out.below hb
  clear g0 g1
  obtain ⟨g0, g1⟩ := hg.num
  have HG2 := hide hg
  have HX2 := hide hx
  have HS2 := hide hs
  clear hb hg hx hs
  have hsd : SrS w2.drew sb rv1 [] := HS2.out.st.chg ((Chg.refl (fun _ => False) _).drew) id (fun _ _ => id)
  have hcn := HCN.out rv1 w2.drew hsd
  have HCD := hide hcn
  clear hsd hcn
  go_wp2
  go_region_law (first
    | (refine step_call rfl 174 Tryz.f174 Tryz.func174 (by kernel_rfl) rfl [.tmp 16, .tmp 17, .tmp 18] #[223, 5, 221] rfl [.pointer (some ⟨sb, 0, none⟩), .int .u8 192, .agg #[.int .u8 128, .int .i64 7]] (by simp [Act.eval, Act.put]) HCD.out ?_; rintro e w3 ⟨rv3, rfl, hs3⟩; refine ⟨_, rfl, ?_⟩; have HC3 := hide (HS2.out.chg.trans (Chg.mono (S := fun j => j = sb) ⟨hs3.chg.os, hs3.chg.tape, hs3.chg.output, hs3.chg.size, hs3.chg.block⟩ fun _ _ e => Or.inr e)); clear hs3)
    | (refine step_gone rfl 177 Tryz.f177 Tryz.func177 (by kernel_rfl) rfl [.tmp 15, .tmp 19] #[85, 3] rfl [.pointer (some ⟨ub, uo, none⟩), .int .i64 64] (by simp [Act.eval, Act.put]) (HPB.out w3 HC3.out) (fun e w4 he => ⟨_, he.1, rfl, rfl, HC3.out.then_below he.2⟩) (.agg #[.string ⟨#[]⟩, .string ⟨#[]⟩]) ?_; intro hf; have HF : Hid False := hf; clear hf; have k0 : w3.cell? ⟨w.heap.size, 0, none⟩ = some (.string ⟨#[]⟩) := HF.out.elim; have k1 : w3.cell? ⟨w.heap.size, 1, none⟩ = some (.string ⟨#[]⟩) := HF.out.elim; have k2 : w3.frozen? ⟨w.heap.size, 0, none⟩ = false := HF.out.elim; have k3 : w3.frozen? ⟨w.heap.size, 1, none⟩ = false := HF.out.elim))
  all_goals exact HF.out.elim
set_option maxRecDepth 100000 in
set_option maxHeartbeats 1600000 in
theorem bUnpack_192 (ub uo : Nat) (bv : Value) (w : World) (hb : BytesIn w bv [192]) (hg : Gl w) (hc : w.cell? ⟨ub, uo + 2, none⟩ = some (.slice none 0 0)) (hub : ub < w.heap.size) :
    Calls Tryz.prog 123 #[.pointer (some ⟨ub, uo, none⟩), bv] w fun e w' => e = .panicked [{ v := .iface 36 (.int .i64 13), recovered := false }] ∧ Below w.heap.size w w' := by
  have hbA : Below w.heap.size w (w.alloc (.cells #[bv] 218)) := (Below.refl _ _).alloc (Nat.le_refl _) _
  have hsr : SrS (w.alloc (.cells #[bv] 218)) w.heap.size bv [192] := ⟨heap_alloc_new w _, hb.chg (Chg.of_below (S := fun _ => False) hbA) (fun _ _ => id), fun e => by have := hb.lt e; omega⟩
  have hgA := hg.below hbA
  have HSH := hide (shas_any w.heap.size bv [192] 32 5 _ hsr (Or.inr (Or.inl rfl)))
  have l0 := hg.lim.1
  have l1 := hg.lim.2
  have hgl : 0 < w.heap.size := Nat.lt_of_lt_of_le (by decide) hg.lt
  have HAE : Hid (∀ w1, Below (w.alloc (.cells #[bv] 218)).heap.size (w.alloc (.cells #[bv] 218)) w1 → (Calls Tryz.prog 147 #[.pointer (some ⟨w.heap.size, 0, none⟩)] w1 fun e w' => e = .returned (.bool false) ∧ w' = w1) ∧ (Calls Tryz.prog 148 #[.pointer (some ⟨ub, uo, none⟩), .pointer (some ⟨w.heap.size, 0, none⟩)] w1 fun e w' => e = .panicked [{ v := .iface 36 (.int .i64 13), recovered := false }] ∧ Below w.heap.size w w')) := fun w1 hb1 => by
    have hs1 := hsr.below hb1
    have hbw := hbA.trans (hb1.mono hbA.size)
    refine ⟨atEnd_any w.heap.size bv [192] w1 hs1, ?_⟩
    refine (takePair_192 ub uo w.heap.size bv w1 (hgA.below hb1) (by rw [(Chg.of_below (S := fun _ => False) hbw).cell (p := ⟨ub, uo + 2, none⟩) hub id]; exact hc) (Nat.lt_of_lt_of_le hub hbw.size) (by omega) hs1 hg.lt).mono ?_
    rintro e w' ⟨he, hch⟩
    exact ⟨he, below_of_chg hbw hch (fun j hj => by omega)⟩
  have HBA := hide hbA
  obtain ⟨sv, cv, hv, -⟩ := bytesIn_len hb
  subst hv
  simp only [List.length_cons, List.length_nil, Nat.zero_add] at HSH HAE HBA
  simp only [fm] at HSH
  clear hb hg hbA hsr hgA hc
  go_enter Tryz.func123, Tryz.ntmps123
  go_wp2
  refine wp_loop_rounds 1 ?_
  rw [rounds_succ]
  go_wp2_with fail
  refine HSH.out.mono ?_
  rintro e w1 ⟨rfl, hb1⟩
  obtain ⟨ha1, ha2⟩ := HAE.out w1 hb1
  have HA := hide ha1
  have HP := hide ha2
  clear hb1 ha1 ha2
  have hF : hasF 32 5 [192] = false := by decide
  rw [hF]
  go_wp2
  refine wp_loop_rounds 1 ?_
  rw [rounds_succ]
  go_wp2_with fail
  refine HA.out.mono ?_
  rintro e w' ⟨rfl, hw'⟩
  rw [hw']
  clear hw' w'
  go_wp2_with fail
  refine HP.out.mono ?_
  rintro e w' ⟨rfl, hx⟩
  have HX := hide hx
  clear hx
  go_wp2
  exact ⟨rfl, rfl, HX.out⟩
end Go.Proofs.YtiphkngfbpdeoaaGreatDoor
