import Derived.Test.YtpmmpbklpclnhaaDoorBkLimR
import Derived.Test.YtpmmpbklpclnhaaDoorBkFace
set_option linter.unusedVariables false
set_option linter.unusedSimpArgs false
/-
  Package blocks: Unpacker's Unpack, where there is a list.
-/
namespace Go.Proofs.YtpmmpbklpclnhaaDoor
set_option linter.unusedVariables false
set_option linter.unusedSimpArgs false
open Go.RowKit

/-- The end of Unpack. -/
structure Unpd (w w' : World) (ub : Nat) (cs cs' : Array Value) (tP : TypeId) (lim : Nat) (tv tv' : Value) (tab : List HP) (lv : Value) (hs : List HP) : Prop where
  st : TbS w' ub cs' tP lim tv' tab
  cs3 : ∀ i, 3 ≤ i → cs'[i]? = cs[i]?
  chg : Chg (TouchT ub tv) w w'
  tfresh : ∀ j, tv'.ownBlock = some j → tv.ownBlock = some j ∨ w.heap.size ≤ j
  row : w'.ownsRow w.heap.size 33 2 lv hs.length (hpCells hs)
  ap : ∀ j, lv.ownBlock = some j → tv'.ownBlock ≠ some j

theorem rdPairs_cons {f : Nat} {acc tab : List HP} {lim : Nat} {c : UInt8} {r : List UInt8} {z : List HP × List HP} (h : rdPairs f acc tab lim (c :: r) = some z) :
    ∃ x tab2 q, rdPair tab lim (c :: r) = some (x, tab2, q) ∧ listB (acc ++ [x]) = true ∧ rdPairs (f - 1) (acc ++ [x]) tab2 lim q = some z := by
  cases f with
  | zero => simp [rdPairs] at h
  | succ f =>
    simp only [rdPairs] at h
    cases hp : rdPair tab lim (c :: r) with
    | none => rw [hp] at h; cases h
    | some y =>
      obtain ⟨x, tab2, q⟩ := y
      rw [hp] at h
      simp only at h
      split at h
      · rename_i hl
        exact ⟨x, tab2, q, rfl, hl, h⟩
      · cases h
theorem rdLims_cons {most f lim : Nat} {tab : List HP} {c : UInt8} {r : List UInt8} {z : Nat × List HP × List UInt8} (h : rdLims most (f + 1) lim tab (c :: r) = some z) (hc : c.toNat / 32 = 1) :
    ∃ n q, rdCnt 5 c r = some (n, q) ∧ n ≤ most ∧ rdLims most f n (shr tab n) q = some z := by
  simp only [rdLims] at h
  rw [if_pos hc] at h
  cases hp : rdCnt 5 c r with
  | none => rw [hp] at h; cases h
  | some y =>
    obtain ⟨n, q⟩ := y
    rw [hp] at h
    simp only at h
    split at h
    · cases h
    · exact ⟨n, q, rfl, by omega, h⟩

def lenV : Value → Nat
  | .slice _ n _ => n
  | _ => 0
theorem unp_chg {w w1 : World} {ub : Nat} {tv : Value} {o : Obj} (hb : Below w.heap.size w (w.alloc o)) (h : Chg (fun j => j = w.heap.size ∨ TouchT ub tv j) (w.alloc o) w1) : Chg (TouchT ub tv) w w1 :=
  (Chg.of_below hb).trans (h.mono fun j _ e => e.imp_left fun e => by omega)
theorem UnTo.side {S : Nat → Prop} {w w1 w2 : World} {ub : Nat} {cs cs' : Array Value} {tP : TypeId} {lim : Nat} {tv tv' : Value} {tab' : List HP} {sb : Nat} {rv rv' : Value} {l' : List UInt8} (h : UnTo w w1 ub cs cs' tP lim tv tv' tab' sb rv rv' l') (hc : Chg S w1 w2) (h1 : ∀ j, S j → w.heap.size ≤ j) (hub : ub < w.heap.size) (hsb : sb < w.heap.size) (hr : ∀ j, rv.ownBlock = some j → j < w.heap.size) (ht : ∀ j, tv'.ownBlock = some j → ¬ S j) : UnTo w w2 ub cs cs' tP lim tv tv' tab' sb rv rv' l' :=
  ⟨h.st.chg hc (fun e => by have := h1 _ e; omega) ht, h.cs3, h.sr.chg hc (fun e => by have := h1 _ e; omega) (fun j hj e => by have := h1 _ e; have := hr j (h.own j hj); omega), h.chg.trans (hc.mono fun j _ e => Or.inl (h1 j e)), h.tfresh, h.own⟩
/-- A pair is laid behind those that were read. -/
theorem unp_app {w w4 w5 : World} {ub : Nat} {cs cs4 : Array Value} {tP : TypeId} {lim : Nat} {lim0 : Nat} {tab0 : List HP} {tv tv4 : Value} {tab4 : List HP} {bv rv4 lv v5 : Value} {b q : List UInt8} {acc : List HP} {x : HP} {o : Obj} (hb : BytesIn w bv b) (ht : TbS w ub cs tP lim0 tv tab0) (hbA : Below w.heap.size w (w.alloc (.cells #[bv] 73)))
    (hu : UnTo (w.alloc (.cells #[bv] 73)) w4 ub cs cs4 tP lim tv tv4 tab4 w.heap.size bv rv4 q) (how : w4.ownsRow w.heap.size 33 2 lv acc.length (hpCells acc)) (hap : ∀ j, lv.ownBlock = some j → tv4.ownBlock ≠ some j)
    (hown : w5.ownsRow 0 33 2 v5 (acc.length + 1) (hpCells acc ++ hpCells [x])) (hg : (w4.alloc o).grownBy w5 lv.ownBlock) (hf : v5.ownBlock = lv.ownBlock ∨ v5.ownBlock = some (w4.heap.size + 1)) :
    UnTo (w.alloc (.cells #[bv] 73)) w5 ub cs cs4 tP lim tv tv4 tab4 w.heap.size bv rv4 q ∧ w5.ownsRow w.heap.size 33 2 v5 (acc ++ [x]).length (hpCells (acc ++ [x])) ∧ ∀ j, v5.ownBlock = some j → tv4.ownBlock ≠ some j := by
  have hc : Chg (fun j => lv.ownBlock = some j) w4 w5 := ((Chg.refl _ _).alloc _).trans (Chg.of_grown hg (fun j hj => Or.inr hj))
  have hsA : (w.alloc (.cells #[bv] 73)).heap.size = w.heap.size + 1 := by simp
  have hs4 := hu.chg.size
  have hub := ht.tb.lt
  refine ⟨hu.side hc (fun j hj => ?_) (by omega) (by omega) (fun j hj => by have := hb.lt hj; omega) (fun j hj e => hap j e hj), ?_, fun j hj e => ?_⟩
  · have h1 := (how.lt j hj).1
    have h2 : j ≠ w.heap.size := fun e => owns_ne how hu.sr.blk (by decide) (e ▸ hj)
    omega
  · rw [List.length_append, hpCells_append]
    refine owns_base hown (fun j hj => ?_)
    rcases hf with e | e
    · rw [e] at hj; exact (how.lt j hj).1
    · rw [e] at hj; simp at hj; omega
  · rcases hf with a | a
    · rw [a] at hj; exact hap j hj e
    · rw [a] at hj
      simp at hj
      have := owns_lt hu.st.row e
      omega

set_option maxRecDepth 100000 in
set_option maxHeartbeats 800000 in
theorem bUnpack_ok (ub : Nat) (cs : Array Value) (tP : TypeId) (lim : Nat) (tv : Value) (tab : List HP) (most : Nat) (bv : Value) (b : List UInt8) (hs : List HP) (lim' : Nat) (tab' : List HP) (w : World) (hgl : Gl w) (ht : TbS w ub cs tP lim tv tab) (hm : cs[3]? = some (.int .i64 (most : Int))) (hmo : most ≤ 256) (hb : BytesIn w bv b) (hbu : bv.ownBlock ≠ some ub) (hbt : ∀ j, bv.ownBlock = some j → tv.ownBlock ≠ some j) (hl : b.length ≤ 134217728) (hub : 7 ≤ ub) (htv : ∀ j, tv.ownBlock = some j → 7 ≤ j)
    (hts : tP ≠ 73) (hq : (Up.mk lim tab most).unpack b = some (hs, lim', tab')) :
    Calls Tryd.prog 24 #[.pointer (some ⟨ub, 0, none⟩), bv] w fun e w' => ∃ lv cs' tv', e = .returned lv ∧ Unpd w w' ub cs cs' tP lim' tv tv' tab' lv hs := by
  have hq2 : ∃ tab1 l1, rdLims most 2 lim tab b = some (lim', tab1, l1) ∧ rdPairs 9 [] tab1 lim' l1 = some (hs, tab') := by
    unfold Up.unpack at hq
    simp only at hq
    cases h1 : rdLims most 2 lim tab b with
    | none => rw [h1] at hq; cases hq
    | some x =>
      obtain ⟨lim1, tab1, r⟩ := x
      rw [h1] at hq
      simp only at hq
      cases h2 : rdPairs 9 [] tab1 lim1 r with
      | none => rw [h2] at hq; cases hq
      | some y =>
        obtain ⟨hs', tab''⟩ := y
        rw [h2] at hq
        simp only [Option.some.injEq, Prod.mk.injEq] at hq
        obtain ⟨rfl, rfl, rfl⟩ := hq
        exact ⟨tab1, r, rfl, h2⟩
  obtain ⟨tab1, l1, hlims, hpairs⟩ := hq2
  obtain ⟨i0, hi, hz0, hz1, hz2⟩ := info_parts Tryd.info33
  have hbA : Below w.heap.size w (w.alloc (.cells #[bv] 73)) := (Below.refl _ _).alloc (Nat.le_refl _) _
  have htl := ht.tb.lt
  have hsA : SrS (w.alloc (.cells #[bv] 73)) w.heap.size bv b := ⟨heap_alloc_new w _, hb.chg ((Chg.refl (fun _ => False) w).alloc _) (fun _ _ => id), fun e => by have := hb.lt e; omega⟩
  have haA : Apart ub w.heap.size tv bv := ⟨by omega, fun e => by have := owns_lt ht.row e; omega, hbu, hbt⟩
  have huA : UnTo (w.alloc (.cells #[bv] 73)) (w.alloc (.cells #[bv] 73)) ub cs cs tP lim tv tv tab w.heap.size bv bv b := ⟨ht.below hbA, fun _ _ => rfl, hsA, Chg.refl _ _, fun _ e => Or.inl e, fun _ e => e⟩
  have hgA := hgl.below hbA
  have hgs : 7 ≤ w.heap.size := hgl.lt
  obtain ⟨sv, cv, hv, _⟩ := bytesIn_len hb
  subst hv
  have HB := hide hb
  have HT := hide ht
  have HM := hide hm
  have HGA := hide hgA
  have HSA := hide hsA
  have HAA := hide haA
  have HUA := hide huA
  have HBA := hide hbA
  have HTV := hide htv
  have HLIMS := hide hlims
  have HPAIRS := hide hpairs
  clear hgl ht hm hb hbu hbt hsA haA huA hgA hbA htv hlims hpairs hq
  go_enter Tryd.func24, Tryd.ntmps24
  go_wp2
  go_loopw [6] (fun i wr => ∃ (j lim2 : Nat) (tab2 : List HP) (l2 : List UInt8) (cs2 : Array Value) (tv2 rv2 : Value), i = .int .i64 (j : Int) ∧ j ≤ 2 ∧ l2.length ≤ b.length ∧ rdLims most (2 - j) lim2 tab2 l2 = some (lim', tab1, l1) ∧ UnTo (w.alloc (.cells #[.slice sv b.length cv] 73)) wr ub cs cs2 tP lim2 tv tv2 tab2 w.heap.size (.slice sv b.length cv) rv2 l2) (fun i _ => 2 - (intOf i).toNat)
  case atStart => exact ⟨0, lim, tab, b, cs, tv, _, rfl, by omega, Nat.le_refl _, HLIMS.out, HUA.out⟩
  case round =>
    obtain ⟨j, lim2, tab2, l2, cs2, tv2, rv2, rfl, hj, hll, hlm, hu⟩ := hrel
    by_cases hj2 : j = 2
    · rw [show 2 - j = 0 from by omega] at hlm
      simp only [rdLims, Option.some.injEq, Prod.mk.injEq] at hlm
      obtain ⟨rfl, rfl, rfl⟩ := hlm
      have hjd : decide ((j : Int) < 2) = false := by simp; omega
      have HU := hide hu
      clear hu hj2 hj
      go_wp2
      go_loopw [7] (fun v wx => ∃ (acc tab3 : List HP) (l3 : List UInt8) (cs3 : Array Value) (tv3 rv3 : Value), acc.length ≤ 8 ∧ (∀ x ∈ acc, x.n.size ≤ 268435456 ∧ x.v.size ≤ 268435456) ∧ l3.length ≤ b.length ∧ rdPairs (9 - acc.length) acc tab3 lim2 l3 = some (hs, tab') ∧ UnTo (w.alloc (.cells #[.slice sv b.length cv] 73)) wx ub cs cs3 tP lim2 tv tv3 tab3 w.heap.size (.slice sv b.length cv) rv3 l3 ∧ wx.ownsRow w.heap.size 33 2 v acc.length (hpCells acc) ∧ (∀ j, v.ownBlock = some j → tv3.ownBlock ≠ some j)) (fun v _ => 9 - lenV v)
      case atStart => exact ⟨[], tab2, l2, cs2, tv2, rv2, by simp, by simp, by omega, HPAIRS.out, HU.out, World.ownsRow_nil _ _ _ _, fun j e => by simp [Value.ownBlock] at e⟩
      case round =>
        obtain ⟨acc, tab3, l3, cs3, tv3, rv3, ha8, hsz, hl3, hrp, hu3, how, hap3⟩ := hrel
        obtain ⟨sl, cl, hvl⟩ := slice_len how
        subst hvl
        have hae := atEnd_any w.heap.size rv3 l3 wr hu3.sr
        have HAE := hide hae
        have HU3 := hide hu3
        have HOW := hide how
        have HAP3 := hide hap3
        have HSZ := hide hsz
        have HRP := hide hrp
        clear hae hu3 how hap3 hsz hrp HU
        cases l3 with
        | nil =>
          have hrp := HRP.out
          obtain ⟨f, hf⟩ : ∃ f, 9 - acc.length = f + 1 := ⟨8 - acc.length, by omega⟩
          rw [hf] at hrp
          simp only [rdPairs, Option.some.injEq, Prod.mk.injEq] at hrp
          have HE := hide hrp
          clear hrp HRP hf
          go_wp2_with fail
          refine HAE.out.mono ?_
          rintro e w9 ⟨rfl, hw9⟩
          rw [hw9]
          clear hw9
          go_wp2
          go_ret
          refine ⟨.slice sl acc.length cl, cs3, tv3, rfl, ?_⟩
          rw [← HE.out.1, ← HE.out.2]
          exact ⟨HU3.out.st, HU3.out.cs3, unp_chg HBA.out HU3.out.chg, fun j hj => (HU3.out.tfresh j hj).imp_right fun e => Nat.le_trans HBA.out.size e, HOW.out, HAP3.out⟩
        | cons c r =>
          obtain ⟨x, tab4, q, hp, hli, hrp4⟩ := rdPairs_cons HRP.out
          have hl8 : (acc ++ [x]).length ≤ 8 := by
            have := hli
            unfold listB at this
            simp only [Bool.and_eq_true, decide_eq_true_eq] at this
            exact this.1
          have hap := HU3.out.apart HAA.out HSA.out
          have hg3 := HU3.out.gl HGA.out hub hgs HTV.out
          obtain ⟨hq4, hxn, hxv⟩ := rdPair_len hp (numd_small (Nat.le_trans HU3.out.st.fit HU3.out.st.small)) (by omega)
          have htp := takePair_ok ub cs3 tP lim2 tv3 tab3 w.heap.size rv3 (c :: r) x tab4 q wr hg3 HU3.out.st HU3.out.sr hap (by omega) hgs hp
          have HTP := hide htp
          have HLI := hide hli
          have HRP4 := hide hrp4
          clear htp hli hrp4 hap hg3 hp HRP
          rw [List.length_append, List.length_singleton] at hl8
          go_wp2_with fail
          refine HAE.out.mono ?_
          rintro e w9 ⟨rfl, hw9⟩
          rw [hw9]
          clear hw9
          go_wp2_with fail
          refine HTP.out.mono ?_
          rintro e w4 ⟨rfl, cs4, tv4, rv4, hu4⟩
          have how4 := owns_chg HOW.out hu4.chg (by
            rintro j hj (e | e | e)
            · subst e; exact owns_ne HOW.out HU3.out.sr.blk (by decide) hj
            · subst e; exact owns_ne HOW.out HU3.out.st.tb.blk (fun e => HU3.out.st.tb.ne e.symm) hj
            · exact HAP3.out j hj e)
          have hap4 : ∀ j, (Value.slice sl acc.length cl).ownBlock = some j → tv4.ownBlock ≠ some j := fun j hj e => by
            rcases hu4.tfresh j e with a | a
            · exact HAP3.out j hj a
            · have := owns_lt HOW.out hj; omega
          have HU4 := hide (HU3.out.trans hu4)
          have HOW4 := hide how4
          have HAP4 := hide hap4
          clear hu4 how4 hap4
          go_wp2_with (at_builtin; refine wpList_app _ rfl (.tmp 22) (.tmp 25) 34 rfl 33 i0 (.agg #[.string ⟨#[]⟩, .string ⟨#[]⟩]) 2 32 Tryd.underlying34 hi hz0 hz1 hz2 rfl (by decide) _ _ _ rfl ((owns_base HOW4.out (fun _ _ => Nat.zero_le _)).alloc _) (.slice (some ⟨w4.heap.size, 0, none⟩) 1 1) 1 (hpCells [x]) rfl rfl (lies_pair w4 x) (hp_one _) ?c3 ?c4 ?_)
          case c3 => unfold maxLen; omega
          case c4 => omega
          intro v5 w5 hown5 hg5 hf5
          obtain ⟨hu5, how5, hap5⟩ := unp_app HB.out HT.out HBA.out HU4.out HOW4.out HAP4.out hown5 hg5 (by simpa using hf5)
          have hsz5 : ∀ y ∈ acc ++ [x], y.n.size ≤ 281474976710656 ∧ y.v.size ≤ 281474976710656 := fun y hy => by
            rcases List.mem_append.1 hy with hy | hy
            · have := HSZ.out y hy; omega
            · rw [List.mem_singleton.1 hy]; omega
          have hil := isList_any v5 (acc ++ [x]) w5 (hsIn_of_owns how5) (by rw [List.length_append, List.length_singleton]; omega) hsz5
          rw [HLI.out] at hil
          obtain ⟨s5, c5, hv5⟩ := slice_len hown5
          subst hv5
          have HIL := hide hil
          have HU5 := hide hu5
          have HOW5 := hide how5
          have HAP5 := hide hap5
          clear hown5 hg5 hf5 hil hu5 how5 hap5 hsz5
          go_wp2_with fail
          refine HIL.out.mono ?_
          rintro e w6 ⟨rfl, hb6⟩
          have HU6 := hide (HU5.out.below hb6)
          have HOW6 := hide (owns_chg HOW5.out (Chg.of_below (S := fun _ => False) hb6) (fun _ _ => id))
          clear hb6
          go_wp2
          go_roundw
          case rel =>
            refine ⟨acc ++ [x], tab4, q, cs4, tv4, rv4, by rw [List.length_append, List.length_singleton]; omega, ?_, by omega, ?_, HU6.out, HOW6.out, HAP5.out⟩
            · intro y hy
              rcases List.mem_append.1 hy with hy | hy
              · exact HSZ.out y hy
              · rw [List.mem_singleton.1 hy]; exact ⟨hxn, hxv⟩
            · rw [List.length_append, List.length_singleton, show 9 - (acc.length + 1) = 9 - acc.length - 1 from by omega]; exact HRP4.out
          case measure => simp [lenV]; omega
    · obtain ⟨f, hf⟩ : ∃ f, 2 - j = f + 1 := ⟨1 - j, by omega⟩
      rw [hf] at hlm
      have hg := hu.gl HGA.out hub hgs HTV.out
      have hhas := shas_any w.heap.size rv2 l2 32 5 wr hu.sr (by decide)
      obtain ⟨g0, g1⟩ := hg.lim
      have HG := hide hg
      have HHAS := hide hhas
      have HU := hide hu
      have HLM := hide hlm
      clear hg hhas hu hlm
      have hjd : decide ((j : Int) < 2) = true := by simp; omega
      cases hh : hasF 32 5 l2 with
      | false =>
        rw [hh] at HHAS
        have hlm := HLM.out
        have he : lim2 = lim' ∧ tab2 = tab1 ∧ l2 = l1 := by
          cases l2 with
          | nil => simpa [rdLims] using hlm
          | cons c r =>
            have hc : ¬ c.toNat / 32 = 1 := by simpa [hasF] using hh
            simp only [rdLims] at hlm
            rw [if_neg hc] at hlm
            simpa using hlm
        obtain ⟨rfl, rfl, rfl⟩ := he
        clear HLM hlm
        go_wp2_with fail
        refine HHAS.out.mono ?_
        rintro e w1 ⟨rfl, hb1⟩
        have HU1 := hide (HU.out.below hb1)
        clear hb1 HU
        have HU := HU1
        clear HU1 g0 g1
        go_wp2
        go_loopw [7] (fun v wx => ∃ (acc tab3 : List HP) (l3 : List UInt8) (cs3 : Array Value) (tv3 rv3 : Value), acc.length ≤ 8 ∧ (∀ x ∈ acc, x.n.size ≤ 268435456 ∧ x.v.size ≤ 268435456) ∧ l3.length ≤ b.length ∧ rdPairs (9 - acc.length) acc tab3 lim2 l3 = some (hs, tab') ∧ UnTo (w.alloc (.cells #[.slice sv b.length cv] 73)) wx ub cs cs3 tP lim2 tv tv3 tab3 w.heap.size (.slice sv b.length cv) rv3 l3 ∧ wx.ownsRow w.heap.size 33 2 v acc.length (hpCells acc) ∧ (∀ j, v.ownBlock = some j → tv3.ownBlock ≠ some j)) (fun v _ => 9 - lenV v)
        case atStart => exact ⟨[], tab2, l2, cs2, tv2, rv2, by simp, by simp, by omega, HPAIRS.out, HU.out, World.ownsRow_nil _ _ _ _, fun j e => by simp [Value.ownBlock] at e⟩
        case round =>
          obtain ⟨acc, tab3, l3, cs3, tv3, rv3, ha8, hsz, hl3, hrp, hu3, how, hap3⟩ := hrel
          obtain ⟨sl, cl, hvl⟩ := slice_len how
          subst hvl
          have hae := atEnd_any w.heap.size rv3 l3 wr hu3.sr
          have HAE := hide hae
          have HU3 := hide hu3
          have HOW := hide how
          have HAP3 := hide hap3
          have HSZ := hide hsz
          have HRP := hide hrp
          clear hae hu3 how hap3 hsz hrp HU
          cases l3 with
          | nil =>
            have hrp := HRP.out
            obtain ⟨f, hf⟩ : ∃ f, 9 - acc.length = f + 1 := ⟨8 - acc.length, by omega⟩
            rw [hf] at hrp
            simp only [rdPairs, Option.some.injEq, Prod.mk.injEq] at hrp
            have HE := hide hrp
            clear hrp HRP hf
            go_wp2_with fail
            refine HAE.out.mono ?_
            rintro e w9 ⟨rfl, hw9⟩
            rw [hw9]
            clear hw9
            go_wp2
            go_ret
            refine ⟨.slice sl acc.length cl, cs3, tv3, rfl, ?_⟩
            rw [← HE.out.1, ← HE.out.2]
            exact ⟨HU3.out.st, HU3.out.cs3, unp_chg HBA.out HU3.out.chg, fun j hj => (HU3.out.tfresh j hj).imp_right fun e => Nat.le_trans HBA.out.size e, HOW.out, HAP3.out⟩
          | cons c r =>
            obtain ⟨x, tab4, q, hp, hli, hrp4⟩ := rdPairs_cons HRP.out
            have hl8 : (acc ++ [x]).length ≤ 8 := by
              have := hli
              unfold listB at this
              simp only [Bool.and_eq_true, decide_eq_true_eq] at this
              exact this.1
            have hap := HU3.out.apart HAA.out HSA.out
            have hg3 := HU3.out.gl HGA.out hub hgs HTV.out
            obtain ⟨hq4, hxn, hxv⟩ := rdPair_len hp (numd_small (Nat.le_trans HU3.out.st.fit HU3.out.st.small)) (by omega)
            have htp := takePair_ok ub cs3 tP lim2 tv3 tab3 w.heap.size rv3 (c :: r) x tab4 q wr hg3 HU3.out.st HU3.out.sr hap (by omega) hgs hp
            have HTP := hide htp
            have HLI := hide hli
            have HRP4 := hide hrp4
            clear htp hli hrp4 hap hg3 hp HRP
            rw [List.length_append, List.length_singleton] at hl8
            go_wp2_with fail
            refine HAE.out.mono ?_
            rintro e w9 ⟨rfl, hw9⟩
            rw [hw9]
            clear hw9
            go_wp2_with fail
            refine HTP.out.mono ?_
            rintro e w4 ⟨rfl, cs4, tv4, rv4, hu4⟩
            have how4 := owns_chg HOW.out hu4.chg (by
              rintro j hj (e | e | e)
              · subst e; exact owns_ne HOW.out HU3.out.sr.blk (by decide) hj
              · subst e; exact owns_ne HOW.out HU3.out.st.tb.blk (fun e => HU3.out.st.tb.ne e.symm) hj
              · exact HAP3.out j hj e)
            have hap4 : ∀ j, (Value.slice sl acc.length cl).ownBlock = some j → tv4.ownBlock ≠ some j := fun j hj e => by
              rcases hu4.tfresh j e with a | a
              · exact HAP3.out j hj a
              · have := owns_lt HOW.out hj; omega
            have HU4 := hide (HU3.out.trans hu4)
            have HOW4 := hide how4
            have HAP4 := hide hap4
            clear hu4 how4 hap4
            go_wp2_with (at_builtin; refine wpList_app _ rfl (.tmp 22) (.tmp 25) 34 rfl 33 i0 (.agg #[.string ⟨#[]⟩, .string ⟨#[]⟩]) 2 32 Tryd.underlying34 hi hz0 hz1 hz2 rfl (by decide) _ _ _ rfl ((owns_base HOW4.out (fun _ _ => Nat.zero_le _)).alloc _) (.slice (some ⟨w4.heap.size, 0, none⟩) 1 1) 1 (hpCells [x]) rfl rfl (lies_pair w4 x) (hp_one _) ?c3 ?c4 ?_)
            case c3 => unfold maxLen; omega
            case c4 => omega
            intro v5 w5 hown5 hg5 hf5
            obtain ⟨hu5, how5, hap5⟩ := unp_app HB.out HT.out HBA.out HU4.out HOW4.out HAP4.out hown5 hg5 (by simpa using hf5)
            have hsz5 : ∀ y ∈ acc ++ [x], y.n.size ≤ 281474976710656 ∧ y.v.size ≤ 281474976710656 := fun y hy => by
              rcases List.mem_append.1 hy with hy | hy
              · have := HSZ.out y hy; omega
              · rw [List.mem_singleton.1 hy]; omega
            have hil := isList_any v5 (acc ++ [x]) w5 (hsIn_of_owns how5) (by rw [List.length_append, List.length_singleton]; omega) hsz5
            rw [HLI.out] at hil
            obtain ⟨s5, c5, hv5⟩ := slice_len hown5
            subst hv5
            have HIL := hide hil
            have HU5 := hide hu5
            have HOW5 := hide how5
            have HAP5 := hide hap5
            clear hown5 hg5 hf5 hil hu5 how5 hap5 hsz5
            go_wp2_with fail
            refine HIL.out.mono ?_
            rintro e w6 ⟨rfl, hb6⟩
            have HU6 := hide (HU5.out.below hb6)
            have HOW6 := hide (owns_chg HOW5.out (Chg.of_below (S := fun _ => False) hb6) (fun _ _ => id))
            clear hb6
            go_wp2
            go_roundw
            case rel =>
              refine ⟨acc ++ [x], tab4, q, cs4, tv4, rv4, by rw [List.length_append, List.length_singleton]; omega, ?_, by omega, ?_, HU6.out, HOW6.out, HAP5.out⟩
              · intro y hy
                rcases List.mem_append.1 hy with hy | hy
                · exact HSZ.out y hy
                · rw [List.mem_singleton.1 hy]; exact ⟨hxn, hxv⟩
              · rw [List.length_append, List.length_singleton, show 9 - (acc.length + 1) = 9 - acc.length - 1 from by omega]; exact HRP4.out
            case measure => simp [lenV]; omega
      | true =>
        rw [hh] at HHAS
        cases l2 with
        | nil => simp [hasF] at hh
        | cons c r =>
          have hc : c.toNat / 32 = 1 := by simpa [hasF] using hh
          obtain ⟨n, q, hcn, hnm, hnx⟩ := rdLims_cons HLM.out hc
          have hqr := rdCnt_len hcn
          have hap := HU.out.apart HAA.out HSA.out
          have hm2 : cs2[3]? = some (.int .i64 (most : Int)) := (HU.out.cs3 3 (by omega)).trans HM.out
          go_wp2_with fail
          refine HHAS.out.mono ?_
          rintro e w1 ⟨rfl, hb1⟩
          have hu1 := HU.out.below hb1
          have htl := takeLimit_ok ub cs2 tP lim2 tv2 tab2 most w.heap.size rv2 c r n q w1 (hu1.gl HGA.out hub hgs HTV.out) hu1.st hm2 hu1.sr hap (by omega) hgs hcn hnm hmo
          have HTL := hide htl
          have HU1 := hide hu1
          have HNX := hide hnx
          clear hb1 hu1 htl g0 g1 hnx hcn hm2 hap hc hh
          simp only [List.length_cons] at hll
          go_wp2_with fail
          refine HTL.out.mono ?_
          rintro e w2 ⟨rfl, cs3, tv3, rv3, hu3⟩
          have HU3 := hide (HU1.out.trans hu3)
          clear hu3
          go_wp2
          go_roundw
          case rel =>
            refine ⟨j + 1, n, shr tab2 n, q, cs3, tv3, rv3, by simp, by omega, by omega, ?_, HU3.out⟩
            rw [show 2 - (j + 1) = f from by omega]; exact HNX.out
          case measure => simp [intOf]; omega
end Go.Proofs.YtpmmpbklpclnhaaDoor
