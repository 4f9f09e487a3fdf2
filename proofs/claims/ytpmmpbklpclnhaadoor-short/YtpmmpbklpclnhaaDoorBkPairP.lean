import Derived.Test.YtpmmpbklpclnhaaDoorBkTexts
set_option linter.unusedVariables false
set_option linter.unusedSimpArgs false
/-
  Package blocks: appendPair.
-/
namespace Go.Proofs.YtpmmpbklpclnhaaDoor
set_option linter.unusedVariables false
set_option linter.unusedSimpArgs false
open Go.RowKit

/-- A packer behind a call that lays bytes down. -/
structure Pkd (w w' : World) (pb : Nat) (cs cs' : Array Value) (tP : TypeId) (lim : Nat) (tv tv' : Value) (tab' : List HP) (gv v : Value) (l' : List UInt8) : Prop where
  own : w'.ownsRow 0 5 1 v l'.length (l'.map B)
  st : TbS w' pb cs' tP lim tv' tab'
  cs3 : ∀ i, 3 ≤ i → cs'[i]? = cs[i]?
  chg : Chg (fun j => gv.ownBlock = some j ∨ TouchT pb tv j) w w'
  fresh : ∀ j, v.ownBlock = some j → gv.ownBlock = some j ∨ w.heap.size ≤ j
  tfresh : ∀ j, tv'.ownBlock = some j → tv.ownBlock = some j ∨ w.heap.size ≤ j

theorem Laid.tab {w w' : World} {gv v : Value} {l l0 : List UInt8} {pb : Nat} {cs : Array Value} {tP : TypeId} {lim : Nat} {tv : Value} {tab : List HP} (h : Laid w gv w' v l) (hown : w.ownsRow 0 5 1 gv l0.length (l0.map B)) (ht : TbS w pb cs tP lim tv tab) (htP : tP ≠ 5) : TbS w' pb cs tP lim tv tab :=
  ht.chg h.chg (fun e => owns_ne hown ht.tb.blk (fun e => htP e.symm) e) (fun j hj e => rows_ne hown ht.row (by decide) e hj)
theorem Pkd.of_laid {w w' : World} {gv v : Value} {l l0 : List UInt8} {pb : Nat} {cs : Array Value} {tP : TypeId} {lim : Nat} {tv : Value} {tab : List HP} (h : Laid w gv w' v l) (hown : w.ownsRow 0 5 1 gv l0.length (l0.map B)) (ht : TbS w pb cs tP lim tv tab) (htP : tP ≠ 5) : Pkd w w' pb cs cs tP lim tv tv tab gv v l :=
  ⟨h.own, h.tab hown ht htP, fun _ _ => rfl, h.chg.mono fun _ _ e => Or.inl e, h.fresh, fun _ hj => Or.inl hj⟩
theorem Pkd.add {w w3 w5 w6 : World} {gv v : Value} {l : List UInt8} {pb : Nat} {cs cs' : Array Value} {tP : TypeId} {lim : Nat} {tv tv' : Value} {tab tab' : List HP} (h : Pkd w w3 pb cs cs tP lim tv tv tab gv v l) (hb : Below w3.heap.size w3 w5) (h6 : TbTo w5 w6 pb cs cs' tP lim tv tv' tab') (htP : tP ≠ 5) : Pkd w w6 pb cs cs' tP lim tv tv' tab' gv v l := by
  have h35 := owns_chg h.own (Chg.of_below (S := fun _ => False) hb) (fun _ _ => id)
  have ht5 := h.st.below hb
  have hsz := h.chg.size
  refine ⟨owns_chg h35 h6.chg ?_, h6.st, h6.cs3, (h.chg.then_below hb).trans (h6.chg.mono fun j _ e => Or.inr (Or.inr e)), h.fresh, fun j hj => ?_⟩
  · rintro j hj (e | e)
    · subst e; exact owns_ne h35 ht5.tb.blk (fun e => htP e.symm) hj
    · exact rows_ne h35 ht5.row (by decide) hj e
  · rcases h6.own j hj with e | e
    · exact Or.inl e
    · exact Or.inr (Nat.le_trans hsz (Nat.le_trans hb.size e))
theorem Pkd.below {w wx w' : World} {gv v : Value} {l : List UInt8} {pb : Nat} {cs cs' : Array Value} {tP : TypeId} {lim : Nat} {tv tv' : Value} {tab' : List HP} (hb : Below w.heap.size w wx) (h : Pkd wx w' pb cs cs' tP lim tv tv' tab' gv v l) : Pkd w w' pb cs cs' tP lim tv tv' tab' gv v l :=
  ⟨h.own, h.st, h.cs3, (Chg.of_below hb).trans (h.chg.mono fun _ _ e => Or.inr e), fun j hj => (h.fresh j hj).imp_right fun e => Nat.le_trans hb.size e, fun j hj => (h.tfresh j hj).imp_right fun e => Nat.le_trans hb.size e⟩

set_option maxRecDepth 100000 in
set_option maxHeartbeats 800000 in
theorem appendPair_any (pb : Nat) (cs : Array Value) (tP : TypeId) (lim : Nat) (tv : Value) (tab : List HP) (h : HP) (gv : Value) (l : List UInt8) (w : World) (hgl : Gl w) (ht : TbS w pb cs tP lim tv tab) (htP : tP ≠ 5) (hown : w.ownsRow 0 5 1 gv l.length (l.map B)) (hgg : ∀ j, gv.ownBlock = some j → 7 ≤ j)
    (hl : l.length ≤ 134217728) (hn : h.n.size ≤ 262144) (hv : h.v.size ≤ 262144) :
    Calls Tryd.prog 31 #[.pointer (some ⟨pb, 0, none⟩), gv, .agg #[.string h.n, .string h.v]] w fun e w' => ∃ v cs' tv', e = .returned v ∧ Pkd w w' pb cs cs' tP lim tv tv' (pairK tab lim h).2 gv v (l ++ (pairK tab lim h).1) := by
  have hfew := ht.few
  have hlim := ht.small
  have hbel : Below w.heap.size w (w.alloc (.cells #[.string h.n, .string h.v] 33)) := (Below.refl _ _).alloc (Nat.le_refl _) _
  have hhd := heap_alloc_new w (.cells #[.string h.n, .string h.v] 33)
  have hdr : ∀ wx : World, Below wx.heap.size wx wx.drew := fun wx => ⟨rfl, rfl, rfl, Nat.le_refl _, fun _ _ => rfl⟩
  have hfp := findPair_any pb cs tP lim tv tab h (w.alloc (.cells #[.string h.n, .string h.v] 33)).drew ((hgl.below hbel).below (hdr _)) ((ht.below hbel).below (hdr _))
  have hgvl : ∀ j, gv.ownBlock = some j → j < w.heap.size := fun j hj => owns_lt hown hj
  have hpk : pairK tab lim h = if pnN (numd tab) h = 0 then (if lim < tk h then (txs tab 0 4 h, tab) else (txs tab 64 6 h, addT tab lim h)) else (cnt 128 7 (pnN (numd tab) h), tab) := rfl
  have hnm := pnN_le (numd tab) h
  rw [numd_length] at hnm
  generalize pnN (numd tab) h = N at hfp hpk hnm
  have htk : tk h ≤ 524296 := by show h.n.size + h.v.size + 8 ≤ _; omega
  have HRM := hide (fun wx => room_any h wx (by omega) (by omega))
  generalize hte : tk h = t at HRM hpk htk
  have HFP := hide hfp
  have HBEL := hide hbel
  have HHD := hide hhd
  have HGL := hide hgl
  have HOW := hide hown
  have HGG := hide hgg
  have HGV := hide hgvl
  have HPK := hide hpk
  have HT := hide ht
  have HTP := hide htP
  clear hfp hbel hhd hgl ht hown hgg hgvl hpk hdr hte htP
  go_enter Tryd.func31, Tryd.ntmps31
  go_wp2
  go_cut [7] (fun s7 wx => s7 = .int .i64 (N : Int) ∧ Below (w.alloc (.cells #[.string h.n, .string h.v] 33)).heap.size (w.alloc (.cells #[.string h.n, .string h.v] 33)) wx)
  case first =>
    go_region_law (refine step_call rfl 39 Tryd.f39 Tryd.func39 (by kernel_rfl) rfl [.tmp 10, .tmp 11] #[45, 33] rfl [.pointer (some ⟨pb, 0, none⟩), .agg #[.string h.n, .string h.v]] (by simp [Act.eval, Act.put]) HFP.out ?_; rintro e w1 ⟨rfl, hb1⟩; refine ⟨_, rfl, ?_⟩; have HB1 := hide hb1; clear hb1)
    all_goals (go_wp2_with fail; go_meet; exact ⟨rfl, HB1.out.os, HB1.out.tape, HB1.out.output, HB1.out.size, HB1.out.block⟩)
  case rest =>
    obtain ⟨rfl, hb1⟩ := hcut
    obtain ⟨wa, hwa⟩ : ∃ wa, wa = wc := ⟨wc, rfl⟩
    subst hwa
    have hB1 : Below w.heap.size w wa := HBEL.out.trans (hb1.mono HBEL.out.size)
    have hg1 := HGL.out.below hB1
    have ho1 := owns_chg HOW.out (Chg.of_below (S := fun _ => False) hB1) (fun _ _ => id)
    have ht1 := HT.out.below hB1
    have hh1 : wa.heap[w.heap.size]? = some (.cells #[.string h.n, .string h.v] 33 (0, 0)) := by rw [hb1.block _ (lt_of_block HHD.out)]; exact HHD.out
    obtain ⟨g0, g1⟩ := hg1.num
    have HB1 := hide hB1
    have HG1 := hide hg1
    have HH1 := hide hh1
    have HO1 := hide ho1
    have HT1 := hide ht1
    clear hb1 hB1 hg1 ho1 hh1 ht1
    by_cases hN : ¬ 0 < N
    · have hpk := HPK.out
      rw [if_pos (by omega)] at hpk
      have q0 : wa.cell? ⟨w.heap.size, 0, none⟩ = some (.string h.n) := by rw [cell_of_row _ _ _ _ _ _ HH1.out]; rfl
      have q1 : wa.cell? ⟨w.heap.size, 1, none⟩ = some (.string h.v) := by rw [cell_of_row _ _ _ _ _ _ HH1.out]; rfl
      obtain ⟨z0, z1, z2⟩ := HT1.out.tb.cells
      have HP1 := hide hpk
      clear hpk z1 z2
      go_wp2
      go_cut [20, 25, 26] (fun _ _ s26 wx => s26 = .bool (decide (lim < t)) ∧ Below wa.heap.size wa wx)
      case first =>
        have hrm := HRM.out wa.drew
        have HRM' := hide hrm
        clear hrm
        go_region_law (refine step_call rfl 40 Tryd.f40 Tryd.func40 (by kernel_rfl) rfl [.tmp 19] #[33] rfl [.agg #[.string h.n, .string h.v]] (by simp [Act.eval, Act.put]) HRM'.out ?_; rintro e w1 ⟨rfl, hb1⟩; refine ⟨_, rfl, ?_⟩; have hb1' : Below wa.heap.size wa w1 := ⟨hb1.os, hb1.tape, hb1.output, hb1.size, hb1.block⟩; have x0 : w1.cell? ⟨pb, 0, none⟩ = some (.int .i64 (lim : Int)) := (HT1.out.below hb1').tb.cells.1; have HB2 := hide hb1'; clear hb1 hb1')
        all_goals (go_wp2_with fail; go_meet; exact ⟨rfl, HB2.out⟩)
      case rest =>
        obtain ⟨rfl, hb2⟩ := hcut
        have hB2 := HB1.out.trans (hb2.mono HB1.out.size)
        have hg2 := HG1.out.below hb2
        have ho2 := owns_chg HO1.out (Chg.of_below (S := fun _ => False) hb2) (fun _ _ => id)
        have ht2 := HT1.out.below hb2
        have hh2 : wc.heap[w.heap.size]? = some (.cells #[.string h.n, .string h.v] 33 (0, 0)) := by rw [hb2.block _ (lt_of_block HH1.out)]; exact HH1.out
        obtain ⟨na0, na1⟩ := hg2.nta
        obtain ⟨ad0, ad1⟩ := hg2.add
        have q0 : wc.cell? ⟨w.heap.size, 0, none⟩ = some (.string h.n) := by rw [cell_of_row _ _ _ _ _ _ hh2]; rfl
        have q1 : wc.cell? ⟨w.heap.size, 1, none⟩ = some (.string h.v) := by rw [cell_of_row _ _ _ _ _ _ hh2]; rfl
        have HB2 := hide hB2
        have HG2 := hide hg2
        have HO2 := hide ho2
        have HT2 := hide ht2
        have HH2 := hide hh2
        clear hb2 hB2 hg2 ho2 ht2 hh2 g0 g1 z0
        by_cases hlt : lim < t
        · have hpk := HP1.out
          rw [if_pos hlt] at hpk
          have HP2 := hide hpk
          have hat := appendTexts_any pb cs tP lim tv tab 0 4 h gv l wc HG2.out HT2.out HO2.out HGG.out hl hn hv (by omega) (by decide) (by decide)
          have HAT := hide hat
          clear hpk hat
          go_wp2_with fail
          refine HAT.out.mono ?_
          rintro e w3 ⟨v3, rfl, hl3⟩
          have HF := hide (Pkd.below HB2.out (Pkd.of_laid hl3 HO2.out HT2.out HTP.out))
          clear hl3
          go_wp2
          go_ret
          refine ⟨v3, cs, tv, rfl, ?_⟩
          rw [HP2.out]
          exact HF.out
        · have hpk := HP1.out
          rw [if_neg hlt] at hpk
          have HP2 := hide hpk
          have hat := appendTexts_any pb cs tP lim tv tab 64 6 h gv l wc HG2.out HT2.out HO2.out HGG.out hl hn hv (by omega) (by decide) (by decide)
          have HAT := hide hat
          clear hpk hat
          go_wp2_with fail
          refine HAT.out.mono ?_
          rintro e w3 ⟨v3, rfl, hl3⟩
          have hnb : gv.ownBlock ≠ some w.heap.size := fun e => by have := HGV.out _ e; omega
          have hh3 := hl3.keep HH2.out hnb
          have q0 : w3.cell? ⟨w.heap.size, 0, none⟩ = some (.string h.n) := by rw [cell_of_row _ _ _ _ _ _ hh3]; rfl
          have q1 : w3.cell? ⟨w.heap.size, 1, none⟩ = some (.string h.v) := by rw [cell_of_row _ _ _ _ _ _ hh3]; rfl
          have hF := Pkd.below HB2.out (Pkd.of_laid hl3 HO2.out HT2.out HTP.out)
          have HF := hide hF
          have HH3 := hide hh3
          have hcn := clone_any h.n w3.drew (by omega)
          have HCN := hide hcn
          have HCV := hide (fun wx => clone_any h.v wx (by omega))
          have HAD := hide (fun cs tv wx ht => add_any pb cs tP lim tv tab h wx ht (by omega) (by omega))
          clear hF hl3 hh3 hcn hnb
          go_wp2
          go_region_law (first
            | (refine step_call rfl 43 Tryd.f43 Tryd.func43 (by kernel_rfl) rfl [.tmp 41] #[9] rfl [.string h.n] (by simp [Act.eval, Act.put]) HCN.out ?_; rintro e w4 ⟨rfl, hb4⟩; refine ⟨_, rfl, ?_⟩; have hb4' : Below w3.heap.size w3 w4 := ⟨hb4.os, hb4.tape, hb4.output, hb4.size, hb4.block⟩; have x1 : w4.cell? ⟨w.heap.size, 1, none⟩ = some (.string h.v) := (by rw [hb4'.cell (p := ⟨w.heap.size, 1, none⟩) (lt_of_block HH3.out)]; exact q1); have HB4 := hide hb4'; clear hb4 hb4')
            | (refine step_call rfl 43 Tryd.f43 Tryd.func43 (by kernel_rfl) rfl [.tmp 44] #[9] rfl [.string h.v] (by simp [Act.eval, Act.put]) (HCV.out w4) ?_; rintro e w5 ⟨rfl, hb5⟩; refine ⟨_, rfl, ?_⟩; have HB5 := hide (HB4.out.trans (hb5.mono HB4.out.size)); clear hb5)
            | (refine step_call rfl 42 Tryd.f42 Tryd.func42 (by kernel_rfl) rfl [.tmp 39, .tmp 46] #[45, 33] rfl [.pointer (some ⟨pb, 0, none⟩), .agg #[.string h.n, .string h.v]] (by simp [Act.eval, Act.put]) (HAD.out cs tv w5 (HF.out.st.below HB5.out)) ?_; rintro e w6 ⟨rfl, cs6, tv6, h6⟩; refine ⟨_, rfl, ?_⟩; have HF6 := hide (Pkd.add HF.out HB5.out h6 HTP.out); clear h6))
          all_goals go_wp2
          all_goals go_ret
          all_goals refine ⟨v3, cs6, tv6, rfl, ?_⟩
          all_goals rw [HP2.out]
          all_goals exact HF6.out
    · have hN' : 0 < N := by omega
      have hpk := HPK.out
      rw [if_neg (by omega)] at hpk
      have HP1 := hide hpk
      have hac := appendCount_any 128 7 N gv l wa HO1.out (by omega) (by omega) (by decide) (by decide) (by omega)
      have HAC := hide hac
      clear hpk hac hN
      go_wp2_with fail
      refine HAC.out.mono ?_
      rintro e w2 ⟨v2, rfl, hl2⟩
      have HF := hide (Pkd.below HB1.out (Pkd.of_laid hl2 HO1.out HT1.out HTP.out))
      clear hl2
      go_wp2
      go_ret
      refine ⟨v2, cs, tv, rfl, ?_⟩
      rw [HP1.out]
      exact HF.out
end Go.Proofs.YtpmmpbklpclnhaaDoor
