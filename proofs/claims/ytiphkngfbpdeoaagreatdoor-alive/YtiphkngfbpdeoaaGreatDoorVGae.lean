import Derived.Test.YtiphkngfbpdeoaaGreatDoorVGad
import Derived.Test.YtiphkngfbpdeoaaGreatDoorVGab
import Derived.Defers
import Derived.Recover
set_option linter.unusedVariables false
set_option linter.unusedSimpArgs false
namespace Go.Proofs.YtiphkngfbpdeoaaGreatDoor
set_option linter.unusedVariables false
set_option linter.unusedSimpArgs false
open Go.RowKit
structure Pkd (w w' : World) (pb : Nat) (cs cs' : Array Value) (tP : TypeId) (lim : Nat) (tv tv' : Value) (tab' : List HP) (gv v : Value) (l' : List UInt8) : Prop where
  own : w'.ownsRow 0 5 1 v l'.length (l'.map B)
  st : TbS w' pb cs' tP lim tv' tab'
  cs3 : ∀ i, 3 ≤ i → cs'[i]? = cs[i]?
  chg : Chg (fun j => gv.ownBlock = some j ∨ TouchT pb tv j) w w'
  fresh : ∀ j, v.ownBlock = some j → gv.ownBlock = some j ∨ w.heap.size ≤ j
  tfresh : ∀ j, tv'.ownBlock = some j → tv.ownBlock = some j ∨ w.heap.size ≤ j
theorem Laid.tab {w w' : World} {gv v : Value} {l l0 : List UInt8} {pb : Nat} {cs : Array Value} {tP : TypeId} {lim : Nat} {tv : Value} {tab : List HP} (h : Laid w gv w' v l) (hown : w.ownsRow 0 5 1 gv l0.length (l0.map B)) (ht : TbS w pb cs tP lim tv tab) (htP : tP ≠ 5) : TbS w' pb cs tP lim tv tab :=
  ht.chg h.chg (fun e => owns_ne hown ht.tb.blk (fun e => htP e.symm) e) (fun j hj e => rows_ne hown ht.row (by decide) e hj)
theorem Pkd.of_laid {w w' : World} {gv v : Value} {l l0 : List UInt8} {pb : Nat} {cs : Array Value} {tP : TypeId} {lim : Nat} {tv : Value} {tab : List HP} (h : Laid w gv w' v l) (hown : w.ownsRow 0 5 1 gv l0.length (l0.map B)) (ht : TbS w pb cs tP lim tv tab) (htP : tP ≠ 5) : Pkd w w' pb cs cs tP lim tv tv tab gv v l :=
  ⟨h.own, h.tab hown ht htP, fun _ _ => rfl, h.chg.mono fun _ _ e => Or.inl e, h.fresh, fun _ hj => Or.inl hj⟩
theorem Pkd.add {w w3 w5 w6 : World} {gv v : Value} {l : List UInt8} {pb : Nat} {cs cs' : Array Value} {tP : TypeId} {lim : Nat} {tv tv' : Value} {tab tab' : List HP} (h : Pkd w w3 pb cs cs tP lim tv tv tab gv v l) (hb : Below w3.heap.size w3 w5) (h6 : TbTo w5 w6 pb cs cs' tP lim tv tv' tab') (htP : tP ≠ 5) : Pkd w w6 pb cs cs' tP lim tv tv' tab' gv v l := by
  have h35 := owns_chg h.own (Chg.of_below (S := fun _ => False) hb) (fun _ _ => id)
  have ht5 := h.st.below hb
  have hsz := h.chg.size
  refine ⟨owns_chg h35 h6.chg ?_, h6.st, h6.cs3, (h.chg.then_below hb).trans (h6.chg.mono fun j _ e => Or.inr (Or.inr e)), h.fresh, fun j hj => ?_⟩
  · rintro j hj (e | e)
    · subst e; exact owns_ne h35 ht5.tb.blk (fun e => htP e.symm) hj
    · exact rows_ne h35 ht5.row (by decide) hj e
  · rcases h6.own j hj with e | e
    · exact Or.inl e
    · exact Or.inr (Nat.le_trans hsz (Nat.le_trans hb.size e))
theorem Pkd.below {w wx w' : World} {gv v : Value} {l : List UInt8} {pb : Nat} {cs cs' : Array Value} {tP : TypeId} {lim : Nat} {tv tv' : Value} {tab' : List HP} (hb : Below w.heap.size w wx) (h : Pkd wx w' pb cs cs' tP lim tv tv' tab' gv v l) : Pkd w w' pb cs cs' tP lim tv tv' tab' gv v l :=
  ⟨h.own, h.st, h.cs3, (Chg.of_below hb).trans (h.chg.mono fun _ _ e => Or.inr e), fun j hj => (h.fresh j hj).imp_right fun e => Nat.le_trans hb.size e, fun j hj => (h.tfresh j hj).imp_right fun e => Nat.le_trans hb.size e⟩
set_option maxRecDepth 100000 in
set_option maxHeartbeats 800000 in
theorem appendPair_any (pb : Nat) (cs : Array Value) (tP : TypeId) (lim : Nat) (tv : Value) (tab : List HP) (h : HP) (gv : Value) (l : List UInt8) (w : World) (hgl : Gl w) (ht : TbS w pb cs tP lim tv tab) (htP : tP ≠ 5) (hown : w.ownsRow 0 5 1 gv l.length (l.map B)) (hgg : ∀ j, gv.ownBlock = some j → 7 ≤ j)
    (hl : l.length ≤ 134217728) (hn : h.n.size ≤ 262144) (hv : h.v.size ≤ 262144) :
    Calls Tryz.prog 181 #[.pointer (some ⟨pb, 0, none⟩), gv, .agg #[.string h.n, .string h.v]] w fun e w' => ∃ v cs' tv', e = .returned v ∧ Pkd w w' pb cs cs' tP lim tv tv' (pairK tab lim h).2 gv v (l ++ (pairK tab lim h).1) := by
  have hfew := ht.few
  have hlim := ht.small
  have hbel : Below w.heap.size w (w.alloc (.cells #[.string h.n, .string h.v] 147)) := (Below.refl _ _).alloc (Nat.le_refl _) _
  have hhd := heap_alloc_new w (.cells #[.string h.n, .string h.v] 147)
  have hdr : ∀ wx : World, Below wx.heap.size wx wx.drew := fun wx => ⟨rfl, rfl, rfl, Nat.le_refl _, fun _ _ => rfl⟩
  have hfp := findPair_any pb cs tP lim tv tab h (w.alloc (.cells #[.string h.n, .string h.v] 147)).drew ((hgl.below hbel).below (hdr _)) ((ht.below hbel).below (hdr _))
  have hgvl : ∀ j, gv.ownBlock = some j → j < w.heap.size := fun j hj => owns_lt hown hj
  have hpk : pairK tab lim h = if pnN (numd tab) h = 0 then (if lim < tk h then (txs tab 0 4 h, tab) else (txs tab 64 6 h, addT tab lim h)) else (cnt 128 7 (pnN (numd tab) h), tab) := rfl
  have hnm := pnN_le (numd tab) h
  rw [numd_length] at hnm
  generalize pnN (numd tab) h = N at hfp hpk hnm
  have htk : tk h ≤ 524296 := by show h.n.size + h.v.size + 8 ≤ _; omega
  have HRM := hide (fun wx => room_any h wx (by omega) (by omega))
  generalize hte : tk h = t at HRM hpk htk
  have HFP := hide hfp
  have HBEL := hide hbel
  have HHD := hide hhd
  have HGL := hide hgl
  have HOW := hide hown
  have HGG := hide hgg
  have HGV := hide hgvl
  have HPK := hide hpk
  have HT := hide ht
  have HTP := hide htP
  clear hfp hbel hhd hgl ht hown hgg hgvl hpk hdr hte htP
  go_enter Tryz.func181, Tryz.ntmps181
  go_wp2
  go_cut [7] (fun s7 wx => s7 = .int .i64 (N : Int) ∧ Below (w.alloc (.cells #[.string h.n, .string h.v] 147)).heap.size (w.alloc (.cells #[.string h.n, .string h.v] 147)) wx)
  case first =>
    go_region_law (refine step_call rfl 196 Tryz.f196 Tryz.func196 (by kernel_rfl) rfl [.tmp 10, .tmp 11] #[85, 147] rfl [.pointer (some ⟨pb, 0, none⟩), .agg #[.string h.n, .string h.v]] (by simp [Act.eval, Act.put]) HFP.out ?_; rintro e w1 ⟨rfl, hb1⟩; refine ⟨_, rfl, ?_⟩; have HB1 := hide hb1; clear hb1)
    all_goals (go_wp2_with fail; go_meet; exact ⟨rfl, HB1.out.os, HB1.out.tape, HB1.out.output, HB1.out.size, HB1.out.block⟩)
  case rest =>
    obtain ⟨rfl, hb1⟩ := hcut
    obtain ⟨wa, hwa⟩ : ∃ wa, wa = wc := ⟨wc, rfl⟩
    subst hwa
    have hB1 : Below w.heap.size w wa := HBEL.out.trans (hb1.mono HBEL.out.size)
    have hg1 := HGL.out.below hB1
    have ho1 := owns_chg HOW.out (Chg.of_below (S := fun _ => False) hB1) (fun _ _ => id)
    have ht1 := HT.out.below hB1
    have hh1 : wa.heap[w.heap.size]? = some (.cells #[.string h.n, .string h.v] 147 (0, 0)) := by rw [hb1.block _ (lt_of_block HHD.out)]; exact HHD.out
    obtain ⟨g0, g1⟩ := hg1.num
    have HB1 := hide hB1
    have HG1 := hide hg1
    have HH1 := hide hh1
    have HO1 := hide ho1
    have HT1 := hide ht1
    clear hb1 hB1 hg1 ho1 hh1 ht1
    by_cases hN : ¬ 0 < N
    · have hpk := HPK.out
      rw [if_pos (by omega)] at hpk
      have q0 : wa.cell? ⟨w.heap.size, 0, none⟩ = some (.string h.n) := by rw [cell_of_row _ _ _ _ _ _ HH1.out]; rfl
      have q1 : wa.cell? ⟨w.heap.size, 1, none⟩ = some (.string h.v) := by rw [cell_of_row _ _ _ _ _ _ HH1.out]; rfl
      obtain ⟨z0, z1, z2⟩ := HT1.out.tb.cells
      have HP1 := hide hpk
      clear hpk z1 z2
      go_wp2
      go_cut [20, 25, 26] (fun _ _ s26 wx => s26 = .bool (decide (lim < t)) ∧ Below wa.heap.size wa wx)
      case first =>
        have hrm := HRM.out wa.drew
        have HRM' := hide hrm
        clear hrm
        go_region_law (refine step_call rfl 195 Tryz.f195 Tryz.func195 (by kernel_rfl) rfl [.tmp 19] #[147] rfl [.agg #[.string h.n, .string h.v]] (by simp [Act.eval, Act.put]) HRM'.out ?_; rintro e w1 ⟨rfl, hb1⟩; refine ⟨_, rfl, ?_⟩; have hb1' : Below wa.heap.size wa w1 := ⟨hb1.os, hb1.tape, hb1.output, hb1.size, hb1.block⟩; have x0 : w1.cell? ⟨pb, 0, none⟩ = some (.int .i64 (lim : Int)) := (HT1.out.below hb1').tb.cells.1; have HB2 := hide hb1'; clear hb1 hb1')
        all_goals (go_wp2_with fail; go_meet; exact ⟨rfl, HB2.out⟩)
      case rest =>
        obtain ⟨rfl, hb2⟩ := hcut
        have hB2 := HB1.out.trans (hb2.mono HB1.out.size)
        have hg2 := HG1.out.below hb2
        have ho2 := owns_chg HO1.out (Chg.of_below (S := fun _ => False) hb2) (fun _ _ => id)
        have ht2 := HT1.out.below hb2
        have hh2 : wc.heap[w.heap.size]? = some (.cells #[.string h.n, .string h.v] 147 (0, 0)) := by rw [hb2.block _ (lt_of_block HH1.out)]; exact HH1.out
        obtain ⟨na0, na1⟩ := hg2.nta
        obtain ⟨ad0, ad1⟩ := hg2.add
        have q0 : wc.cell? ⟨w.heap.size, 0, none⟩ = some (.string h.n) := by rw [cell_of_row _ _ _ _ _ _ hh2]; rfl
        have q1 : wc.cell? ⟨w.heap.size, 1, none⟩ = some (.string h.v) := by rw [cell_of_row _ _ _ _ _ _ hh2]; rfl
        have HB2 := hide hB2
        have HG2 := hide hg2
        have HO2 := hide ho2
        have HT2 := hide ht2
        have HH2 := hide hh2
        clear hb2 hB2 hg2 ho2 ht2 hh2 g0 g1 z0
        by_cases hlt : lim < t
        · have hpk := HP1.out
          rw [if_pos hlt] at hpk
          have HP2 := hide hpk
          have hat := appendTexts_any pb cs tP lim tv tab 0 4 h gv l wc HG2.out HT2.out HO2.out HGG.out hl hn hv (by omega) (by decide) (by decide)
          have HAT := hide hat
          clear hpk hat
          go_wp2_with fail
          refine HAT.out.mono ?_
          rintro e w3 ⟨v3, rfl, hl3⟩
          have HF := hide (Pkd.below HB2.out (Pkd.of_laid hl3 HO2.out HT2.out HTP.out))
          clear hl3
          go_wp2
          go_ret
          refine ⟨v3, cs, tv, rfl, ?_⟩
          rw [HP2.out]
          exact HF.out
        · have hpk := HP1.out
          rw [if_neg hlt] at hpk
          have HP2 := hide hpk
          have hat := appendTexts_any pb cs tP lim tv tab 64 6 h gv l wc HG2.out HT2.out HO2.out HGG.out hl hn hv (by omega) (by decide) (by decide)
          have HAT := hide hat
          clear hpk hat
          go_wp2_with fail
          refine HAT.out.mono ?_
          rintro e w3 ⟨v3, rfl, hl3⟩
          have hnb : gv.ownBlock ≠ some w.heap.size := fun e => by have := HGV.out _ e; omega
          have hh3 := hl3.keep HH2.out hnb
          have q0 : w3.cell? ⟨w.heap.size, 0, none⟩ = some (.string h.n) := by rw [cell_of_row _ _ _ _ _ _ hh3]; rfl
          have q1 : w3.cell? ⟨w.heap.size, 1, none⟩ = some (.string h.v) := by rw [cell_of_row _ _ _ _ _ _ hh3]; rfl
          have hF := Pkd.below HB2.out (Pkd.of_laid hl3 HO2.out HT2.out HTP.out)
          have HF := hide hF
          have HH3 := hide hh3
          have hcn := clone_any h.n w3.drew (by omega)
          have HCN := hide hcn
          have HCV := hide (fun wx => clone_any h.v wx (by omega))
          have HAD := hide (fun cs tv wx ht => add_any pb cs tP lim tv tab h wx ht (by omega) (by omega))
          clear hF hl3 hh3 hcn hnb
          go_wp2
          go_region_law (first
            | (refine step_call rfl 101 Tryz.f101 Tryz.func101 (by kernel_rfl) rfl [.tmp 41] #[9] rfl [.string h.n] (by simp [Act.eval, Act.put]) HCN.out ?_; rintro e w4 ⟨rfl, hb4⟩; refine ⟨_, rfl, ?_⟩; have hb4' : Below w3.heap.size w3 w4 := ⟨hb4.os, hb4.tape, hb4.output, hb4.size, hb4.block⟩; have x1 : w4.cell? ⟨w.heap.size, 1, none⟩ = some (.string h.v) := (by rw [hb4'.cell (p := ⟨w.heap.size, 1, none⟩) (lt_of_block HH3.out)]; exact q1); have HB4 := hide hb4'; clear hb4 hb4')
            | (refine step_call rfl 101 Tryz.f101 Tryz.func101 (by kernel_rfl) rfl [.tmp 44] #[9] rfl [.string h.v] (by simp [Act.eval, Act.put]) (HCV.out w4) ?_; rintro e w5 ⟨rfl, hb5⟩; refine ⟨_, rfl, ?_⟩; have HB5 := hide (HB4.out.trans (hb5.mono HB4.out.size)); clear hb5)
            | (refine step_call rfl 179 Tryz.f179 Tryz.func179 (by kernel_rfl) rfl [.tmp 39, .tmp 46] #[85, 147] rfl [.pointer (some ⟨pb, 0, none⟩), .agg #[.string h.n, .string h.v]] (by simp [Act.eval, Act.put]) (HAD.out cs tv w5 (HF.out.st.below HB5.out)) ?_; rintro e w6 ⟨rfl, cs6, tv6, h6⟩; refine ⟨_, rfl, ?_⟩; have HF6 := hide (Pkd.add HF.out HB5.out h6 HTP.out); clear h6))
          all_goals go_wp2
          all_goals go_ret
          all_goals refine ⟨v3, cs6, tv6, rfl, ?_⟩
          all_goals rw [HP2.out]
          all_goals exact HF6.out
    · have hN' : 0 < N := by omega
      have hpk := HPK.out
      rw [if_neg (by omega)] at hpk
      have HP1 := hide hpk
      have hac := appendCount_any 128 7 N gv l wa HO1.out (by omega) (by omega) (by decide) (by decide) (by omega)
      have HAC := hide hac
      clear hpk hac hN
      go_wp2_with fail
      refine HAC.out.mono ?_
      rintro e w2 ⟨v2, rfl, hl2⟩
      have HF := hide (Pkd.below HB1.out (Pkd.of_laid hl2 HO1.out HT1.out HTP.out))
      clear hl2
      go_wp2
      go_ret
      refine ⟨v2, cs, tv, rfl, ?_⟩
      rw [HP1.out]
      exact HF.out
end Go.Proofs.YtiphkngfbpdeoaaGreatDoor
namespace Go.Proofs.YtiphkngfbpdeoaaGreatDoor
set_option linter.unusedVariables false
set_option linter.unusedSimpArgs false
open Go.RowKit
theorem Pkd.lay {w w1 w2 : World} {gv v v2 : Value} {l l2 : List UInt8} {pb : Nat} {cs cs1 : Array Value} {tP : TypeId} {lim : Nat} {tv tv1 : Value} {tab : List HP} (h : Pkd w w1 pb cs cs1 tP lim tv tv1 tab gv v l) (k : Laid w1 v w2 v2 l2) (htP : tP ≠ 5) : Pkd w w2 pb cs cs1 tP lim tv tv1 tab gv v2 l2 :=
  ⟨k.own, k.tab h.own h.st htP, h.cs3, h.chg.trans (k.chg.mono fun j _ e => by
    rcases h.fresh j e with a | a
    · exact Or.inr (Or.inl a)
    · exact Or.inl a), fun j hj => by
    rcases k.fresh j hj with e | e
    · exact h.fresh j e
    · exact Or.inr (Nat.le_trans h.chg.size e), h.tfresh⟩
theorem Pkd.turn {w w3 w6 : World} {gv v : Value} {l : List UInt8} {pb : Nat} {cs cs1 cs' : Array Value} {tP : TypeId} {lim lim' : Nat} {tv tv1 tv' : Value} {tab tab' : List HP} (h : Pkd w w3 pb cs cs1 tP lim tv tv1 tab gv v l) (h6 : TbTo w3 w6 pb cs1 cs' tP lim' tv1 tv' tab') (htP : tP ≠ 5) : Pkd w w6 pb cs cs' tP lim' tv tv' tab' gv v l := by
  have hsz := h.chg.size
  refine ⟨owns_chg h.own h6.chg ?_, h6.st, fun i hi => (h6.cs3 i hi).trans (h.cs3 i hi), h.chg.trans (h6.chg.mono ?_), h.fresh, fun j hj => ?_⟩
  · rintro j hj (e | e)
    · subst e; exact owns_ne h.own h.st.tb.blk (fun e => htP e.symm) hj
    · exact rows_ne h.own h.st.row (by decide) hj e
  · rintro j _ (e | e)
    · exact Or.inr (Or.inr (Or.inl e))
    · rcases h.tfresh j e with a | a
      · exact Or.inr (Or.inr (Or.inr a))
      · exact Or.inl a
  · rcases h6.own j hj with e | e
    · exact h.tfresh j e
    · exact Or.inr (Nat.le_trans hsz e)
theorem Pkd.trans {w w1 w2 : World} {gv v v2 : Value} {l l2 : List UInt8} {pb : Nat} {cs cs1 cs2 : Array Value} {tP : TypeId} {lim lim2 : Nat} {tv tv1 tv2 : Value} {tab tab2 : List HP} (h : Pkd w w1 pb cs cs1 tP lim tv tv1 tab gv v l) (k : Pkd w1 w2 pb cs1 cs2 tP lim2 tv1 tv2 tab2 v v2 l2) : Pkd w w2 pb cs cs2 tP lim2 tv tv2 tab2 gv v2 l2 := by
  have hsz := h.chg.size
  refine ⟨k.own, k.st, fun i hi => (k.cs3 i hi).trans (h.cs3 i hi), h.chg.trans (k.chg.mono ?_), fun j hj => ?_, fun j hj => ?_⟩
  · rintro j _ (e | e | e)
    · rcases h.fresh j e with a | a
      · exact Or.inr (Or.inl a)
      · exact Or.inl a
    · exact Or.inr (Or.inr (Or.inl e))
    · rcases h.tfresh j e with a | a
      · exact Or.inr (Or.inr (Or.inr a))
      · exact Or.inl a
  · rcases k.fresh j hj with e | e
    · exact h.fresh j e
    · exact Or.inr (Nat.le_trans hsz e)
  · rcases k.tfresh j hj with e | e
    · exact h.tfresh j e
    · exact Or.inr (Nat.le_trans hsz e)
def nCells (l : List Nat) : List Value := l.map fun (x : Nat) => Value.int .i64 (x : Int)
def HsIn (w : World) (v : Value) (hs : List HP) : Prop :=
  (v = .slice none 0 0 ∧ hs = []) ∨ ∃ bb off cap, v = .slice (some ⟨bb, off, none⟩) hs.length cap ∧ bb < w.heap.size ∧ ∀ i (h : i < hs.length), w.cell? ⟨bb, off + i * 2, none⟩ = some (.string hs[i].n) ∧ w.cell? ⟨bb, off + i * 2 + 1, none⟩ = some (.string hs[i].v)
theorem HsIn.chg {S : Nat → Prop} {w w' : World} {v : Value} {hs : List HP} (h : HsIn w v hs) (hc : Chg S w w') (hsep : ∀ j, v.ownBlock = some j → ¬ S j) : HsIn w' v hs := by
  rcases h with h | ⟨bb, off, cap, rfl, h1, h2⟩
  · exact Or.inl h
  · refine Or.inr ⟨bb, off, cap, rfl, Nat.lt_of_lt_of_le h1 hc.size, fun i hi => ?_⟩
    rw [hc.cell (p := ⟨bb, off + i * 2, none⟩) h1 (hsep bb rfl), hc.cell (p := ⟨bb, off + i * 2 + 1, none⟩) h1 (hsep bb rfl)]
    exact h2 i hi
theorem HsIn.len {w : World} {v : Value} {hs : List HP} (h : HsIn w v hs) : ∃ sv cv, v = .slice sv hs.length cv := by
  rcases h with ⟨rfl, rfl⟩ | ⟨bb, off, cap, rfl, _⟩
  · exact ⟨_, _, rfl⟩
  · exact ⟨_, _, rfl⟩
theorem limsK_le {ls : List Nat} {lim : Nat} {l : List HP} : (limsK ls lim l).1.length ≤ ls.length * 1048580 ∨ ∃ x ∈ ls, 256 < x := by
  induction ls generalizing lim l with
  | nil => left; simp [limsK]
  | cons x r ih =>
    by_cases hx : 256 < x
    · exact Or.inr ⟨x, by simp, hx⟩
    · rcases ih (lim := x) (l := shr l x) with h | ⟨y, hy, h⟩
      · left
        have := cnt_len 32 5 x (by omega)
        simp only [limsK, List.length_append, List.length_cons]
        omega
      · exact Or.inr ⟨y, by simp [hy], h⟩
theorem limsK_take {ls : List Nat} (h : ∀ x ∈ ls, x ≤ 256) (k lim : Nat) (l : List HP) : (limsK (ls.take k) lim l).1.length ≤ ls.length * 1048580 := by
  rcases limsK_le (ls := ls.take k) (lim := lim) (l := l) with e | ⟨x, hx, e⟩
  · rw [List.length_take] at e
    exact Nat.le_trans e (Nat.mul_le_mul_right _ (by omega))
  · have := h x (List.mem_of_mem_take hx); omega
theorem txs_le (tab : List HP) (f k : Nat) (h : HP) (hl : tab.length ≤ 1048000) (hn : h.n.size ≤ 262144) (hv : h.v.size ≤ 262144) : (txs tab f k h).length ≤ 8388608 := by
  have h1 := nmF_le (numd tab) h.n
  rw [numd_length] at h1
  have h2 := cnt_len f k (nmF (numd tab) h.n) (by omega)
  have h3 := txt_le h.n.data.toList hn
  have h4 := txt_le h.v.data.toList hv
  unfold txs
  simp only [List.length_append]
  split
  · omega
  · simp; omega
theorem pairK_le (tab : List HP) (lim : Nat) (h : HP) (hl : tab.length ≤ 1048000) (hn : h.n.size ≤ 262144) (hv : h.v.size ≤ 262144) : (pairK tab lim h).1.length ≤ 8388608 := by
  unfold pairK
  split
  · split
    · exact txs_le _ _ _ _ hl hn hv
    · exact txs_le _ _ _ _ hl hn hv
  · have h1 := pnN_le (numd tab) h
    rw [numd_length] at h1
    have := cnt_len 128 7 (pnN (numd tab) h) (by omega)
    show (cnt 128 7 (pnN (numd tab) h)).length ≤ _
    omega
theorem pairK_fit {tab : List HP} {lim : Nat} {h : HP} (hf : szT tab ≤ lim) : szT (pairK tab lim h).2 ≤ lim := by
  unfold pairK
  split
  · split
    · exact hf
    · exact addT_size _ _ _ hf
  · exact hf
theorem pairsK_fit {hs : List HP} {tab : List HP} {lim : Nat} (hf : szT tab ≤ lim) : szT (pairsK hs tab lim).2 ≤ lim := by
  induction hs generalizing tab with
  | nil => exact hf
  | cons x r ih => simp only [pairsK]; exact ih (pairK_fit hf)
theorem pairsK_le {hs : List HP} {tab : List HP} {lim : Nat} (hf : szT tab ≤ lim) (hl : lim ≤ 256) (hh : ∀ h ∈ hs, h.n.size ≤ 262144 ∧ h.v.size ≤ 262144) : (pairsK hs tab lim).1.length ≤ hs.length * 8388608 := by
  induction hs generalizing tab with
  | nil => simp [pairsK]
  | cons x r ih =>
    have hx := hh x (by simp)
    have h1 := szT_len tab
    have h2 := pairK_le tab lim x (by omega) hx.1 hx.2
    have h3 := ih (tab := (pairK tab lim x).2) (pairK_fit hf) (fun y hy => hh y (by simp [hy]))
    simp only [pairsK, List.length_append, List.length_cons]
    omega
end Go.Proofs.YtiphkngfbpdeoaaGreatDoor
namespace Go.Proofs.YtiphkngfbpdeoaaGreatDoor
set_option linter.unusedVariables false
set_option linter.unusedSimpArgs false
open Go.RowKit
theorem Pkd.gl {w w' : World} {v : Value} {l : List UInt8} {pb : Nat} {cs cs' : Array Value} {tP : TypeId} {lim : Nat} {tv tv' : Value} {tab' : List HP} (h : Pkd w w' pb cs cs' tP lim tv tv' tab' (.slice none 0 0) v l) (hg : Gl w) (hpb : 7 ≤ pb) (htv : ∀ j, tv.ownBlock = some j → 7 ≤ j) : Gl w' := by
  refine hg.chg h.chg ?_
  rintro j hj (e | e | e)
  · simp [Value.ownBlock] at e
  · omega
  · have := htv j e; omega
theorem Pkd.gg {w w' : World} {v : Value} {l : List UInt8} {pb : Nat} {cs cs' : Array Value} {tP : TypeId} {lim : Nat} {tv tv' : Value} {tab' : List HP} (h : Pkd w w' pb cs cs' tP lim tv tv' tab' (.slice none 0 0) v l) (hg : Gl w) : ∀ j, v.ownBlock = some j → 7 ≤ j := fun j hj => by
  rcases h.fresh j hj with e | e
  · simp [Value.ownBlock] at e
  · exact Nat.le_trans hg.lt e
theorem Pkd.alloc {w w' : World} {gv v : Value} {l : List UInt8} {pb : Nat} {cs cs' : Array Value} {tP : TypeId} {lim : Nat} {tv tv' : Value} {tab' : List HP} (h : Pkd w w' pb cs cs' tP lim tv tv' tab' gv v l) (o : Obj) : Pkd w (w'.alloc o) pb cs cs' tP lim tv tv' tab' gv v l :=
  ⟨h.own.alloc _, h.st.below ((Below.refl _ _).alloc (Nat.le_refl _) _), h.cs3, h.chg.alloc o, h.fresh, h.tfresh⟩
end Go.Proofs.YtiphkngfbpdeoaaGreatDoor
namespace Go.Proofs.YtiphkngfbpdeoaaGreatDoor
set_option linter.unusedVariables false
set_option linter.unusedSimpArgs false
open Go.RowKit
def badI (hs : List HP) (k : Nat) : Int := match (hs.drop k).findIdx? (fun h => !prB h) with
  | some i => ((k + i : Nat) : Int)
  | none => -1
theorem badI_hit {hs : List HP} {k : Nat} (h : k < hs.length) (hb : prB hs[k] = false) : badI hs k = k := by
  unfold badI
  rw [List.drop_eq_getElem_cons h, List.findIdx?_cons, hb]
  simp
theorem badI_miss {hs : List HP} {k : Nat} (h : k < hs.length) (hb : prB hs[k] = true) : badI hs k = badI hs (k + 1) := by
  unfold badI
  rw [List.drop_eq_getElem_cons h, List.findIdx?_cons, hb]
  cases hx : (hs.drop (k + 1)).findIdx? (fun h => !prB h) with
  | none => simp
  | some i => simp; omega
theorem badI_end {hs : List HP} {k : Nat} (h : hs.length ≤ k) : badI hs k = -1 := by
  unfold badI
  rw [List.drop_of_length_le h]
  rfl
theorem badI_all (hs : List HP) : decide (0 ≤ badI hs 0) = !hs.all prB := by
  unfold badI
  rw [List.drop_zero]
  cases hx : hs.findIdx? (fun h => !prB h) with
  | none =>
    have := List.findIdx?_eq_none_iff.1 hx
    have h2 : hs.all prB = true := by
      rw [List.all_eq_true]
      intro x hm
      have := this x hm
      simpa using this
    rw [h2]
    decide
  | some i =>
    obtain ⟨h1, h2, _⟩ := List.findIdx?_eq_some_iff_getElem.1 hx
    have h3 : hs.all prB = false := by
      rw [List.all_eq_false]
      exact ⟨_, List.getElem_mem h1, by simpa using h2⟩
    rw [h3]
    simp
    try omega
set_option maxRecDepth 100000 in
set_option maxHeartbeats 800000 in
theorem indexFunc_any (v : Value) (hs : List HP) (w : World) (hin : HsIn w v hs) (hl : hs.length ≤ 1099511627776) (hok : ∀ h ∈ hs, h.n.size ≤ 281474976710656 ∧ h.v.size ≤ 281474976710656) :
    Calls Tryz.prog 137 #[v, .func (.func 99) #[] #[]] w fun e w' => e = .returned (.int .i64 (badI hs 0)) ∧ Below w.heap.size w w' := by
  obtain ⟨ss, cc, hsv⟩ := hin.len
  subst hsv
  have HIN := hide hin
  have HOK := hide hok
  clear hin hok
  go_enter Tryz.func137, Tryz.ntmps137
  go_wp2
  go_loopw [8] (fun i wr => ∃ k : Nat, i = .int .i64 (k : Int) ∧ k ≤ hs.length ∧ badI hs 0 = badI hs k ∧ Below w.heap.size w wr) (fun i _ => hs.length - (intOf i).toNat)
  case atStart => exact ⟨0, rfl, Nat.zero_le _, rfl, Below.refl _ _⟩
  case round =>
    obtain ⟨k, rfl, hk, heq, hbel⟩ := hrel
    by_cases hlt : k < hs.length
    · rcases HIN.out.chg (Chg.of_below (S := fun _ => False) hbel) (fun _ _ => id) with ⟨h1, h2⟩ | ⟨bb, off, cap, h1, h2, h3⟩
      · rw [h2] at hlt; simp at hlt
      · simp only [Value.slice.injEq, true_and] at h1
        obtain ⟨hss, hcc⟩ := h1
        subst hss hcc
        obtain ⟨d0, d1⟩ := h3 k hlt
        obtain ⟨o1, o2⟩ := HOK.out hs[k] (List.getElem_mem _)
        have hhit := fun hb => badI_hit hlt hb
        have hmis := fun hb => badI_miss hlt hb
        generalize hs[k] = x at d0 d1 o1 o2 hhit hmis
        have hbp := fun wx => breaksPair_any x wx o1 o2
        cases hpx : prB x with
        | true =>
          rw [hpx] at hbp
          have HBP := hide hbp
          have HMIS := hide (heq.trans (hmis hpx))
          have HB := hide hbel
          obtain ⟨xn, xv⟩ := x
          simp only at d0 d1 HBP
          clear hbp hhit hmis heq hbel h3
          go_wp2_with fail
          refine (HBP.out _).mono ?_
          rintro e w1 ⟨rfl, hb1⟩
          have HB1 := hide (HB.out.trans (hb1.mono HB.out.size))
          clear hb1
          go_wp2
          go_roundw
          case rel => exact ⟨k + 1, by go_num, by omega, HMIS.out, HB1.out⟩
          case measure => simp [intOf]; omega
        | false =>
          rw [hpx] at hbp
          have HBP := hide hbp
          have HHIT := hide (heq.trans (hhit hpx))
          have HB := hide hbel
          obtain ⟨xn, xv⟩ := x
          simp only at d0 d1 HBP
          clear hbp hhit hmis heq hbel h3
          go_wp2_with fail
          refine (HBP.out _).mono ?_
          rintro e w1 ⟨rfl, hb1⟩
          have HB1 := hide (HB.out.trans (hb1.mono HB.out.size))
          clear hb1
          go_wp2
          go_ret
          refine ⟨?_, HB1.out⟩
          rw [HHIT.out]
          try rfl
    · have HEQ := hide heq
      have HB := hide hbel
      clear heq hbel
      go_wp2
      go_ret
      refine ⟨?_, HB.out⟩
      rw [HEQ.out, badI_end (by omega)]
      try rfl
set_option maxRecDepth 100000 in
set_option maxHeartbeats 800000 in
theorem containsFunc_any (v : Value) (hs : List HP) (w : World) (hin : HsIn w v hs) (hl : hs.length ≤ 1099511627776) (hok : ∀ h ∈ hs, h.n.size ≤ 281474976710656 ∧ h.v.size ≤ 281474976710656) :
    Calls Tryz.prog 98 #[v, .func (.func 99) #[] #[]] w fun e w' => e = .returned (.bool (!hs.all prB)) ∧ Below w.heap.size w w' := by
  have hix := indexFunc_any v hs w hin hl hok
  have hall := badI_all hs
  generalize badI hs 0 = J at hix hall
  have HIX := hide hix
  have HALL := hide hall
  clear hix hall hin hok
  go_enter Tryz.func98, Tryz.ntmps98
  go_wp2_with fail
  refine HIX.out.mono ?_
  rintro e w1 ⟨rfl, hb1⟩
  have HB1 := hide hb1
  clear hb1
  go_wp2
  go_ret
  refine ⟨ret_bool ?_, HB1.out⟩
  rw [← HALL.out]
set_option maxRecDepth 100000 in
set_option maxHeartbeats 800000 in
theorem isList_any (v : Value) (hs : List HP) (w : World) (hin : HsIn w v hs) (hl : hs.length ≤ 1099511627776) (hok : ∀ h ∈ hs, h.n.size ≤ 281474976710656 ∧ h.v.size ≤ 281474976710656) :
    Calls Tryz.prog 68 #[v] w fun e w' => e = .returned (.bool (listB hs)) ∧ Below w.heap.size w w' := by
  have hcf := containsFunc_any v hs w hin hl hok
  have hlb : listB hs = (decide (hs.length ≤ 8) && hs.all prB) := rfl
  obtain ⟨ss, cc, hsv⟩ := hin.len
  subst hsv
  have HCF := hide hcf
  have HLB := hide hlb
  clear hcf hlb hin hok
  by_cases h8 : hs.length ≤ 8
  · go_enter Tryz.func68, Tryz.ntmps68
    go_wp2_with fail
    refine HCF.out.mono ?_
    rintro e w1 ⟨rfl, hb1⟩
    have HB1 := hide hb1
    clear hb1
    go_wp2
    go_ret
    refine ⟨ret_bool ?_, HB1.out⟩
    rw [HLB.out]
    simp [h8]
    try omega
  · go_enter Tryz.func68, Tryz.ntmps68
    go_wp2
    go_ret
    refine ⟨ret_bool ?_, Below.refl _ _⟩
    rw [HLB.out]
    simp [h8]
    try omega
set_option maxRecDepth 100000 in
set_option maxHeartbeats 800000 in
theorem bNewPacker_any (n : Int) (w : World) : Calls Tryz.prog 56 #[.int .i64 n] w fun e w' => e = .returned (.agg #[.int .i64 n, .int .i64 0, .slice none 0 0, .slice none 0 0]) ∧ Below w.heap.size w w' := by
  go_enter Tryz.func56, Tryz.ntmps56
  go_wp2
  refine bodyPost_ret (v := .agg #[.int .i64 n, .int .i64 0, .slice none 0 0, .slice none 0 0]) ?_ rfl ⟨rfl, ?_⟩
  · simp [results, Tryz.results56, go_sem]
  · exact (Below.refl _ _).alloc (Nat.le_refl _) _
def newCs (n : Nat) : Array Value := #[.int .i64 (n : Int), .int .i64 0, .slice none 0 0, .slice none 0 0]
theorem prB_ok {h : HP} (hp : prB h = true) : okH h := by
  unfold prB at hp
  simp only [Bool.and_eq_true, decide_eq_true_eq, Bool.not_eq_true', ] at hp
  obtain ⟨⟨h1, h2⟩, h3⟩ := hp
  refine ⟨?_, h2, h3⟩
  rcases Nat.eq_zero_or_pos h.n.size with h0 | h0
  · have : h.n = ⟨#[]⟩ := by
      apply ByteArray.ext
      exact Array.eq_empty_of_size_eq_zero h0
    rw [this, ba_toList] at h1
    exact absurd h1 (by decide)
  · exact h0
theorem hsIn_of_owns {w : World} {b : Nat} {v : Value} {hs : List HP} (h : w.ownsRow b 147 2 v hs.length (hpCells hs)) : HsIn w v hs := by
  rcases h.2 with ⟨rfl, h0⟩ | ⟨g, cap, cur, rfl, _, hgg, hle, _⟩
  · exact Or.inl ⟨rfl, List.eq_nil_of_length_eq_zero h0⟩
  · refine Or.inr ⟨g, 0, cap, rfl, lt_of_block hgg, fun i hi => ?_⟩
    obtain ⟨e0, e1⟩ := hpCells_get hi
    rw [Nat.zero_add, h.cellAt _ (by have := hpCells_length hs; omega), h.cellAt _ (by have := hpCells_length hs; omega)]
    exact ⟨e0, e1⟩
end Go.Proofs.YtiphkngfbpdeoaaGreatDoor
namespace Go.Proofs.YtiphkngfbpdeoaaGreatDoor
set_option linter.unusedVariables false
set_option linter.unusedSimpArgs false
open Go.RowKit
structure Unpd (w w' : World) (ub : Nat) (cs cs' : Array Value) (tP : TypeId) (lim : Nat) (tv tv' : Value) (tab : List HP) (lv : Value) (hs : List HP) : Prop where
  st : TbS w' ub cs' tP lim tv' tab
  cs3 : ∀ i, 3 ≤ i → cs'[i]? = cs[i]?
  chg : Chg (TouchT ub tv) w w'
  tfresh : ∀ j, tv'.ownBlock = some j → tv.ownBlock = some j ∨ w.heap.size ≤ j
  row : w'.ownsRow w.heap.size 147 2 lv hs.length (hpCells hs)
  ap : ∀ j, lv.ownBlock = some j → tv'.ownBlock ≠ some j
theorem rdPairs_cons {f : Nat} {acc tab : List HP} {lim : Nat} {c : UInt8} {r : List UInt8} {z : List HP × List HP} (h : rdPairs f acc tab lim (c :: r) = some z) :
    ∃ x tab2 q, rdPair tab lim (c :: r) = some (x, tab2, q) ∧ listB (acc ++ [x]) = true ∧ rdPairs (f - 1) (acc ++ [x]) tab2 lim q = some z := by
  cases f with
  | zero => simp [rdPairs] at h
  | succ f =>
    simp only [rdPairs] at h
    cases hp : rdPair tab lim (c :: r) with
    | none => rw [hp] at h; cases h
    | some y =>
      obtain ⟨x, tab2, q⟩ := y
      rw [hp] at h
      simp only at h
      split at h
      · rename_i hl
        exact ⟨x, tab2, q, rfl, hl, h⟩
      · cases h
theorem rdLims_cons {most f lim : Nat} {tab : List HP} {c : UInt8} {r : List UInt8} {z : Nat × List HP × List UInt8} (h : rdLims most (f + 1) lim tab (c :: r) = some z) (hc : c.toNat / 32 = 1) :
    ∃ n q, rdCnt 5 c r = some (n, q) ∧ n ≤ most ∧ rdLims most f n (shr tab n) q = some z := by
  simp only [rdLims] at h
  rw [if_pos hc] at h
  cases hp : rdCnt 5 c r with
  | none => rw [hp] at h; cases h
  | some y =>
    obtain ⟨n, q⟩ := y
    rw [hp] at h
    simp only at h
    split at h
    · cases h
    · exact ⟨n, q, rfl, by omega, h⟩
def lenV : Value → Nat
  | .slice _ n _ => n
  | _ => 0
theorem unp_chg {w w1 : World} {ub : Nat} {tv : Value} {o : Obj} (hb : Below w.heap.size w (w.alloc o)) (h : Chg (fun j => j = w.heap.size ∨ TouchT ub tv j) (w.alloc o) w1) : Chg (TouchT ub tv) w w1 :=
  (Chg.of_below hb).trans (h.mono fun j _ e => e.imp_left fun e => by omega)
theorem UnTo.side {S : Nat → Prop} {w w1 w2 : World} {ub : Nat} {cs cs' : Array Value} {tP : TypeId} {lim : Nat} {tv tv' : Value} {tab' : List HP} {sb : Nat} {rv rv' : Value} {l' : List UInt8} (h : UnTo w w1 ub cs cs' tP lim tv tv' tab' sb rv rv' l') (hc : Chg S w1 w2) (h1 : ∀ j, S j → w.heap.size ≤ j) (hub : ub < w.heap.size) (hsb : sb < w.heap.size) (hr : ∀ j, rv.ownBlock = some j → j < w.heap.size) (ht : ∀ j, tv'.ownBlock = some j → ¬ S j) : UnTo w w2 ub cs cs' tP lim tv tv' tab' sb rv rv' l' :=
  ⟨h.st.chg hc (fun e => by have := h1 _ e; omega) ht, h.cs3, h.sr.chg hc (fun e => by have := h1 _ e; omega) (fun j hj e => by have := h1 _ e; have := hr j (h.own j hj); omega), h.chg.trans (hc.mono fun j _ e => Or.inl (h1 j e)), h.tfresh, h.own⟩
theorem unp_app {w w4 w5 : World} {ub : Nat} {cs cs4 : Array Value} {tP : TypeId} {lim : Nat} {lim0 : Nat} {tab0 : List HP} {tv tv4 : Value} {tab4 : List HP} {bv rv4 lv v5 : Value} {b q : List UInt8} {acc : List HP} {x : HP} {o : Obj} (hb : BytesIn w bv b) (ht : TbS w ub cs tP lim0 tv tab0) (hbA : Below w.heap.size w (w.alloc (.cells #[bv] 218)))
    (hu : UnTo (w.alloc (.cells #[bv] 218)) w4 ub cs cs4 tP lim tv tv4 tab4 w.heap.size bv rv4 q) (how : w4.ownsRow w.heap.size 147 2 lv acc.length (hpCells acc)) (hap : ∀ j, lv.ownBlock = some j → tv4.ownBlock ≠ some j)
    (hown : w5.ownsRow 0 147 2 v5 (acc.length + 1) (hpCells acc ++ hpCells [x])) (hg : (w4.alloc o).grownBy w5 lv.ownBlock) (hf : v5.ownBlock = lv.ownBlock ∨ v5.ownBlock = some (w4.heap.size + 1)) :
    UnTo (w.alloc (.cells #[bv] 218)) w5 ub cs cs4 tP lim tv tv4 tab4 w.heap.size bv rv4 q ∧ w5.ownsRow w.heap.size 147 2 v5 (acc ++ [x]).length (hpCells (acc ++ [x])) ∧ ∀ j, v5.ownBlock = some j → tv4.ownBlock ≠ some j := by
  have hc : Chg (fun j => lv.ownBlock = some j) w4 w5 := ((Chg.refl _ _).alloc _).trans (Chg.of_grown hg (fun j hj => Or.inr hj))
  have hsA : (w.alloc (.cells #[bv] 218)).heap.size = w.heap.size + 1 := by simp
  have hs4 := hu.chg.size
  have hub := ht.tb.lt
  refine ⟨hu.side hc (fun j hj => ?_) (by omega) (by omega) (fun j hj => by have := hb.lt hj; omega) (fun j hj e => hap j e hj), ?_, fun j hj e => ?_⟩
  · have h1 := (how.lt j hj).1
    have h2 : j ≠ w.heap.size := fun e => owns_ne how hu.sr.blk (by decide) (e ▸ hj)
    omega
  · rw [List.length_append, hpCells_append]
    refine owns_base hown (fun j hj => ?_)
    rcases hf with e | e
    · rw [e] at hj; exact (how.lt j hj).1
    · rw [e] at hj; simp at hj; omega
  · rcases hf with a | a
    · rw [a] at hj; exact hap j hj e
    · rw [a] at hj
      simp at hj
      have := owns_lt hu.st.row e
      omega
set_option maxRecDepth 100000 in
set_option maxHeartbeats 800000 in
theorem bUnpack_ok (ub : Nat) (cs : Array Value) (tP : TypeId) (lim : Nat) (tv : Value) (tab : List HP) (most : Nat) (bv : Value) (b : List UInt8) (hs : List HP) (lim' : Nat) (tab' : List HP) (w : World) (hgl : Gl w) (ht : TbS w ub cs tP lim tv tab) (hm : cs[3]? = some (.int .i64 (most : Int))) (hmo : most ≤ 256) (hb : BytesIn w bv b) (hbu : bv.ownBlock ≠ some ub) (hbt : ∀ j, bv.ownBlock = some j → tv.ownBlock ≠ some j) (hl : b.length ≤ 134217728) (hub : 7 ≤ ub) (htv : ∀ j, tv.ownBlock = some j → 7 ≤ j)
    (hts : tP ≠ 218) (hq : (Up.mk lim tab most).unpack b = some (hs, lim', tab')) :
    Calls Tryz.prog 123 #[.pointer (some ⟨ub, 0, none⟩), bv] w fun e w' => ∃ lv cs' tv', e = .returned lv ∧ Unpd w w' ub cs cs' tP lim' tv tv' tab' lv hs := by
  have hq2 : ∃ tab1 l1, rdLims most 2 lim tab b = some (lim', tab1, l1) ∧ rdPairs 9 [] tab1 lim' l1 = some (hs, tab') := by
    unfold Up.unpack at hq
    simp only at hq
    cases h1 : rdLims most 2 lim tab b with
    | none => rw [h1] at hq; cases hq
    | some x =>
      obtain ⟨lim1, tab1, r⟩ := x
      rw [h1] at hq
      simp only at hq
      cases h2 : rdPairs 9 [] tab1 lim1 r with
      | none => rw [h2] at hq; cases hq
      | some y =>
        obtain ⟨hs', tab''⟩ := y
        rw [h2] at hq
        simp only [Option.some.injEq, Prod.mk.injEq] at hq
        obtain ⟨rfl, rfl, rfl⟩ := hq
        exact ⟨tab1, r, rfl, h2⟩
  obtain ⟨tab1, l1, hlims, hpairs⟩ := hq2
  obtain ⟨i0, hi, hz0, hz1, hz2⟩ := info_parts Tryz.info147
  have hbA : Below w.heap.size w (w.alloc (.cells #[bv] 218)) := (Below.refl _ _).alloc (Nat.le_refl _) _
  have htl := ht.tb.lt
  have hsA : SrS (w.alloc (.cells #[bv] 218)) w.heap.size bv b := ⟨heap_alloc_new w _, hb.chg ((Chg.refl (fun _ => False) w).alloc _) (fun _ _ => id), fun e => by have := hb.lt e; omega⟩
  have haA : Apart ub w.heap.size tv bv := ⟨by omega, fun e => by have := owns_lt ht.row e; omega, hbu, hbt⟩
  have huA : UnTo (w.alloc (.cells #[bv] 218)) (w.alloc (.cells #[bv] 218)) ub cs cs tP lim tv tv tab w.heap.size bv bv b := ⟨ht.below hbA, fun _ _ => rfl, hsA, Chg.refl _ _, fun _ e => Or.inl e, fun _ e => e⟩
  have hgA := hgl.below hbA
  have hgs : 7 ≤ w.heap.size := hgl.lt
  obtain ⟨sv, cv, hv, _⟩ := bytesIn_len hb
  subst hv
  have HB := hide hb
  have HT := hide ht
  have HM := hide hm
  have HGA := hide hgA
  have HSA := hide hsA
  have HAA := hide haA
  have HUA := hide huA
  have HBA := hide hbA
  have HTV := hide htv
  have HLIMS := hide hlims
  have HPAIRS := hide hpairs
  clear hgl ht hm hb hbu hbt hsA haA huA hgA hbA htv hlims hpairs hq
  go_enter Tryz.func123, Tryz.ntmps123
  go_wp2
  go_loopw [6] (fun i wr => ∃ (j lim2 : Nat) (tab2 : List HP) (l2 : List UInt8) (cs2 : Array Value) (tv2 rv2 : Value), i = .int .i64 (j : Int) ∧ j ≤ 2 ∧ l2.length ≤ b.length ∧ rdLims most (2 - j) lim2 tab2 l2 = some (lim', tab1, l1) ∧ UnTo (w.alloc (.cells #[.slice sv b.length cv] 218)) wr ub cs cs2 tP lim2 tv tv2 tab2 w.heap.size (.slice sv b.length cv) rv2 l2) (fun i _ => 2 - (intOf i).toNat)
  case atStart => exact ⟨0, lim, tab, b, cs, tv, _, rfl, by omega, Nat.le_refl _, HLIMS.out, HUA.out⟩
  case round =>
    obtain ⟨j, lim2, tab2, l2, cs2, tv2, rv2, rfl, hj, hll, hlm, hu⟩ := hrel
    by_cases hj2 : j = 2
    · rw [show 2 - j = 0 from by omega] at hlm
      simp only [rdLims, Option.some.injEq, Prod.mk.injEq] at hlm
      obtain ⟨rfl, rfl, rfl⟩ := hlm
      have hjd : decide ((j : Int) < 2) = false := by simp; omega
      have HU := hide hu
      clear hu hj2 hj
      go_wp2
      go_loopw [7] (fun v wx => ∃ (acc tab3 : List HP) (l3 : List UInt8) (cs3 : Array Value) (tv3 rv3 : Value), acc.length ≤ 8 ∧ (∀ x ∈ acc, x.n.size ≤ 268435456 ∧ x.v.size ≤ 268435456) ∧ l3.length ≤ b.length ∧ rdPairs (9 - acc.length) acc tab3 lim2 l3 = some (hs, tab') ∧ UnTo (w.alloc (.cells #[.slice sv b.length cv] 218)) wx ub cs cs3 tP lim2 tv tv3 tab3 w.heap.size (.slice sv b.length cv) rv3 l3 ∧ wx.ownsRow w.heap.size 147 2 v acc.length (hpCells acc) ∧ (∀ j, v.ownBlock = some j → tv3.ownBlock ≠ some j)) (fun v _ => 9 - lenV v)
      case atStart => exact ⟨[], tab2, l2, cs2, tv2, rv2, by simp, by simp, by omega, HPAIRS.out, HU.out, World.ownsRow_nil _ _ _ _, fun j e => by simp [Value.ownBlock] at e⟩
      case round =>
        obtain ⟨acc, tab3, l3, cs3, tv3, rv3, ha8, hsz, hl3, hrp, hu3, how, hap3⟩ := hrel
        obtain ⟨sl, cl, hvl⟩ := slice_len how
        subst hvl
        have hae := atEnd_any w.heap.size rv3 l3 wr hu3.sr
        have HAE := hide hae
        have HU3 := hide hu3
        have HOW := hide how
        have HAP3 := hide hap3
        have HSZ := hide hsz
        have HRP := hide hrp
        clear hae hu3 how hap3 hsz hrp HU
        cases l3 with
        | nil =>
          have hrp := HRP.out
          obtain ⟨f, hf⟩ : ∃ f, 9 - acc.length = f + 1 := ⟨8 - acc.length, by omega⟩
          rw [hf] at hrp
          simp only [rdPairs, Option.some.injEq, Prod.mk.injEq] at hrp
          have HE := hide hrp
          clear hrp HRP hf
          go_wp2_with fail
          refine HAE.out.mono ?_
          rintro e w9 ⟨rfl, hw9⟩
          rw [hw9]
          clear hw9
          go_wp2
          go_ret
          refine ⟨.slice sl acc.length cl, cs3, tv3, rfl, ?_⟩
          rw [← HE.out.1, ← HE.out.2]
          exact ⟨HU3.out.st, HU3.out.cs3, unp_chg HBA.out HU3.out.chg, fun j hj => (HU3.out.tfresh j hj).imp_right fun e => Nat.le_trans HBA.out.size e, HOW.out, HAP3.out⟩
        | cons c r =>
          obtain ⟨x, tab4, q, hp, hli, hrp4⟩ := rdPairs_cons HRP.out
          have hl8 : (acc ++ [x]).length ≤ 8 := by
            have := hli
            unfold listB at this
            simp only [Bool.and_eq_true, decide_eq_true_eq] at this
            exact this.1
          have hap := HU3.out.apart HAA.out HSA.out
          have hg3 := HU3.out.gl HGA.out hub hgs HTV.out
          obtain ⟨hq4, hxn, hxv⟩ := rdPair_len hp (numd_small (Nat.le_trans HU3.out.st.fit HU3.out.st.small)) (by omega)
          have htp := takePair_ok ub cs3 tP lim2 tv3 tab3 w.heap.size rv3 (c :: r) x tab4 q wr hg3 HU3.out.st HU3.out.sr hap (by omega) hgs hp
          have HTP := hide htp
          have HLI := hide hli
          have HRP4 := hide hrp4
          clear htp hli hrp4 hap hg3 hp HRP
          rw [List.length_append, List.length_singleton] at hl8
          go_wp2_with fail
          refine HAE.out.mono ?_
          rintro e w9 ⟨rfl, hw9⟩
          rw [hw9]
          clear hw9
          go_wp2_with fail
          refine HTP.out.mono ?_
          rintro e w4 ⟨rfl, cs4, tv4, rv4, hu4⟩
          have how4 := owns_chg HOW.out hu4.chg (by
            rintro j hj (e | e | e)
            · subst e; exact owns_ne HOW.out HU3.out.sr.blk (by decide) hj
            · subst e; exact owns_ne HOW.out HU3.out.st.tb.blk (fun e => HU3.out.st.tb.ne e.symm) hj
            · exact HAP3.out j hj e)
          have hap4 : ∀ j, (Value.slice sl acc.length cl).ownBlock = some j → tv4.ownBlock ≠ some j := fun j hj e => by
            rcases hu4.tfresh j e with a | a
            · exact HAP3.out j hj a
            · have := owns_lt HOW.out hj; omega
          have HU4 := hide (HU3.out.trans hu4)
          have HOW4 := hide how4
          have HAP4 := hide hap4
          clear hu4 how4 hap4
          go_wp2_with (at_builtin; refine wpList_app _ rfl (.tmp 22) (.tmp 25) 83 rfl 147 i0 (.agg #[.string ⟨#[]⟩, .string ⟨#[]⟩]) 2 32 Tryz.underlying83 hi hz0 hz1 hz2 rfl (by decide) _ _ _ rfl ((owns_base HOW4.out (fun _ _ => Nat.zero_le _)).alloc _) (.slice (some ⟨w4.heap.size, 0, none⟩) 1 1) 1 (hpCells [x]) rfl rfl (lies_pair w4 x) (hp_one _) ?c3 ?c4 ?_)
          case c3 => unfold maxLen; omega
          case c4 => omega
          intro v5 w5 hown5 hg5 hf5
          obtain ⟨hu5, how5, hap5⟩ := unp_app HB.out HT.out HBA.out HU4.out HOW4.out HAP4.out hown5 hg5 (by simpa using hf5)
          have hsz5 : ∀ y ∈ acc ++ [x], y.n.size ≤ 281474976710656 ∧ y.v.size ≤ 281474976710656 := fun y hy => by
            rcases List.mem_append.1 hy with hy | hy
            · have := HSZ.out y hy; omega
            · rw [List.mem_singleton.1 hy]; omega
          have hil := isList_any v5 (acc ++ [x]) w5 (hsIn_of_owns how5) (by rw [List.length_append, List.length_singleton]; omega) hsz5
          rw [HLI.out] at hil
          obtain ⟨s5, c5, hv5⟩ := slice_len hown5
          subst hv5
          have HIL := hide hil
          have HU5 := hide hu5
          have HOW5 := hide how5
          have HAP5 := hide hap5
          clear hown5 hg5 hf5 hil hu5 how5 hap5 hsz5
          go_wp2_with fail
          refine HIL.out.mono ?_
          rintro e w6 ⟨rfl, hb6⟩
          have HU6 := hide (HU5.out.below hb6)
          have HOW6 := hide (owns_chg HOW5.out (Chg.of_below (S := fun _ => False) hb6) (fun _ _ => id))
          clear hb6
          go_wp2
          go_roundw
          case rel =>
            refine ⟨acc ++ [x], tab4, q, cs4, tv4, rv4, by rw [List.length_append, List.length_singleton]; omega, ?_, by omega, ?_, HU6.out, HOW6.out, HAP5.out⟩
            · intro y hy
              rcases List.mem_append.1 hy with hy | hy
              · exact HSZ.out y hy
              · rw [List.mem_singleton.1 hy]; exact ⟨hxn, hxv⟩
            · rw [List.length_append, List.length_singleton, show 9 - (acc.length + 1) = 9 - acc.length - 1 from by omega]; exact HRP4.out
          case measure => simp [lenV]; omega
    · obtain ⟨f, hf⟩ : ∃ f, 2 - j = f + 1 := ⟨1 - j, by omega⟩
      rw [hf] at hlm
      have hg := hu.gl HGA.out hub hgs HTV.out
      have hhas := shas_any w.heap.size rv2 l2 32 5 wr hu.sr (by decide)
      obtain ⟨g0, g1⟩ := hg.lim
      have HG := hide hg
      have HHAS := hide hhas
      have HU := hide hu
      have HLM := hide hlm
      clear hg hhas hu hlm
      have hjd : decide ((j : Int) < 2) = true := by simp; omega
      cases hh : hasF 32 5 l2 with
      | false =>
        rw [hh] at HHAS
        have hlm := HLM.out
        have he : lim2 = lim' ∧ tab2 = tab1 ∧ l2 = l1 := by
          cases l2 with
          | nil => simpa [rdLims] using hlm
          | cons c r =>
            have hc : ¬ c.toNat / 32 = 1 := by simpa [hasF] using hh
            simp only [rdLims] at hlm
            rw [if_neg hc] at hlm
            simpa using hlm
        obtain ⟨rfl, rfl, rfl⟩ := he
        clear HLM hlm
        go_wp2_with fail
        refine HHAS.out.mono ?_
        rintro e w1 ⟨rfl, hb1⟩
        have HU1 := hide (HU.out.below hb1)
        clear hb1 HU
        have HU := HU1
        clear HU1 g0 g1
        go_wp2
        go_loopw [7] (fun v wx => ∃ (acc tab3 : List HP) (l3 : List UInt8) (cs3 : Array Value) (tv3 rv3 : Value), acc.length ≤ 8 ∧ (∀ x ∈ acc, x.n.size ≤ 268435456 ∧ x.v.size ≤ 268435456) ∧ l3.length ≤ b.length ∧ rdPairs (9 - acc.length) acc tab3 lim2 l3 = some (hs, tab') ∧ UnTo (w.alloc (.cells #[.slice sv b.length cv] 218)) wx ub cs cs3 tP lim2 tv tv3 tab3 w.heap.size (.slice sv b.length cv) rv3 l3 ∧ wx.ownsRow w.heap.size 147 2 v acc.length (hpCells acc) ∧ (∀ j, v.ownBlock = some j → tv3.ownBlock ≠ some j)) (fun v _ => 9 - lenV v)
        case atStart => exact ⟨[], tab2, l2, cs2, tv2, rv2, by simp, by simp, by omega, HPAIRS.out, HU.out, World.ownsRow_nil _ _ _ _, fun j e => by simp [Value.ownBlock] at e⟩
        case round =>
          obtain ⟨acc, tab3, l3, cs3, tv3, rv3, ha8, hsz, hl3, hrp, hu3, how, hap3⟩ := hrel
          obtain ⟨sl, cl, hvl⟩ := slice_len how
          subst hvl
          have hae := atEnd_any w.heap.size rv3 l3 wr hu3.sr
          have HAE := hide hae
          have HU3 := hide hu3
          have HOW := hide how
          have HAP3 := hide hap3
          have HSZ := hide hsz
          have HRP := hide hrp
          clear hae hu3 how hap3 hsz hrp HU
          cases l3 with
          | nil =>
            have hrp := HRP.out
            obtain ⟨f, hf⟩ : ∃ f, 9 - acc.length = f + 1 := ⟨8 - acc.length, by omega⟩
            rw [hf] at hrp
            simp only [rdPairs, Option.some.injEq, Prod.mk.injEq] at hrp
            have HE := hide hrp
            clear hrp HRP hf
            go_wp2_with fail
            refine HAE.out.mono ?_
            rintro e w9 ⟨rfl, hw9⟩
            rw [hw9]
            clear hw9
            go_wp2
            go_ret
            refine ⟨.slice sl acc.length cl, cs3, tv3, rfl, ?_⟩
            rw [← HE.out.1, ← HE.out.2]
            exact ⟨HU3.out.st, HU3.out.cs3, unp_chg HBA.out HU3.out.chg, fun j hj => (HU3.out.tfresh j hj).imp_right fun e => Nat.le_trans HBA.out.size e, HOW.out, HAP3.out⟩
          | cons c r =>
            obtain ⟨x, tab4, q, hp, hli, hrp4⟩ := rdPairs_cons HRP.out
            have hl8 : (acc ++ [x]).length ≤ 8 := by
              have := hli
              unfold listB at this
              simp only [Bool.and_eq_true, decide_eq_true_eq] at this
              exact this.1
            have hap := HU3.out.apart HAA.out HSA.out
            have hg3 := HU3.out.gl HGA.out hub hgs HTV.out
            obtain ⟨hq4, hxn, hxv⟩ := rdPair_len hp (numd_small (Nat.le_trans HU3.out.st.fit HU3.out.st.small)) (by omega)
            have htp := takePair_ok ub cs3 tP lim2 tv3 tab3 w.heap.size rv3 (c :: r) x tab4 q wr hg3 HU3.out.st HU3.out.sr hap (by omega) hgs hp
            have HTP := hide htp
            have HLI := hide hli
            have HRP4 := hide hrp4
            clear htp hli hrp4 hap hg3 hp HRP
            rw [List.length_append, List.length_singleton] at hl8
            go_wp2_with fail
            refine HAE.out.mono ?_
            rintro e w9 ⟨rfl, hw9⟩
            rw [hw9]
            clear hw9
            go_wp2_with fail
            refine HTP.out.mono ?_
            rintro e w4 ⟨rfl, cs4, tv4, rv4, hu4⟩
            have how4 := owns_chg HOW.out hu4.chg (by
              rintro j hj (e | e | e)
              · subst e; exact owns_ne HOW.out HU3.out.sr.blk (by decide) hj
              · subst e; exact owns_ne HOW.out HU3.out.st.tb.blk (fun e => HU3.out.st.tb.ne e.symm) hj
              · exact HAP3.out j hj e)
            have hap4 : ∀ j, (Value.slice sl acc.length cl).ownBlock = some j → tv4.ownBlock ≠ some j := fun j hj e => by
              rcases hu4.tfresh j e with a | a
              · exact HAP3.out j hj a
              · have := owns_lt HOW.out hj; omega
            have HU4 := hide (HU3.out.trans hu4)
            have HOW4 := hide how4
            have HAP4 := hide hap4
            clear hu4 how4 hap4
            go_wp2_with (at_builtin; refine wpList_app _ rfl (.tmp 22) (.tmp 25) 83 rfl 147 i0 (.agg #[.string ⟨#[]⟩, .string ⟨#[]⟩]) 2 32 Tryz.underlying83 hi hz0 hz1 hz2 rfl (by decide) _ _ _ rfl ((owns_base HOW4.out (fun _ _ => Nat.zero_le _)).alloc _) (.slice (some ⟨w4.heap.size, 0, none⟩) 1 1) 1 (hpCells [x]) rfl rfl (lies_pair w4 x) (hp_one _) ?c3 ?c4 ?_)
            case c3 => unfold maxLen; omega
            case c4 => omega
            intro v5 w5 hown5 hg5 hf5
            obtain ⟨hu5, how5, hap5⟩ := unp_app HB.out HT.out HBA.out HU4.out HOW4.out HAP4.out hown5 hg5 (by simpa using hf5)
            have hsz5 : ∀ y ∈ acc ++ [x], y.n.size ≤ 281474976710656 ∧ y.v.size ≤ 281474976710656 := fun y hy => by
              rcases List.mem_append.1 hy with hy | hy
              · have := HSZ.out y hy; omega
              · rw [List.mem_singleton.1 hy]; omega
            have hil := isList_any v5 (acc ++ [x]) w5 (hsIn_of_owns how5) (by rw [List.length_append, List.length_singleton]; omega) hsz5
            rw [HLI.out] at hil
            obtain ⟨s5, c5, hv5⟩ := slice_len hown5
            subst hv5
            have HIL := hide hil
            have HU5 := hide hu5
            have HOW5 := hide how5
            have HAP5 := hide hap5
            clear hown5 hg5 hf5 hil hu5 how5 hap5 hsz5
            go_wp2_with fail
            refine HIL.out.mono ?_
            rintro e w6 ⟨rfl, hb6⟩
            have HU6 := hide (HU5.out.below hb6)
            have HOW6 := hide (owns_chg HOW5.out (Chg.of_below (S := fun _ => False) hb6) (fun _ _ => id))
            clear hb6
            go_wp2
            go_roundw
            case rel =>
              refine ⟨acc ++ [x], tab4, q, cs4, tv4, rv4, by rw [List.length_append, List.length_singleton]; omega, ?_, by omega, ?_, HU6.out, HOW6.out, HAP5.out⟩
              · intro y hy
                rcases List.mem_append.1 hy with hy | hy
                · exact HSZ.out y hy
                · rw [List.mem_singleton.1 hy]; exact ⟨hxn, hxv⟩
              · rw [List.length_append, List.length_singleton, show 9 - (acc.length + 1) = 9 - acc.length - 1 from by omega]; exact HRP4.out
            case measure => simp [lenV]; omega
      | true =>
        rw [hh] at HHAS
        cases l2 with
        | nil => simp [hasF] at hh
        | cons c r =>
          have hc : c.toNat / 32 = 1 := by simpa [hasF] using hh
          obtain ⟨n, q, hcn, hnm, hnx⟩ := rdLims_cons HLM.out hc
          have hqr := rdCnt_len hcn
          have hap := HU.out.apart HAA.out HSA.out
          have hm2 : cs2[3]? = some (.int .i64 (most : Int)) := (HU.out.cs3 3 (by omega)).trans HM.out
          go_wp2_with fail
          refine HHAS.out.mono ?_
          rintro e w1 ⟨rfl, hb1⟩
          have hu1 := HU.out.below hb1
          have htl := takeLimit_ok ub cs2 tP lim2 tv2 tab2 most w.heap.size rv2 c r n q w1 (hu1.gl HGA.out hub hgs HTV.out) hu1.st hm2 hu1.sr hap (by omega) hgs hcn hnm hmo
          have HTL := hide htl
          have HU1 := hide hu1
          have HNX := hide hnx
          clear hb1 hu1 htl g0 g1 hnx hcn hm2 hap hc hh
          simp only [List.length_cons] at hll
          go_wp2_with fail
          refine HTL.out.mono ?_
          rintro e w2 ⟨rfl, cs3, tv3, rv3, hu3⟩
          have HU3 := hide (HU1.out.trans hu3)
          clear hu3
          go_wp2
          go_roundw
          case rel =>
            refine ⟨j + 1, n, shr tab2 n, q, cs3, tv3, rv3, by simp, by omega, by omega, ?_, HU3.out⟩
            rw [show 2 - (j + 1) = f from by omega]; exact HNX.out
          case measure => simp [intOf]; omega
end Go.Proofs.YtiphkngfbpdeoaaGreatDoor
namespace Go.Proofs.YtiphkngfbpdeoaaGreatDoor
set_option linter.unusedVariables false
set_option linter.unusedSimpArgs false
open Go.RowKit
theorem nCells_get {l : List Nat} {i : Nat} (h : i < l.length) : (nCells l)[i]? = some (.int .i64 (l[i] : Int)) := by
  unfold nCells; simp [h]
end Go.Proofs.YtiphkngfbpdeoaaGreatDoor
namespace Go.Proofs.YtiphkngfbpdeoaaGreatDoor
set_option linter.unusedVariables false
set_option linter.unusedSimpArgs false
open Go.RowKit
def newUs (n : Nat) : Array Value := #[.int .i64 (n : Int), .int .i64 0, .slice none 0 0, .int .i64 (n : Int), .bool false]
set_option maxRecDepth 100000 in
set_option maxHeartbeats 400000 in
theorem bNewUnpacker_any (n : Int) (w : World) : Calls Tryz.prog 55 #[.int .i64 n] w fun e w' => e = .returned (.agg #[.int .i64 n, .int .i64 0, .slice none 0 0, .int .i64 n]) ∧ Below w.heap.size w w' := by
  go_enter Tryz.func55, Tryz.ntmps55
  go_wp2
  refine bodyPost_ret (v := .agg #[.int .i64 n, .int .i64 0, .slice none 0 0, .int .i64 n]) ?_ rfl ⟨rfl, ?_⟩
  · simp [results, Tryz.results55, go_sem]
  · exact (Below.refl _ _).alloc (Nat.le_refl _) _
theorem Unpd.out {w wA w1 : World} {ub : Nat} {cs cs' : Array Value} {tP : TypeId} {lim : Nat} {tv tv' : Value} {tab : List HP} {lv : Value} {hs : List HP} (h : Unpd wA w1 ub cs cs' tP lim tv tv' tab lv hs) (hb : Below w.heap.size w wA) {b : Nat} {bs : Array Value} {t : TypeId} {f : Nat × Nat} (hx : w1.heap[b]? = some (.cells bs t f)) (ht : t ≠ 147) (hbw : w.heap.size ≤ b) (hub : ub < w.heap.size) (u : Value) : Unpd w (w1.setCell ⟨b, 0, none⟩ u) ub cs cs' tP lim tv tv' tab lv hs := by
  have hc : Chg (fun j => j = b) w1 (w1.setCell ⟨b, 0, none⟩ u) := (Chg.refl (fun j => j = b) w1).setCell (p := ⟨b, 0, none⟩) (Or.inr rfl) _
  refine ⟨h.st.chg hc (by omega) (fun j hj e => owns_ne h.st.row hx (fun e => ht e.symm) (e ▸ hj)), h.cs3, ((Chg.of_below hb).trans (h.chg.mono fun j _ e => Or.inr e)).trans (hc.mono fun j _ e => Or.inl (by omega)), fun j hj => (h.tfresh j hj).imp_right fun e => Nat.le_trans hb.size e, owns_base (owns_chg h.row hc (fun j hj e => owns_ne h.row hx (fun e => ht e.symm) (e ▸ hj))) (fun j hj => Nat.le_trans hb.size (h.row.lt j hj).1), h.ap⟩
end Go.Proofs.YtiphkngfbpdeoaaGreatDoor
