import Derived.Test.YtdccldbefdfppaaGreatDoorPGac
import Derived.Test.YtdccldbefdfppaaGreatDoorPGal
import Derived.Test.YtdccldbefdfppaaGreatDoorPGad
set_option linter.unusedVariables false
set_option linter.unusedSimpArgs false
namespace Go.Proofs.YtdccldbefdfppaaGreatDoor
open Go.RowKit
section
theorem TbBZ.set0 {w : World} {b : Nat} {cs : Array Value} {tP : TypeId} {lim sz : Nat} {tv : Value} (h : TbBZ w b cs tP lim sz tv) (x : Nat) : TbBZ (w.setCell ⟨b, 35, none⟩ (.int .i64 (x : Int))) b (cs.setIfInBounds 35 (.int .i64 (x : Int))) tP x sz tv :=
 ⟨block_setCell h.blk, set_get h.c0, by rw [set_ne (by decide)]; exact h.c1, by rw [set_ne (by decide)]; exact h.c2, h.ne⟩
theorem TbBZ.set1 {w : World} {b : Nat} {cs : Array Value} {tP : TypeId} {lim sz : Nat} {tv : Value} (h : TbBZ w b cs tP lim sz tv) (x : Nat) : TbBZ (w.setCell ⟨b, 36, none⟩ (.int .i64 (x : Int))) b (cs.setIfInBounds 36 (.int .i64 (x : Int))) tP lim x tv :=
 ⟨block_setCell h.blk, by rw [set_ne (by decide)]; exact h.c0, set_get h.c1, by rw [set_ne (by decide)]; exact h.c2, h.ne⟩
theorem TbBZ.set2 {w : World} {b : Nat} {cs : Array Value} {tP : TypeId} {lim sz : Nat} {tv : Value} (h : TbBZ w b cs tP lim sz tv) (x : Value) : TbBZ (w.setCell ⟨b, 37, none⟩ x) b (cs.setIfInBounds 37 x) tP lim sz x :=
 ⟨block_setCell h.blk, by rw [set_ne (by decide)]; exact h.c0, by rw [set_ne (by decide)]; exact h.c1, set_get h.c2, h.ne⟩
structure ShrZ (w w' : World) (b : Nat) (cs cs' : Array Value) (tP : TypeId) (lim : Nat) (tv tv' : Value) (tab' : List HP) : Prop where
 tb : TbBZ w' b cs' tP lim (szT tab') tv'
 row : w'.ownsRow 0 130 2 tv' tab'.length (hpCells tab')
 cs3 : ∀ i, (i < 35 ∨ 38 ≤ i) → cs'[i]? = cs[i]?
 chg : Chg (TouchT b tv) w w'
 own : ∀ j, tv'.ownBlock = some j → tv.ownBlock = some j ∨ w.heap.size ≤ j
set_option maxRecDepth 100000 in
set_option maxHeartbeats 3200000 in
theorem shrink_anyZ (b : Nat) (cs : Array Value) (tP : TypeId) (lim : Nat) (tv : Value) (tab : List HP) (most : Int) (w : World) (ht : TbBZ w b cs tP lim (szT tab) tv) (hrow : w.ownsRow 0 130 2 tv tab.length (hpCells tab)) (hsz : szT tab ≤ 256) (hm0 : -1099511627776 ≤ most) (hm1 : most ≤ 1099511627776) :
  Calls Tryz.prog 191 #[.pointer (some ⟨b, 35, none⟩), .int .i64 most] w fun e w' => e = .returned (.tuple #[]) ∧ ∃ cs' tv', ShrZ w w' b cs cs' tP lim tv tv' (shr tab most) := by
 have hfew : tab.length ≤ 32 := by have := szT_len tab; omega
 obtain ⟨sv, cv, hsv⟩ := slice_len hrow
 subst hsv
 have hcv : tab.length ≤ cv ∧ cv ≤ maxLen := by
  rcases hrow.2 with ⟨h1, h2⟩ | ⟨g, cap, cur, h1, _, _, h2, h3, _⟩
  ·simp only [Value.slice.injEq] at h1
   exact ⟨by omega, by rw [h1.2.2]; exact Nat.zero_le _⟩
  ·simp only [Value.slice.injEq] at h1
   obtain ⟨_, _, rfl⟩ := h1
   exact ⟨h2, h3⟩
 have hT0 : TbBZ w b (cs.setIfInBounds 36 (.int .i64 (szT (tab.drop 0) : Int))) tP lim (szT (tab.drop 0)) (.slice sv tab.length cv) := by
  rw [List.drop_zero, set_same ht.c1]; exact ht
 have HT0 := hide hT0
 have HR := hide hrow
 have HT := hide ht
 have hblt := ht.lt
 clear ht hrow hT0
 go_enter Tryz.func191, Tryz.ntmps191
 go_wp2
 go_loopw [4] (fun i wr => ∃ k : Nat, i = .int .i64 (k : Int) ∧ k ≤ tab.length ∧ TbBZ wr b (cs.setIfInBounds 36 (.int .i64 (szT (tab.drop k) : Int))) tP lim (szT (tab.drop k)) (.slice sv tab.length cv) ∧ Chg (fun j => j = b) w wr ∧ goneN tab most = k + goneN (tab.drop k) most) (fun i _ => tab.length - (intOf i).toNat)
 case atStart => exact ⟨0, rfl, Nat.zero_le _, HT0.out, Chg.refl _ _, by simp⟩
 case round =>
  obtain ⟨k, rfl, hk, htb, hch, hgn⟩ := hrel
  obtain ⟨z0, z1, z2⟩ := htb.cells
  have y1 := htb.free 36
  have y2 := htb.free 37
  have hszk : szT (tab.drop k) ≤ 256 := by
   have h2 := congrArg szT (List.take_append_drop k tab)
   rw [szT_append] at h2
   omega
  by_cases hgo : most < (szT (tab.drop k) : Int) ∧ k < tab.length
  ·obtain ⟨hgo1, hgo2⟩ := hgo
   have hnx := goneN_next hgo2 hgo1
   have hsd := szT_drop hgo2
   have hrw := owns_chg HR.out hch (fun j hj e => by subst e; exact owns_ne HR.out HT.out.blk (fun e => HT.out.ne e.symm) hj)
   obtain ⟨g, hg, hcl⟩ := slice_some hrw (by omega)
   subst hg
   obtain ⟨e0, e1⟩ := hpCells_get hgo2
   have d0 : wr.cell? ⟨g, k * 2, none⟩ = some (.string tab[k].n) := by rw [hrw.cellAt _ (by have := hpCells_length tab; omega)]; exact e0
   have d1 : wr.cell? ⟨g, k * 2 + 1, none⟩ = some (.string tab[k].v) := by rw [hrw.cellAt _ (by have := hpCells_length tab; omega)]; exact e1
   have hglt : g < wr.heap.size := owns_lt hrw rfl
   have hxs : tk tab[k] ≤ 256 := by omega
   generalize tab[k] = x at d0 d1 hsd hxs
   obtain ⟨n, v⟩ := x
   simp only at d0 d1
   have htk : tk ⟨n, v⟩ = n.size + v.size + 8 := rfl
   have HRM := hide (fun wx => room_any ⟨n, v⟩ wx (show n.size ≤ _ by omega) (show v.size ≤ _ by omega))
   generalize tk ⟨n, v⟩ = t at HRM hsd hxs htk
   simp only at HRM
   have HTB := hide htb
   have HCH := hide hch
   have HGN : Hid (goneN tab most = k + 1 + goneN (tab.drop (k + 1)) most) := by show _ = _; rw [hgn, hnx]; omega
   obtain ⟨S1, hS1⟩ : ∃ S1, S1 = szT (tab.drop (k + 1)) := ⟨_, rfl⟩
   rw [← hS1] at hsd
   have HS1 := hide hS1
   clear hS1
   generalize szT (tab.drop k) = S0 at hsd hgo1 hszk z1 HTB ⊢
   have hwr : IntKind.i64.wrap ((S0 : Int) - (t : Int)) = (S1 : Int) := by
    have e : (S0 : Int) - (t : Int) = (S1 : Int) := by omega
    rw [e]
    exact wrap_nat S1 (by omega)
   have HSD := hide hsd
   clear htb hch hgn hnx e0 e1 hrw hsd htk
   go_wp2
   go_region_law (refine step_call rfl 193 Tryz.f193 Tryz.func193 (by kernel_rfl) rfl [.tmp 30] #[130] rfl [.agg #[.string n, .string v]] (by simp [Act.eval, Act.put]) (HRM.out wr.drew) ?_; rintro e w1 ⟨rfl, hb1⟩; refine ⟨_, rfl, ?_⟩; have htb1 : TbBZ w1 b (cs.setIfInBounds 36 (.int .i64 (S0 : Int))) tP lim S0 (.slice (some ⟨g, 0, none⟩) tab.length cv) := (HTB.out.chg (w' := wr.drew) ((Chg.refl (fun _ => False) wr).drew) id).chg (Chg.of_below (S := fun _ => False) hb1) id; obtain ⟨p0, p1, p2⟩ := htb1.cells; have f1 := htb1.free 36; have HTB1 := hide htb1; have HB1 : Hid (Chg (fun j => j = b) w w1) := HCH.out.drew.then_below hb1; clear htb1 hb1)
   all_goals go_wp2
   all_goals refine ⟨⟨k + 1, by go_num, by omega, ?_, HB1.out.setCell (p := ⟨b, 36, none⟩) (Or.inr rfl) _, HGN.out⟩, by simp [intOf]; omega⟩
   all_goals (have h9 := HTB1.out.set1 S1; rw [set_set, HS1.out] at h9; rw [HS1.out]; exact h9)
  ·have hk0 : shr tab most = tab.drop k := by
    have hz : goneN (tab.drop k) most = 0 := by
     apply goneN_stop
     by_cases h1 : most < (szT (tab.drop k) : Int)
     ·right
      exact List.drop_of_length_le (by omega)
     ·left; omega
    unfold shr
    rw [hgn, hz]
    rfl
   have hrw := owns_chg HR.out hch (fun j hj e => by subst e; exact owns_ne HR.out HT.out.blk (fun e => HT.out.ne e.symm) hj)
   have HTB := hide htb
   have HCH := hide hch
   have HRW := hide hrw
   have HK0 := hide hk0
   have HCV := hide hcv
   have HCS : Hid (∀ (y : Value) i, (i < 35 ∨ 38 ≤ i) → ((cs.setIfInBounds 36 (.int .i64 (szT (tab.drop k) : Int))).setIfInBounds 37 y)[i]? = cs[i]?) := by
    intro y i hi
    rw [set_ne (by omega), set_ne (by omega)]
   clear htb hch hrw hk0 hgn hcv
   rcases Nat.eq_zero_or_pos k with hkz | hkp
   ·subst hkz
    have HDN := hide (fun wx => delete_none sv tab.length cv wx HCV.out.1 (by have := HCV.out.2; unfold maxLen at this; omega))
    by_cases h1 : most < (szT (tab.drop 0) : Int)
    all_goals go_wp2_with fail
    all_goals refine (HDN.out _).mono ?_
    all_goals rintro e w1 ⟨rfl, hw1⟩
    all_goals rw [hw1]
    all_goals clear hw1 w1
    all_goals go_wp2
    all_goals refine bodyPost_end (results_none rfl _ _ _) rfl ⟨rfl, (cs.setIfInBounds 36 (.int .i64 (szT (tab.drop 0) : Int))).setIfInBounds 37 (.slice sv tab.length cv), .slice sv tab.length cv, ?_⟩
    all_goals rw [HK0.out]
    all_goals refine ⟨HTB.out.set2 _, ?_, HCS.out _, (HCH.out.mono fun j _ e => Or.inl e).setCell (p := ⟨b, 37, none⟩) (Or.inr (Or.inl rfl)) _, fun j hj => Or.inl hj⟩
    all_goals rw [List.drop_zero]
    all_goals exact owns_chg HRW.out ((Chg.refl (fun j => j = b) wr).setCell (p := ⟨b, 37, none⟩) (Or.inr rfl) _) (fun j hj e => by subst e; exact owns_ne HRW.out HTB.out.blk (fun e => HTB.out.ne e.symm) hj)
   ·rcases HRW.out.2 with ⟨h0, h0'⟩ | ⟨g, cap, cur, h0, _, hg, hnc, hcm, hcs, htk⟩
    ·omega
    ·simp only [Value.slice.injEq] at h0
     obtain ⟨hsv, _, hcap⟩ := h0
     subst hsv hcap
     have HDA := hide (delete_any g tab.length cv k cur tab wr hg hcs hnc (by have := HCV.out.2; unfold maxLen at this; exact this) hkp hk rfl htk)
     have hgb : g ≠ b := by
      rintro rfl
      exact owns_ne HRW.out HTB.out.blk (fun e => HTB.out.ne e.symm) rfl
     have HGB := hide hgb
     have HCM := hide hcm
     clear hg hcs htk hgb hnc hcm
     by_cases h1 : most < (szT (tab.drop k) : Int)
     all_goals go_wp2_with fail
     all_goals refine HDA.out.mono ?_
     all_goals rintro e w1 ⟨cur', rfl, hg1, hs1, ht1, hc1⟩
     all_goals have htb1 := HTB.out.chg hc1 (fun e => HGB.out e.symm)
     all_goals obtain ⟨-, -, p2⟩ := htb1.cells
     all_goals have f2 := htb1.free 37
     all_goals have HTB1 := hide htb1
     all_goals have HG1 := hide hg1
     all_goals have HS1 := hide hs1
     all_goals have HT1 := hide ht1
     all_goals have HC1 := hide hc1
     all_goals clear htb1 hg1 hs1 ht1 hc1
     all_goals go_wp2
     all_goals refine bodyPost_end (results_none rfl _ _ _) rfl ⟨rfl, (cs.setIfInBounds 36 (.int .i64 (szT (tab.drop k) : Int))).setIfInBounds 37 (.slice (some ⟨g, 0, none⟩) (tab.length - k) cv), .slice (some ⟨g, 0, none⟩) (tab.length - k) cv, ?_⟩
     all_goals rw [HK0.out]
     all_goals refine ⟨HTB1.out.set2 _, ?_, HCS.out _, ((HCH.out.mono fun j _ e => Or.inl e).trans (HC1.out.mono fun j _ e => Or.inr (Or.inr (by rw [e]; rfl)))).setCell (p := ⟨b, 37, none⟩) (Or.inr (Or.inl rfl)) _, fun j hj => Or.inl hj⟩
     all_goals rw [List.length_drop]
     all_goals refine ⟨by rw [hpCells_length, List.length_drop], Or.inr ⟨g, cv, cur', rfl, Nat.zero_le _, ?_, by have := HCV.out.1; omega, HCM.out, HS1.out, HT1.out⟩⟩
     all_goals rw [((Chg.refl (fun j => j = b) w1).setCell (p := ⟨b, 37, none⟩) (Or.inr rfl) _).block g (lt_of_block HG1.out) HGB.out]
     all_goals exact HG1.out
end
section
structure TbToZ (w w' : World) (b : Nat) (cs cs' : Array Value) (tP : TypeId) (lim : Nat) (tv tv' : Value) (tab' : List HP) : Prop where
 st : TbSZ w' b cs' tP lim tv' tab'
 cs3 : ∀ i, (i < 35 ∨ 38 ≤ i) → cs'[i]? = cs[i]?
 chg : Chg (TouchT b tv) w w'
 own : ∀ j, tv'.ownBlock = some j → tv.ownBlock = some j ∨ w.heap.size ≤ j
set_option maxRecDepth 100000 in
set_option maxHeartbeats 1600000 in
theorem tresize_anyZ (b : Nat) (cs : Array Value) (tP : TypeId) (lim : Nat) (tv : Value) (tab : List HP) (n : Nat) (w : World) (ht : TbSZ w b cs tP lim tv tab) (hn : n ≤ 256) :
  Calls Tryz.prog 177 #[.pointer (some ⟨b, 35, none⟩), .int .i64 n] w fun e w' => e = .returned (.tuple #[]) ∧ ∃ cs' tv', TbToZ w w' b cs cs' tP n tv tv' (shr tab n) := by
 have hsz : szT tab ≤ 256 := Nat.le_trans ht.fit ht.small
 have hc1 : Chg (fun j => j = b) w (w.setCell ⟨b, 35, none⟩ (.int .i64 (n : Int))) := (Chg.refl (fun j => j = b) w).setCell (p := ⟨b, 35, none⟩) (Or.inr rfl) _
 have hro := owns_chg ht.row hc1 (fun j hj e => by subst e; exact owns_ne ht.row ht.tb.blk (fun e => ht.tb.ne e.symm) hj)
 have hsh := shrink_anyZ b (cs.setIfInBounds 35 (.int .i64 (n : Int))) tP n tv tab (n : Int) _ (ht.tb.set0 n) hro hsz (by omega) (by omega)
 obtain ⟨z0, z1, z2⟩ := ht.tb.cells
 have y0 := ht.tb.free 35
 have HSH := hide hsh
 have HC1 := hide hc1
 clear hsh hc1 hro z1 z2
 go_enter Tryz.func177, Tryz.ntmps177
 go_wp2_with fail
 refine HSH.out.mono ?_
 rintro e w1 ⟨rfl, cs', tv', h1⟩
 have H1 := hide h1
 clear h1
 go_wp2
 refine bodyPost_end (results_none rfl _ _ _) rfl ⟨rfl, cs', tv', ⟨H1.out.tb, H1.out.row, ?_, hn⟩, fun i hi => ?_, (HC1.out.mono fun j _ e => Or.inl e).trans (H1.out.chg.mono fun j _ e => Or.inr e), fun j hj => ?_⟩
 ·have := shr_size tab (n : Int) (by omega)
  omega
 ·rw [H1.out.cs3 i hi, set_ne (by omega)]
 ·rcases H1.out.own j hj with e | e
  ·exact Or.inl e
  ·exact Or.inr (Nat.le_trans HC1.out.size e)
theorem add_endZ {w wa w1 w2 : World} {b : Nat} {cs cs1 : Array Value} {tP : TypeId} {lim : Nat} {tv tv1 tv2 : Value} {tab : List HP} {h : HP} {o : Obj} (hb : Below w.heap.size w wa) (h1 : ShrZ wa w1 b cs cs1 tP lim tv tv1 tab) (hf : szT tab + tk h ≤ lim) (hl : lim ≤ 256)
  (hown : w2.ownsRow 0 130 2 tv2 (tab.length + 1) (hpCells tab ++ hpCells [h])) (hg : (w1.alloc o).drew.grownBy w2 tv1.ownBlock) (hfr : tv2.ownBlock = tv1.ownBlock ∨ tv2.ownBlock = some (w1.heap.size + 1)) :
  TbBZ w2 b cs1 tP lim (szT tab) tv1 ∧ TbToZ w ((w2.setCell ⟨b, 37, none⟩ tv2).setCell ⟨b, 36, none⟩ (.int .i64 (szT (tab ++ [h]) : Int))) b cs ((cs1.setIfInBounds 37 tv2).setIfInBounds 36 (.int .i64 (szT (tab ++ [h]) : Int))) tP lim tv tv2 (tab ++ [h]) := by
 have hne : tv1.ownBlock ≠ some b := owns_ne h1.row h1.tb.blk (fun e => h1.tb.ne e.symm)
 have hc : Chg (fun j => tv1.ownBlock = some j) w1 w2 := (((Chg.refl _ _).alloc o).drew).trans (Chg.of_grown hg (fun j hj => Or.inr hj))
 have hb2 := h1.tb.chg hc hne
 have hne2 : tv2.ownBlock ≠ some b := owns_ne hown hb2.blk (fun e => hb2.ne e.symm)
 have hc2 : Chg (fun j => j = b) w2 ((w2.setCell ⟨b, 37, none⟩ tv2).setCell ⟨b, 36, none⟩ (.int .i64 (szT (tab ++ [h]) : Int))) := ((Chg.refl (fun j => j = b) w2).setCell (p := ⟨b, 37, none⟩) (Or.inr rfl) _).setCell (p := ⟨b, 36, none⟩) (Or.inr rfl) _
 have hsz : szT (tab ++ [h]) = szT tab + tk h := by rw [szT_append, szT_cons]; simp [szT]
 have hs1 := h1.chg.size
 have hs0 := hb.size
 refine ⟨hb2, ⟨⟨(hb2.set2 tv2).set1 _, ?_, by omega, hl⟩, fun i hi => ?_, ?_, fun j hj => ?_⟩⟩
 ·rw [List.length_append, hpCells_append]
  exact owns_chg hown hc2 (fun j hj e => by subst e; exact hne2 hj)
 ·rw [set_ne (by omega), set_ne (by omega)]
  exact h1.cs3 i hi
 ·refine (((Chg.of_below hb).trans (h1.chg.mono fun j _ e => Or.inr e)).trans (hc.mono fun j _ e => ?_)).trans (hc2.mono fun j _ e => Or.inr (Or.inl e))
  rcases h1.own j e with a | a
  ·exact Or.inr (Or.inr a)
  ·exact Or.inl (Nat.le_trans hs0 a)
 ·have : tv1.ownBlock = some j ∨ w1.heap.size ≤ j := by
   rcases hfr with e | e
   ·rw [e] at hj; exact Or.inl hj
   ·rw [e] at hj; simp at hj; exact Or.inr (by omega)
  rcases this with e | e
  ·rcases h1.own j e with a | a
   ·exact Or.inl a
   ·exact Or.inr (Nat.le_trans hs0 a)
  ·exact Or.inr (by omega)
set_option maxRecDepth 100000 in
set_option maxHeartbeats 800000 in
theorem add_anyZ (b : Nat) (cs : Array Value) (tP : TypeId) (lim : Nat) (tv : Value) (tab : List HP) (h : HP) (w : World) (ht : TbSZ w b cs tP lim tv tab) (hn : h.n.size ≤ 268435456) (hv : h.v.size ≤ 268435456) :
  Calls Tryz.prog 185 #[.pointer (some ⟨b, 35, none⟩), .agg #[.string h.n, .string h.v]] w fun e w' => e = .returned (.tuple #[]) ∧ ∃ cs' tv', TbToZ w w' b cs cs' tP lim tv tv' (addT tab lim h) := by
 obtain ⟨i0, hi, hz0, hz1, hz2⟩ := info_parts Tryz.info130
 have hsz : szT tab ≤ 256 := Nat.le_trans ht.fit ht.small
 have hlim := ht.small
 have hfit := ht.fit
 have htk : tk h = h.n.size + h.v.size + 8 := rfl
 have hbx := (Below.refl w.heap.size w).alloc (Nat.le_refl _) (.cells #[.string h.n, .string h.v] 130)
 have hh := heap_alloc_new w (.cells #[.string h.n, .string h.v] 130)
 have HRM := hide (fun wx => room_any h wx (by omega) (by omega))
 have hlp := fun wx => lies_pair wx h
 have hon := hp_one h
 have hadd : addT tab lim h = if tk h ≤ lim then shr tab ((lim : Int) - tk h) ++ [h] else shr tab ((lim : Int) - tk h) := rfl
 have hall : lim < tk h → shr tab ((lim : Int) - tk h) = [] := fun e => by unfold shr; rw [goneN_all _ _ (by omega)]; simp
 have hszs : tk h ≤ lim → szT (shr tab ((lim : Int) - tk h)) + tk h ≤ lim := fun e => by have := shr_size tab ((lim : Int) - tk h) (by omega); omega
 have HADD := hide hadd
 have HALL := hide hall
 have HSZS := hide hszs
 have HT := hide ht
 have HBX := hide hbx
 have HHB := hide hh
 have HLP := hide hlp
 have HON := hide hon
 have htb : tk h ≤ 536870920 := by omega
 clear htk
 generalize hte : tk h = t at HRM htb HADD HALL HSZS
 have HTE := hide hte
 clear hte
 clear ht hbx hh hadd hall hszs hlp hon
 go_enter Tryz.func185, Tryz.ntmps185
 go_wp2_with fail
 refine (HRM.out _).mono ?_
 rintro e w1 ⟨rfl, hb1⟩
 have hbel : Below w.heap.size w w1 := HBX.out.trans (hb1.mono HBX.out.size)
 have hbox : w1.heap[w.heap.size]? = some (.cells #[.string h.n, .string h.v] 130 (0, 0)) := by rw [hb1.block _ (lt_of_block HHB.out)]; exact HHB.out
 have ht1 := HT.out.below hbel
 obtain ⟨z0, z1, z2⟩ := ht1.tb.cells
 have hbl : b ≠ w.heap.size := by have := HT.out.tb.lt; omega
 have hsh := shrink_anyZ b cs tP lim tv tab ((lim : Int) - (t : Int)) w1 ht1.tb ht1.row hsz (by omega) (by omega)
 have hvb : tv.ownBlock ≠ some w.heap.size := fun e => by have := owns_lt HT.out.row e; omega
 have HSH := hide hsh
 have HB1 := hide hbel
 have HBOX := hide hbox
 have HVB := hide hvb
 clear hsh hbel hbox hb1 ht1 hvb z1 z2
 go_wp2_with fail
 refine HSH.out.mono ?_
 rintro e w2 ⟨rfl, cs1, tv1, h2⟩
 have hbox2 : w2.heap[w.heap.size]? = some (.cells #[.string h.n, .string h.v] 130 (0, 0)) := by
  rw [h2.chg.block _ (lt_of_block HBOX.out) (by rintro (e | e); exact hbl e.symm; exact HVB.out e)]; exact HBOX.out
 obtain ⟨z0, z1, z2⟩ := h2.tb.cells
 have y1 := h2.tb.free 36
 have y2 := h2.tb.free 37
 have q0 : w2.cell? ⟨w.heap.size, 0, none⟩ = some (.string h.n) := by rw [cell_of_row _ _ _ _ _ _ hbox2]; rfl
 have q1 : w2.cell? ⟨w.heap.size, 1, none⟩ = some (.string h.v) := by rw [cell_of_row _ _ _ _ _ _ hbox2]; rfl
 have H2 := hide h2
 clear h2 hbox2
 by_cases hle : t ≤ lim
 ·have hsum := HSZS.out hle
  obtain ⟨tab1, htab1⟩ : ∃ tab1, tab1 = shr tab ((lim : Int) - (t : Int)) := ⟨_, rfl⟩
  rw [← htab1] at hsum H2 z1
  have HTAB := hide htab1
  clear htab1
  have hlen1 : tab1.length ≤ 32 := by have := szT_len tab1; omega
  obtain ⟨s1, c1, hs1⟩ := slice_len H2.out.row
  subst hs1
  have HOWN : Hid ((w2.alloc (.cells #[.string h.n, .string h.v] 130)).drew.ownsRow 0 130 2 (.slice s1 tab1.length c1) tab1.length (hpCells tab1)) := H2.out.row.alloc _
  have HLI : Hid (Lies (w2.alloc (.cells #[.string h.n, .string h.v] 130)).drew (.slice (some ⟨w2.heap.size, 0, none⟩) 1 1) 1 (hpCells [h])) := HLP.out w2
  have z2a : (w2.alloc (.cells #[.string h.n, .string h.v] 130)).cell? ⟨b, 37, none⟩ = some (.slice s1 tab1.length c1) := (H2.out.tb.chg ((Chg.refl (fun _ => False) w2).alloc _) id).cells.2.2
  have HN1 : Hid (tab1.length + 1 ≤ maxLen) := by show _ ≤ _; unfold maxLen; omega
  have HN2 : Hid ((tab1.length + 1) * 32 ≤ 140737488355328) := by show _ ≤ _; omega
  have HSS : Hid (szT (tab1 ++ [h]) = szT tab1 + t) := by show _ = _; rw [szT_append, szT_cons, HTE.out]; simp [szT]
  have HSF : Hid (szT tab1 + tk h ≤ lim) := by show _ ≤ _; rw [HTE.out]; exact hsum
  go_wp2
  go_region_law (refine step_app rfl (.tmp 25) (.tmp 27) 88 rfl 130 i0 (.agg #[.string ⟨#[]⟩, .string ⟨#[]⟩]) 2 32 Tryz.underlying88 hi hz0 hz1 hz2 rfl (by decide) (.slice s1 tab1.length c1) tab1.length (hpCells tab1) (by simp [Act.eval]) HOWN.out (.slice (some ⟨w2.heap.size, 0, none⟩) 1 1) 1 (hpCells [h]) (by simp [Act.eval]) rfl HLI.out HON.out HN1.out HN2.out ?_; intro tv2 w3 hown3 hg3 hf3; obtain ⟨s3, c3, hs3⟩ := slice_len hown3; subst hs3; obtain ⟨p1, p2⟩ := add_endZ HB1.out H2.out HSF.out hlim hown3 hg3 (by simpa using hf3); obtain ⟨x0, x1, x2⟩ := p1.cells; have u1 := p1.free 36; have u2 := p1.free 37; have HP2 := hide p2; clear hown3 hg3 hf3 p1 p2)
  all_goals go_wp2
  all_goals refine bodyPost_end (results_none rfl _ _ _) rfl ⟨rfl, (cs1.setIfInBounds 37 (.slice s3 (tab1.length + 1) c3)).setIfInBounds 36 (.int .i64 (szT (tab1 ++ [h]) : Int)), .slice s3 (tab1.length + 1) c3, ?_⟩
  all_goals have ha := HADD.out
  all_goals rw [if_pos hle, ← HTAB.out] at ha
  all_goals rw [ha]
  all_goals have h9 := HP2.out
  all_goals rw [HSS.out] at h9 ⊢
  all_goals exact h9
 ·have hd : decide ((t : Int) ≤ (lim : Int)) = false := by simp; omega
  go_wp2
  refine bodyPost_end (results_none rfl _ _ _) rfl ⟨rfl, cs1, tv1, ?_⟩
  have ha := HADD.out
  rw [if_neg hle] at ha
  rw [ha]
  have hal := HALL.out (by omega)
  have h3 := H2.out
  refine ⟨⟨h3.tb, h3.row, ?_, hlim⟩, h3.cs3, (Chg.of_below HB1.out).trans (h3.chg.mono fun j _ e => Or.inr e), fun j hj => ?_⟩
  ·rw [hal]; exact Nat.zero_le _
  ·rcases h3.own j hj with e | e
   ·exact Or.inl e
   ·exact Or.inr (Nat.le_trans HB1.out.size e)
end
section
set_option maxRecDepth 100000 in
set_option maxHeartbeats 800000 in
theorem takeTexts_anyZ (ub : Nat) (cs : Array Value) (tP : TypeId) (lim : Nat) (tv : Value) (tab : List HP) (sb : Nat) (rv : Value) (l : List UInt8) (n : Nat) (w : World) (hgl : Gl w) (ht : TbSZ w ub cs tP lim tv tab) (h : SrS w sb rv l) (hl : l.length ≤ 268435456) (hsb : 7 ≤ sb) (hn : n ≤ 1099511627776) :
  Calls Tryz.prog 184 #[.pointer (some ⟨ub, 35, none⟩), .pointer (some ⟨sb, 0, none⟩), .int .i64 n] w fun e w' => TxsR w w' sb rv (rdTxs tab n l) e := by
 have hba : Below w.heap.size w ((w.alloc (.cells #[.string ⟨#[]⟩, .string ⟨#[]⟩] 130)).alloc (.cells #[.string ⟨#[]⟩, .string ⟨#[]⟩] 130)) := ((Below.refl _ _).alloc (Nat.le_refl _) _).alloc (by simp) _
 have hga := hgl.below hba
 have hta := ht.below hba
 have hsa := h.below hba
 have hslt := lt_of_block h.blk
 have hrl : ∀ j, rv.ownBlock = some j → j < w.heap.size := fun j hj => h.bytes.lt hj
 have hrd : rdTxs tab n l = match (if 0 < n then (match (numd tab)[n - 1]? with
   | none => none
   | some x => some (x.n.data.toList, l)) else rdTxt l) with
  | none => none
  | some (nm, q) => match rdTxt q with
   | none => none
   | some (vl, s) => some (⟨⟨nm.toArray⟩, ⟨vl.toArray⟩⟩, s) := rfl
 have hA : ((w.alloc (.cells #[.string ⟨#[]⟩, .string ⟨#[]⟩] 130)).alloc (.cells #[.string ⟨#[]⟩, .string ⟨#[]⟩] 130)).heap[w.heap.size]? = some (.cells #[.string ⟨#[]⟩, .string ⟨#[]⟩] 130 (0, 0)) := by
  rw [Below.heap_alloc _ _ _ (by simp)]; exact heap_alloc_new w _
 have hB : ((w.alloc (.cells #[.string ⟨#[]⟩, .string ⟨#[]⟩] 130)).alloc (.cells #[.string ⟨#[]⟩, .string ⟨#[]⟩] 130)).heap[w.heap.size + 1]? = some (.cells #[.string ⟨#[]⟩, .string ⟨#[]⟩] 130 (0, 0)) := by
  have := heap_alloc_new (w.alloc (.cells #[.string ⟨#[]⟩, .string ⟨#[]⟩] 130)) (.cells #[.string ⟨#[]⟩, .string ⟨#[]⟩] 130)
  simpa using this
 have HBA := hide hba
 have HGA := hide hga
 have HTA := hide hta
 have HSA := hide hsa
 have HRL := hide hrl
 have HRD := hide hrd
 have HAA := hide hA
 have HBB := hide hB
 clear hba hga hta hsa hrl hrd hgl ht h hA hB
 by_cases hpn : 0 < n ∧ (numd tab)[n - 1]? = none
 ·obtain ⟨hn0, hx⟩ := hpn
  have hnl := List.getElem?_eq_none_iff.1 hx
  rw [numd_length] at hnl
  have HPB := hide (pair_badZ ub cs tP lim tv tab n _ HTA.out hn (Or.inr (by omega)))
  have HE : Hid (rdTxs tab n l = none) := by show _ = _; rw [HRD.out, if_pos hn0, hx]
  clear hx
  go_enter Tryz.func184, Tryz.ntmps184
  go_wp2_with fail
  refine HPB.out.mono ?_
  rintro e w1 ⟨rfl, hb1⟩
  exact ⟨rfl, Or.inr ⟨HE.out, rfl, (Chg.of_below HBA.out).then_below hb1⟩⟩
 by_cases hbt : ¬ 0 < n ∧ rdTxt l = none
 ·obtain ⟨hn0, hx⟩ := hbt
  have HTT := hide (takeText_any sb rv l _ HGA.out HSA.out hl hsb)
  rw [hx] at HTT
  have HE : Hid (rdTxs tab n l = none) := by show _ = _; rw [HRD.out, if_neg hn0, hx]
  clear hx hpn
  go_enter Tryz.func184, Tryz.ntmps184
  go_wp2_with fail
  refine HTT.out.mono ?_
  rintro e w1 (⟨t, r, rv', hq, _⟩ | ⟨_, he, hc1⟩)
  ·cases hq
  ·rw [he]
   exact ⟨rfl, Or.inr ⟨HE.out, rfl, (Chg.of_below HBA.out).trans (hc1.mono fun _ _ e => Or.inr e)⟩⟩
 have hnm : ∃ nm q, (if 0 < n then (match (numd tab)[n - 1]? with
   | none => none
   | some x => some (x.n.data.toList, l)) else rdTxt l) = some (nm, q) := by
  by_cases hn0 : 0 < n
  ·rw [if_pos hn0]
   cases hx : (numd tab)[n - 1]? with
   | none => exact absurd ⟨hn0, hx⟩ hpn
   | some x => exact ⟨_, _, rfl⟩
  ·rw [if_neg hn0]
   cases hx : rdTxt l with
   | none => exact absurd ⟨hn0, hx⟩ hbt
   | some tr => exact ⟨tr.1, tr.2, rfl⟩
 obtain ⟨nm, q, hnq⟩ := hnm
 have hrd := HRD.out
 rw [hnq] at hrd
 simp only at hrd
 have HRD2 := hide hrd
 have HNQ := hide hnq
 clear hrd hnq hpn hbt
 by_cases hn0 : 0 < n
 ·have hnq := HNQ.out
  rw [if_pos hn0] at hnq
  cases hx : (numd tab)[n - 1]? with
  | none => rw [hx] at hnq; cases hnq
  | some x =>
   rw [hx] at hnq
   simp only [Option.some.injEq, Prod.mk.injEq] at hnq
   obtain ⟨hnm, hql⟩ := hnq
   have HPA := hide (pair_anyZ ub cs tP lim tv tab n x _ HGA.out HTA.out hn0 hx)
   have hfd : ∀ (s t : ByteArray) (w : World), (Instr.field 130 (.agg #[.string s, .string t]) 0).run Tryz.prog w = .ok (.string s) w := fun _ _ _ => by kernel_rfl
   have HXN : Hid ((⟨nm.toArray⟩ : ByteArray) = x.n) := by show _ = _; rw [← hnm, ba_back]
   clear hx hnm
   subst hql
   go_enter Tryz.func184, Tryz.ntmps184
   go_wp2_with fail
   refine HPA.out.mono ?_
   rintro e w1 ⟨rfl, hb1⟩
   have hA1 : w1.heap[w.heap.size]? = some (.cells #[.string ⟨#[]⟩, .string ⟨#[]⟩] 130 (0, 0)) := by rw [hb1.block _ (lt_of_block HAA.out)]; exact HAA.out
   have hB1 : w1.heap[w.heap.size + 1]? = some (.cells #[.string ⟨#[]⟩, .string ⟨#[]⟩] 130 (0, 0)) := by rw [hb1.block _ (lt_of_block HBB.out)]; exact HBB.out
   have c0 : w1.cell? ⟨w.heap.size + 1, 0, none⟩ = some (.string ⟨#[]⟩) := by rw [cell_of_row _ _ _ _ _ _ hB1]; rfl
   have f0 : w1.frozen? ⟨w.heap.size + 1, 0, none⟩ = false := by simp [World.frozen?, hB1]
   have HB1 := hide hb1
   have HA1 := hide hA1
   have HBB1 := hide hB1
   clear hb1 hA1 hB1
   have hst : SrTo w w1 sb rv rv l := SrTo.before (HBA.out.trans (HB1.out.mono HBA.out.size)) ⟨HSA.out.below HB1.out, Chg.refl _ _, fun _ e => e⟩
   have hc9 : Chg (fun j => j = w.heap.size + 1) w1 (w1.setCell ⟨w.heap.size + 1, 0, none⟩ (.string x.n)) := (Chg.refl (fun j => j = w.heap.size + 1) w1).setCell (p := ⟨w.heap.size + 1, 0, none⟩) (Or.inr rfl) _
   have hcut : ∃ rv1, SrTo w (w1.setCell ⟨w.heap.size + 1, 0, none⟩ (.string x.n)) sb rv rv1 l ∧ l.length ≤ l.length ∧ Gl (w1.setCell ⟨w.heap.size + 1, 0, none⟩ (.string x.n)) ∧ (w1.setCell ⟨w.heap.size + 1, 0, none⟩ (.string x.n)).heap[w.heap.size]? = some (.cells #[.string ⟨#[]⟩, .string ⟨#[]⟩] 130 (0, 0)) ∧ (w1.setCell ⟨w.heap.size + 1, 0, none⟩ (.string x.n)).heap[w.heap.size + 1]? = some (.cells #[.string ⟨nm.toArray⟩, .string ⟨#[]⟩] 130 (0, 0)) := by
    refine ⟨rv, hst.set (by omega) hslt HRL.out _, Nat.le_refl _, (HGA.out.below HB1.out).chg hc9 (fun j hj e => by omega), ?_, ?_⟩
    ·rw [hc9.block _ (lt_of_block HA1.out) (by omega)]; exact HA1.out
    ·rw [HXN.out]
     exact block_setCell (i := 0) HBB1.out
   clear hst hc9 HA1 HBB1 HB1
   go_wp2_with fail
   generalize hwc : w1.setCell ⟨w.heap.size + 1, 0, none⟩ (.string x.n) = wc at hcut ⊢
   clear hwc c0 f0
   obtain ⟨rv1, hs1, hql, hg1, hA1, hB1⟩ := hcut
   have HTT := hide (takeText_any sb rv1 l wc hg1 hs1.st (by omega) hsb)
   have HS1 := hide hs1
   have HA1 := hide hA1
   have HB1 := hide hB1
   clear hs1 hg1 hA1 hB1
   refine HTT.out.mono ?_
   rintro e w2 (⟨t, r, rv2, hq, rfl, hs2⟩ | ⟨hq, he, hc2⟩)
   ·have hA2 : w2.heap[w.heap.size]? = some (.cells #[.string ⟨#[]⟩, .string ⟨#[]⟩] 130 (0, 0)) := by rw [hs2.chg.block _ (lt_of_block HA1.out) (by omega)]; exact HA1.out
    have hB2 : w2.heap[w.heap.size + 1]? = some (.cells #[.string ⟨nm.toArray⟩, .string ⟨#[]⟩] 130 (0, 0)) := by rw [hs2.chg.block _ (lt_of_block HB1.out) (by omega)]; exact HB1.out
    have c0 : w2.cell? ⟨w.heap.size + 1, 0, none⟩ = some (.string ⟨nm.toArray⟩) := by rw [cell_of_row _ _ _ _ _ _ hB2]; rfl
    have c1 : w2.cell? ⟨w.heap.size + 1, 1, none⟩ = some (.string ⟨#[]⟩) := by rw [cell_of_row _ _ _ _ _ _ hB2]; rfl
    have f1 : w2.frozen? ⟨w.heap.size + 1, 1, none⟩ = false := by simp [World.frozen?, hB2]
    have a0 : w2.cell? ⟨w.heap.size, 0, none⟩ = some (.string ⟨#[]⟩) := by rw [cell_of_row _ _ _ _ _ _ hA2]; rfl
    have a1 : w2.cell? ⟨w.heap.size, 1, none⟩ = some (.string ⟨#[]⟩) := by rw [cell_of_row _ _ _ _ _ _ hA2]; rfl
    have g0 : w2.frozen? ⟨w.heap.size, 0, none⟩ = false := by simp [World.frozen?, hA2]
    have g1 : w2.frozen? ⟨w.heap.size, 1, none⟩ = false := by simp [World.frozen?, hA2]
    have hrr := HRD2.out
    rw [hq] at hrr
    have HRR := hide hrr
    have HS2 := hide (HS1.out.trans hs2)
    clear hs2 hA2 hB2 hrr hq
    go_wp2
    refine bodyPost_ret (v := .agg #[.string ⟨nm.toArray⟩, .string ⟨t.toArray⟩]) ?_ rfl (Or.inl ⟨_, r, rv2, HRR.out, rfl, ?_⟩)
    ·simp [results, Tryz.results184, go_sem, a0, a1]
    ·exact ((HS2.out.set (by omega) hslt HRL.out _).set (by omega) hslt HRL.out _).set (by omega) hslt HRL.out _
   ·have hrr := HRD2.out
    rw [hq] at hrr
    rw [he]
    exact ⟨rfl, Or.inr ⟨hrr, rfl, HS1.out.chg.trans (hc2.mono fun _ _ e => Or.inr e)⟩⟩
 ·have hnq := HNQ.out
  rw [if_neg hn0] at hnq
  have hlen := (rdTxt_len hnq).2
  have HTT := hide (takeText_any sb rv l _ HGA.out HSA.out hl hsb)
  rw [hnq] at HTT
  clear hnq
  go_enter Tryz.func184, Tryz.ntmps184
  go_wp2_with fail
  refine HTT.out.mono ?_
  rintro e w1 (⟨t, r, rv1, hq, rfl, hs1⟩ | ⟨hq, _, _⟩)
  ·simp only [Option.some.injEq, Prod.mk.injEq] at hq
   obtain ⟨rfl, rfl⟩ := hq
   have hA1 : w1.heap[w.heap.size]? = some (.cells #[.string ⟨#[]⟩, .string ⟨#[]⟩] 130 (0, 0)) := by rw [hs1.chg.block _ (lt_of_block HAA.out) (by omega)]; exact HAA.out
   have hB1 : w1.heap[w.heap.size + 1]? = some (.cells #[.string ⟨#[]⟩, .string ⟨#[]⟩] 130 (0, 0)) := by rw [hs1.chg.block _ (lt_of_block HBB.out) (by omega)]; exact HBB.out
   have c0 : w1.cell? ⟨w.heap.size + 1, 0, none⟩ = some (.string ⟨#[]⟩) := by rw [cell_of_row _ _ _ _ _ _ hB1]; rfl
   have f0 : w1.frozen? ⟨w.heap.size + 1, 0, none⟩ = false := by simp [World.frozen?, hB1]
   have HS1 := hide hs1
   have HA1 := hide hA1
   have HBB1 := hide hB1
   clear hs1 hA1 hB1
   have hst : SrTo w w1 sb rv rv1 q := SrTo.before HBA.out HS1.out
   have hc9 : Chg (fun j => j = w.heap.size + 1) w1 (w1.setCell ⟨w.heap.size + 1, 0, none⟩ (.string ⟨nm.toArray⟩)) := (Chg.refl (fun j => j = w.heap.size + 1) w1).setCell (p := ⟨w.heap.size + 1, 0, none⟩) (Or.inr rfl) _
   have hcut : ∃ rv1, SrTo w (w1.setCell ⟨w.heap.size + 1, 0, none⟩ (.string ⟨nm.toArray⟩)) sb rv rv1 q ∧ q.length ≤ l.length ∧ Gl (w1.setCell ⟨w.heap.size + 1, 0, none⟩ (.string ⟨nm.toArray⟩)) ∧ (w1.setCell ⟨w.heap.size + 1, 0, none⟩ (.string ⟨nm.toArray⟩)).heap[w.heap.size]? = some (.cells #[.string ⟨#[]⟩, .string ⟨#[]⟩] 130 (0, 0)) ∧ (w1.setCell ⟨w.heap.size + 1, 0, none⟩ (.string ⟨nm.toArray⟩)).heap[w.heap.size + 1]? = some (.cells #[.string ⟨nm.toArray⟩, .string ⟨#[]⟩] 130 (0, 0)) := by
    refine ⟨rv1, hst.set (by omega) hslt HRL.out _, hlen, (HGA.out.sr HS1.out.chg hsb).chg hc9 (fun j hj e => by omega), ?_, ?_⟩
    ·rw [hc9.block _ (lt_of_block HA1.out) (by omega)]; exact HA1.out
    ·exact block_setCell (i := 0) HBB1.out
   clear hst hc9 HA1 HBB1 HS1
   go_wp2_with fail
   generalize hwc : w1.setCell ⟨w.heap.size + 1, 0, none⟩ (.string ⟨nm.toArray⟩) = wc at hcut ⊢
   clear hwc c0 f0
   obtain ⟨rv1, hs1, hql, hg1, hA1, hB1⟩ := hcut
   have HTT := hide (takeText_any sb rv1 q wc hg1 hs1.st (by omega) hsb)
   have HS1 := hide hs1
   have HA1 := hide hA1
   have HB1 := hide hB1
   clear hs1 hg1 hA1 hB1
   refine HTT.out.mono ?_
   rintro e w2 (⟨t, r, rv2, hq, rfl, hs2⟩ | ⟨hq, he, hc2⟩)
   ·have hA2 : w2.heap[w.heap.size]? = some (.cells #[.string ⟨#[]⟩, .string ⟨#[]⟩] 130 (0, 0)) := by rw [hs2.chg.block _ (lt_of_block HA1.out) (by omega)]; exact HA1.out
    have hB2 : w2.heap[w.heap.size + 1]? = some (.cells #[.string ⟨nm.toArray⟩, .string ⟨#[]⟩] 130 (0, 0)) := by rw [hs2.chg.block _ (lt_of_block HB1.out) (by omega)]; exact HB1.out
    have c0 : w2.cell? ⟨w.heap.size + 1, 0, none⟩ = some (.string ⟨nm.toArray⟩) := by rw [cell_of_row _ _ _ _ _ _ hB2]; rfl
    have c1 : w2.cell? ⟨w.heap.size + 1, 1, none⟩ = some (.string ⟨#[]⟩) := by rw [cell_of_row _ _ _ _ _ _ hB2]; rfl
    have f1 : w2.frozen? ⟨w.heap.size + 1, 1, none⟩ = false := by simp [World.frozen?, hB2]
    have a0 : w2.cell? ⟨w.heap.size, 0, none⟩ = some (.string ⟨#[]⟩) := by rw [cell_of_row _ _ _ _ _ _ hA2]; rfl
    have a1 : w2.cell? ⟨w.heap.size, 1, none⟩ = some (.string ⟨#[]⟩) := by rw [cell_of_row _ _ _ _ _ _ hA2]; rfl
    have g0 : w2.frozen? ⟨w.heap.size, 0, none⟩ = false := by simp [World.frozen?, hA2]
    have g1 : w2.frozen? ⟨w.heap.size, 1, none⟩ = false := by simp [World.frozen?, hA2]
    have hrr := HRD2.out
    rw [hq] at hrr
    have HRR := hide hrr
    have HS2 := hide (HS1.out.trans hs2)
    clear hs2 hA2 hB2 hrr hq
    go_wp2
    refine bodyPost_ret (v := .agg #[.string ⟨nm.toArray⟩, .string ⟨t.toArray⟩]) ?_ rfl (Or.inl ⟨_, r, rv2, HRR.out, rfl, ?_⟩)
    ·simp [results, Tryz.results184, go_sem, a0, a1]
    ·exact ((HS2.out.set (by omega) hslt HRL.out _).set (by omega) hslt HRL.out _).set (by omega) hslt HRL.out _
   ·have hrr := HRD2.out
    rw [hq] at hrr
    rw [he]
    exact ⟨rfl, Or.inr ⟨hrr, rfl, HS1.out.chg.trans (hc2.mono fun _ _ e => Or.inr e)⟩⟩
  ·cases hq
end
section
structure UnToZ (w w' : World) (ub : Nat) (cs cs' : Array Value) (tP : TypeId) (lim : Nat) (tv tv' : Value) (tab' : List HP) (sb : Nat) (rv rv' : Value) (l' : List UInt8) : Prop where
 st : TbSZ w' ub cs' tP lim tv' tab'
 cs3 : ∀ i, (i < 35 ∨ 38 ≤ i) → cs'[i]? = cs[i]?
 sr : SrS w' sb rv' l'
 chg : Chg (fun j => j = sb ∨ TouchT ub tv j) w w'
 tfresh : ∀ j, tv'.ownBlock = some j → tv.ownBlock = some j ∨ w.heap.size ≤ j
 own : ∀ j, rv'.ownBlock = some j → rv.ownBlock = some j
theorem SrTo.unZ {w w' : World} {ub : Nat} {cs : Array Value} {tP : TypeId} {lim : Nat} {tv : Value} {tab : List HP} {sb : Nat} {rv rv' : Value} {l' : List UInt8} (h : SrTo w w' sb rv rv' l') (ht : TbSZ w ub cs tP lim tv tab) (ha : Apart ub sb tv rv) : UnToZ w w' ub cs cs tP lim tv tv tab sb rv rv' l' :=
 ⟨ht.chg h.chg ha.us (fun j hj e => ha.ts (e ▸ hj)), fun _ _ => rfl, h.st, h.chg.mono fun _ _ e => Or.inl e, fun _ e => Or.inl e, h.own⟩
theorem UnToZ.below {w w1 w2 : World} {ub : Nat} {cs cs' : Array Value} {tP : TypeId} {lim : Nat} {tv tv' : Value} {tab' : List HP} {sb : Nat} {rv rv' : Value} {l' : List UInt8} (h : UnToZ w w1 ub cs cs' tP lim tv tv' tab' sb rv rv' l') (hb : Below w1.heap.size w1 w2) : UnToZ w w2 ub cs cs' tP lim tv tv' tab' sb rv rv' l' :=
 ⟨h.st.below hb, h.cs3, h.sr.below hb, h.chg.then_below hb, h.tfresh, h.own⟩
theorem UnToZ.turn {w w1 w2 : World} {ub : Nat} {cs cs1 cs' : Array Value} {tP : TypeId} {lim lim' : Nat} {tv tv1 tv' : Value} {tab tab' : List HP} {sb : Nat} {rv rv' : Value} {l' : List UInt8} (h : UnToZ w w1 ub cs cs1 tP lim tv tv1 tab sb rv rv' l') (k : TbToZ w1 w2 ub cs1 cs' tP lim' tv1 tv' tab') (ha : Apart ub sb tv1 rv') : UnToZ w w2 ub cs cs' tP lim' tv tv' tab' sb rv rv' l' := by
 have hsz := h.chg.size
 refine ⟨k.st, fun i hi => (k.cs3 i hi).trans (h.cs3 i hi), h.sr.chg k.chg ?_ ?_, h.chg.trans (k.chg.mono ?_), fun j hj => ?_, h.own⟩
 ·rintro (e | e)
  ·exact ha.us e.symm
  ·exact ha.ts e
 ·rintro j hj (e | e)
  ·exact ha.ru (e ▸ hj)
  ·exact ha.rt j hj e
 ·rintro j _ (e | e)
  ·exact Or.inr (Or.inr (Or.inl e))
  ·rcases h.tfresh j e with a | a
   ·exact Or.inr (Or.inr (Or.inr a))
   ·exact Or.inl a
 ·rcases k.own j hj with e | e
  ·exact h.tfresh j e
  ·exact Or.inr (Nat.le_trans hsz e)
theorem UnToZ.apart {w w' : World} {ub : Nat} {cs cs' : Array Value} {tP : TypeId} {lim : Nat} {tv tv' : Value} {tab' : List HP} {sb : Nat} {rv rv' : Value} {l l' : List UInt8} (h : UnToZ w w' ub cs cs' tP lim tv tv' tab' sb rv rv' l') (ha : Apart ub sb tv rv) (hs : SrS w sb rv l) : Apart ub sb tv' rv' := by
 refine ⟨ha.us, ?_, fun e => ha.ru (h.own _ e), fun j hj e => ?_⟩
 ·intro e
  rcases h.tfresh sb e with a | a
  ·exact ha.ts a
  ·have := lt_of_block hs.blk; omega
 ·have hj' := h.own j hj
  rcases h.tfresh j e with a | a
  ·exact ha.rt j hj' a
  ·have := hs.bytes.lt hj'; omega
theorem UnToZ.trans {w w1 w2 : World} {ub : Nat} {cs cs1 cs2 : Array Value} {tP : TypeId} {lim lim2 : Nat} {tv tv1 tv2 : Value} {tab tab2 : List HP} {sb : Nat} {rv r1 r2 : Value} {l1 l2 : List UInt8} (h : UnToZ w w1 ub cs cs1 tP lim tv tv1 tab sb rv r1 l1) (k : UnToZ w1 w2 ub cs1 cs2 tP lim2 tv1 tv2 tab2 sb r1 r2 l2) : UnToZ w w2 ub cs cs2 tP lim2 tv tv2 tab2 sb rv r2 l2 := by
 have hsz := h.chg.size
 refine ⟨k.st, fun i hi => (k.cs3 i hi).trans (h.cs3 i hi), k.sr, h.chg.trans (k.chg.mono ?_), fun j hj => ?_, fun j hj => h.own j (k.own j hj)⟩
 ·rintro j _ (e | e | e)
  ·exact Or.inr (Or.inl e)
  ·exact Or.inr (Or.inr (Or.inl e))
  ·rcases h.tfresh j e with a | a
   ·exact Or.inr (Or.inr (Or.inr a))
   ·exact Or.inl a
 ·rcases k.tfresh j hj with e | e
  ·exact h.tfresh j e
  ·exact Or.inr (Nat.le_trans hsz e)
theorem UnToZ.gl {w w' : World} {ub : Nat} {cs cs' : Array Value} {tP : TypeId} {lim : Nat} {tv tv' : Value} {tab' : List HP} {sb : Nat} {rv rv' : Value} {l' : List UInt8} (h : UnToZ w w' ub cs cs' tP lim tv tv' tab' sb rv rv' l') (hg : Gl w) (hub : 7 ≤ ub) (hsb : 7 ≤ sb) (htv : ∀ j, tv.ownBlock = some j → 7 ≤ j) : Gl w' := by
 refine hg.chg h.chg ?_
 rintro j hj (e | e | e)
 ·omega
 ·omega
 ·have := htv j e; omega
end
section
theorem UnToZ.set {w w1 : World} {ub : Nat} {cs cs' : Array Value} {tP : TypeId} {lim : Nat} {tv tv' : Value} {tab' : List HP} {sb : Nat} {rv rv' : Value} {l' : List UInt8} (h : UnToZ w w1 ub cs cs' tP lim tv tv' tab' sb rv rv' l') {b o : Nat} (hb : w.heap.size ≤ b) (hub : ub < w.heap.size) (hsb : sb < w.heap.size) (hr : ∀ j, rv.ownBlock = some j → j < w.heap.size) (hne : tv'.ownBlock ≠ some b) (u : Value) : UnToZ w (w1.setCell ⟨b, o, none⟩ u) ub cs cs' tP lim tv tv' tab' sb rv rv' l' := by
 have hc : Chg (fun j => j = b) w1 (w1.setCell ⟨b, o, none⟩ u) := (Chg.refl (fun j => j = b) w1).setCell (p := ⟨b, o, none⟩) (Or.inr rfl) _
 exact ⟨h.st.chg hc (by omega) (fun j hj e => hne (e ▸ hj)), h.cs3, h.sr.chg hc (by omega) (fun j hj e => by have := hr j (h.own j hj); omega), h.chg.trans (hc.mono fun j _ e => Or.inl (by omega)), h.tfresh, h.own⟩
theorem num_afterZ {w w2 w3 : World} {ub : Nat} {cs : Array Value} {tP : TypeId} {lim : Nat} {tv : Value} {tab : List HP} {sb : Nat} {rv rv1 rv3 : Value} {r q : List UInt8} {o : Obj} (hg : Gl w2) (hx : w2.heap[w.heap.size]? = some o) (hs : SrTo w w2 sb rv rv1 r) (h3 : SrTo w2.drew w3 sb rv1 rv3 q) (hsb : 7 ≤ sb) (hsl : sb < w.heap.size) (ht : TbSZ w ub cs tP lim tv tab) (ha : Apart ub sb tv rv) :
  Gl w3 ∧ UnToZ w w3 ub cs cs tP lim tv tv tab sb rv rv3 q ∧ w3.heap[w.heap.size]? = some o := by
 have hc : Chg (fun j => j = sb) w2 w3 := ((Chg.refl (fun j => j = sb) w2).drew).trans (h3.chg.mono fun j _ e => Or.inr e)
 refine ⟨hg.sr hc hsb, ((hs.trans ⟨h3.st, hc, h3.own⟩).unZ ht ha), ?_⟩
 rw [hc.block _ (lt_of_block hx) (by omega)]; exact hx
theorem txs_afterZ {w w3 w4 : World} {ub : Nat} {cs : Array Value} {tP : TypeId} {lim : Nat} {tv : Value} {tab : List HP} {sb : Nat} {rv rv3 rv4 : Value} {s q : List UInt8} {o : Obj} (hx : w3.heap[w.heap.size]? = some o) (hs : UnToZ w w3 ub cs cs tP lim tv tv tab sb rv rv3 s) (h4 : SrTo w3 w4 sb rv3 rv4 q) (hsl : sb < w.heap.size) (ht : TbSZ w ub cs tP lim tv tab) (ha : Apart ub sb tv rv) :
  w4.heap[w.heap.size]? = some o ∧ UnToZ w w4 ub cs cs tP lim tv tv tab sb rv rv4 q := by
 refine ⟨?_, ?_⟩
 ·rw [h4.chg.block _ (lt_of_block hx) (by omega)]; exact hx
 ·have ha3 : Apart ub sb tv rv3 := ⟨ha.us, ha.ts, fun e => ha.ru (hs.own _ e), fun j hj => ha.rt j (hs.own j hj)⟩
  have h5 := h4.unZ hs.st ha3
  exact ⟨h5.st, fun _ _ => rfl, h5.sr, hs.chg.trans (h5.chg.mono fun j _ e => Or.inr e), fun _ e => Or.inl e, fun j hj => hs.own j (h4.own j hj)⟩
theorem add_afterZ {w wb w6 : World} {ub : Nat} {cs cs6 : Array Value} {tP : TypeId} {lim : Nat} {tv tv6 : Value} {tab tab6 : List HP} {sb : Nat} {rv rvb : Value} {q : List UInt8} {o o2 : Obj} (hx : wb.heap[w.heap.size]? = some o) (hu : UnToZ w wb ub cs cs tP lim tv tv tab sb rv rvb q) (h6 : TbToZ (wb.alloc o2).drew w6 ub cs cs6 tP lim tv tv6 tab6) (hub : ub < w.heap.size) (htl : tv.ownBlock ≠ some w.heap.size) (ht : TbSZ w ub cs tP lim tv tab) (ha : Apart ub sb tv rv) :
  w6.heap[w.heap.size]? = some o ∧ w6.heap[wb.heap.size]? = some o2 ∧ UnToZ w w6 ub cs cs6 tP lim tv tv6 tab6 sb rv rvb q ∧ tv6.ownBlock ≠ some w.heap.size := by
 have hsz := hu.chg.size
 have hx0 := lt_of_block hx
 have hc : Chg (TouchT ub tv) wb w6 := (((Chg.refl _ wb).alloc o2).drew).trans (h6.chg.mono fun j _ e => Or.inr e)
 have hs2 : (wb.alloc o2).drew.heap.size = wb.heap.size + 1 := by simp
 refine ⟨?_, ?_, ?_, ?_⟩
 ·rw [hc.block _ hx0 (by rintro (e | e); omega; exact htl e)]; exact hx
 ·rw [h6.chg.block wb.heap.size (by omega) ?_]
  ·exact heap_alloc_new wb o2
  ·rintro (e | e)
   ·omega
   ·have := owns_lt ht.row e; omega
 ·have ha3 : Apart ub sb tv rvb := ⟨ha.us, ha.ts, fun e => ha.ru (hu.own _ e), fun j hj => ha.rt j (hu.own j hj)⟩
  exact hu.turn ⟨h6.st, h6.cs3, hc, fun j hj => (h6.own j hj).imp_right fun e => by omega⟩ ha3
 ·intro e
  rcases h6.own _ e with a | a
  ·exact htl a
  ·omega
set_option maxRecDepth 100000 in
set_option maxHeartbeats 800000 in
theorem takePair_numZ (ub : Nat) (cs : Array Value) (tP : TypeId) (lim : Nat) (tv : Value) (tab : List HP) (sb : Nat) (rv : Value) (c : UInt8) (r : List UInt8) (n : Nat) (h : HP) (q : List UInt8) (w : World) (hgl : Gl w) (ht : TbSZ w ub cs tP lim tv tab) (hs : SrS w sb rv (c :: r)) (ha : Apart ub sb tv rv) (hl : (c :: r).length ≤ 134217728) (hsb : 7 ≤ sb)
  (hc : 128 ≤ c.toNat) (hcnt : rdCnt 7 c r = some (n, q)) (hn : n ≠ 0) (hx : (numd tab)[n - 1]? = some h) :
  Calls Tryz.prog 160 #[.pointer (some ⟨ub, 35, none⟩), .pointer (some ⟨sb, 0, none⟩)] w fun e w' => e = .returned (.agg #[.string h.n, .string h.v]) ∧ ∃ cs' tv' rv', UnToZ w w' ub cs cs' tP lim tv tv' tab sb rv rv' q := by
 have hc8 : c.toNat ≤ 255 := Nat.le_of_lt_succ c.toNat_lt
 have hbA : Below w.heap.size w (w.alloc (.cells #[.string ⟨#[]⟩, .string ⟨#[]⟩] 130)) := (Below.refl _ _).alloc (Nat.le_refl _) _
 have hbox := heap_alloc_new w (.cells #[.string ⟨#[]⟩, .string ⟨#[]⟩] 130)
 have htk := stake_ok sb rv c r _ (hs.below hbA) (by omega)
 have hub := lt_of_block ht.tb.blk
 have hsl := lt_of_block hs.blk
 have hrl : ∀ j, rv.ownBlock = some j → j < w.heap.size := fun j hj => hs.bytes.lt hj
 have htl : tv.ownBlock ≠ some w.heap.size := fun e => by have := owns_lt ht.row e; omega
 have HFB : Hid (∀ wx, Calls Tryz.prog 180 #[fm 128 7, .int .u8 c.toNat] wx fun e w' => e = .returned (.bool true) ∧ Below wx.heap.size wx w') := fun wx => by
  have := fbegins_any 128 7 c wx (by decide)
  rwa [show decide (c.toNat / 2 ^ 7 = 128 / 2 ^ 7) = true from by simp; omega] at this
 have HCN : Hid (∀ rv' wx, SrS wx sb rv' r → Calls Tryz.prog 181 #[.pointer (some ⟨sb, 0, none⟩), .int .u8 c.toNat, fm 128 7] wx fun e w' => ∃ rv'', e = .returned (.int .i64 (n : Int)) ∧ SrTo wx w' sb rv' rv'' q) := fun rv' wx hh => by
  refine (takeCount_any sb rv' r c 128 7 wx hh (by decide) (by simp only [List.length_cons] at hl; omega)).mono ?_
  rintro e w' (⟨N, r', rv'', e1, _, e2, e3⟩ | ⟨e1, _⟩)
  ·rw [hcnt] at e1
   simp only [Option.some.injEq, Prod.mk.injEq] at e1
   rw [e1.1, e1.2]
   exact ⟨rv'', e2, e3⟩
  ·rw [hcnt] at e1; cases e1
 have HPA := hide (fun wx hg hh => pair_anyZ ub cs tP lim tv tab n h wx hg hh (by omega) hx)
 have HTK := hide htk
 have HBA := hide hbA
 have HBX := hide hbox
 have HG := hide hgl
 have HT := hide ht
 have HA := hide ha
 have HRL := hide hrl
 have HTL := hide htl
 clear htk hbA hbox hgl ht hs ha hrl htl hx hn hcnt
 generalize c.toNat = x at *
 go_enter Tryz.func160, Tryz.ntmps160
 go_wp2_with fail
 refine HTK.out.mono ?_
 rintro e w1 ⟨rv1, rfl, hs1⟩
 have hg1 := (HG.out.below HBA.out).sr hs1.chg hsb
 have hx1 : w1.heap[w.heap.size]? = some (.cells #[.string ⟨#[]⟩, .string ⟨#[]⟩] 130 (0, 0)) := by rw [hs1.chg.block _ (lt_of_block HBX.out) (by omega)]; exact HBX.out
 have hs1' : SrTo w w1 sb rv rv1 r := SrTo.before HBA.out hs1
 obtain ⟨g0, g1⟩ := hg1.num
 have HG1 := hide hg1
 have HX1 := hide hx1
 have HS1 := hide hs1'
 clear hs1 hs1' hg1 hx1
 go_wp2_with fail
 refine (HFB.out _).mono ?_
 rintro e w2 ⟨rfl, hb2⟩
 have hg2 := HG1.out.below hb2
 have hx2 : w2.heap[w.heap.size]? = some (.cells #[.string ⟨#[]⟩, .string ⟨#[]⟩] 130 (0, 0)) := by rw [hb2.block _ (lt_of_block HX1.out)]; exact HX1.out
 have hs2 := HS1.out.below hb2
 obtain ⟨g0, g1⟩ := hg2.num
 have HG2 := hide hg2
 have HX2 := hide hx2
 have HS2 := hide hs2
 clear hb2 hg2 hx2 hs2
 have hsd : SrS w2.drew sb rv1 r := HS2.out.st.chg ((Chg.refl (fun _ => False) _).drew) id (fun _ _ => id)
 have hcn := HCN.out rv1 w2.drew hsd
 have HCD := hide hcn
 clear hsd hcn
 go_wp2
 go_region_law (first
  | (refine step_call rfl 181 Tryz.f181 Tryz.func181 (by kernel_rfl) rfl [.tmp 16, .tmp 17, .tmp 18] #[236, 5, 234] rfl [.pointer (some ⟨sb, 0, none⟩), .int .u8 (x : Int), fm 128 7] (by simp [Act.eval, Act.put, fm]) HCD.out ?_; rintro e w3 ⟨rv3, rfl, hs3⟩; refine ⟨_, rfl, ?_⟩; have HW3 := hide (num_afterZ HG2.out HX2.out HS2.out hs3 hsb hsl HT.out HA.out); clear hs3)
  | (refine step_call rfl 183 Tryz.f183 Tryz.func183 (by kernel_rfl) rfl [.tmp 15, .tmp 19] #[90, 3] rfl [.pointer (some ⟨ub, 35, none⟩), .int .i64 (n : Int)] (by simp [Act.eval, Act.put]) (HPA.out w3 HW3.out.1 HW3.out.2.1.st) ?_; rintro e w4 ⟨rfl, hb4⟩; refine ⟨_, rfl, ?_⟩; obtain ⟨k0, k1, k2, k3⟩ := box_free HW3.out.2.2 hb4; have HU4 := hide (HW3.out.2.1.below hb4); clear hb4))
 all_goals go_wp2
 all_goals refine bodyPost_ret (v := .agg #[.string h.n, .string h.v]) ?_ rfl ⟨rfl, cs, tv, rv3, ?_⟩
 all_goals first
  | (simp [results, Tryz.results160, go_sem, k0, k1]; done)
  | exact (HU4.out.set (by omega) hub hsl HRL.out HTL.out _).set (by omega) hub hsl HRL.out HTL.out _
set_option maxRecDepth 100000 in
set_option maxHeartbeats 800000 in
theorem takePair_notZ (ub : Nat) (cs : Array Value) (tP : TypeId) (lim : Nat) (tv : Value) (tab : List HP) (sb : Nat) (rv : Value) (c : UInt8) (r : List UInt8) (n : Nat) (s : List UInt8) (h : HP) (q : List UInt8) (w : World) (hgl : Gl w) (ht : TbSZ w ub cs tP lim tv tab) (hs : SrS w sb rv (c :: r)) (ha : Apart ub sb tv rv) (hl : (c :: r).length ≤ 134217728) (hsb : 7 ≤ sb)
  (hc : c.toNat < 16) (hcnt : rdCnt 4 c r = some (n, s)) (hx : rdTxs tab n s = some (h, q)) (hhn : h.n.size ≤ 268435456) (hhv : h.v.size ≤ 268435456) :
  Calls Tryz.prog 160 #[.pointer (some ⟨ub, 35, none⟩), .pointer (some ⟨sb, 0, none⟩)] w fun e w' => e = .returned (.agg #[.string h.n, .string h.v]) ∧ ∃ cs' tv' rv', UnToZ w w' ub cs cs' tP lim tv tv' tab sb rv rv' q := by
 have hc8 : c.toNat ≤ 255 := Nat.le_of_lt_succ c.toNat_lt
 have hbA : Below w.heap.size w (w.alloc (.cells #[.string ⟨#[]⟩, .string ⟨#[]⟩] 130)) := (Below.refl _ _).alloc (Nat.le_refl _) _
 have hbox := heap_alloc_new w (.cells #[.string ⟨#[]⟩, .string ⟨#[]⟩] 130)
 have htk := stake_ok sb rv c r _ (hs.below hbA) (by omega)
 have hub := lt_of_block ht.tb.blk
 have hsl := lt_of_block hs.blk
 have hrl : ∀ j, rv.ownBlock = some j → j < w.heap.size := fun j hj => hs.bytes.lt hj
 have htl : tv.ownBlock ≠ some w.heap.size := fun e => by have := owns_lt ht.row e; omega
 have HF7 : Hid (∀ wx, Calls Tryz.prog 180 #[fm 128 7, .int .u8 c.toNat] wx fun e w' => e = .returned (.bool false) ∧ Below wx.heap.size wx w') := fun wx => by
  have := fbegins_any 128 7 c wx (by decide)
  rwa [show decide (c.toNat / 2 ^ 7 = 128 / 2 ^ 7) = false from by simp; omega] at this
 have HF6 : Hid (∀ wx, Calls Tryz.prog 180 #[fm 64 6, .int .u8 c.toNat] wx fun e w' => e = .returned (.bool false) ∧ Below wx.heap.size wx w') := fun wx => by
  have := fbegins_any 64 6 c wx (by decide)
  rwa [show decide (c.toNat / 2 ^ 6 = 64 / 2 ^ 6) = false from by simp; omega] at this
 have HF4 : Hid (∀ wx, Calls Tryz.prog 180 #[fm 0 4, .int .u8 c.toNat] wx fun e w' => e = .returned (.bool true) ∧ Below wx.heap.size wx w') := fun wx => by
  have := fbegins_any 0 4 c wx (by decide)
  rwa [show decide (c.toNat / 2 ^ 4 = 0 / 2 ^ 4) = true from by simp; omega] at this
 have hsq := rdCnt_len hcnt
 simp only [List.length_cons] at hl
 have hnN : n ≤ 8388608 ∨ True := Or.inr trivial
 have HCN : Hid (∀ rv' wx, SrS wx sb rv' r → Calls Tryz.prog 181 #[.pointer (some ⟨sb, 0, none⟩), .int .u8 c.toNat, fm 0 4] wx fun e w' => ∃ rv'', n ≤ 8388608 ∧ e = .returned (.int .i64 (n : Int)) ∧ SrTo wx w' sb rv' rv'' s) := fun rv' wx hh => by
  refine (takeCount_any sb rv' r c 0 4 wx hh (by decide) (by omega)).mono ?_
  rintro e w' (⟨N, r', rv'', e1, e0, e2, e3⟩ | ⟨e1, _⟩)
  ·rw [hcnt] at e1
   simp only [Option.some.injEq, Prod.mk.injEq] at e1
   rw [e1.1, e1.2]
   exact ⟨rv'', e0, e2, e3⟩
  ·rw [hcnt] at e1; cases e1
 have HTX : Hid (∀ rv' wx, Gl wx → TbSZ wx ub cs tP lim tv tab → SrS wx sb rv' s → n ≤ 8388608 → Calls Tryz.prog 184 #[.pointer (some ⟨ub, 35, none⟩), .pointer (some ⟨sb, 0, none⟩), .int .i64 n] wx fun e w' => ∃ rv'', e = .returned (.agg #[.string h.n, .string h.v]) ∧ SrTo wx w' sb rv' rv'' q) := fun rv' wx hg hh1 hh hn9 => by
  refine (takeTexts_anyZ ub cs tP lim tv tab sb rv' s n wx hg hh1 hh (by omega) hsb (by omega)).mono ?_
  rintro e w' (⟨h', r', rv'', e1, e2, e3⟩ | ⟨e1, _⟩)
  ·rw [hx] at e1
   simp only [Option.some.injEq, Prod.mk.injEq] at e1
   rw [e1.1, e1.2]
   exact ⟨rv'', e2, e3⟩
  ·rw [hx] at e1; cases e1
 have HTK := hide htk
 have HBA := hide hbA
 have HBX := hide hbox
 have HG := hide hgl
 have HT := hide ht
 have HA := hide ha
 have HRL := hide hrl
 have HTL := hide htl
 clear htk hbA hbox hgl ht hs ha hrl htl hx hcnt hnN
 generalize c.toNat = x at *
 go_enter Tryz.func160, Tryz.ntmps160
 go_wp2_with fail
 refine HTK.out.mono ?_
 rintro e w1 ⟨rv1, rfl, hs1⟩
 have hg1 := (HG.out.below HBA.out).sr hs1.chg hsb
 have hx1 : w1.heap[w.heap.size]? = some (.cells #[.string ⟨#[]⟩, .string ⟨#[]⟩] 130 (0, 0)) := by rw [hs1.chg.block _ (lt_of_block HBX.out) (by omega)]; exact HBX.out
 have hs1' : SrTo w w1 sb rv rv1 r := SrTo.before HBA.out hs1
 obtain ⟨g0, g1⟩ := hg1.num
 have HG1 := hide hg1
 have HX1 := hide hx1
 have HS1 := hide hs1'
 clear hs1 hs1' hg1 hx1
 go_wp2_with fail
 refine (HF7.out _).mono ?_
 rintro e w2 ⟨rfl, hb⟩
 have hg := HG1.out.below hb
 have hx : w2.heap[w.heap.size]? = some (.cells #[.string ⟨#[]⟩, .string ⟨#[]⟩] 130 (0, 0)) := by rw [hb.block _ (lt_of_block HX1.out)]; exact HX1.out
 have hs := HS1.out.below hb
 clear g0 g1
 obtain ⟨g0, g1⟩ := hg.add
 have HG2 := hide hg
 have HX2 := hide hx
 have HS2 := hide hs
 clear hb hg hx hs
 go_wp2_with fail
 refine (HF6.out _).mono ?_
 rintro e w3 ⟨rfl, hb⟩
 have hg := HG2.out.below hb
 have hx : w3.heap[w.heap.size]? = some (.cells #[.string ⟨#[]⟩, .string ⟨#[]⟩] 130 (0, 0)) := by rw [hb.block _ (lt_of_block HX2.out)]; exact HX2.out
 have hs := HS2.out.below hb
 clear g0 g1
 obtain ⟨g0, g1⟩ := hg.nta
 have HG3 := hide hg
 have HX3 := hide hx
 have HS3 := hide hs
 clear hb hg hx hs
 go_wp2_with fail
 refine (HF4.out _).mono ?_
 rintro e w4 ⟨rfl, hb⟩
 have hg := HG3.out.below hb
 have hx : w4.heap[w.heap.size]? = some (.cells #[.string ⟨#[]⟩, .string ⟨#[]⟩] 130 (0, 0)) := by rw [hb.block _ (lt_of_block HX3.out)]; exact HX3.out
 have hs := HS3.out.below hb
 clear g0 g1
 obtain ⟨g0, g1⟩ := hg.nta
 have HG4 := hide hg
 have HX4 := hide hx
 have HS4 := hide hs
 clear hb hg hx hs
 go_wp2_with fail
 refine (HCN.out rv1 _ HS4.out.st).mono ?_
 rintro e wa ⟨rva, hn9, rfl, hsa⟩
 obtain ⟨hga, hua, hxa⟩ := num_afterZ (w3 := wa) HG4.out HX4.out HS4.out ⟨hsa.st, hsa.chg.drop_drew, hsa.own⟩ hsb hsl HT.out HA.out
 have hta := HTX.out rva wa hga hua.st hua.sr hn9
 have HTT := hide hta
 have HUA := hide hua
 have HXA := hide hxa
 have HGA := hide hga
 clear hsa hga hua hxa hta g0 g1
 go_wp2_with fail
 refine HTT.out.mono ?_
 rintro e wb ⟨rvb, rfl, hsb9⟩
 obtain ⟨hxb, hub9⟩ := txs_afterZ HXA.out HUA.out hsb9 hsl HT.out HA.out
 obtain ⟨k0, k1, k2, k3⟩ := box_free hxb (Below.refl _ _)
 have HUB := hide hub9
 have HXB := hide hxb
 clear hsb9 hub9 hxb
 go_wp2
 refine bodyPost_ret (v := .agg #[.string h.n, .string h.v]) ?_ rfl ⟨rfl, cs, tv, rvb, ?_⟩
 ·simp [results, Tryz.results160, go_sem, k0, k1]
 ·exact (HUB.out.set (by omega) hub hsl HRL.out HTL.out _).set (by omega) hub hsl HRL.out HTL.out _
set_option maxRecDepth 100000 in
set_option maxHeartbeats 800000 in
theorem takePair_addZ (ub : Nat) (cs : Array Value) (tP : TypeId) (lim : Nat) (tv : Value) (tab : List HP) (sb : Nat) (rv : Value) (c : UInt8) (r : List UInt8) (n : Nat) (s : List UInt8) (h : HP) (q : List UInt8) (w : World) (hgl : Gl w) (ht : TbSZ w ub cs tP lim tv tab) (hs : SrS w sb rv (c :: r)) (ha : Apart ub sb tv rv) (hl : (c :: r).length ≤ 134217728) (hsb : 7 ≤ sb)
  (hc : 64 ≤ c.toNat) (hc2 : c.toNat < 128) (hcnt : rdCnt 6 c r = some (n, s)) (hx : rdTxs tab n s = some (h, q)) (hhn : h.n.size ≤ 268435456) (hhv : h.v.size ≤ 268435456) :
  Calls Tryz.prog 160 #[.pointer (some ⟨ub, 35, none⟩), .pointer (some ⟨sb, 0, none⟩)] w fun e w' => e = .returned (.agg #[.string h.n, .string h.v]) ∧ ∃ cs' tv' rv', UnToZ w w' ub cs cs' tP lim tv tv' (addT tab lim h) sb rv rv' q := by
 have hc8 : c.toNat ≤ 255 := Nat.le_of_lt_succ c.toNat_lt
 have hbA : Below w.heap.size w (w.alloc (.cells #[.string ⟨#[]⟩, .string ⟨#[]⟩] 130)) := (Below.refl _ _).alloc (Nat.le_refl _) _
 have hbox := heap_alloc_new w (.cells #[.string ⟨#[]⟩, .string ⟨#[]⟩] 130)
 have htk := stake_ok sb rv c r _ (hs.below hbA) (by omega)
 have hub := lt_of_block ht.tb.blk
 have hsl := lt_of_block hs.blk
 have hrl : ∀ j, rv.ownBlock = some j → j < w.heap.size := fun j hj => hs.bytes.lt hj
 have htl : tv.ownBlock ≠ some w.heap.size := fun e => by have := owns_lt ht.row e; omega
 have HF7 : Hid (∀ wx, Calls Tryz.prog 180 #[fm 128 7, .int .u8 c.toNat] wx fun e w' => e = .returned (.bool false) ∧ Below wx.heap.size wx w') := fun wx => by
  have := fbegins_any 128 7 c wx (by decide)
  rwa [show decide (c.toNat / 2 ^ 7 = 128 / 2 ^ 7) = false from by simp; omega] at this
 have HF6 : Hid (∀ wx, Calls Tryz.prog 180 #[fm 64 6, .int .u8 c.toNat] wx fun e w' => e = .returned (.bool true) ∧ Below wx.heap.size wx w') := fun wx => by
  have := fbegins_any 64 6 c wx (by decide)
  rwa [show decide (c.toNat / 2 ^ 6 = 64 / 2 ^ 6) = true from by simp; omega] at this
 have hsq := rdCnt_len hcnt
 simp only [List.length_cons] at hl
 have hnN : n ≤ 8388608 ∨ True := Or.inr trivial
 have HCN : Hid (∀ rv' wx, SrS wx sb rv' r → Calls Tryz.prog 181 #[.pointer (some ⟨sb, 0, none⟩), .int .u8 c.toNat, fm 64 6] wx fun e w' => ∃ rv'', n ≤ 8388608 ∧ e = .returned (.int .i64 (n : Int)) ∧ SrTo wx w' sb rv' rv'' s) := fun rv' wx hh => by
  refine (takeCount_any sb rv' r c 64 6 wx hh (by decide) (by omega)).mono ?_
  rintro e w' (⟨N, r', rv'', e1, e0, e2, e3⟩ | ⟨e1, _⟩)
  ·rw [hcnt] at e1
   simp only [Option.some.injEq, Prod.mk.injEq] at e1
   rw [e1.1, e1.2]
   exact ⟨rv'', e0, e2, e3⟩
  ·rw [hcnt] at e1; cases e1
 have HTX : Hid (∀ rv' wx, Gl wx → TbSZ wx ub cs tP lim tv tab → SrS wx sb rv' s → n ≤ 8388608 → Calls Tryz.prog 184 #[.pointer (some ⟨ub, 35, none⟩), .pointer (some ⟨sb, 0, none⟩), .int .i64 n] wx fun e w' => ∃ rv'', e = .returned (.agg #[.string h.n, .string h.v]) ∧ SrTo wx w' sb rv' rv'' q) := fun rv' wx hg hh1 hh hn9 => by
  refine (takeTexts_anyZ ub cs tP lim tv tab sb rv' s n wx hg hh1 hh (by omega) hsb (by omega)).mono ?_
  rintro e w' (⟨h', r', rv'', e1, e2, e3⟩ | ⟨e1, _⟩)
  ·rw [hx] at e1
   simp only [Option.some.injEq, Prod.mk.injEq] at e1
   rw [e1.1, e1.2]
   exact ⟨rv'', e2, e3⟩
  ·rw [hx] at e1; cases e1
 have HTK := hide htk
 have HBA := hide hbA
 have HBX := hide hbox
 have HG := hide hgl
 have HT := hide ht
 have HA := hide ha
 have HRL := hide hrl
 have HTL := hide htl
 have HAD := hide (fun wx hh => add_anyZ ub cs tP lim tv tab h wx hh hhn hhv)
 clear htk hbA hbox hgl ht hs ha hrl htl hx hcnt hnN
 generalize c.toNat = x at *
 go_enter Tryz.func160, Tryz.ntmps160
 go_wp2_with fail
 refine HTK.out.mono ?_
 rintro e w1 ⟨rv1, rfl, hs1⟩
 have hg1 := (HG.out.below HBA.out).sr hs1.chg hsb
 have hx1 : w1.heap[w.heap.size]? = some (.cells #[.string ⟨#[]⟩, .string ⟨#[]⟩] 130 (0, 0)) := by rw [hs1.chg.block _ (lt_of_block HBX.out) (by omega)]; exact HBX.out
 have hs1' : SrTo w w1 sb rv rv1 r := SrTo.before HBA.out hs1
 obtain ⟨g0, g1⟩ := hg1.num
 have HG1 := hide hg1
 have HX1 := hide hx1
 have HS1 := hide hs1'
 clear hs1 hs1' hg1 hx1
 go_wp2_with fail
 refine (HF7.out _).mono ?_
 rintro e w2 ⟨rfl, hb⟩
 have hg := HG1.out.below hb
 have hx : w2.heap[w.heap.size]? = some (.cells #[.string ⟨#[]⟩, .string ⟨#[]⟩] 130 (0, 0)) := by rw [hb.block _ (lt_of_block HX1.out)]; exact HX1.out
 have hs := HS1.out.below hb
 clear g0 g1
 obtain ⟨g0, g1⟩ := hg.add
 have HG2 := hide hg
 have HX2 := hide hx
 have HS2 := hide hs
 clear hb hg hx hs
 go_wp2_with fail
 refine (HF6.out _).mono ?_
 rintro e w3 ⟨rfl, hb⟩
 have hg := HG2.out.below hb
 have hx : w3.heap[w.heap.size]? = some (.cells #[.string ⟨#[]⟩, .string ⟨#[]⟩] 130 (0, 0)) := by rw [hb.block _ (lt_of_block HX2.out)]; exact HX2.out
 have hs := HS2.out.below hb
 clear g0 g1
 obtain ⟨g0, g1⟩ := hg.add
 have HG3 := hide hg
 have HX3 := hide hx
 have HS3 := hide hs
 clear hb hg hx hs
 go_wp2_with fail
 refine (HCN.out rv1 _ HS3.out.st).mono ?_
 rintro e wa ⟨rva, hn9, rfl, hsa⟩
 obtain ⟨hga, hua, hxa⟩ := num_afterZ (w3 := wa) HG3.out HX3.out HS3.out ⟨hsa.st, hsa.chg.drop_drew, hsa.own⟩ hsb hsl HT.out HA.out
 have hta := HTX.out rva wa hga hua.st hua.sr hn9
 have HTT := hide hta
 have HUA := hide hua
 have HXA := hide hxa
 have HGA := hide hga
 clear hsa hga hua hxa hta g0 g1
 go_wp2_with fail
 refine HTT.out.mono ?_
 rintro e wb ⟨rvb, rfl, hsb9⟩
 obtain ⟨hxb, hub9⟩ := txs_afterZ HXA.out HUA.out hsb9 hsl HT.out HA.out
 obtain ⟨k0, k1, k2, k3⟩ := box_free hxb (Below.refl _ _)
 have HUB := hide hub9
 have HXB := hide hxb
 clear hsb9 hub9 hxb
 have htd : TbSZ (wb.alloc (.cells #[.string h.n, .string h.v] 130)).drew ub cs tP lim tv tab := HUB.out.st.chg (((Chg.refl (fun _ => False) wb).alloc _).drew) id (fun _ _ => id)
 have had := HAD.out _ htd
 have HAA := hide had
 clear htd had
 go_wp2
 go_region_law (refine step_call rfl 185 Tryz.f185 Tryz.func185 (by kernel_rfl) rfl [.tmp 34, .tmp 35] #[90, 130] rfl [.pointer (some ⟨ub, 35, none⟩), .agg #[.string h.n, .string h.v]] (by simp [Act.eval, Act.put]) HAA.out ?_; rintro e w6 ⟨rfl, cs6, tv6, h6⟩; refine ⟨_, rfl, ?_⟩; obtain ⟨m1, m2, m3, m4⟩ := add_afterZ HXB.out HUB.out h6 hub HTL.out HT.out HA.out; obtain ⟨k0, k1, k2, k3⟩ := box_free m1 (Below.refl _ _); obtain ⟨j0, j1, j2, j3⟩ := box_free m2 (Below.refl _ _); have HM3 := hide m3; have HM4 := hide m4; clear h6 m1 m2 m3 m4)
 all_goals go_wp2
 all_goals refine bodyPost_ret (v := .agg #[.string h.n, .string h.v]) ?_ rfl ⟨rfl, cs6, tv6, rvb, ?_⟩
 all_goals first
  | (simp [results, Tryz.results160, go_sem, k0, k1]; done)
  | exact (HM3.out.set (by omega) hub hsl HRL.out HM4.out _).set (by omega) hub hsl HRL.out HM4.out _
theorem takePair_okZ (ub : Nat) (cs : Array Value) (tP : TypeId) (lim : Nat) (tv : Value) (tab : List HP) (sb : Nat) (rv : Value) (l : List UInt8) (h : HP) (tab' : List HP) (q : List UInt8) (w : World) (hgl : Gl w) (ht : TbSZ w ub cs tP lim tv tab) (hs : SrS w sb rv l) (ha : Apart ub sb tv rv) (hl : l.length ≤ 134217728) (hsb : 7 ≤ sb) (hq : rdPair tab lim l = some (h, tab', q)) :
  Calls Tryz.prog 160 #[.pointer (some ⟨ub, 35, none⟩), .pointer (some ⟨sb, 0, none⟩)] w fun e w' => e = .returned (.agg #[.string h.n, .string h.v]) ∧ ∃ cs' tv' rv', UnToZ w w' ub cs cs' tP lim tv tv' tab' sb rv rv' q := by
 obtain ⟨_, hhn, hhv⟩ := rdPair_len hq (numd_small (Nat.le_trans ht.fit ht.small)) hl
 cases l with
 | nil => simp [rdPair] at hq
 | cons c r =>
  simp only [rdPair] at hq
  split at hq
  ·rename_i h1
   cases hc : rdCnt 7 c r with
   | none => rw [hc] at hq; cases hq
   | some nq =>
    obtain ⟨n, s⟩ := nq
    rw [hc] at hq
    simp only at hq
    split at hq
    ·cases hq
    ·rename_i hn
     cases hx : (numd tab)[n - 1]? with
     | none => rw [hx] at hq; cases hq
     | some x =>
      rw [hx] at hq
      simp only [Option.some.injEq, Prod.mk.injEq] at hq
      obtain ⟨rfl, rfl, rfl⟩ := hq
      exact takePair_numZ ub cs tP lim tv tab sb rv c r n x s w hgl ht hs ha hl hsb h1 hc hn hx
  ·rename_i h1
   split at hq
   ·rename_i h2
    cases hc : rdCnt 6 c r with
    | none => rw [hc] at hq; cases hq
    | some nq =>
     obtain ⟨n, s⟩ := nq
     rw [hc] at hq
     simp only at hq
     cases hx : rdTxs tab n s with
     | none => rw [hx] at hq; cases hq
     | some x =>
      obtain ⟨x, z⟩ := x
      rw [hx] at hq
      simp only [Option.some.injEq, Prod.mk.injEq] at hq
      obtain ⟨rfl, rfl, rfl⟩ := hq
      exact takePair_addZ ub cs tP lim tv tab sb rv c r n s x z w hgl ht hs ha hl hsb h2 (by omega) hc hx hhn hhv
   ·split at hq
    ·rename_i h3
     cases hc : rdCnt 4 c r with
     | none => rw [hc] at hq; cases hq
     | some nq =>
      obtain ⟨n, s⟩ := nq
      rw [hc] at hq
      simp only at hq
      cases hx : rdTxs tab n s with
      | none => rw [hx] at hq; cases hq
      | some x =>
       obtain ⟨x, z⟩ := x
       rw [hx] at hq
       simp only [Option.some.injEq, Prod.mk.injEq] at hq
       obtain ⟨rfl, rfl, rfl⟩ := hq
       exact takePair_notZ ub cs tP lim tv tab sb rv c r n s x z w hgl ht hs ha hl hsb h3 hc hx hhn hhv
    ·cases hq
end
end Go.Proofs.YtdccldbefdfppaaGreatDoor
