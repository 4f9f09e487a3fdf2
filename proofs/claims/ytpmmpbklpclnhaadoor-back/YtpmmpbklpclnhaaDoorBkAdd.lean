import Derived.Test.YtpmmpbklpclnhaaDoorBkShrink
set_option linter.unusedVariables false
set_option linter.unusedSimpArgs false
/-
  Package blocks: resize, add.
-/
namespace Go.Proofs.YtpmmpbklpclnhaaDoor
set_option linter.unusedVariables false
set_option linter.unusedSimpArgs false
open Go.RowKit

/-- A table behind a call on it. -/
structure TbTo (w w' : World) (b : Nat) (cs cs' : Array Value) (tP : TypeId) (lim : Nat) (tv tv' : Value) (tab' : List HP) : Prop where
  st : TbS w' b cs' tP lim tv' tab'
  cs3 : ∀ i, 3 ≤ i → cs'[i]? = cs[i]?
  chg : Chg (TouchT b tv) w w'
  own : ∀ j, tv'.ownBlock = some j → tv.ownBlock = some j ∨ w.heap.size ≤ j

set_option maxRecDepth 100000 in
set_option maxHeartbeats 1600000 in
theorem tresize_any (b : Nat) (cs : Array Value) (tP : TypeId) (lim : Nat) (tv : Value) (tab : List HP) (n : Nat) (w : World) (ht : TbS w b cs tP lim tv tab) (hn : n ≤ 256) :
    Calls Tryd.prog 30 #[.pointer (some ⟨b, 0, none⟩), .int .i64 n] w fun e w' => e = .returned (.tuple #[]) ∧ ∃ cs' tv', TbTo w w' b cs cs' tP n tv tv' (shr tab n) := by
  have hsz : szT tab ≤ 256 := Nat.le_trans ht.fit ht.small
  have hc1 : Chg (fun j => j = b) w (w.setCell ⟨b, 0, none⟩ (.int .i64 (n : Int))) := (Chg.refl (fun j => j = b) w).setCell (p := ⟨b, 0, none⟩) (Or.inr rfl) _
  have hro := owns_chg ht.row hc1 (fun j hj e => by subst e; exact owns_ne ht.row ht.tb.blk (fun e => ht.tb.ne e.symm) hj)
  have hsh := shrink_any b (cs.setIfInBounds 0 (.int .i64 (n : Int))) tP n tv tab (n : Int) _ (ht.tb.set0 n) hro hsz (by omega) (by omega)
  obtain ⟨z0, z1, z2⟩ := ht.tb.cells
  have y0 := ht.tb.free 0
  have HSH := hide hsh
  have HC1 := hide hc1
  clear hsh hc1 hro z1 z2
  go_enter Tryd.func30, Tryd.ntmps30
  go_wp2_with fail
  refine HSH.out.mono ?_
  rintro e w1 ⟨rfl, cs', tv', h1⟩
  have H1 := hide h1
  clear h1
  go_wp2
  refine bodyPost_end (results_none rfl _ _ _) rfl ⟨rfl, cs', tv', ⟨H1.out.tb, H1.out.row, ?_, hn⟩, fun i hi => ?_, (HC1.out.mono fun j _ e => Or.inl e).trans (H1.out.chg.mono fun j _ e => Or.inr e), fun j hj => ?_⟩
  · have := shr_size tab (n : Int) (by omega)
    omega
  · rw [H1.out.cs3 i hi, set_ne (by omega)]
  · rcases H1.out.own j hj with e | e
    · exact Or.inl e
    · exact Or.inr (Nat.le_trans HC1.out.size e)

theorem hp_one (h : HP) : ∀ u ∈ hpCells [h], u.oneCell' = true := by
  intro u hu
  simp [hpCells] at hu
  rcases hu with rfl | rfl <;> rfl
theorem lies_pair (w : World) (h : HP) : Lies (w.alloc (.cells #[.string h.n, .string h.v] 33)) (.slice (some ⟨w.heap.size, 0, none⟩) 1 1) 1 (hpCells [h]) := by
  refine Or.inr ⟨_, _, rfl, fun j u hu => ?_⟩
  have hh := heap_alloc_new w (.cells #[.string h.n, .string h.v] 33)
  have e : (⟨w.heap.size, 0, none⟩ : Addr).add j = ⟨w.heap.size, j, none⟩ := by unfold Addr.add; split <;> simp_all
  rw [e, cell_of_row _ _ _ _ _ _ hh, ← hu]
  simp [hpCells]
/-- A pair is laid behind the others. -/
theorem add_end {w wa w1 w2 : World} {b : Nat} {cs cs1 : Array Value} {tP : TypeId} {lim : Nat} {tv tv1 tv2 : Value} {tab : List HP} {h : HP} {o : Obj} (hb : Below w.heap.size w wa) (h1 : Shr wa w1 b cs cs1 tP lim tv tv1 tab) (hf : szT tab + tk h ≤ lim) (hl : lim ≤ 256)
    (hown : w2.ownsRow 0 33 2 tv2 (tab.length + 1) (hpCells tab ++ hpCells [h])) (hg : (w1.alloc o).drew.grownBy w2 tv1.ownBlock) (hfr : tv2.ownBlock = tv1.ownBlock ∨ tv2.ownBlock = some (w1.heap.size + 1)) :
    TbB w2 b cs1 tP lim (szT tab) tv1 ∧ TbTo w ((w2.setCell ⟨b, 2, none⟩ tv2).setCell ⟨b, 1, none⟩ (.int .i64 (szT (tab ++ [h]) : Int))) b cs ((cs1.setIfInBounds 2 tv2).setIfInBounds 1 (.int .i64 (szT (tab ++ [h]) : Int))) tP lim tv tv2 (tab ++ [h]) := by
  have hne : tv1.ownBlock ≠ some b := owns_ne h1.row h1.tb.blk (fun e => h1.tb.ne e.symm)
  have hc : Chg (fun j => tv1.ownBlock = some j) w1 w2 := (((Chg.refl _ _).alloc o).drew).trans (Chg.of_grown hg (fun j hj => Or.inr hj))
  have hb2 := h1.tb.chg hc hne
  have hne2 : tv2.ownBlock ≠ some b := owns_ne hown hb2.blk (fun e => hb2.ne e.symm)
  have hc2 : Chg (fun j => j = b) w2 ((w2.setCell ⟨b, 2, none⟩ tv2).setCell ⟨b, 1, none⟩ (.int .i64 (szT (tab ++ [h]) : Int))) := ((Chg.refl (fun j => j = b) w2).setCell (p := ⟨b, 2, none⟩) (Or.inr rfl) _).setCell (p := ⟨b, 1, none⟩) (Or.inr rfl) _
  have hsz : szT (tab ++ [h]) = szT tab + tk h := by rw [szT_append, szT_cons]; simp [szT]
  have hs1 := h1.chg.size
  have hs0 := hb.size
  refine ⟨hb2, ⟨⟨(hb2.set2 tv2).set1 _, ?_, by omega, hl⟩, fun i hi => ?_, ?_, fun j hj => ?_⟩⟩
  · rw [List.length_append, hpCells_append]
    exact owns_chg hown hc2 (fun j hj e => by subst e; exact hne2 hj)
  · rw [set_ne (by omega), set_ne (by omega)]
    exact h1.cs3 i hi
  · refine (((Chg.of_below hb).trans (h1.chg.mono fun j _ e => Or.inr e)).trans (hc.mono fun j _ e => ?_)).trans (hc2.mono fun j _ e => Or.inr (Or.inl e))
    rcases h1.own j e with a | a
    · exact Or.inr (Or.inr a)
    · exact Or.inl (Nat.le_trans hs0 a)
  · have : tv1.ownBlock = some j ∨ w1.heap.size ≤ j := by
      rcases hfr with e | e
      · rw [e] at hj; exact Or.inl hj
      · rw [e] at hj; simp at hj; exact Or.inr (by omega)
    rcases this with e | e
    · rcases h1.own j e with a | a
      · exact Or.inl a
      · exact Or.inr (Nat.le_trans hs0 a)
    · exact Or.inr (by omega)

set_option maxRecDepth 100000 in
set_option maxHeartbeats 800000 in
theorem add_any (b : Nat) (cs : Array Value) (tP : TypeId) (lim : Nat) (tv : Value) (tab : List HP) (h : HP) (w : World) (ht : TbS w b cs tP lim tv tab) (hn : h.n.size ≤ 268435456) (hv : h.v.size ≤ 268435456) :
    Calls Tryd.prog 42 #[.pointer (some ⟨b, 0, none⟩), .agg #[.string h.n, .string h.v]] w fun e w' => e = .returned (.tuple #[]) ∧ ∃ cs' tv', TbTo w w' b cs cs' tP lim tv tv' (addT tab lim h) := by
  obtain ⟨i0, hi, hz0, hz1, hz2⟩ := info_parts Tryd.info33
  have hsz : szT tab ≤ 256 := Nat.le_trans ht.fit ht.small
  have hlim := ht.small
  have hfit := ht.fit
  have htk : tk h = h.n.size + h.v.size + 8 := rfl
  have hbx := (Below.refl w.heap.size w).alloc (Nat.le_refl _) (.cells #[.string h.n, .string h.v] 33)
  have hh := heap_alloc_new w (.cells #[.string h.n, .string h.v] 33)
  have HRM := hide (fun wx => room_any h wx (by omega) (by omega))
  have hlp := fun wx => lies_pair wx h
  have hon := hp_one h
  have hadd : addT tab lim h = if tk h ≤ lim then shr tab ((lim : Int) - tk h) ++ [h] else shr tab ((lim : Int) - tk h) := rfl
  have hall : lim < tk h → shr tab ((lim : Int) - tk h) = [] := fun e => by unfold shr; rw [goneN_all _ _ (by omega)]; simp
  have hszs : tk h ≤ lim → szT (shr tab ((lim : Int) - tk h)) + tk h ≤ lim := fun e => by have := shr_size tab ((lim : Int) - tk h) (by omega); omega
  have HADD := hide hadd
  have HALL := hide hall
  have HSZS := hide hszs
  have HT := hide ht
  have HBX := hide hbx
  have HHB := hide hh
  have HLP := hide hlp
  have HON := hide hon
  have htb : tk h ≤ 536870920 := by omega
  clear htk
  generalize hte : tk h = t at HRM htb HADD HALL HSZS
  have HTE := hide hte
  clear hte
  clear ht hbx hh hadd hall hszs hlp hon
  go_enter Tryd.func42, Tryd.ntmps42
  go_wp2_with fail
  refine (HRM.out _).mono ?_
  rintro e w1 ⟨rfl, hb1⟩
  have hbel : Below w.heap.size w w1 := HBX.out.trans (hb1.mono HBX.out.size)
  have hbox : w1.heap[w.heap.size]? = some (.cells #[.string h.n, .string h.v] 33 (0, 0)) := by rw [hb1.block _ (lt_of_block HHB.out)]; exact HHB.out
  have ht1 := HT.out.below hbel
  obtain ⟨z0, z1, z2⟩ := ht1.tb.cells
  have hbl : b ≠ w.heap.size := by have := HT.out.tb.lt; omega
  have hsh := shrink_any b cs tP lim tv tab ((lim : Int) - (t : Int)) w1 ht1.tb ht1.row hsz (by omega) (by omega)
  have hvb : tv.ownBlock ≠ some w.heap.size := fun e => by have := owns_lt HT.out.row e; omega
  have HSH := hide hsh
  have HB1 := hide hbel
  have HBOX := hide hbox
  have HVB := hide hvb
  clear hsh hbel hbox hb1 ht1 hvb z1 z2
  go_wp2_with fail
  refine HSH.out.mono ?_
  rintro e w2 ⟨rfl, cs1, tv1, h2⟩
  have hbox2 : w2.heap[w.heap.size]? = some (.cells #[.string h.n, .string h.v] 33 (0, 0)) := by
    rw [h2.chg.block _ (lt_of_block HBOX.out) (by rintro (e | e); exact hbl e.symm; exact HVB.out e)]; exact HBOX.out
  obtain ⟨z0, z1, z2⟩ := h2.tb.cells
  have y1 := h2.tb.free 1
  have y2 := h2.tb.free 2
  have q0 : w2.cell? ⟨w.heap.size, 0, none⟩ = some (.string h.n) := by rw [cell_of_row _ _ _ _ _ _ hbox2]; rfl
  have q1 : w2.cell? ⟨w.heap.size, 1, none⟩ = some (.string h.v) := by rw [cell_of_row _ _ _ _ _ _ hbox2]; rfl
  have H2 := hide h2
  clear h2 hbox2
  by_cases hle : t ≤ lim
  · have hsum := HSZS.out hle
    obtain ⟨tab1, htab1⟩ : ∃ tab1, tab1 = shr tab ((lim : Int) - (t : Int)) := ⟨_, rfl⟩
    rw [← htab1] at hsum H2 z1
    have HTAB := hide htab1
    clear htab1
    have hlen1 : tab1.length ≤ 32 := by have := szT_len tab1; omega
    obtain ⟨s1, c1, hs1⟩ := slice_len H2.out.row
    subst hs1
    have HOWN : Hid ((w2.alloc (.cells #[.string h.n, .string h.v] 33)).drew.ownsRow 0 33 2 (.slice s1 tab1.length c1) tab1.length (hpCells tab1)) := H2.out.row.alloc _
    have HLI : Hid (Lies (w2.alloc (.cells #[.string h.n, .string h.v] 33)).drew (.slice (some ⟨w2.heap.size, 0, none⟩) 1 1) 1 (hpCells [h])) := HLP.out w2
    have z2a : (w2.alloc (.cells #[.string h.n, .string h.v] 33)).cell? ⟨b, 2, none⟩ = some (.slice s1 tab1.length c1) := (H2.out.tb.chg ((Chg.refl (fun _ => False) w2).alloc _) id).cells.2.2
    have HN1 : Hid (tab1.length + 1 ≤ maxLen) := by show _ ≤ _; unfold maxLen; omega
    have HN2 : Hid ((tab1.length + 1) * 32 ≤ 140737488355328) := by show _ ≤ _; omega
    have HSS : Hid (szT (tab1 ++ [h]) = szT tab1 + t) := by show _ = _; rw [szT_append, szT_cons, HTE.out]; simp [szT]
    have HSF : Hid (szT tab1 + tk h ≤ lim) := by show _ ≤ _; rw [HTE.out]; exact hsum
    go_wp2
    go_region_law (refine step_app rfl (.tmp 25) (.tmp 27) 34 rfl 33 i0 (.agg #[.string ⟨#[]⟩, .string ⟨#[]⟩]) 2 32 Tryd.underlying34 hi hz0 hz1 hz2 rfl (by decide) (.slice s1 tab1.length c1) tab1.length (hpCells tab1) (by simp [Act.eval]) HOWN.out (.slice (some ⟨w2.heap.size, 0, none⟩) 1 1) 1 (hpCells [h]) (by simp [Act.eval]) rfl HLI.out HON.out HN1.out HN2.out ?_; intro tv2 w3 hown3 hg3 hf3; obtain ⟨s3, c3, hs3⟩ := slice_len hown3; subst hs3; obtain ⟨p1, p2⟩ := add_end HB1.out H2.out HSF.out hlim hown3 hg3 (by simpa using hf3); obtain ⟨x0, x1, x2⟩ := p1.cells; have u1 := p1.free 1; have u2 := p1.free 2; have HP2 := hide p2; clear hown3 hg3 hf3 p1 p2)
    all_goals go_wp2
    all_goals refine bodyPost_end (results_none rfl _ _ _) rfl ⟨rfl, (cs1.setIfInBounds 2 (.slice s3 (tab1.length + 1) c3)).setIfInBounds 1 (.int .i64 (szT (tab1 ++ [h]) : Int)), .slice s3 (tab1.length + 1) c3, ?_⟩
    all_goals have ha := HADD.out
    all_goals rw [if_pos hle, ← HTAB.out] at ha
    all_goals rw [ha]
    all_goals have h9 := HP2.out
    all_goals rw [HSS.out] at h9 ⊢
    all_goals exact h9
  · have hd : decide ((t : Int) ≤ (lim : Int)) = false := by simp; omega
    go_wp2
    refine bodyPost_end (results_none rfl _ _ _) rfl ⟨rfl, cs1, tv1, ?_⟩
    have ha := HADD.out
    rw [if_neg hle] at ha
    rw [ha]
    have hal := HALL.out (by omega)
    have h3 := H2.out
    refine ⟨⟨h3.tb, h3.row, ?_, hlim⟩, h3.cs3, (Chg.of_below HB1.out).trans (h3.chg.mono fun j _ e => Or.inr e), fun j hj => ?_⟩
    · rw [hal]; exact Nat.zero_le _
    · rcases h3.own j hj with e | e
      · exact Or.inl e
      · exact Or.inr (Nat.le_trans HB1.out.size e)
end Go.Proofs.YtpmmpbklpclnhaaDoor
