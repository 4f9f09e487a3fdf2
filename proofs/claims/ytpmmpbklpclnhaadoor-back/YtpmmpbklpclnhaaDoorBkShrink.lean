import Derived.Test.YtpmmpbklpclnhaaDoorBkDel
set_option linter.unusedVariables false
set_option linter.unusedSimpArgs false
/-
  Package blocks: shrink, resize, add.
-/
namespace Go.Proofs.YtpmmpbklpclnhaaDoor
set_option linter.unusedVariables false
set_option linter.unusedSimpArgs false
open Go.RowKit

theorem set_same {cs : Array Value} {i : Nat} {x : Value} (h : cs[i]? = some x) : cs.setIfInBounds i x = cs := by
  obtain ⟨hi, hx⟩ := Array.getElem?_eq_some_iff.1 h
  apply Array.ext
  · simp
  · intro j h1 h2
    rw [Array.getElem_setIfInBounds]
    split
    · next e => subst e; exact hx.symm
    · rfl
theorem set_get {cs : Array Value} {i : Nat} {x y : Value} (h : cs[i]? = some x) : (cs.setIfInBounds i y)[i]? = some y := by
  have := (Array.getElem?_eq_some_iff.1 h).1
  simp [this]
theorem set_ne {cs : Array Value} {i j : Nat} {y : Value} (h : i ≠ j) : (cs.setIfInBounds i y)[j]? = cs[j]? := by simp [Array.getElem?_setIfInBounds, h]

theorem set_set {cs : Array Value} {i : Nat} {x y : Value} : (cs.setIfInBounds i x).setIfInBounds i y = cs.setIfInBounds i y := by
  apply Array.ext
  · simp
  · intro j h1 h2
    simp [Array.getElem_setIfInBounds]
theorem TbB.set0 {w : World} {b : Nat} {cs : Array Value} {tP : TypeId} {lim sz : Nat} {tv : Value} (h : TbB w b cs tP lim sz tv) (x : Nat) : TbB (w.setCell ⟨b, 0, none⟩ (.int .i64 (x : Int))) b (cs.setIfInBounds 0 (.int .i64 (x : Int))) tP x sz tv :=
  ⟨block_setCell h.blk, set_get h.c0, by rw [set_ne (by decide)]; exact h.c1, by rw [set_ne (by decide)]; exact h.c2, h.ne⟩
theorem TbB.set1 {w : World} {b : Nat} {cs : Array Value} {tP : TypeId} {lim sz : Nat} {tv : Value} (h : TbB w b cs tP lim sz tv) (x : Nat) : TbB (w.setCell ⟨b, 1, none⟩ (.int .i64 (x : Int))) b (cs.setIfInBounds 1 (.int .i64 (x : Int))) tP lim x tv :=
  ⟨block_setCell h.blk, by rw [set_ne (by decide)]; exact h.c0, set_get h.c1, by rw [set_ne (by decide)]; exact h.c2, h.ne⟩
theorem TbB.set2 {w : World} {b : Nat} {cs : Array Value} {tP : TypeId} {lim sz : Nat} {tv : Value} (h : TbB w b cs tP lim sz tv) (x : Value) : TbB (w.setCell ⟨b, 2, none⟩ x) b (cs.setIfInBounds 2 x) tP lim sz x :=
  ⟨block_setCell h.blk, by rw [set_ne (by decide)]; exact h.c0, by rw [set_ne (by decide)]; exact h.c1, set_get h.c2, h.ne⟩

theorem goneN_next {l : List HP} {k : Nat} {most : Int} (h : k < l.length) (hm : most < (szT (l.drop k) : Int)) : goneN (l.drop k) most = goneN (l.drop (k + 1)) most + 1 := by
  rw [List.drop_eq_getElem_cons h] at hm ⊢
  simp only [goneN]
  rw [if_pos hm]
theorem goneN_stop {l : List HP} {most : Int} (hm : (szT l : Int) ≤ most ∨ l = []) : goneN l most = 0 := by
  rcases hm with h | h
  · exact goneN_fits h
  · rw [h]; rfl
theorem szT_drop {l : List HP} {k : Nat} (h : k < l.length) : szT (l.drop k) = tk l[k] + szT (l.drop (k + 1)) := by rw [List.drop_eq_getElem_cons h, szT_cons]

/-- What a call on a table may change. -/
def TouchT (b : Nat) (tv : Value) (j : Nat) : Prop := j = b ∨ tv.ownBlock = some j

set_option maxRecDepth 100000 in
set_option maxHeartbeats 1600000 in
theorem delete_none (s : Option Addr) (n cap : Nat) (w : World) (hn : n ≤ cap) (hcm : cap ≤ 9223372036854775807) :
    Calls Tryd.prog 49 #[.slice s n cap, .int .i64 0, .int .i64 0] w fun e w' => e = .returned (.slice s n cap) ∧ w' = w := by
  go_enter Tryd.func49, Tryd.ntmps49
  go_wp2
  go_ret
  exact ⟨rfl, rfl⟩

/-- The end of shrink. -/
structure Shr (w w' : World) (b : Nat) (cs cs' : Array Value) (tP : TypeId) (lim : Nat) (tv tv' : Value) (tab' : List HP) : Prop where
  tb : TbB w' b cs' tP lim (szT tab') tv'
  row : w'.ownsRow 0 33 2 tv' tab'.length (hpCells tab')
  cs3 : ∀ i, 3 ≤ i → cs'[i]? = cs[i]?
  chg : Chg (TouchT b tv) w w'
  own : ∀ j, tv'.ownBlock = some j → tv.ownBlock = some j ∨ w.heap.size ≤ j

set_option maxRecDepth 100000 in
set_option maxHeartbeats 3200000 in
theorem shrink_any (b : Nat) (cs : Array Value) (tP : TypeId) (lim : Nat) (tv : Value) (tab : List HP) (most : Int) (w : World) (ht : TbB w b cs tP lim (szT tab) tv) (hrow : w.ownsRow 0 33 2 tv tab.length (hpCells tab)) (hsz : szT tab ≤ 256) (hm0 : -1099511627776 ≤ most) (hm1 : most ≤ 1099511627776) :
    Calls Tryd.prog 38 #[.pointer (some ⟨b, 0, none⟩), .int .i64 most] w fun e w' => e = .returned (.tuple #[]) ∧ ∃ cs' tv', Shr w w' b cs cs' tP lim tv tv' (shr tab most) := by
  have hfew : tab.length ≤ 32 := by have := szT_len tab; omega
  obtain ⟨sv, cv, hsv⟩ := slice_len hrow
  subst hsv
  have hcv : tab.length ≤ cv ∧ cv ≤ maxLen := by
    rcases hrow.2 with ⟨h1, h2⟩ | ⟨g, cap, cur, h1, _, _, h2, h3, _⟩
    · simp only [Value.slice.injEq] at h1
      exact ⟨by omega, by rw [h1.2.2]; exact Nat.zero_le _⟩
    · simp only [Value.slice.injEq] at h1
      obtain ⟨_, _, rfl⟩ := h1
      exact ⟨h2, h3⟩
  have hT0 : TbB w b (cs.setIfInBounds 1 (.int .i64 (szT (tab.drop 0) : Int))) tP lim (szT (tab.drop 0)) (.slice sv tab.length cv) := by
    rw [List.drop_zero, set_same ht.c1]; exact ht
  have HT0 := hide hT0
  have HR := hide hrow
  have HT := hide ht
  have hblt := ht.lt
  clear ht hrow hT0
  go_enter Tryd.func38, Tryd.ntmps38
  go_wp2
  go_loopw [4] (fun i wr => ∃ k : Nat, i = .int .i64 (k : Int) ∧ k ≤ tab.length ∧ TbB wr b (cs.setIfInBounds 1 (.int .i64 (szT (tab.drop k) : Int))) tP lim (szT (tab.drop k)) (.slice sv tab.length cv) ∧ Chg (fun j => j = b) w wr ∧ goneN tab most = k + goneN (tab.drop k) most) (fun i _ => tab.length - (intOf i).toNat)
  case atStart => exact ⟨0, rfl, Nat.zero_le _, HT0.out, Chg.refl _ _, by simp⟩
  case round =>
    obtain ⟨k, rfl, hk, htb, hch, hgn⟩ := hrel
    obtain ⟨z0, z1, z2⟩ := htb.cells
    have y1 := htb.free 1
    have y2 := htb.free 2
    have hszk : szT (tab.drop k) ≤ 256 := by
      have h2 := congrArg szT (List.take_append_drop k tab)
      rw [szT_append] at h2
      omega
    by_cases hgo : most < (szT (tab.drop k) : Int) ∧ k < tab.length
    · obtain ⟨hgo1, hgo2⟩ := hgo
      have hnx := goneN_next hgo2 hgo1
      have hsd := szT_drop hgo2
      have hrw := owns_chg HR.out hch (fun j hj e => by subst e; exact owns_ne HR.out HT.out.blk (fun e => HT.out.ne e.symm) hj)
      obtain ⟨g, hg, hcl⟩ := slice_some hrw (by omega)
      subst hg
      obtain ⟨e0, e1⟩ := hpCells_get hgo2
      have d0 : wr.cell? ⟨g, k * 2, none⟩ = some (.string tab[k].n) := by rw [hrw.cellAt _ (by have := hpCells_length tab; omega)]; exact e0
      have d1 : wr.cell? ⟨g, k * 2 + 1, none⟩ = some (.string tab[k].v) := by rw [hrw.cellAt _ (by have := hpCells_length tab; omega)]; exact e1
      have hglt : g < wr.heap.size := owns_lt hrw rfl
      have hxs : tk tab[k] ≤ 256 := by omega
      generalize tab[k] = x at d0 d1 hsd hxs
      obtain ⟨n, v⟩ := x
      simp only at d0 d1
      have htk : tk ⟨n, v⟩ = n.size + v.size + 8 := rfl
      have HRM := hide (fun wx => room_any ⟨n, v⟩ wx (show n.size ≤ _ by omega) (show v.size ≤ _ by omega))
      generalize tk ⟨n, v⟩ = t at HRM hsd hxs htk
      simp only at HRM
      have HTB := hide htb
      have HCH := hide hch
      have HGN : Hid (goneN tab most = k + 1 + goneN (tab.drop (k + 1)) most) := by show _ = _; rw [hgn, hnx]; omega
      obtain ⟨S1, hS1⟩ : ∃ S1, S1 = szT (tab.drop (k + 1)) := ⟨_, rfl⟩
      rw [← hS1] at hsd
      have HS1 := hide hS1
      clear hS1
      generalize szT (tab.drop k) = S0 at hsd hgo1 hszk z1 HTB ⊢
      have hwr : IntKind.i64.wrap ((S0 : Int) - (t : Int)) = (S1 : Int) := by
        have e : (S0 : Int) - (t : Int) = (S1 : Int) := by omega
        rw [e]
        exact wrap_nat S1 (by omega)
      have HSD := hide hsd
      clear htb hch hgn hnx e0 e1 hrw hsd htk
      go_wp2
      go_region_law (refine step_call rfl 40 Tryd.f40 Tryd.func40 (by kernel_rfl) rfl [.tmp 30] #[33] rfl [.agg #[.string n, .string v]] (by simp [Act.eval, Act.put]) (HRM.out wr.drew) ?_; rintro e w1 ⟨rfl, hb1⟩; refine ⟨_, rfl, ?_⟩; have htb1 : TbB w1 b (cs.setIfInBounds 1 (.int .i64 (S0 : Int))) tP lim S0 (.slice (some ⟨g, 0, none⟩) tab.length cv) := (HTB.out.chg (w' := wr.drew) ((Chg.refl (fun _ => False) wr).drew) id).chg (Chg.of_below (S := fun _ => False) hb1) id; obtain ⟨p0, p1, p2⟩ := htb1.cells; have f1 := htb1.free 1; have HTB1 := hide htb1; have HB1 : Hid (Chg (fun j => j = b) w w1) := HCH.out.drew.then_below hb1; clear htb1 hb1)
      all_goals go_wp2
      all_goals refine ⟨⟨k + 1, by go_num, by omega, ?_, HB1.out.setCell (p := ⟨b, 1, none⟩) (Or.inr rfl) _, HGN.out⟩, by simp [intOf]; omega⟩
      all_goals (have h9 := HTB1.out.set1 S1; rw [set_set, HS1.out] at h9; rw [HS1.out]; exact h9)
    · have hk0 : shr tab most = tab.drop k := by
        have hz : goneN (tab.drop k) most = 0 := by
          apply goneN_stop
          by_cases h1 : most < (szT (tab.drop k) : Int)
          · right
            exact List.drop_of_length_le (by omega)
          · left; omega
        unfold shr
        rw [hgn, hz]
        rfl
      have hrw := owns_chg HR.out hch (fun j hj e => by subst e; exact owns_ne HR.out HT.out.blk (fun e => HT.out.ne e.symm) hj)
      have HTB := hide htb
      have HCH := hide hch
      have HRW := hide hrw
      have HK0 := hide hk0
      have HCV := hide hcv
      have HCS : Hid (∀ (y : Value) i, 3 ≤ i → ((cs.setIfInBounds 1 (.int .i64 (szT (tab.drop k) : Int))).setIfInBounds 2 y)[i]? = cs[i]?) := by
        intro y i hi
        rw [set_ne (by omega), set_ne (by omega)]
      clear htb hch hrw hk0 hgn hcv
      rcases Nat.eq_zero_or_pos k with hkz | hkp
      · subst hkz
        have HDN := hide (fun wx => delete_none sv tab.length cv wx HCV.out.1 (by have := HCV.out.2; unfold maxLen at this; omega))
        by_cases h1 : most < (szT (tab.drop 0) : Int)
        all_goals go_wp2_with fail
        all_goals refine (HDN.out _).mono ?_
        all_goals rintro e w1 ⟨rfl, hw1⟩
        all_goals rw [hw1]
        all_goals clear hw1 w1
        all_goals go_wp2
        all_goals refine bodyPost_end (results_none rfl _ _ _) rfl ⟨rfl, (cs.setIfInBounds 1 (.int .i64 (szT (tab.drop 0) : Int))).setIfInBounds 2 (.slice sv tab.length cv), .slice sv tab.length cv, ?_⟩
        all_goals rw [HK0.out]
        all_goals refine ⟨HTB.out.set2 _, ?_, HCS.out _, (HCH.out.mono fun j _ e => Or.inl e).setCell (p := ⟨b, 2, none⟩) (Or.inr (Or.inl rfl)) _, fun j hj => Or.inl hj⟩
        all_goals rw [List.drop_zero]
        all_goals exact owns_chg HRW.out ((Chg.refl (fun j => j = b) wr).setCell (p := ⟨b, 2, none⟩) (Or.inr rfl) _) (fun j hj e => by subst e; exact owns_ne HRW.out HTB.out.blk (fun e => HTB.out.ne e.symm) hj)
      · rcases HRW.out.2 with ⟨h0, h0'⟩ | ⟨g, cap, cur, h0, _, hg, hnc, hcm, hcs, htk⟩
        · omega
        · simp only [Value.slice.injEq] at h0
          obtain ⟨hsv, _, hcap⟩ := h0
          subst hsv hcap
          have HDA := hide (delete_any g tab.length cv k cur tab wr hg hcs hnc (by have := HCV.out.2; unfold maxLen at this; exact this) hkp hk rfl htk)
          have hgb : g ≠ b := by
            rintro rfl
            exact owns_ne HRW.out HTB.out.blk (fun e => HTB.out.ne e.symm) rfl
          have HGB := hide hgb
          have HCM := hide hcm
          clear hg hcs htk hgb hnc hcm
          by_cases h1 : most < (szT (tab.drop k) : Int)
          all_goals go_wp2_with fail
          all_goals refine HDA.out.mono ?_
          all_goals rintro e w1 ⟨cur', rfl, hg1, hs1, ht1, hc1⟩
          all_goals have htb1 := HTB.out.chg hc1 (fun e => HGB.out e.symm)
          all_goals obtain ⟨-, -, p2⟩ := htb1.cells
          all_goals have f2 := htb1.free 2
          all_goals have HTB1 := hide htb1
          all_goals have HG1 := hide hg1
          all_goals have HS1 := hide hs1
          all_goals have HT1 := hide ht1
          all_goals have HC1 := hide hc1
          all_goals clear htb1 hg1 hs1 ht1 hc1
          all_goals go_wp2
          all_goals refine bodyPost_end (results_none rfl _ _ _) rfl ⟨rfl, (cs.setIfInBounds 1 (.int .i64 (szT (tab.drop k) : Int))).setIfInBounds 2 (.slice (some ⟨g, 0, none⟩) (tab.length - k) cv), .slice (some ⟨g, 0, none⟩) (tab.length - k) cv, ?_⟩
          all_goals rw [HK0.out]
          all_goals refine ⟨HTB1.out.set2 _, ?_, HCS.out _, ((HCH.out.mono fun j _ e => Or.inl e).trans (HC1.out.mono fun j _ e => Or.inr (Or.inr (by rw [e]; rfl)))).setCell (p := ⟨b, 2, none⟩) (Or.inr (Or.inl rfl)) _, fun j hj => Or.inl hj⟩
          all_goals rw [List.length_drop]
          all_goals refine ⟨by rw [hpCells_length, List.length_drop], Or.inr ⟨g, cv, cur', rfl, Nat.zero_le _, ?_, by have := HCV.out.1; omega, HCM.out, HS1.out, HT1.out⟩⟩
          all_goals rw [((Chg.refl (fun j => j = b) w1).setCell (p := ⟨b, 2, none⟩) (Or.inr rfl) _).block g (lt_of_block HG1.out) HGB.out]
          all_goals exact HG1.out
end Go.Proofs.YtpmmpbklpclnhaaDoor
