import Derived.Test.YtdccldbefdfppaaGreatDoorPGad
import Derived.Test.YtdccldbefdfppaaGreatDoorPGab
import Derived.Defers
import Derived.Recover
set_option linter.unusedVariables false
set_option linter.unusedSimpArgs false
namespace Go.Proofs.YtdccldbefdfppaaGreatDoor
open Go.RowKit
section
structure Pkd (w w' : World) (pb : Nat) (cs cs' : Array Value) (tP : TypeId) (lim : Nat) (tv tv' : Value) (tab' : List HP) (gv v : Value) (l' : List UInt8) : Prop where
 own : w'.ownsRow 0 5 1 v l'.length (l'.map B)
 st : TbS w' pb cs' tP lim tv' tab'
 cs3 : ∀ i, 3 ≤ i → cs'[i]? = cs[i]?
 chg : Chg (fun j => gv.ownBlock = some j ∨ TouchT pb tv j) w w'
 fresh : ∀ j, v.ownBlock = some j → gv.ownBlock = some j ∨ w.heap.size ≤ j
 tfresh : ∀ j, tv'.ownBlock = some j → tv.ownBlock = some j ∨ w.heap.size ≤ j
end
section
theorem Pkd.trans {w w1 w2 : World} {gv v v2 : Value} {l l2 : List UInt8} {pb : Nat} {cs cs1 cs2 : Array Value} {tP : TypeId} {lim lim2 : Nat} {tv tv1 tv2 : Value} {tab tab2 : List HP} (h : Pkd w w1 pb cs cs1 tP lim tv tv1 tab gv v l) (k : Pkd w1 w2 pb cs1 cs2 tP lim2 tv1 tv2 tab2 v v2 l2) : Pkd w w2 pb cs cs2 tP lim2 tv tv2 tab2 gv v2 l2 := by
 have hsz := h.chg.size
 refine ⟨k.own, k.st, fun i hi => (k.cs3 i hi).trans (h.cs3 i hi), h.chg.trans (k.chg.mono ?_), fun j hj => ?_, fun j hj => ?_⟩
 ·rintro j _ (e | e | e)
  ·rcases h.fresh j e with a | a
   ·exact Or.inr (Or.inl a)
   ·exact Or.inl a
  ·exact Or.inr (Or.inr (Or.inl e))
  ·rcases h.tfresh j e with a | a
   ·exact Or.inr (Or.inr (Or.inr a))
   ·exact Or.inl a
 ·rcases k.fresh j hj with e | e
  ·exact h.fresh j e
  ·exact Or.inr (Nat.le_trans hsz e)
 ·rcases k.tfresh j hj with e | e
  ·exact h.tfresh j e
  ·exact Or.inr (Nat.le_trans hsz e)
def HsIn (w : World) (v : Value) (hs : List HP) : Prop :=
 (v = .slice none 0 0 ∧ hs = []) ∨ ∃ bb off cap, v = .slice (some ⟨bb, off, none⟩) hs.length cap ∧ bb < w.heap.size ∧ ∀ i (h : i < hs.length), w.cell? ⟨bb, off + i * 2, none⟩ = some (.string hs[i].n) ∧ w.cell? ⟨bb, off + i * 2 + 1, none⟩ = some (.string hs[i].v)
theorem HsIn.chg {S : Nat → Prop} {w w' : World} {v : Value} {hs : List HP} (h : HsIn w v hs) (hc : Chg S w w') (hsep : ∀ j, v.ownBlock = some j → ¬ S j) : HsIn w' v hs := by
 rcases h with h | ⟨bb, off, cap, rfl, h1, h2⟩
 ·exact Or.inl h
 ·refine Or.inr ⟨bb, off, cap, rfl, Nat.lt_of_lt_of_le h1 hc.size, fun i hi => ?_⟩
  rw [hc.cell (p := ⟨bb, off + i * 2, none⟩) h1 (hsep bb rfl), hc.cell (p := ⟨bb, off + i * 2 + 1, none⟩) h1 (hsep bb rfl)]
  exact h2 i hi
theorem HsIn.len {w : World} {v : Value} {hs : List HP} (h : HsIn w v hs) : ∃ sv cv, v = .slice sv hs.length cv := by
 rcases h with ⟨rfl, rfl⟩ | ⟨bb, off, cap, rfl, _⟩
 ·exact ⟨_, _, rfl⟩
 ·exact ⟨_, _, rfl⟩
end
section
def badI (hs : List HP) (k : Nat) : Int := match (hs.drop k).findIdx? (fun h => !prB h) with
 | some i => ((k + i : Nat) : Int)
 | none => -1
theorem badI_hit {hs : List HP} {k : Nat} (h : k < hs.length) (hb : prB hs[k] = false) : badI hs k = k := by
 unfold badI
 rw [List.drop_eq_getElem_cons h, List.findIdx?_cons, hb]
 simp
theorem badI_miss {hs : List HP} {k : Nat} (h : k < hs.length) (hb : prB hs[k] = true) : badI hs k = badI hs (k + 1) := by
 unfold badI
 rw [List.drop_eq_getElem_cons h, List.findIdx?_cons, hb]
 cases hx : (hs.drop (k + 1)).findIdx? (fun h => !prB h) with
 | none => simp
 | some i => simp; omega
theorem badI_end {hs : List HP} {k : Nat} (h : hs.length ≤ k) : badI hs k = -1 := by
 unfold badI
 rw [List.drop_of_length_le h]
 rfl
theorem badI_all (hs : List HP) : decide (0 ≤ badI hs 0) = !hs.all prB := by
 unfold badI
 rw [List.drop_zero]
 cases hx : hs.findIdx? (fun h => !prB h) with
 | none =>
  have := List.findIdx?_eq_none_iff.1 hx
  have h2 : hs.all prB = true := by
   rw [List.all_eq_true]
   intro x hm
   have := this x hm
   simpa using this
  rw [h2]
  decide
 | some i =>
  obtain ⟨h1, h2, _⟩ := List.findIdx?_eq_some_iff_getElem.1 hx
  have h3 : hs.all prB = false := by
   rw [List.all_eq_false]
   exact ⟨_, List.getElem_mem h1, by simpa using h2⟩
  rw [h3]
  simp
  try omega
set_option maxRecDepth 100000 in
set_option maxHeartbeats 800000 in
theorem indexFunc_any (v : Value) (hs : List HP) (w : World) (hin : HsIn w v hs) (hl : hs.length ≤ 1099511627776) (hok : ∀ h ∈ hs, h.n.size ≤ 281474976710656 ∧ h.v.size ≤ 281474976710656) :
  Calls Tryz.prog 106 #[v, .func (.func 75) #[] #[]] w fun e w' => e = .returned (.int .i64 (badI hs 0)) ∧ Below w.heap.size w w' := by
 obtain ⟨ss, cc, hsv⟩ := hin.len
 subst hsv
 have HIN := hide hin
 have HOK := hide hok
 clear hin hok
 go_enter Tryz.func106, Tryz.ntmps106
 go_wp2
 go_loopw [8] (fun i wr => ∃ k : Nat, i = .int .i64 (k : Int) ∧ k ≤ hs.length ∧ badI hs 0 = badI hs k ∧ Below w.heap.size w wr) (fun i _ => hs.length - (intOf i).toNat)
 case atStart => exact ⟨0, rfl, Nat.zero_le _, rfl, Below.refl _ _⟩
 case round =>
  obtain ⟨k, rfl, hk, heq, hbel⟩ := hrel
  by_cases hlt : k < hs.length
  ·rcases HIN.out.chg (Chg.of_below (S := fun _ => False) hbel) (fun _ _ => id) with ⟨h1, h2⟩ | ⟨bb, off, cap, h1, h2, h3⟩
   ·rw [h2] at hlt; simp at hlt
   ·simp only [Value.slice.injEq, true_and] at h1
    obtain ⟨hss, hcc⟩ := h1
    subst hss hcc
    obtain ⟨d0, d1⟩ := h3 k hlt
    obtain ⟨o1, o2⟩ := HOK.out hs[k] (List.getElem_mem _)
    have hhit := fun hb => badI_hit hlt hb
    have hmis := fun hb => badI_miss hlt hb
    generalize hs[k] = x at d0 d1 o1 o2 hhit hmis
    have hbp := fun wx => breaksPair_any x wx o1 o2
    cases hpx : prB x with
    | true =>
     rw [hpx] at hbp
     have HBP := hide hbp
     have HMIS := hide (heq.trans (hmis hpx))
     have HB := hide hbel
     obtain ⟨xn, xv⟩ := x
     simp only at d0 d1 HBP
     clear hbp hhit hmis heq hbel h3
     go_wp2_with fail
     refine (HBP.out _).mono ?_
     rintro e w1 ⟨rfl, hb1⟩
     have HB1 := hide (HB.out.trans (hb1.mono HB.out.size))
     clear hb1
     go_wp2
     go_roundw
     case rel => exact ⟨k + 1, by go_num, by omega, HMIS.out, HB1.out⟩
     case measure => simp [intOf]; omega
    | false =>
     rw [hpx] at hbp
     have HBP := hide hbp
     have HHIT := hide (heq.trans (hhit hpx))
     have HB := hide hbel
     obtain ⟨xn, xv⟩ := x
     simp only at d0 d1 HBP
     clear hbp hhit hmis heq hbel h3
     go_wp2_with fail
     refine (HBP.out _).mono ?_
     rintro e w1 ⟨rfl, hb1⟩
     have HB1 := hide (HB.out.trans (hb1.mono HB.out.size))
     clear hb1
     go_wp2
     go_ret
     refine ⟨?_, HB1.out⟩
     rw [HHIT.out]
     try rfl
  ·have HEQ := hide heq
   have HB := hide hbel
   clear heq hbel
   go_wp2
   go_ret
   refine ⟨?_, HB.out⟩
   rw [HEQ.out, badI_end (by omega)]
   try rfl
set_option maxRecDepth 100000 in
set_option maxHeartbeats 800000 in
theorem containsFunc_any (v : Value) (hs : List HP) (w : World) (hin : HsIn w v hs) (hl : hs.length ≤ 1099511627776) (hok : ∀ h ∈ hs, h.n.size ≤ 281474976710656 ∧ h.v.size ≤ 281474976710656) :
  Calls Tryz.prog 74 #[v, .func (.func 75) #[] #[]] w fun e w' => e = .returned (.bool (!hs.all prB)) ∧ Below w.heap.size w w' := by
 have hix := indexFunc_any v hs w hin hl hok
 have hall := badI_all hs
 generalize badI hs 0 = J at hix hall
 have HIX := hide hix
 have HALL := hide hall
 clear hix hall hin hok
 go_enter Tryz.func74, Tryz.ntmps74
 go_wp2_with fail
 refine HIX.out.mono ?_
 rintro e w1 ⟨rfl, hb1⟩
 have HB1 := hide hb1
 clear hb1
 go_wp2
 go_ret
 refine ⟨ret_bool ?_, HB1.out⟩
 rw [← HALL.out]
set_option maxRecDepth 100000 in
set_option maxHeartbeats 800000 in
theorem isList_any (v : Value) (hs : List HP) (w : World) (hin : HsIn w v hs) (hl : hs.length ≤ 1099511627776) (hok : ∀ h ∈ hs, h.n.size ≤ 281474976710656 ∧ h.v.size ≤ 281474976710656) :
  Calls Tryz.prog 59 #[v] w fun e w' => e = .returned (.bool (listB hs)) ∧ Below w.heap.size w w' := by
 have hcf := containsFunc_any v hs w hin hl hok
 have hlb : listB hs = (decide (hs.length ≤ 8) && hs.all prB) := rfl
 obtain ⟨ss, cc, hsv⟩ := hin.len
 subst hsv
 have HCF := hide hcf
 have HLB := hide hlb
 clear hcf hlb hin hok
 by_cases h8 : hs.length ≤ 8
 ·go_enter Tryz.func59, Tryz.ntmps59
  go_wp2_with fail
  refine HCF.out.mono ?_
  rintro e w1 ⟨rfl, hb1⟩
  have HB1 := hide hb1
  clear hb1
  go_wp2
  go_ret
  refine ⟨ret_bool ?_, HB1.out⟩
  rw [HLB.out]
  simp [h8]
  try omega
 ·go_enter Tryz.func59, Tryz.ntmps59
  go_wp2
  go_ret
  refine ⟨ret_bool ?_, Below.refl _ _⟩
  rw [HLB.out]
  simp [h8]
  try omega
theorem hsIn_of_owns {w : World} {b : Nat} {v : Value} {hs : List HP} (h : w.ownsRow b 130 2 v hs.length (hpCells hs)) : HsIn w v hs := by
 rcases h.2 with ⟨rfl, h0⟩ | ⟨g, cap, cur, rfl, _, hgg, hle, _⟩
 ·exact Or.inl ⟨rfl, List.eq_nil_of_length_eq_zero h0⟩
 ·refine Or.inr ⟨g, 0, cap, rfl, lt_of_block hgg, fun i hi => ?_⟩
  obtain ⟨e0, e1⟩ := hpCells_get hi
  rw [Nat.zero_add, h.cellAt _ (by have := hpCells_length hs; omega), h.cellAt _ (by have := hpCells_length hs; omega)]
  exact ⟨e0, e1⟩
end
section
theorem rdPairs_cons {f : Nat} {acc tab : List HP} {lim : Nat} {c : UInt8} {r : List UInt8} {z : List HP × List HP} (h : rdPairs f acc tab lim (c :: r) = some z) :
  ∃ x tab2 q, rdPair tab lim (c :: r) = some (x, tab2, q) ∧ listB (acc ++ [x]) = true ∧ rdPairs (f - 1) (acc ++ [x]) tab2 lim q = some z := by
 cases f with
 | zero => simp [rdPairs] at h
 | succ f =>
  simp only [rdPairs] at h
  cases hp : rdPair tab lim (c :: r) with
  | none => rw [hp] at h; cases h
  | some y =>
   obtain ⟨x, tab2, q⟩ := y
   rw [hp] at h
   simp only at h
   split at h
   ·rename_i hl
    exact ⟨x, tab2, q, rfl, hl, h⟩
   ·cases h
theorem rdLims_cons {most f lim : Nat} {tab : List HP} {c : UInt8} {r : List UInt8} {z : Nat × List HP × List UInt8} (h : rdLims most (f + 1) lim tab (c :: r) = some z) (hc : c.toNat / 32 = 1) :
  ∃ n q, rdCnt 5 c r = some (n, q) ∧ n ≤ most ∧ rdLims most f n (shr tab n) q = some z := by
 simp only [rdLims] at h
 rw [if_pos hc] at h
 cases hp : rdCnt 5 c r with
 | none => rw [hp] at h; cases h
 | some y =>
  obtain ⟨n, q⟩ := y
  rw [hp] at h
  simp only at h
  split at h
  ·cases h
  ·exact ⟨n, q, rfl, by omega, h⟩
def lenV : Value → Nat
 | .slice _ n _ => n
 | _ => 0
theorem unp_chg {w w1 : World} {ub : Nat} {tv : Value} {o : Obj} (hb : Below w.heap.size w (w.alloc o)) (h : Chg (fun j => j = w.heap.size ∨ TouchT ub tv j) (w.alloc o) w1) : Chg (TouchT ub tv) w w1 :=
 (Chg.of_below hb).trans (h.mono fun j _ e => e.imp_left fun e => by omega)
end
end Go.Proofs.YtdccldbefdfppaaGreatDoor
