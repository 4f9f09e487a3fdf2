import Derived.Test.YtpmmpbklpclnhaaDoorBkPackW
import Derived.Test.YtpmmpbklpclnhaaDoorBkBa
set_option linter.unusedVariables false
set_option linter.unusedSimpArgs false
/-
  Package blocks: IsList; package sluice: NewPacker, Pack, Size, Resize refused.
-/
namespace Go.Proofs.YtpmmpbklpclnhaaDoor
set_option linter.unusedVariables false
set_option linter.unusedSimpArgs false
open Go.RowKit

def badI (hs : List HP) (k : Nat) : Int := match (hs.drop k).findIdx? (fun h => !prB h) with
  | some i => ((k + i : Nat) : Int)
  | none => -1
theorem badI_hit {hs : List HP} {k : Nat} (h : k < hs.length) (hb : prB hs[k] = false) : badI hs k = k := by
  unfold badI
  rw [List.drop_eq_getElem_cons h, List.findIdx?_cons, hb]
  simp
theorem badI_miss {hs : List HP} {k : Nat} (h : k < hs.length) (hb : prB hs[k] = true) : badI hs k = badI hs (k + 1) := by
  unfold badI
  rw [List.drop_eq_getElem_cons h, List.findIdx?_cons, hb]
  cases hx : (hs.drop (k + 1)).findIdx? (fun h => !prB h) with
  | none => simp
  | some i => simp; omega
theorem badI_end {hs : List HP} {k : Nat} (h : hs.length ≤ k) : badI hs k = -1 := by
  unfold badI
  rw [List.drop_of_length_le h]
  rfl
theorem badI_all (hs : List HP) : decide (0 ≤ badI hs 0) = !hs.all prB := by
  unfold badI
  rw [List.drop_zero]
  cases hx : hs.findIdx? (fun h => !prB h) with
  | none =>
    have := List.findIdx?_eq_none_iff.1 hx
    have h2 : hs.all prB = true := by
      rw [List.all_eq_true]
      intro x hm
      have := this x hm
      simpa using this
    rw [h2]
    decide
  | some i =>
    obtain ⟨h1, h2, _⟩ := List.findIdx?_eq_some_iff_getElem.1 hx
    have h3 : hs.all prB = false := by
      rw [List.all_eq_false]
      exact ⟨_, List.getElem_mem h1, by simpa using h2⟩
    rw [h3]
    simp
    try omega

set_option maxRecDepth 100000 in
set_option maxHeartbeats 800000 in
theorem indexFunc_any (v : Value) (hs : List HP) (w : World) (hin : HsIn w v hs) (hl : hs.length ≤ 1099511627776) (hok : ∀ h ∈ hs, h.n.size ≤ 281474976710656 ∧ h.v.size ≤ 281474976710656) :
    Calls Tryd.prog 36 #[v, .func (.func 28) #[] #[]] w fun e w' => e = .returned (.int .i64 (badI hs 0)) ∧ Below w.heap.size w w' := by
  obtain ⟨ss, cc, hsv⟩ := hin.len
  subst hsv
  have HIN := hide hin
  have HOK := hide hok
  clear hin hok
  go_enter Tryd.func36, Tryd.ntmps36
  go_wp2
  go_loopw [8] (fun i wr => ∃ k : Nat, i = .int .i64 (k : Int) ∧ k ≤ hs.length ∧ badI hs 0 = badI hs k ∧ Below w.heap.size w wr) (fun i _ => hs.length - (intOf i).toNat)
  case atStart => exact ⟨0, rfl, Nat.zero_le _, rfl, Below.refl _ _⟩
  case round =>
    obtain ⟨k, rfl, hk, heq, hbel⟩ := hrel
    by_cases hlt : k < hs.length
    · rcases HIN.out.chg (Chg.of_below (S := fun _ => False) hbel) (fun _ _ => id) with ⟨h1, h2⟩ | ⟨bb, off, cap, h1, h2, h3⟩
      · rw [h2] at hlt; simp at hlt
      · simp only [Value.slice.injEq, true_and] at h1
        obtain ⟨hss, hcc⟩ := h1
        subst hss hcc
        obtain ⟨d0, d1⟩ := h3 k hlt
        obtain ⟨o1, o2⟩ := HOK.out hs[k] (List.getElem_mem _)
        have hhit := fun hb => badI_hit hlt hb
        have hmis := fun hb => badI_miss hlt hb
        generalize hs[k] = x at d0 d1 o1 o2 hhit hmis
        have hbp := fun wx => breaksPair_any x wx o1 o2
        cases hpx : prB x with
        | true =>
          rw [hpx] at hbp
          have HBP := hide hbp
          have HMIS := hide (heq.trans (hmis hpx))
          have HB := hide hbel
          obtain ⟨xn, xv⟩ := x
          simp only at d0 d1 HBP
          clear hbp hhit hmis heq hbel h3
          go_wp2_with fail
          refine (HBP.out _).mono ?_
          rintro e w1 ⟨rfl, hb1⟩
          have HB1 := hide (HB.out.trans (hb1.mono HB.out.size))
          clear hb1
          go_wp2
          go_roundw
          case rel => exact ⟨k + 1, by go_num, by omega, HMIS.out, HB1.out⟩
          case measure => simp [intOf]; omega
        | false =>
          rw [hpx] at hbp
          have HBP := hide hbp
          have HHIT := hide (heq.trans (hhit hpx))
          have HB := hide hbel
          obtain ⟨xn, xv⟩ := x
          simp only at d0 d1 HBP
          clear hbp hhit hmis heq hbel h3
          go_wp2_with fail
          refine (HBP.out _).mono ?_
          rintro e w1 ⟨rfl, hb1⟩
          have HB1 := hide (HB.out.trans (hb1.mono HB.out.size))
          clear hb1
          go_wp2
          go_ret
          refine ⟨?_, HB1.out⟩
          rw [HHIT.out]
          try rfl
    · have HEQ := hide heq
      have HB := hide hbel
      clear heq hbel
      go_wp2
      go_ret
      refine ⟨?_, HB.out⟩
      rw [HEQ.out, badI_end (by omega)]
      try rfl

set_option maxRecDepth 100000 in
set_option maxHeartbeats 800000 in
theorem containsFunc_any (v : Value) (hs : List HP) (w : World) (hin : HsIn w v hs) (hl : hs.length ≤ 1099511627776) (hok : ∀ h ∈ hs, h.n.size ≤ 281474976710656 ∧ h.v.size ≤ 281474976710656) :
    Calls Tryd.prog 27 #[v, .func (.func 28) #[] #[]] w fun e w' => e = .returned (.bool (!hs.all prB)) ∧ Below w.heap.size w w' := by
  have hix := indexFunc_any v hs w hin hl hok
  have hall := badI_all hs
  generalize badI hs 0 = J at hix hall
  have HIX := hide hix
  have HALL := hide hall
  clear hix hall hin hok
  go_enter Tryd.func27, Tryd.ntmps27
  go_wp2_with fail
  refine HIX.out.mono ?_
  rintro e w1 ⟨rfl, hb1⟩
  have HB1 := hide hb1
  clear hb1
  go_wp2
  go_ret
  refine ⟨ret_bool ?_, HB1.out⟩
  rw [← HALL.out]

set_option maxRecDepth 100000 in
set_option maxHeartbeats 800000 in
theorem isList_any (v : Value) (hs : List HP) (w : World) (hin : HsIn w v hs) (hl : hs.length ≤ 1099511627776) (hok : ∀ h ∈ hs, h.n.size ≤ 281474976710656 ∧ h.v.size ≤ 281474976710656) :
    Calls Tryd.prog 20 #[v] w fun e w' => e = .returned (.bool (listB hs)) ∧ Below w.heap.size w w' := by
  have hcf := containsFunc_any v hs w hin hl hok
  have hlb : listB hs = (decide (hs.length ≤ 8) && hs.all prB) := rfl
  obtain ⟨ss, cc, hsv⟩ := hin.len
  subst hsv
  have HCF := hide hcf
  have HLB := hide hlb
  clear hcf hlb hin hok
  by_cases h8 : hs.length ≤ 8
  · go_enter Tryd.func20, Tryd.ntmps20
    go_wp2_with fail
    refine HCF.out.mono ?_
    rintro e w1 ⟨rfl, hb1⟩
    have HB1 := hide hb1
    clear hb1
    go_wp2
    go_ret
    refine ⟨ret_bool ?_, HB1.out⟩
    rw [HLB.out]
    simp [h8]
    try omega
  · go_enter Tryd.func20, Tryd.ntmps20
    go_wp2
    go_ret
    refine ⟨ret_bool ?_, Below.refl _ _⟩
    rw [HLB.out]
    simp [h8]
    try omega

set_option maxRecDepth 100000 in
set_option maxHeartbeats 800000 in
theorem bNewPacker_any (n : Int) (w : World) : Calls Tryd.prog 13 #[.int .i64 n] w fun e w' => e = .returned (.agg #[.int .i64 n, .int .i64 0, .slice none 0 0, .slice none 0 0]) ∧ Below w.heap.size w w' := by
  go_enter Tryd.func13, Tryd.ntmps13
  go_wp2
  refine bodyPost_ret (v := .agg #[.int .i64 n, .int .i64 0, .slice none 0 0, .slice none 0 0]) ?_ rfl ⟨rfl, ?_⟩
  · simp [results, Tryd.results13, go_sem]
  · exact (Below.refl _ _).alloc (Nat.le_refl _) _
/-- A new packer. -/
def newCs (n : Nat) : Array Value := #[.int .i64 (n : Int), .int .i64 0, .slice none 0 0, .slice none 0 0]
set_option maxRecDepth 100000 in
set_option maxHeartbeats 800000 in
theorem newPacker_ok (n : Nat) (w : World) (hn : n ≤ 256) : Calls Tryd.prog 5 #[.int .i64 n] w fun e w' => ∃ pb, e = .returned (.tuple #[.pointer (some ⟨pb, 0, none⟩), .int .i64 0]) ∧ w.heap.size ≤ pb ∧ Below w.heap.size w w' ∧ PkS w' pb (newCs n) (.slice none 0 0) (.slice none 0 0) ⟨n, [], []⟩ := by
  have hlf := limitFits_any (n : Int) w
  have hlb : limB (n : Int) = true := by simp [limB]; omega
  rw [hlb] at hlf
  have HLF := hide hlf
  have HNP := hide (fun wx => bNewPacker_any (n : Int) wx)
  clear hlf hlb
  go_enter Tryd.func5, Tryd.ntmps5
  go_wp2_with fail
  refine HLF.out.mono ?_
  rintro e w1 ⟨rfl, hw1⟩
  rw [hw1]
  clear hw1 w1
  go_wp2_with fail
  refine (HNP.out _).mono ?_
  rintro e w1 ⟨rfl, hb1⟩
  have HB1 := hide hb1
  clear hb1
  go_wp2
  refine bodyPost_ret (v := .tuple #[.pointer (some ⟨w1.heap.size, 0, none⟩), .int .i64 0]) ?_ rfl ⟨w1.heap.size, rfl, HB1.out.size, HB1.out.trans (((Below.refl _ _).alloc (Nat.le_refl _) _).mono HB1.out.size), ?_⟩
  · simp [results, Tryd.results5, go_sem]
  · exact ⟨⟨⟨heap_alloc_new w1 _, rfl, rfl, rfl, by decide⟩, World.ownsRow_nil _ _ _ _, Nat.zero_le _, hn⟩, rfl, World.ownsRow_nil _ _ _ _, by simp, by simp⟩

theorem prB_ok {h : HP} (hp : prB h = true) : okH h := by
  unfold prB at hp
  simp only [Bool.and_eq_true, decide_eq_true_eq, Bool.not_eq_true', ] at hp
  obtain ⟨⟨h1, h2⟩, h3⟩ := hp
  refine ⟨?_, h2, h3⟩
  rcases Nat.eq_zero_or_pos h.n.size with h0 | h0
  · have : h.n = ⟨#[]⟩ := by
      apply ByteArray.ext
      exact Array.eq_empty_of_size_eq_zero h0
    rw [this, ba_toList] at h1
    exact absurd h1 (by decide)
  · exact h0
set_option maxRecDepth 100000 in
set_option maxHeartbeats 800000 in
theorem pack_ok (pb : Nat) (cs : Array Value) (tv lv : Value) (p : Pk) (sv : Value) (hs : List HP) (w : World) (hgl : Gl w) (h : PkS w pb cs tv lv p) (hin : HsIn w sv hs) (hsep : ∀ j, sv.ownBlock = some j → ¬ TouchT pb tv j) (hlist : listB hs = true) (hpb : 7 ≤ pb) (htv : ∀ j, tv.ownBlock = some j → 7 ≤ j) :
    Calls Tryd.prog 11 #[.pointer (some ⟨pb, 0, none⟩), sv] w fun e w' => ∃ v cs' tv', e = .returned (.tuple #[v, .int .i64 0]) ∧ Packd w w' pb tv v cs' tv' (p.pack hs) := by
  have hl8 : hs.length ≤ 8 := by unfold listB at hlist; simp at hlist; exact hlist.1
  have hall : ∀ h ∈ hs, okH h := fun x hx => prB_ok (by unfold listB at hlist; simp at hlist; exact hlist.2 x hx)
  have hil := isList_any sv hs w hin (by omega) (fun x hx => by have := hall x hx; exact ⟨by have := this.2.1; omega, by have := this.2.2; omega⟩)
  rw [hlist] at hil
  have HIL := hide hil
  have HBP := hide (fun wx (hb : Below w.heap.size w wx) => bPack_any pb cs tv lv p sv hs wx (hgl.below hb) ⟨h.st.below hb, h.c3, owns_chg h.row (Chg.of_below (S := fun _ => False) hb) (fun _ _ => id), h.few, h.ok⟩ (hin.chg (Chg.of_below (S := fun _ => False) hb) (fun _ _ => id)) hsep hl8 (fun x hx => by have := hall x hx; exact ⟨by have := this.2.1; omega, by have := this.2.2; omega⟩) hpb htv)
  clear hil hall hin hsep hgl h htv
  go_enter Tryd.func11, Tryd.ntmps11
  go_wp2_with fail
  refine HIL.out.mono ?_
  rintro e w1 ⟨rfl, hb1⟩
  have HB1 := hide hb1
  clear hb1
  go_wp2_with fail
  refine (HBP.out w1 HB1.out).mono ?_
  rintro e w2 ⟨v, cs', tv', rfl, hp⟩
  have HP := hide hp
  clear hp
  go_wp2
  refine bodyPost_ret (v := .tuple #[v, .int .i64 0]) ?_ rfl ⟨v, cs', tv', rfl, ?_⟩
  · simp [results, Tryd.results11, go_sem]
  · have h9 := HP.out
    exact ⟨owns_base h9.own (fun j hj => Nat.le_trans HB1.out.size (h9.own.lt j hj).1), h9.st, (Chg.of_below HB1.out).trans (h9.chg.mono fun _ _ e => Or.inr e), fun j hj => (h9.tfresh j hj).imp_right fun e => Nat.le_trans HB1.out.size e⟩
set_option maxRecDepth 100000 in
set_option maxHeartbeats 800000 in
theorem pack_no (pb : Nat) (sv : Value) (hs : List HP) (w : World) (hin : HsIn w sv hs) (hlist : listB hs = false) (hl : hs.length ≤ 1099511627776) (hok : ∀ h ∈ hs, h.n.size ≤ 281474976710656 ∧ h.v.size ≤ 281474976710656) :
    Calls Tryd.prog 11 #[.pointer (some ⟨pb, 0, none⟩), sv] w fun e w' => e = .returned (.tuple #[.slice none 0 0, .int .i64 2]) ∧ Below w.heap.size w w' := by
  have hil := isList_any sv hs w hin hl hok
  rw [hlist] at hil
  have HIL := hide hil
  clear hil hin hok
  go_enter Tryd.func11, Tryd.ntmps11
  go_wp2_with fail
  refine HIL.out.mono ?_
  rintro e w1 ⟨rfl, hb1⟩
  have HB1 := hide hb1
  clear hb1
  go_wp2
  refine bodyPost_ret (v := .tuple #[.slice none 0 0, .int .i64 2]) ?_ rfl ⟨rfl, HB1.out⟩
  simp [results, Tryd.results11, go_sem]
theorem hsIn_of_owns {w : World} {b : Nat} {v : Value} {hs : List HP} (h : w.ownsRow b 33 2 v hs.length (hpCells hs)) : HsIn w v hs := by
  rcases h.2 with ⟨rfl, h0⟩ | ⟨g, cap, cur, rfl, _, hgg, hle, _⟩
  · exact Or.inl ⟨rfl, List.eq_nil_of_length_eq_zero h0⟩
  · refine Or.inr ⟨g, 0, cap, rfl, lt_of_block hgg, fun i hi => ?_⟩
    obtain ⟨e0, e1⟩ := hpCells_get hi
    rw [Nat.zero_add, h.cellAt _ (by have := hpCells_length hs; omega), h.cellAt _ (by have := hpCells_length hs; omega)]
    exact ⟨e0, e1⟩
end Go.Proofs.YtpmmpbklpclnhaaDoor
