import Derived.Test.YtpmmpbklpclnhaaDoorBkTab
set_option linter.unusedVariables false
set_option linter.unusedSimpArgs false
/-
  Package blocks: find, findPair, findName.
-/
namespace Go.Proofs.YtpmmpbklpclnhaaDoor
set_option linter.unusedVariables false
set_option linter.unusedSimpArgs false
open Go.RowKit

set_option maxRecDepth 100000 in
set_option maxHeartbeats 1600000 in
theorem fitsPair_any (x h : HP) (bb : Nat) (w : World) (h0 : w.cell? ⟨bb, 0, none⟩ = some (.string h.n)) (h1 : w.cell? ⟨bb, 1, none⟩ = some (.string h.v)) :
    Calls Tryd.prog 51 #[.agg #[.string x.n, .string x.v], .pointer (some ⟨bb, 0, none⟩)] w fun e w' => e = .returned (.bool (hpEq x h)) ∧ Below w.heap.size w w' := by
  obtain ⟨n, v⟩ := x
  obtain ⟨m, u⟩ := h
  simp only at h0 h1
  have hbl : bb < w.heap.size := World.block_lt_of_cell? w _ h0
  go_enter Tryd.func51, Tryd.ntmps51
  go_wp2
  all_goals go_ret
  all_goals refine ⟨ret_bool ?_, (Below.refl _ _).alloc (Nat.le_refl _) _⟩
  all_goals simp_all [hpEq]

set_option maxRecDepth 100000 in
set_option maxHeartbeats 1600000 in
theorem fitsName_any (x : HP) (m : ByteArray) (bb : Nat) (w : World) (h0 : w.cell? ⟨bb, 0, none⟩ = some (.string m)) :
    Calls Tryd.prog 58 #[.agg #[.string x.n, .string x.v], .pointer (some ⟨bb, 0, none⟩)] w fun e w' => e = .returned (.bool (x.n.toList == m.toList)) ∧ Below w.heap.size w w' := by
  obtain ⟨n, v⟩ := x
  have hbl : bb < w.heap.size := World.block_lt_of_cell? w _ h0
  go_enter Tryd.func58, Tryd.ntmps58
  go_wp2
  all_goals go_ret
  all_goals refine ⟨ret_bool ?_, (Below.refl _ _).alloc (Nat.le_refl _) _⟩
  all_goals simp_all

/-- The least number, from k + 1 on, of a pair of which p holds; 0: none. -/
def fromN (p : HP → Bool) (l : List HP) (k : Nat) : Nat := match (l.drop k).findIdx? p with
  | some i => k + i + 1
  | none => 0
theorem fromN_hit {p : HP → Bool} {l : List HP} {k : Nat} (h : k < l.length) (he : p l[k] = true) : fromN p l k = k + 1 := by
  unfold fromN
  rw [List.drop_eq_getElem_cons h, List.findIdx?_cons, he]
  simp
theorem fromN_miss {p : HP → Bool} {l : List HP} {k : Nat} (h : k < l.length) (he : p l[k] = false) : fromN p l k = fromN p l (k + 1) := by
  unfold fromN
  rw [List.drop_eq_getElem_cons h, List.findIdx?_cons, he]
  cases hx : (l.drop (k + 1)).findIdx? p with
  | none => simp
  | some i => simp; omega
theorem fromN_end {p : HP → Bool} {l : List HP} {k : Nat} (h : l.length ≤ k) : fromN p l k = 0 := by
  unfold fromN
  rw [List.drop_of_length_le h]
  rfl
theorem fromN_le (p : HP → Bool) (l : List HP) (k : Nat) : fromN p l k ≤ l.length := by
  unfold fromN
  split
  · next i hi =>
    have := (List.findIdx?_eq_some_iff_getElem.1 hi).1
    simp at this
    omega
  · omega

set_option maxRecDepth 100000 in
set_option maxHeartbeats 3200000 in
theorem find_pair (b : Nat) (cs : Array Value) (tP : TypeId) (lim : Nat) (tv : Value) (tab : List HP) (bb : Nat) (p : HP → Bool) (w : World) (hgl : Gl w) (ht : TbS w b cs tP lim tv tab)
    (hp : ∀ x wx, Below w.heap.size w wx → Calls Tryd.prog 51 #[.agg #[.string x.n, .string x.v], .pointer (some ⟨bb, 0, none⟩)] wx fun e w' => e = .returned (.bool (p x)) ∧ Below wx.heap.size wx w') :
    Calls Tryd.prog 50 #[.pointer (some ⟨b, 0, none⟩), .func (.func 51) #[] #[.pointer (some ⟨bb, 0, none⟩)]] w fun e w' => e = .returned (.int .i64 (fromN p (numd tab) 0 : Nat)) ∧ Below w.heap.size w w' := by
  have hfew := ht.few
  obtain ⟨sv, cv, hsv⟩ := slice_len ht.row
  subst hsv
  have HH := hide (fun wx hc => highest_any b sv tab.length cv wx hc (by omega))
  have HT := hide ht
  have HG := hide hgl
  have HP := hide hp
  have hnl := numd_length tab
  clear ht hgl hp
  go_enter Tryd.func50, Tryd.ntmps50
  go_wp2
  go_loopw [5] (fun i wr => ∃ k : Nat, i = .int .i64 ((k + 1 : Nat) : Int) ∧ k ≤ (numd tab).length ∧ fromN p (numd tab) 0 = fromN p (numd tab) k ∧ Below w.heap.size w wr) (fun i _ => (numd tab).length + 1 - (intOf i).toNat)
  case atStart => exact ⟨0, rfl, Nat.zero_le _, rfl, Below.refl _ _⟩
  case round =>
    obtain ⟨k, rfl, hk, heq, hbel⟩ := hrel
    have htr := HT.out.below hbel
    have hgr := HG.out.below hbel
    obtain ⟨z0, z1, z2⟩ := htr.tb.cells
    have HB := hide hbel
    have HEQ := hide heq
    have HTR := hide htr
    have HGR := hide hgr
    clear hbel heq htr hgr z0 z1
    go_wp2_with fail
    refine (HH.out _ z2).mono ?_
    rintro e w1 ⟨rfl, hw1⟩
    rw [hw1]
    clear hw1 w1
    by_cases hlt : k < (numd tab).length
    · have hx : (numd tab)[k + 1 - 1]? = some (numd tab)[k] := by rw [Nat.add_sub_cancel]; exact List.getElem?_eq_getElem hlt
      have hpr := pair_any b cs tP lim _ tab (k + 1) _ wr HGR.out HTR.out (by omega) hx
      have hhit := fun he => fromN_hit (p := p) hlt he
      have hmis := fun he => fromN_miss (p := p) hlt he
      generalize (numd tab)[k] = x at hpr hhit hmis
      have HPR := hide hpr
      have HHIT := hide hhit
      have HMIS := hide hmis
      clear hx hpr hhit hmis
      go_wp2_with fail
      refine HPR.out.mono ?_
      rintro e w2 ⟨rfl, hb2⟩
      have hB2 := HB.out.trans (hb2.mono HB.out.size)
      have HB2 := hide hB2
      clear hb2 hB2
      cases hpx : p x with
      | true =>
        have hpc := HP.out x w2 HB2.out
        rw [hpx] at hpc
        have HPC := hide hpc
        clear hpc
        go_wp2_with fail
        refine HPC.out.mono ?_
        rintro e w3 ⟨rfl, hb3⟩
        have HB3 := hide (HB2.out.trans (hb3.mono HB2.out.size))
        clear hb3
        go_wp2
        go_ret
        refine ⟨?_, HB3.out⟩
        rw [HEQ.out, HHIT.out hpx]
        try go_num
      | false =>
        have hpc := HP.out x w2 HB2.out
        rw [hpx] at hpc
        have HPC := hide hpc
        clear hpc
        go_wp2_with fail
        refine HPC.out.mono ?_
        rintro e w3 ⟨rfl, hb3⟩
        have HB3 := hide (HB2.out.trans (hb3.mono HB2.out.size))
        clear hb3
        go_wp2
        go_roundw
        case rel => exact ⟨k + 1, by go_num, by omega, by rw [HEQ.out, HMIS.out hpx], HB3.out⟩
        case measure => simp [intOf]; omega
    · have hke : k = (numd tab).length := by omega
      go_wp2
      go_ret
      refine ⟨?_, HB.out⟩
      rw [HEQ.out, fromN_end (by omega)]
      try rfl

set_option maxRecDepth 100000 in
set_option maxHeartbeats 3200000 in
theorem find_name (b : Nat) (cs : Array Value) (tP : TypeId) (lim : Nat) (tv : Value) (tab : List HP) (bb : Nat) (p : HP → Bool) (w : World) (hgl : Gl w) (ht : TbS w b cs tP lim tv tab)
    (hp : ∀ x wx, Below w.heap.size w wx → Calls Tryd.prog 58 #[.agg #[.string x.n, .string x.v], .pointer (some ⟨bb, 0, none⟩)] wx fun e w' => e = .returned (.bool (p x)) ∧ Below wx.heap.size wx w') :
    Calls Tryd.prog 50 #[.pointer (some ⟨b, 0, none⟩), .func (.func 58) #[] #[.pointer (some ⟨bb, 0, none⟩)]] w fun e w' => e = .returned (.int .i64 (fromN p (numd tab) 0 : Nat)) ∧ Below w.heap.size w w' := by
  have hfew := ht.few
  obtain ⟨sv, cv, hsv⟩ := slice_len ht.row
  subst hsv
  have HH := hide (fun wx hc => highest_any b sv tab.length cv wx hc (by omega))
  have HT := hide ht
  have HG := hide hgl
  have HP := hide hp
  have hnl := numd_length tab
  clear ht hgl hp
  go_enter Tryd.func50, Tryd.ntmps50
  go_wp2
  go_loopw [5] (fun i wr => ∃ k : Nat, i = .int .i64 ((k + 1 : Nat) : Int) ∧ k ≤ (numd tab).length ∧ fromN p (numd tab) 0 = fromN p (numd tab) k ∧ Below w.heap.size w wr) (fun i _ => (numd tab).length + 1 - (intOf i).toNat)
  case atStart => exact ⟨0, rfl, Nat.zero_le _, rfl, Below.refl _ _⟩
  case round =>
    obtain ⟨k, rfl, hk, heq, hbel⟩ := hrel
    have htr := HT.out.below hbel
    have hgr := HG.out.below hbel
    obtain ⟨z0, z1, z2⟩ := htr.tb.cells
    have HB := hide hbel
    have HEQ := hide heq
    have HTR := hide htr
    have HGR := hide hgr
    clear hbel heq htr hgr z0 z1
    go_wp2_with fail
    refine (HH.out _ z2).mono ?_
    rintro e w1 ⟨rfl, hw1⟩
    rw [hw1]
    clear hw1 w1
    by_cases hlt : k < (numd tab).length
    · have hx : (numd tab)[k + 1 - 1]? = some (numd tab)[k] := by rw [Nat.add_sub_cancel]; exact List.getElem?_eq_getElem hlt
      have hpr := pair_any b cs tP lim _ tab (k + 1) _ wr HGR.out HTR.out (by omega) hx
      have hhit := fun he => fromN_hit (p := p) hlt he
      have hmis := fun he => fromN_miss (p := p) hlt he
      generalize (numd tab)[k] = x at hpr hhit hmis
      have HPR := hide hpr
      have HHIT := hide hhit
      have HMIS := hide hmis
      clear hx hpr hhit hmis
      go_wp2_with fail
      refine HPR.out.mono ?_
      rintro e w2 ⟨rfl, hb2⟩
      have hB2 := HB.out.trans (hb2.mono HB.out.size)
      have HB2 := hide hB2
      clear hb2 hB2
      cases hpx : p x with
      | true =>
        have hpc := HP.out x w2 HB2.out
        rw [hpx] at hpc
        have HPC := hide hpc
        clear hpc
        go_wp2_with fail
        refine HPC.out.mono ?_
        rintro e w3 ⟨rfl, hb3⟩
        have HB3 := hide (HB2.out.trans (hb3.mono HB2.out.size))
        clear hb3
        go_wp2
        go_ret
        refine ⟨?_, HB3.out⟩
        rw [HEQ.out, HHIT.out hpx]
        try go_num
      | false =>
        have hpc := HP.out x w2 HB2.out
        rw [hpx] at hpc
        have HPC := hide hpc
        clear hpc
        go_wp2_with fail
        refine HPC.out.mono ?_
        rintro e w3 ⟨rfl, hb3⟩
        have HB3 := hide (HB2.out.trans (hb3.mono HB2.out.size))
        clear hb3
        go_wp2
        go_roundw
        case rel => exact ⟨k + 1, by go_num, by omega, by rw [HEQ.out, HMIS.out hpx], HB3.out⟩
        case measure => simp [intOf]; omega
    · have hke : k = (numd tab).length := by omega
      go_wp2
      go_ret
      refine ⟨?_, HB.out⟩
      rw [HEQ.out, fromN_end (by omega)]
      try rfl

theorem fromN_pn (h : HP) (l : List HP) : fromN (fun x => hpEq x h) l 0 = pnN l h := by
  unfold fromN pnN pnF hpEq
  rw [List.drop_zero]
  cases l.findIdx? (fun x => decide (x.n.toList = h.n.toList ∧ x.v.toList = h.v.toList)) with
  | none => rfl
  | some i => simp
theorem fromN_nm (m : ByteArray) (l : List HP) : fromN (fun x => x.n.toList == m.toList) l 0 = nmF l m := by
  unfold fromN nmF
  rw [List.drop_zero]
  cases l.findIdx? (fun x => x.n.toList == m.toList) with
  | none => rfl
  | some i => simp

set_option maxRecDepth 100000 in
set_option maxHeartbeats 1600000 in
theorem findPair_any (b : Nat) (cs : Array Value) (tP : TypeId) (lim : Nat) (tv : Value) (tab : List HP) (h : HP) (w : World) (hgl : Gl w) (ht : TbS w b cs tP lim tv tab) :
    Calls Tryd.prog 39 #[.pointer (some ⟨b, 0, none⟩), .agg #[.string h.n, .string h.v]] w fun e w' => e = .returned (.int .i64 (pnN (numd tab) h : Nat)) ∧ Below w.heap.size w w' := by
  have hmf : ∀ (fn : Fn) (first cap : Array Value) (w : World), (Instr.makeFunc fn first cap).run Tryd.prog w = .ok (.func fn first cap) w := fun _ _ _ _ => rfl
  have hbx := (Below.refl w.heap.size w).alloc (Nat.le_refl _) (.cells #[.string h.n, .string h.v] 33)
  have hh := heap_alloc_new w (.cells #[.string h.n, .string h.v] 33)
  have hsz := lt_of_block hh
  have hf := find_pair b cs tP lim tv tab w.heap.size (fun x => hpEq x h) (w.alloc (.cells #[.string h.n, .string h.v] 33)) (hgl.below hbx) (ht.below hbx) (fun x wx hb => fitsPair_any x h w.heap.size wx (by rw [hb.cell (p := ⟨w.heap.size, 0, none⟩) hsz, cell_of_row _ _ _ _ _ _ hh]; rfl) (by rw [hb.cell (p := ⟨w.heap.size, 1, none⟩) hsz, cell_of_row _ _ _ _ _ _ hh]; rfl))
  rw [fromN_pn] at hf
  have HF := hide hf
  have HBX := hide hbx
  clear hf hbx hh hsz hgl ht
  go_enter Tryd.func39, Tryd.ntmps39
  go_wp2_with fail
  refine HF.out.mono ?_
  rintro e w' ⟨rfl, hb⟩
  have HB := hide (HBX.out.trans (hb.mono HBX.out.size))
  clear hb
  go_wp2
  go_ret
  exact ⟨rfl, HB.out⟩
set_option maxRecDepth 100000 in
set_option maxHeartbeats 1600000 in
theorem findName_any (b : Nat) (cs : Array Value) (tP : TypeId) (lim : Nat) (tv : Value) (tab : List HP) (m : ByteArray) (w : World) (hgl : Gl w) (ht : TbS w b cs tP lim tv tab) :
    Calls Tryd.prog 52 #[.pointer (some ⟨b, 0, none⟩), .string m] w fun e w' => e = .returned (.int .i64 (nmF (numd tab) m : Nat)) ∧ Below w.heap.size w w' := by
  have hmf : ∀ (fn : Fn) (first cap : Array Value) (w : World), (Instr.makeFunc fn first cap).run Tryd.prog w = .ok (.func fn first cap) w := fun _ _ _ _ => rfl
  have hbx := (Below.refl w.heap.size w).alloc (Nat.le_refl _) (.cells #[.string m] 9)
  have hh := heap_alloc_new w (.cells #[.string m] 9)
  have hsz := lt_of_block hh
  have hf := find_name b cs tP lim tv tab w.heap.size (fun x => x.n.toList == m.toList) (w.alloc (.cells #[.string m] 9)) (hgl.below hbx) (ht.below hbx) (fun x wx hb => fitsName_any x m w.heap.size wx (by rw [hb.cell (p := ⟨w.heap.size, 0, none⟩) hsz, cell_of_row _ _ _ _ _ _ hh]; rfl))
  rw [fromN_nm] at hf
  have HF := hide hf
  have HBX := hide hbx
  clear hf hbx hh hsz hgl ht
  go_enter Tryd.func52, Tryd.ntmps52
  go_wp2_with fail
  refine HF.out.mono ?_
  rintro e w' ⟨rfl, hb⟩
  have HB := hide (HBX.out.trans (hb.mono HBX.out.size))
  clear hb
  go_wp2
  go_ret
  exact ⟨rfl, HB.out⟩
end Go.Proofs.YtpmmpbklpclnhaaDoor
