import Derived.Test.YtiphkngfbpdeoaaGreatDoorVGah
import Derived.Test.YtiphkngfbpdeoaaGreatDoorVGac
import Derived.Test.YtiphkngfbpdeoaaGreatDoorVGaf
import Derived.MapKept
set_option linter.unusedVariables false
set_option linter.unusedSimpArgs false
namespace Go.Proofs.YtiphkngfbpdeoaaGreatDoor
set_option linter.unusedVariables false
set_option linter.unusedSimpArgs false
open Go.RowKit
set_option maxHeartbeats 400000 in
theorem isNaN_any (n : Int) (w : World) : Calls Tryz.prog 141 #[.int .i64 n] w fun e w' => e = .returned (.bool false) ∧ w' = w := by
  go_enter Tryz.func141, Tryz.ntmps141
  go_wp2
  go_ret
  exact ⟨by simp, rfl⟩
def cmpZ (a b : Int) : Int := if a < b then -1 else if b < a then 1 else 0
set_option maxHeartbeats 800000 in
theorem cmpInt_any (a b : Int) (w : World) : Calls Tryz.prog 104 #[.int .i64 a, .int .i64 b] w fun e w' => e = .returned (.int .i64 (cmpZ a b)) ∧ w' = w := by
  have H1 := hide (isNaN_any a w)
  have H2 := hide (isNaN_any b w)
  unfold cmpZ
  by_cases h1 : a < b
  · go_enter Tryz.func104, Tryz.ntmps104
    go_wp2_with fail
    refine H1.out.mono ?_
    rintro e w' ⟨rfl, hw'⟩
    rw [hw']
    clear hw' w'
    go_wp2_with fail
    refine H2.out.mono ?_
    rintro e w' ⟨rfl, hw'⟩
    rw [hw']
    clear hw' w'
    go_wp2
    go_ret
    exact ⟨by simp [h1], rfl⟩
  · by_cases h2 : b < a
    all_goals
      go_enter Tryz.func104, Tryz.ntmps104
      go_wp2_with fail
      refine H1.out.mono ?_
      rintro e w' ⟨rfl, hw'⟩
      rw [hw']
      clear hw' w'
      go_wp2_with fail
      refine H2.out.mono ?_
      rintro e w' ⟨rfl, hw'⟩
      rw [hw']
      clear hw' w'
      go_wp2
      go_ret
      exact ⟨by simp [h1, h2], rfl⟩
set_option maxRecDepth 100000 in
set_option maxHeartbeats 800000 in
theorem sadd1_any (q1 q2 : Nat) (s1 s2 : StM) (w : World) (h1 : StB w q1 s1) (h2 : StB w q2 s2) : Calls Tryz.prog 103 #[.pointer (some ⟨q1, 0, none⟩), .pointer (some ⟨q2, 0, none⟩)] w fun e w' => e = .returned (.int .i64 (cmpZ s1.number s2.number)) ∧ Below w.heap.size w w' := by
  have c3 := h1.c3
  have d3 := h2.c3
  have HC : Hid (∀ w, Calls Tryz.prog 104 #[.int .i64 s1.number, .int .i64 s2.number] w fun e w' => e = .returned (.int .i64 (cmpZ s1.number s2.number)) ∧ w' = w) := fun w => cmpInt_any _ _ w
  clear h1 h2
  generalize cmpZ s1.number s2.number = Z at *
  go_enter Tryz.func103, Tryz.ntmps103
  go_upto_region 1 with fail
  go_cut [4] (fun s4 wx => s4 = .int .i64 Z ∧ Below w.heap.size w wx)
  case first =>
    go_region_held3 (fun w' => w'.cell? ⟨q1, 3, none⟩ = some (.int .i64 s1.number) ∧ w'.cell? ⟨q2, 3, none⟩ = some (.int .i64 s2.number)) (go_keep)
      (first | (go_at_call 104; refine (HC.out _).mono ?_; rintro e w' ⟨rfl, rfl⟩))
    all_goals (go_wp2_with fail; go_meet; exact ⟨rfl, ⟨rfl, rfl, rfl, Nat.le_refl _, fun _ _ => rfl⟩⟩)
  case rest =>
    obtain ⟨rfl, hbx⟩ := hcut
    have HX := hide hbx
    clear hbx
    go_wp2
    go_ret
    exact ⟨rfl, HX.out⟩
theorem cmpZ_ge {a b : Int} (h : b ≤ a) : (cmpZ a b < 0) = False := by
  unfold cmpZ
  simp only [eq_iff_iff, iff_false]
  split
  · omega
  · split <;> omega
set_option maxRecDepth 100000 in
set_option maxHeartbeats 1600000 in
theorem insSort_up (v : Value) (L : List Str) (w : World) (ho : OpenS w v L) (hs : ∀ i (h : i + 1 < L.length), L[i].2.number ≤ L[i + 1].2.number) (hL : L.length ≤ 12) :
    Calls Tryz.prog 154 #[v, .int .i64 0, .int .i64 L.length, .func (.func 103) #[] #[]] w fun e w' => e = .returned (.tuple #[]) ∧ Below w.heap.size w w' := by
  obtain ⟨sr, cr, hv⟩ := slice_len ho.row
  rw [hv] at ho
  rw [hv]
  have HO := hide ho
  have HS := hide hs
  clear ho hs hv
  go_enter Tryz.func154, Tryz.ntmps154
  go_wp2
  go_loopw [8] (fun i wr => ∃ (k : Nat) (wv : World), wv = wr ∧ i = .int .i64 (k : Int) ∧ 1 ≤ k ∧ k ≤ L.length + 1 ∧ Below w.heap.size w wv) (fun i _ => 1 + L.length - (intOf i).toNat)
  case atStart => exact ⟨1, _, rfl, by go_num, Nat.le_refl _, by omega, Below.refl _ _⟩
  case round =>
    obtain ⟨k, wv, hwv, rfl, hk1, hk2, hbel⟩ := hrel
    subst hwv
    by_cases hlk : k < L.length
    · obtain ⟨gg, c, hvv, hcell, hcap⟩ := (HO.out.below hbel).at hlk
      simp only [Value.slice.injEq] at hvv
      obtain ⟨rfl, _, rfl⟩ := hvv
      obtain ⟨q, hkq⟩ : ∃ q, k = q + 1 := ⟨k - 1, by omega⟩
      have hq1 : q < L.length := by omega
      obtain ⟨gg2, c2, hvv, hcell2, hcap2⟩ := (HO.out.below hbel).at (k := q) hq1
      simp only [Value.slice.injEq, Option.some.injEq, Addr.mk.injEq, and_true, true_and] at hvv
      obtain ⟨rfl, rfl⟩ := hvv
      have hm1 := List.getElem_mem hlk
      have hm2 := List.getElem_mem hq1
      have hle : L[q].2.number ≤ L[k].2.number := by subst hkq; exact HS.out q hlk
      have HC : Hid (∀ wx, Below wv.heap.size wv wx → Calls Tryz.prog 103 #[.pointer (some ⟨L[k].1, 0, none⟩), .pointer (some ⟨L[q].1, 0, none⟩)] wx fun e w' => e = .returned (.int .i64 (cmpZ L[k].2.number L[q].2.number)) ∧ Below wx.heap.size wx w') := fun wx hb => sadd1_any _ _ _ _ wx (((HO.out.st _ hm1).below hbel).below hb) (((HO.out.st _ hm2).below hbel).below hb)
      have hz := cmpZ_ge hle
      generalize cmpZ L[k].2.number L[q].2.number = Z at HC hz
      generalize L[k].1 = b1 at hcell HC
      generalize L[q].1 = b2 at hcell2 HC
      have hz0 : ¬ Z < 0 := by rw [hz]; exact id
      have HBE := hide hbel
      have hk0 : (0 < k) = True := eq_true (by omega)
      have hwr : IntKind.i64.wrap ((k : Int) - 1) = (q : Int) := by rw [IntKind.wrap_i64]; omega
      have i1 : (0 : Int) ≤ (q : Int) := by omega
      have i2 : (q : Int) < (L.length : Int) := by omega
      clear hbel hm1 hm2 hle hz hkq
      go_wp2
      refine wp_loop_rounds 1 ?_
      rw [rounds_succ]
      go_upto_region 4 with fail
      go_cut [34] (fun s34 wx => s34 = .bool false ∧ Below wv.heap.size wv wx)
      case first =>
        go_region_held3 (fun w' => w'.cell? ⟨gg, k, none⟩ = some (.pointer (some ⟨b1, 0, none⟩)) ∧ w'.cell? ⟨gg, q, none⟩ = some (.pointer (some ⟨b2, 0, none⟩))) (go_keep)
          (first | (go_at_call 103; refine (HC.out wv.drew ⟨rfl, rfl, rfl, Nat.le_refl _, fun _ _ => rfl⟩).mono ?_; rintro e w1 ⟨rfl, hb1⟩; have hB1 : Below wv.heap.size wv w1 := ⟨hb1.os, hb1.tape, hb1.output, hb1.size, hb1.block⟩; have t1 : w1.cell? ⟨gg, k, none⟩ = some (.pointer (some ⟨b1, 0, none⟩)) := (by rw [Below.cell hB1 (p := ⟨gg, k, none⟩) (World.block_lt_of_cell? _ _ hcell)]; exact hcell); have t2 : w1.cell? ⟨gg, q, none⟩ = some (.pointer (some ⟨b2, 0, none⟩)) := (by rw [Below.cell hB1 (p := ⟨gg, q, none⟩) (World.block_lt_of_cell? _ _ hcell2)]; exact hcell2)))
        all_goals (go_wp2_with fail; go_meet; exact ⟨by simp [hz0], hB1⟩)
      case rest =>
        obtain ⟨rfl, hbx⟩ := hcut
        have HX := hide hbx
        clear hbx
        go_wp2
        all_goals go_roundw
        case rel => exact ⟨k + 1, _, rfl, by go_num, by omega, by omega, HBE.out.trans (HX.out.mono HBE.out.size)⟩
        case measure => simp [intOf]; omega
    · have HBE := hide hbel
      clear hbel
      go_wp2
      exact bodyPost_end (results_none rfl _ _ _) rfl ⟨rfl, HBE.out⟩
set_option maxRecDepth 100000 in
set_option maxHeartbeats 1600000 in
theorem pdq_up (v : Value) (L : List Str) (lim : Int) (w : World) (ho : OpenS w v L) (hs : ∀ i (h : i + 1 < L.length), L[i].2.number ≤ L[i + 1].2.number) (hL : L.length ≤ 12) :
    Calls Tryz.prog 139 #[v, .int .i64 0, .int .i64 L.length, .int .i64 lim, .func (.func 103) #[] #[]] w fun e w' => e = .returned (.tuple #[]) ∧ Below w.heap.size w w' := by
  have HC := hide (insSort_up v L w ho hs hL)
  clear ho hs
  have hl2 : ((L.length : Int) ≤ 12) = True := eq_true (by omega)
  go_enter Tryz.func139, Tryz.ntmps139
  go_wp2
  refine wp_loop_rounds 1 ?_
  rw [rounds_succ]
  go_wp2_with fail
  refine HC.out.mono ?_
  rintro e w' ⟨rfl, hb⟩
  have HB := hide hb
  clear hb
  go_wp2
  refine bodyPost_ret (v := .tuple #[]) ?_ rfl ⟨rfl, HB.out⟩
  simp [results, Tryz.results139, go_sem]
set_option maxRecDepth 100000 in
set_option maxHeartbeats 1600000 in
theorem bLen64_any (n : Nat) (hn : n ≤ 12) (w : World) : Calls Tryz.prog 163 #[.int .u64 n] w fun e w' => ∃ k : Int, e = .returned (.int .i64 k) ∧ w' = w := by
  obtain rfl | rfl | rfl | rfl | rfl | rfl | rfl | rfl | rfl | rfl | rfl | rfl | rfl : n = 0 ∨ n = 1 ∨ n = 2 ∨ n = 3 ∨ n = 4 ∨ n = 5 ∨ n = 6 ∨ n = 7 ∨ n = 8 ∨ n = 9 ∨ n = 10 ∨ n = 11 ∨ n = 12 := by omega
  all_goals
    go_enter Tryz.func163, Tryz.ntmps163
    go_wp2
    go_ret
    exact ⟨_, rfl, rfl⟩
end Go.Proofs.YtiphkngfbpdeoaaGreatDoor
namespace Go.Proofs.YtiphkngfbpdeoaaGreatDoor
set_option linter.unusedVariables false
set_option linter.unusedSimpArgs false
open Go.RowKit
theorem dset_next {A xs : List Value} {i : Nat} (x : Value) (hA : A.length = i) (h : i < xs.length) : (A ++ xs.drop i).set i x = (A ++ [x]) ++ xs.drop (i + 1) := by
  rw [List.set_append_right _ _ (by omega), hA, Nat.sub_self, List.drop_eq_getElem_cons h, List.set_cons_zero, List.append_assoc]
  rfl
def delX (L : List Str) (k : Nat) : List Value := opnCells (L.eraseIdx k)
theorem delX_length {L : List Str} {k : Nat} (h : k < L.length) : (delX L k).length = L.length - 1 := by unfold delX; rw [opnCells_length, List.length_eraseIdx, if_pos h]
theorem delX_get {L : List Str} {k j : Nat} (h1 : k < j) (h2 : j < L.length) : (delX L k)[j - 1]? = some (.pointer (some ⟨L[j].1, 0, none⟩)) := by
  unfold delX opnCells
  rw [List.getElem?_map, List.getElem?_eraseIdx, if_neg (by omega), Nat.sub_add_cancel (by omega), List.getElem?_eq_getElem h2]
  rfl
def delC (L : List Str) (k : Nat) (cur : Array Value) (j : Nat) : Array Value := ((delX L k).take (j - 1) ++ cur.toList.drop (j - 1)).toArray
theorem delC_size {L : List Str} {k j cr : Nat} {cur : Array Value} (hk : k < L.length) (hj : j ≤ L.length) (hc : cur.size = cr) (hL : L.length ≤ cr) : (delC L k cur j).size = cr := by
  unfold delC
  have hcl : cur.toList.length = cr := by rw [Array.length_toList]; exact hc
  rw [List.size_toArray, List.length_append, List.length_take, List.length_drop, delX_length hk, hcl]
  omega
theorem delC_start {L : List Str} {k cr : Nat} {cur : Array Value} (hk : k < L.length) (ht : cur.toList.take L.length = opnCells L) : delC L k cur (k + 1) = cur := by
  unfold delC
  have h1 : (delX L k).take (k + 1 - 1) = cur.toList.take k := by
    unfold delX opnCells
    rw [Nat.add_sub_cancel, ← List.map_take, List.eraseIdx_eq_take_drop_succ, List.take_left' (by rw [List.length_take]; omega), List.map_take]
    have h2 : (L.map fun p => Value.pointer (some ⟨p.1, 0, none⟩)) = opnCells L := rfl
    rw [h2, ← ht, List.take_take, Nat.min_eq_left (by omega)]
  rw [h1, Nat.add_sub_cancel, List.take_append_drop]
theorem delC_get {L : List Str} {k j : Nat} {cur : Array Value} (hk : k < j) (hj : j < L.length) (hkl : k < L.length) (ht : cur.toList.take L.length = opnCells L) : (delC L k cur j)[j]? = some (.pointer (some ⟨L[j].1, 0, none⟩)) := by
  unfold delC
  have hcur : cur.toList[j]? = some (.pointer (some ⟨L[j].1, 0, none⟩)) := by
    have : (cur.toList.take L.length)[j]? = (opnCells L)[j]? := by rw [ht]
    rw [List.getElem?_take, if_pos hj] at this
    rw [this]
    simp [opnCells, hj]
  rw [List.getElem?_toArray, List.getElem?_append_right (by rw [List.length_take, delX_length hkl]; omega), List.length_take, delX_length hkl, List.getElem?_drop, Nat.min_eq_left (by omega), show j - 1 + (j - (j - 1)) = j by omega]
  exact hcur
theorem delC_set {L : List Str} {k j cr : Nat} {cur : Array Value} (hk : k < j) (hj : j < L.length) (hkl : k < L.length) (hc : cur.size = cr) (hL : L.length ≤ cr) : (delC L k cur j).setIfInBounds (j - 1) (.pointer (some ⟨L[j].1, 0, none⟩)) = delC L k cur (j + 1) := by
  unfold delC
  rw [List.setIfInBounds_toArray, dset_next _ (by rw [List.length_take, delX_length hkl]; omega) (by rw [Array.length_toList, hc]; omega)]
  rw [Nat.add_sub_cancel]
  have e : (delX L k).take (j - 1) ++ [.pointer (some ⟨L[j].1, 0, none⟩)] = (delX L k).take j := by
    have h := delX_get hk hj
    obtain ⟨h1, h2⟩ := List.getElem?_eq_some_iff.1 h
    have := List.take_succ_eq_append_getElem h1
    rw [Nat.sub_add_cancel (by omega)] at this
    rw [this, h2]
  rw [e, Nat.sub_add_cancel (by omega)]
set_option maxRecDepth 100000 in
set_option maxHeartbeats 3200000 in
theorem deleteFunc_hit (g cr k : Nat) (cur : Array Value) (L : List Str) (bx sb : Nat) (s2 : StM) (w : World) (hg : w.heap[g]? = some (.cells cur 118 (0, 0))) (hcs : cur.size = cr) (hL : L.length ≤ cr) (hm : cr ≤ maxLen) (ht : cur.toList.take L.length = opnCells L) (hst : ∀ p ∈ L, StB w p.1 p.2) (hs2 : StB w sb s2) (hb : bx ≠ g) (hx : w.cell? ⟨bx, 0, none⟩ = some (.pointer (some ⟨sb, 0, none⟩))) (hL2 : L.length ≤ 1048576) (hk : k < L.length) (hks : L[k].1 = sb) (hnd : ∀ j (h : j < L.length), j ≠ k → L[j].1 ≠ sb) :
    Calls Tryz.prog 108 #[.slice (some ⟨g, 0, none⟩) L.length cr, .func (.func 109) #[] #[.pointer (some ⟨bx, 0, none⟩)]] w fun e w' => e = .returned (.slice (some ⟨g, 0, none⟩) (L.length - 1) cr) ∧ w'.ownsRow 0 118 1 (.slice (some ⟨g, 0, none⟩) (L.length - 1) cr) (L.length - 1) (opnCells (L.eraseIdx k)) ∧ Chg (fun j => j = g) w w' := by
  have hidx : idxS sb L 0 = (k : Int) := by
    unfold idxS
    rw [List.drop_zero]
    have : L.findIdx? (fun p => p.1 == sb) = some k := by
      rw [List.findIdx?_eq_some_iff_getElem]
      refine ⟨hk, by simp [hks], fun j hj => ?_⟩
      have := hnd j (by omega) (by omega)
      simpa using this
    rw [this]
    simp
  have hrow : w.ownsRow 0 118 1 (.slice (some ⟨g, 0, none⟩) L.length cr) L.length (opnCells L) := ⟨by rw [opnCells_length]; omega, Or.inr ⟨g, cr, cur, rfl, Nat.zero_le _, hg, hL, hm, by omega, by rw [Nat.mul_one]; exact ht⟩⟩
  have hix := indexFuncS_any _ L bx sb w hrow hst s2 hs2 hx hL2
  rw [hidx] at hix
  have HIX := hide hix
  have hne : ∀ p ∈ L, p.1 ≠ g := fun p hp e => by
    have h1 := (hst p hp).blk
    rw [e, hg] at h1
    simp only [Option.some.injEq, Obj.cells.injEq] at h1
    exact absurd h1.2.1 (by decide)
  have hsg : sb ≠ g := fun e => by
    have h1 := hs2.blk
    rw [e, hg] at h1
    simp only [Option.some.injEq, Obj.cells.injEq] at h1
    exact absurd h1.2.1 (by decide)
  have hbl : bx < w.heap.size := World.block_lt_of_cell? w _ hx
  have HCL : Hid (∀ wx, Chg (fun j => j = g) w wx → ∀ p ∈ L, Calls Tryz.prog 109 #[.pointer (some ⟨p.1, 0, none⟩), .pointer (some ⟨bx, 0, none⟩)] wx fun e w' => e = .returned (.bool (p.1 == sb)) ∧ w' = wx) := fun wx hc p hp =>
    settle1_any p.1 bx sb p.2 s2 wx (by rw [hc.cell (p := ⟨bx, 0, none⟩) hbl (fun e => hb e)]; exact hx) ((hst p hp).chg hc (hne p hp)) (hs2.chg hc hsg)
  have HG := hide hg
  have HT := hide ht
  have HCS := hide hcs
  have HND := hide hnd
  clear hix hidx hrow hst hs2 hx hne hsg hnd ht hg hks hcs
  go_enter Tryz.func108, Tryz.ntmps108
  go_wp2_with fail
  refine HIX.out.mono ?_
  rintro e w' ⟨rfl, hw'⟩
  rw [hw']
  clear hw' w'
  have hkm : ((k : Int) == -1) = false := by rw [beq_eq_false_iff_ne]; omega
  go_wp2
  go_loopw [5, 6] (fun i j wr => ∃ (q : Nat) (wv : World), wv = wr ∧ j = .int .i64 ((q + 1 : Nat) : Int) ∧ i = .int .i64 (q : Int) ∧ k ≤ q ∧ q + 1 ≤ L.length ∧ Chg (fun j => j = g) w wv ∧ wv.heap[g]? = some (.cells (delC L k cur (q + 1)) 118 (0, 0))) (fun _ j _ => L.length - (intOf j).toNat)
  case atStart => exact ⟨k, _, rfl, by go_num, rfl, Nat.le_refl _, hk, Chg.refl _ _, by rw [delC_start (cr := cr) hk HT.out]; exact HG.out⟩
  case round =>
    obtain ⟨q, wv, hwv, rfl, rfl, hkq, hql, hch, hgv⟩ := hrel
    subst hwv
    by_cases hlq : q + 1 < L.length
    · have hcell : wv.cell? ⟨g, q + 1, none⟩ = some (.pointer (some ⟨L[q + 1].1, 0, none⟩)) := by
        rw [cell_of_row wv g _ _ _ _ hgv]
        exact delC_get (by omega) hlq hk HT.out
      have hcl0 : (wv.cell? ⟨g, q, none⟩).isSome = true := by
        rw [cell_of_row wv g _ _ _ _ hgv]
        have hsz := delC_size (cur := cur) (j := q + 1) hk (by omega) HCS.out hL
        rw [Array.getElem?_eq_getElem (by omega)]
        rfl
      obtain ⟨z0, hz0⟩ := Option.isSome_iff_exists.1 hcl0
      have hfz : wv.frozen? ⟨g, q, none⟩ = false := by simp [World.frozen?, hgv]
      have HC := hide (HCL.out wv hch L[q + 1] (List.getElem_mem hlq))
      have hfalse : (L[q + 1].1 == sb) = false := by rw [beq_eq_false_iff_ne]; exact HND.out (q + 1) hlq (by omega)
      rw [hfalse] at HC
      have hset := delC_set (cur := cur) (cr := cr) (k := k) (j := q + 1) (by omega) hlq hk HCS.out hL
      rw [Nat.add_sub_cancel] at hset
      have HSET := hide hset
      have HCH := hide hch
      have HGV := hide hgv
      generalize L[q + 1].1 = ab at hcell HC HSET
      clear hset hch hgv hcl0 hfalse
      go_wp2_with fail
      refine HC.out.mono ?_
      rintro e w' ⟨rfl, hw'⟩
      rw [hw']
      clear hw' w'
      go_wp2
      all_goals go_roundw
      case rel => exact ⟨q + 1, _, rfl, by go_num, by go_num, by omega, by omega, chg_set HCH.out rfl, by rw [blk_set HGV.out, HSET.out]⟩
      case measure => simp [intOf]; omega
    · have hqe : q + 1 = L.length := by omega
      have hcq : ¬ cr = q := by omega
      have hqc : q ≤ cr := by omega
      have hq1 : L.length - q = 1 := by omega
      have HCH := hide hch
      have HGV := hide hgv
      have hxl := delX_length hk
      have hsz := delC_size (cur := cur) (j := q + 1) hk (by omega) HCS.out hL
      have htk : (delC L k cur (q + 1)).toList.take q = delX L k := by
        unfold delC
        rw [Nat.add_sub_cancel]
        show (((delX L k).take q ++ cur.toList.drop q)).take q = _
        rw [List.take_left' (by rw [List.length_take]; omega), List.take_of_length_le (by omega)]
      obtain ⟨w5, hw5⟩ : ∃ w5, w5 = wv.setRow g ((delC L k cur (q + 1)).toList.take q ++ [Value.pointer none] ++ (delC L k cur (q + 1)).toList.drop (q + 1)).toArray := ⟨_, rfl⟩
      have hclr : (Builtin.clear_ #[74] 0 #[.slice (some ⟨g, q, none⟩) 1 (cr - q)]).run Tryz.prog wv = .ok (.tuple #[]) w5 := by
        rw [hw5]
        exact run_clear_pairs wv 74 0 118 (.pointer none) Tryz.underlying74 (fun _ => by kernel_rfl) [.pointer none] g q 1 (cr - q) (by simp [Builtin.zeroCells, Value.cells, Array.range]) (by omega) _ hgv (by rw [hsz]; simp; omega) (by simp [Value.oneCell'])
      have hg5 : w5.heap[g]? = some (.cells ((delC L k cur (q + 1)).toList.take q ++ [Value.pointer none] ++ (delC L k cur (q + 1)).toList.drop (q + 1)).toArray 118 (0, 0)) := by rw [hw5]; exact setRow_heap _ _ _ _ _ _ hgv
      have hc5 : Chg (fun j => j = g) w w5 := by rw [hw5]; exact hch.trans ((chg_setRow wv g _).mono fun j _ e => Or.inr e)
      have HROW : Hid (w5.ownsRow 0 118 1 (.slice (some ⟨g, 0, none⟩) (L.length - 1) cr) (L.length - 1) (opnCells (L.eraseIdx k))) := by
        refine ⟨by have : (opnCells (L.eraseIdx k)).length = L.length - 1 := hxl; omega, Or.inr ⟨g, cr, _, rfl, Nat.zero_le _, hg5, by omega, hm, ?_, ?_⟩⟩
        · have h2 : (delC L k cur (q + 1)).toList.length = cr := by rw [Array.length_toList]; exact hsz
          rw [List.size_toArray, List.length_append, List.length_append, htk, hxl, List.length_drop, h2]
          simp
          omega
        · rw [htk]
          show (delX L k ++ [Value.pointer none] ++ _).take ((L.length - 1) * 1) = delX L k
          rw [List.append_assoc, List.take_left' (by omega)]
      have HC5 := hide hc5
      have hqq : q = L.length - 1 := by omega
      have HQE := hide hqq
      clear hch hgv hqe hqq hw5 hg5 hc5 htk hsz hxl
      go_wp2
      go_ret
      exact ⟨by rw [← HQE.out]; rfl, HROW.out, HC5.out⟩
end Go.Proofs.YtiphkngfbpdeoaaGreatDoor
namespace Go.Proofs.YtiphkngfbpdeoaaGreatDoor
set_option linter.unusedVariables false
set_option linter.unusedSimpArgs false
open Go.RowKit
def EndM.opens (m : EndM) (v : Value) : EndM := { m with opn := v }
set_option maxRecDepth 100000 in
set_option maxHeartbeats 800000 in
theorem settle_no (eb sb : Nat) (st : StM) (w : World) (hs : StB w sb st) (hc : st.closed = false) :
    Calls Tryz.prog 75 #[.pointer (some ⟨eb, 22, none⟩), .pointer (some ⟨sb, 0, none⟩)] w fun e w' => e = .returned (.tuple #[]) ∧ Below w.heap.size w w' := by
  have hb : ∀ o, Below w.heap.size w (w.alloc o) := fun o => (Below.refl _ _).alloc (Nat.le_refl _) _
  have HC : Hid (∀ o, Calls Tryz.prog 63 #[.pointer (some ⟨sb, 0, none⟩)] (w.alloc o) fun e w' => e = .returned (.bool false) ∧ w' = w.alloc o) := fun o => by
    have := isClosed_any sb st _ (hs.below (hb o))
    rw [hc] at this
    exact this
  clear hs hb
  go_enter Tryz.func75, Tryz.ntmps75
  go_wp2_with fail
  refine (HC.out _).mono ?_
  rintro e w' ⟨rfl, hw'⟩
  rw [hw']
  clear hw' w'
  go_wp2
  exact bodyPost_end (results_none rfl _ _ _) rfl ⟨rfl, (Below.refl _ _).alloc (Nat.le_refl _) _⟩
structure Settled (w w' : World) (eb : Nat) (m : EndM) (L : List Str) (k : Nat) (v : Value) : Prop where
  en : EnB w' eb (m.opens v)
  row : w'.ownsRow 0 118 1 v (L.length - 1) (opnCells (L.eraseIdx k))
  same : v.ownBlock = m.opn.ownBlock
  chg : Chg (fun j => j = eb ∨ m.opn.ownBlock = some j) w w'
set_option maxRecDepth 100000 in
set_option maxHeartbeats 1600000 in
theorem settle_yes (eb : Nat) (m : EndM) (L : List Str) (k : Nat) (w : World) (h : EnB w eb m) (ho : OpenS w m.opn L) (hL : L.length ≤ 1048576) (hk : k < L.length) (hc : L[k].2.closed = true) (hnd : ∀ j (h : j < L.length), j ≠ k → L[j].1 ≠ L[k].1) :
    Calls Tryz.prog 75 #[.pointer (some ⟨eb, 22, none⟩), .pointer (some ⟨L[k].1, 0, none⟩)] w fun e w' => e = .returned (.tuple #[]) ∧ ∃ v, Settled w w' eb m L k v := by
  obtain ⟨hlen, hnil | ⟨g, cr, cur, hv, _, hg, hLc, hm, hcs, ht⟩⟩ := ho.row
  · omega
  rw [Nat.mul_one] at hcs ht
  have hst := ho.st
  have hlt := h.lt
  have hgl := lt_of_block hg
  obtain ⟨W, hW⟩ : ∃ W, W = w.alloc (.cells #[.pointer (some ⟨L[k].1, 0, none⟩)] 118) := ⟨_, rfl⟩
  have hbW : Below w.heap.size w W := by rw [hW]; exact (Below.refl _ _).alloc (Nat.le_refl _) _
  have hxb : W.heap[w.heap.size]? = some (.cells #[.pointer (some ⟨L[k].1, 0, none⟩)] 118 (0, 0)) := by rw [hW]; exact heap_alloc_new w _
  have hx : W.cell? ⟨w.heap.size, 0, none⟩ = some (.pointer (some ⟨L[k].1, 0, none⟩)) := by rw [cell_of_row W _ _ _ _ _ hxb]; rfl
  have hgW := kept_told hg hbW
  have hsk := (hst _ (List.getElem_mem hk)).below hbW
  have hic := isClosed_any L[k].1 L[k].2 W hsk
  rw [hc] at hic
  have hdel := deleteFunc_hit g cr k cur L w.heap.size L[k].1 L[k].2 W hgW hcs hLc hm ht (fun p hp => (hst p hp).below hbW) hsk (by omega) hx hL hk rfl hnd
  have c23 := (h.below hbW).c23
  rw [hv] at c23
  have hneg : eb ≠ g := fun e => by
    have h1 := h.blk
    rw [e, hg] at h1
    simp only [Option.some.injEq, Obj.cells.injEq] at h1
    exact absurd h1.2.1 (by decide)
  have HIC := hide hic
  have HDEL := hide hdel
  have HE := hide (h.below hbW)
  have HV := hide hv
  have HBW := hide hbW
  have HNEG := hide hneg
  have HW := hide hW
  generalize L[k].1 = sb at HIC HDEL hx HW ⊢
  clear h ho hlen hv hg hLc hm hcs ht hst hW hbW hxb hgW hsk hic hdel hc hnd hneg
  go_enter Tryz.func75, Tryz.ntmps75
  go_upto_region 1 with fail
  rw [← HW.out]
  go_wp2_with fail
  refine HIC.out.mono ?_
  rintro e w' ⟨rfl, hw'⟩
  rw [hw']
  clear hw' w'
  go_wp2_with fail
  refine HDEL.out.mono ?_
  rintro e w1 ⟨rfl, hrow, hch⟩
  have he1 : EnB w1 eb m := HE.out.chg hch HNEG.out
  have d23 := he1.c23
  rw [HV.out] at d23
  have f23 := he1.fr 23
  have HE1 := hide he1
  have HROW := hide hrow
  have HCH := hide hch
  clear he1 hrow hch
  go_wp2
  refine bodyPost_end (results_none rfl _ _ _) rfl ⟨rfl, _, ⟨EnB.of (blk_set HE1.out.blk) rfl, owns_chg HROW.out (chg_set (S := fun j => j = eb) (Chg.refl _ _) rfl) (fun j hj e => ?_), by rw [HV.out]; rfl, chg_set (((Chg.of_below HBW.out).trans (HCH.out.mono fun j _ e => Or.inr (Or.inr (by rw [HV.out, e]; rfl))))) (Or.inl rfl)⟩⟩
  subst e
  exact owns_ne HROW.out HE1.out.blk (by decide) hj
end Go.Proofs.YtiphkngfbpdeoaaGreatDoor
namespace Go.Proofs.YtiphkngfbpdeoaaGreatDoor
set_option linter.unusedVariables false
set_option linter.unusedSimpArgs false
open Go.RowKit
def knownE (p : Str) : Value × Value := (.int .i64 p.2.number, .pointer (some ⟨p.1, 0, none⟩))
structure KnownS (w : World) (mb : Nat) (K : List Str) : Prop where
  blk : ∃ es clock, w.heap[mb]? = some (.map es clock) ∧ es.toList.map (fun e => (e.key, e.val)) = K.map knownE ∧ (∀ e ∈ es.toList, e.born < clock)
  st : ∀ p ∈ K, StB w p.1 p.2
theorem KnownS.lt {w : World} {mb : Nat} {K : List Str} (h : KnownS w mb K) : mb < w.heap.size := by
  obtain ⟨es, clock, hb, _⟩ := h.blk
  exact (Array.getElem?_eq_some_iff.1 hb).1
theorem KnownS.chg {S : Nat → Prop} {w w' : World} {mb : Nat} {K : List Str} (h : KnownS w mb K) (hc : Chg S w w') (h1 : ¬ S mb) (h2 : ∀ p ∈ K, ¬ S p.1) : KnownS w' mb K := by
  have hlt := h.lt
  obtain ⟨es, clock, hb, he⟩ := h.blk
  exact ⟨⟨es, clock, by rw [hc.block mb hlt h1]; exact hb, he⟩, fun p hp => (h.st p hp).chg hc (h2 p hp)⟩
theorem KnownS.below {w w' : World} {mb : Nat} {K : List Str} (h : KnownS w mb K) (hb : Below w.heap.size w w') : KnownS w' mb K := h.chg (Chg.of_below (S := fun _ => False) hb) id (fun _ _ => id)
def findK (K : List Str) (n : Int) : Option Str := K.find? fun p => p.2.number == n
theorem findK_mem {K : List Str} {n : Int} {p : Str} (h : findK K n = some p) : p ∈ K ∧ p.2.number = n := ⟨List.mem_of_find?_eq_some h, by have := List.find?_some h; simpa using this⟩
theorem find_now (K : List Str) (n : Int) : ∀ (l : List MapEntry) (i : Nat), l.map (fun e => (e.key, e.val)) = K.map knownE → ∃ r, Instr.findNow (.int .i64) (.int .i64 n) l i = some r ∧ r.map (·.2) = (findK K n).map fun p => .pointer (some ⟨p.1, 0, none⟩) := by
  induction K with
  | nil =>
    intro l i h
    have : l = [] := by simpa using h
    subst this
    exact ⟨none, rfl, rfl⟩
  | cons p r ih =>
    intro l i h
    cases l with
    | nil => simp at h
    | cons e es =>
      simp only [List.map_cons, List.cons.injEq, knownE, Prod.mk.injEq] at h
      obtain ⟨⟨hk, hv⟩, ht⟩ := h
      unfold Instr.findNow
      rw [hk]
      simp only [Instr.sameNow, if_true, findK, List.find?_cons]
      by_cases hn : p.2.number = n
      · have e1 : (n == p.2.number) = true := by simp [hn]
        have e2 : (p.2.number == n) = true := by simp [hn]
        rw [e1, e2]
        exact ⟨_, rfl, by simp [hv]⟩
      · have e1 : (n == p.2.number) = false := by rw [beq_eq_false_iff_ne]; exact fun e => hn e.symm
        have e2 : (p.2.number == n) = false := by rw [beq_eq_false_iff_ne]; exact hn
        rw [e1, e2]
        exact ih es (i + 1) ht
theorem Tryz.zero118 : (Tryz.prog.info? 118).map (fun i => i.zero) = some (some (.pointer none)) := by kernel_rfl
theorem KnownS.lookup {w : World} {mb : Nat} {K : List Str} (h : KnownS w mb K) (n : Int) : (Instr.lookup 73 (.map (some mb)) (.int .i64 n) false).run Tryz.prog w = .ok (ptrO ((findK K n).map (·.1))) w := by
  obtain ⟨es, clock, hb, he, _⟩ := h.blk
  obtain ⟨r, hr, hv⟩ := find_now K n es.toList 0 he
  have hz : (zeroValue 118).run Tryz.prog w = .ok (.pointer none) w := by
    have := Tryz.zero118
    cases hi : Tryz.prog.info? 118 with
    | none => rw [hi] at this; simp at this
    | some i =>
      rw [hi] at this
      simp only [Option.map_some, Option.some.injEq] at this
      simp [zeroValue, typeInfo, Sem.run_bind, run_program, Result.andThen, hi, this]
  have hck : (Instr.checkKey es.isEmpty 10000 3 (.int .i64 n)).run Tryz.prog w = .ok () w := MapKept.run_checkKey (d := .int .i64) (k := .int .i64 n) Tryz.underlying3 (show IntKind.i64 = IntKind.i64 from rfl) _ _
  have hfk : (Instr.findKey 3 (.int .i64 n) es.toList).run Tryz.prog w = .ok r w := MapKept.run_findKey (d := .int .i64) Tryz.underlying3 hr
  cases r with
  | none =>
    have hf : findK K n = none := by
      cases hq : findK K n with
      | none => rfl
      | some p => rw [hq] at hv; simp at hv
    rw [hf]
    simp [Instr.lookup, run_underlying Tryz.underlying73, MapKept.run_getObj_map hb, hck, hfk, hz, Result.andThen, ptrO]
  | some q =>
    cases hq : findK K n with
    | none => rw [hq] at hv; simp at hv
    | some p =>
      rw [hq] at hv
      simp only [Option.map_some, Option.some.injEq] at hv
      simp [Instr.lookup, run_underlying Tryz.underlying73, MapKept.run_getObj_map hb, hck, hfk, Result.andThen, ptrO, hv]
set_option maxRecDepth 100000 in
set_option maxHeartbeats 800000 in
theorem announced_any (eb mb : Nat) (m : EndM) (K : List Str) (n : Int) (w : World) (h : EnB w eb m) (hm : m.known = .map (some mb)) (hK : KnownS w mb K) :
    Calls Tryz.prog 118 #[.pointer (some ⟨eb, 0, none⟩), .int .i64 n] w fun e w' => w' = w ∧ match findK K n with
      | some p => if p.2.announced then e = .returned (.pointer (some ⟨p.1, 0, none⟩)) else e = .panicked [{ v := .iface 36 (.int .i64 11), recovered := false }]
      | none => e = .panicked [{ v := .iface 36 (.int .i64 11), recovered := false }] := by
  have c22 := h.c22
  rw [hm] at c22
  have hlk := hK.lookup n
  cases hf : findK K n with
  | none =>
    rw [hf] at hlk
    simp only [Option.map_none, ptrO] at hlk
    clear h hm hK hf
    go_enter Tryz.func118, Tryz.ntmps118
    go_wp2
    all_goals exact ⟨rfl, rfl, rfl⟩
  | some p =>
    rw [hf] at hlk
    have s7 := (hK.st p (findK_mem hf).1).c7
    simp only [Option.map_some, ptrO] at hlk
    clear h hm hK hf
    cases ha : p.2.announced with
    | false =>
      rw [ha] at s7
      go_enter Tryz.func118, Tryz.ntmps118
      go_wp2
      all_goals exact ⟨rfl, rfl, rfl⟩
    | true =>
      rw [ha] at s7
      go_enter Tryz.func118, Tryz.ntmps118
      go_wp2
      go_ret
      exact ⟨rfl, rfl⟩
def EndM.wcode (m : EndM) (o : Option Str) : Int := if m.fault ≠ 0 then 7 else match o with
  | none => 4
  | some p => if p.2.reset ≠ 0 then 6 else if p.2.last || p.2.shut then 5 else 0
set_option maxRecDepth 100000 in
set_option maxHeartbeats 1600000 in
theorem writable_any (eb mb : Nat) (m : EndM) (K : List Str) (n : Int) (w : World) (h : EnB w eb m) (hm : m.known = .map (some mb)) (hK : KnownS w mb K) :
    Calls Tryz.prog 62 #[.pointer (some ⟨eb, 0, none⟩), .int .i64 n] w fun e w' => w' = w ∧ e = .returned (.tuple #[if m.wcode (findK K n) = 0 then ptrO ((findK K n).map (·.1)) else .pointer none, .int .i64 (m.wcode (findK K n))]) := by
  have c22 := h.c22
  rw [hm] at c22
  have hlk := hK.lookup n
  have HD := hide (isDead_any eb m w h)
  have HC : Hid (∀ p, findK K n = some p → (Calls Tryz.prog 48 #[.pointer (some ⟨p.1, 0, none⟩)] w fun e w' => e = .returned (.bool (!(p.2.reset == 0))) ∧ w' = w) ∧ StB w p.1 p.2) := fun p hp => ⟨isReset_any p.1 p.2 w (hK.st p (findK_mem hp).1), hK.st p (findK_mem hp).1⟩
  clear h hm hK
  unfold EndM.wcode
  by_cases hf : m.fault = 0
  · have hb : (m.fault == 0) = true := by simp [hf]
    rw [hb] at HD
    cases hq : findK K n with
    | none =>
      rw [hq] at hlk
      simp only [Option.map_none, ptrO] at hlk
      clear HC
      go_enter Tryz.func62, Tryz.ntmps62
      go_wp2_with fail
      refine HD.out.mono ?_
      rintro e w' ⟨rfl, hw'⟩
      rw [hw']
      clear hw' w'
      go_wp2
      go_ret2
      exact ⟨rfl, by simp [hf]⟩
    | some p =>
      rw [hq] at hlk
      simp only [Option.map_some, ptrO] at hlk
      have HR := hide (HC.out p hq).1
      have s5 := (HC.out p hq).2.c5
      have s6 := (HC.out p hq).2.c6
      clear HC hq
      obtain ⟨sb, st⟩ := p
      simp only at hlk HR s5 s6
      obtain ⟨rb, hrb⟩ : ∃ rb, rb = (st.reset == 0) := ⟨_, rfl⟩
      rw [← hrb] at HR
      have hr0 : (st.reset = 0) = (rb = true) := by rw [hrb]; simp
      clear hrb
      cases rb <;> cases hl : st.last <;> cases hs : st.shut <;> rw [hl] at s5 <;> rw [hs] at s6
      all_goals (go_enter Tryz.func62, Tryz.ntmps62; go_wp2_with fail; refine HD.out.mono ?_; rintro e w' ⟨rfl, hw'⟩; rw [hw']; clear hw' w'; go_wp2_with fail; refine HR.out.mono ?_; rintro e w' ⟨rfl, hw'⟩; rw [hw']; clear hw' w'; go_wp2)
      all_goals go_ret2
      all_goals exact ⟨rfl, by simp [hf, hr0, hl, hs, ptrO]⟩
  · have hb : (m.fault == 0) = false := by rw [beq_eq_false_iff_ne]; exact hf
    rw [hb] at HD
    generalize ptrO ((findK K n).map (·.1)) = pv at hlk
    clear HC
    go_enter Tryz.func62, Tryz.ntmps62
    go_wp2_with fail
    refine HD.out.mono ?_
    rintro e w' ⟨rfl, hw'⟩
    rw [hw']
    clear hw' w'
    go_wp2
    go_ret2
    exact ⟨rfl, by simp [hf]⟩
end Go.Proofs.YtiphkngfbpdeoaaGreatDoor
namespace Go.Proofs.YtiphkngfbpdeoaaGreatDoor
set_option linter.unusedVariables false
set_option linter.unusedSimpArgs false
open Go.RowKit
def StM.shutd (s : StM) : StM := { s with shut := true }
def Closed (w w' : World) (m : EndM) (K : List Str) (n : Int) (e : Ending) : Prop := e = .returned (.int .i64 (m.wcode (findK K n))) ∧ match findK K n with
  | none => w' = w
  | some p => if m.wcode (some p) = 0 then StB w' p.1 p.2.shutd ∧ Chg (fun j => j = p.1) w w' else w' = w
theorem wcode_none (m : EndM) : m.wcode none ≠ 0 := by unfold EndM.wcode; split <;> simp
set_option maxRecDepth 100000 in
set_option maxHeartbeats 800000 in
theorem eClose_any (eb mb : Nat) (m : EndM) (K : List Str) (n : Int) (w : World) (h : EnB w eb m) (hm : m.known = .map (some mb)) (hK : KnownS w mb K) :
    Calls Tryz.prog 51 #[.pointer (some ⟨eb, 0, none⟩), .int .i64 n] w fun e w' => Closed w w' m K n e := by
  have hw := writable_any eb mb m K n w h hm hK
  by_cases hc : m.wcode (findK K n) = 0
  · unfold Closed
    cases hf : findK K n with
    | none => rw [hf] at hc; exact absurd hc (wcode_none m)
    | some p =>
      rw [hf] at hc hw
      have hs := hK.st p (findK_mem hf).1
      have s6 := hs.c6
      have f6 := hs.fr 6
      rw [hc, if_pos rfl] at hw
      simp only [Option.map_some, ptrO] at hw
      simp only [hc, if_true]
      have HW := hide hw
      have HS := hide hs
      clear h hm hK hf hw hs hc
      go_enter Tryz.func51, Tryz.ntmps51
      go_wp2_with fail
      refine HW.out.mono ?_
      rintro e w' ⟨hw', rfl⟩
      rw [hw']
      clear hw' w'
      go_wp2
      go_ret
      exact ⟨rfl, StB.of (blk_set HS.out.blk) rfl, by ((repeat (refine chg_set ?_ ?hs; (case hs => first | rfl | assumption | exact Or.inl rfl | exact Or.inr rfl))); first | exact Chg.refl _ _ | exact chg_drewN)⟩
  · rw [if_neg hc] at hw
    obtain ⟨c, hcc⟩ : ∃ c, c = m.wcode (findK K n) := ⟨_, rfl⟩
    have HP : Hid (∀ e, e = .returned (.int .i64 c) → Closed w w m K n e) := fun e he => by
      refine ⟨by rw [he, hcc], ?_⟩
      cases hf : findK K n with
      | none => rfl
      | some p => rw [hf] at hc; simp only [if_neg hc]
    rw [← hcc] at hw hc
    have HW := hide hw
    have hcb : (c == 0) = false := by rw [beq_eq_false_iff_ne]; exact hc
    clear h hm hK hw hcc hc
    go_enter Tryz.func51, Tryz.ntmps51
    go_wp2_with fail
    refine HW.out.mono ?_
    rintro e w' ⟨hw', rfl⟩
    rw [hw']
    clear hw' w'
    go_wp2
    all_goals go_ret
    all_goals exact HP.out _ rfl
set_option maxHeartbeats 400000 in
theorem xClose_any (eb mb : Nat) (m : EndM) (K : List Str) (n : Int) (w : World) (h : EnB w eb m) (hm : m.known = .map (some mb)) (hK : KnownS w mb K) :
    Calls Tryz.prog 32 #[.pointer (some ⟨eb, 0, none⟩), .int .i64 n] w fun e w' => Closed w w' m K n e := by
  have HC := hide (eClose_any eb mb m K n w h hm hK)
  clear h hm hK
  go_enter Tryz.func32, Tryz.ntmps32
  go_wp2_with fail
  refine HC.out.mono ?_
  rintro e w' ⟨rfl, h⟩
  have H := hide h
  clear h
  go_wp2
  go_ret
  exact ⟨rfl, H.out⟩
set_option maxHeartbeats 400000 in
theorem eFault_any (eb : Nat) (m : EndM) (w : World) (h : EnB w eb m) : Calls Tryz.prog 27 #[.pointer (some ⟨eb, 0, none⟩)] w fun e w' => e = .returned (.int .i64 m.fault) ∧ w' = w := by
  have c1 := h.c1
  clear h
  go_enter Tryz.func27, Tryz.ntmps27
  go_wp2
  go_ret
  exact ⟨rfl, rfl⟩
set_option maxHeartbeats 400000 in
theorem xFault_any (eb : Nat) (m : EndM) (w : World) (h : EnB w eb m) : Calls Tryz.prog 36 #[.pointer (some ⟨eb, 0, none⟩)] w fun e w' => e = .returned (.int .i64 m.fault) ∧ w' = w := by
  have HC := hide (eFault_any eb m w h)
  clear h
  go_enter Tryz.func36, Tryz.ntmps36
  go_wp2_with fail
  refine HC.out.mono ?_
  rintro e w' ⟨rfl, h⟩
  rw [h]
  clear h
  go_wp2
  go_ret
  exact ⟨rfl, rfl⟩
end Go.Proofs.YtiphkngfbpdeoaaGreatDoor
namespace Go.Proofs.YtiphkngfbpdeoaaGreatDoor
open Go.RowKit
structure RecB where
  l : Value
  a : Value
  b : Value
  c : Value
  n : Nat
  len : Nat
def recCells : List RecB → List Value
  | [] => []
  | r :: t => r.l :: r.a :: r.b :: r.c :: .int .i64 r.n :: recCells t
theorem recCells_length (rs : List RecB) : (recCells rs).length = rs.length * 5 := by
  induction rs with
  | nil => rfl
  | cons p r ih => simp [recCells, ih]; omega
theorem recCells_append (a b : List RecB) : recCells (a ++ b) = recCells a ++ recCells b := by
  induction a with
  | nil => rfl
  | cons p r ih => simp [recCells, ih]
structure FamB (w : World) (r : RecB) : Prop where
  l : w.ownsRow 0 5 1 r.l r.len ((marks r.n r.len).map B)
  a : w.ownsRow 0 5 1 r.a (r.len + 1) ((marks r.n (r.len + 1)).map B)
  b : w.ownsRow 0 5 1 r.b (r.len + 2) ((marks r.n (r.len + 2)).map B)
  c : w.ownsRow 0 5 1 r.c (r.len + 3) ((marks r.n (r.len + 3)).map B)
theorem FamB.chg {S : Nat → Prop} {w w' : World} {r : RecB} (h : FamB w r) (hc : Chg S w w') (hs : ∀ v ∈ [r.l, r.a, r.b, r.c], ∀ k, v.ownBlock = some k → ¬ S k) : FamB w' r :=
  ⟨owns_chg h.l hc (hs _ (by simp)), owns_chg h.a hc (hs _ (by simp)), owns_chg h.b hc (hs _ (by simp)), owns_chg h.c hc (hs _ (by simp))⟩
theorem lists_block {w : World} {b : Nat} {v0 v1 v2 v3 v4 : Value} {t : TypeId} (h : w.heap[b]? = some (.cells #[v0, v1, v2, v3, v4] t (0, 0))) :
    w.cell? ⟨b, 0, none⟩ = some v0 ∧ w.cell? ⟨b, 1, none⟩ = some v1 ∧ w.cell? ⟨b, 2, none⟩ = some v2 ∧ w.cell? ⟨b, 3, none⟩ = some v3 ∧ w.cell? ⟨b, 4, none⟩ = some v4 ∧ ∀ o, w.frozen? ⟨b, o, none⟩ = false := by
  refine ⟨?_, ?_, ?_, ?_, ?_, fun o => by simp [World.frozen?, h]⟩ <;> rw [cell_of_row w b _ _ _ _ h] <;> rfl
def markK (n k : Nat) (xs : List UInt8) : List UInt8 := marks n k ++ xs.drop k
theorem markK_succ {n k : Nat} {xs : List UInt8} (h : k < xs.length) : (markK n k xs).set k (mk n k) = markK n (k + 1) xs := by
  unfold markK
  rw [set_next _ (marks_length n k) h, marks_succ]
theorem markK_all {n : Nat} {xs : List UInt8} : markK n xs.length xs = marks n xs.length := by simp [markK]
theorem take_pre {M A R : List Value} {n k : Nat} (hM : M.length = n * 1) (hA : A.length = k) : (M ++ (A ++ R)).take ((n + k) * 1) = M ++ A := by
  rw [← List.append_assoc, List.take_left' (by simp; omega)]
theorem marks_two (n a : Nat) : marks n (a + 2) = marks n a ++ [mk n a, mk n (a + 1)] := by
  rw [marks_succ, marks_succ]; simp
theorem marks_three (n a : Nat) : marks n (a + 3) = marks n a ++ [mk n a, mk n (a + 1), mk n (a + 2)] := by
  rw [marks_succ, marks_succ, marks_succ]; simp
end Go.Proofs.YtiphkngfbpdeoaaGreatDoor
namespace Go.Proofs.YtiphkngfbpdeoaaGreatDoor
open Go.RowKit
def fillF (m : Int) : Nat → List Value
  | 0 => []
  | k + 1 => .int .i64 m :: .int .i64 m :: .int .i64 m :: .slice none 0 0 :: fillF m k
theorem fillF_length (m : Int) (k : Nat) : (fillF m k).length = k * 4 := by
  induction k with
  | zero => rfl
  | succ k ih => simp [fillF, ih]; omega
theorem fillF_get (m : Int) {n k : Nat} (h : k < n) : (fillF m n)[k * 4]? = some (.int .i64 m) ∧ (fillF m n)[k * 4 + 1]? = some (.int .i64 m) ∧ (fillF m n)[k * 4 + 2]? = some (.int .i64 m) ∧ (fillF m n)[k * 4 + 3]? = some (.slice none 0 0) := by
  induction n generalizing k with
  | zero => omega
  | succ n ih =>
    cases k with
    | zero => simp [fillF]
    | succ k =>
      have := ih (k := k) (by omega)
      rw [Nat.succ_mul]
      simpa [fillF, Nat.add_assoc] using this
theorem fillF_add (m : Int) (a b : Nat) : fillF m (a + b) = fillF m a ++ fillF m b := by
  induction a with
  | zero => simp [fillF]
  | succ a ih => rw [Nat.succ_add]; simp [fillF, ih]
end Go.Proofs.YtiphkngfbpdeoaaGreatDoor
namespace Go.Proofs.YtiphkngfbpdeoaaGreatDoor
open Go.RowKit
structure FRec where
  l : Value
  a : Value
  b : Value
  c : Value
  m : Int
  len : Nat
def frCells : List FRec → List Value
  | [] => []
  | r :: t => r.l :: r.a :: r.b :: r.c :: .int .i64 r.m :: frCells t
theorem frCells_length (rs : List FRec) : (frCells rs).length = rs.length * 5 := by
  induction rs with
  | nil => rfl
  | cons p r ih => simp [frCells, ih]; omega
theorem frCells_append (a b : List FRec) : frCells (a ++ b) = frCells a ++ frCells b := by
  induction a with
  | nil => rfl
  | cons p r ih => simp [frCells, ih]
structure FamF (w : World) (r : FRec) : Prop where
  l : w.ownsRow 0 105 4 r.l r.len (fillF r.m r.len)
  a : w.ownsRow 0 105 4 r.a (r.len + 1) (fillF r.m (r.len + 1))
  b : w.ownsRow 0 105 4 r.b (r.len + 2) (fillF r.m (r.len + 2))
  c : w.ownsRow 0 105 4 r.c (r.len + 3) (fillF r.m (r.len + 3))
theorem FamF.chg {S : Nat → Prop} {w w' : World} {r : FRec} (h : FamF w r) (hc : Chg S w w') (hs : ∀ v ∈ [r.l, r.a, r.b, r.c], ∀ k, v.ownBlock = some k → ¬ S k) : FamF w' r :=
  ⟨owns_chg h.l hc (hs _ (by simp)), owns_chg h.a hc (hs _ (by simp)), owns_chg h.b hc (hs _ (by simp)), owns_chg h.c hc (hs _ (by simp))⟩
theorem recCells_get {rs : List RecB} {k : Nat} (h : k < rs.length) : (recCells rs)[k * 5]? = some rs[k].l ∧ (recCells rs)[k * 5 + 1]? = some rs[k].a ∧ (recCells rs)[k * 5 + 2]? = some rs[k].b ∧ (recCells rs)[k * 5 + 3]? = some rs[k].c ∧ (recCells rs)[k * 5 + 4]? = some (.int .i64 rs[k].n) := by
  induction rs generalizing k with
  | nil => simp at h
  | cons p r ih =>
    cases k with
    | zero => simp [recCells]
    | succ k =>
      simp only [List.length_cons] at h
      have := ih (k := k) (by omega)
      rw [Nat.succ_mul]
      simpa [recCells, Nat.add_assoc] using this
theorem frCells_get {rs : List FRec} {k : Nat} (h : k < rs.length) : (frCells rs)[k * 5]? = some rs[k].l ∧ (frCells rs)[k * 5 + 1]? = some rs[k].a ∧ (frCells rs)[k * 5 + 2]? = some rs[k].b ∧ (frCells rs)[k * 5 + 3]? = some rs[k].c ∧ (frCells rs)[k * 5 + 4]? = some (.int .i64 rs[k].m) := by
  induction rs generalizing k with
  | nil => simp at h
  | cons p r ih =>
    cases k with
    | zero => simp [frCells]
    | succ k =>
      simp only [List.length_cons] at h
      have := ih (k := k) (by omega)
      rw [Nat.succ_mul]
      simpa [frCells, Nat.add_assoc] using this
theorem told_kept {w w' : World} {b : Nat} {cs : Array Value} {t : TypeId} {fr : Nat × Nat} (h : w.heap[b]? = some (.cells cs t fr)) (hb : Below w.heap.size w w') : w'.heap[b]? = some (.cells cs t fr) := by
  rw [hb.block b (lt_of_block h)]; exact h
theorem bytes_of_marks {w : World} {v : Value} {n k : Nat} (h : w.ownsRow 0 5 1 v k ((marks n k).map B)) : BytesIn w v (marks n k) := bytesIn_of_owns h (marks_length n k).symm
end Go.Proofs.YtiphkngfbpdeoaaGreatDoor
namespace Go.Proofs.YtiphkngfbpdeoaaGreatDoor
open Go.RowKit
structure FsIn (w : World) (sa : Option Addr) (qs : List (Fr × Value)) : Prop where
  cell : ∀ k (h : k < qs.length), ∃ fb off, sa = some ⟨fb, off, none⟩ ∧ fb < w.heap.size ∧ w.cell? ⟨fb, off + k * 4, none⟩ = some (.int .i64 qs[k].1.kind) ∧ w.cell? ⟨fb, off + k * 4 + 1, none⟩ = some (.int .i64 qs[k].1.flags) ∧
    w.cell? ⟨fb, off + k * 4 + 2, none⟩ = some (.int .i64 qs[k].1.stream) ∧ w.cell? ⟨fb, off + k * 4 + 3, none⟩ = some qs[k].2
  body : ∀ q ∈ qs, BytesA w q.2 q.1.body
  len : ∀ q ∈ qs, q.1.body.length ≤ 4194304
theorem FsIn.below {w w' : World} {sa : Option Addr} {qs : List (Fr × Value)} (h : FsIn w sa qs) (hb : Below w.heap.size w w') : FsIn w' sa qs := by
  refine ⟨fun k hk => ?_, fun q hq => (h.body q hq).chg (Chg.of_below hb), h.len⟩
  obtain ⟨fb, off, hs, hl, a, b, c, d⟩ := h.cell k hk
  exact ⟨fb, off, hs, Nat.lt_of_lt_of_le hl hb.size, (hb.cell (p := ⟨fb, off + k * 4, none⟩) hl).trans a, (hb.cell (p := ⟨fb, off + k * 4 + 1, none⟩) hl).trans b, (hb.cell (p := ⟨fb, off + k * 4 + 2, none⟩) hl).trans c, (hb.cell (p := ⟨fb, off + k * 4 + 3, none⟩) hl).trans d⟩
abbrev lw (gF gH gC gS rv kv fv : Value) : Array Value := #[gF, gH, gC, gS, rv, .slice none 0 0, .slice none 0 0, .slice none 0 0, .slice none 0 0, kv, .slice none 0 0, .slice none 0 0, fv, .slice none 0 0]
theorem below_of_chg {S : Nat → Prop} {W0 w w' : World} (h : Below W0.heap.size W0 w) (hc : Chg S w w') (hs : ∀ j, S j → W0.heap.size ≤ j) : Below W0.heap.size W0 w' :=
  ⟨hc.os.trans h.os, hc.tape.trans h.tape, hc.output.trans h.output, Nat.le_trans h.size hc.size, fun k hk => by
    rw [hc.block k (Nat.lt_of_lt_of_le hk h.size) (fun e => absurd (hs k e) (Nat.not_le.2 hk))]; exact h.block k hk⟩
end Go.Proofs.YtiphkngfbpdeoaaGreatDoor
