import Derived.Test.YtdccldbefdfppaaGreatDoorQGai
import Derived.Test.YtdccldbefdfppaaGreatDoorQGad
import Derived.Test.YtdccldbefdfppaaGreatDoorQGag
import Derived.MapKept
set_option linter.unusedVariables false
set_option linter.unusedSimpArgs false
/-
  slices.DeleteFunc over streams: the one of block sb goes.
-/
namespace Go.Proofs.YtdccldbefdfppaaGreatDoor
set_option linter.unusedVariables false
set_option linter.unusedSimpArgs false
open Go.RowKit

theorem dset_next {A xs : List Value} {i : Nat} (x : Value) (hA : A.length = i) (h : i < xs.length) : (A ++ xs.drop i).set i x = (A ++ [x]) ++ xs.drop (i + 1) := by
  rw [List.set_append_right _ _ (by omega), hA, Nat.sub_self, List.drop_eq_getElem_cons h, List.set_cons_zero, List.append_assoc]
  rfl
/-- The streams but the k-th. -/
def delX (L : List Str) (k : Nat) : List Value := opnCells (L.eraseIdx k)
theorem delX_length {L : List Str} {k : Nat} (h : k < L.length) : (delX L k).length = L.length - 1 := by unfold delX; rw [opnCells_length, List.length_eraseIdx, if_pos h]
theorem delX_get {L : List Str} {k j : Nat} (h1 : k < j) (h2 : j < L.length) : (delX L k)[j - 1]? = some (.pointer (some ⟨L[j].1, 0, none⟩)) := by
  unfold delX opnCells
  rw [List.getElem?_map, List.getElem?_eraseIdx, if_neg (by omega), Nat.sub_add_cancel (by omega), List.getElem?_eq_getElem h2]
  rfl
/-- After j: the row's cells. -/
def delC (L : List Str) (k : Nat) (cur : Array Value) (j : Nat) : Array Value := ((delX L k).take (j - 1) ++ cur.toList.drop (j - 1)).toArray
theorem delC_size {L : List Str} {k j cr : Nat} {cur : Array Value} (hk : k < L.length) (hj : j ≤ L.length) (hc : cur.size = cr) (hL : L.length ≤ cr) : (delC L k cur j).size = cr := by
  unfold delC
  have hcl : cur.toList.length = cr := by rw [Array.length_toList]; exact hc
  rw [List.size_toArray, List.length_append, List.length_take, List.length_drop, delX_length hk, hcl]
  omega
theorem delC_start {L : List Str} {k cr : Nat} {cur : Array Value} (hk : k < L.length) (ht : cur.toList.take L.length = opnCells L) : delC L k cur (k + 1) = cur := by
  unfold delC
  have h1 : (delX L k).take (k + 1 - 1) = cur.toList.take k := by
    unfold delX opnCells
    rw [Nat.add_sub_cancel, ← List.map_take, List.eraseIdx_eq_take_drop_succ, List.take_left' (by rw [List.length_take]; omega), List.map_take]
    have h2 : (L.map fun p => Value.pointer (some ⟨p.1, 0, none⟩)) = opnCells L := rfl
    rw [h2, ← ht, List.take_take, Nat.min_eq_left (by omega)]
  rw [h1, Nat.add_sub_cancel, List.take_append_drop]
theorem delC_get {L : List Str} {k j : Nat} {cur : Array Value} (hk : k < j) (hj : j < L.length) (hkl : k < L.length) (ht : cur.toList.take L.length = opnCells L) : (delC L k cur j)[j]? = some (.pointer (some ⟨L[j].1, 0, none⟩)) := by
  unfold delC
  have hcur : cur.toList[j]? = some (.pointer (some ⟨L[j].1, 0, none⟩)) := by
    have : (cur.toList.take L.length)[j]? = (opnCells L)[j]? := by rw [ht]
    rw [List.getElem?_take, if_pos hj] at this
    rw [this]
    simp [opnCells, hj]
  rw [List.getElem?_toArray, List.getElem?_append_right (by rw [List.length_take, delX_length hkl]; omega), List.length_take, delX_length hkl, List.getElem?_drop, Nat.min_eq_left (by omega), show j - 1 + (j - (j - 1)) = j by omega]
  exact hcur
theorem delC_set {L : List Str} {k j cr : Nat} {cur : Array Value} (hk : k < j) (hj : j < L.length) (hkl : k < L.length) (hc : cur.size = cr) (hL : L.length ≤ cr) : (delC L k cur j).setIfInBounds (j - 1) (.pointer (some ⟨L[j].1, 0, none⟩)) = delC L k cur (j + 1) := by
  unfold delC
  rw [List.setIfInBounds_toArray, dset_next _ (by rw [List.length_take, delX_length hkl]; omega) (by rw [Array.length_toList, hc]; omega)]
  rw [Nat.add_sub_cancel]
  have e : (delX L k).take (j - 1) ++ [.pointer (some ⟨L[j].1, 0, none⟩)] = (delX L k).take j := by
    have h := delX_get hk hj
    obtain ⟨h1, h2⟩ := List.getElem?_eq_some_iff.1 h
    have := List.take_succ_eq_append_getElem h1
    rw [Nat.sub_add_cancel (by omega)] at this
    rw [this, h2]
  rw [e, Nat.sub_add_cancel (by omega)]

set_option maxRecDepth 100000 in
set_option maxHeartbeats 3200000 in
theorem deleteFunc_hit (g cr k : Nat) (cur : Array Value) (L : List Str) (bx sb : Nat) (s2 : StM) (w : World) (hg : w.heap[g]? = some (.cells cur 124 (0, 0))) (hcs : cur.size = cr) (hL : L.length ≤ cr) (hm : cr ≤ maxLen) (ht : cur.toList.take L.length = opnCells L) (hst : ∀ p ∈ L, StB w p.1 p.2) (hs2 : StB w sb s2) (hb : bx ≠ g) (hx : w.cell? ⟨bx, 0, none⟩ = some (.pointer (some ⟨sb, 0, none⟩))) (hL2 : L.length ≤ 1048576) (hk : k < L.length) (hks : L[k].1 = sb) (hnd : ∀ j (h : j < L.length), j ≠ k → L[j].1 ≠ sb) :
    Calls Tryz.prog 155 #[.slice (some ⟨g, 0, none⟩) L.length cr, .func (.func 156) #[] #[.pointer (some ⟨bx, 0, none⟩)]] w fun e w' => e = .returned (.slice (some ⟨g, 0, none⟩) (L.length - 1) cr) ∧ w'.ownsRow 0 124 1 (.slice (some ⟨g, 0, none⟩) (L.length - 1) cr) (L.length - 1) (opnCells (L.eraseIdx k)) ∧ Chg (fun j => j = g) w w' := by
  have hidx : idxS sb L 0 = (k : Int) := by
    unfold idxS
    rw [List.drop_zero]
    have : L.findIdx? (fun p => p.1 == sb) = some k := by
      rw [List.findIdx?_eq_some_iff_getElem]
      refine ⟨hk, by simp [hks], fun j hj => ?_⟩
      have := hnd j (by omega) (by omega)
      simpa using this
    rw [this]
    simp
  have hrow : w.ownsRow 0 124 1 (.slice (some ⟨g, 0, none⟩) L.length cr) L.length (opnCells L) := ⟨by rw [opnCells_length]; omega, Or.inr ⟨g, cr, cur, rfl, Nat.zero_le _, hg, hL, hm, by omega, by rw [Nat.mul_one]; exact ht⟩⟩
  have hix := indexFuncS_any _ L bx sb w hrow hst s2 hs2 hx hL2
  rw [hidx] at hix
  have HIX := hide hix
  have hne : ∀ p ∈ L, p.1 ≠ g := fun p hp e => by
    have h1 := (hst p hp).blk
    rw [e, hg] at h1
    simp only [Option.some.injEq, Obj.cells.injEq] at h1
    exact absurd h1.2.1 (by decide)
  have hsg : sb ≠ g := fun e => by
    have h1 := hs2.blk
    rw [e, hg] at h1
    simp only [Option.some.injEq, Obj.cells.injEq] at h1
    exact absurd h1.2.1 (by decide)
  have hbl : bx < w.heap.size := World.block_lt_of_cell? w _ hx
  have HCL : Hid (∀ wx, Chg (fun j => j = g) w wx → ∀ p ∈ L, Calls Tryz.prog 156 #[.pointer (some ⟨p.1, 0, none⟩), .pointer (some ⟨bx, 0, none⟩)] wx fun e w' => e = .returned (.bool (p.1 == sb)) ∧ w' = wx) := fun wx hc p hp =>
    settle1_any p.1 bx sb p.2 s2 wx (by rw [hc.cell (p := ⟨bx, 0, none⟩) hbl (fun e => hb e)]; exact hx) ((hst p hp).chg hc (hne p hp)) (hs2.chg hc hsg)
  have HG := hide hg
  have HT := hide ht
  have HCS := hide hcs
  have HND := hide hnd
  clear hix hidx hrow hst hs2 hx hne hsg hnd ht hg hks hcs
  go_enter Tryz.func155, Tryz.ntmps155
  go_wp2_with fail
  refine HIX.out.mono ?_
  rintro e w' ⟨rfl, hw'⟩
  rw [hw']
  clear hw' w'
  have hkm : ((k : Int) == -1) = false := by rw [beq_eq_false_iff_ne]; omega
  go_wp2
  go_loopw [5, 6] (fun i j wr => ∃ (q : Nat) (wv : World), wv = wr ∧ j = .int .i64 ((q + 1 : Nat) : Int) ∧ i = .int .i64 (q : Int) ∧ k ≤ q ∧ q + 1 ≤ L.length ∧ Chg (fun j => j = g) w wv ∧ wv.heap[g]? = some (.cells (delC L k cur (q + 1)) 124 (0, 0))) (fun _ j _ => L.length - (intOf j).toNat)
  case atStart => exact ⟨k, _, rfl, by go_num, rfl, Nat.le_refl _, hk, Chg.refl _ _, by rw [delC_start (cr := cr) hk HT.out]; exact HG.out⟩
  case round =>
    obtain ⟨q, wv, hwv, rfl, rfl, hkq, hql, hch, hgv⟩ := hrel
    subst hwv
    by_cases hlq : q + 1 < L.length
    · have hcell : wv.cell? ⟨g, q + 1, none⟩ = some (.pointer (some ⟨L[q + 1].1, 0, none⟩)) := by
        rw [cell_of_row wv g _ _ _ _ hgv]
        exact delC_get (by omega) hlq hk HT.out
      have hcl0 : (wv.cell? ⟨g, q, none⟩).isSome = true := by
        rw [cell_of_row wv g _ _ _ _ hgv]
        have hsz := delC_size (cur := cur) (j := q + 1) hk (by omega) HCS.out hL
        rw [Array.getElem?_eq_getElem (by omega)]
        rfl
      obtain ⟨z0, hz0⟩ := Option.isSome_iff_exists.1 hcl0
      have hfz : wv.frozen? ⟨g, q, none⟩ = false := by simp [World.frozen?, hgv]
      have HC := hide (HCL.out wv hch L[q + 1] (List.getElem_mem hlq))
      have hfalse : (L[q + 1].1 == sb) = false := by rw [beq_eq_false_iff_ne]; exact HND.out (q + 1) hlq (by omega)
      rw [hfalse] at HC
      have hset := delC_set (cur := cur) (cr := cr) (k := k) (j := q + 1) (by omega) hlq hk HCS.out hL
      rw [Nat.add_sub_cancel] at hset
      have HSET := hide hset
      have HCH := hide hch
      have HGV := hide hgv
      generalize L[q + 1].1 = ab at hcell HC HSET
      clear hset hch hgv hcl0 hfalse
      go_wp2_with fail
      refine HC.out.mono ?_
      rintro e w' ⟨rfl, hw'⟩
      rw [hw']
      clear hw' w'
      go_wp2
      all_goals go_roundw
      case rel => exact ⟨q + 1, _, rfl, by go_num, by go_num, by omega, by omega, chg_set HCH.out rfl, by rw [blk_set HGV.out, HSET.out]⟩
      case measure => simp [intOf]; omega
    · have hqe : q + 1 = L.length := by omega
      have hcq : ¬ cr = q := by omega
      have hqc : q ≤ cr := by omega
      have hq1 : L.length - q = 1 := by omega
      have HCH := hide hch
      have HGV := hide hgv
      have hxl := delX_length hk
      have hsz := delC_size (cur := cur) (j := q + 1) hk (by omega) HCS.out hL
      have htk : (delC L k cur (q + 1)).toList.take q = delX L k := by
        unfold delC
        rw [Nat.add_sub_cancel]
        show (((delX L k).take q ++ cur.toList.drop q)).take q = _
        rw [List.take_left' (by rw [List.length_take]; omega), List.take_of_length_le (by omega)]
      obtain ⟨w5, hw5⟩ : ∃ w5, w5 = wv.setRow g ((delC L k cur (q + 1)).toList.take q ++ [Value.pointer none] ++ (delC L k cur (q + 1)).toList.drop (q + 1)).toArray := ⟨_, rfl⟩
      have hclr : (Builtin.clear_ #[79] 0 #[.slice (some ⟨g, q, none⟩) 1 (cr - q)]).run Tryz.prog wv = .ok (.tuple #[]) w5 := by
        rw [hw5]
        exact run_clear_pairs wv 79 0 124 (.pointer none) Tryz.underlying79 (fun _ => by kernel_rfl) [.pointer none] g q 1 (cr - q) (by simp [Builtin.zeroCells, Value.cells, Array.range]) (by omega) _ hgv (by rw [hsz]; simp; omega) (by simp [Value.oneCell'])
      have hg5 : w5.heap[g]? = some (.cells ((delC L k cur (q + 1)).toList.take q ++ [Value.pointer none] ++ (delC L k cur (q + 1)).toList.drop (q + 1)).toArray 124 (0, 0)) := by rw [hw5]; exact setRow_heap _ _ _ _ _ _ hgv
      have hc5 : Chg (fun j => j = g) w w5 := by rw [hw5]; exact hch.trans ((chg_setRow wv g _).mono fun j _ e => Or.inr e)
      have HROW : Hid (w5.ownsRow 0 124 1 (.slice (some ⟨g, 0, none⟩) (L.length - 1) cr) (L.length - 1) (opnCells (L.eraseIdx k))) := by
        refine ⟨by have : (opnCells (L.eraseIdx k)).length = L.length - 1 := hxl; omega, Or.inr ⟨g, cr, _, rfl, Nat.zero_le _, hg5, by omega, hm, ?_, ?_⟩⟩
        · have h2 : (delC L k cur (q + 1)).toList.length = cr := by rw [Array.length_toList]; exact hsz
          rw [List.size_toArray, List.length_append, List.length_append, htk, hxl, List.length_drop, h2]
          simp
          omega
        · rw [htk]
          show (delX L k ++ [Value.pointer none] ++ _).take ((L.length - 1) * 1) = delX L k
          rw [List.append_assoc, List.take_left' (by omega)]
      have HC5 := hide hc5
      have hqq : q = L.length - 1 := by omega
      have HQE := hide hqq
      clear hch hgv hqe hqq hw5 hg5 hc5 htk hsz hxl
      go_wp2
      go_ret
      exact ⟨by rw [← HQE.out]; rfl, HROW.out, HC5.out⟩
end Go.Proofs.YtdccldbefdfppaaGreatDoor
/-
  (*ends.streams).settle.
-/
namespace Go.Proofs.YtdccldbefdfppaaGreatDoor
set_option linter.unusedVariables false
set_option linter.unusedSimpArgs false
open Go.RowKit

def EndM.opens (m : EndM) (v : Value) : EndM := { m with opn := v }
set_option maxRecDepth 100000 in
set_option maxHeartbeats 800000 in
theorem settle_no (eb sb : Nat) (st : StM) (w : World) (hs : StB w sb st) (hc : st.closed = false) :
    Calls Tryz.prog 119 #[.pointer (some ⟨eb, 22, none⟩), .pointer (some ⟨sb, 0, none⟩)] w fun e w' => e = .returned (.tuple #[]) ∧ Below w.heap.size w w' := by
  have hb : ∀ o, Below w.heap.size w (w.alloc o) := fun o => (Below.refl _ _).alloc (Nat.le_refl _) _
  have HC : Hid (∀ o, Calls Tryz.prog 133 #[.pointer (some ⟨sb, 0, none⟩)] (w.alloc o) fun e w' => e = .returned (.bool false) ∧ w' = w.alloc o) := fun o => by
    have := isClosed_any sb st _ (hs.below (hb o))
    rw [hc] at this
    exact this
  clear hs hb
  go_enter Tryz.func119, Tryz.ntmps119
  go_wp2_with fail
  refine (HC.out _).mono ?_
  rintro e w' ⟨rfl, hw'⟩
  rw [hw']
  clear hw' w'
  go_wp2
  exact bodyPost_end (results_none rfl _ _ _) rfl ⟨rfl, (Below.refl _ _).alloc (Nat.le_refl _) _⟩

/-- A stream that is closed is open no more. -/
structure Settled (w w' : World) (eb : Nat) (m : EndM) (L : List Str) (k : Nat) (v : Value) : Prop where
  en : EnB w' eb (m.opens v)
  row : w'.ownsRow 0 124 1 v (L.length - 1) (opnCells (L.eraseIdx k))
  same : v.ownBlock = m.opn.ownBlock
  chg : Chg (fun j => j = eb ∨ m.opn.ownBlock = some j) w w'
set_option maxRecDepth 100000 in
set_option maxHeartbeats 1600000 in
theorem settle_yes (eb : Nat) (m : EndM) (L : List Str) (k : Nat) (w : World) (h : EnB w eb m) (ho : OpenS w m.opn L) (hL : L.length ≤ 1048576) (hk : k < L.length) (hc : L[k].2.closed = true) (hnd : ∀ j (h : j < L.length), j ≠ k → L[j].1 ≠ L[k].1) :
    Calls Tryz.prog 119 #[.pointer (some ⟨eb, 22, none⟩), .pointer (some ⟨L[k].1, 0, none⟩)] w fun e w' => e = .returned (.tuple #[]) ∧ ∃ v, Settled w w' eb m L k v := by
  obtain ⟨hlen, hnil | ⟨g, cr, cur, hv, _, hg, hLc, hm, hcs, ht⟩⟩ := ho.row
  · omega
  rw [Nat.mul_one] at hcs ht
  have hst := ho.st
  have hlt := h.lt
  have hgl := lt_of_block hg
  obtain ⟨W, hW⟩ : ∃ W, W = w.alloc (.cells #[.pointer (some ⟨L[k].1, 0, none⟩)] 124) := ⟨_, rfl⟩
  have hbW : Below w.heap.size w W := by rw [hW]; exact (Below.refl _ _).alloc (Nat.le_refl _) _
  have hxb : W.heap[w.heap.size]? = some (.cells #[.pointer (some ⟨L[k].1, 0, none⟩)] 124 (0, 0)) := by rw [hW]; exact heap_alloc_new w _
  have hx : W.cell? ⟨w.heap.size, 0, none⟩ = some (.pointer (some ⟨L[k].1, 0, none⟩)) := by rw [cell_of_row W _ _ _ _ _ hxb]; rfl
  have hgW := kept_told hg hbW
  have hsk := (hst _ (List.getElem_mem hk)).below hbW
  have hic := isClosed_any L[k].1 L[k].2 W hsk
  rw [hc] at hic
  have hdel := deleteFunc_hit g cr k cur L w.heap.size L[k].1 L[k].2 W hgW hcs hLc hm ht (fun p hp => (hst p hp).below hbW) hsk (by omega) hx hL hk rfl hnd
  have c23 := (h.below hbW).c23
  rw [hv] at c23
  have hneg : eb ≠ g := fun e => by
    have h1 := h.blk
    rw [e, hg] at h1
    simp only [Option.some.injEq, Obj.cells.injEq] at h1
    exact absurd h1.2.1 (by decide)
  have HIC := hide hic
  have HDEL := hide hdel
  have HE := hide (h.below hbW)
  have HV := hide hv
  have HBW := hide hbW
  have HNEG := hide hneg
  have HW := hide hW
  generalize L[k].1 = sb at HIC HDEL hx HW ⊢
  clear h ho hlen hv hg hLc hm hcs ht hst hW hbW hxb hgW hsk hic hdel hc hnd hneg
  go_enter Tryz.func119, Tryz.ntmps119
  go_upto_region 1 with fail
  rw [← HW.out]
  go_wp2_with fail
  refine HIC.out.mono ?_
  rintro e w' ⟨rfl, hw'⟩
  rw [hw']
  clear hw' w'
  go_wp2_with fail
  refine HDEL.out.mono ?_
  rintro e w1 ⟨rfl, hrow, hch⟩
  have he1 : EnB w1 eb m := HE.out.chg hch HNEG.out
  have d23 := he1.c23
  rw [HV.out] at d23
  have f23 := he1.fr 23
  have HE1 := hide he1
  have HROW := hide hrow
  have HCH := hide hch
  clear he1 hrow hch
  go_wp2
  refine bodyPost_end (results_none rfl _ _ _) rfl ⟨rfl, _, ⟨EnB.of (blk_set HE1.out.blk) rfl, owns_chg HROW.out (chg_set (S := fun j => j = eb) (Chg.refl _ _) rfl) (fun j hj e => ?_), by rw [HV.out]; rfl, chg_set (((Chg.of_below HBW.out).trans (HCH.out.mono fun j _ e => Or.inr (Or.inr (by rw [HV.out, e]; rfl))))) (Or.inl rfl)⟩⟩
  subst e
  exact owns_ne HROW.out HE1.out.blk (by decide) hj
end Go.Proofs.YtdccldbefdfppaaGreatDoor
/-
  Package ends: the streams that are known: looking one up; announced, writable.
-/
namespace Go.Proofs.YtdccldbefdfppaaGreatDoor
set_option linter.unusedVariables false
set_option linter.unusedSimpArgs false
open Go.RowKit

def knownE (p : Str) : Value × Value := (.int .i64 p.2.number, .pointer (some ⟨p.1, 0, none⟩))
/-- The streams that are known: a map's block. -/
structure KnownS (w : World) (mb : Nat) (K : List Str) : Prop where
  blk : ∃ es clock, w.heap[mb]? = some (.map es clock) ∧ es.toList.map (fun e => (e.key, e.val)) = K.map knownE ∧ (∀ e ∈ es.toList, e.born < clock) ∧ (es.toList.map fun e => e.born).Nodup
  st : ∀ p ∈ K, StB w p.1 p.2
theorem KnownS.lt {w : World} {mb : Nat} {K : List Str} (h : KnownS w mb K) : mb < w.heap.size := by
  obtain ⟨es, clock, hb, _⟩ := h.blk
  exact (Array.getElem?_eq_some_iff.1 hb).1
theorem KnownS.chg {S : Nat → Prop} {w w' : World} {mb : Nat} {K : List Str} (h : KnownS w mb K) (hc : Chg S w w') (h1 : ¬ S mb) (h2 : ∀ p ∈ K, ¬ S p.1) : KnownS w' mb K := by
  have hlt := h.lt
  obtain ⟨es, clock, hb, he⟩ := h.blk
  exact ⟨⟨es, clock, by rw [hc.block mb hlt h1]; exact hb, he⟩, fun p hp => (h.st p hp).chg hc (h2 p hp)⟩
theorem KnownS.below {w w' : World} {mb : Nat} {K : List Str} (h : KnownS w mb K) (hb : Below w.heap.size w w') : KnownS w' mb K := h.chg (Chg.of_below (S := fun _ => False) hb) id (fun _ _ => id)

/-- The stream of this number. -/
def findK (K : List Str) (n : Int) : Option Str := K.find? fun p => p.2.number == n
theorem findK_mem {K : List Str} {n : Int} {p : Str} (h : findK K n = some p) : p ∈ K ∧ p.2.number = n := ⟨List.mem_of_find?_eq_some h, by have := List.find?_some h; simpa using this⟩

theorem find_now (K : List Str) (n : Int) : ∀ (l : List MapEntry) (i : Nat), l.map (fun e => (e.key, e.val)) = K.map knownE → ∃ r, Instr.findNow (.int .i64) (.int .i64 n) l i = some r ∧ r.map (·.2) = (findK K n).map fun p => .pointer (some ⟨p.1, 0, none⟩) := by
  induction K with
  | nil =>
    intro l i h
    have : l = [] := by simpa using h
    subst this
    exact ⟨none, rfl, rfl⟩
  | cons p r ih =>
    intro l i h
    cases l with
    | nil => simp at h
    | cons e es =>
      simp only [List.map_cons, List.cons.injEq, knownE, Prod.mk.injEq] at h
      obtain ⟨⟨hk, hv⟩, ht⟩ := h
      unfold Instr.findNow
      rw [hk]
      simp only [Instr.sameNow, if_true, findK, List.find?_cons]
      by_cases hn : p.2.number = n
      · have e1 : (n == p.2.number) = true := by simp [hn]
        have e2 : (p.2.number == n) = true := by simp [hn]
        rw [e1, e2]
        exact ⟨_, rfl, by simp [hv]⟩
      · have e1 : (n == p.2.number) = false := by rw [beq_eq_false_iff_ne]; exact fun e => hn e.symm
        have e2 : (p.2.number == n) = false := by rw [beq_eq_false_iff_ne]; exact hn
        rw [e1, e2]
        exact ih es (i + 1) ht

theorem Tryz.zero124 : (Tryz.prog.info? 124).map (fun i => i.zero) = some (some (.pointer none)) := by kernel_rfl

theorem KnownS.lookup {w : World} {mb : Nat} {K : List Str} (h : KnownS w mb K) (n : Int) : (Instr.lookup 78 (.map (some mb)) (.int .i64 n) false).run Tryz.prog w = .ok (ptrO ((findK K n).map (·.1))) w := by
  obtain ⟨es, clock, hb, he, _⟩ := h.blk
  obtain ⟨r, hr, hv⟩ := find_now K n es.toList 0 he
  have hz : (zeroValue 124).run Tryz.prog w = .ok (.pointer none) w := by
    have := Tryz.zero124
    cases hi : Tryz.prog.info? 124 with
    | none => rw [hi] at this; simp at this
    | some i =>
      rw [hi] at this
      simp only [Option.map_some, Option.some.injEq] at this
      simp [zeroValue, typeInfo, Sem.run_bind, run_program, Result.andThen, hi, this]
  have hck : (Instr.checkKey es.isEmpty 10000 3 (.int .i64 n)).run Tryz.prog w = .ok () w := MapKept.run_checkKey (d := .int .i64) (k := .int .i64 n) Tryz.underlying3 (show IntKind.i64 = IntKind.i64 from rfl) _ _
  have hfk : (Instr.findKey 3 (.int .i64 n) es.toList).run Tryz.prog w = .ok r w := MapKept.run_findKey (d := .int .i64) Tryz.underlying3 hr
  cases r with
  | none =>
    have hf : findK K n = none := by
      cases hq : findK K n with
      | none => rfl
      | some p => rw [hq] at hv; simp at hv
    rw [hf]
    simp [Instr.lookup, run_underlying Tryz.underlying78, MapKept.run_getObj_map hb, hck, hfk, hz, Result.andThen, ptrO]
  | some q =>
    cases hq : findK K n with
    | none => rw [hq] at hv; simp at hv
    | some p =>
      rw [hq] at hv
      simp only [Option.map_some, Option.some.injEq] at hv
      simp [Instr.lookup, run_underlying Tryz.underlying78, MapKept.run_getObj_map hb, hck, hfk, Result.andThen, ptrO, hv]

set_option maxRecDepth 100000 in
set_option maxHeartbeats 800000 in
/-- The stream of a frame, or FaultOrder. -/
theorem announced_any (eb mb : Nat) (m : EndM) (K : List Str) (n : Int) (w : World) (h : EnB w eb m) (hm : m.known = .map (some mb)) (hK : KnownS w mb K) :
    Calls Tryz.prog 128 #[.pointer (some ⟨eb, 0, none⟩), .int .i64 n] w fun e w' => w' = w ∧ match findK K n with
      | some p => if p.2.announced then e = .returned (.pointer (some ⟨p.1, 0, none⟩)) else e = .panicked [{ v := .iface 41 (.int .i64 11), recovered := false }]
      | none => e = .panicked [{ v := .iface 41 (.int .i64 11), recovered := false }] := by
  have c22 := h.c22
  rw [hm] at c22
  have hlk := hK.lookup n
  cases hf : findK K n with
  | none =>
    rw [hf] at hlk
    simp only [Option.map_none, ptrO] at hlk
    clear h hm hK hf
    go_enter Tryz.func128, Tryz.ntmps128
    go_wp2
    all_goals exact ⟨rfl, rfl, rfl⟩
  | some p =>
    rw [hf] at hlk
    have s7 := (hK.st p (findK_mem hf).1).c7
    simp only [Option.map_some, ptrO] at hlk
    clear h hm hK hf
    cases ha : p.2.announced with
    | false =>
      rw [ha] at s7
      go_enter Tryz.func128, Tryz.ntmps128
      go_wp2
      all_goals exact ⟨rfl, rfl, rfl⟩
    | true =>
      rw [ha] at s7
      go_enter Tryz.func128, Tryz.ntmps128
      go_wp2
      go_ret
      exact ⟨rfl, rfl⟩

/-- Why a stream can't be written on: 0 if it can. -/
def EndM.wcode (m : EndM) (o : Option Str) : Int := if m.fault ≠ 0 then 7 else match o with
  | none => 4
  | some p => if p.2.reset ≠ 0 then 6 else if p.2.last || p.2.shut then 5 else 0
set_option maxRecDepth 100000 in
set_option maxHeartbeats 1600000 in
theorem writable_any (eb mb : Nat) (m : EndM) (K : List Str) (n : Int) (w : World) (h : EnB w eb m) (hm : m.known = .map (some mb)) (hK : KnownS w mb K) :
    Calls Tryz.prog 65 #[.pointer (some ⟨eb, 0, none⟩), .int .i64 n] w fun e w' => w' = w ∧ e = .returned (.tuple #[if m.wcode (findK K n) = 0 then ptrO ((findK K n).map (·.1)) else .pointer none, .int .i64 (m.wcode (findK K n))]) := by
  have c22 := h.c22
  rw [hm] at c22
  have hlk := hK.lookup n
  have HD := hide (isDead_any eb m w h)
  have HC : Hid (∀ p, findK K n = some p → (Calls Tryz.prog 73 #[.pointer (some ⟨p.1, 0, none⟩)] w fun e w' => e = .returned (.bool (!(p.2.reset == 0))) ∧ w' = w) ∧ StB w p.1 p.2) := fun p hp => ⟨isReset_any p.1 p.2 w (hK.st p (findK_mem hp).1), hK.st p (findK_mem hp).1⟩
  clear h hm hK
  unfold EndM.wcode
  by_cases hf : m.fault = 0
  · have hb : (m.fault == 0) = true := by simp [hf]
    rw [hb] at HD
    cases hq : findK K n with
    | none =>
      rw [hq] at hlk
      simp only [Option.map_none, ptrO] at hlk
      clear HC
      go_enter Tryz.func65, Tryz.ntmps65
      go_wp2_with fail
      refine HD.out.mono ?_
      rintro e w' ⟨rfl, hw'⟩
      rw [hw']
      clear hw' w'
      go_wp2
      go_ret2
      exact ⟨rfl, by simp [hf]⟩
    | some p =>
      rw [hq] at hlk
      simp only [Option.map_some, ptrO] at hlk
      have HR := hide (HC.out p hq).1
      have s5 := (HC.out p hq).2.c5
      have s6 := (HC.out p hq).2.c6
      clear HC hq
      obtain ⟨sb, st⟩ := p
      simp only at hlk HR s5 s6
      obtain ⟨rb, hrb⟩ : ∃ rb, rb = (st.reset == 0) := ⟨_, rfl⟩
      rw [← hrb] at HR
      have hr0 : (st.reset = 0) = (rb = true) := by rw [hrb]; simp
      clear hrb
      cases rb <;> cases hl : st.last <;> cases hs : st.shut <;> rw [hl] at s5 <;> rw [hs] at s6
      all_goals (go_enter Tryz.func65, Tryz.ntmps65; go_wp2_with fail; refine HD.out.mono ?_; rintro e w' ⟨rfl, hw'⟩; rw [hw']; clear hw' w'; go_wp2_with fail; refine HR.out.mono ?_; rintro e w' ⟨rfl, hw'⟩; rw [hw']; clear hw' w'; go_wp2)
      all_goals go_ret2
      all_goals exact ⟨rfl, by simp [hf, hr0, hl, hs, ptrO]⟩
  · have hb : (m.fault == 0) = false := by rw [beq_eq_false_iff_ne]; exact hf
    rw [hb] at HD
    generalize ptrO ((findK K n).map (·.1)) = pv at hlk
    clear HC
    go_enter Tryz.func65, Tryz.ntmps65
    go_wp2_with fail
    refine HD.out.mono ?_
    rintro e w' ⟨rfl, hw'⟩
    rw [hw']
    clear hw' w'
    go_wp2
    go_ret2
    exact ⟨rfl, by simp [hf]⟩
end Go.Proofs.YtdccldbefdfppaaGreatDoor
/-
  Package ends: Close, Fault, Windows; and package sluice's.
-/
namespace Go.Proofs.YtdccldbefdfppaaGreatDoor
set_option linter.unusedVariables false
set_option linter.unusedSimpArgs false
open Go.RowKit

def StM.shutd (s : StM) : StM := { s with shut := true }
/-- How Close ends. -/
def Closed (w w' : World) (m : EndM) (K : List Str) (n : Int) (e : Ending) : Prop := e = .returned (.int .i64 (m.wcode (findK K n))) ∧ match findK K n with
  | none => w' = w
  | some p => if m.wcode (some p) = 0 then StB w' p.1 p.2.shutd ∧ Chg (fun j => j = p.1) w w' else w' = w
theorem wcode_none (m : EndM) : m.wcode none ≠ 0 := by unfold EndM.wcode; split <;> simp

set_option maxRecDepth 100000 in
set_option maxHeartbeats 800000 in
theorem eClose_any (eb mb : Nat) (m : EndM) (K : List Str) (n : Int) (w : World) (h : EnB w eb m) (hm : m.known = .map (some mb)) (hK : KnownS w mb K) :
    Calls Tryz.prog 42 #[.pointer (some ⟨eb, 0, none⟩), .int .i64 n] w fun e w' => Closed w w' m K n e := by
  have hw := writable_any eb mb m K n w h hm hK
  by_cases hc : m.wcode (findK K n) = 0
  · unfold Closed
    cases hf : findK K n with
    | none => rw [hf] at hc; exact absurd hc (wcode_none m)
    | some p =>
      rw [hf] at hc hw
      have hs := hK.st p (findK_mem hf).1
      have s6 := hs.c6
      have f6 := hs.fr 6
      rw [hc, if_pos rfl] at hw
      simp only [Option.map_some, ptrO] at hw
      simp only [hc, if_true]
      have HW := hide hw
      have HS := hide hs
      clear h hm hK hf hw hs hc
      go_enter Tryz.func42, Tryz.ntmps42
      go_wp2_with fail
      refine HW.out.mono ?_
      rintro e w' ⟨hw', rfl⟩
      rw [hw']
      clear hw' w'
      go_wp2
      go_ret
      exact ⟨rfl, StB.of (blk_set HS.out.blk) rfl, by ((repeat (refine chg_set ?_ ?hs; (case hs => first | rfl | assumption | exact Or.inl rfl | exact Or.inr rfl))); first | exact Chg.refl _ _ | exact chg_drewN)⟩
  · rw [if_neg hc] at hw
    obtain ⟨c, hcc⟩ : ∃ c, c = m.wcode (findK K n) := ⟨_, rfl⟩
    have HP : Hid (∀ e, e = .returned (.int .i64 c) → Closed w w m K n e) := fun e he => by
      refine ⟨by rw [he, hcc], ?_⟩
      cases hf : findK K n with
      | none => rfl
      | some p => rw [hf] at hc; simp only [if_neg hc]
    rw [← hcc] at hw hc
    have HW := hide hw
    have hcb : (c == 0) = false := by rw [beq_eq_false_iff_ne]; exact hc
    clear h hm hK hw hcc hc
    go_enter Tryz.func42, Tryz.ntmps42
    go_wp2_with fail
    refine HW.out.mono ?_
    rintro e w' ⟨hw', rfl⟩
    rw [hw']
    clear hw' w'
    go_wp2
    all_goals go_ret
    all_goals exact HP.out _ rfl
set_option maxHeartbeats 400000 in
theorem xClose_any (eb mb : Nat) (m : EndM) (K : List Str) (n : Int) (w : World) (h : EnB w eb m) (hm : m.known = .map (some mb)) (hK : KnownS w mb K) :
    Calls Tryz.prog 20 #[.pointer (some ⟨eb, 0, none⟩), .int .i64 n] w fun e w' => Closed w w' m K n e := by
  have HC := hide (eClose_any eb mb m K n w h hm hK)
  clear h hm hK
  go_enter Tryz.func20, Tryz.ntmps20
  go_wp2_with fail
  refine HC.out.mono ?_
  rintro e w' ⟨rfl, h⟩
  have H := hide h
  clear h
  go_wp2
  go_ret
  exact ⟨rfl, H.out⟩

set_option maxHeartbeats 400000 in
theorem eFault_any (eb : Nat) (m : EndM) (w : World) (h : EnB w eb m) : Calls Tryz.prog 34 #[.pointer (some ⟨eb, 0, none⟩)] w fun e w' => e = .returned (.int .i64 m.fault) ∧ w' = w := by
  have c1 := h.c1
  clear h
  go_enter Tryz.func34, Tryz.ntmps34
  go_wp2
  go_ret
  exact ⟨rfl, rfl⟩
end Go.Proofs.YtdccldbefdfppaaGreatDoor
/-
  (*sluicelaw.Books).keepBytes.
-/
namespace Go.Proofs.YtdccldbefdfppaaGreatDoor
open Go.RowKit

/-- A list of bytes that was kept, and the three that were appended to it. -/
structure RecB where
  l : Value
  a : Value
  b : Value
  c : Value
  n : Nat
  len : Nat

/-- Each of the four reads as the caller has written it. -/
structure FamB (w : World) (r : RecB) : Prop where
  l : w.ownsRow 0 5 1 r.l r.len ((marks r.n r.len).map B)
  a : w.ownsRow 0 5 1 r.a (r.len + 1) ((marks r.n (r.len + 1)).map B)
  b : w.ownsRow 0 5 1 r.b (r.len + 2) ((marks r.n (r.len + 2)).map B)
  c : w.ownsRow 0 5 1 r.c (r.len + 3) ((marks r.n (r.len + 3)).map B)

theorem FamB.chg {S : Nat → Prop} {w w' : World} {r : RecB} (h : FamB w r) (hc : Chg S w w') (hs : ∀ v ∈ [r.l, r.a, r.b, r.c], ∀ k, v.ownBlock = some k → ¬ S k) : FamB w' r :=
  ⟨owns_chg h.l hc (hs _ (by simp)), owns_chg h.a hc (hs _ (by simp)), owns_chg h.b hc (hs _ (by simp)), owns_chg h.c hc (hs _ (by simp))⟩

end Go.Proofs.YtdccldbefdfppaaGreatDoor
/-
  sluicelaw.allFrames.
-/
namespace Go.Proofs.YtdccldbefdfppaaGreatDoor
open Go.RowKit

/-- Frames that are all the mark. -/
def fillF (m : Int) : Nat → List Value
  | 0 => []
  | k + 1 => .int .i64 m :: .int .i64 m :: .int .i64 m :: .slice none 0 0 :: fillF m k
end Go.Proofs.YtdccldbefdfppaaGreatDoor
/-
  (*sluicelaw.Books).whole.
-/
namespace Go.Proofs.YtdccldbefdfppaaGreatDoor
open Go.RowKit

/-- A list of frames that was kept, and the three that were appended to it. -/
structure FRec where
  l : Value
  a : Value
  b : Value
  c : Value
  m : Int
  len : Nat

structure FamF (w : World) (r : FRec) : Prop where
  l : w.ownsRow 0 48 4 r.l r.len (fillF r.m r.len)
  a : w.ownsRow 0 48 4 r.a (r.len + 1) (fillF r.m (r.len + 1))
  b : w.ownsRow 0 48 4 r.b (r.len + 2) (fillF r.m (r.len + 2))
  c : w.ownsRow 0 48 4 r.c (r.len + 3) (fillF r.m (r.len + 3))

theorem FamF.chg {S : Nat → Prop} {w w' : World} {r : FRec} (h : FamF w r) (hc : Chg S w w') (hs : ∀ v ∈ [r.l, r.a, r.b, r.c], ∀ k, v.ownBlock = some k → ¬ S k) : FamF w' r :=
  ⟨owns_chg h.l hc (hs _ (by simp)), owns_chg h.a hc (hs _ (by simp)), owns_chg h.b hc (hs _ (by simp)), owns_chg h.c hc (hs _ (by simp))⟩

end Go.Proofs.YtdccldbefdfppaaGreatDoor
/-
  What stands of a script's world between two steps of Writes.
-/
namespace Go.Proofs.YtdccldbefdfppaaGreatDoor
open Go.RowKit

/-- A list of frames, as an argument. -/
structure FsIn (w : World) (sa : Option Addr) (qs : List (Fr × Value)) : Prop where
  cell : ∀ k (h : k < qs.length), ∃ fb off, sa = some ⟨fb, off, none⟩ ∧ fb < w.heap.size ∧ w.cell? ⟨fb, off + k * 4, none⟩ = some (.int .i64 qs[k].1.kind) ∧ w.cell? ⟨fb, off + k * 4 + 1, none⟩ = some (.int .i64 qs[k].1.flags) ∧
    w.cell? ⟨fb, off + k * 4 + 2, none⟩ = some (.int .i64 qs[k].1.stream) ∧ w.cell? ⟨fb, off + k * 4 + 3, none⟩ = some qs[k].2
  body : ∀ q ∈ qs, BytesA w q.2 q.1.body
  len : ∀ q ∈ qs, q.1.body.length ≤ 4194304

theorem FsIn.below {w w' : World} {sa : Option Addr} {qs : List (Fr × Value)} (h : FsIn w sa qs) (hb : Below w.heap.size w w') : FsIn w' sa qs := by
  refine ⟨fun k hk => ?_, fun q hq => (h.body q hq).chg (Chg.of_below hb), h.len⟩
  obtain ⟨fb, off, hs, hl, a, b, c, d⟩ := h.cell k hk
  exact ⟨fb, off, hs, Nat.lt_of_lt_of_le hl hb.size, (hb.cell (p := ⟨fb, off + k * 4, none⟩) hl).trans a, (hb.cell (p := ⟨fb, off + k * 4 + 1, none⟩) hl).trans b, (hb.cell (p := ⟨fb, off + k * 4 + 2, none⟩) hl).trans c, (hb.cell (p := ⟨fb, off + k * 4 + 3, none⟩) hl).trans d⟩

theorem below_of_chg {S : Nat → Prop} {W0 w w' : World} (h : Below W0.heap.size W0 w) (hc : Chg S w w') (hs : ∀ j, S j → W0.heap.size ≤ j) : Below W0.heap.size W0 w' :=
  ⟨hc.os.trans h.os, hc.tape.trans h.tape, hc.output.trans h.output, Nat.le_trans h.size hc.size, fun k hk => by
    rw [hc.block k (Nat.lt_of_lt_of_le hk h.size) (fun e => absurd (hs k e) (Nat.not_le.2 hk))]; exact h.block k hk⟩

end Go.Proofs.YtdccldbefdfppaaGreatDoor
/-
  ends.cut.
-/
namespace Go.Proofs.YtdccldbefdfppaaGreatDoor
set_option linter.unusedVariables false
set_option linter.unusedSimpArgs false
open Go.RowKit

def cutN (n : Int) (len : Nat) : Nat := (max 0 (min n len)).toNat
theorem cutN_le (n : Int) (len : Nat) : cutN n len ≤ len := by unfold cutN; omega

/-- The first k bytes are taken off. -/
structure CutOff (w w' : World) (pb po : Nat) (v v' : Value) (l : List UInt8) (k : Nat) (e : Ending) : Prop where
  eq : ∃ s, e = .returned (.slice s k k) ∧ BytesIn w' (.slice s k k) (l.take k) ∧ ∀ j, (Value.slice s k k).ownBlock = some j → v.ownBlock = some j
  step : ∃ w2, w' = w2.setCell ⟨pb, po, none⟩ v' ∧ Below w.heap.size w w2 ∧ w2.ownsRow w.heap.size 5 1 v' (l.length - k) ((l.drop k).map B)

/-- The first k bytes, whatever is laid elsewhere. -/
theorem cut_first {w : World} {bb off cr pb po k : Nat} {l : List UInt8} {u : Value} (hbx : BytesIn w (.slice (some ⟨bb, off, none⟩) l.length cr) l) (hne : (Value.slice (some ⟨bb, off, none⟩) l.length cr).ownBlock ≠ some pb) (hkl : k ≤ l.length) : BytesIn (w.setCell ⟨pb, po, none⟩ u) (.slice (some ⟨bb, off, none⟩) k k) (l.take k) := by
  have hset : Chg (fun j => j = pb) w (w.setCell ⟨pb, po, none⟩ u) := chg_set (Chg.refl _ _) rfl
  have hby := hbx.chg hset (fun j hj e => hne (by rw [hj, e]))
  rcases hby with ⟨e1, _⟩ | ⟨b1, o1, c1, e1, e2, e3, e4⟩
  · simp at e1
  · simp only [Value.slice.injEq, Option.some.injEq, Addr.mk.injEq] at e1
    obtain ⟨⟨rfl, rfl, -⟩, -, rfl⟩ := e1
    refine Or.inr ⟨bb, off, k, by rw [List.length_take, Nat.min_eq_left hkl], e2, by rw [List.length_take]; omega, fun i hi => ?_⟩
    rw [List.length_take] at hi
    rw [e4 i (by omega)]
    simp [List.getD, List.getElem?_take, show i < k by omega]

set_option maxRecDepth 100000 in
set_option maxHeartbeats 1600000 in
theorem ecut_any (pb po : Nat) (v : Value) (l : List UInt8) (n : Int) (w : World) (hc : w.cell? ⟨pb, po, none⟩ = some v) (hf : w.frozen? ⟨pb, po, none⟩ = false) (hpb : pb < w.heap.size) (hrow : w.ownsRow 0 5 1 v l.length (l.map B)) (hne : v.ownBlock ≠ some pb) (hl : l.length ≤ 1073741824) :
    Calls Tryz.prog 64 #[.pointer (some ⟨pb, po, none⟩), .int .i64 n] w fun e w' => ∃ v', CutOff w w' pb po v v' l (cutN n l.length) e := by
  obtain ⟨i0, hi, hz0, hz1, hz2⟩ := info_parts Tryz.info5
  obtain ⟨sr, cr, hv⟩ := slice_len hrow
  subst hv
  obtain ⟨k, hk⟩ : ∃ k, k = cutN n l.length := ⟨_, rfl⟩
  have hkl : k ≤ l.length := by rw [hk]; exact cutN_le _ _
  have hki : max 0 (min n (l.length : Int)) = (k : Int) := by rw [hk]; unfold cutN; omega
  rw [← hk]
  have hby := bytesIn_of_owns hrow rfl
  clear hk
  rcases hby with ⟨h1, h2⟩ | ⟨bb, off, cap, h1, h2, h3, h4⟩
  · simp only [Value.slice.injEq] at h1
    obtain ⟨rfl, _, rfl⟩ := h1
    subst h2
    simp at hkl
    subst hkl
    have HKI : Hid (max 0 (min n 0) = 0) := by show _ = _; omega
    have HNE := hide hne
    clear hrow hki hne
    simp only [List.length_nil] at *
    go_enter Tryz.func64, Tryz.ntmps64
    go_upto_region 2 with fail
    rw [HKI.out]
    go_wp2_with (at_builtin; refine wpList_app _ rfl (.const (.slice none 0 0)) (.tmp 24) 44 rfl 5 i0 (.int .u8 0) 1 1 Tryz.underlying44 hi hz0 hz1 hz2 rfl (by decide) (.slice none 0 0) 0 [] rfl (World.ownsRow_nil _ _ _ _) _ 0 [] rfl rfl (Or.inl ⟨rfl, rfl, rfl⟩) (by simp) (by decide) (by decide) ?_)
    intro v' w2 hown2 hg2 hfr2
    obtain ⟨s2, c2, rfl⟩ := slice_len hown2
    have hb2 : Below w.heap.size w w2 := below_of_chg (Below.refl _ _) (Chg.of_grown (S := fun _ => False) hg2 (fun j hj => by simp [Value.ownBlock] at hj)) (fun _ e => e.elim)
    have c2' : w2.cell? ⟨pb, po, none⟩ = some (.slice none 0 0) := by rw [Below.cell hb2 (p := ⟨pb, po, none⟩) hpb]; exact hc
    have f2' : w2.frozen? ⟨pb, po, none⟩ = false := by rw [Below.frozen hb2 (p := ⟨pb, po, none⟩) hpb]; exact hf
    have HO2 := hide hown2
    have HB2 := hide hb2
    have HF2 := hide hfr2
    clear hown2 hg2 hfr2 hb2
    go_wp2
    go_ret
    refine ⟨_, ⟨⟨none, rfl, Or.inl ⟨rfl, rfl⟩, fun j hj => by simp [Value.ownBlock] at hj⟩, _, rfl, HB2.out, ?_⟩⟩
    exact owns_base HO2.out (fun j hj => by
      rcases HF2.out with e | e
      · rw [e] at hj; simp [Value.ownBlock] at hj
      · rw [e] at hj; simp at hj; omega)
  · simp only [Value.slice.injEq] at h1
    obtain ⟨rfl, _, rfl⟩ := h1
    have HROW := hide hrow
    have HNE := hide hne
    have HKI := hide hki
    have H4 := hide h4
    clear hrow hne hki h4
    by_cases hck : cr = k
    · obtain rfl : k = l.length := by omega
      subst hck
      have HLI : Hid (Lies w (.slice (some ⟨bb, off, none⟩) 0 0) 0 []) := Or.inr ⟨_, _, rfl, fun j u hu => by simp at hu⟩
      go_enter Tryz.func64, Tryz.ntmps64
      go_upto_region 2 with fail
      rw [HKI.out]
      go_upto_region 3 with fail
      go_wp2_with (at_builtin; refine wpList_app _ rfl (.const (.slice none 0 0)) (.tmp 24) 44 rfl 5 i0 (.int .u8 0) 1 1 Tryz.underlying44 hi hz0 hz1 hz2 rfl (by decide) (.slice none 0 0) 0 [] rfl (World.ownsRow_nil _ _ _ _) _ 0 [] rfl ?c1 HLI.out ?c3 ?c4 ?c5 ?_)
      case c1 => simp
      case c3 => intro u hu; first | (simp at hu; done) | (obtain ⟨x, -, rfl⟩ := List.mem_map.1 hu; rfl)
      case c4 => unfold maxLen; omega
      case c5 => omega
      intro v' w2 hown2 hg2 hfr2
      obtain ⟨s2, c2, rfl⟩ := slice_len hown2
      have hb2 : Below w.heap.size w w2 := below_of_chg (Below.refl _ _) (Chg.of_grown (S := fun _ => False) hg2 (fun j hj => by simp [Value.ownBlock] at hj)) (fun _ e => e.elim)
      have c2' : w2.cell? ⟨pb, po, none⟩ = some (.slice (some ⟨bb, off, none⟩) l.length l.length) := by rw [Below.cell hb2 (p := ⟨pb, po, none⟩) hpb]; exact hc
      have f2' : w2.frozen? ⟨pb, po, none⟩ = false := by rw [Below.frozen hb2 (p := ⟨pb, po, none⟩) hpb]; exact hf
      have HO2 := hide hown2
      have HB2 := hide hb2
      have HF2 := hide hfr2
      clear hown2 hg2 hfr2 hb2
      go_wp2
      go_ret
      refine ⟨_, ⟨⟨some ⟨bb, off, none⟩, rfl, ?_, fun j hj => hj⟩, _, rfl, HB2.out, ?_⟩⟩
      · have hbx : BytesIn w2 (.slice (some ⟨bb, off, none⟩) l.length l.length) l := (bytesIn_of_owns HROW.out rfl).chg (Chg.of_below (S := fun _ => False) HB2.out) (fun _ _ => id)
        exact cut_first hbx HNE.out (by omega)
      · have := owns_base (base' := w.heap.size) HO2.out (fun j hj => by
          rcases HF2.out with e | e
          · rw [e] at hj; simp [Value.ownBlock] at hj
          · rw [e] at hj; simp at hj; omega)
        simpa using this
    · skip
      have HLI : Hid (Lies w (.slice (some ⟨bb, off + k, none⟩) (l.length - k) (cr - k)) (l.length - k) ((l.drop k).map B)) := by
        have hb : BytesIn w (.slice (some ⟨bb, off + k, none⟩) (l.length - k) (cr - k)) (l.drop k) := by
          refine Or.inr ⟨bb, off + k, cr - k, by rw [List.length_drop], h2, by rw [List.length_drop]; omega, fun i hi => ?_⟩
          rw [List.length_drop] at hi
          rw [Nat.add_assoc, H4.out (k + i) (by omega)]
          simp [List.getD, List.getElem?_drop]
        have := lies_of_bytesIn hb
        rw [List.length_drop] at this
        exact this
      go_enter Tryz.func64, Tryz.ntmps64
      go_upto_region 2 with fail
      rw [HKI.out]
      go_upto_region 3 with fail
      go_wp2_with (at_builtin; refine wpList_app _ rfl (.const (.slice none 0 0)) (.tmp 24) 44 rfl 5 i0 (.int .u8 0) 1 1 Tryz.underlying44 hi hz0 hz1 hz2 rfl (by decide) (.slice none 0 0) 0 [] rfl (World.ownsRow_nil _ _ _ _) _ (l.length - k) ((l.drop k).map B) rfl ?c1 HLI.out ?c3 ?c4 ?c5 ?_)
      case c1 => simp
      case c3 => intro u hu; first | (simp at hu; done) | (obtain ⟨x, -, rfl⟩ := List.mem_map.1 hu; rfl)
      case c4 => unfold maxLen; omega
      case c5 => omega
      intro v' w2 hown2 hg2 hfr2
      obtain ⟨s2, c2, rfl⟩ := slice_len hown2
      have hb2 : Below w.heap.size w w2 := below_of_chg (Below.refl _ _) (Chg.of_grown (S := fun _ => False) hg2 (fun j hj => by simp [Value.ownBlock] at hj)) (fun _ e => e.elim)
      have c2' : w2.cell? ⟨pb, po, none⟩ = some (.slice (some ⟨bb, off, none⟩) l.length cr) := by rw [Below.cell hb2 (p := ⟨pb, po, none⟩) hpb]; exact hc
      have f2' : w2.frozen? ⟨pb, po, none⟩ = false := by rw [Below.frozen hb2 (p := ⟨pb, po, none⟩) hpb]; exact hf
      have HO2 := hide hown2
      have HB2 := hide hb2
      have HF2 := hide hfr2
      clear hown2 hg2 hfr2 hb2
      go_wp2
      go_ret
      refine ⟨_, ⟨⟨some ⟨bb, off, none⟩, rfl, ?_, fun j hj => hj⟩, _, rfl, HB2.out, ?_⟩⟩
      · have hbx : BytesIn w2 (.slice (some ⟨bb, off, none⟩) l.length cr) l := (bytesIn_of_owns HROW.out rfl).chg (Chg.of_below (S := fun _ => False) HB2.out) (fun _ _ => id)
        exact cut_first hbx HNE.out (by omega)
      · have := owns_base (base' := w.heap.size) HO2.out (fun j hj => by
          rcases HF2.out with e | e
          · rw [e] at hj; simp [Value.ownBlock] at hj
          · rw [e] at hj; simp at hj; omega)
        simpa using this
end Go.Proofs.YtdccldbefdfppaaGreatDoor
