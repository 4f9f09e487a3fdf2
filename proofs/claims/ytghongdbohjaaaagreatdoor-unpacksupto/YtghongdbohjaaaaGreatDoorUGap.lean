import Derived.Test.YtghongdbohjaaaaGreatDoorUGao
import Derived.Test.YtghongdbohjaaaaGreatDoorUGac
import Derived.Test.YtghongdbohjaaaaGreatDoorUGad
import Derived.Test.YtghongdbohjaaaaGreatDoorUGam
import Derived.Test.YtghongdbohjaaaaGreatDoorUGae
import Derived.Deep.DeepCutAuto
set_option linter.unusedVariables false
set_option linter.unusedSimpArgs false
/-
  (*sluiceref.Unpacker).pair: a pair by its number.
-/
namespace Go.Proofs.YtghongdbohjaaaaGreatDoor
set_option linter.unusedVariables false
set_option linter.unusedSimpArgs false
open Go.RowKit

set_option maxRecDepth 100000 in
set_option maxHeartbeats 3200000 in
theorem upair_old (ub xb g off cb : Nat) (l : List UInt8) (at_ : Nat) (lv : Value) (log : List Ch) (w : World) (h : TxP w xb g off cb l at_ false) (hl : l.length ≤ 1048576) (hlt : at_ < l.length) (h2 : 128 ≤ l[at_].toNat) (hc : w.cell? ⟨ub, 0, none⟩ = some lv) (hrow : w.ownsRow 0 282 3 lv log.length (chCells log)) (hok : chOk log) (hll : log.length ≤ 1073741824) (hux : ub ≠ xb) (hlx : lv.ownBlock ≠ some xb) (hnb : (numB log).length ≤ 40)
    (HP : HP) (ok : Bool) (hdef : (if (cntR l 7 at_ false).2.2 || decide ((cntR l 7 at_ false).1 < 1) || decide ((numB log).length < (cntR l 7 at_ false).1) then (noHP, false) else ((numB log).getD ((cntR l 7 at_ false).1 - 1) noHP, true)) = (HP, ok)) :
    Calls Tryz.prog 90 #[.pointer (some ⟨ub, 0, none⟩), .pointer (some ⟨xb, 0, none⟩)] w fun e w' => e = .returned (.tuple #[.agg #[.string HP.n, .string HP.v], .bool ok]) ∧
      TxP w' xb g off cb l (cntR l 7 at_ false).2.1 (cntR l 7 at_ false).2.2 ∧ Chg (fun j => j = xb) w w' := by
  have hxl := lt_of_block h.tx.blk
  have hul : ub < w.heap.size := World.block_lt_of_cell? w _ hc
  have hb0 : Below w.heap.size w (w.alloc (.cells #[.string ⟨#[]⟩, .string ⟨#[]⟩] 62)).drew := by
    have hb1 : Below w.heap.size w (w.alloc (.cells #[.string ⟨#[]⟩, .string ⟨#[]⟩] 62)) := (Below.refl _ _).alloc (Nat.le_refl _) _
    exact ⟨hb1.os, hb1.tape, hb1.output, hb1.size, hb1.block⟩
  have hr0 : (w.alloc (.cells #[.string ⟨#[]⟩, .string ⟨#[]⟩] 62)).drew.heap[w.heap.size]? = some (.cells #[.string ⟨#[]⟩, .string ⟨#[]⟩] 62 (0, 0)) := heap_alloc_new w _
  have hz0 := hb0.size
  obtain ⟨x0, x1, x2⟩ := h.no
  obtain ⟨hcb, xc⟩ := h.cell hlt
  have hgl := h.lt
  have hcx : l[at_].toNat ≤ 255 := Nat.le_of_lt_succ l[at_].toNat_lt
  generalize l[at_].toNat = c at xc h2 hcx
  have HCNT := hide ((h.below hb0).count hl 7 (by omega))
  have HNU := hide (fun (w1 : World) (hc1 : Chg (fun j => j = xb) (w.alloc (.cells #[.string ⟨#[]⟩, .string ⟨#[]⟩] 62)).drew w1) => numbered_any ub lv log w1 (((hc1.cell (p := ⟨ub, 0, none⟩) (by simp; omega) hux).trans ((hb0.cell (p := ⟨ub, 0, none⟩) hul).trans hc))) (owns_chg (owns_chg hrow (Chg.of_below (S := fun _ => False) hb0) (fun _ _ => id)) hc1 (fun j hj e => hlx (by rw [← e]; exact hj))) hok hll)
  generalize cntR l 7 at_ false = q at HCNT hdef
  obtain ⟨n, a1, no1⟩ := q
  simp only at HCNT hdef
  have HDEF := hide hdef
  have HB0 := hide hb0
  have HR0 := hide hr0
  clear h hb0 hr0 hc hrow hok hdef
  go_enter Tryz.func90, Tryz.ntmps90
  go_wp2_with fail
  go_region
  all_goals (go_wp2_with fail)
  all_goals (refine HCNT.out.mono ?_)
  rintro e w1 ⟨rfl, ht1, hc1⟩
  have hz1 := hc1.size
  have HT1 := hide ht1
  have HC1 := hide hc1
  have hr1 : w1.heap[w.heap.size]? = some (.cells #[.string ⟨#[]⟩, .string ⟨#[]⟩] 62 (0, 0)) := by rw [hc1.block _ (lt_of_block HR0.out) (by omega)]; exact HR0.out
  have HR1 := hide hr1
  have HNU1 := hide (HNU.out w1 hc1)
  clear ht1 hc1 hr1 HNU HCNT
  go_wp2_with fail
  refine HNU1.out.mono ?_
  rintro e w2 ⟨v2, rfl, hown2, hb2⟩
  obtain ⟨s2, c2, rfl⟩ := slice_len hown2
  generalize numB log = Q at hown2 HDEF hnb
  have ht2 := HT1.out.below hb2
  obtain ⟨x0', x1', x2'⟩ := ht2.no
  have HT2 := hide ht2
  have hr2 := kept_told HR1.out hb2
  have HR2 := hide hr2
  have HO2 := hide hown2
  have hz2 := hb2.size
  have hwl := lt_of_block hr2
  obtain ⟨r0, r1⟩ := pair_blk hr2
  have rf : ∀ o, w2.frozen? ⟨w.heap.size, o, none⟩ = false := fun o => by simp [World.frozen?, hr2]
  have rf0 := rf 0
  have rf1 := rf 1
  have hcw : Chg (fun j => j = xb) w w2 := (Chg.of_below HB0.out).trans (((HC1.out.then_below hb2).mono fun j _ e => Or.inr e))
  have HCW := hide hcw
  have HFIN := hide (show ∀ u v : Value, TxP ((w2.setCell ⟨w.heap.size, 0, none⟩ u).setCell ⟨w.heap.size, 1, none⟩ v) xb g off cb l a1 no1 ∧ Chg (fun j => j = xb) w ((w2.setCell ⟨w.heap.size, 0, none⟩ u).setCell ⟨w.heap.size, 1, none⟩ v) ∧ ((w2.setCell ⟨w.heap.size, 0, none⟩ u).setCell ⟨w.heap.size, 1, none⟩ v).cell? ⟨w.heap.size, 0, none⟩ = some u ∧ ((w2.setCell ⟨w.heap.size, 0, none⟩ u).setCell ⟨w.heap.size, 1, none⟩ v).cell? ⟨w.heap.size, 1, none⟩ = some v from fun u v => by
    have hcs : Chg (fun j => j = w.heap.size) w2 ((w2.setCell ⟨w.heap.size, 0, none⟩ u).setCell ⟨w.heap.size, 1, none⟩ v) := ((Chg.refl (fun j => j = w.heap.size) w2).setCell (p := ⟨w.heap.size, 0, none⟩) (Or.inr rfl) _).setCell (p := ⟨w.heap.size, 1, none⟩) (Or.inr rfl) _
    obtain ⟨y0, y1⟩ := pair_blk (v0 := u) (v1 := v) (block_setCell (i := 1) (u := v) (block_setCell (i := 0) (u := u) HR2.out))
    exact ⟨HT2.out.chg hcs (by omega) (by omega), HCW.out.trans (hcs.mono fun j _ e => Or.inl (by omega)), y0, y1⟩)
  clear ht2 hr2 hown2 hb2 hcw rf HNU1
  go_upto_region 5 with fail
  go_cut [42] (fun s42 wx => s42 = .bool (no1 || decide (n < 1) || decide (Q.length < n)) ∧ wx = w2)
  case first =>
    cases no1 with
    | true =>
      go_wp2_with fail
      go_meet
      exact ⟨rfl, rfl⟩
    | false =>
      by_cases hn1 : n < 1
      · go_wp2_with fail
        go_meet
        exact ⟨by simp [hn1], rfl⟩
      · go_wp2_with fail
        go_meet
        exact ⟨by simp [hn1]; omega, rfl⟩
  case rest =>
    obtain ⟨rfl, hwc⟩ := hcut
    rw [hwc]
    clear hwc wc
    cases hbad : (no1 || decide (n < 1) || decide (Q.length < n)) with
    | true =>
      have hfin := HDEF.out
      rw [hbad, if_pos rfl] at hfin
      simp only [Prod.mk.injEq] at hfin
      obtain ⟨rfl, rfl⟩ := hfin
      obtain ⟨t0, t1, y0, y1⟩ := HFIN.out (.string ⟨#[]⟩) (.string ⟨#[]⟩)
      have HT := hide t0
      have HC := hide t1
      clear hbad t0 t1
      go_wp2
      refine bodyPost_ret (v := .tuple #[.agg #[.string ⟨#[]⟩, .string ⟨#[]⟩], .bool false]) ?_ rfl ⟨rfl, HT.out, HC.out⟩
      simp [results, Tryz.results90, go_sem, y0, y1]
    | false =>
      have hfin := HDEF.out
      rw [hbad, if_neg (by decide)] at hfin
      have hn1 : 0 < n ∧ n ≤ Q.length := by
        simp at hbad
        omega
      obtain ⟨hn1, hn2⟩ := hn1
      obtain ⟨m, rfl⟩ : ∃ m, n = m + 1 := ⟨n - 1, by omega⟩
      have hml : m < Q.length := by omega
      obtain ⟨gq, hgq, hcq⟩ := slice_some HO2.out (by omega)
      subst hgq
      obtain ⟨e0, e1⟩ := hdCells_get hml
      have q0 : w2.cell? ⟨gq, m * 2, none⟩ = some (.string Q[m].n) := by rw [HO2.out.cellAt _ (by have := hdCells_length Q; omega)]; exact e0
      have q1 : w2.cell? ⟨gq, m * 2 + 1, none⟩ = some (.string Q[m].v) := by rw [HO2.out.cellAt _ (by have := hdCells_length Q; omega)]; exact e1
      have hg : Q.getD (m + 1 - 1) noHP = Q[m] := by simp [List.getD, List.getElem?_eq_getElem hml]
      rw [hg] at hfin
      simp only [Prod.mk.injEq] at hfin
      obtain ⟨rfl, rfl⟩ := hfin
      obtain ⟨t0, t1, y0, y1⟩ := HFIN.out (.string Q[m].n) (.string Q[m].v)
      have HT := hide t0
      have HC := hide t1
      clear hbad t0 t1 e0 e1 hg HDEF
      go_wp2
      refine bodyPost_ret (v := .tuple #[.agg #[.string Q[m].n, .string Q[m].v], .bool true]) ?_ rfl ⟨rfl, HT.out, HC.out⟩
      simp [results, Tryz.results90, go_sem, y0, y1]
end Go.Proofs.YtghongdbohjaaaaGreatDoor
/-
  (*sluiceref.Unpacker).pair: a pair that is kept; all pairs.
-/
namespace Go.Proofs.YtghongdbohjaaaaGreatDoor
set_option linter.unusedVariables false
set_option linter.unusedSimpArgs false
open Go.RowKit

/-- The document's unpacker: its block and its log. -/
structure UnB (w : World) (ub : Nat) (lv : Value) (lim most : Nat) (no : Bool) (log : List Ch) : Prop where
  blk : w.heap[ub]? = some (.cells #[lv, .int .i64 lim, .int .i64 most, .bool no] 195 (0, 0))
  row : w.ownsRow 0 282 3 lv log.length (chCells log)
  ok : chOk log
theorem UnB.chg {S : Nat → Prop} {w w' : World} {ub : Nat} {lv : Value} {lim most : Nat} {no : Bool} {log : List Ch} (h : UnB w ub lv lim most no log) (hc : Chg S w w') (h1 : ¬ S ub) (h2 : ∀ j, lv.ownBlock = some j → ¬ S j) : UnB w' ub lv lim most no log :=
  ⟨by rw [hc.block ub (lt_of_block h.blk) h1]; exact h.blk, owns_chg h.row hc h2, h.ok⟩
theorem UnB.below {w w' : World} {ub : Nat} {lv : Value} {lim most : Nat} {no : Bool} {log : List Ch} (h : UnB w ub lv lim most no log) (hb : Below w.heap.size w w') : UnB w' ub lv lim most no log :=
  h.chg (Chg.of_below (S := fun _ => False) hb) id (fun _ _ => id)
theorem UnB.cells {w : World} {ub : Nat} {lv : Value} {lim most : Nat} {no : Bool} {log : List Ch} (h : UnB w ub lv lim most no log) : w.cell? ⟨ub, 0, none⟩ = some lv ∧ w.cell? ⟨ub, 1, none⟩ = some (.int .i64 lim) ∧ w.cell? ⟨ub, 2, none⟩ = some (.int .i64 most) ∧ w.cell? ⟨ub, 3, none⟩ = some (.bool no) ∧ ∀ o, w.frozen? ⟨ub, o, none⟩ = false := by
  refine ⟨?_, ?_, ?_, ?_, fun o => by simp [World.frozen?, h.blk]⟩ <;> rw [cell_of_row w ub _ _ _ _ h.blk] <;> rfl

/-- The end of pair. -/
structure UPaired (w w' : World) (ub xb g off cb : Nat) (l : List UInt8) (lv : Value) (lim most : Nat) (no : Bool) (r : ((HP × Bool) × List Ch) × Nat × Bool) (e : Ending) : Prop where
  eq : e = .returned (.tuple #[.agg #[.string r.1.1.1.n, .string r.1.1.1.v], .bool r.1.1.2])
  tx : TxP w' xb g off cb l r.2.1 r.2.2
  un : ∃ lv', UnB w' ub lv' lim most no r.1.2 ∧ (∀ j, lv'.ownBlock = some j → lv.ownBlock = some j ∨ w.heap.size ≤ j)
  chg : Chg (fun j => j = xb ∨ j = ub ∨ lv.ownBlock = some j) w w'

theorem UPaired.below {w w' w'' : World} {ub xb g off cb : Nat} {l : List UInt8} {lv : Value} {lim most : Nat} {no : Bool} {r : ((HP × Bool) × List Ch) × Nat × Bool} {e : Ending} (h : UPaired w w' ub xb g off cb l lv lim most no r e) (hb : Below w'.heap.size w' w'') : UPaired w w'' ub xb g off cb l lv lim most no r e := by
  obtain ⟨lv', h1, h2⟩ := h.un
  exact ⟨h.eq, h.tx.below hb, ⟨lv', h1.below hb, h2⟩, h.chg.then_below hb⟩

/-- What lies apart. -/
structure UApart (ub xb g : Nat) (lv : Value) : Prop where
  ux : ub ≠ xb
  lx : lv.ownBlock ≠ some xb
  ug : ub ≠ g
  lg : lv.ownBlock ≠ some g

theorem named_pr {nb : List HP} {l : List UInt8} {k at_ : Nat} (h : (namedR nb l k at_).1.2 = true) : prB (namedR nb l k at_).1.1 = true := by
  unfold namedR at h ⊢
  split
  · next hb => rw [if_pos hb] at h; simp at h
  · next hb => rw [if_neg hb] at h; simp only [Bool.and_eq_true] at h; exact h.1
theorem prB_small {h : HP} (hp : prB h = true) : h.n.size ≤ 40 ∧ h.v.size ≤ 40 := by
  unfold prB at hp
  simp only [Bool.and_eq_true, decide_eq_true_eq] at hp
  exact ⟨hp.1.2, hp.2⟩
theorem chOk_add {log : List Ch} {h : HP} {lim : Int} (hok : chOk log) (hp : prB h = true) : chOk (log ++ [⟨h, lim⟩]) := by
  obtain ⟨a, b⟩ := prB_small hp
  intro c hc
  rcases List.mem_append.1 hc with hc | hc
  · exact hok c hc
  · simp only [List.mem_cons, List.not_mem_nil, or_false] at hc
    subst hc
    exact ⟨by simp only; omega, by simp only; omega⟩

set_option maxRecDepth 100000 in
set_option maxHeartbeats 3200000 in
theorem upair_add (ub xb g off cb : Nat) (l : List UInt8) (at_ : Nat) (lv : Value) (log : List Ch) (lim most : Nat) (no : Bool) (w : World) (h : TxP w xb g off cb l at_ false) (hu : UnB w ub lv lim most no log) (ha : UApart ub xb g lv) (hl : l.length ≤ 1048576) (hlt : at_ < l.length) (h1 : 64 ≤ l[at_].toNat) (h2 : l[at_].toNat < 128) (hll : log.length ≤ 1073000000) (hnb : (numB log).length ≤ 40) (hnl : ∀ x ∈ numB log, x.n.size ≤ 1048576) :
    Calls Tryz.prog 90 #[.pointer (some ⟨ub, 0, none⟩), .pointer (some ⟨xb, 0, none⟩)] w fun e w' =>
      UPaired w w' ub xb g off cb l lv lim most no (((namedR (numB log) l 6 at_).1, if (namedR (numB log) l 6 at_).1.2 then log ++ [⟨(namedR (numB log) l 6 at_).1.1, lim⟩] else log), (namedR (numB log) l 6 at_).2) e := by
  have hxl := lt_of_block h.tx.blk
  have hul := lt_of_block hu.blk
  have hb0 : Below w.heap.size w (w.alloc (.cells #[.string ⟨#[]⟩, .string ⟨#[]⟩] 62)).drew := by
    have hb1 : Below w.heap.size w (w.alloc (.cells #[.string ⟨#[]⟩, .string ⟨#[]⟩] 62)) := (Below.refl _ _).alloc (Nat.le_refl _) _
    exact ⟨hb1.os, hb1.tape, hb1.output, hb1.size, hb1.block⟩
  have hr0 : (w.alloc (.cells #[.string ⟨#[]⟩, .string ⟨#[]⟩] 62)).drew.heap[w.heap.size]? = some (.cells #[.string ⟨#[]⟩, .string ⟨#[]⟩] 62 (0, 0)) := heap_alloc_new w _
  obtain ⟨x0, x1, x2⟩ := h.no
  obtain ⟨hcb, xc⟩ := h.cell hlt
  have hgl := h.lt
  generalize l[at_].toNat = c at xc h1 h2
  have hu0 := hu.below hb0
  have HN := hide (named_any ub xb g off cb 6 l at_ lv log _ (h.below hb0) hl (by omega) hu0.cells.1 hu0.row hu0.ok (by omega) ha.ux ha.lx hnb hnl)
  have hpr := named_pr (nb := numB log) (l := l) (k := 6) (at_ := at_)
  generalize namedR (numB log) l 6 at_ = q at HN hpr ⊢
  obtain ⟨⟨⟨qn, qv⟩, qo⟩, qa, qno⟩ := q
  simp only at HN hpr ⊢
  have HPR := hide hpr
  have HB0 := hide hb0
  have HR0 := hide hr0
  have HU0 := hide hu0
  have HA := hide ha
  clear h hb0 hr0 hnb hnl hu hu0 hpr ha
  have HFIN : Hid (∀ (w4 : World) (lv' : Value) (log' : List Ch), TxP w4 xb g off cb l qa qno → UnB w4 ub lv' lim most no log' → (∀ j, lv'.ownBlock = some j → lv.ownBlock = some j ∨ w.heap.size ≤ j) → Chg (fun j => j = xb ∨ j = ub ∨ lv.ownBlock = some j) w w4 → w4.heap[w.heap.size]? = some (.cells #[.string ⟨#[]⟩, .string ⟨#[]⟩] 62 (0, 0)) → (if qo then log ++ [⟨⟨qn, qv⟩, lim⟩] else log) = log' →
      UPaired w ((w4.setCell ⟨w.heap.size, 0, none⟩ (.string qn)).setCell ⟨w.heap.size, 1, none⟩ (.string qv)) ub xb g off cb l lv lim most no (((⟨qn, qv⟩, qo), if qo then log ++ [⟨⟨qn, qv⟩, lim⟩] else log), (qa, qno)) (.returned (.tuple #[.agg #[.string qn, .string qv], .bool qo])) ∧
      ((w4.setCell ⟨w.heap.size, 0, none⟩ (.string qn)).setCell ⟨w.heap.size, 1, none⟩ (.string qv)).cell? ⟨w.heap.size, 0, none⟩ = some (.string qn) ∧ ((w4.setCell ⟨w.heap.size, 0, none⟩ (.string qn)).setCell ⟨w.heap.size, 1, none⟩ (.string qv)).cell? ⟨w.heap.size, 1, none⟩ = some (.string qv)) := by
    intro w4 lv' log' ht hu hown hch hr hlog
    have hcs : Chg (fun j => j = w.heap.size) w4 ((w4.setCell ⟨w.heap.size, 0, none⟩ (.string qn)).setCell ⟨w.heap.size, 1, none⟩ (.string qv)) := ((Chg.refl (fun j => j = w.heap.size) w4).setCell (p := ⟨w.heap.size, 0, none⟩) (Or.inr rfl) _).setCell (p := ⟨w.heap.size, 1, none⟩) (Or.inr rfl) _
    obtain ⟨y0, y1⟩ := pair_blk (v0 := .string qn) (v1 := .string qv) (block_setCell (i := 1) (u := .string qv) (block_setCell (i := 0) (u := .string qn) hr))
    refine ⟨⟨rfl, ht.chg hcs (by omega) (by omega), ⟨lv', ?_, hown⟩, hch.trans (hcs.mono fun j _ e => Or.inl (by omega))⟩, y0, y1⟩
    rw [hlog]
    exact hu.chg hcs (by omega) (fun j hj e => by subst e; exact owns_ne hu.row hr (by decide) hj)
  go_enter Tryz.func90, Tryz.ntmps90
  go_wp2_with fail
  go_region
  all_goals (go_wp2_with fail)
  all_goals (refine HN.out.mono ?_)
  rintro e w2 ⟨rfl, ht2, hc2⟩
  have hr2 := (hc2.block _ (lt_of_block HR0.out) (by omega)).trans HR0.out
  have hu2 := HU0.out.chg hc2 HA.out.ux (fun j hj e => HA.out.lx (by rw [← e]; exact hj))
  have hch2 : Chg (fun j => j = xb ∨ j = ub ∨ lv.ownBlock = some j) w w2 := (Chg.of_below HB0.out).trans (hc2.mono fun j _ e => Or.inr (Or.inl e))
  have hsz2 := hc2.size
  have hz0 := HB0.out.size
  have hrl2 := lt_of_block hr2
  have hul2 := lt_of_block hu2.blk
  have hb3 : Below w2.heap.size w2 (w2.alloc (.cells #[.string qn, .string qv] 62)) := (Below.refl _ _).alloc (Nat.le_refl _) _
  have hh3 : (w2.alloc (.cells #[.string qn, .string qv] 62)).heap[w2.heap.size]? = some (.cells #[.string qn, .string qv] 62 (0, 0)) := heap_alloc_new w2 _
  have HT3 := hide (ht2.below hb3)
  have HU3 := hide (hu2.below hb3)
  have HR3 := hide (kept_told hr2 hb3)
  have HC3 := hide (hch2.then_below hb3)
  have HH3 := hide hh3
  obtain ⟨z0, z1⟩ := pair_blk hr2
  have rf : ∀ o, w2.frozen? ⟨w.heap.size, o, none⟩ = false := fun o => by simp [World.frozen?, hr2]
  have rf0 := rf 0
  have rf1 := rf 1
  have HT2 := hide ht2
  have HU2 := hide hu2
  have HR2 := hide hr2
  have HC2 := hide hch2
  clear ht2 hc2 hr2 hu2 hch2 hb3 hh3 rf HN
  cases qo with
  | false =>
    obtain ⟨q0, q1, q2⟩ := HFIN.out _ lv log HT2.out HU2.out (fun j hj => Or.inl hj) HC2.out HR2.out rfl
    have hbx := (Below.refl ((w2.setCell ⟨w.heap.size, 0, none⟩ (.string qn)).setCell ⟨w.heap.size, 1, none⟩ (.string qv)).heap.size ((w2.setCell ⟨w.heap.size, 0, none⟩ (.string qn)).setCell ⟨w.heap.size, 1, none⟩ (.string qv))).alloc (Nat.le_refl _) (.cells #[.string qn, .string qv] 62)
    have hrl3 : w.heap.size < ((w2.setCell ⟨w.heap.size, 0, none⟩ (.string qn)).setCell ⟨w.heap.size, 1, none⟩ (.string qv)).heap.size := by simpa using hrl2
    have q3 := (hbx.cell (p := ⟨w.heap.size, 0, none⟩) hrl3).trans q1
    have q4 := (hbx.cell (p := ⟨w.heap.size, 1, none⟩) hrl3).trans q2
    have HQ := hide (q0.below hbx)
    clear q0 q1 q2 hbx hrl3
    go_wp2
    refine bodyPost_ret (v := .tuple #[.agg #[.string qn, .string qv], .bool false]) ?_ rfl HQ.out
    simp [results, Tryz.results90, go_sem, q3, q4]
  | true =>
    have hd : ∀ w3 : World, Below w3.heap.size w3 w3.drew := fun w3 => ⟨rfl, rfl, rfl, Nat.le_refl _, fun _ _ => rfl⟩
    obtain ⟨w3, hw3⟩ : ∃ w3, w3 = w2.alloc (.cells #[.string qn, .string qv] 62) := ⟨_, rfl⟩
    obtain ⟨N2, hN2⟩ : ∃ N2, N2 = w2.heap.size := ⟨_, rfl⟩
    rw [← hw3] at HT3 HU3 HR3 HC3 HH3
    rw [← hN2] at HH3
    have HN2 := hide hN2
    have hUd := HU3.out.below (hd w3)
    have hpd := padded_any ub #[lv, .int .i64 lim, .int .i64 most, .bool no] 195 lv log lim ⟨qn, qv⟩ w3.drew hUd.blk (by decide) rfl rfl hUd.row (by omega)
    simp only at hpd
    have HEND : Hid (∀ (w4 : World) (lv' : Value), TabTo w3.drew w4 ub #[lv, .int .i64 lim, .int .i64 most, .bool no] (#[lv, .int .i64 lim, .int .i64 most, .bool no].setIfInBounds 0 lv') 195 lv lv' (log ++ [⟨⟨qn, qv⟩, lim⟩]) →
        TxP w4 xb g off cb l qa qno ∧ UnB w4 ub lv' lim most no (log ++ [⟨⟨qn, qv⟩, lim⟩]) ∧ (∀ j, lv'.ownBlock = some j → lv.ownBlock = some j ∨ w.heap.size ≤ j) ∧ Chg (fun j => j = xb ∨ j = ub ∨ lv.ownBlock = some j) w w4 ∧ w4.heap[w.heap.size]? = some (.cells #[.string ⟨#[]⟩, .string ⟨#[]⟩] 62 (0, 0)) ∧ w4.heap[N2]? = some (.cells #[.string qn, .string qv] 62 (0, 0))) := by
      intro w4 lv' ht
      have hrd : w3.drew.heap[w.heap.size]? = _ := HR3.out
      have hhd : w3.drew.heap[N2]? = _ := HH3.out
      have hlR : lv.ownBlock ≠ some w.heap.size := fun e => owns_ne hUd.row hrd (by decide) e
      have hlN : lv.ownBlock ≠ some N2 := fun e => owns_ne hUd.row hhd (by decide) e
      have hn2 := HN2.out
      have hs3 : w.heap.size ≤ w3.drew.heap.size := HC3.out.size
      refine ⟨(HT3.out.below (hd w3)).chg ht.chg ?_ ?_, ⟨ht.blk, ht.row, chOk_add HU3.out.ok (HPR.out rfl)⟩, fun j hj => ?_, (HC3.out.then_below (hd w3)).trans (ht.chg.mono fun j _ e => Or.inr (Or.inr e)), ?_, ?_⟩
      · rintro (e | e)
        · exact HA.out.ux e.symm
        · exact HA.out.lx e
      · rintro (e | e)
        · exact HA.out.ug e.symm
        · exact HA.out.lg e
      · rcases ht.own j hj with a | a
        · exact Or.inl a
        · exact Or.inr (by omega)
      · rw [ht.chg.block _ (lt_of_block hrd) (by rintro (e | e); · omega
                                                 · exact hlR e)]
        exact hrd
      · rw [ht.chg.block _ (lt_of_block hhd) (by rintro (e | e); · omega
                                                 · exact hlN e)]
        exact hhd
    have HPD := hide hpd
    obtain ⟨h0, h1'⟩ := pair_blk HH3.out
    clear hpd hUd hd HT3 HU3 HR3 HC3
    go_wp2
    rw [← hw3, ← hN2]
    clear hw3 hN2
    go_region_law (refine step_call rfl 144 Tryz.f144 Tryz.func144 (by kernel_rfl) rfl [.tmp 60, .tmp 61] _ rfl [.pointer (some ⟨ub, 0, none⟩), .agg #[.string qn, .string qv]] (by simp [Act.eval, Act.put]) HPD.out ?_; rintro e w4 ⟨rfl, lv', ht4⟩; refine ⟨_, rfl, ?_⟩; obtain ⟨e1, e2, e3, e4, e5, e6⟩ := HEND.out w4 lv' ht4; obtain ⟨q0, q1, q2⟩ := HFIN.out _ lv' _ e1 e2 e3 e4 e5 rfl; have HQ := hide q0; obtain ⟨s0, s1⟩ := pair_blk e6; obtain ⟨s2, s3⟩ := pair_blk e5; have g0 : w4.frozen? ⟨w.heap.size, 0, none⟩ = false := (by simp [World.frozen?, e5]); have g1 : w4.frozen? ⟨w.heap.size, 1, none⟩ = false := (by simp [World.frozen?, e5]); have hl5 := lt_of_block e5; clear ht4 e1 e2 e3 e4 e5 e6 q0)
    all_goals go_wp2
    all_goals refine bodyPost_ret (v := .tuple #[.agg #[.string qn, .string qv], .bool true]) ?_ rfl HQ.out
    all_goals simp [results, Tryz.results90, go_sem, q1, q2]

theorem log_num {log : List Ch} (h : szT (tabL log) ≤ 256) : (numB log).length ≤ 40 ∧ ∀ x ∈ numB log, x.n.size ≤ 1048576 := by
  rw [numB_tab]
  have h8 := szT_len (tabL log)
  refine ⟨by rw [numd_length]; omega, fun x hx => ?_⟩
  have := (numd_small h x hx).1
  omega
theorem UnB.to {w w' : World} {ub xb : Nat} {lv : Value} {lim most : Nat} {no : Bool} {log : List Ch} (h : UnB w ub lv lim most no log) (hc : Chg (fun j => j = xb) w w') (hx : ub ≠ xb) (hl : lv.ownBlock ≠ some xb) : UnB w' ub lv lim most no log :=
  h.chg hc hx (fun j hj e => hl (by rw [← e]; exact hj))
/-- pair, all of it. -/
theorem upair_any (ub xb g off cb : Nat) (l : List UInt8) (at_ : Nat) (lv : Value) (log : List Ch) (lim most : Nat) (no : Bool) (w : World) (h : TxP w xb g off cb l at_ false) (hu : UnB w ub lv lim most no log) (ha : UApart ub xb g lv) (hl : l.length ≤ 1048576) (hlt : at_ < l.length) (hll : log.length ≤ 1073000000) (hsz : szT (tabL log) ≤ 256) :
    Calls Tryz.prog 90 #[.pointer (some ⟨ub, 0, none⟩), .pointer (some ⟨xb, 0, none⟩)] w fun e w' => UPaired w w' ub xb g off cb l lv lim most no (pairR log lim l at_) e := by
  obtain ⟨hnb, hnl⟩ := log_num hsz
  have hone : (oneB l at_ false).1 = l[at_].toNat := (oneB_cons false (List.drop_eq_getElem_cons hlt)).1 ▸ rfl
  have hcx : ∀ {w' : World}, Chg (fun j => j = xb) w w' → Chg (fun j => j = xb ∨ j = ub ∨ lv.ownBlock = some j) w w' := fun hc => hc.mono fun j _ e => Or.inl e
  unfold pairR
  rw [hone]
  by_cases c1 : 128 ≤ l[at_].toNat
  · rw [if_pos c1]
    by_cases hb : ((cntR l 7 at_ false).2.2 || decide ((cntR l 7 at_ false).1 < 1) || decide ((numB log).length < (cntR l 7 at_ false).1)) = true
    · rw [if_pos hb]
      refine (upair_old ub xb g off cb l at_ lv log w h hl hlt c1 hu.cells.1 hu.row hu.ok (by omega) ha.ux ha.lx hnb noHP false (by rw [if_pos hb])).mono ?_
      rintro e w' ⟨rfl, ht, hc⟩
      exact ⟨rfl, ht, ⟨lv, hu.to hc ha.ux ha.lx, fun j hj => Or.inl hj⟩, hcx hc⟩
    · rw [if_neg hb]
      refine (upair_old ub xb g off cb l at_ lv log w h hl hlt c1 hu.cells.1 hu.row hu.ok (by omega) ha.ux ha.lx hnb _ true (by rw [if_neg hb])).mono ?_
      rintro e w' ⟨rfl, ht, hc⟩
      exact ⟨rfl, ht, ⟨lv, hu.to hc ha.ux ha.lx, fun j hj => Or.inl hj⟩, hcx hc⟩
  · rw [if_neg c1]
    by_cases c2 : 64 ≤ l[at_].toNat
    · rw [if_pos c2]
      exact upair_add ub xb g off cb l at_ lv log lim most no w h hu ha hl hlt c2 (by omega) hll hnb hnl
    · rw [if_neg c2]
      by_cases c3 : 16 ≤ l[at_].toNat
      · rw [if_pos c3]
        refine (upair_bad ub xb g off cb l at_ w h hl hlt c3 (by omega)).mono ?_
        rintro e w' ⟨rfl, ht, hb⟩
        exact ⟨rfl, ht, ⟨lv, hu.below hb, fun j hj => Or.inl hj⟩, Chg.of_below hb⟩
      · rw [if_neg c3]
        refine (upair_four ub xb g off cb l at_ lv log w h hl hlt (by omega) hu.cells.1 hu.row hu.ok (by omega) ha.ux ha.lx hnb hnl).mono ?_
        rintro e w' ⟨rfl, ht, hc⟩
        exact ⟨rfl, ht, ⟨lv, hu.to hc ha.ux ha.lx, fun j hj => Or.inl hj⟩, hcx hc⟩
end Go.Proofs.YtghongdbohjaaaaGreatDoor
/-
  (*sluiceref.Unpacker).limits.
-/
namespace Go.Proofs.YtghongdbohjaaaaGreatDoor
set_option linter.unusedVariables false
set_option linter.unusedSimpArgs false
open Go.RowKit

/-- An unpacker and a text, behind some of their calls: from w on. -/
structure UkS (w wr : World) (ub xb g off cb : Nat) (l : List UInt8) (lv : Value) (lim most : Nat) (no : Bool) (log : List Ch) (at_ : Nat) (tno : Bool) : Prop where
  tx : TxP wr xb g off cb l at_ tno
  un : ∃ lv', UnB wr ub lv' lim most no log ∧ (∀ j, lv'.ownBlock = some j → lv.ownBlock = some j ∨ w.heap.size ≤ j)
  chg : Chg (fun j => j = xb ∨ j = ub ∨ lv.ownBlock = some j) w wr
theorem UkS.after {w wr w' : World} {ub xb g off cb : Nat} {l : List UInt8} {lv lvk : Value} {lim lim2 most : Nat} {no : Bool} {log log2 : List Ch} {at_ at2 : Nat} {tno tno2 : Bool} (h : UkS w wr ub xb g off cb l lv lim most no log at_ tno) (hk : ∀ j, lvk.ownBlock = some j → lv.ownBlock = some j ∨ w.heap.size ≤ j)
    (ht : TxP w' xb g off cb l at2 tno2) (hu : ∃ lv', UnB w' ub lv' lim2 most no log2 ∧ (∀ j, lv'.ownBlock = some j → lvk.ownBlock = some j ∨ wr.heap.size ≤ j)) (hc : Chg (fun j => j = xb ∨ j = ub ∨ lvk.ownBlock = some j) wr w') : UkS w w' ub xb g off cb l lv lim2 most no log2 at2 tno2 := by
  obtain ⟨lv', h1, h2⟩ := hu
  have hsz := h.chg.size
  refine ⟨ht, ⟨lv', h1, fun j hj => ?_⟩, h.chg.trans (hc.mono fun j _ e => ?_)⟩
  · rcases h2 j hj with a | a
    · exact hk j a
    · exact Or.inr (by omega)
  · rcases e with e | e | e
    · exact Or.inr (Or.inl e)
    · exact Or.inr (Or.inr (Or.inl e))
    · rcases hk j e with a | a
      · exact Or.inr (Or.inr (Or.inr a))
      · exact Or.inl a
/-- What lies apart stays so. -/
theorem UApart.later {w wr : World} {ub xb g : Nat} {lv lvk : Value} (h : UApart ub xb g lv) (hx : xb < w.heap.size) (hg : g < w.heap.size) (hk : ∀ j, lvk.ownBlock = some j → lv.ownBlock = some j ∨ w.heap.size ≤ j) : UApart ub xb g lvk := by
  refine ⟨h.ux, fun e => ?_, h.ug, fun e => ?_⟩
  · rcases hk _ e with a | a
    · exact h.lx a
    · omega
  · rcases hk _ e with a | a
    · exact h.lg a
    · omega

theorem limC_eq (n : Nat) : limC n = ⟨⟨⟨#[]⟩, ⟨#[]⟩⟩, (n : Int)⟩ := rfl

set_option maxRecDepth 100000 in
set_option maxHeartbeats 3200000 in
theorem limits_any (ub xb g off cb : Nat) (l : List UInt8) (lv : Value) (log : List Ch) (lim most : Nat) (no : Bool) (w : World) (h : TxP w xb g off cb l 0 false) (hu : UnB w ub lv lim most no log) (ha : UApart ub xb g lv) (hl : l.length ≤ 1048576) (hm : most ≤ 256) (hll : log.length ≤ 1072000000) :
    Calls Tryz.prog 89 #[.pointer (some ⟨ub, 0, none⟩), .pointer (some ⟨xb, 0, none⟩)] w fun e w' =>
      (∃ log' lim' a, limR most l 3 log lim 0 = some (log', lim', a) ∧ e = .returned (.bool true) ∧ UkS w w' ub xb g off cb l lv lim' most no log' a false ∧ log'.length ≤ log.length + 2) ∨
      (limR most l 3 log lim 0 = none ∧ e = .returned (.bool false) ∧ ∃ log' lim' a b, UkS w w' ub xb g off cb l lv lim' most no log' a b ∧ log'.length ≤ log.length + 2) := by
  have hxl := lt_of_block h.tx.blk
  have hgl := h.lt
  have HA := hide ha
  have HST : Hid (UkS w w ub xb g off cb l lv lim most no log 0 false) := ⟨h, ⟨lv, hu, fun j hj => Or.inl hj⟩, Chg.refl _ _⟩
  obtain ⟨R, hR⟩ : ∃ R, R = limR most l 3 log lim 0 := ⟨_, rfl⟩
  rw [← hR]
  have HR := hide hR
  clear h hu ha hR
  go_enter Tryz.func89, Tryz.ntmps89
  go_wp2_with fail
  go_loopw [5] (fun i wr => ∃ (k : Nat) (logk : List Ch) (limk atk : Nat), k ≤ 2 ∧ i = .int .i64 k ∧ R = limR most l (3 - k) logk limk atk ∧ UkS w wr ub xb g off cb l lv limk most no logk atk false ∧ logk.length ≤ log.length + k) (fun i _ => 3 - (intOf i).toNat)
  case atStart => exact ⟨0, log, lim, 0, by omega, rfl, HR.out, HST.out, Nat.le_refl _⟩
  case round =>
    obtain ⟨k, logk, limk, atk, hk, rfl, hRk, hst, hlk⟩ := hrel
    obtain ⟨lvk, hun, hown⟩ := hst.un
    obtain ⟨f, hf⟩ : ∃ f, 3 - k = f + 1 := ⟨2 - k, by omega⟩
    have hfk : f = 2 - k := by omega
    rw [hf] at hRk
    have hRk2 : R = if atk < l.length ∧ (oneB l atk false).1 / 32 = 1 then
        (if (cntR l 5 atk false).2.2 || decide (most < (cntR l 5 atk false).1) || decide (f = 0) then none
         else limR most l f (logk ++ [limC (cntR l 5 atk false).1]) (cntR l 5 atk false).1 (cntR l 5 atk false).2.1)
        else some (logk, limk, atk) := by rw [hRk, limR]
    clear hRk
    obtain ⟨x0, x1, x2⟩ := hst.tx.no
    obtain ⟨u0, u1, u2, u3, uf⟩ := hun.cells
    have hatl := hst.tx.at_
    have HSTK := hide hst
    have HUN := hide hun
    have HOWN := hide hown
    have HRK := hide hRk2
    clear hst hun hown hRk2 uf u0 u1 u3
    by_cases hlt : atk < l.length
    · obtain ⟨hcb, xc⟩ := HSTK.out.tx.cell hlt
      have hone : (oneB l atk false).1 = l[atk].toNat := (oneB_cons false (List.drop_eq_getElem_cons hlt)).1 ▸ rfl
      have hx255 : l[atk].toNat ≤ 255 := Nat.le_of_lt_succ l[atk].toNat_lt
      have hrk := HRK.out
      rw [hone] at hrk
      generalize l[atk].toNat = x at xc hone hx255 hrk
      have hd1 : decide ((atk : Int) < (l.length : Int)) = true := by simp; omega
      by_cases hx : x / 32 = 1
      · rw [if_pos ⟨hlt, hx⟩] at hrk
        have hd2 : ((x : Int) / 32 == 1) = true := by
          have : (x : Int) / 32 = 1 := by omega
          simp [this]
        have HCNT := hide (fun (wq : World) (hb : Below wr.heap.size wr wq) => (HSTK.out.tx.below hb).count hl 5 (by omega))
        have hcle := cntR_le l 5 atk false hatl
        generalize cntR l 5 atk false = q at HCNT hrk hcle
        obtain ⟨n, a1, no1⟩ := q
        simp only at HCNT hrk hcle
        have HRK2 := hide hrk
        clear hrk hone hx HRK
        go_wp2
        go_quiet (fail)
        go_wp2_with fail
        refine (HCNT.out _ (bel_drewN (n := nq) (Below.refl _ _))).mono ?_
        rintro e w1 ⟨rfl, ht1, hc1⟩
        have hcq : Chg (fun j => j = xb) wr w1 := (Chg.of_below (bel_drewN (n := nq) (Below.refl _ _))).trans (hc1.mono fun j _ e => Or.inr e)
        have hapk := HA.out.later (w := w) (wr := wr) hxl hgl HOWN.out
        have hu1 := HUN.out.to hcq hapk.ux hapk.lx
        obtain ⟨y0, y1, y2⟩ := ht1.no
        obtain ⟨v0, v1, v2, v3, vf⟩ := hu1.cells
        have hst1 : UkS w w1 ub xb g off cb l lv limk most no logk a1 no1 := HSTK.out.after HOWN.out ht1 ⟨lvk, hu1, fun j hj => Or.inl hj⟩ (hcq.mono fun j _ e => Or.inl e)
        have HST1 := hide hst1
        have HU1 := hide hu1
        have HT1 := hide ht1
        have HAPK := hide hapk
        clear hst1 hu1 ht1 hc1 hcq x0 x1 x2 xc v0 v1 v3 vf y0 y1 HCNT u2 hapk
        cases hbad : (no1 || decide (most < n) || decide (f = 0)) with
        | true =>
          have hfin := HRK2.out
          rw [hbad, if_pos rfl] at hfin
          have HFIN := hide hfin
          clear hfin
          cases no1 with
          | true =>
            clear hbad
            go_wp2
            go_ret
            exact Or.inr ⟨HFIN.out, rfl, _, _, _, _, HST1.out, by omega⟩
          | false =>
            by_cases hmn : most < n
            · clear hbad
              go_wp2
              go_ret
              exact Or.inr ⟨HFIN.out, rfl, _, _, _, _, HST1.out, by omega⟩
            · have hk2 : 1 < k := by
                simp [hmn] at hbad
                omega
              clear hbad
              go_wp2
              go_ret
              exact Or.inr ⟨HFIN.out, rfl, _, _, _, _, HST1.out, by omega⟩
        | false =>
          have hno : no1 = false := by cases no1 <;> simp_all
          subst hno
          have hmn : n ≤ most := by simp at hbad; omega
          have hk2 : k ≤ 1 := by simp at hbad; omega
          have hfin := HRK2.out
          rw [hbad, if_neg (by decide)] at hfin
          have HFIN := hide hfin
          have HPT := hide (ptold_any ub #[lvk, .int .i64 limk, .int .i64 most, .bool no] 195 lvk logk limk n w1 HU1.out.blk (by decide) rfl rfl HU1.out.row (by omega))
          clear hbad hfin HRK2
          go_wp2_with fail
          refine HPT.out.mono ?_
          rintro e w2 ⟨rfl, lv2, ht2⟩
          have hst2 : UkS w w2 ub xb g off cb l lv n most no (logk ++ [limC n]) a1 false := by
            refine HST1.out.after HOWN.out (HT1.out.chg ht2.chg ?_ ?_) ⟨lv2, ⟨ht2.blk, ht2.row, ok_lim HU1.out.ok n⟩, ht2.own⟩ (ht2.chg.mono fun j _ e => Or.inr e)
            · rintro (e | e)
              · exact HAPK.out.ux e.symm
              · exact HAPK.out.lx e
            · rintro (e | e)
              · exact HAPK.out.ug e.symm
              · exact HAPK.out.lg e
          have HST2 := hide hst2
          clear hst2 ht2 y2 v2
          go_wp2
          go_roundw
          case rel => exact ⟨k + 1, logk ++ [limC n], n, a1, by omega, by go_num, by rw [HFIN.out, show 3 - (k + 1) = f from by omega], HST2.out, by simp; omega⟩
          case measure => simp [intOf]; omega
      · have hrk' := hrk
        rw [if_neg (fun h => hx h.2)] at hrk'
        have hd2 : ((x : Int) / 32 == 1) = false := by
          have : ¬ (x : Int) / 32 = 1 := by omega
          simp [this]
        have HFIN := hide hrk'
        clear hrk hrk' hone hx HRK
        go_wp2
        go_quiet (fail)
        go_wp2
        go_ret
        exact Or.inl ⟨_, _, _, HFIN.out, rfl, ⟨HSTK.out.tx.below (bel_drewN (Below.refl _ _)), ⟨lvk, HUN.out.below (bel_drewN (Below.refl _ _)), HOWN.out⟩, HSTK.out.chg.then_below (bel_drewN (Below.refl _ _))⟩, by omega⟩
    · have hrk := HRK.out
      rw [if_neg (fun h => hlt h.1)] at hrk
      have hd1 : decide ((atk : Int) < (l.length : Int)) = false := by simp; omega
      have HFIN := hide hrk
      clear hrk HRK
      go_wp2
      go_quiet (fail)
      go_wp2
      go_ret
      exact Or.inl ⟨_, _, _, HFIN.out, rfl, ⟨HSTK.out.tx.below (bel_drewN (Below.refl _ _)), ⟨lvk, HUN.out.below (bel_drewN (Below.refl _ _)), HOWN.out⟩, HSTK.out.chg.then_below (bel_drewN (Below.refl _ _))⟩, by omega⟩
end Go.Proofs.YtghongdbohjaaaaGreatDoor
/-
  (*sluiceref.Unpacker).Unpack.
-/
namespace Go.Proofs.YtghongdbohjaaaaGreatDoor
set_option linter.unusedVariables false
set_option linter.unusedSimpArgs false
open Go.RowKit

theorem lim_small (most : Nat) (l : List UInt8) (f : Nat) : ∀ (log : List Ch) (lim at_ : Nat) {log' lim' a}, limR most l f log lim at_ = some (log', lim', a) → szT (tabL log) ≤ 256 → lim ≤ 256 → most ≤ 256 → szT (tabL log') ≤ 256 ∧ lim' ≤ 256 := by
  induction f with
  | zero => intro log lim at_ log' lim' a h; simp [limR] at h
  | succ f ih =>
    intro log lim at_ log' lim' a h h1 h2 h3
    rw [limR] at h
    split at h
    · split at h
      · cases h
      · next hb =>
        have hn : (cntR l 5 at_ false).1 ≤ most := by
          simp only [Bool.or_eq_true, decide_eq_true_eq, not_or] at hb
          omega
        refine ih _ _ _ h ?_ (by omega) h3
        rw [tabL_lim]
        exact Nat.le_trans (szT_shr _ _) h1
    · simp only [Option.some.injEq, Prod.mk.injEq] at h
      obtain ⟨rfl, rfl, rfl⟩ := h
      exact ⟨h1, h2⟩
theorem pairR_small {log : List Ch} {lim : Nat} {l : List UInt8} {at_ : Nat} (h1 : szT (tabL log) ≤ 256) (h2 : lim ≤ 256) : szT (tabL (pairR log lim l at_).1.2) ≤ 256 ∧ (pairR log lim l at_).1.2.length ≤ log.length + 1 := by
  unfold pairR
  split
  · split
    · exact ⟨h1, by simp only; omega⟩
    · exact ⟨h1, by simp only; omega⟩
  · split
    · simp only
      split
      · next hq =>
        rw [tabL_add (named_pr hq)]
        exact ⟨szT_addT h1 h2, by simp⟩
      · exact ⟨h1, by omega⟩
    · split
      · exact ⟨h1, by simp only; omega⟩
      · exact ⟨h1, by simp only; omega⟩
theorem named_no {nb : List HP} {l : List UInt8} {k at_ : Nat} (h : (namedR nb l k at_).1.2 = true) : (namedR nb l k at_).2.2 = false := by
  unfold namedR at h ⊢
  split
  · next hb => rw [if_pos hb] at h; simp at h
  · next hb => rw [if_neg hb] at h; simp only [Bool.and_eq_true, Bool.not_eq_true'] at h; exact h.2
theorem pairR_no {log : List Ch} {lim : Nat} {l : List UInt8} {at_ : Nat} (h : (pairR log lim l at_).1.1.2 = true) : (pairR log lim l at_).2.2 = false := by
  unfold pairR at h ⊢
  split
  · next c1 =>
    rw [if_pos c1] at h
    split
    · next c2 => rw [if_pos c2] at h; simp at h
    · next c2 => simp only [Bool.or_eq_true, not_or, Bool.not_eq_true] at c2; exact c2.1.1
  · next c1 =>
    rw [if_neg c1] at h
    split
    · next c2 => rw [if_pos c2] at h; exact named_no h
    · next c2 =>
      rw [if_neg c2] at h
      split
      · rfl
      · next c3 => rw [if_neg c3] at h; exact named_no h

/-- The end of the document's Unpack. -/
def RUnpacked (w w' : World) (ub : Nat) (lv : Value) (lim most : Nat) (log : List Ch) (b : List UInt8) (e : Ending) : Prop :=
  Chg (fun j => j = ub ∨ lv.ownBlock = some j) w w' ∧
  ((unpackR most log lim b = none ∧ e = .returned (.tuple #[.slice none 0 0, .int .i64 13]) ∧ ∃ lv' lim' log', UnB w' ub lv' lim' most true log' ∧ (∀ j, lv'.ownBlock = some j → lv.ownBlock = some j ∨ w.heap.size ≤ j)) ∨
   ∃ hs log' lim' v lv', unpackR most log lim b = some (hs, log', lim') ∧ e = .returned (.tuple #[v, .int .i64 0]) ∧ w'.ownsRow w.heap.size 62 2 v hs.length (hdCells hs) ∧ UnB w' ub lv' lim' most false log' ∧ (∀ j, lv'.ownBlock = some j → lv.ownBlock = some j ∨ w.heap.size ≤ j) ∧ log'.length ≤ log.length + 12 ∧ szT (tabL log') ≤ 256 ∧ lim' ≤ 256)

/-- What holds between two pairs of Unpack. -/
structure UlS (w wr : World) (ub xb g off cb : Nat) (l : List UInt8) (lv : Value) (lim most : Nat) (log1 : List Ch) (a1 : Nat) (v : Value) (acc : List HP) (logk : List Ch) (atk : Nat) (ok tno : Bool) : Prop where
  st : UkS w wr ub xb g off cb l lv lim most false logk atk tno
  row : wr.ownsRow 0 62 2 v acc.length (hdCells acc)
  new : ∀ j, v.ownBlock = some j → w.heap.size ≤ j
  le : acc.length ≤ 9
  few : logk.length ≤ log1.length + acc.length
  small : szT (tabL logk) ≤ 256
  yes : ok = true → tno = false ∧ acc.length ≤ 8 ∧ pairsR lim l 9 [] log1 a1 = pairsR lim l (9 - acc.length) acc logk atk
  none : ok = false → pairsR lim l 9 [] log1 a1 = none

def lenOf : Value → Nat
  | .slice _ n _ => n
  | _ => 0

theorem pairs_next {lim : Nat} {l : List UInt8} {acc : List HP} {log : List Ch} {at_ : Nat} (h : acc.length ≤ 8) (hlt : at_ < l.length) : pairsR lim l (9 - acc.length) acc log at_ =
    if (pairR log lim l at_).1.1.2 && decide (acc.length + 1 ≤ 8) then pairsR lim l (9 - (acc.length + 1)) (acc ++ [(pairR log lim l at_).1.1.1]) (pairR log lim l at_).1.2 (pairR log lim l at_).2.1 else none := by
  obtain ⟨f, hf⟩ : ∃ f, 9 - acc.length = f + 1 := ⟨8 - acc.length, by omega⟩
  rw [hf, pairsR, if_neg (by omega), show 9 - (acc.length + 1) = f from by omega]
theorem pairs_stop {lim : Nat} {l : List UInt8} {acc : List HP} {log : List Ch} {at_ : Nat} (h : acc.length ≤ 8) (hlt : l.length ≤ at_) : pairsR lim l (9 - acc.length) acc log at_ = some (acc, log) := by
  obtain ⟨f, hf⟩ : ∃ f, 9 - acc.length = f + 1 := ⟨8 - acc.length, by omega⟩
  rw [hf, pairsR, if_pos hlt]

theorem UnB.dead {w : World} {ub : Nat} {lv : Value} {lim most : Nat} {no : Bool} {log : List Ch} (h : UnB w ub lv lim most no log) : UnB (w.setCell ⟨ub, 3, none⟩ (.bool true)) ub lv lim most true log := by
  have hset : Chg (fun j => j = ub) w (w.setCell ⟨ub, 3, none⟩ (.bool true)) := (Chg.refl (fun j => j = ub) w).setCell (p := ⟨ub, 3, none⟩) (Or.inr rfl) _
  exact ⟨block_setCell h.blk, owns_chg h.row hset (fun j hj e => by subst e; exact owns_ne h.row h.blk (by decide) hj), h.ok⟩

set_option maxRecDepth 100000 in
set_option maxHeartbeats 800000 in
theorem rUnpack_dead (ub : Nat) (lv bv : Value) (lim most : Nat) (log : List Ch) (w : World) (hu : UnB w ub lv lim most true log) :
    Calls Tryz.prog 48 #[.pointer (some ⟨ub, 0, none⟩), bv] w fun e w' => e = .returned (.tuple #[.slice none 0 0, .int .i64 13]) ∧ w' = w := by
  obtain ⟨u0, u1, u2, u3, uf⟩ := hu.cells
  clear hu
  go_enter Tryz.func48, Tryz.ntmps48
  go_wp2
  go_ret2
  exact ⟨rfl, rfl⟩

theorem UkS.keep {S : Nat → Prop} {w wr w' : World} {ub xb g off cb : Nat} {l : List UInt8} {lv : Value} {lim most : Nat} {no : Bool} {log : List Ch} {at_ : Nat} {tno : Bool} (h : UkS w wr ub xb g off cb l lv lim most no log at_ tno) (hc : Chg S wr w') (hS : ∀ j, S j → w.heap.size ≤ j) (hx : xb < w.heap.size) (hg : g < w.heap.size) (hu : ub < w.heap.size)
    (hlv : ∀ lv', UnB wr ub lv' lim most no log → ∀ j, lv'.ownBlock = some j → ¬ S j) : UkS w w' ub xb g off cb l lv lim most no log at_ tno := by
  obtain ⟨lv', h1, h2⟩ := h.un
  refine ⟨h.tx.chg hc (fun e => by have := hS _ e; omega) (fun e => by have := hS _ e; omega), ⟨lv', h1.chg hc (fun e => by have := hS _ e; omega) (hlv lv' h1), h2⟩, h.chg.trans (hc.mono fun j _ e => Or.inl (hS j e))⟩
theorem ul_next {w wr w3 w4 : World} {ub xb g off cb : Nat} {l : List UInt8} {lv lvk v v' : Value} {lim most : Nat} {log1 : List Ch} {a1 : Nat} {acc : List HP} {logk : List Ch} {atk : Nat} {tno : Bool} {h : HP} {o1 o2 : Obj} {e : Ending} {ok' : Bool}
    (hls : UlS w wr ub xb g off cb l lv lim most log1 a1 v acc logk atk true tno) (hun : UnB wr ub lvk lim most false logk) (hown : ∀ j, lvk.ownBlock = some j → lv.ownBlock = some j ∨ w.heap.size ≤ j)
    (hp : UPaired wr w3 ub xb g off cb l lvk lim most false (pairR logk lim l atk) e) (hh : h = (pairR logk lim l atk).1.1.1) (hx : xb < w.heap.size) (hg : g < w.heap.size) (hu : ub < w.heap.size) (hlim : lim ≤ 256) (hlt : atk < l.length)
    (hrow4 : w4.ownsRow 0 62 2 v' (acc.length + 1) (hdCells acc ++ hdCells [h])) (hgr : ((w3.alloc o1).alloc o2).grownBy w4 v.ownBlock) (hfr : v'.ownBlock = v.ownBlock ∨ v'.ownBlock = some (w3.heap.size + 1 + 1)) (hok : ok' = ((pairR logk lim l atk).1.1.2 && decide (acc.length + 1 ≤ 8))) :
    UlS w w4 ub xb g off cb l lv lim most log1 a1 v' (acc ++ [h]) (pairR logk lim l atk).1.2 (pairR logk lim l atk).2.1 ok' (pairR logk lim l atk).2.2 := by
  have hst3 := hls.st.after hown hp.tx hp.un hp.chg
  have hsz3 := hp.chg.size
  have hszr := hls.st.chg.size
  have hrow3 : w3.ownsRow 0 62 2 v acc.length (hdCells acc) := owns_chg hls.row hp.chg (fun j hj e => by
    rcases e with e | e | e
    · subst e; exact owns_ne hls.row hls.st.tx.tx.blk (by decide) hj
    · subst e; exact owns_ne hls.row hun.blk (by decide) hj
    · exact rows_ne hls.row hun.row (by decide) hj e)
  have hc34 : Chg (fun j => v.ownBlock = some j) w3 w4 := (((Chg.refl _ _).alloc o1).alloc o2).trans (Chg.of_grown hgr (fun j hj => Or.inr hj))
  obtain ⟨hs1, hs2⟩ := pairR_small (l := l) (at_ := atk) hls.small hlim
  obtain ⟨h8, heq⟩ := (hls.yes rfl).2
  have hnx := pairs_next (lim := lim) (log := logk) h8 hlt
  rw [← heq, ← hh] at hnx
  have hle9 : acc.length + 1 ≤ 9 := by omega
  have hfew := hls.few
  refine ⟨hst3.keep hc34 (fun j hj => hls.new j hj) hx hg hu (fun lv' hu' j hj e => rows_ne hrow3 hu'.row (by decide) e hj), ?_, fun j hj => ?_, by simpa using hle9, by simp; omega, hs1, fun hyes => ?_, fun hno => ?_⟩
  · rw [hdCells_append, List.length_append]; exact hrow4
  · rcases hfr with e | e
    · rw [e] at hj; exact hls.new j hj
    · rw [e] at hj; simp at hj; omega
  · rw [hok] at hyes
    rw [hyes] at hnx
    simp only [Bool.and_eq_true, decide_eq_true_eq] at hyes
    refine ⟨pairR_no hyes.1, by simpa using hyes.2, ?_⟩
    rw [hnx, if_pos rfl, List.length_append]
    rfl
  · rw [hok] at hno
    rw [hno] at hnx
    rw [hnx, if_neg (by decide)]

set_option maxRecDepth 100000 in
set_option maxHeartbeats 6400000 in
theorem rUnpack_any (ub g off cb : Nat) (b : List UInt8) (lv : Value) (log : List Ch) (lim most : Nat) (w : World) (hu : UnB w ub lv lim most false log) (hb : BytesIn w (.slice (some ⟨g, off, none⟩) b.length cb) b) (hg : g < w.heap.size) (hug : ub ≠ g) (hlg : lv.ownBlock ≠ some g) (hl : b.length ≤ 1048576) (hm : most ≤ 256) (hlim : lim ≤ 256) (hsz : szT (tabL log) ≤ 256) (hll : log.length ≤ 1071000000) :
    Calls Tryz.prog 48 #[.pointer (some ⟨ub, 0, none⟩), .slice (some ⟨g, off, none⟩) b.length cb] w fun e w' => RUnpacked w w' ub lv lim most log b e := by
  obtain ⟨i0, hi, hz0, hz1, hz2⟩ := info_parts Tryz.infoH62
  obtain ⟨u0, u1, u2, u3, uf⟩ := hu.cells
  have hul := lt_of_block hu.blk
  have hlvl : ∀ j, lv.ownBlock = some j → j < w.heap.size := fun j hj => owns_lt hu.row hj
  obtain ⟨w1, hw1⟩ : ∃ w1, w1 = w.alloc (.cells #[.slice (some ⟨g, off, none⟩) b.length cb, .int .i64 0, .bool false] 199) := ⟨_, rfl⟩
  have hb1 : Below w.heap.size w w1 := by rw [hw1]; exact (Below.refl _ _).alloc (Nat.le_refl _) _
  have hx1 : w1.heap[w.heap.size]? = some (.cells #[.slice (some ⟨g, off, none⟩) b.length cb, .int .i64 0, .bool false] 199 (0, 0)) := by rw [hw1]; exact heap_alloc_new w _
  have hby1 : BytesIn w1 (.slice (some ⟨g, off, none⟩) b.length cb) b := hb.chg (Chg.of_below (S := fun _ => False) hb1) (fun _ _ => id)
  have ht1 : TxP w1 w.heap.size g off cb b 0 false := ⟨⟨hx1, Or.inl hby1, fun g' _ _ _ e _ => by simp only [Value.slice.injEq, Option.some.injEq, Addr.mk.injEq] at e; omega⟩, hby1, Nat.lt_of_lt_of_le hg hb1.size, by omega, Nat.zero_le _⟩
  have hu1 := hu.below hb1
  have hap : UApart ub w.heap.size g lv := ⟨by omega, fun e => by have := hlvl _ e; omega, hug, hlg⟩
  have HLI := hide (limits_any ub w.heap.size g off cb b lv log lim most false w1 ht1 hu1 hap hl hm (by omega))
  have HB1 := hide hb1
  have HSM := hide (fun log' lim' a (e : limR most b 3 log lim 0 = some (log', lim', a)) => lim_small most b 3 log lim 0 e hsz hlim hm)
  have HAP := hide hap
  have HLV := hide hlvl
  have hzw : w.heap.size < w1.heap.size := lt_of_block hx1
  have hgl1 : g < w1.heap.size := Nat.lt_of_lt_of_le hg hb1.size
  clear hu hb hu1 ht1 hby1 hx1 hap hlvl hb1 uf u0 u1 u2
  -- from w on, out of what holds from w1 on
  have HCH : Hid (∀ {w' : World}, Chg (fun j => j = w.heap.size ∨ j = ub ∨ lv.ownBlock = some j) w1 w' → Chg (fun j => j = ub ∨ lv.ownBlock = some j) w w') := fun hc => (Chg.of_below HB1.out).trans (hc.mono fun j _ e => by
    rcases e with e | e
    · exact Or.inl (by omega)
    · exact Or.inr e)
  have HOW : Hid (∀ lv' : Value, (∀ j, lv'.ownBlock = some j → lv.ownBlock = some j ∨ w1.heap.size ≤ j) → (∀ j, lv'.ownBlock = some j → lv.ownBlock = some j ∨ w.heap.size ≤ j)) := fun lv' h j hj => by
    rcases h j hj with a | a
    · exact Or.inl a
    · exact Or.inr (by omega)
  go_enter Tryz.func48, Tryz.ntmps48
  go_wp2_with fail
  rw [← hw1]
  clear hw1
  refine HLI.out.mono ?_
  rintro e w2 (⟨log1, lim1, a1, hlim1, rfl, hst, hfew⟩ | ⟨hlim1, rfl, log1, lim1, a1, b1, hst, hfew⟩)
  · obtain ⟨hsm1, hlm1⟩ := HSM.out _ _ _ hlim1
    have hl0 : UlS w1 w2 ub w.heap.size g off cb b lv lim1 most log1 a1 (.slice none 0 0) [] log1 a1 true false := ⟨hst, World.ownsRow_nil _ _ _ _, fun j hj => by simp [Value.ownBlock] at hj, by simp, by simp, hsm1, fun _ => ⟨rfl, by simp, rfl⟩, fun h => by cases h⟩
    have HL0 := hide hl0
    have HLM := hide hlim1
    clear hl0 hst hlim1 HLI HSM
    go_wp2_with fail
    go_loopw [7, 8] (fun v o wr => ∃ acc logk atk ok tno, o = .bool ok ∧ UlS w1 wr ub w.heap.size g off cb b lv lim1 most log1 a1 v acc logk atk ok tno) (fun v _ _ => 10 - lenOf v)
    case atStart => exact ⟨[], log1, a1, true, false, rfl, HL0.out⟩
    case round =>
      obtain ⟨acc, logk, atk, ok, tno, rfl, hls⟩ := hrel
      obtain ⟨lvk, hun, hown⟩ := hls.st.un
      obtain ⟨sv, cv, rfl⟩ := slice_len hls.row
      obtain ⟨x0, x1, x2⟩ := hls.st.tx.no
      obtain ⟨v0, v1, v2, v3, vf⟩ := hun.cells
      have vf3 := vf 3
      have hle := hls.le
      have hfewk := hls.few
      have hsmk := hls.small
      have HLS := hide hls
      have HUN := hide hun
      have HOWN := hide hown
      clear hls hun hown v0 v1 v2 vf x0 x2
      cases ok with
      | false =>
        have hnone : unpackR most log lim b = none := by
          unfold unpackR
          rw [HLM.out]
          simp only
          rw [HLS.out.none rfl]
        have HN := hide hnone
        clear hnone
        go_wp2
        go_ret2
        exact ⟨HCH.out (HLS.out.st.chg.setCell (p := ⟨ub, 3, none⟩) (Or.inr (Or.inr (Or.inl rfl))) _), Or.inl ⟨HN.out, rfl, lvk, lim1, logk, HUN.out.dead, HOW.out lvk HOWN.out⟩⟩
      | true =>
        obtain ⟨htno, h8, heq⟩ := HLS.out.yes rfl
        subst htno
        by_cases hlt : atk < b.length
        · have hap := HAP.out.later (w := w1) (wr := wr) hzw hgl1 HOWN.out
          have hpr := upair_any ub w.heap.size g off cb b atk lvk logk lim1 most false wr HLS.out.st.tx HUN.out hap hl hlt (by omega) hsmk
          have HNX : Hid (∀ (w3 w4 : World) (e : Ending) (v' : Value) (h : HP) (o1 o2 : Obj) (ok' : Bool), UPaired wr w3 ub w.heap.size g off cb b lvk lim1 most false (pairR logk lim1 b atk) e → h = (pairR logk lim1 b atk).1.1.1 → w4.ownsRow 0 62 2 v' (acc.length + 1) (hdCells acc ++ hdCells [h]) → ((w3.alloc o1).alloc o2).grownBy w4 (Value.slice sv acc.length cv).ownBlock → (v'.ownBlock = (Value.slice sv acc.length cv).ownBlock ∨ v'.ownBlock = some (w3.heap.size + 1 + 1)) → ok' = ((pairR logk lim1 b atk).1.1.2 && decide (acc.length + 1 ≤ 8)) →
              UlS w1 w4 ub w.heap.size g off cb b lv lim1 most log1 a1 v' (acc ++ [h]) (pairR logk lim1 b atk).1.2 (pairR logk lim1 b atk).2.1 ok' (pairR logk lim1 b atk).2.2) := fun w3 w4 e v' h o1 o2 ok' hp hh h1 h2 h3 h4 => ul_next HLS.out HUN.out HOWN.out hp hh hzw hgl1 (by omega) hlm1 hlt h1 h2 h3 h4
          have HROW : Hid (∀ w3 e, UPaired wr w3 ub w.heap.size g off cb b lvk lim1 most false (pairR logk lim1 b atk) e → w3.ownsRow 0 62 2 (.slice sv acc.length cv) acc.length (hdCells acc)) := fun w3 e hp => owns_chg HLS.out.row hp.chg (fun j hj e => by
            rcases e with e | e | e
            · subst e; exact owns_ne HLS.out.row HLS.out.st.tx.tx.blk (by decide) hj
            · subst e; exact owns_ne HLS.out.row HUN.out.blk (by decide) hj
            · exact rows_ne HLS.out.row HUN.out.row (by decide) hj e)
          have hd : decide ((atk : Int) < (b.length : Int)) = true := by simp; omega
          generalize pairR logk lim1 b atk = q at hpr HNX HROW
          obtain ⟨⟨⟨⟨qn, qv⟩, qo⟩, qlog⟩, qa, qno⟩ := q
          have HPR := hide hpr
          clear hpr hap heq
          go_wp2_with fail
          refine HPR.out.mono ?_
          intro e w3 hp3
          have he3 := hp3.eq
          simp only at he3
          subst he3
          have HP3 := hide hp3
          have hrow3 := HROW.out w3 _ hp3
          have HR3 := hide hrow3
          clear hp3 hrow3
          go_wp2_with (at_builtin; refine wpList_app _ rfl (.tmp 37) (.tmp 39) 57 rfl 62 i0 (.agg #[.string ⟨#[]⟩, .string ⟨#[]⟩]) 2 32 Tryz.underlying57 hi hz0 hz1 hz2 rfl (by decide) _ _ _ rfl ((HR3.out.alloc _).alloc _) (.slice (some ⟨w3.heap.size + 1, 0, none⟩) 1 1) 1 (hdCells [⟨qn, qv⟩]) rfl rfl ?c1 ?c2 ?c3 ?c4 ?_)
          case c1 =>
            refine Or.inr ⟨_, _, rfl, fun j u hu => ?_⟩
            have h := lies_row (w := w3.alloc (.cells #[.string qn, .string qv] 62)) (xs := hdCells [⟨qn, qv⟩]) (t := 62)
            rw [World.size_alloc] at h
            exact h j u hu
          case c2 => exact hd_one qn qv
          case c3 => unfold maxLen; omega
          case c4 => omega
          intro v' w4 hown4 hgrow4 hfr4
          obtain ⟨sv4, cv4, rfl⟩ := slice_len hown4
          have HN4 := hide (fun ok' he => HNX.out w3 w4 _ _ ⟨qn, qv⟩ _ _ ok' HP3.out rfl hown4 hgrow4 (by simpa using hfr4) he)
          clear hown4 hgrow4 hfr4 HNX HROW HPR
          cases qo with
          | false =>
            go_wp2
            go_roundw
            case rel => exact ⟨acc ++ [⟨qn, qv⟩], qlog, qa, false, qno, rfl, HN4.out false rfl⟩
            case measure => simp [lenOf]; omega
          | true =>
            by_cases h88 : acc.length + 1 ≤ 8
            · have hd8 : decide ((acc.length : Int) + 1 ≤ 8) = true := by simp; omega
              go_wp2
              go_roundw
              case rel => exact ⟨acc ++ [⟨qn, qv⟩], qlog, qa, true, qno, rfl, HN4.out true (by simp [h88])⟩
              case measure => simp [lenOf]; omega
            · have hd8 : decide ((acc.length : Int) + 1 ≤ 8) = false := by simp; omega
              go_wp2
              go_roundw
              case rel => exact ⟨acc ++ [⟨qn, qv⟩], qlog, qa, false, qno, rfl, HN4.out false (by simp [h88])⟩
              case measure => simp [lenOf]; omega
        · have hsome : unpackR most log lim b = some (acc, logk, lim1) := by
            unfold unpackR
            rw [HLM.out]
            simp only
            rw [heq, pairs_stop h8 (by omega)]
          have HSO := hide hsome
          have hd : decide ((atk : Int) < (b.length : Int)) = false := by simp; omega
          clear hsome heq
          go_wp2
          go_ret2
          refine ⟨HCH.out HLS.out.st.chg, Or.inr ⟨acc, logk, lim1, _, lvk, HSO.out, rfl, owns_base HLS.out.row (fun j hj => by have := HLS.out.new j hj; omega), HUN.out, HOW.out lvk HOWN.out, by omega, hsmk, hlm1⟩⟩
  · obtain ⟨lvk, hun, hown⟩ := hst.un
    obtain ⟨v0, v1, v2, v3, vf⟩ := hun.cells
    have vf3 := vf 3
    have hnone : unpackR most log lim b = none := by
      unfold unpackR
      rw [hlim1]
    have HN := hide hnone
    have HST := hide hst
    have HUN := hide hun
    have HOWN := hide hown
    clear hnone hst hun hown v0 v1 v2 vf hlim1 HLI HSM
    go_wp2_with fail
    refine wp_loop_rounds 1 ?_
    rw [rounds_succ]
    go_wp2
    go_ret2
    exact ⟨HCH.out (HST.out.chg.setCell (p := ⟨ub, 3, none⟩) (Or.inr (Or.inr (Or.inl rfl))) _), Or.inl ⟨HN.out, rfl, lvk, lim1, log1, HUN.out.dead, HOW.out lvk HOWN.out⟩⟩
end Go.Proofs.YtghongdbohjaaaaGreatDoor
/-
  sluiceref: NewUnpacker, Size of an unpacker.
-/
namespace Go.Proofs.YtghongdbohjaaaaGreatDoor
set_option linter.unusedVariables false
set_option linter.unusedSimpArgs false
open Go.RowKit

set_option maxRecDepth 100000 in
set_option maxHeartbeats 800000 in
theorem rNewUnpacker_no (n : Int) (w : World) (hn : ¬ (0 ≤ n ∧ n ≤ 256)) :
    Calls Tryz.prog 44 #[.int .i64 n] w fun e w' => e = .returned (.tuple #[.pointer none, .int .i64 1]) ∧ w' = w := by
  by_cases h1 : n < 0
  · go_enter Tryz.func44, Tryz.ntmps44
    go_wp2
    go_ret2
    exact ⟨rfl, rfl⟩
  · have h2 : 256 < n := by omega
    clear hn
    go_enter Tryz.func44, Tryz.ntmps44
    go_wp2
    go_ret2
    exact ⟨rfl, rfl⟩
set_option maxRecDepth 100000 in
set_option maxHeartbeats 800000 in
theorem rNewUnpacker_ok (n : Nat) (w : World) (hn : n ≤ 256) :
    Calls Tryz.prog 44 #[.int .i64 n] w fun e w' => e = .returned (.tuple #[.pointer (some ⟨w.heap.size, 0, none⟩), .int .i64 0]) ∧ UnB w' w.heap.size (.slice none 0 0) n n false [] ∧ Below w.heap.size w w' := by
  go_enter Tryz.func44, Tryz.ntmps44
  go_wp2
  go_ret2
  exact ⟨rfl, ⟨heap_alloc_new w _, World.ownsRow_nil _ _ _ _, by intro c hc; simp at hc⟩, (Below.refl _ _).alloc (Nat.le_refl _) _⟩
set_option maxRecDepth 100000 in
set_option maxHeartbeats 800000 in
theorem uSize_dead (ub : Nat) (lv : Value) (lim most : Nat) (log : List Ch) (w : World) (hu : UnB w ub lv lim most true log) :
    Calls Tryz.prog 46 #[.pointer (some ⟨ub, 0, none⟩)] w fun e w' => e = .returned (.int .i64 0) ∧ w' = w := by
  obtain ⟨u0, u1, u2, u3, uf⟩ := hu.cells
  clear hu
  go_enter Tryz.func46, Tryz.ntmps46
  go_wp2
  go_ret
  exact ⟨rfl, rfl⟩
set_option maxRecDepth 100000 in
set_option maxHeartbeats 800000 in
theorem uSize_any (ub : Nat) (lv : Value) (lim most : Nat) (log : List Ch) (w : World) (hu : UnB w ub lv lim most false log) (hl : log.length ≤ 1073741824) :
    Calls Tryz.prog 46 #[.pointer (some ⟨ub, 0, none⟩)] w fun e w' => e = .returned (.int .i64 (szT (tabL log) : Int)) ∧ Below w.heap.size w w' := by
  obtain ⟨u0, u1, u2, u3, uf⟩ := hu.cells
  have hts := tsize_any ub lv log w u0 hu.row hu.ok hl
  have HT := hide hts
  have HS := hide (sizeB_tab log)
  clear hu hts
  go_enter Tryz.func46, Tryz.ntmps46
  go_wp2_with fail
  refine HT.out.mono ?_
  rintro e w1 ⟨rfl, hb1⟩
  clear u0 u1 u2 u3 uf
  go_wp2
  go_ret
  refine ⟨?_, hb1⟩
  rw [← HS.out]
  rfl
end Go.Proofs.YtghongdbohjaaaaGreatDoor
