import Derived.Test.YtghongdbohjaaaaGreatDoorUGag
import Derived.Deep.RegionWith
import Derived.Deep.DeepCutAuto
import Derived.Deep.RegionHeld3
set_option linter.unusedVariables false
set_option linter.unusedSimpArgs false
/-
  sluicelaw: wholeHeads.
-/
namespace Go.Proofs.YtghongdbohjaaaaGreatDoor
set_option linter.unusedVariables false
set_option linter.unusedSimpArgs false
open Go.RowKit

set_option maxRecDepth 100000 in
theorem wholeHeads_nil (v : Value) (w : World) : Calls Tryz.prog 42 #[v, .slice none 0 0] w fun e w' => e = .returned (.bool true) ∧ w' = w := by
  have hnil : ∀ w' : World, (binOp .eql 57 (.slice none 0 0) (.slice none 0 0)).run Tryz.prog w' = .ok (.bool true) w' := fun w' => Lib.run_eql_slice_nil w' 57 62 none _ _ _ _ Tryz.underlying57
  go_enter Tryz.func42, Tryz.ntmps42
  go_wp2
  go_ret
  exact ⟨rfl, rfl⟩

/-- The loop of wholeHeads. -/
def wholeHK (hs : List HP) (k : Nat) : List HP := List.replicate k overP ++ (lentH hs).drop k
theorem wholeHK_succ (hs : List HP) {k : Nat} (h : k < hs.length + 4) : (wholeHK hs k).set k overP = wholeHK hs (k + 1) := by
  unfold wholeHK
  rw [set_next _ (by simp) (by unfold lentH; simpa using h), List.replicate_succ']
theorem wholeHK_length (hs : List HP) {k : Nat} (h : k ≤ hs.length + 4) : (wholeHK hs k).length = hs.length + 4 := by
  unfold wholeHK lentH
  simp; omega
theorem wholeHK_get (hs : List HP) {k : Nat} (h : k < hs.length + 4) : (wholeHK hs k)[k]? = some (if hk : k < hs.length then hs[k] else farP) := by
  unfold wholeHK
  rw [List.getElem?_append_right (by simp)]
  simp only [List.length_replicate, Nat.sub_self, List.getElem?_drop, Nat.add_zero]
  unfold lentH
  split
  · next hk => rw [List.getElem?_append_left hk, List.getElem?_eq_getElem hk]
  · next hk => rw [List.getElem?_append_right (by omega), List.getElem?_replicate, if_pos (by omega)]
theorem hp_cells {w : World} {g k : Nat} {l : List HP} {t : TypeId} {fr : Nat × Nat} {h : HP} (hr : w.heap[g]? = some (.cells (hpCells l).toArray t fr)) (hk : l[k]? = some h) : w.cell? ⟨g, k * 2, none⟩ = some (.string h.n) ∧ w.cell? ⟨g, k * 2 + 1, none⟩ = some (.string h.v) := by
  obtain ⟨h1, h2⟩ := List.getElem?_eq_some_iff.1 hk
  obtain ⟨e0, e1⟩ := hpCells_get h1
  rw [row_cell hr, row_cell hr, e0, e1, h2]
  exact ⟨rfl, rfl⟩

set_option maxRecDepth 100000 in
set_option maxHeartbeats 1600000 in
theorem wholeHeads_any (g : Nat) (ad : Addr) (c : Nat) (hs : List HP) (w : World) (hl : hs.length ≤ 4294967296) (h : w.heap[g]? = some (.cells (hpCells (lentH hs)).toArray 62 (0, 0)))
    (hin : ∀ k (hk : k < hs.length), ∃ bb off, ad = ⟨bb, off, none⟩ ∧ bb < w.heap.size ∧ bb ≠ g ∧ w.cell? ⟨bb, off + k * 2, none⟩ = some (.string hs[k].n) ∧ w.cell? ⟨bb, off + k * 2 + 1, none⟩ = some (.string hs[k].v)) :
    Calls Tryz.prog 42 #[.slice (some ⟨g, 0, none⟩) hs.length (hs.length + 4), .slice (some ad) hs.length c] w fun e w' => e = .returned (.bool true) ∧ Chg (fun k => k = g) w w' := by
  obtain ⟨i0, hi, hz0, hz1, hz2⟩ := info_parts Tryz.info62
  have hsz : (Tryz.prog.info? 62).map (·.size) = some 2 := by rw [hi]; simp [hz1]
  have hnil : ∀ w' : World, (binOp .eql 57 (.slice (some ad) hs.length c) (.slice none 0 0)).run Tryz.prog w' = .ok (.bool false) w' := fun w' => Lib.run_eql_slice_nil w' 57 62 (some ad) _ _ _ _ Tryz.underlying57
  have hglt := lt_of_block h
  have HH := hide h
  have HIN := hide hin
  have HSZ := hide hsz
  clear h hin hsz hi hz0 hz1 hz2 i0
  go_enter Tryz.func42, Tryz.ntmps42
  go_wp2
  clear hnil
  go_loopw [7, 8] (fun ok i wr => ∃ k : Nat, k ≤ hs.length + 4 ∧ ok = .bool true ∧ i = .int .i64 k ∧ Chg (fun k => k = g) w wr ∧ wr.heap[g]? = some (.cells (hpCells (wholeHK hs k)).toArray 62 (0, 0))) (fun _ i _ => hs.length + 4 - (intOf i).toNat)
  case atStart => exact ⟨0, Nat.zero_le _, rfl, rfl, Chg.refl _ _, HH.out⟩
  case round =>
    obtain ⟨k, hk, rfl, rfl, hch, hrow⟩ := hrel
    by_cases hlt : k < hs.length + 4
    · have HROW := hide hrow
      have HCH := hide hch
      have hgr := lt_of_block hrow
      have HON : Hid ((#[.string ⟨#[111, 118, 101, 114]⟩, .string ⟨#[111, 118, 101, 114]⟩] : Array Value).all (·.oneCell') = true) := all_oneCell_toArray (hpCells_one [overP])
      clear hrow hch
      go_wp2_with fail
      refine (far_any _).mono ?_
      rintro e w1 ⟨rfl, hb1⟩
      have hr1 := kept_told HROW.out hb1
      have hg1 := lt_of_block hr1
      have hc1 := HCH.out.then_below hb1
      obtain ⟨d0, d1⟩ := hp_cells hr1 (wholeHK_get hs hlt)
      have hrn : ∀ o : Obj, (w1.alloc o).drew.there g (k * 2) 2 ∧ ((w1.alloc o).drew.setCells g (k * 2) [.string ⟨#[111, 118, 101, 114]⟩, .string ⟨#[111, 118, 101, 114]⟩]).heap[g]? = some (.cells (hpCells ((wholeHK hs k).set k overP)).toArray 62 (0, 0)) ∧ Chg (fun k => k = g) w ((w1.alloc o).drew.setCells g (k * 2) [.string ⟨#[111, 118, 101, 114]⟩, .string ⟨#[111, 118, 101, 114]⟩]) := by
        intro o
        have h2 : (w1.alloc o).drew.heap[g]? = some (.cells (hpCells (wholeHK hs k)).toArray 62 (0, 0)) := alloc_block hr1 o
        exact ⟨hp_there h2 (by rw [wholeHK_length hs hk]; exact hlt), hp_store overP h2 (by rw [wholeHK_length hs hk]; exact hlt), chg_setCells2 (S := fun k => k = g) (g := g) (Or.inr rfl) _ _ _ ((hc1.alloc o).drew)⟩
      have HRN := hide hrn
      have HC1 := hide hc1
      clear hb1 hr1 hc1 HROW HCH hrn
      by_cases hin : k < hs.length
      · rw [dif_pos hin] at d0 d1
        obtain ⟨bb, off, hae, hbb, hbg, q0, q1⟩ := HIN.out k hin
        subst hae
        have r0 := (HC1.out.cell (p := ⟨bb, off + k * 2, none⟩) hbb hbg).trans q0
        have r1 := (HC1.out.cell (p := ⟨bb, off + k * 2 + 1, none⟩) hbb hbg).trans q1
        have hb1 : bb < w1.heap.size := Nat.lt_of_lt_of_le hbb HC1.out.size
        generalize hs[k].n = xn at d0 r0 q0
        generalize hs[k].v = xv at d1 r1 q1
        clear q0 q1
        go_wp2
        go_region
        all_goals (go_wp2_with (refine wpList_store_mid rfl 62 (.tmp 44) (.tmp 43) rfl g (k * 2) #[.string ⟨#[111, 118, 101, 114]⟩, .string ⟨#[111, 118, 101, 114]⟩] rfl rfl ?th HSZ.out HON.out ?_))
        case th => exact (HRN.out _).1
        go_roundw
        case rel => exact ⟨k + 1, by omega, rfl, by go_num, (HRN.out _).2.2, by rw [← wholeHK_succ hs hlt]; exact (HRN.out _).2.1⟩
        case measure => simp [intOf]; omega
      · rw [dif_neg hin] at d0 d1
        simp only [farP] at d0 d1
        go_wp2
        go_region
        all_goals (go_wp2_with (refine wpList_store_mid rfl 62 (.tmp 44) (.tmp 43) rfl g (k * 2) #[.string ⟨#[111, 118, 101, 114]⟩, .string ⟨#[111, 118, 101, 114]⟩] rfl rfl ?th HSZ.out HON.out ?_))
        case th => exact (HRN.out _).1
        go_roundw
        case rel => exact ⟨k + 1, by omega, rfl, by go_num, (HRN.out _).2.2, by rw [← wholeHK_succ hs hlt]; exact (HRN.out _).2.1⟩
        case measure => simp [intOf]; omega
    · clear hrow
      go_wp2
      go_ret
      exact ⟨rfl, hch⟩
end Go.Proofs.YtghongdbohjaaaaGreatDoor
/-
  (*sluicelaw.World).packs, at KPacker, and where there is no packer.
-/
namespace Go.Proofs.YtghongdbohjaaaaGreatDoor
set_option linter.unusedVariables false
set_option linter.unusedSimpArgs false
open Go.RowKit

theorem Tryz.info112 : (Tryz.prog.info? 112).map (fun i => (i.zero, i.size, i.bytes)) = some (some (.agg #[.pointer none, .pointer none]), 2, 16) := by kernel_rfl
theorem op_block {w : World} {b : Nat} {v0 v1 v2 v3 v4 : Value} {t : TypeId} (h : w.heap[b]? = some (.cells #[v0, v1, v2, v3, v4] t (0, 0))) :
    w.cell? ⟨b, 0, none⟩ = some v0 ∧ w.cell? ⟨b, 1, none⟩ = some v1 ∧ w.cell? ⟨b, 2, none⟩ = some v2 ∧ w.cell? ⟨b, 3, none⟩ = some v3 ∧ w.cell? ⟨b, 4, none⟩ = some v4 := by
  refine ⟨?_, ?_, ?_, ?_, ?_⟩ <;> rw [cell_of_row w b _ _ _ _ h] <;> rfl

theorem lpickAt (c : Int) (n j : Nat) (w : World) (hn : 0 < n) (hc : I64 c) (hj : pkI c n = (j : Int)) :
    Calls Tryz.prog 20 #[.int .i64 c, .int .i64 n] w fun e w' => e = .returned (.int .i64 j) ∧ w' = w := by
  rw [← hj]; exact lpick_fun c n w (by omega) hc
theorem pkNat (c : Int) {n : Nat} (hn : 0 < n) : ∃ j : Nat, pkI c n = (j : Int) ∧ j < n := by
  obtain ⟨h0, h1⟩ := pkI_bounds c (n := (n : Int)) (by omega)
  exact ⟨(pkI c n).toNat, by omega, by omega⟩
theorem PInvX.two {W0 V0 w : World} {b N : Nat} {gF gH gC : Value} {gS : GX} {pv sv kv : Value} {prs : List PkR} {bls : List ByteArray} {recs : List RecB} {X : List Ob} (h : PInvX W0 V0 w b gF gH gC gS pv sv kv prs bls recs N X) (k : Nat) (hk : k < prs.length) {j : Nat} (hj : (pkOb prs[k]).F j) : ¬ (rpOb prs[k]).F j :=
  (h.sep.perm (obs_get k hk)).two (x := pkOb prs[k]) (y := rpOb prs[k]) hj

set_option maxRecDepth 100000 in
set_option maxHeartbeats 1600000 in
theorem packs_nonew (b : Nat) (A B' C : Int) (S : ByteArray) (w : World) (hA : ¬ (0 ≤ A ∧ A ≤ 256)) :
    Calls Tryz.prog 11 #[.pointer (some ⟨b, 0, none⟩), .agg #[.int .i64 4, .int .i64 A, .int .i64 B', .int .i64 C, .string S]] w fun e w' => e = .returned (.bool true) ∧ Below w.heap.size w w' := by
  have HA : Hid (limB A = false) := by show _ = _; unfold limB; simp; omega
  have HN := hide hA
  clear hA
  go_enter Tryz.func11, Tryz.ntmps11
  go_wp2_with fail
  refine (newPacker_no A _ HA.out).mono ?_
  rintro e w1 ⟨rfl, hw1⟩
  rw [hw1]
  clear hw1 w1
  go_wp2_with fail
  refine (rNewPacker_no A _ HN.out).mono ?_
  rintro e w1 ⟨rfl, hw1⟩
  rw [hw1]
  clear hw1 w1
  go_wp2_with fail
  refine (num_any 1 _).mono ?_
  rintro e w1 ⟨rfl, hw1⟩
  rw [hw1]
  clear hw1 w1
  go_wp2
  go_ret
  exact ⟨rfl, (Below.refl _ _).alloc (Nat.le_refl _) _⟩

set_option maxRecDepth 100000 in
set_option maxHeartbeats 1600000 in
theorem packs_new {Y : List Ob} (W0 V0 : World) (b N : Nat) (gF gH gC : Value) (gS : GX) (pv sv kv : Value) (prs : List PkR) (bls : List ByteArray) (recs : List RecB) (n : Nat) (B' C : Int) (S : ByteArray) (w : World) (hI : PInvX W0 V0 w b gF gH gC gS pv sv kv prs bls recs N Y) (hN : N ≤ 16777216) (hn : n ≤ 256) :
    Calls Tryz.prog 11 #[.pointer (some ⟨b, 0, none⟩), .agg #[.int .i64 4, .int .i64 n, .int .i64 B', .int .i64 C, .string S]] w fun e w' => e = .returned (.bool true) ∧ ∃ pv' prs', PInvX W0 V0 w' b gF gH gC gS pv' sv kv prs' bls recs (N + 1) Y := by
  obtain ⟨j0, ji, jz0, jz1, jz2⟩ := info_parts Tryz.info112
  have hfew := hI.few.1
  have hlt := lt_of_block hI.blk
  have HI := hide hI
  have ho : (w.alloc (.cells #[.int .i64 4, .int .i64 n, .int .i64 B', .int .i64 C, .string S] 49)).heap[w.heap.size]? = some (.cells #[.int .i64 4, .int .i64 n, .int .i64 B', .int .i64 C, .string S] 49 (0, 0)) := heap_alloc_new w _
  have hbo : Below w.heap.size w (w.alloc (.cells #[.int .i64 4, .int .i64 n, .int .i64 B', .int .i64 C, .string S] 49)) := (Below.refl _ _).alloc (Nat.le_refl _) _
  have HO := hide ho
  have HBO := hide hbo
  clear hI ho hbo
  go_enter Tryz.func11, Tryz.ntmps11
  go_wp2_with fail
  refine (newPacker_ok n _ hn).mono ?_
  rintro e w1 ⟨xb, rfl, hxb, hb1, hpk⟩
  have hxl := lt_of_block hpk.st.tb.blk
  have ho1 := kept_told HO.out hb1
  obtain ⟨-, o1, -, -, -⟩ := op_block ho1
  have hol := lt_of_block ho1
  have HPK := hide hpk
  have HB1 := hide (HBO.out.trans (hb1.mono HBO.out.size))
  have HXB := hide hxb
  clear hpk hb1 ho1 hxb HO
  go_wp2_with fail
  refine (rNewPacker_ok n _ hn).mono ?_
  rintro e w2 ⟨rfl, hrp, hb2⟩
  have hpl := lt_of_block hrp.blk
  have HRP := hide hrp
  have hXB : w.heap.size ≤ xb := by have h1 := HXB.out; simp at h1; omega
  have hX : Below w.heap.size w w2 := HB1.out.trans (hb2.mono HB1.out.size)
  have hpk2 := (pkOb ⟨xb, newCs n, .slice none 0 0, .slice none 0 0, w1.heap.size, .slice none 0 0, .slice none 0 0, [], n, []⟩).chg (fun _ => False) w1 w2 HPK.out (Chg.of_below hb2) (fun _ _ => id)
  have HPK2 := hide hpk2
  have hI2 := HI.out.below hX
  obtain ⟨sr, cr, hpv⟩ := slice_len hI2.rowP
  subst hpv
  have g5 : w2.cell? ⟨b, 5, none⟩ = some (.slice sr prs.length cr) := by rw [cell_of_row w2 b _ _ _ _ hI2.blk]; rfl
  have HRR := hide hI2.rowP
  have HX := hide hX
  have HX1 := hide hXB
  have hz1 := HB1.out.size
  have hz2 := hb2.size
  clear hb2 hrp hX hXB hpk2 hI2 o1
  go_wp2_with fail
  refine (num_any 0 _).mono ?_
  rintro e w' ⟨rfl, hw'⟩
  rw [hw']
  clear hw' w'
  go_wp2_with (at_builtin; refine wpList_app _ rfl (.tmp 54) (.tmp 58) 34 rfl 112 j0 (.agg #[.pointer none, .pointer none]) 2 16 Tryz.underlying34 ji jz0 jz1 jz2 rfl (by decide) _ _ _ rfl (HRR.out.alloc _) (.slice (some ⟨w2.heap.size, 0, none⟩) 1 1) 1 [.pointer (some ⟨xb, 0, none⟩), .pointer (some ⟨w1.heap.size, 0, none⟩)] rfl rfl ?c1 ?c2 ?c3 ?c4 ?_)
  case c1 => exact Or.inr ⟨_, _, rfl, fun j u hu => lies_row (xs := [.pointer (some ⟨xb, 0, none⟩), .pointer (some ⟨w1.heap.size, 0, none⟩)]) j u hu⟩
  case c2 =>
    intro u hu
    simp at hu
    rcases hu with rfl | rfl <;> rfl
  case c3 => unfold maxLen; omega
  case c4 => omega
  intro pv' w3 hown3 hg3 hfr3
  obtain ⟨sr', cr', rfl⟩ := slice_len hown3
  obtain ⟨wX, hwX⟩ : ∃ wX, wX = w2.alloc (.cells #[.pointer (some ⟨xb, 0, none⟩), .pointer (some ⟨w1.heap.size, 0, none⟩)] 112) := ⟨_, rfl⟩
  have hb2X : Below w2.heap.size w2 wX := by rw [hwX]; exact (Below.refl _ _).alloc (Nat.le_refl _) _
  have hX3 : Below w.heap.size w wX := HX.out.trans (hb2X.mono HX.out.size)
  have hnil : ∀ j, (Value.slice none 0 0).ownBlock ≠ some j := fun j e => by simp [Value.ownBlock] at e
  have hpX := (pkOb ⟨xb, newCs n, .slice none 0 0, .slice none 0 0, w1.heap.size, .slice none 0 0, .slice none 0 0, [], n, []⟩).chg (fun _ => False) w2 wX HPK2.out (Chg.of_below hb2X) (fun _ _ => id)
  have hrX := (rpOb ⟨xb, newCs n, .slice none 0 0, .slice none 0 0, w1.heap.size, .slice none 0 0, .slice none 0 0, [], n, []⟩).chg (fun _ => False) w2 wX HRP.out (Chg.of_below hb2X) (fun _ _ => id)
  have hszX : wX.heap.size = w2.heap.size + 1 := by rw [hwX]; simp
  rw [← hwX] at hg3
  rw [← hszX] at hfr3
  have hb3 := kept_block (owns_chg HRR.out (Chg.of_below (S := fun _ => False) hb2X) (fun _ _ => id)) hg3 (kept_told (HI.out.below HX.out).blk hb2X) (by decide)
  have hnx := pinv_packer HI.out hX3 hpX hrX (by
      rintro j (e | e | e)
      · show _ ≤ j; rw [e]; exact HX1.out
      · exact absurd e (hnil j)
      · exact absurd e (hnil j)) (by
      rintro j (e | e | e)
      · show _ ≤ j; rw [e]; exact hz1
      · exact absurd e (hnil j)
      · exact absurd e (hnil j)) (by
      rintro j (e | e | e) (f | f | f)
      · have h1 : j = xb := e
        have h2 : j = w1.heap.size := f
        omega
      · exact absurd f (hnil j)
      · exact absurd f (hnil j)
      · exact absurd e (hnil j)
      · exact absurd e (hnil j)
      · exact absurd e (hnil j)
      · exact absurd e (hnil j)
      · exact absurd e (hnil j)
      · exact absurd e (hnil j)) ⟨rfl, rfl⟩ hown3 hg3 hfr3
  have HNX := hide hnx
  have q5 : w3.cell? ⟨b, 5, none⟩ = some (.slice sr prs.length cr) := by rw [cell_of_row w3 b _ _ _ _ hb3]; rfl
  have q5f : w3.frozen? ⟨b, 5, none⟩ = false := by simp [World.frozen?, hb3]
  clear hown3 hg3 hfr3 hb3 hnx g5 hpX hrX hX3 hb2X hwX hszX
  go_wp2
  go_ret
  exact ⟨rfl, _, _, HNX.out⟩

set_option maxRecDepth 100000 in
set_option maxHeartbeats 1600000 in
theorem packs_none (b : Nat) (cs : Array Value) (sr : Option Addr) (cr : Nat) (k A B' C : Int) (S : ByteArray) (w : World) (hb : w.heap[b]? = some (.cells cs 46 (0, 0))) (h5 : cs[5]? = some (.slice sr 0 cr)) (hk : (k == 4) = false) :
    Calls Tryz.prog 11 #[.pointer (some ⟨b, 0, none⟩), .agg #[.int .i64 k, .int .i64 A, .int .i64 B', .int .i64 C, .string S]] w fun e w' => e = .returned (.bool true) ∧ Below w.heap.size w w' := by
  have hlt := lt_of_block hb
  have g0 : w.cell? ⟨b, 5, none⟩ = some (.slice sr 0 cr) := by rw [cell_of_row w b _ _ _ _ hb]; exact h5
  clear hb h5
  go_enter Tryz.func11, Tryz.ntmps11
  go_wp2
  go_ret
  exact ⟨rfl, (Below.refl _ _).alloc (Nat.le_refl _) _⟩
end Go.Proofs.YtghongdbohjaaaaGreatDoor
