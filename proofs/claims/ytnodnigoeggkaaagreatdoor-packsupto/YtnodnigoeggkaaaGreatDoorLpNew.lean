import Derived.Test.YtnodnigoeggkaaaGreatDoorGag
set_option linter.unusedVariables false
set_option linter.unusedSimpArgs false
/-
  (*sluicelaw.World).packs, at KPacker, and where there is no packer.
-/
namespace Go.Proofs.YtnodnigoeggkaaaGreatDoor
set_option linter.unusedVariables false
set_option linter.unusedSimpArgs false
open Go.RowKit

theorem Tryz.info112 : (Tryz.prog.info? 112).map (fun i => (i.zero, i.size, i.bytes)) = some (some (.agg #[.pointer none, .pointer none]), 2, 16) := by kernel_rfl
theorem op_block {w : World} {b : Nat} {v0 v1 v2 v3 v4 : Value} {t : TypeId} (h : w.heap[b]? = some (.cells #[v0, v1, v2, v3, v4] t (0, 0))) :
    w.cell? ⟨b, 0, none⟩ = some v0 ∧ w.cell? ⟨b, 1, none⟩ = some v1 ∧ w.cell? ⟨b, 2, none⟩ = some v2 ∧ w.cell? ⟨b, 3, none⟩ = some v3 ∧ w.cell? ⟨b, 4, none⟩ = some v4 := by
  refine ⟨?_, ?_, ?_, ?_, ?_⟩ <;> rw [cell_of_row w b _ _ _ _ h] <;> rfl

theorem lpickAt (c : Int) (n j : Nat) (w : World) (hn : 0 < n) (hc : I64 c) (hj : pkI c n = (j : Int)) :
    Calls Tryz.prog 20 #[.int .i64 c, .int .i64 n] w fun e w' => e = .returned (.int .i64 j) ∧ w' = w := by
  rw [← hj]; exact lpick_fun c n w (by omega) hc
theorem pkNat (c : Int) {n : Nat} (hn : 0 < n) : ∃ j : Nat, pkI c n = (j : Int) ∧ j < n := by
  obtain ⟨h0, h1⟩ := pkI_bounds c (n := (n : Int)) (by omega)
  exact ⟨(pkI c n).toNat, by omega, by omega⟩
theorem PInvX.two {W0 V0 w : World} {b N : Nat} {gF gH gC gS pv sv kv : Value} {prs : List PkR} {bls : List ByteArray} {recs : List RecB} {X : List Ob} (h : PInvX W0 V0 w b gF gH gC gS pv sv kv prs bls recs N X) (k : Nat) (hk : k < prs.length) {j : Nat} (hj : (pkOb prs[k]).F j) : ¬ (rpOb prs[k]).F j :=
  (h.sep.perm (obs_get k hk)).two (x := pkOb prs[k]) (y := rpOb prs[k]) hj

set_option maxRecDepth 100000 in
set_option maxHeartbeats 1600000 in
theorem packs_nonew (b : Nat) (A B' C : Int) (S : ByteArray) (w : World) (hA : ¬ (0 ≤ A ∧ A ≤ 256)) :
    Calls Tryz.prog 11 #[.pointer (some ⟨b, 0, none⟩), .agg #[.int .i64 4, .int .i64 A, .int .i64 B', .int .i64 C, .string S]] w fun e w' => e = .returned (.bool true) ∧ Below w.heap.size w w' := by
  have HA : Hid (limB A = false) := by show _ = _; unfold limB; simp; omega
  have HN := hide hA
  clear hA
  go_enter Tryz.func11, Tryz.ntmps11
  go_wp2_with fail
  refine (newPacker_no A _ HA.out).mono ?_
  rintro e w1 ⟨rfl, hw1⟩
  rw [hw1]
  clear hw1 w1
  go_wp2_with fail
  refine (rNewPacker_no A _ HN.out).mono ?_
  rintro e w1 ⟨rfl, hw1⟩
  rw [hw1]
  clear hw1 w1
  go_wp2_with fail
  refine (num_any 1 _).mono ?_
  rintro e w1 ⟨rfl, hw1⟩
  rw [hw1]
  clear hw1 w1
  go_wp2
  go_ret
  exact ⟨rfl, (Below.refl _ _).alloc (Nat.le_refl _) _⟩

set_option maxRecDepth 100000 in
set_option maxHeartbeats 1600000 in
theorem packs_new (W0 V0 : World) (b N : Nat) (gF gH gC gS pv sv kv : Value) (prs : List PkR) (bls : List ByteArray) (recs : List RecB) (n : Nat) (B' C : Int) (S : ByteArray) (w : World) (hI : PInv W0 V0 w b gF gH gC gS pv sv kv prs bls recs N) (hN : N ≤ 16777216) (hn : n ≤ 256) :
    Calls Tryz.prog 11 #[.pointer (some ⟨b, 0, none⟩), .agg #[.int .i64 4, .int .i64 n, .int .i64 B', .int .i64 C, .string S]] w fun e w' => e = .returned (.bool true) ∧ ∃ pv' prs', PInv W0 V0 w' b gF gH gC gS pv' sv kv prs' bls recs (N + 1) := by
  obtain ⟨j0, ji, jz0, jz1, jz2⟩ := info_parts Tryz.info112
  have hfew := hI.few.1
  have hlt := lt_of_block hI.blk
  have HI := hide hI
  have ho : (w.alloc (.cells #[.int .i64 4, .int .i64 n, .int .i64 B', .int .i64 C, .string S] 49)).heap[w.heap.size]? = some (.cells #[.int .i64 4, .int .i64 n, .int .i64 B', .int .i64 C, .string S] 49 (0, 0)) := heap_alloc_new w _
  have hbo : Below w.heap.size w (w.alloc (.cells #[.int .i64 4, .int .i64 n, .int .i64 B', .int .i64 C, .string S] 49)) := (Below.refl _ _).alloc (Nat.le_refl _) _
  have HO := hide ho
  have HBO := hide hbo
  clear hI ho hbo
  go_enter Tryz.func11, Tryz.ntmps11
  go_wp2_with fail
  refine (newPacker_ok n _ hn).mono ?_
  rintro e w1 ⟨xb, rfl, hxb, hb1, hpk⟩
  have hxl := lt_of_block hpk.st.tb.blk
  have ho1 := kept_told HO.out hb1
  obtain ⟨-, o1, -, -, -⟩ := op_block ho1
  have hol := lt_of_block ho1
  have HPK := hide hpk
  have HB1 := hide (HBO.out.trans (hb1.mono HBO.out.size))
  have HXB := hide hxb
  clear hpk hb1 ho1 hxb HO
  go_wp2_with fail
  refine (rNewPacker_ok n _ hn).mono ?_
  rintro e w2 ⟨rfl, hrp, hb2⟩
  have hpl := lt_of_block hrp.blk
  have HRP := hide hrp
  have hXB : w.heap.size ≤ xb := by have h1 := HXB.out; simp at h1; omega
  have hX : Below w.heap.size w w2 := HB1.out.trans (hb2.mono HB1.out.size)
  have hpk2 := (pkOb ⟨xb, newCs n, .slice none 0 0, .slice none 0 0, w1.heap.size, .slice none 0 0, .slice none 0 0, [], n, []⟩).chg (fun _ => False) w1 w2 HPK.out (Chg.of_below hb2) (fun _ _ => id)
  have HPK2 := hide hpk2
  have hI2 := HI.out.below hX
  obtain ⟨sr, cr, hpv⟩ := slice_len hI2.rowP
  subst hpv
  have g5 : w2.cell? ⟨b, 5, none⟩ = some (.slice sr prs.length cr) := by rw [cell_of_row w2 b _ _ _ _ hI2.blk]; rfl
  have HRR := hide hI2.rowP
  have HX := hide hX
  have HX1 := hide hXB
  have hz1 := HB1.out.size
  have hz2 := hb2.size
  clear hb2 hrp hX hXB hpk2 hI2 o1
  go_wp2_with fail
  refine (num_any 0 _).mono ?_
  rintro e w' ⟨rfl, hw'⟩
  rw [hw']
  clear hw' w'
  go_wp2_with (at_builtin; refine wpList_app _ rfl (.tmp 54) (.tmp 58) 34 rfl 112 j0 (.agg #[.pointer none, .pointer none]) 2 16 Tryz.underlying34 ji jz0 jz1 jz2 rfl (by decide) _ _ _ rfl (HRR.out.alloc _) (.slice (some ⟨w2.heap.size, 0, none⟩) 1 1) 1 [.pointer (some ⟨xb, 0, none⟩), .pointer (some ⟨w1.heap.size, 0, none⟩)] rfl rfl ?c1 ?c2 ?c3 ?c4 ?_)
  case c1 => exact Or.inr ⟨_, _, rfl, fun j u hu => lies_row (xs := [.pointer (some ⟨xb, 0, none⟩), .pointer (some ⟨w1.heap.size, 0, none⟩)]) j u hu⟩
  case c2 =>
    intro u hu
    simp at hu
    rcases hu with rfl | rfl <;> rfl
  case c3 => unfold maxLen; omega
  case c4 => omega
  intro pv' w3 hown3 hg3 hfr3
  obtain ⟨sr', cr', rfl⟩ := slice_len hown3
  obtain ⟨wX, hwX⟩ : ∃ wX, wX = w2.alloc (.cells #[.pointer (some ⟨xb, 0, none⟩), .pointer (some ⟨w1.heap.size, 0, none⟩)] 112) := ⟨_, rfl⟩
  have hb2X : Below w2.heap.size w2 wX := by rw [hwX]; exact (Below.refl _ _).alloc (Nat.le_refl _) _
  have hX3 : Below w.heap.size w wX := HX.out.trans (hb2X.mono HX.out.size)
  have hnil : ∀ j, (Value.slice none 0 0).ownBlock ≠ some j := fun j e => by simp [Value.ownBlock] at e
  have hpX := (pkOb ⟨xb, newCs n, .slice none 0 0, .slice none 0 0, w1.heap.size, .slice none 0 0, .slice none 0 0, [], n, []⟩).chg (fun _ => False) w2 wX HPK2.out (Chg.of_below hb2X) (fun _ _ => id)
  have hrX := (rpOb ⟨xb, newCs n, .slice none 0 0, .slice none 0 0, w1.heap.size, .slice none 0 0, .slice none 0 0, [], n, []⟩).chg (fun _ => False) w2 wX HRP.out (Chg.of_below hb2X) (fun _ _ => id)
  have hszX : wX.heap.size = w2.heap.size + 1 := by rw [hwX]; simp
  rw [← hwX] at hg3
  rw [← hszX] at hfr3
  have hb3 := kept_block (owns_chg HRR.out (Chg.of_below (S := fun _ => False) hb2X) (fun _ _ => id)) hg3 (kept_told (HI.out.below HX.out).blk hb2X) (by decide)
  have hnx := pinv_packer HI.out hX3 hpX hrX (by
      rintro j (e | e | e)
      · show _ ≤ j; rw [e]; exact HX1.out
      · exact absurd e (hnil j)
      · exact absurd e (hnil j)) (by
      rintro j (e | e | e)
      · show _ ≤ j; rw [e]; exact hz1
      · exact absurd e (hnil j)
      · exact absurd e (hnil j)) (by
      rintro j (e | e | e) (f | f | f)
      · have h1 : j = xb := e
        have h2 : j = w1.heap.size := f
        omega
      · exact absurd f (hnil j)
      · exact absurd f (hnil j)
      · exact absurd e (hnil j)
      · exact absurd e (hnil j)
      · exact absurd e (hnil j)
      · exact absurd e (hnil j)
      · exact absurd e (hnil j)
      · exact absurd e (hnil j)) ⟨rfl, rfl⟩ hown3 hg3 hfr3
  have HNX := hide hnx
  have q5 : w3.cell? ⟨b, 5, none⟩ = some (.slice sr prs.length cr) := by rw [cell_of_row w3 b _ _ _ _ hb3]; rfl
  have q5f : w3.frozen? ⟨b, 5, none⟩ = false := by simp [World.frozen?, hb3]
  clear hown3 hg3 hfr3 hb3 hnx g5 hpX hrX hX3 hb2X hwX hszX
  go_wp2
  go_ret
  exact ⟨rfl, _, _, HNX.out⟩

set_option maxRecDepth 100000 in
set_option maxHeartbeats 1600000 in
theorem packs_none (b : Nat) (cs : Array Value) (sr : Option Addr) (cr : Nat) (k A B' C : Int) (S : ByteArray) (w : World) (hb : w.heap[b]? = some (.cells cs 46 (0, 0))) (h5 : cs[5]? = some (.slice sr 0 cr)) (hk : (k == 4) = false) :
    Calls Tryz.prog 11 #[.pointer (some ⟨b, 0, none⟩), .agg #[.int .i64 k, .int .i64 A, .int .i64 B', .int .i64 C, .string S]] w fun e w' => e = .returned (.bool true) ∧ Below w.heap.size w w' := by
  have hlt := lt_of_block hb
  have g0 : w.cell? ⟨b, 5, none⟩ = some (.slice sr 0 cr) := by rw [cell_of_row w b _ _ _ _ hb]; exact h5
  clear hb h5
  go_enter Tryz.func11, Tryz.ntmps11
  go_wp2
  go_ret
  exact ⟨rfl, (Below.refl _ _).alloc (Nat.le_refl _) _⟩
end Go.Proofs.YtnodnigoeggkaaaGreatDoor
