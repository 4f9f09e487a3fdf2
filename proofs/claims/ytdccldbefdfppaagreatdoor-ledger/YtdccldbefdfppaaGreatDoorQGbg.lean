import Derived.Test.YtdccldbefdfppaaGreatDoorQLgWrites
import Derived.Test.YtdccldbefdfppaaGreatDoorQGba
import Derived.Test.YtdccldbefdfppaaGreatDoorQLgGrants3
import Derived.Test.YtdccldbefdfppaaGreatDoorQLgWritesW0
import Derived.Test.YtdccldbefdfppaaGreatDoorQLgWritesW1
import Derived.Test.YtdccldbefdfppaaGreatDoorQGac
import Derived.Test.YtdccldbefdfppaaGreatDoorTie
import Derived.BigRegion
import Derived.Deep.Slices
import Derived.SizedLaws
import Derived.ShutString
import Derived.ChangeMaps5
import Derived.Lib.SmallJoins
import Derived.ProofKit
import Derived.LaidMore
import Derived.OpenShut
import Derived.ChangeOld
import Derived.JoinedCond
import Derived.WalkKit
set_option linter.unusedVariables false
set_option linter.unusedSimpArgs false
/-
  Ledger: opens.
-/
namespace Go.Proofs.YtdccldbefdfppaaGreatDoor
set_option linter.unusedVariables false
set_option linter.unusedSimpArgs false
open Go.RowKit

theorem Tryz.info56 : (Tryz.prog.info? 56).map (fun i => (i.zero, i.size, i.bytes)) = some (some (.agg #[.int .i64 0, .int .i64 0, .string ⟨#[]⟩, .int .i64 0, .bool false, .bool false]), 6, 48) := by kernel_rfl
/-- A flow more. -/
theorem LIn.appd {w wA w4 : World} {ab eb : Nat} {F : Nat → Prop} {fv v4 : Value} {a : LAcc} {p : GEnd} {x : LFlow} (h : LIn w ab eb F fv a p) (hbA : Below w.heap.size w wA) (ho4 : w4.ownsRow 0 56 6 v4 (a.fl.length + 1) (flowCells a.fl ++ x.cells)) (hg4 : wA.grownBy w4 fv.ownBlock) (hfr4 : v4.ownBlock = fv.ownBlock ∨ v4.ownBlock = some wA.heap.size) :
    AB w4 ab (.pointer (some ⟨eb, 0, none⟩)) fv a ∧ LIn (w4.setCell ⟨ab, 5, none⟩ v4) ab eb F v4 { a with fl := a.fl ++ [x] } p ∧ Chg (LFoot ab F fv) w (w4.setCell ⟨ab, 5, none⟩ v4) ∧ ∀ j, LFoot ab F v4 j → LFoot ab F fv j ∨ w.heap.size ≤ j := by
  have hA := h.below hbA
  have hcg : Chg (fun j => fv.ownBlock = some j) wA w4 := Chg.of_grown hg4 (fun j hj => hj)
  have hac4 : AB w4 ab (.pointer (some ⟨eb, 0, none⟩)) fv a := hA.ac.chg hcg (fun e => h.vab e rfl)
  have hset : Chg (fun j => j = ab) w4 (w4.setCell ⟨ab, 5, none⟩ v4) := chg_set (Chg.refl _ _) rfl
  have hal := hA.alt
  have hnew : ∀ j, v4.ownBlock = some j → fv.ownBlock = some j ∨ wA.heap.size ≤ j := fun j hj => by
    rcases hfr4 with e | e
    · rw [e] at hj; exact Or.inl hj
    · rw [e] at hj; simp at hj; omega
  refine ⟨hac4, ⟨hac4.set (by simp [LAcc.cells]), ?_, (hA.st.chg hcg (fun j hj e => h.ff j e hj)).chg hset (fun j hj e => by rw [e] at hj; exact h.nf hj), h.nf, fun j hj hf => ?_, (hA.gl.chg hcg (fun j hj e => by have := h.gv j e; omega)).chg hset (fun j hj e => by have := h.ga; omega), h.ga, fun j hj => ?_, h.gf⟩, ?_, ?_⟩
  · unfold FR
    have e1 : flowCells (a.fl ++ [x]) = flowCells a.fl ++ x.cells := by unfold flowCells; rw [List.flatMap_append]; simp
    show (w4.setCell ⟨ab, 5, none⟩ v4).ownsRow 0 56 6 v4 (a.fl ++ [x]).length (flowCells (a.fl ++ [x]))
    rw [e1, List.length_append]
    exact owns_chg ho4 hset (fun j hj e => by rw [e] at hj; exact owns_ne ho4 hac4 (by decide) hj)
  · rcases hnew j hj with e | e
    · exact h.ff j e hf
    · have := hA.st.lt hf; omega
  · rcases hnew j hj with e | e
    · exact h.gv j e
    · have := h.ga; omega
  · exact chg_set (((Chg.of_below hbA).trans (hcg.mono fun j _ e => Or.inr (Or.inr (Or.inl e))))) (Or.inl rfl)
  · intro j hj
    rcases hj with e | e | e
    · exact Or.inl (Or.inl e)
    · rcases hnew j e with b | b
      · exact Or.inl (Or.inr (Or.inl b))
      · exact Or.inr (Nat.le_trans hbA.size b)
    · exact Or.inl (Or.inr (Or.inr e))
set_option maxRecDepth 100000 in
set_option maxHeartbeats 6400000 in
theorem lopens_5m (ab eb : Nat) (G : Nat → Prop) (a : LAcc) (p : GEnd) (K S N : Int) (T : ByteArray) (w : World) (h : LS w ab eb G a p) (hc : LCalm a p) (hKi : I64 K) (hk : pkI K 7 = 5) (ht : a.theirs = 4) :
    Calls Tryz.prog 10 #[.pointer (some ⟨ab, 0, none⟩), .agg #[.int .i64 K, .int .i64 S, .int .i64 N, .string T]] w fun e w' => LMoved w w' ab eb G e := by
  have hLS := h
  obtain ⟨F, fv, hin, hG⟩ := h
  have hp2 := fun wx => kpick_fun K 7 wx (by omega) hKi
  rw [hk] at hp2
  have HP2 := hide hp2
  obtain ⟨w0, hw0⟩ : ∃ w0, w0 = w.alloc (.cells #[.int .i64 K, .int .i64 S, .int .i64 N, .string T] 35) := ⟨_, rfl⟩
  have hmb0 : w0.heap[w.heap.size]? = some (.cells #[.int .i64 K, .int .i64 S, .int .i64 N, .string T] 35 (0, 0)) := by rw [hw0]; exact heap_alloc_new w _
  have hb0 : Below w.heap.size w w0 := by rw [hw0]; exact (Below.refl _ _).alloc (Nat.le_refl _) _
  have hin0 := hin.below hb0
  obtain ⟨r0, r1, r2, r3⟩ := move_cells hmb0
  have s0 : w0.cell? ⟨ab, 0, none⟩ = some (.pointer (some ⟨eb, 0, none⟩)) := hin0.ac.c0
  have s6 : w0.cell? ⟨ab, 6, none⟩ = some (.int .i64 (a.theirs : Int)) := hin0.ac.c6
  rw [ht] at s6
  have hlen := hc.rel.lenL
  have ho4 := hc.rel.o4
  have HOP := hide (c_open_many hin0.st hc.rel.e.live (by omega) (by rw [hc.rel.cnt]; omega))
  have HEND : Hid (LMoved w w0 ab eb G (.returned (.bool true))) := ⟨rfl, a, p, GoL.of_below hLS hb0, hc.ok⟩
  have HW0 := hide hw0
  clear hin hG hc hmb0 hb0 hin0 hw0 hp2 hk hKi hLS ht hlen ho4
  go_enter Tryz.func10, Tryz.ntmps10
  go_upto_region 1 with fail
  rw [← HW0.out]
  go_wp2_with fail
  refine (HP2.out _).mono ?_
  rintro e w' ⟨rfl, hw'⟩
  rw [hw']
  clear hw' w'
  go_wp2_with fail
  refine HOP.out.mono ?_
  rintro e w' ⟨rfl, hw'⟩
  rw [hw']
  clear hw' w'
  go_wp2
  go_ret
  exact HEND.out
set_option maxRecDepth 100000 in
set_option maxHeartbeats 6400000 in
theorem lopens_6m (ab eb : Nat) (G : Nat → Prop) (a : LAcc) (p : GEnd) (K S N : Int) (T : ByteArray) (w : World) (h : LS w ab eb G a p) (hc : LCalm a p) (hKi : I64 K) (hk : pkI K 7 = 6) (ht : a.ours = 4) :
    Calls Tryz.prog 10 #[.pointer (some ⟨ab, 0, none⟩), .agg #[.int .i64 K, .int .i64 S, .int .i64 N, .string T]] w fun e w' => LMoved w w' ab eb G e := by
  have hLS := h
  obtain ⟨F, fv, hin, hG⟩ := h
  have hp2 := fun wx => kpick_fun K 7 wx (by omega) hKi
  rw [hk] at hp2
  have HP2 := hide hp2
  obtain ⟨w0, hw0⟩ : ∃ w0, w0 = w.alloc (.cells #[.int .i64 K, .int .i64 S, .int .i64 N, .string T] 35) := ⟨_, rfl⟩
  have hmb0 : w0.heap[w.heap.size]? = some (.cells #[.int .i64 K, .int .i64 S, .int .i64 N, .string T] 35 (0, 0)) := by rw [hw0]; exact heap_alloc_new w _
  have hb0 : Below w.heap.size w w0 := by rw [hw0]; exact (Below.refl _ _).alloc (Nat.le_refl _) _
  have hin0 := hin.below hb0
  obtain ⟨r0, r1, r2, r3⟩ := move_cells hmb0
  have s7 : w0.cell? ⟨ab, 7, none⟩ = some (.int .i64 (a.ours : Int)) := hin0.ac.c7
  rw [ht] at s7
  have HEND : Hid (LMoved w w0 ab eb G (.returned (.bool true))) := ⟨rfl, a, p, GoL.of_below hLS hb0, hc.ok⟩
  have HW0 := hide hw0
  clear hin hG hc hmb0 hb0 hin0 hw0 hp2 hk hKi hLS ht
  go_enter Tryz.func10, Tryz.ntmps10
  go_upto_region 1 with fail
  rw [← HW0.out]
  go_wp2_with fail
  refine (HP2.out _).mono ?_
  rintro e w' ⟨rfl, hw'⟩
  rw [hw']
  clear hw' w'
  go_wp2
  go_ret
  exact HEND.out
set_option maxRecDepth 100000 in
set_option maxHeartbeats 12800000 in
theorem lopens_5 (ab eb : Nat) (G : Nat → Prop) (a : LAcc) (p : GEnd) (K S N : Int) (T : ByteArray) (w : World) (h : LS w ab eb G a p) (hc : LCalm a p) (hKi : I64 K) (hk : pkI K 7 = 5) (ht : a.theirs < 4) :
    Calls Tryz.prog 10 #[.pointer (some ⟨ab, 0, none⟩), .agg #[.int .i64 K, .int .i64 S, .int .i64 N, .string T]] w fun e w' => LMoved w w' ab eb G e := by
  obtain ⟨i0, hi, hz0, hz1, hz2⟩ := info_parts Tryz.info56
  obtain ⟨F, fv, hin, hG⟩ := h
  have hp2 := fun wx => kpick_fun K 7 wx (by omega) hKi
  rw [hk] at hp2
  have HP2 := hide hp2
  obtain ⟨w0, hw0⟩ : ∃ w0, w0 = w.alloc (.cells #[.int .i64 K, .int .i64 S, .int .i64 N, .string T] 35) := ⟨_, rfl⟩
  have hmb0 : w0.heap[w.heap.size]? = some (.cells #[.int .i64 K, .int .i64 S, .int .i64 N, .string T] 35 (0, 0)) := by rw [hw0]; exact heap_alloc_new w _
  have hb0 : Below w.heap.size w w0 := by rw [hw0]; exact (Below.refl _ _).alloc (Nat.le_refl _) _
  have hin0 := hin.below hb0
  obtain ⟨r0, r1, r2, r3⟩ := move_cells hmb0
  have s0 : w0.cell? ⟨ab, 0, none⟩ = some (.pointer (some ⟨eb, 0, none⟩)) := hin0.ac.c0
  have hlen := hc.rel.lenL
  have ho4 := hc.rel.o4
  have hnx := hc.rel.e.next
  have hop := c_open_ok hin0.st hc.rel.e.live hc.rel.e.got (by rw [hc.rel.cnt]; omega) (by omega) (by rw [hnx]; exact hc.rel.fresh (Or.inl rfl)) hc.rel.rise (by omega)
  rw [hnx] at hop
  obtain ⟨t, htt⟩ : ∃ t, t = a.theirs := ⟨_, rfl⟩
  obtain ⟨tu, htu⟩ : ∃ tu, tu = t + 1 := ⟨_, rfl⟩
  rw [← htt, show 2 * (t : Int) + 2 = 2 * (tu : Int) by omega] at hop
  rw [← htt] at ht
  have HOP := hide hop
  have hrel := hc.rel.opens (by omega)
  rw [← htt, ← htu] at hrel
  have hout := hc.out
  have hans := hc.ans
  have HIN0 := hide hin0
  have HB0 := hide hb0
  have HW0 := hide hw0
  have HG := hide hG
  have hfn := hc.rel.bd.n
  have HTT := hide htt
  have HU := hide htu
  have HREL : Hid (LOk { a with theirs := tu, fl := a.fl ++ [⟨2 * (tu : Int), 0, [], 0, false, false⟩] } p.opens) := ⟨hrel, hout, by show p.ans.length ≤ 8; rw [hans]; decide⟩
  clear hin hG hc hmb0 hb0 hin0 hw0 hp2 hk hKi hlen ho4 hop hnx hrel hout hans htt htu
  go_enter Tryz.func10, Tryz.ntmps10
  go_upto_region 1 with fail
  rw [← HW0.out]
  go_wp2_with fail
  refine (HP2.out _).mono ?_
  rintro e w' ⟨rfl, hw'⟩
  rw [hw']
  clear hw' w'
  go_wp2_with fail
  refine HOP.out.mono ?_
  rintro e w1 ⟨rfl, hgo⟩
  obtain ⟨F1, hin1, hc1, hg1⟩ := HIN0.out.go hgo
  have s6 : w1.cell? ⟨ab, 6, none⟩ = some (.int .i64 (t : Int)) := by rw [hin1.ac.c6, HTT.out]
  have sf6 := hin1.ac.fr 6
  have htu := HU.out
  have wt1 : IntKind.i64.wrap ((t : Int) + 1) = (tu : Int) := by rw [IntKind.wrap_i64]; omega
  have wt2 : IntKind.i64.wrap (2 * (tu : Int)) = 2 * (tu : Int) := by rw [IntKind.wrap_i64]; omega
  have et4 : ((t : Int) == 4) = false := by simp; omega
  clear htu
  obtain ⟨W2, hW2⟩ : ∃ W2, W2 = w1.setCell ⟨ab, 6, none⟩ (.int .i64 (tu : Int)) := ⟨_, rfl⟩
  have hin2 : LIn W2 ab eb F1 fv { a with theirs := tu } p.opens := by rw [hW2]; exact hin1.writeA (by simp [LAcc.cells]) rfl
  obtain ⟨sv, cv, hsv⟩ := slice_len hin2.fl
  have hsv : fv = .slice sv a.fl.length cv := hsv
  have c5 : W2.cell? ⟨ab, 5, none⟩ = some (.slice sv a.fl.length cv) := by rw [hin2.ac.c5, hsv]
  have c6 : W2.cell? ⟨ab, 6, none⟩ = some (.int .i64 (tu : Int)) := hin2.ac.c6
  have hc2 : Chg (LFoot ab F fv) w W2 := by
    rw [hW2]
    exact chg_set (((Chg.of_below HB0.out).trans (hc1.mono fun j _ e => Or.inr (Or.inr (Or.inr e))))) (Or.inl rfl)
  have hg2 : ∀ j, LFoot ab F1 fv j → LFoot ab F fv j ∨ w.heap.size ≤ j := fun j hj => by
    rcases hj with e | e | e
    · exact Or.inl (Or.inl e)
    · exact Or.inl (Or.inr (Or.inl e))
    · rcases hg1 j e with b | b
      · exact Or.inl (Or.inr (Or.inr b))
      · exact Or.inr (Nat.le_trans HB0.out.size b)
  have HRA : Hid (∀ o, (W2.alloc o).drew.ownsRow 0 56 6 (.slice sv a.fl.length cv) a.fl.length (flowCells a.fl)) := fun o => by
    rw [← hsv]
    exact owns_chg hin2.fl (((Chg.refl (fun _ => False) W2).alloc o).drew) (fun _ _ => id)
  have HAPP : Hid (∀ (o : Obj) (v4 : Value) (w4 : World), w4.ownsRow 0 56 6 v4 (a.fl.length + 1) (flowCells a.fl ++ [.int .i64 (2 * (tu : Int)), .int .i64 0, .string ⟨#[]⟩, .int .i64 0, .bool false, .bool false]) → (W2.alloc o).drew.grownBy w4 (Value.slice sv a.fl.length cv).ownBlock → (v4.ownBlock = (Value.slice sv a.fl.length cv).ownBlock ∨ v4.ownBlock = some (W2.alloc o).drew.heap.size) → w4.cell? ⟨ab, 5, none⟩ = some (.slice sv a.fl.length cv) ∧ w4.cell? ⟨ab, 6, none⟩ = some (.int .i64 (tu : Int)) ∧ w4.frozen? ⟨ab, 5, none⟩ = false ∧ (w4.setCell ⟨ab, 5, none⟩ v4).cell? ⟨ab, 6, none⟩ = some (.int .i64 (tu : Int)) ∧ LMoved w (w4.setCell ⟨ab, 5, none⟩ v4) ab eb G (.returned (.bool true))) := fun o v4 w4 ho hg hfr => by
    rw [← hsv] at hg hfr
    have hbA : Below W2.heap.size W2 (W2.alloc o).drew := (((Below.refl _ _).alloc (Nat.le_refl _) _)).drew
    obtain ⟨k1, k2, k3, k4⟩ := hin2.appd (x := ⟨2 * (tu : Int), 0, [], 0, false, false⟩) hbA ho hg hfr
    refine ⟨by rw [k1.c5, hsv], k1.c6, k1.fr 5, k2.ac.c6, rfl, _, _, GoL.of HG.out k2 ?_ ?_, HREL.out⟩
    · exact hc2.trans (k3.mono fun j _ e => (hg2 j e).symm)
    · intro j hj
      rcases k4 j hj with b | b
      · exact hg2 j b
      · exact Or.inr (Nat.le_trans hc2.size b)
  have c5a : (W2.alloc (.cells #[.int .i64 (2 * (tu : Int)), .int .i64 0, .string ⟨#[]⟩, .int .i64 0, .bool false, .bool false] 56)).drew.cell? ⟨ab, 5, none⟩ = some (.slice sv a.fl.length cv) := by
    have hbA : Below W2.heap.size W2 (W2.alloc (.cells #[.int .i64 (2 * (tu : Int)), .int .i64 0, .string ⟨#[]⟩, .int .i64 0, .bool false, .bool false] 56)).drew := (((Below.refl _ _).alloc (Nat.le_refl _) _)).drew
    rw [(hin2.below hbA).ac.c5, hsv]
  have c5b : (W2.drew.alloc (.cells #[.int .i64 (2 * (tu : Int)), .int .i64 0, .string ⟨#[]⟩, .int .i64 0, .bool false, .bool false] 56)).cell? ⟨ab, 5, none⟩ = some (.slice sv a.fl.length cv) := c5a
  have HW2 := hide hW2
  clear hgo hin1 hc1 hg1 hin2 hW2 hc2 hg2 hsv s0
  go_upto_region 7 with fail
  rw [← HW2.out]
  clear s6 sf6
  have c5d : W2.drew.cell? ⟨ab, 5, none⟩ = some (.slice sv a.fl.length cv) := c5
  have c6d : W2.drew.cell? ⟨ab, 6, none⟩ = some (.int .i64 (tu : Int)) := c6
  go_region_law (first
      | (refine step_appd rfl (.tmp 46) (.tmp 53) 28 rfl 56 i0 (.agg #[.int .i64 0, .int .i64 0, .string ⟨#[]⟩, .int .i64 0, .bool false, .bool false]) 6 48 Tryz.underlying28 hi hz0 hz1 hz2 rfl (by decide) (.slice sv a.fl.length cv) a.fl.length (flowCells a.fl) (by simp [Act.eval, Act.put]) (HRA.out _) (.slice (some ⟨W2.heap.size, 0, none⟩) 1 1) 1 [.int .i64 (2 * (tu : Int)), .int .i64 0, .string ⟨#[]⟩, .int .i64 0, .bool false, .bool false] (by simp [Act.eval, Act.put]) rfl (Or.inr ⟨_, _, rfl, fun j u hu => lies_row (w := W2) (xs := [.int .i64 (2 * (tu : Int)), .int .i64 0, .string ⟨#[]⟩, .int .i64 0, .bool false, .bool false]) (t := 56) j u hu⟩) (by intro u hu; simp only [List.mem_cons, List.not_mem_nil, or_false] at hu; rcases hu with rfl | rfl | rfl | rfl | rfl | rfl <;> rfl) (by unfold maxLen; omega) (by omega) ?_; intro v4 w4 ho4 hg4 hfr4; obtain ⟨s4, c4, hv4⟩ := slice_len ho4; subst hv4; obtain ⟨x5, x6, xf, x6b, hend⟩ := HAPP.out _ _ w4 ho4 hg4 hfr4; have HEND := hide hend; clear ho4 hg4 hfr4 hend))
  all_goals go_wp2
  all_goals go_ret
  all_goals exact HEND.out
end Go.Proofs.YtdccldbefdfppaaGreatDoor
/-
  Ledger: opens, the other end's.
-/
namespace Go.Proofs.YtdccldbefdfppaaGreatDoor
set_option linter.unusedVariables false
set_option linter.unusedSimpArgs false
open Go.RowKit

set_option maxRecDepth 100000 in
set_option maxHeartbeats 12800000 in
theorem lopens_6 (ab eb : Nat) (G : Nat → Prop) (a : LAcc) (p : GEnd) (K S N : Int) (T : ByteArray) (w : World) (h : LS w ab eb G a p) (hc : LCalm a p) (hKi : I64 K) (hk : pkI K 7 = 6) (ht : a.ours < 4) :
    Calls Tryz.prog 10 #[.pointer (some ⟨ab, 0, none⟩), .agg #[.int .i64 K, .int .i64 S, .int .i64 N, .string T]] w fun e w' => LMoved w w' ab eb G e := by
  obtain ⟨i0, hi, hz0, hz1, hz2⟩ := info_parts Tryz.info56
  obtain ⟨F, fv, hin, hG⟩ := h
  have hp2 := fun wx => kpick_fun K 7 wx (by omega) hKi
  rw [hk] at hp2
  have HP2 := hide hp2
  obtain ⟨w0, hw0⟩ : ∃ w0, w0 = w.alloc (.cells #[.int .i64 K, .int .i64 S, .int .i64 N, .string T] 35) := ⟨_, rfl⟩
  have hmb0 : w0.heap[w.heap.size]? = some (.cells #[.int .i64 K, .int .i64 S, .int .i64 N, .string T] 35 (0, 0)) := by rw [hw0]; exact heap_alloc_new w _
  have hb0 : Below w.heap.size w w0 := by rw [hw0]; exact (Below.refl _ _).alloc (Nat.le_refl _) _
  have hin0 := hin.below hb0
  obtain ⟨r0, r1, r2, r3⟩ := move_cells hmb0
  obtain ⟨t, htt⟩ : ∃ t, t = a.ours := ⟨_, rfl⟩
  obtain ⟨tu, htu⟩ : ∃ tu, tu = t + 1 := ⟨_, rfl⟩
  obtain ⟨ss, hss⟩ : ∃ ss, ss = 2 * (tu : Int) - 1 := ⟨_, rfl⟩
  obtain ⟨q, q1, q2, q3, q4, q5⟩ := hc.rel.heads ht
  rw [← htt, ← htu, ← hss] at q1 q3
  rw [← htt] at ht
  have s7 : w0.cell? ⟨ab, 7, none⟩ = some (.int .i64 (t : Int)) := by rw [hin0.ac.c7, htt]
  have sf7 := hin0.ac.fr 7
  have hfn := hc.rel.bd.n
  have wt1 : IntKind.i64.wrap ((t : Int) + 1) = (tu : Int) := by rw [IntKind.wrap_i64]; omega
  have wt2 : IntKind.i64.wrap (2 * (tu : Int)) = 2 * (tu : Int) := by rw [IntKind.wrap_i64]; omega
  have wt3 : IntKind.i64.wrap (2 * (tu : Int) - 1) = ss := by rw [IntKind.wrap_i64]; omega
  have et4 : ((t : Int) == 4) = false := by simp; omega
  obtain ⟨W2, hW2⟩ : ∃ W2, W2 = w0.setCell ⟨ab, 7, none⟩ (.int .i64 (tu : Int)) := ⟨_, rfl⟩
  have hin2 : LIn W2 ab eb F fv { a with ours := tu } p := by rw [hW2]; exact hin0.writeA (by simp [LAcc.cells]) rfl
  obtain ⟨sv, cv, hsv⟩ := slice_len hin2.fl
  have hsv : fv = .slice sv a.fl.length cv := hsv
  have c5 : W2.cell? ⟨ab, 5, none⟩ = some (.slice sv a.fl.length cv) := by rw [hin2.ac.c5, hsv]
  have c7 : W2.cell? ⟨ab, 7, none⟩ = some (.int .i64 (tu : Int)) := hin2.ac.c7
  have hc2 : Chg (LFoot ab F fv) w W2 := by
    rw [hW2]
    exact chg_set (Chg.of_below hb0) (Or.inl rfl)
  obtain ⟨WA, hWA⟩ : ∃ WA, WA = W2.alloc (.cells #[.int .i64 ss, .int .i64 0, .string ⟨#[]⟩, .int .i64 0, .bool false, .bool false] 56) := ⟨_, rfl⟩
  have hbA : Below W2.heap.size W2 WA := by rw [hWA]; exact (Below.refl _ _).alloc (Nat.le_refl _) _
  have HRA : Hid (WA.ownsRow 0 56 6 (.slice sv a.fl.length cv) a.fl.length (flowCells a.fl)) := by
    show WA.ownsRow 0 56 6 (.slice sv a.fl.length cv) a.fl.length (flowCells a.fl)
    rw [← hsv]
    exact (hin2.below hbA).fl
  have HLI : Hid (Lies WA (.slice (some ⟨W2.heap.size, 0, none⟩) 1 1) 1 [.int .i64 ss, .int .i64 0, .string ⟨#[]⟩, .int .i64 0, .bool false, .bool false]) := by
    show Lies WA _ _ _
    rw [hWA]
    exact Or.inr ⟨_, _, rfl, fun j u hu => lies_row (w := W2) (xs := [.int .i64 ss, .int .i64 0, .string ⟨#[]⟩, .int .i64 0, .bool false, .bool false]) (t := 56) j u hu⟩
  have HAPP : Hid (∀ (v4 : Value) (w4 : World), w4.ownsRow 0 56 6 v4 (a.fl.length + 1) (flowCells a.fl ++ [.int .i64 ss, .int .i64 0, .string ⟨#[]⟩, .int .i64 0, .bool false, .bool false]) → WA.grownBy w4 (Value.slice sv a.fl.length cv).ownBlock → (v4.ownBlock = (Value.slice sv a.fl.length cv).ownBlock ∨ v4.ownBlock = some WA.heap.size) → w4.cell? ⟨ab, 5, none⟩ = some (.slice sv a.fl.length cv) ∧ w4.frozen? ⟨ab, 5, none⟩ = false ∧ ∃ W5, W5 = w4.setCell ⟨ab, 5, none⟩ v4 ∧ W5.cell? ⟨ab, 0, none⟩ = some (.pointer (some ⟨eb, 0, none⟩)) ∧ (∀ w3, Below W5.heap.size W5 w3 → w3.cell? ⟨ab, 0, none⟩ = some (.pointer (some ⟨eb, 0, none⟩)) ∧ Calls Tryz.prog 13 #[.int .i64 1, .int .i64 4, .int .i64 ss, .slice none 0 0] w3 fun e w' => ∃ v, e = .returned v ∧ Below w3.heap.size w3 w' ∧ ∀ w2', Below w'.heap.size w' w2' → Calls Tryz.prog 16 #[.pointer (some ⟨eb, 0, none⟩), v] w2' fun e w'' => e = .returned (.int .i64 0) ∧ LMoved w w'' ab eb G (.returned (.bool true)))) := fun v4 w4 ho hg hfr => by
    rw [← hsv] at hg hfr
    obtain ⟨k1, k2, k3, k4⟩ := hin2.appd (x := ⟨ss, 0, [], 0, false, false⟩) hbA ho hg hfr
    refine ⟨by rw [k1.c5, hsv], k1.fr 5, _, rfl, k2.ac.c0, fun w3 hb3 => ⟨(k2.below hb3).ac.c0, ?_⟩⟩
    refine (LIn.feeds (w1 := w3) (sa := none) (cap := 0) (body := []) k2 q1 q2 hb3 (by omega) (by omega) (by omega) (by omega) (by omega) (by omega) (by decide) (Or.inl ⟨rfl, rfl⟩)).mono ?_
    rintro e w' ⟨v, rfl, h1, h2⟩
    refine ⟨v, rfl, h1, fun w2' hb2 => (h2 w2' hb2).mono ?_⟩
    rintro e w'' ⟨rfl, hgo⟩
    refine ⟨rfl, rfl, _, q, ?_, ⟨q3, by rw [q4]; exact hc.out, by rw [q5, hc.ans]; decide⟩⟩
    have hcc : Chg (LFoot ab F fv) w (w4.setCell ⟨ab, 5, none⟩ v4) := hc2.trans (k3.mono fun j _ e => Or.inr e)
    exact GoL.then (G1 := LFoot ab F v4) (hcc.mono fun j _ e => (hG j).2 e) (fun j hj => by
      rcases k4 j hj with b | b
      · exact Or.inl ((hG j).2 b)
      · exact Or.inr (Nat.le_trans hc2.size b)) hgo
  have HW0 := hide hw0
  have HW2 := hide hW2
  have HWA := hide hWA
  clear hin hG hc hmb0 hb0 hin0 hw0 hp2 hk hKi hin2 hW2 hWA hbA hc2 hsv q1 q2 q3 q4 q5 htt htu hss ht
  go_enter Tryz.func10, Tryz.ntmps10
  go_upto_region 1 with fail
  rw [← HW0.out]
  go_wp2_with fail
  refine (HP2.out _).mono ?_
  rintro e w' ⟨rfl, hw'⟩
  rw [hw']
  clear hw' w'
  go_upto_region 12 with fail
  rw [← HW2.out]
  clear s7 sf7 r0 r1 r2 r3
  go_upto_region 13 with fail
  go_wp2_with (at_builtin; rw [← HWA.out]; refine wpList_app _ rfl (.tmp 91) (.tmp 94) 28 rfl 56 i0 (.agg #[.int .i64 0, .int .i64 0, .string ⟨#[]⟩, .int .i64 0, .bool false, .bool false]) 6 48 Tryz.underlying28 hi hz0 hz1 hz2 rfl (by decide) (.slice sv a.fl.length cv) a.fl.length (flowCells a.fl) rfl HRA.out (.slice (some ⟨W2.heap.size, 0, none⟩) 1 1) 1 [.int .i64 ss, .int .i64 0, .string ⟨#[]⟩, .int .i64 0, .bool false, .bool false] rfl rfl HLI.out (by intro u hu; simp only [List.mem_cons, List.not_mem_nil, or_false] at hu; rcases hu with rfl | rfl | rfl | rfl | rfl | rfl <;> rfl) (by unfold maxLen; omega) (by omega) ?_)
  intro v4 w4 ho4 hg4 hfr4
  obtain ⟨s4, c4, hv4⟩ := slice_len ho4
  subst hv4
  obtain ⟨x5, xf, W5, hW5, y0, hcl⟩ := HAPP.out _ w4 ho4 hg4 hfr4
  obtain ⟨y0d, hlay⟩ := hcl W5.drew (Below.drew (Below.refl _ _))
  have HL := hide hlay
  have HC0 : Hid (∀ w3, Below W5.heap.size W5 w3 → w3.cell? ⟨ab, 0, none⟩ = some (.pointer (some ⟨eb, 0, none⟩))) := fun w3 hb3 => (hcl w3 hb3).1
  have HW5 := hide hW5
  clear ho4 hg4 hfr4 hcl hlay hW5
  go_upto_region 14 with fail
  rw [← HW5.out]
  go_region_law (first
    | (refine step_call rfl 13 Tryz.f13 Tryz.func13 (by kernel_rfl) rfl [.const (.int .i64 1), .const (.int .i64 4), .tmp 102, .const (.slice none 0 0)] #[3, 3, 3, 44] rfl [.int .i64 1, .int .i64 4, .int .i64 ss, .slice none 0 0] (by simp [Act.eval, Act.put]) HL.out ?_; rintro e w6 ⟨v, rfl, hb6, hfd⟩; refine ⟨_, rfl, ?_⟩; have HFD := hide (hfd w6 (Below.refl _ _)); have z0 : w6.cell? ⟨ab, 0, none⟩ = some (.pointer (some ⟨eb, 0, none⟩)) := HC0.out w6 ⟨hb6.os, hb6.tape, hb6.output, hb6.size, hb6.block⟩; clear hb6 hfd)
    | (refine step_call rfl 16 Tryz.f16 Tryz.func16 (by kernel_rfl) rfl [.tmp 101, .tmp 103] #[27, 44] rfl [.pointer (some ⟨eb, 0, none⟩), v] (by simp [Act.eval, Act.put]) HFD.out ?_; rintro e w7 ⟨rfl, hend⟩; refine ⟨_, rfl, ?_⟩; have HEND := hide hend; clear hend))
  all_goals go_wp2
  all_goals go_ret
  all_goals exact HEND.out
end Go.Proofs.YtdccldbefdfppaaGreatDoor
/-
  Ledger: a script, as it reads.
-/
namespace Go.Proofs.YtdccldbefdfppaaGreatDoor
set_option linter.unusedVariables false
set_option linter.unusedSimpArgs false
open Go.RowKit

structure LMv where
  kind : Int
  s : Int
  n : Int
  t : ByteArray
def LMv.cells (m : LMv) : List Value := [.int .i64 m.kind, .int .i64 m.s, .int .i64 m.n, .string m.t]
structure LMvOk (m : LMv) : Prop where
  kind : I64 m.kind
  s : I64 m.s
  n : I64 m.n
  t : m.t.size ≤ 140737488355328
/-- A script that lies in memory. -/
structure LScript (w : World) (v : Value) (l : List LMv) : Prop where
  len : ∃ sa cap, v = .slice sa l.length cap
  at_ : ∀ i (h : i < l.length), ∃ g off cap, v = .slice (some ⟨g, off, none⟩) l.length cap ∧ l.length ≤ cap ∧ g < w.heap.size ∧ w.cell? ⟨g, off + i * 4, none⟩ = some (.int .i64 l[i].kind) ∧ w.cell? ⟨g, off + i * 4 + 1, none⟩ = some (.int .i64 l[i].s) ∧ w.cell? ⟨g, off + i * 4 + 2, none⟩ = some (.int .i64 l[i].n) ∧ w.cell? ⟨g, off + i * 4 + 3, none⟩ = some (.string l[i].t)
  ok : ∀ m ∈ l, LMvOk m
theorem LScript.chg {S : Nat → Prop} {w w' : World} {v : Value} {l : List LMv} (h : LScript w v l) (hc : Chg S w w') (hs : ∀ j, v.ownBlock = some j → 0 < l.length → ¬ S j) : LScript w' v l := by
  refine ⟨h.len, fun i hi => ?_, h.ok⟩
  obtain ⟨g, off, cap, e, h1, h2, c0, c1, c2, c3⟩ := h.at_ i hi
  have hn := hs g (by rw [e]; rfl) (by omega)
  refine ⟨g, off, cap, e, h1, Nat.lt_of_lt_of_le h2 hc.size, ?_, ?_, ?_, ?_⟩
  · rw [hc.cell (p := ⟨g, off + i * 4, none⟩) h2 hn]; exact c0
  · rw [hc.cell (p := ⟨g, off + i * 4 + 1, none⟩) h2 hn]; exact c1
  · rw [hc.cell (p := ⟨g, off + i * 4 + 2, none⟩) h2 hn]; exact c2
  · rw [hc.cell (p := ⟨g, off + i * 4 + 3, none⟩) h2 hn]; exact c3
theorem cellsI : Tryz.prog.cellsOf 3 = 1 := by kernel_rfl
theorem cellsS : Tryz.prog.cellsOf 9 = 1 := by kernel_rfl
theorem cellsMv : Tryz.prog.cellsOf 35 = 4 := by kernel_rfl
theorem bytesMv : Tryz.prog.bytesOf 35 = 40 := by kernel_rfl
theorem undMv : ∃ n0 n1 n2 n3 : Field, Tryz.prog.underlying 35 = some (.struct #[n0, n1, n2, n3]) ∧ n0.type = 3 ∧ n1.type = 3 ∧ n2.type = 3 ∧ n3.type = 9 ∧ n0.offset = 0 ∧ n1.offset = 1 ∧ n2.offset = 2 ∧ n3.offset = 3 :=
  ⟨_, _, _, _, Tryz.underlying35, rfl, rfl, rfl, rfl, rfl, rfl, rfl, rfl⟩
section
variable {H : Type} {enc : TypeId × Value → H} {W : World}
theorem trod_struct4 {P : Program} {base : Nat} {spare : Nat → Bool} {held : Bool} {t : TypeId} {f0 f1 f2 f3 : Field} {fuel : Nat} {cs : List Value} {x : DataW H × List MemPlace} (ht : P.underlying t = some (.struct #[f0, f1, f2, f3])) (h : DataW.trod enc P W base spare held fuel t cs = some x) :
    ∃ y0 y1 y2 y3 n, x.1 = .agg [y0.1, y1.1, y2.1, y3.1] ∧ DataW.trod enc P W base spare held n f0.type ((cs.drop f0.offset).take (P.cellsOf f0.type)) = some y0 ∧
      DataW.trod enc P W base spare held n f1.type ((cs.drop f1.offset).take (P.cellsOf f1.type)) = some y1 ∧ DataW.trod enc P W base spare held n f2.type ((cs.drop f2.offset).take (P.cellsOf f2.type)) = some y2 ∧
      DataW.trod enc P W base spare held n f3.type ((cs.drop f3.offset).take (P.cellsOf f3.type)) = some y3 := by
  obtain ⟨xs, n, _, rfl, hl, hlen, hf⟩ := DataW.trod_struct ht h
  match xs, hlen with
  | [y0, y1, y2, y3], _ => exact ⟨y0, y1, y2, y3, n, by simp, by simpa using hf 0 f0 rfl, by simpa using hf 1 f1 rfl, by simpa using hf 2 f2 rfl, by simpa using hf 3 f3 rfl⟩
theorem weights_all {P : Program} {e : TypeId} {d : DataW H} {l : List (DataW H)} (hd : d ∈ l) {n : Nat} (hn : n ∈ d.weights P e) : n ∈ DataW.weightsAll P e l := by
  induction l with
  | nil => cases hd
  | cons a r ih =>
    simp only [DataW.weightsAll, List.mem_append]
    rcases List.mem_cons.1 hd with rfl | hd
    · exact Or.inl hn
    · exact Or.inr (ih hd)
set_option maxRecDepth 100000 in
/-- A script, as it reads. -/
theorem lopen_moves {fuel : Nat} {sa : Option Addr} {len cap : Nat} {x : DataW H × List MemPlace} (h : DataW.trod enc Tryz.prog W 0 (fun _ => true) true fuel 24 [.slice sa len cap] = some x) (hb : ∀ n ∈ x.1.weights Tryz.prog 24, n ≤ reachBytes) :
    ∃ l : List LMv, l.length = len ∧ len ≤ 4503599627370496 ∧ LScript W (.slice sa len cap) l ∧ ∀ j, (Value.slice sa len cap).ownBlock = some j → 0 < len → j < W.heap.size := by
  have hrb : reachBytes < 140737488355328 := reachBytes_lt
  rcases Deep.open_slice Tryz.underlying24 h with ⟨hcs, _⟩ | ⟨a, len', cap', m, n, D, Pl, hcs, _, hl, hmx, hm, hx, hel⟩
  · simp at hcs
    obtain ⟨rfl, rfl, rfl⟩ := hcs
    exact ⟨[], rfl, by omega, ⟨⟨none, 0, rfl⟩, fun i hi => by simp at hi, fun m hm => by cases hm⟩, fun j hj h0 => by omega⟩
  · simp at hcs
    obtain ⟨rfl, rfl, rfl⟩ := hcs
    simp only [if_true] at hm
    rw [cellsMv] at hel
    obtain ⟨n0, n1, n2, n3, hu, t0, t1, t2, t3, o0, o1, o2, o3⟩ := undMv
    rw [hx] at hb
    have hw : ∀ q, q ∈ ((((List.range len).map D).length + ((List.range (m - len)).map fun j => D (len + j)).length) * Tryz.prog.bytesOf 35 :: (DataW.weightsAll Tryz.prog 35 ((List.range len).map D) ++ DataW.weightsAll Tryz.prog 35 ((List.range (m - len)).map fun j => D (len + j)))) → q ≤ reachBytes := by
      intro q hq
      refine hb q ?_
      simp only [DataW.weights, Tryz.underlying24]
      exact hq
    have hlen : len ≤ 4503599627370496 := by
      have := hw _ List.mem_cons_self
      rw [bytesMv] at this
      simp only [List.length_map, List.length_range] at this
      omega
    have hone : ∀ i, i < len → ∃ o : LMv, (W.cell? (a.add (i * 4)) = some (.int .i64 o.kind) ∧ W.cell? ((a.add (i * 4)).add 1) = some (.int .i64 o.s) ∧ W.cell? ((a.add (i * 4)).add 2) = some (.int .i64 o.n) ∧ W.cell? ((a.add (i * 4)).add 3) = some (.string o.t)) ∧ LMvOk o := by
      intro i hi
      obtain ⟨cs, hc1, hc2⟩ := hel i (by omega)
      obtain ⟨_, hlen, hcell⟩ := World.cells?_some hc1
      obtain ⟨y0, y1, y2, y3, n', hD1, h0, h1, h2, h3⟩ := trod_struct4 hu hc2
      simp only at hD1
      match cs, hlen with
      | [c0, c1, c2, c3], _ =>
        rw [t0, o0, cellsI] at h0
        rw [t1, o1, cellsI] at h1
        rw [t2, o2, cellsI] at h2
        rw [t3, o3, cellsS] at h3
        obtain ⟨k0, e0, _, w0⟩ := DataW.trod_int Tryz.underlying3 h0
        obtain ⟨k1, e1, _, w1⟩ := DataW.trod_int Tryz.underlying3 h1
        obtain ⟨k2, e2, _, w2⟩ := DataW.trod_int Tryz.underlying3 h2
        obtain ⟨s, e3, hx3, _⟩ := DataW.trod_string Tryz.underlying9 h3
        simp at e0 e1 e2 e3
        subst e0 e1 e2 e3
        have d0 := hcell 0 (by omega)
        have d1 := hcell 1 (by omega)
        have d2 := hcell 2 (by omega)
        have d3 := hcell 3 (by omega)
        have e : s.data.toList.length = s.size := by rw [Array.length_toList]; rfl
        refine ⟨⟨k0, k1, k2, s⟩, ⟨by simpa [Addr.add] using d0, d1, d2, d3⟩, ⟨bounds_i64 w0, bounds_i64 w1, bounds_i64 w2, ?_⟩⟩
        show s.size ≤ _
        have hmem : s.data.toList.length ∈ (D i).weights Tryz.prog 35 := by
          rw [hD1]
          simp only [DataW.weights, hu]
          rw [hx3]
          simp [DataW.weightsEach, DataW.weights]
        have := hw _ (List.mem_cons_of_mem _ (List.mem_append_left _ (weights_all (List.mem_map.2 ⟨i, by simpa using hi, rfl⟩) hmem)))
        rw [e] at this
        omega
    obtain ⟨f, hf⟩ := @Deep.choose_lt LMv ⟨⟨0, 0, 0, .empty⟩⟩ _ _ hone
    refine ⟨(List.range len).map f, by simp, hlen, ⟨⟨some a, cap, by simp⟩, fun k hk => ?_, fun q hq => ?_⟩, fun j hj h0 => ?_⟩
    · simp at hk
      obtain ⟨⟨e0, e1, e2, e3⟩, _⟩ := hf k hk
      obtain ⟨b, off, spot⟩ := a
      have hspot : spot = none := by
        obtain ⟨⟨g0, _⟩, _⟩ := hf 0 (by omega)
        simpa [Addr.add] using World.cell?_spot g0
      subst hspot
      have ad : ∀ j, (⟨b, off, none⟩ : Addr).add j = ⟨b, off + j, none⟩ := fun j => by unfold Addr.add; split <;> simp_all
      have ad2 : ∀ i j, ((⟨b, i, none⟩ : Addr)).add j = ⟨b, i + j, none⟩ := fun i j => by unfold Addr.add; split <;> simp_all
      rw [ad] at e0 e1 e2 e3
      rw [ad2] at e1 e2 e3
      refine ⟨b, off, cap, by simp, by simpa using hl, World.block_lt_of_cell? W _ e0, ?_, ?_, ?_, ?_⟩
      · simpa using e0
      · simpa using e1
      · simpa using e2
      · simpa using e3
    · obtain ⟨i, hi, rfl⟩ := List.mem_map.1 hq
      exact (hf i (by simpa using hi)).2
    · obtain ⟨⟨e0, -⟩, -⟩ := hf 0 h0
      have := World.block_lt_of_cell? W _ e0
      have hab : a.block = j := by simpa [Value.ownBlock] using hj
      have h2 : (a.add (0 * 4)).block = a.block := by unfold Addr.add; split <;> rfl
      omega
end
end Go.Proofs.YtdccldbefdfppaaGreatDoor
/-
  Ledger: Ledger.
-/
namespace Go.Proofs.YtdccldbefdfppaaGreatDoor
set_option linter.unusedVariables false
set_option linter.unusedSimpArgs false
open Go.RowKit

section
variable {w : World} {ab eb : Nat} {G : Nat → Prop} {a : LAcc} {p : GEnd} {m : LMv}
theorem lgrants_all (h : LS w ab eb G a p) (hc : LCalm a p) (ok : LMvOk m) (hk : pkI m.kind 7 = 0 ∨ pkI m.kind 7 = 1 ∨ pkI m.kind 7 = 2) :
    Calls Tryz.prog 8 #[.pointer (some ⟨ab, 0, none⟩), .agg #[.int .i64 m.kind, .int .i64 m.s, .int .i64 m.n, .string m.t]] w fun e w' => LMoved w w' ab eb G e := by
  rcases hk with hk | hk | hk
  · exact lgrants_0 ab eb G a p m.kind m.s m.n m.t w h hc ok.n ok.kind hk
  · by_cases hb : 1073741824 < a.given
    · exact lgrants_big ab eb G a p m.kind m.s m.n m.t 1 w h hc ok.n ok.kind hk (by omega) hb
    · exact lgrants_1 ab eb G a p m.kind m.s m.n m.t w h hc ok.n ok.kind hk (by omega)
  · by_cases hb : 1073741824 < a.given
    · exact lgrants_big ab eb G a p m.kind m.s m.n m.t 2 w h hc ok.n ok.kind hk (by omega) hb
    · by_cases he : a.fl = []
      · exact lgrants_2e ab eb G a p m.kind m.s m.n m.t w h hc ok.n ok.kind hk he (by omega)
      · exact lgrants_2 ab eb G a p m.kind m.s m.n m.t w h hc ok.n ok.kind hk ok.s he (by omega)
theorem lwrites_all (h : LS w ab eb G a p) (hc : LCalm a p) (ok : LMvOk m) (hk : pkI m.kind 7 = 3 ∨ pkI m.kind 7 = 4) :
    Calls Tryz.prog 9 #[.pointer (some ⟨ab, 0, none⟩), .agg #[.int .i64 m.kind, .int .i64 m.s, .int .i64 m.n, .string m.t]] w fun e w' => LMoved w w' ab eb G e := by
  by_cases he : a.fl = []
  · exact lwrites_e ab eb G a p m.kind m.s m.n m.t w h hc he
  · have hl := List.length_pos_iff.2 he
    obtain ⟨i, hi, hi2⟩ := lpk_nat m.s (n := (a.fl.length : Int)) (by omega)
    have hlt : i < a.fl.length := by omega
    have hx : a.fl[i]? = some a.fl[i] := List.getElem?_eq_getElem hlt
    have hT : m.t = ⟨m.t.data.toList.toArray⟩ := by simp
    have hTl : m.t.data.toList.length ≤ 140737488355328 := by
      have h1 : m.t.data.toList.length = m.t.size := by simp [← ByteArray.size_data]
      have h2 := ok.t
      omega
    rw [hT]
    rcases hk with hk | hk
    · cases hcl : a.fl[i].closed with
      | false => exact lwrites_w0 ab eb G a p m.kind m.s m.n m.t.data.toList w h hc ok.s ok.kind hk he i _ hi hx hcl hTl
      | true => exact lwrites_w1 ab eb G a p m.kind m.s m.n m.t.data.toList w h hc ok.s ok.kind hk he i _ hi hx hcl
    · cases hcl : a.fl[i].closed with
      | false => exact lwrites_c0 ab eb G a p m.kind m.s m.n m.t.data.toList w h hc ok.s ok.kind hk he i _ hi hx hcl
      | true => exact lwrites_c1 ab eb G a p m.kind m.s m.n m.t.data.toList w h hc ok.s ok.kind hk he i _ hi hx hcl
theorem lopens_all (h : LS w ab eb G a p) (hc : LCalm a p) (ok : LMvOk m) (hk : pkI m.kind 7 = 5 ∨ pkI m.kind 7 = 6) :
    Calls Tryz.prog 10 #[.pointer (some ⟨ab, 0, none⟩), .agg #[.int .i64 m.kind, .int .i64 m.s, .int .i64 m.n, .string m.t]] w fun e w' => LMoved w w' ab eb G e := by
  have h4 := hc.rel.t4
  have h5 := hc.rel.o4
  rcases hk with hk | hk
  · by_cases ht : a.theirs = 4
    · exact lopens_5m ab eb G a p m.kind m.s m.n m.t w h hc ok.kind hk ht
    · exact lopens_5 ab eb G a p m.kind m.s m.n m.t w h hc ok.kind hk (by omega)
  · by_cases ht : a.ours = 4
    · exact lopens_6m ab eb G a p m.kind m.s m.n m.t w h hc ok.kind hk ht
    · exact lopens_6 ab eb G a p m.kind m.s m.n m.t w h hc ok.kind hk (by omega)
end
/-- How it begins. -/
def lA0 (o : Nat) : LAcc := ⟨o, 0, 0, 0, [], 0, 0⟩
theorem calm_first {i c b k : Int} {o : Nat} (h : CfgOk i c b k) (ho : o ≤ 100) : LCalm (lA0 o) (pSaidO i c b k o) := by
  have h0 := h.i0; have h1 := h.i1; have h2 := h.c0; have h3 := h.c1
  refine ⟨⟨⟨rfl, rfl, rfl, rfl, rfl, rfl, rfl, rfl, rfl, rfl, rfl, rfl, ?_, rfl, rfl, rfl, ⟨h0, h1⟩, ?_, ?_, ?_, ?_, fun x hx => (by cases hx)⟩, rfl, fun i x s hx => (by simp [lA0] at hx), List.nodup_nil, List.Pairwise.nil, ?_, fun s hs => (by cases hs), rfl, rfl, rfl, (by show 0 ≤ 4; omega), (by show 0 ≤ 4; omega), ?_, ?_, ?_, ?_⟩, rfl, rfl, fun s hs => (by cases hs)⟩
  · show (0 : Int) ≤ 2 * ((0 : Nat) : Int)
    omega
  · show 0 ≤ c - 32 ∧ c - 32 ≤ 1000
    omega
  · show (0 : Int) ≤ 32 ∧ (32 : Int) ≤ 1000000 - (c - 32)
    omega
  · show (0 : Nat) < 4294967296
    omega
  · show (0 : Int) ≤ 32 ∧ (32 : Int) ≤ 1000
    omega
  · intro n
    constructor
    · intro h; cases h
    · rintro ⟨s, hs, -⟩; cases hs
  · show (0 : Int) ≤ (o : Int) ∧ (o : Int) ≤ 200
    omega
  · show (0 : Int) ≤ 0 ∧ (0 : Int) ≤ 0
    omega
  · show (0 : Int) ≤ 0 ∧ (0 : Int) ≤ 32 + 0
    omega
  · show (0 : Int) ≤ 1073742200
    omega
set_option maxRecDepth 100000 in
set_option maxHeartbeats 12800000 in
theorem ledger_all (x0 x1 x2 x3 ini : Int) (sv : Option Addr) (scap : Nat) (l : List LMv) (w : World) (h0 : I64 x0) (h1 : I64 x1) (h2 : I64 x2) (h3 : I64 x3) (hini : I64 ini) (hsc : LScript w (.slice sv l.length scap) l) (hl : l.length ≤ 4503599627370496) (hvl : ∀ j, (Value.slice sv l.length scap).ownBlock = some j → 0 < l.length → j < w.heap.size) (hgl : Gl w) (hg : 7 ≤ w.heap.size) :
    Calls Tryz.prog 3 #[.agg #[.int .i64 x0, .int .i64 x1, .int .i64 x2, .int .i64 x3], .int .i64 ini, .slice sv l.length scap] w fun e w' => e = .returned (.bool true) ∧ Below w.heap.size w w' := by
  obtain ⟨w0, hw0⟩ : ∃ w0, w0 = w.alloc (.cells #[.int .i64 x0, .int .i64 x1, .int .i64 x2, .int .i64 x3] 23) := ⟨_, rfl⟩
  have hcf : w0.heap[w.heap.size]? = some (.cells #[.int .i64 x0, .int .i64 x1, .int .i64 x2, .int .i64 x3] 23 (0, 0)) := by rw [hw0]; exact heap_alloc_new w _
  have hb0 : Below w.heap.size w w0 := by rw [hw0]; exact (Below.refl _ _).alloc (Nat.le_refl _) _
  obtain ⟨o, ho, ho2⟩ := lpk_nat ini (n := 100) (by omega)
  have hp1 := fun wx => kpick_fun ini 100 wx (by omega) hini
  rw [ho] at hp1
  have HP1 := hide hp1
  obtain ⟨w1, hw1⟩ : ∃ w1, w1 = w0.alloc (.cells #[.pointer none, .int .i64 (o : Int), .int .i64 0, .int .i64 0, .int .i64 0, .slice none 0 0, .int .i64 0, .int .i64 0] 30) := ⟨_, rfl⟩
  have hac1 : AB w1 w0.heap.size (.pointer none) (.slice none 0 0) (lA0 o) := by rw [hw1]; exact heap_alloc_new w0 _
  have hb1 : Below w0.heap.size w0 w1 := by rw [hw1]; exact (Below.refl _ _).alloc (Nat.le_refl _) _
  have hb01 : Below w.heap.size w w1 := hb0.trans (hb1.mono hb0.size)
  have hcf1 := kept_told hcf hb1
  obtain ⟨y0, y1, y2, y3⟩ := cfgs' hcf1
  have z1 : w1.cell? ⟨w0.heap.size, 1, none⟩ = some (.int .i64 (o : Int)) := hac1.c1
  have hd1 : Below w1.heap.size w1 w1.drew := Below.drew (Below.refl _ _)
  have hsw := lt_of_block hcf
  have HTC := hide (tameConfig_any x0 x1 x2 x3 w1.drew h0 h1 h2 h3)
  have HAC1 := hide hac1
  have HB1 := hide hb01
  have HD1 := hide hd1
  have HGL := hide hgl
  have HSC := hide hsc
  have HVL := hide hvl
  have HW0 := hide hw0
  have HW1 := hide hw1
  clear hcf hb0 hw0 hac1 hb1 hb01 hcf1 hw1 hd1 hgl hsc hvl h0 h1 h2 h3 hp1 hini ho
  go_enter Tryz.func3, Tryz.ntmps3
  go_upto_region 1 with fail
  rw [← HW0.out]
  go_wp2_with fail
  refine (HP1.out _).mono ?_
  rintro e w' ⟨rfl, hw'⟩
  rw [hw']
  clear hw' w'
  go_upto_region 2 with fail
  rw [← HW1.out]
  go_cut [8, 9] (fun s8 s9 wx => ∃ eb F i c b k, s8 = .pointer (some ⟨eb, 0, none⟩) ∧ s9 = .bool true ∧ CfgOk i c b k ∧ StE wx eb F (pSaidO i c b k o) ∧ Below w1.heap.size w1 wx ∧ ∀ j, F j → w1.heap.size ≤ j)
  case first =>
    go_region_law (first
      | (refine step_call rfl 7 Tryz.f7 Tryz.func7 (by kernel_rfl) rfl [.tmp 16] #[23] rfl [.agg #[.int .i64 x0, .int .i64 x1, .int .i64 x2, .int .i64 x3]] (by simp [Act.eval, Act.put]) HTC.out ?_; rintro e w2 ⟨i, c, b, k, rfl, hok, hb2⟩; refine ⟨_, rfl, ?_⟩; have hbx2 := HD1.out.trans (hb2.mono HD1.out.size); have hbw2 := HB1.out.trans (hbx2.mono HB1.out.size); have HBG := hide (kbegun_all i c b k o w2 hok (by omega) (HGL.out.below hbw2) (Nat.le_trans hg hbw2.size)); have z2 : w2.cell? ⟨w0.heap.size, 1, none⟩ = some (.int .i64 (o : Int)) := (HAC1.out.below hbx2).c1; have HBX2 := hide hbx2; have HOK := hide hok; clear hb2 hbx2 hbw2 hok)
      | (refine step_call rfl 6 Tryz.f6 Tryz.func6 (by kernel_rfl) rfl [.tmp 17, .tmp 21] #[23, 3] rfl [.agg #[.int .i64 i, .int .i64 c, .int .i64 b, .int .i64 k], .int .i64 (o : Int)] (by simp [Act.eval, Act.put]) HBG.out ?_; rintro e w3 ⟨eb, F, rfl, hst, hb3, hF⟩; refine ⟨_, rfl, ?_⟩; have HR : Hid (∃ i c b k, CfgOk i c b k ∧ StE w3 eb F (pSaidO i c b k o) ∧ Below w1.heap.size w1 w3 ∧ ∀ j, F j → w1.heap.size ≤ j) := ⟨i, c, b, k, HOK.out, hst, HBX2.out.trans (hb3.mono HBX2.out.size), fun j hj => Nat.le_trans HBX2.out.size (hF j hj)⟩; clear hst hb3 hF))
    all_goals go_wp2_with fail
    all_goals go_meet
    all_goals (obtain ⟨i, c, b, k, k1, k2, k3, k4⟩ := HR.out; exact ⟨_, _, i, c, b, k, rfl, rfl, k1, k2, k3, k4⟩)
  case rest =>
    obtain ⟨eb, F, i, c, b, k, h8, h9, hok, hst, hbx, hF⟩ := hcut
    subst h8 h9
    obtain ⟨w3, hw3⟩ : ∃ w3, w3 = wc := ⟨wc, rfl⟩
    rw [← hw3] at hst hbx ⊢
    clear hw3 y0 y1 y2 y3 z1
    have hac3 := HAC1.out.below hbx
    have a0 : w3.cell? ⟨w0.heap.size, 0, none⟩ = some (.pointer none) := hac3.c0
    have af0 := hac3.fr 0
    obtain ⟨ab, hab⟩ : ∃ ab, ab = w0.heap.size := ⟨_, rfl⟩
    rw [← hab] at hac3 a0 af0 ⊢
    have hab1 : ab < w1.heap.size := by rw [hab]; exact HAC1.out.lt
    obtain ⟨W, hW⟩ : ∃ W, W = w3.setCell ⟨ab, 0, none⟩ (.pointer (some ⟨eb, 0, none⟩)) := ⟨_, rfl⟩
    have hcW : Chg (fun j => j = ab) w3 W := by rw [hW]; exact chg_set (Chg.refl _ _) rfl
    have hnF : ¬ F ab := fun hf => by have := hF ab hf; omega
    have hgw3 : Gl w3 := HGL.out.below (HB1.out.trans (hbx.mono HB1.out.size))
    have hinW : LIn W ab eb F (.slice none 0 0) (lA0 o) (pSaidO i c b k o) := by
      refine ⟨?_, World.ownsRow_nil _ _ _ _, hst.chg hcW (fun j hj e => by rw [e] at hj; exact hnF hj), hnF, fun j hj => by simp [Value.ownBlock] at hj, hgw3.chg hcW (fun j hj e => by omega), by omega, fun j hj => by simp [Value.ownBlock] at hj, fun j hj => by have := hF j hj; have := HB1.out.size; omega⟩
      rw [hW]
      exact hac3.set (by simp [LAcc.cells])
    have hLS : LS W ab eb (LFoot ab F (.slice none 0 0)) (lA0 o) (pSaidO i c b k o) := ⟨F, _, hinW, fun j => Iff.rfl⟩
    obtain ⟨G0, hG0⟩ : ∃ G0, G0 = LFoot ab F (.slice none 0 0) := ⟨_, rfl⟩
    rw [← hG0] at hLS
    have HG0 : Hid (∀ j, G0 j → w.heap.size ≤ j) := fun j hj => by
      rw [hG0] at hj
      rcases hj with e | e | e
      · omega
      · simp [Value.ownBlock] at e
      · have := hF j e; have := HB1.out.size; omega
    have hCW : Below w.heap.size w W := by
      rw [hW]
      have hb3 := HB1.out.trans (hbx.mono HB1.out.size)
      exact below_of_chg hb3 (chg_set (S := fun j => j = ab) (Chg.refl _ _) rfl) (fun j e => by omega)
    have HCW := hide hCW
    have HLS := hide hLS
    have HCA := hide (calm_first (o := o) hok (by omega))
    have HWW := hide hW
    generalize pSaidO i c b k o = P0 at *
    clear hst hbx hF hac3 hab1 hcW hnF hgw3 hinW hLS hG0 hCW hW hok hab
    go_upto_region 6 with fail
    rw [← HWW.out]
    go_wp2
    go_loopw [9, 10] (fun ok ix wr => ∃ (n : Nat) (wv : World) (Gv : Nat → Prop) (av : LAcc) (pv : GEnd), wv = wr ∧ ok = .bool true ∧ ix = .int .i64 (n : Int) ∧ n ≤ l.length ∧ LS wv ab eb Gv av pv ∧ LCalm av pv ∧ Chg G0 W wv ∧ ∀ j, Gv j → G0 j ∨ W.heap.size ≤ j) (fun _ ix _ => l.length - (intOf ix).toNat)
    case atStart => exact ⟨0, _, G0, _, _, rfl, rfl, rfl, Nat.zero_le _, HLS.out, HCA.out, Chg.refl _ _, fun j hj => Or.inl hj⟩
    case round =>
      obtain ⟨n, wv, Gv, av, pv, hwv, rfl, rfl, hn, hls, hca, hcv, hgv⟩ := hrel
      subst hwv
      by_cases hlt : n < l.length
      · have hscv := (HSC.out.chg (Chg.of_below (S := fun _ => False) HCW.out) (fun _ _ _ => id)).chg hcv (fun j hj h0 e => by have h1 := HVL.out j hj h0; have h2 := HG0.out j e; omega)
        obtain ⟨g, off, cap, e1, e2, e3, c0, c1, c2, c3⟩ := hscv.at_ n hlt
        simp only [Value.slice.injEq, true_and] at e1
        obtain ⟨rfl, rfl⟩ := e1
        have hmo := hscv.ok _ (List.getElem_mem hlt)
        generalize l[n] = m at *
        obtain ⟨kd, hkd, hk7⟩ := lpk_nat m.kind (n := 7) (by omega)
        have hp7 := kpick_fun m.kind 7 wv (by omega) hmo.kind
        have i1 : (0 : Int) ≤ (n : Int) := by omega
        have i2 : (n : Int) < (l.length : Int) := by omega
        have hnl : n + 1 ≤ l.length := by omega
        have HDR : Hid (∀ w3, LMoved wv w3 ab eb Gv (.returned (.bool true)) → Calls Tryz.prog 11 #[.pointer (some ⟨ab, 0, none⟩)] w3 fun e w4 => e = .returned (.bool true) ∧ ∃ G4 a4 p4, LS w4 ab eb G4 a4 p4 ∧ LCalm a4 p4 ∧ Chg G0 W w4 ∧ ∀ j, G4 j → G0 j ∨ W.heap.size ≤ j) := fun w3 hmv => by
          obtain ⟨-, a3, p3, ⟨G3, hls3, hc3, hg3⟩, hok3⟩ := hmv
          refine (ldrained_ok ab eb G3 a3 p3 w3 hls3 hok3.rel hok3.out hok3.ans).mono ?_
          rintro e w4 ⟨rfl, a4, p4, ⟨G4, hls4, hc4, hg4⟩, hca4⟩
          have hcc3 : Chg G0 W w3 := hcv.trans (hc3.mono fun j _ e => (hgv j e).symm)
          have hgg3 : ∀ j, G3 j → G0 j ∨ W.heap.size ≤ j := fun j hj => by
            rcases hg3 j hj with b | b
            · exact hgv j b
            · exact Or.inr (Nat.le_trans hcv.size b)
          refine ⟨rfl, G4, a4, p4, hls4, hca4, hcc3.trans (hc4.mono fun j _ e => (hgg3 j e).symm), fun j hj => ?_⟩
          rcases hg4 j hj with b | b
          · exact hgg3 j b
          · exact Or.inr (Nat.le_trans hcc3.size b)
        have hcases : kd = 0 ∨ kd = 1 ∨ kd = 2 ∨ kd = 3 ∨ kd = 4 ∨ kd = 5 ∨ kd = 6 := by omega
        rw [hkd] at hp7
        have HP7 := hide hp7
        clear hp7 hcv hgv hscv
        rcases hcases with hkd0 | hkd0 | hkd0 | hkd0 | hkd0 | hkd0 | hkd0
        · subst hkd0
          have HMV := hide (lgrants_all (m := m) hls hca hmo (Or.inl hkd))
          obtain ⟨mk, ms, mn, mt⟩ := m
          simp only at c0 c1 c2 c3 HMV HP7
          clear hls hca hmo hkd hk7
          go_wp2_with fail
          refine HP7.out.mono ?_
          rintro e w' ⟨rfl, hw'⟩
          rw [hw']
          clear hw' w'
          go_wp2_with fail
          refine HMV.out.mono ?_
          intro e w3 hmv
          have he := hmv.1
          subst he
          have HD := hide (HDR.out w3 hmv)
          clear hmv
          go_wp2_with fail
          refine HD.out.mono ?_
          rintro e w4 ⟨rfl, G4, a4, p4, hls4, hca4, hc4, hg4⟩
          have HREL : Hid (∃ (Gv : Nat → Prop) (av : LAcc) (pv : GEnd), LS w4 ab eb Gv av pv ∧ LCalm av pv ∧ Chg G0 W w4 ∧ ∀ j, Gv j → G0 j ∨ W.heap.size ≤ j) := ⟨G4, a4, p4, hls4, hca4, hc4, hg4⟩
          clear hls4 hca4 hc4 hg4
          go_wp2
          all_goals go_roundw
          case rel =>
            obtain ⟨G4, a4, p4, k1, k2, k3, k4⟩ := HREL.out
            exact ⟨n + 1, _, G4, a4, p4, rfl, rfl, by go_num, hnl, k1, k2, k3, k4⟩
          case measure => simp [intOf]; omega
        · subst hkd0
          have HMV := hide (lgrants_all (m := m) hls hca hmo (Or.inr (Or.inl hkd)))
          obtain ⟨mk, ms, mn, mt⟩ := m
          simp only at c0 c1 c2 c3 HMV HP7
          clear hls hca hmo hkd hk7
          go_wp2_with fail
          refine HP7.out.mono ?_
          rintro e w' ⟨rfl, hw'⟩
          rw [hw']
          clear hw' w'
          go_wp2_with fail
          refine HMV.out.mono ?_
          intro e w3 hmv
          have he := hmv.1
          subst he
          have HD := hide (HDR.out w3 hmv)
          clear hmv
          go_wp2_with fail
          refine HD.out.mono ?_
          rintro e w4 ⟨rfl, G4, a4, p4, hls4, hca4, hc4, hg4⟩
          have HREL : Hid (∃ (Gv : Nat → Prop) (av : LAcc) (pv : GEnd), LS w4 ab eb Gv av pv ∧ LCalm av pv ∧ Chg G0 W w4 ∧ ∀ j, Gv j → G0 j ∨ W.heap.size ≤ j) := ⟨G4, a4, p4, hls4, hca4, hc4, hg4⟩
          clear hls4 hca4 hc4 hg4
          go_wp2
          all_goals go_roundw
          case rel =>
            obtain ⟨G4, a4, p4, k1, k2, k3, k4⟩ := HREL.out
            exact ⟨n + 1, _, G4, a4, p4, rfl, rfl, by go_num, hnl, k1, k2, k3, k4⟩
          case measure => simp [intOf]; omega
        · subst hkd0
          have HMV := hide (lgrants_all (m := m) hls hca hmo (Or.inr (Or.inr hkd)))
          obtain ⟨mk, ms, mn, mt⟩ := m
          simp only at c0 c1 c2 c3 HMV HP7
          clear hls hca hmo hkd hk7
          go_wp2_with fail
          refine HP7.out.mono ?_
          rintro e w' ⟨rfl, hw'⟩
          rw [hw']
          clear hw' w'
          go_wp2_with fail
          refine HMV.out.mono ?_
          intro e w3 hmv
          have he := hmv.1
          subst he
          have HD := hide (HDR.out w3 hmv)
          clear hmv
          go_wp2_with fail
          refine HD.out.mono ?_
          rintro e w4 ⟨rfl, G4, a4, p4, hls4, hca4, hc4, hg4⟩
          have HREL : Hid (∃ (Gv : Nat → Prop) (av : LAcc) (pv : GEnd), LS w4 ab eb Gv av pv ∧ LCalm av pv ∧ Chg G0 W w4 ∧ ∀ j, Gv j → G0 j ∨ W.heap.size ≤ j) := ⟨G4, a4, p4, hls4, hca4, hc4, hg4⟩
          clear hls4 hca4 hc4 hg4
          go_wp2
          all_goals go_roundw
          case rel =>
            obtain ⟨G4, a4, p4, k1, k2, k3, k4⟩ := HREL.out
            exact ⟨n + 1, _, G4, a4, p4, rfl, rfl, by go_num, hnl, k1, k2, k3, k4⟩
          case measure => simp [intOf]; omega
        · subst hkd0
          have HMV := hide (lwrites_all (m := m) hls hca hmo (Or.inl hkd))
          obtain ⟨mk, ms, mn, mt⟩ := m
          simp only at c0 c1 c2 c3 HMV HP7
          clear hls hca hmo hkd hk7
          go_wp2_with fail
          refine HP7.out.mono ?_
          rintro e w' ⟨rfl, hw'⟩
          rw [hw']
          clear hw' w'
          go_wp2_with fail
          refine HMV.out.mono ?_
          intro e w3 hmv
          have he := hmv.1
          subst he
          have HD := hide (HDR.out w3 hmv)
          clear hmv
          go_wp2_with fail
          refine HD.out.mono ?_
          rintro e w4 ⟨rfl, G4, a4, p4, hls4, hca4, hc4, hg4⟩
          have HREL : Hid (∃ (Gv : Nat → Prop) (av : LAcc) (pv : GEnd), LS w4 ab eb Gv av pv ∧ LCalm av pv ∧ Chg G0 W w4 ∧ ∀ j, Gv j → G0 j ∨ W.heap.size ≤ j) := ⟨G4, a4, p4, hls4, hca4, hc4, hg4⟩
          clear hls4 hca4 hc4 hg4
          go_wp2
          all_goals go_roundw
          case rel =>
            obtain ⟨G4, a4, p4, k1, k2, k3, k4⟩ := HREL.out
            exact ⟨n + 1, _, G4, a4, p4, rfl, rfl, by go_num, hnl, k1, k2, k3, k4⟩
          case measure => simp [intOf]; omega
        · subst hkd0
          have HMV := hide (lwrites_all (m := m) hls hca hmo (Or.inr hkd))
          obtain ⟨mk, ms, mn, mt⟩ := m
          simp only at c0 c1 c2 c3 HMV HP7
          clear hls hca hmo hkd hk7
          go_wp2_with fail
          refine HP7.out.mono ?_
          rintro e w' ⟨rfl, hw'⟩
          rw [hw']
          clear hw' w'
          go_wp2_with fail
          refine HMV.out.mono ?_
          intro e w3 hmv
          have he := hmv.1
          subst he
          have HD := hide (HDR.out w3 hmv)
          clear hmv
          go_wp2_with fail
          refine HD.out.mono ?_
          rintro e w4 ⟨rfl, G4, a4, p4, hls4, hca4, hc4, hg4⟩
          have HREL : Hid (∃ (Gv : Nat → Prop) (av : LAcc) (pv : GEnd), LS w4 ab eb Gv av pv ∧ LCalm av pv ∧ Chg G0 W w4 ∧ ∀ j, Gv j → G0 j ∨ W.heap.size ≤ j) := ⟨G4, a4, p4, hls4, hca4, hc4, hg4⟩
          clear hls4 hca4 hc4 hg4
          go_wp2
          all_goals go_roundw
          case rel =>
            obtain ⟨G4, a4, p4, k1, k2, k3, k4⟩ := HREL.out
            exact ⟨n + 1, _, G4, a4, p4, rfl, rfl, by go_num, hnl, k1, k2, k3, k4⟩
          case measure => simp [intOf]; omega
        · subst hkd0
          have HMV := hide (lopens_all (m := m) hls hca hmo (Or.inl hkd))
          obtain ⟨mk, ms, mn, mt⟩ := m
          simp only at c0 c1 c2 c3 HMV HP7
          clear hls hca hmo hkd hk7
          go_wp2_with fail
          refine HP7.out.mono ?_
          rintro e w' ⟨rfl, hw'⟩
          rw [hw']
          clear hw' w'
          go_wp2_with fail
          refine HMV.out.mono ?_
          intro e w3 hmv
          have he := hmv.1
          subst he
          have HD := hide (HDR.out w3 hmv)
          clear hmv
          go_wp2_with fail
          refine HD.out.mono ?_
          rintro e w4 ⟨rfl, G4, a4, p4, hls4, hca4, hc4, hg4⟩
          have HREL : Hid (∃ (Gv : Nat → Prop) (av : LAcc) (pv : GEnd), LS w4 ab eb Gv av pv ∧ LCalm av pv ∧ Chg G0 W w4 ∧ ∀ j, Gv j → G0 j ∨ W.heap.size ≤ j) := ⟨G4, a4, p4, hls4, hca4, hc4, hg4⟩
          clear hls4 hca4 hc4 hg4
          go_wp2
          all_goals go_roundw
          case rel =>
            obtain ⟨G4, a4, p4, k1, k2, k3, k4⟩ := HREL.out
            exact ⟨n + 1, _, G4, a4, p4, rfl, rfl, by go_num, hnl, k1, k2, k3, k4⟩
          case measure => simp [intOf]; omega
        · subst hkd0
          have HMV := hide (lopens_all (m := m) hls hca hmo (Or.inr hkd))
          obtain ⟨mk, ms, mn, mt⟩ := m
          simp only at c0 c1 c2 c3 HMV HP7
          clear hls hca hmo hkd hk7
          go_wp2_with fail
          refine HP7.out.mono ?_
          rintro e w' ⟨rfl, hw'⟩
          rw [hw']
          clear hw' w'
          go_wp2_with fail
          refine HMV.out.mono ?_
          intro e w3 hmv
          have he := hmv.1
          subst he
          have HD := hide (HDR.out w3 hmv)
          clear hmv
          go_wp2_with fail
          refine HD.out.mono ?_
          rintro e w4 ⟨rfl, G4, a4, p4, hls4, hca4, hc4, hg4⟩
          have HREL : Hid (∃ (Gv : Nat → Prop) (av : LAcc) (pv : GEnd), LS w4 ab eb Gv av pv ∧ LCalm av pv ∧ Chg G0 W w4 ∧ ∀ j, Gv j → G0 j ∨ W.heap.size ≤ j) := ⟨G4, a4, p4, hls4, hca4, hc4, hg4⟩
          clear hls4 hca4 hc4 hg4
          go_wp2
          all_goals go_roundw
          case rel =>
            obtain ⟨G4, a4, p4, k1, k2, k3, k4⟩ := HREL.out
            exact ⟨n + 1, _, G4, a4, p4, rfl, rfl, by go_num, hnl, k1, k2, k3, k4⟩
          case measure => simp [intOf]; omega
      · have hne : n = l.length := by omega
        subst hne
        have HEND : Hid (Below w.heap.size w wv) := below_of_chg HCW.out hcv HG0.out
        clear hls hca hcv hgv
        go_wp2
        go_ret
        exact ⟨rfl, HEND.out⟩
end Go.Proofs.YtdccldbefdfppaaGreatDoor
/-
  From the card's condition to what the package's variables hold.
-/
namespace Go.Proofs.YtdccldbefdfppaaGreatDoor
set_option linter.unusedVariables false
set_option linter.unusedSimpArgs false
open Go.ChangeShapes Go.WideShapes Go.ChangeAt Go.RowKit

theorem bcellsU8 : Tryz.prog.cellsOf 5 = 1 := by kernel_rfl
theorem bcellsInt : Tryz.prog.cellsOf 3 = 1 := by kernel_rfl
theorem cellsStr : Tryz.prog.cellsOf 9 = 1 := by kernel_rfl
theorem cellsForm : Tryz.prog.cellsOf 234 = 2 := by kernel_rfl
theorem cellsHdr : Tryz.prog.cellsOf 130 = 2 := by kernel_rfl
theorem undForm : ∃ n0 n1 : Field, Tryz.prog.underlying 234 = some (.struct #[n0, n1]) ∧ n0.type = 5 ∧ n1.type = 3 ∧ n0.offset = 0 ∧ n1.offset = 1 := ⟨_, _, Tryz.underlying234, rfl, rfl, rfl, rfl⟩
theorem undHdr : ∃ n0 n1 : Field, Tryz.prog.underlying 130 = some (.struct #[n0, n1]) ∧ n0.type = 9 ∧ n1.type = 9 ∧ n0.offset = 0 ∧ n1.offset = 1 := ⟨_, _, Tryz.underlying130, rfl, rfl, rfl, rfl⟩

theorem laid_mem {P : Program} {w : World} {laid : List (String × DataW Unit)} {ps : List MemPlace} (h : DataW.LaidVars P w laid ps) {n : String} {d : DataW Unit} (hm : (n, d) ∈ laid) :
    ∃ g t cs fuel p, P.globalNamed n = some g ∧ (P.globals[g]?).map (·.type) = some t ∧ w.var? P n = some cs ∧ DataW.trod (fun _ => ()) P w 0 (fun _ => true) false fuel t cs.toList = some (d, p) := by
  induction laid generalizing ps with
  | nil => simp at hm
  | cons x r ih =>
    obtain ⟨n', d'⟩ := x
    obtain ⟨g, t, cs, fuel, p, q, h1, h2, h3, h4, h5, _⟩ := h
    rcases List.mem_cons.1 hm with e | e
    · simp only [Prod.mk.injEq] at e
      obtain ⟨rfl, rfl⟩ := e
      exact ⟨g, t, cs, fuel, p, h1, h2, h3, h4⟩
    · exact ih h5 e

section
variable {H : Type} {enc : TypeId × Value → H} {W : World} {spare : Nat → Bool} {held : Bool}
set_option maxRecDepth 100000 in
/-- A form, as it reads. -/
theorem form_cells {nm : String} {g : Nat} {cs : Array Value} {fuel : Nat} {p : List MemPlace} {a k : Int} (hg : Tryz.prog.globalNamed nm = some g) (hv : W.var? Tryz.prog nm = some cs)
    (hd : DataW.trod enc Tryz.prog W 0 spare held fuel 234 cs.toList = some (.agg [.lit (.int .u8 a), .lit (.int .i64 k)], p)) : W.cell? ⟨g, 0, none⟩ = some (.int .u8 a) ∧ W.cell? ⟨g, 1, none⟩ = some (.int .i64 k) := by
  obtain ⟨f0, f1, hu, t0, t1, o0, o1⟩ := undForm
  obtain ⟨y0, y1, n, hx, hl, h0, h1⟩ := trod_struct2 hu hd
  rw [cellsForm] at hl
  have v0 := World.var?_cell hg hv 0
  have v1 := World.var?_cell hg hv 1
  obtain ⟨l⟩ := cs
  match l, hl with
  | [c0, c1], _ =>
    rw [t0, o0, bcellsU8] at h0
    rw [t1, o1, bcellsInt] at h1
    obtain ⟨k0, e0, x0, _⟩ := DataW.trod_int Tryz.underlying5 h0
    obtain ⟨k1, e1, x1, _⟩ := DataW.trod_int Tryz.underlying3 h1
    simp at e0 e1
    rw [x0, x1] at hx
    simp at hx
    rw [v0, v1]
    simp [e0, e1, hx]
set_option maxRecDepth 100000 in
/-- A pair, as it reads. -/
theorem hdr_reads {fuel : Nat} {c0 c1 : Value} {x : DataW H × List MemPlace} (hd : DataW.trod enc Tryz.prog W 0 spare held fuel 130 [c0, c1] = some x) : ∃ h : HP, c0 = .string h.n ∧ c1 = .string h.v ∧ x.1 = .agg [.lit (.string h.n.data.toList), .lit (.string h.v.data.toList)] ∧ h.n.size ≤ maxLen ∧ h.v.size ≤ maxLen := by
  obtain ⟨f0, f1, hu, t0, t1, o0, o1⟩ := undHdr
  obtain ⟨y0, y1, n, hx, hl, h0, h1⟩ := trod_struct2 hu hd
  rw [t0, o0, cellsStr] at h0
  rw [t1, o1, cellsStr] at h1
  obtain ⟨s0, e0, x0, m0⟩ := DataW.trod_string Tryz.underlying9 h0
  obtain ⟨s1, e1, x1, m1⟩ := DataW.trod_string Tryz.underlying9 h1
  simp at e0 e1
  refine ⟨⟨s0, s1⟩, e0, e1, ?_, m0, m1⟩
  rw [hx, x0, x1]
set_option maxRecDepth 100000 in
theorem fixed_cells {nm : String} {g : Nat} {cs : Array Value} {fuel : Nat} {p : List MemPlace} (hg : Tryz.prog.globalNamed nm = some g) (hv : W.var? Tryz.prog nm = some cs)
    (hd : DataW.trod enc Tryz.prog W 0 spare held fuel 268 cs.toList = some (.agg (fixed8.map fun h => .agg [.lit (.string h.n.data.toList), .lit (.string h.v.data.toList)]), p)) :
    ∀ i (h : i < fixed8.length), W.cell? ⟨g, 2 * i, none⟩ = some (.string fixed8[i].n) ∧ W.cell? ⟨g, 2 * i + 1, none⟩ = some (.string fixed8[i].v) := by
  intro i hi
  obtain ⟨xs, m, _, hx, hl, hn, hel⟩ := DataW.trod_array Tryz.underlying268 hd
  have h8 : fixed8.length = 8 := rfl
  have hi8 : i < 8 := by omega
  have he := hel i hi8
  rw [cellsHdr] at he
  have c16 : Tryz.prog.cellsOf 268 = 16 := by kernel_rfl
  rw [c16] at hl
  have hxi : i < xs.length := by omega
  rw [List.getElem?_eq_getElem hxi] at he
  have hlen2 : ((cs.toList.drop (i * 2)).take 2).length = 2 := by rw [List.length_take, List.length_drop]; omega
  have g0 : ((cs.toList.drop (i * 2)).take 2)[0]? = cs.toList[i * 2]? := by simp [List.getElem?_take, List.getElem?_drop]
  have g1 : ((cs.toList.drop (i * 2)).take 2)[1]? = cs.toList[i * 2 + 1]? := by simp [List.getElem?_take, List.getElem?_drop]
  have v0 := World.var?_cell hg hv (2 * i)
  have v1 := World.var?_cell hg hv (2 * i + 1)
  have e0 : 2 * i = i * 2 := by omega
  rw [e0] at v0 v1
  match hq : (cs.toList.drop (i * 2)).take 2, hlen2 with
  | [c0, c1], _ =>
    rw [hq] at he g0 g1
    obtain ⟨h, rfl, rfl, hx1, _, _⟩ := hdr_reads he
    simp only [Prod.mk.injEq, DataW.agg.injEq] at hx
    have h9 := congrArg (fun l => l[i]?) hx.1
    simp only [List.getElem?_map, List.getElem?_eq_getElem hi, List.getElem?_eq_getElem hxi, Option.map_some, Option.some.injEq] at h9
    rw [hx1] at h9
    simp only [DataW.agg.injEq, List.cons.injEq, DataW.lit.injEq, Lit.string.injEq, and_true] at h9
    have b0 := bytes_inj h9.1
    have b1 := bytes_inj h9.2
    rw [e0, v0, v1, ← Array.getElem?_toList, ← Array.getElem?_toList, ← g0, ← g1, b0, b1]
    exact ⟨rfl, rfl⟩
end

set_option maxRecDepth 100000 in
theorem gl_of_laid {W : World} {laid : List (String × DataW Unit)} (h : laidMet Tryz.prog laid W)
    (m0 : ("sluice/blocks.byNumber", Rows.laid_sluice_blocks_byNumber) ∈ laid) (m1 : ("sluice/blocks.toAdd", Rows.laid_sluice_blocks_toAdd) ∈ laid) (m2 : ("sluice/blocks.toLimit", Rows.laid_sluice_blocks_toLimit) ∈ laid) (m3 : ("sluice/blocks.notToAdd", Rows.laid_sluice_blocks_notToAdd) ∈ laid)
    (m4 : ("sluice/blocks.plain", Rows.laid_sluice_blocks_plain) ∈ laid) (m5 : ("sluice/blocks.packed", Rows.laid_sluice_blocks_packed) ∈ laid) (m6 : ("sluice/blocks.fixed", Rows.laid_sluice_blocks_fixed) ∈ laid) : Gl W := by
  obtain ⟨ps, hL, _, _⟩ := h
  have fm : ∀ (nm : String) (gi : Nat) (d : DataW Unit) (a k : Int), (nm, d) ∈ laid → d = .agg [.lit (.int .u8 a), .lit (.int .i64 k)] → Tryz.prog.globalNamed nm = some gi → (Tryz.prog.globals[gi]?).map (·.type) = some 234 → W.cell? ⟨gi, 0, none⟩ = some (.int .u8 a) ∧ W.cell? ⟨gi, 1, none⟩ = some (.int .i64 k) := by
    intro nm gi d a k hm hd hg ht
    obtain ⟨g, t, cs, fuel, p, hg', ht', hv, hr⟩ := laid_mem hL hm
    obtain rfl := Option.some.inj (hg.symm.trans hg')
    obtain rfl := Option.some.inj (ht.symm.trans ht')
    rw [hd] at hr
    exact form_cells hg hv hr
  have q0 := fm _ 1 _ 128 7 m0 rfl (by kernel_rfl) (by kernel_rfl)
  have q1 := fm _ 2 _ 64 6 m1 rfl (by kernel_rfl) (by kernel_rfl)
  have q2 := fm _ 0 _ 32 5 m2 rfl (by kernel_rfl) (by kernel_rfl)
  have q3 := fm _ 3 _ 0 4 m3 rfl (by kernel_rfl) (by kernel_rfl)
  have q4 := fm _ 6 _ 0 7 m4 rfl (by kernel_rfl) (by kernel_rfl)
  have q5 := fm _ 5 _ 128 7 m5 rfl (by kernel_rfl) (by kernel_rfl)
  have q6 : ∀ i (h : i < fixed8.length), W.cell? ⟨4, 2 * i, none⟩ = some (.string fixed8[i].n) ∧ W.cell? ⟨4, 2 * i + 1, none⟩ = some (.string fixed8[i].v) := by
    obtain ⟨g, t, cs, fuel, p, hg', ht', hv, hr⟩ := laid_mem hL m6
    obtain rfl := Option.some.inj ((show Tryz.prog.globalNamed "sluice/blocks.fixed" = some 4 by kernel_rfl).symm.trans hg')
    obtain rfl := Option.some.inj ((show (Tryz.prog.globals[4]?).map (·.type) = some 268 by kernel_rfl).symm.trans ht')
    exact fixed_cells hg' hv hr
  have b0 := World.block_lt_of_cell? W _ q0.1
  have b1 := World.block_lt_of_cell? W _ q1.1
  have b2 := World.block_lt_of_cell? W _ q2.1
  have b3 := World.block_lt_of_cell? W _ q3.1
  have b4 := World.block_lt_of_cell? W _ q4.1
  have b5 := World.block_lt_of_cell? W _ q5.1
  have b6 := World.block_lt_of_cell? W _ (q6 0 (by decide)).1
  simp only at b0 b1 b2 b3 b4 b5 b6
  exact ⟨q2, q0, q3, q1, q5, q4, q6, by omega⟩
end Go.Proofs.YtdccldbefdfppaaGreatDoor
/-
  Closed facts of the row ledgerRow.
-/
namespace Go.Proofs.YtdccldbefdfppaaGreatDoor
set_option maxRecDepth 100000

theorem ledgerRow_laid : laidOutB Tryz.pinned.checked.prog = true := by kernel_rfl
theorem ledgerRow_inP : (Rows.ledgerRow.inPlace == Tryz.pinned.checked.prog.inPlace 3) = true := by kernel_rfl
end Go.Proofs.YtdccldbefdfppaaGreatDoor
/-
  Closed facts of the row ledgerRow.
-/
namespace Go.Proofs.YtdccldbefdfppaaGreatDoor
set_option maxRecDepth 100000

theorem ledgerRow_unf : (Rows.ledgerRow.unfollowed == Tryz.pinned.checked.prog.unfollowed 3) = true := by kernel_rfl
theorem ledgerRow_rec : (Rows.ledgerRow.recurses == Tryz.pinned.checked.prog.recurses 3) = true := by kernel_rfl
end Go.Proofs.YtdccldbefdfppaaGreatDoor
/-
  Closed facts of the row ledgerRow.
-/
namespace Go.Proofs.YtdccldbefdfppaaGreatDoor
set_option maxRecDepth 100000

theorem ledgerRow_nam : (Rows.ledgerRow.named == Tryz.pinned.checked.prog.varsNamed 3) = true := by kernel_rfl
theorem ledgerRow_plk : (Rows.ledgerRow.plainKeys == Tryz.pinned.checked.prog.plainKeys) = true := by kernel_rfl
theorem ledgerRow_mapsR : mapsRowed Tryz.pinned.checked.prog = true := by kernel_rfl
end Go.Proofs.YtdccldbefdfppaaGreatDoor
/-
  Closed facts of the row ledgerRow.
-/
namespace Go.Proofs.YtdccldbefdfppaaGreatDoor
set_option maxRecDepth 100000

theorem ledgerRow_goes : false = Rows.ledgerRow.goesBy Tryz.pinned.checked.prog := by kernel_rfl
theorem ledgerRow_looks : true = Tryz.pinned.checked.prog.looks [] := by kernel_rfl
theorem ledgerRow_wfT : Rows.ledgerRow.wfByText (OpenSpec.ofChange Rows.ledgerSpec) = true := by kernel_rfl
end Go.Proofs.YtdccldbefdfppaaGreatDoor
/-
  Closed facts of the row ledgerRow: all of them.
-/
namespace Go.Proofs.YtdccldbefdfppaaGreatDoor
set_option maxRecDepth 100000

theorem ledgerRow_and {a b : Bool} (h : a = true) (k : b = true) : (a && b) = true := by rw [h, k]; rfl
theorem ledgerRow_wf : Rows.ledgerRow.wf (OpenSpec.ofChange Rows.ledgerSpec) = true := by kernel_rfl
theorem ledgerRow_params : Tryz.f3.params.all (Tryz.pinned.checked.prog.readableRec ·) = true := by kernel_rfl
theorem ledgerRow_tieN : namedTie Tryz.pinned.checked.prog Rows.ledgerRow.named Rows.ledgerSpec.vars = true := by kernel_rfl
theorem ledgerRow_s1 : (Rows.ledgerRow.stops == []) = true := by kernel_rfl
theorem ledgerRow_s2 : (Tryz.pinned.checked.prog.stops == []) = true := by kernel_rfl
theorem ledgerRow_s3 : (Rows.ledgerRow.knobs == []) = true := by kernel_rfl
theorem ledgerRow_s4 : (Tryz.pinned.checked.prog.stopKnobs == []) = true := by kernel_rfl
theorem ledgerRow_maps : (Rows.ledgerRow.maps == (Tryz.f3.params.toList ++ Rows.ledgerSpec.plain.varTypes Tryz.pinned.checked.prog).any (Tryz.pinned.checked.prog.mapsRec ·)) = true := by kernel_rfl
theorem ledgerRow_ifc : (Rows.ledgerRow.ifaces == (Tryz.f3.params.toList ++ Rows.ledgerSpec.plain.varTypes Tryz.pinned.checked.prog).any (Tryz.pinned.checked.prog.ifacesRec ·)) = true := by kernel_rfl
theorem ledgerRow_mapO : (Rows.ledgerRow.mapsOut == Tryz.pinned.checked.prog.mapsAmong Tryz.f3.resultTypes.toList) = true := by kernel_rfl
theorem ledgerRow_loops : (Rows.ledgerRow.loops == (Tryz.f3.params.toList ++ Rows.ledgerSpec.plain.varTypes Tryz.pinned.checked.prog).any (Tryz.pinned.checked.prog.loopsFrom ·)) = true := by kernel_rfl
theorem ledgerRow_wide : (Rows.ledgerRow.wideKeys == (Tryz.f3.params.toList ++ Rows.ledgerSpec.plain.varTypes Tryz.pinned.checked.prog ++ Tryz.f3.resultTypes.toList).any (Tryz.pinned.checked.prog.wideKeysFrom ·)) = true := by kernel_rfl
theorem ledgerRow_vars : Rows.ledgerSpec.vars.all (Tryz.pinned.checked.prog.varReadable ·) = true := by kernel_rfl
theorem ledgerRow_resT : Tryz.f3.resultTypes.all (fun t => Tryz.pinned.checked.prog.readableRec t && decide (t < Tryz.pinned.checked.prog.types.size)) = true := by kernel_rfl
theorem ledgerRow_ifO : (Rows.ledgerRow.ifacesOut == Tryz.f3.resultTypes.toList.any (Tryz.pinned.checked.prog.ifacesRec ·)) = true := by kernel_rfl
theorem ledgerRow_lpO : (Rows.ledgerRow.loopsOut == Tryz.f3.resultTypes.toList.any (Tryz.pinned.checked.prog.loopsFrom ·)) = true := by kernel_rfl
theorem ledgerRow_sht : Rows.ledgerRow.shortTexts.isNone = true := by kernel_rfl
theorem ledgerRow_hea : Tryz.pinned.checked.prog.stopsHeard = true := by kernel_rfl
theorem ledgerRow_ent : Tryz.pinned.checked.prog.mayEnter = true := by kernel_rfl
theorem ledgerRow_lif : (Rows.ledgerRow.lifted == Tryz.pinned.checked.prog.liftsFinal) = true := by kernel_rfl
theorem ledgerRow_mak : (Tryz.pinned.checked.prog.make == some Rows.ledgerRow.make) = true := by kernel_rfl
theorem ledgerRow_kin : (Rows.ledgerRow.kinds == (if Rows.ledgerRow.domain.isEmpty then [] else Tryz.f3.params.toList.map fun t => match Tryz.pinned.checked.prog.underlying t with | some (.int k) => some k | _ => none)) = true := by kernel_rfl
theorem ledgerRow_pin : (Rows.ledgerRow.pinned == Rows.ledgerRow.pinnedBy) = true := by kernel_rfl
theorem ledgerRow_vei : (Rows.ledgerRow.veiled == (Tryz.f3.params.toList ++ Rows.ledgerSpec.plain.varTypes Tryz.pinned.checked.prog ++ Tryz.f3.resultTypes.toList).any (Tryz.pinned.checked.prog.veiledRec ·)) = true := by kernel_rfl
theorem ledgerRow_veF : Rows.ledgerRow.veiledFits Tryz.pinned.checked.prog Tryz.f3.params.toList (Tryz.f3.params.toList ++ Rows.ledgerSpec.plain.varTypes Tryz.pinned.checked.prog ++ Tryz.f3.resultTypes.toList) = true := by kernel_rfl
theorem ledgerRow_closed : joinedFacts Tryz.pinned.checked.prog 3 Tryz.f3 Rows.ledgerSpec Rows.ledgerRow = true := (ledgerRow_and (ledgerRow_and (ledgerRow_and (ledgerRow_and (ledgerRow_and (ledgerRow_and (ledgerRow_and (ledgerRow_and (ledgerRow_and (ledgerRow_and (ledgerRow_and (ledgerRow_and (ledgerRow_and (ledgerRow_and (ledgerRow_and (ledgerRow_and (ledgerRow_and (ledgerRow_and (ledgerRow_and (ledgerRow_and (ledgerRow_and (ledgerRow_and (ledgerRow_and (ledgerRow_and (ledgerRow_and (ledgerRow_and (ledgerRow_and (ledgerRow_and (ledgerRow_and (ledgerRow_and (ledgerRow_and ledgerRow_wf ledgerRow_laid) ledgerRow_mapsR) ledgerRow_params) ledgerRow_tieN) ledgerRow_s1) ledgerRow_s2) ledgerRow_s3) ledgerRow_s4) ledgerRow_inP) ledgerRow_unf) ledgerRow_rec) ledgerRow_nam) ledgerRow_maps) ledgerRow_ifc) ledgerRow_mapO) ledgerRow_loops) ledgerRow_wide) ledgerRow_vars) ledgerRow_resT) ledgerRow_ifO) ledgerRow_lpO) ledgerRow_plk) ledgerRow_sht) ledgerRow_hea) ledgerRow_ent) ledgerRow_lif) ledgerRow_mak) ledgerRow_kin) ledgerRow_pin) ledgerRow_vei) ledgerRow_veF)
end Go.Proofs.YtdccldbefdfppaaGreatDoor
