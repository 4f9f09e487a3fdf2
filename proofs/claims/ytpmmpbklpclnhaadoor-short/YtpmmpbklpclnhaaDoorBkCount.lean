import Derived.Test.YtpmmpbklpclnhaaDoorBkPut
import Derived.Test.YtpmmpbklpclnhaaDoorStepC
import Derived.Laws.Bits128
set_option linter.unusedVariables false
set_option linter.unusedSimpArgs false
/-
  Package blocks: appendCount.
-/
namespace Go.Proofs.YtpmmpbklpclnhaaDoor
set_option linter.unusedVariables false
set_option linter.unusedSimpArgs false
open Go.RowKit

/-- Bytes that are being laid down, beside a form that lies in the first new block. -/
structure CtR (w : World) (gv : Value) (f k : Nat) (wr : World) (v : Value) (l : List UInt8) : Prop where
  own : wr.ownsRow 0 5 1 v l.length (l.map B)
  chg : Chg (fun j => gv.ownBlock = some j) w wr
  fresh : ∀ j, v.ownBlock = some j → gv.ownBlock = some j ∨ w.heap.size ≤ j
  frm : wr.heap[w.heap.size]? = some (.cells #[.int .u8 (f : Int), .int .i64 (k : Int)] 69 (0, 0))

theorem CtR.below {w wr wx : World} {gv v : Value} {f k : Nat} {l : List UInt8} (h : CtR w gv f k wr v l) (hb : Below wr.heap.size wr wx) : CtR w gv f k wx v l :=
  ⟨owns_chg h.own (Chg.of_below (S := fun _ => False) hb) (fun _ _ => id), h.chg.then_below hb, h.fresh, by rw [hb.block _ (lt_of_block h.frm)]; exact h.frm⟩
theorem CtR.app {w wr wx : World} {gv v v' : Value} {f k : Nat} {l r : List UInt8} {o : Obj} (h : CtR w gv f k wr v l) (hown : wx.ownsRow 0 5 1 v' (l.length + r.length) (l.map B ++ r.map B)) (hg : (wr.alloc o).grownBy wx v.ownBlock) (hf : v'.ownBlock = v.ownBlock ∨ v'.ownBlock = some (wr.heap.size + 1)) : CtR w gv f k wx v' (l ++ r) := by
  have hc : Chg (fun j => v.ownBlock = some j) wr wx := ((Chg.refl _ _).alloc o).trans (Chg.of_grown hg (fun j hj => Or.inr hj))
  have hsz := h.chg.size
  refine ⟨by rw [List.length_append, List.map_append]; exact hown, h.chg.trans (hc.mono fun j _ e => ?_), fun j hj => ?_, ?_⟩
  · exact (h.fresh j e).symm
  · rcases hf with e | e
    · rw [e] at hj; exact h.fresh j hj
    · rw [e] at hj
      simp at hj
      exact Or.inr (by omega)
  · rw [hc.block _ (lt_of_block h.frm) (fun e => owns_ne h.own h.frm (by decide) e)]; exact h.frm
theorem CtR.drew {w wr : World} {gv v : Value} {f k : Nat} {l : List UInt8} (h : CtR w gv f k wr v l) : CtR w gv f k wr.drew v l := ⟨h.own, h.chg.drew, h.fresh, h.frm⟩

/-- The end of appendCount, and of the like. -/
structure Laid (w : World) (gv : Value) (w' : World) (v : Value) (l : List UInt8) : Prop where
  own : w'.ownsRow 0 5 1 v l.length (l.map B)
  chg : Chg (fun j => gv.ownBlock = some j) w w'
  fresh : ∀ j, v.ownBlock = some j → gv.ownBlock = some j ∨ w.heap.size ≤ j

theorem one_u8 (x : Int) : ∀ u ∈ [Value.int .u8 x], u.oneCell' = true := by
  intro u hu
  simp at hu
  subst hu
  rfl

set_option maxRecDepth 100000 in
set_option maxHeartbeats 1600000 in
theorem count_small (f k n : Nat) (gv : Value) (l : List UInt8) (w : World) (hown : w.ownsRow 0 5 1 gv l.length (l.map B)) (hl : l.length ≤ 1099511627776) (hk : k = 4 ∨ k = 5 ∨ k = 6 ∨ k = 7) (hf : f + 2 ^ k ≤ 256) (hz : f % 2 ^ k = 0) (hn : n < 2 ^ k - 1) :
    Calls Tryd.prog 29 #[gv, fm f k, .int .i64 n] w fun e w' => ∃ v, e = .returned v ∧ Laid w gv w' v (l ++ cnt f k n) := by
  obtain ⟨i0, hi, hz0, hz1, hz2⟩ := info_parts Tryd.info5
  have hfor : bits .or .u8 (f : Int) (n : Int) = ((f + n : Nat) : Int) := by
    have h1 : f ||| n = f + n := by
      have h2 : f = (f / 2 ^ k) <<< k := by
        rw [Nat.shiftLeft_eq, Nat.mul_comm]
        have := Nat.div_add_mod f (2 ^ k)
        omega
      rw [h2, ← Nat.shiftLeft_add_eq_or_of_lt (by omega)]
    rw [← h1]
    exact u8_or_nat f n (by have := Nat.two_pow_pos k; omega) (by omega)
  have hcn : cnt f k n = [UInt8.ofNat (f + n)] := by unfold cnt; rw [if_pos hn]
  have hfb : ((UInt8.ofNat (f + n)).toNat : Int) = ((f + n : Nat) : Int) := by rw [u8_ofNat (by omega)]
  have hm0 : CtR w gv f k (w.alloc (.cells #[.int .u8 (f : Int), .int .i64 (k : Int)] 69)) gv l := ⟨hown.alloc _, (Chg.refl _ _).alloc _, fun j hj => Or.inl hj, heap_alloc_new w _⟩
  have hP : 2 ^ k - 1 ≤ 127 := by rcases hk with rfl | rfl | rfl | rfl <;> decide
  have HM := hide (fun wx => most_any f k wx hk)
  have HCN := hide hcn
  have HFB := hide hfb
  have HFC : Hid ((f : Int) + (n : Int) = ((UInt8.ofNat (f + n)).toNat : Int)) := by show _ = _; rw [hfb]; omega
  have HM0 := hide hm0
  generalize 2 ^ k - 1 = P at HM hn hP
  clear hcn hfb hm0 hk hz hown hf
  go_enter Tryd.func29, Tryd.ntmps29
  go_wp2_with fail
  refine (HM.out _).mono ?_
  rintro e w1 ⟨rfl, hb1⟩
  have hm1 := HM0.out.below hb1
  have q0 : w1.cell? ⟨w.heap.size, 0, none⟩ = some (.int .u8 (f : Int)) := by rw [cell_of_row _ _ _ _ _ _ hm1.frm]; rfl
  have HM1 := hide hm1
  have hlt : w.heap.size < w1.heap.size := lt_of_block hm1.frm
  clear hm1 hb1
  go_wp2_with (at_builtin; refine wpList_app _ rfl (.tmp 12) (.tmp 18) 39 rfl 5 i0 (.int .u8 0) 1 1 Tryd.underlying39 hi hz0 hz1 hz2 rfl (by decide) _ _ _ rfl (HM1.out.own.alloc _) (.slice (some ⟨w1.heap.size, 0, none⟩) 1 1) 1 [.int .u8 ((f + n : Nat) : Int)] rfl rfl (lies_one (by simp)) (one_u8 _) ?c3 ?c4 ?_)
  case c3 => unfold maxLen; omega
  case c4 => omega
  intro v' w2 hown2 hg2 hf2
  rw [HFC.out] at hown2
  have h2 := HM1.out.app (r := [UInt8.ofNat (f + n)]) hown2 hg2 (by simpa using hf2)
  go_wp2
  go_ret
  rw [HCN.out]
  exact ⟨v', rfl, h2.own, h2.chg, h2.fresh⟩

theorem fits_or {f k n : Nat} (hf : f + 2 ^ k ≤ 256) (hz : f % 2 ^ k = 0) (hn : n < 2 ^ k) : bits .or .u8 (f : Int) (n : Int) = ((f + n : Nat) : Int) := by
  have h1 : f ||| n = f + n := by
    have h2 : f = (f / 2 ^ k) <<< k := by
      rw [Nat.shiftLeft_eq, Nat.mul_comm]
      have := Nat.div_add_mod f (2 ^ k)
      omega
    rw [h2, ← Nat.shiftLeft_add_eq_or_of_lt hn]
  rw [← h1]
  exact u8_or_nat f n (by have := Nat.two_pow_pos k; omega) (by omega)
theorem or128 {x : Nat} (h : x < 128) : bits .or .u8 128 (x : Int) = ((128 + x : Nat) : Int) := fits_or (f := 128) (k := 7) (by decide) (by decide) h

/-- What is left of a count. -/
theorem tail7_len (n : Nat) : (tail7 n).length ≤ n + 1 := by
  induction n using Nat.strongRecOn with
  | ind n ih =>
    by_cases h : 127 < n
    · rw [tail7_more h, List.length_cons]
      have := ih (n / 128) (by omega)
      omega
    · rw [tail7_last h]; simp

set_option maxRecDepth 100000 in
set_option maxHeartbeats 3200000 in
theorem count_great (f k n : Nat) (gv : Value) (l : List UInt8) (w : World) (hown : w.ownsRow 0 5 1 gv l.length (l.map B)) (hl : l.length ≤ 1099511627776) (hk : k = 4 ∨ k = 5 ∨ k = 6 ∨ k = 7) (hf : f + 2 ^ k ≤ 256) (hz : f % 2 ^ k = 0) (hn : 2 ^ k - 1 ≤ n) (hn2 : n ≤ 1048576) :
    Calls Tryd.prog 29 #[gv, fm f k, .int .i64 n] w fun e w' => ∃ v, e = .returned v ∧ Laid w gv w' v (l ++ cnt f k n) := by
  obtain ⟨i0, hi, hz0, hz1, hz2⟩ := info_parts Tryd.info5
  have hp := Nat.two_pow_pos k
  have hfor := fits_or hf hz (show 2 ^ k - 1 < 2 ^ k by omega)
  have hcn : l ++ cnt f k n = l ++ [UInt8.ofNat (f + (2 ^ k - 1))] ++ tail7 (n - (2 ^ k - 1)) := by unfold cnt; rw [if_neg (by omega)]; simp
  have hfb : ((UInt8.ofNat (f + (2 ^ k - 1))).toNat : Int) = ((f + (2 ^ k - 1) : Nat) : Int) := by rw [u8_ofNat (by omega)]
  have hm0 : CtR w gv f k (w.alloc (.cells #[.int .u8 (f : Int), .int .i64 (k : Int)] 69)) gv l := ⟨hown.alloc _, (Chg.refl _ _).alloc _, fun j hj => Or.inl hj, heap_alloc_new w _⟩
  have hP : 2 ^ k - 1 ≤ 127 := by rcases hk with rfl | rfl | rfl | rfl <;> decide
  have HM := hide (fun wx => most_any f k wx hk)
  generalize 2 ^ k - 1 = P at HM hn hP hfor hcn hfb
  have HCN := hide hcn
  have HFC : Hid (bits .or .u8 (f : Int) (IntKind.u8.wrap (P : Int)) = ((UInt8.ofNat (f + P)).toNat : Int)) := by
    show _ = _
    have h9 : IntKind.u8.wrap (P : Int) = (P : Int) := by rw [IntKind.wrap_u8']; omega
    rw [h9, hfb]
    exact hfor
  have HM0 := hide hm0
  have HN1 : Hid (l.length + 1 ≤ maxLen) := by show _ ≤ _; unfold maxLen; omega
  have HN2 : Hid ((l.length + 1) * 1 ≤ 140737488355328) := by show _ ≤ _; omega
  clear hcn hfb hm0 hk hz hown hf hp
  go_enter Tryd.func29, Tryd.ntmps29
  go_wp2_with fail
  refine (HM.out _).mono ?_
  rintro e w1 ⟨rfl, hb1⟩
  have hm1 := HM0.out.below hb1
  have q0 : w1.cell? ⟨w.heap.size, 0, none⟩ = some (.int .u8 (f : Int)) := by rw [cell_of_row _ _ _ _ _ _ hm1.frm]; rfl
  have q1 : w1.cell? ⟨w.heap.size, 1, none⟩ = some (.int .i64 (k : Int)) := by rw [cell_of_row _ _ _ _ _ _ hm1.frm]; rfl
  have HM1 := hide hm1
  have hlt : w.heap.size < w1.heap.size := lt_of_block hm1.frm
  clear hm1 hb1
  go_wp2
  go_cut [0] (fun s0 wx => CtR w gv f k wx s0 (l ++ [UInt8.ofNat (f + P)]))
  case first =>
    go_region_law (first
      | (refine step_call rfl 37 Tryd.f37 Tryd.func37 (by kernel_rfl) rfl [.tmp 23] #[69] rfl [fm f k] (by simp [Act.eval, fm]) (HM.out w1.drew) ?_; rintro e w2 ⟨rfl, hb2⟩; refine ⟨_, rfl, ?_⟩; have hm2 := HM1.out.drew.below hb2; have p0 : w2.cell? ⟨w.heap.size, 0, none⟩ = some (.int .u8 (f : Int)) := (by rw [cell_of_row _ _ _ _ _ _ hm2.frm]; rfl); have p1 : w2.cell? ⟨w.heap.size, 1, none⟩ = some (.int .i64 (k : Int)) := (by rw [cell_of_row _ _ _ _ _ _ hm2.frm]; rfl); have HM2 := hide hm2; clear hm2 hb2)
      | (refine step_app rfl (.tmp 20) (.tmp 27) 39 rfl 5 i0 (.int .u8 0) 1 1 Tryd.underlying39 hi hz0 hz1 hz2 rfl (by decide) gv l.length (l.map B) (by simp [Act.eval]) (HM2.out.own.alloc _) (.slice (some ⟨w2.heap.size, 0, none⟩) 1 1) 1 [.int .u8 (bits .or .u8 (f : Int) (IntKind.u8.wrap (P : Int)))] (by simp [Act.eval]) rfl (lies_one (by simp)) (one_u8 _) HN1.out HN2.out ?_; intro v' w3 hown3 hg3 hf3; rw [HFC.out] at hown3; have h3 := HM2.out.app (r := [UInt8.ofNat (f + P)]) hown3 hg3 (by simpa using hf3); have H3 := hide h3; clear hown3 hg3 hf3 h3))
    all_goals (go_wp2_with fail; go_meet; exact H3.out)
  case rest =>
    have q0 : wc.cell? ⟨w.heap.size, 0, none⟩ = some (.int .u8 (f : Int)) := by rw [cell_of_row _ _ _ _ _ _ hcut.frm]; rfl
    have q1 : wc.cell? ⟨w.heap.size, 1, none⟩ = some (.int .i64 (k : Int)) := by rw [cell_of_row _ _ _ _ _ _ hcut.frm]; rfl
    have HC := hide hcut
    clear hcut
    go_wp2_with fail
    refine (HM.out _).mono ?_
    rintro e w4 ⟨rfl, hb4⟩
    have H4 := hide (HC.out.below hb4)
    clear hb4 q0 q1
    go_wp2
    go_loopw [0, 7] (fun v x wr => ∃ l' y, x = .int .i64 (y : Nat) ∧ y ≤ 1048576 ∧ CtR w gv f k wr v l' ∧ l' ++ tail7 y = l ++ cnt f k n) (fun _ x _ => (intOf x).toNat)
    case atStart => exact ⟨_, n - P, by go_num, by omega, H4.out, HCN.out.symm⟩
    case round =>
      obtain ⟨l', y, rfl, hy, hct, heq⟩ := hrel
      have hll : l'.length ≤ 1100000000000 := by
        have h9 := congrArg List.length heq
        rw [HCN.out] at h9
        have := tail7_len (n - P)
        simp only [List.length_append, List.length_cons, List.length_nil] at h9
        omega
      obtain ⟨sv, cv, rfl⟩ := slice_len hct.own
      by_cases hg : 127 < y
      · have hy3 : bits .or .u8 128 ((y : Int) % 128) = ((UInt8.ofNat (128 + y % 128)).toNat : Int) := by
          have h9 := or128 (Nat.mod_lt y (show 128 > 0 by decide))
          have h8 : ((y % 128 : Nat) : Int) = (y : Int) % 128 := by omega
          rw [u8_ofNat (by omega), ← h9, h8]
        have hand := i64_and127 (y : Int)
        have hy4 : (y : Int) % 128 ≤ 127 := by omega
        rw [tail7_more hg] at heq
        have HY3 := hide hy3
        have HEQ := hide heq
        have HCT := hide hct
        clear heq hct hy3
        go_wp2_with (at_builtin; refine wpList_app _ rfl (.tmp 37) (.tmp 42) 39 rfl 5 i0 (.int .u8 0) 1 1 Tryd.underlying39 hi hz0 hz1 hz2 rfl (by decide) _ _ _ rfl (HCT.out.own.alloc _) (.slice (some ⟨wr.heap.size, 0, none⟩) 1 1) 1 [.int .u8 (bits .or .u8 128 ((y : Int) % 128))] rfl rfl (lies_one (by simp)) (one_u8 _) ?c3 ?c4 ?_)
        case c3 => unfold maxLen; omega
        case c4 => omega
        intro v' w5 hown5 hg5 hf5
        rw [HY3.out] at hown5
        have h5 := HCT.out.app (r := [UInt8.ofNat (128 + y % 128)]) hown5 hg5 (by simpa using hf5)
        have H5 := hide h5
        clear hown5 hg5 hf5 h5
        go_wp2
        go_roundw
        case rel => exact ⟨_, y / 128, by go_num, by omega, H5.out, by have := HEQ.out; simpa using this⟩
        case measure => simp [intOf]; omega
      · have hy3 : ((y : Nat) : Int) = ((UInt8.ofNat y).toNat : Int) := by rw [u8_ofNat (by omega)]
        rw [tail7_last hg] at heq
        have HY3 := hide hy3
        have HEQ := hide heq
        have HCT := hide hct
        clear heq hct hy3
        go_wp2_with (at_builtin; refine wpList_app _ rfl (.tmp 44) (.tmp 47) 39 rfl 5 i0 (.int .u8 0) 1 1 Tryd.underlying39 hi hz0 hz1 hz2 rfl (by decide) _ _ _ rfl (HCT.out.own.alloc _) (.slice (some ⟨wr.heap.size, 0, none⟩) 1 1) 1 [.int .u8 (y : Int)] rfl rfl (lies_one (by simp)) (one_u8 _) ?c3 ?c4 ?_)
        case c3 => unfold maxLen; omega
        case c4 => omega
        intro v' w5 hown5 hg5 hf5
        rw [HY3.out] at hown5
        have h5 := HCT.out.app (r := [UInt8.ofNat y]) hown5 hg5 (by simpa using hf5)
        have H5 := hide h5
        clear hown5 hg5 hf5 h5
        go_wp2
        go_ret
        rw [← HEQ.out]
        exact ⟨v', rfl, H5.out.own, H5.out.chg, H5.out.fresh⟩

theorem appendCount_any (f k n : Nat) (gv : Value) (l : List UInt8) (w : World) (hown : w.ownsRow 0 5 1 gv l.length (l.map B)) (hl : l.length ≤ 1099511627776) (hk : k = 4 ∨ k = 5 ∨ k = 6 ∨ k = 7) (hf : f + 2 ^ k ≤ 256) (hz : f % 2 ^ k = 0) (hn : n ≤ 1048576) :
    Calls Tryd.prog 29 #[gv, fm f k, .int .i64 n] w fun e w' => ∃ v, e = .returned v ∧ Laid w gv w' v (l ++ cnt f k n) := by
  by_cases h : n < 2 ^ k - 1
  · exact count_small f k n gv l w hown hl hk hf hz h
  · exact count_great f k n gv l w hown hl hk hf hz (by omega) hn
end Go.Proofs.YtpmmpbklpclnhaaDoor
