import Derived.Test.YtiphkngfbpdeoaaGreatDoorVGaa
import Derived.Laws.Bits128
import Derived.Lib.AppendStr
set_option linter.unusedVariables false
set_option linter.unusedSimpArgs false
namespace Go.Proofs.YtiphkngfbpdeoaaGreatDoor
set_option linter.unusedVariables false
set_option linter.unusedSimpArgs false
open Go.RowKit
structure CtR (w : World) (gv : Value) (f k : Nat) (wr : World) (v : Value) (l : List UInt8) : Prop where
  own : wr.ownsRow 0 5 1 v l.length (l.map B)
  chg : Chg (fun j => gv.ownBlock = some j) w wr
  fresh : ∀ j, v.ownBlock = some j → gv.ownBlock = some j ∨ w.heap.size ≤ j
  frm : wr.heap[w.heap.size]? = some (.cells #[.int .u8 (f : Int), .int .i64 (k : Int)] 221 (0, 0))
theorem CtR.below {w wr wx : World} {gv v : Value} {f k : Nat} {l : List UInt8} (h : CtR w gv f k wr v l) (hb : Below wr.heap.size wr wx) : CtR w gv f k wx v l :=
  ⟨owns_chg h.own (Chg.of_below (S := fun _ => False) hb) (fun _ _ => id), h.chg.then_below hb, h.fresh, by rw [hb.block _ (lt_of_block h.frm)]; exact h.frm⟩
theorem CtR.app {w wr wx : World} {gv v v' : Value} {f k : Nat} {l r : List UInt8} {o : Obj} (h : CtR w gv f k wr v l) (hown : wx.ownsRow 0 5 1 v' (l.length + r.length) (l.map B ++ r.map B)) (hg : (wr.alloc o).grownBy wx v.ownBlock) (hf : v'.ownBlock = v.ownBlock ∨ v'.ownBlock = some (wr.heap.size + 1)) : CtR w gv f k wx v' (l ++ r) := by
  have hc : Chg (fun j => v.ownBlock = some j) wr wx := ((Chg.refl _ _).alloc o).trans (Chg.of_grown hg (fun j hj => Or.inr hj))
  have hsz := h.chg.size
  refine ⟨by rw [List.length_append, List.map_append]; exact hown, h.chg.trans (hc.mono fun j _ e => ?_), fun j hj => ?_, ?_⟩
  · exact (h.fresh j e).symm
  · rcases hf with e | e
    · rw [e] at hj; exact h.fresh j hj
    · rw [e] at hj
      simp at hj
      exact Or.inr (by omega)
  · rw [hc.block _ (lt_of_block h.frm) (fun e => owns_ne h.own h.frm (by decide) e)]; exact h.frm
theorem CtR.drew {w wr : World} {gv v : Value} {f k : Nat} {l : List UInt8} (h : CtR w gv f k wr v l) : CtR w gv f k wr.drew v l := ⟨h.own, h.chg.drew, h.fresh, h.frm⟩
structure Laid (w : World) (gv : Value) (w' : World) (v : Value) (l : List UInt8) : Prop where
  own : w'.ownsRow 0 5 1 v l.length (l.map B)
  chg : Chg (fun j => gv.ownBlock = some j) w w'
  fresh : ∀ j, v.ownBlock = some j → gv.ownBlock = some j ∨ w.heap.size ≤ j
theorem one_u8 (x : Int) : ∀ u ∈ [Value.int .u8 x], u.oneCell' = true := by
  intro u hu
  simp at hu
  subst hu
  rfl
set_option maxRecDepth 100000 in
set_option maxHeartbeats 1600000 in
theorem count_small (f k n : Nat) (gv : Value) (l : List UInt8) (w : World) (hown : w.ownsRow 0 5 1 gv l.length (l.map B)) (hl : l.length ≤ 1099511627776) (hk : k = 4 ∨ k = 5 ∨ k = 6 ∨ k = 7) (hf : f + 2 ^ k ≤ 256) (hz : f % 2 ^ k = 0) (hn : n < 2 ^ k - 1) :
    Calls Tryz.prog 180 #[gv, fm f k, .int .i64 n] w fun e w' => ∃ v, e = .returned v ∧ Laid w gv w' v (l ++ cnt f k n) := by
  obtain ⟨i0, hi, hz0, hz1, hz2⟩ := info_parts Tryz.info5
  have hfor : bits .or .u8 (f : Int) (n : Int) = ((f + n : Nat) : Int) := by
    have h1 : f ||| n = f + n := by
      have h2 : f = (f / 2 ^ k) <<< k := by
        rw [Nat.shiftLeft_eq, Nat.mul_comm]
        have := Nat.div_add_mod f (2 ^ k)
        omega
      rw [h2, ← Nat.shiftLeft_add_eq_or_of_lt (by omega)]
    rw [← h1]
    exact u8_or_nat f n (by have := Nat.two_pow_pos k; omega) (by omega)
  have hcn : cnt f k n = [UInt8.ofNat (f + n)] := by unfold cnt; rw [if_pos hn]
  have hfb : ((UInt8.ofNat (f + n)).toNat : Int) = ((f + n : Nat) : Int) := by rw [u8_ofNat (by omega)]
  have hm0 : CtR w gv f k (w.alloc (.cells #[.int .u8 (f : Int), .int .i64 (k : Int)] 221)) gv l := ⟨hown.alloc _, (Chg.refl _ _).alloc _, fun j hj => Or.inl hj, heap_alloc_new w _⟩
  have hP : 2 ^ k - 1 ≤ 127 := by rcases hk with rfl | rfl | rfl | rfl <;> decide
  have HM := hide (fun wx => most_any f k wx hk)
  have HCN := hide hcn
  have HFB := hide hfb
  have HFC : Hid ((f : Int) + (n : Int) = ((UInt8.ofNat (f + n)).toNat : Int)) := by show _ = _; rw [hfb]; omega
  have HM0 := hide hm0
  generalize 2 ^ k - 1 = P at HM hn hP
  clear hcn hfb hm0 hk hz hown hf
  go_enter Tryz.func180, Tryz.ntmps180
  go_wp2_with fail
  refine (HM.out _).mono ?_
  rintro e w1 ⟨rfl, hb1⟩
  have hm1 := HM0.out.below hb1
  have q0 : w1.cell? ⟨w.heap.size, 0, none⟩ = some (.int .u8 (f : Int)) := by rw [cell_of_row _ _ _ _ _ _ hm1.frm]; rfl
  have HM1 := hide hm1
  have hlt : w.heap.size < w1.heap.size := lt_of_block hm1.frm
  clear hm1 hb1
  go_wp2_with (at_builtin; refine wpList_app _ rfl (.tmp 12) (.tmp 18) 38 rfl 5 i0 (.int .u8 0) 1 1 Tryz.underlying38 hi hz0 hz1 hz2 rfl (by decide) _ _ _ rfl (HM1.out.own.alloc _) (.slice (some ⟨w1.heap.size, 0, none⟩) 1 1) 1 [.int .u8 ((f + n : Nat) : Int)] rfl rfl (lies_one (by simp)) (one_u8 _) ?c3 ?c4 ?_)
  case c3 => unfold maxLen; omega
  case c4 => omega
  intro v' w2 hown2 hg2 hf2
  rw [HFC.out] at hown2
  have h2 := HM1.out.app (r := [UInt8.ofNat (f + n)]) hown2 hg2 (by simpa using hf2)
  go_wp2
  go_ret
  rw [HCN.out]
  exact ⟨v', rfl, h2.own, h2.chg, h2.fresh⟩
theorem fits_or {f k n : Nat} (hf : f + 2 ^ k ≤ 256) (hz : f % 2 ^ k = 0) (hn : n < 2 ^ k) : bits .or .u8 (f : Int) (n : Int) = ((f + n : Nat) : Int) := by
  have h1 : f ||| n = f + n := by
    have h2 : f = (f / 2 ^ k) <<< k := by
      rw [Nat.shiftLeft_eq, Nat.mul_comm]
      have := Nat.div_add_mod f (2 ^ k)
      omega
    rw [h2, ← Nat.shiftLeft_add_eq_or_of_lt hn]
  rw [← h1]
  exact u8_or_nat f n (by have := Nat.two_pow_pos k; omega) (by omega)
theorem or128 {x : Nat} (h : x < 128) : bits .or .u8 128 (x : Int) = ((128 + x : Nat) : Int) := fits_or (f := 128) (k := 7) (by decide) (by decide) h
theorem tail7_len (n : Nat) : (tail7 n).length ≤ n + 1 := by
  induction n using Nat.strongRecOn with
  | ind n ih =>
    by_cases h : 127 < n
    · rw [tail7_more h, List.length_cons]
      have := ih (n / 128) (by omega)
      omega
    · rw [tail7_last h]; simp
set_option maxRecDepth 100000 in
set_option maxHeartbeats 3200000 in
theorem count_great (f k n : Nat) (gv : Value) (l : List UInt8) (w : World) (hown : w.ownsRow 0 5 1 gv l.length (l.map B)) (hl : l.length ≤ 1099511627776) (hk : k = 4 ∨ k = 5 ∨ k = 6 ∨ k = 7) (hf : f + 2 ^ k ≤ 256) (hz : f % 2 ^ k = 0) (hn : 2 ^ k - 1 ≤ n) (hn2 : n ≤ 1048576) :
    Calls Tryz.prog 180 #[gv, fm f k, .int .i64 n] w fun e w' => ∃ v, e = .returned v ∧ Laid w gv w' v (l ++ cnt f k n) := by
  obtain ⟨i0, hi, hz0, hz1, hz2⟩ := info_parts Tryz.info5
  have hp := Nat.two_pow_pos k
  have hfor := fits_or hf hz (show 2 ^ k - 1 < 2 ^ k by omega)
  have hcn : l ++ cnt f k n = l ++ [UInt8.ofNat (f + (2 ^ k - 1))] ++ tail7 (n - (2 ^ k - 1)) := by unfold cnt; rw [if_neg (by omega)]; simp
  have hfb : ((UInt8.ofNat (f + (2 ^ k - 1))).toNat : Int) = ((f + (2 ^ k - 1) : Nat) : Int) := by rw [u8_ofNat (by omega)]
  have hm0 : CtR w gv f k (w.alloc (.cells #[.int .u8 (f : Int), .int .i64 (k : Int)] 221)) gv l := ⟨hown.alloc _, (Chg.refl _ _).alloc _, fun j hj => Or.inl hj, heap_alloc_new w _⟩
  have hP : 2 ^ k - 1 ≤ 127 := by rcases hk with rfl | rfl | rfl | rfl <;> decide
  have HM := hide (fun wx => most_any f k wx hk)
  generalize 2 ^ k - 1 = P at HM hn hP hfor hcn hfb
  have HCN := hide hcn
  have HFC : Hid (bits .or .u8 (f : Int) (IntKind.u8.wrap (P : Int)) = ((UInt8.ofNat (f + P)).toNat : Int)) := by
    show _ = _
    have h9 : IntKind.u8.wrap (P : Int) = (P : Int) := by rw [IntKind.wrap_u8']; omega
    rw [h9, hfb]
    exact hfor
  have HM0 := hide hm0
  have HN1 : Hid (l.length + 1 ≤ maxLen) := by show _ ≤ _; unfold maxLen; omega
  have HN2 : Hid ((l.length + 1) * 1 ≤ 140737488355328) := by show _ ≤ _; omega
  clear hcn hfb hm0 hk hz hown hf hp
  go_enter Tryz.func180, Tryz.ntmps180
  go_wp2_with fail
  refine (HM.out _).mono ?_
  rintro e w1 ⟨rfl, hb1⟩
  have hm1 := HM0.out.below hb1
  have q0 : w1.cell? ⟨w.heap.size, 0, none⟩ = some (.int .u8 (f : Int)) := by rw [cell_of_row _ _ _ _ _ _ hm1.frm]; rfl
  have q1 : w1.cell? ⟨w.heap.size, 1, none⟩ = some (.int .i64 (k : Int)) := by rw [cell_of_row _ _ _ _ _ _ hm1.frm]; rfl
  have HM1 := hide hm1
  have hlt : w.heap.size < w1.heap.size := lt_of_block hm1.frm
  clear hm1 hb1
  go_wp2
  go_cut [0] (fun s0 wx => CtR w gv f k wx s0 (l ++ [UInt8.ofNat (f + P)]))
  case first =>
    go_region_law (first
      | (refine step_call rfl 190 Tryz.f190 Tryz.func190 (by kernel_rfl) rfl [.tmp 23] #[221] rfl [fm f k] (by simp [Act.eval, fm]) (HM.out w1.drew) ?_; rintro e w2 ⟨rfl, hb2⟩; refine ⟨_, rfl, ?_⟩; have hm2 := HM1.out.drew.below hb2; have p0 : w2.cell? ⟨w.heap.size, 0, none⟩ = some (.int .u8 (f : Int)) := (by rw [cell_of_row _ _ _ _ _ _ hm2.frm]; rfl); have p1 : w2.cell? ⟨w.heap.size, 1, none⟩ = some (.int .i64 (k : Int)) := (by rw [cell_of_row _ _ _ _ _ _ hm2.frm]; rfl); have HM2 := hide hm2; clear hm2 hb2)
      | (refine step_app rfl (.tmp 20) (.tmp 27) 38 rfl 5 i0 (.int .u8 0) 1 1 Tryz.underlying38 hi hz0 hz1 hz2 rfl (by decide) gv l.length (l.map B) (by simp [Act.eval]) (HM2.out.own.alloc _) (.slice (some ⟨w2.heap.size, 0, none⟩) 1 1) 1 [.int .u8 (bits .or .u8 (f : Int) (IntKind.u8.wrap (P : Int)))] (by simp [Act.eval]) rfl (lies_one (by simp)) (one_u8 _) HN1.out HN2.out ?_; intro v' w3 hown3 hg3 hf3; rw [HFC.out] at hown3; have h3 := HM2.out.app (r := [UInt8.ofNat (f + P)]) hown3 hg3 (by simpa using hf3); have H3 := hide h3; clear hown3 hg3 hf3 h3))
    all_goals (go_wp2_with fail; go_meet; exact H3.out)
  case rest =>
    have q0 : wc.cell? ⟨w.heap.size, 0, none⟩ = some (.int .u8 (f : Int)) := by rw [cell_of_row _ _ _ _ _ _ hcut.frm]; rfl
    have q1 : wc.cell? ⟨w.heap.size, 1, none⟩ = some (.int .i64 (k : Int)) := by rw [cell_of_row _ _ _ _ _ _ hcut.frm]; rfl
    have HC := hide hcut
    clear hcut
    go_wp2_with fail
    refine (HM.out _).mono ?_
    rintro e w4 ⟨rfl, hb4⟩
    have H4 := hide (HC.out.below hb4)
    clear hb4 q0 q1
    go_wp2
    go_loopw [0, 7] (fun v x wr => ∃ l' y, x = .int .i64 (y : Nat) ∧ y ≤ 1048576 ∧ CtR w gv f k wr v l' ∧ l' ++ tail7 y = l ++ cnt f k n) (fun _ x _ => (intOf x).toNat)
    case atStart => exact ⟨_, n - P, by go_num, by omega, H4.out, HCN.out.symm⟩
    case round =>
      obtain ⟨l', y, rfl, hy, hct, heq⟩ := hrel
      have hll : l'.length ≤ 1100000000000 := by
        have h9 := congrArg List.length heq
        rw [HCN.out] at h9
        have := tail7_len (n - P)
        simp only [List.length_append, List.length_cons, List.length_nil] at h9
        omega
      obtain ⟨sv, cv, rfl⟩ := slice_len hct.own
      by_cases hg : 127 < y
      · have hy3 : bits .or .u8 128 ((y : Int) % 128) = ((UInt8.ofNat (128 + y % 128)).toNat : Int) := by
          have h9 := or128 (Nat.mod_lt y (show 128 > 0 by decide))
          have h8 : ((y % 128 : Nat) : Int) = (y : Int) % 128 := by omega
          rw [u8_ofNat (by omega), ← h9, h8]
        have hand := i64_and127 (y : Int)
        have hy4 : (y : Int) % 128 ≤ 127 := by omega
        rw [tail7_more hg] at heq
        have HY3 := hide hy3
        have HEQ := hide heq
        have HCT := hide hct
        clear heq hct hy3
        go_wp2_with (at_builtin; refine wpList_app _ rfl (.tmp 37) (.tmp 42) 38 rfl 5 i0 (.int .u8 0) 1 1 Tryz.underlying38 hi hz0 hz1 hz2 rfl (by decide) _ _ _ rfl (HCT.out.own.alloc _) (.slice (some ⟨wr.heap.size, 0, none⟩) 1 1) 1 [.int .u8 (bits .or .u8 128 ((y : Int) % 128))] rfl rfl (lies_one (by simp)) (one_u8 _) ?c3 ?c4 ?_)
        case c3 => unfold maxLen; omega
        case c4 => omega
        intro v' w5 hown5 hg5 hf5
        rw [HY3.out] at hown5
        have h5 := HCT.out.app (r := [UInt8.ofNat (128 + y % 128)]) hown5 hg5 (by simpa using hf5)
        have H5 := hide h5
        clear hown5 hg5 hf5 h5
        go_wp2
        go_roundw
        case rel => exact ⟨_, y / 128, by go_num, by omega, H5.out, by have := HEQ.out; simpa using this⟩
        case measure => simp [intOf]; omega
      · have hy3 : ((y : Nat) : Int) = ((UInt8.ofNat y).toNat : Int) := by rw [u8_ofNat (by omega)]
        rw [tail7_last hg] at heq
        have HY3 := hide hy3
        have HEQ := hide heq
        have HCT := hide hct
        clear heq hct hy3
        go_wp2_with (at_builtin; refine wpList_app _ rfl (.tmp 44) (.tmp 47) 38 rfl 5 i0 (.int .u8 0) 1 1 Tryz.underlying38 hi hz0 hz1 hz2 rfl (by decide) _ _ _ rfl (HCT.out.own.alloc _) (.slice (some ⟨wr.heap.size, 0, none⟩) 1 1) 1 [.int .u8 (y : Int)] rfl rfl (lies_one (by simp)) (one_u8 _) ?c3 ?c4 ?_)
        case c3 => unfold maxLen; omega
        case c4 => omega
        intro v' w5 hown5 hg5 hf5
        rw [HY3.out] at hown5
        have h5 := HCT.out.app (r := [UInt8.ofNat y]) hown5 hg5 (by simpa using hf5)
        have H5 := hide h5
        clear hown5 hg5 hf5 h5
        go_wp2
        go_ret
        rw [← HEQ.out]
        exact ⟨v', rfl, H5.out.own, H5.out.chg, H5.out.fresh⟩
theorem appendCount_any (f k n : Nat) (gv : Value) (l : List UInt8) (w : World) (hown : w.ownsRow 0 5 1 gv l.length (l.map B)) (hl : l.length ≤ 1099511627776) (hk : k = 4 ∨ k = 5 ∨ k = 6 ∨ k = 7) (hf : f + 2 ^ k ≤ 256) (hz : f % 2 ^ k = 0) (hn : n ≤ 1048576) :
    Calls Tryz.prog 180 #[gv, fm f k, .int .i64 n] w fun e w' => ∃ v, e = .returned v ∧ Laid w gv w' v (l ++ cnt f k n) := by
  by_cases h : n < 2 ^ k - 1
  · exact count_small f k n gv l w hown hl hk hf hz h
  · exact count_great f k n gv l w hown hl hk hf hz (by omega) hn
end Go.Proofs.YtiphkngfbpdeoaaGreatDoor
namespace Go.Proofs.YtiphkngfbpdeoaaGreatDoor
set_option linter.unusedVariables false
set_option linter.unusedSimpArgs false
open Go.RowKit
theorem BwS.own {w : World} {wb : Nat} {gv : Value} {bs : List Bool} (h : BwS w wb gv bs) : w.ownsRow 0 5 1 gv (bs.length / 8) ((bytesB bs).map B) := by
  obtain ⟨L, N, _, _, _, _, h5⟩ := h
  exact h5
theorem put_S {w : World} {wb : Nat} {gv : Value} {bs : List Bool} (h : BwS w wb gv bs) (v n : Nat) (hv : v < 2 ^ n) (hn : n ≤ 10) (hlb : bs.length ≤ 1099511627776) :
    Calls Tryz.prog 213 #[.pointer (some ⟨wb, 0, none⟩), .int .u32 v, .int .i64 n] w fun e w' => e = .returned (.tuple #[]) ∧ ∃ gv', BwS w' wb gv' (bs ++ natBits n v) ∧ Chg (TouchB wb gv) w w' ∧ (∀ j, gv'.ownBlock = some j → gv.ownBlock = some j ∨ w.heap.size ≤ j) := by
  obtain ⟨L, N, h1, h2, h3, h4, h5⟩ := h
  exact put_any wb gv L N bs v n w h1 h2 h3 h4 h5 hv hn hlb
theorem put_lit {w : World} {wb : Nat} {gv : Value} {bs : List Bool} (h : BwS w wb gv bs) (v n : Nat) (V M : Int) (hV : V = v) (hM : M = n) (hv : v < 2 ^ n) (hn : n ≤ 10) (hlb : bs.length ≤ 1099511627776) (r : List Bool) (hr : natBits n v = r) :
    Calls Tryz.prog 213 #[.pointer (some ⟨wb, 0, none⟩), .int .u32 V, .int .i64 M] w fun e w' => e = .returned (.tuple #[]) ∧ ∃ gv', BwS w' wb gv' (bs ++ r) ∧ Chg (TouchB wb gv) w w' ∧ (∀ j, gv'.ownBlock = some j → gv.ownBlock = some j ∨ w.heap.size ≤ j) := by
  subst hV hM hr
  exact put_S h v n hv hn hlb
set_option maxRecDepth 100000 in
set_option maxHeartbeats 3200000 in
theorem fill_any (wb : Nat) (gv : Value) (bs : List Bool) (w : World) (h : BwS w wb gv bs) (hlb : bs.length ≤ 1099511627776) :
    Calls Tryz.prog 214 #[.pointer (some ⟨wb, 0, none⟩)] w fun e w' => e = .returned (.tuple #[]) ∧ ∃ gv', BwS w' wb gv' (bs ++ List.replicate (padN bs.length) true) ∧ Chg (TouchB wb gv) w w' ∧ (∀ j, gv'.ownBlock = some j → gv.ownBlock = some j ∨ w.heap.size ≤ j) := by
  have hput := put_lit h
  have H := hide h
  obtain ⟨L, N, h1, h2, h3, -, -⟩ := h
  obtain ⟨-, -, c2⟩ := h1.cells
  have HPUT := hide hput
  have HLB := hide hlb
  have hpad : padN bs.length = (8 - N) % 8 := by unfold padN; omega
  have HP := hide hpad
  clear hput h1 hpad hlb
  have hN : N = 0 ∨ N = 1 ∨ N = 2 ∨ N = 3 ∨ N = 4 ∨ N = 5 ∨ N = 6 ∨ N = 7 := by omega
  clear h3
  rcases hN with rfl | rfl | rfl | rfl | rfl | rfl | rfl | rfl
  · go_enter Tryz.func214, Tryz.ntmps214
    go_wp2
    refine bodyPost_end (results_none rfl _ _ _) rfl ⟨rfl, gv, ?_, Chg.refl _ _, fun j hj => Or.inl hj⟩
    rw [HP.out]
    simpa using H.out
  all_goals go_enter Tryz.func214, Tryz.ntmps214
  all_goals go_wp2_with fail
  · refine (HPUT.out 127 7 _ _ rfl rfl (by decide) (by decide) HLB.out (List.replicate 7 true) (by decide)).mono ?_
    rintro e w' ⟨rfl, hh⟩
    go_wp2
    exact bodyPost_end (results_none rfl _ _ _) rfl ⟨rfl, by rw [HP.out]; exact hh⟩
  · refine (HPUT.out 63 6 _ _ rfl rfl (by decide) (by decide) HLB.out (List.replicate 6 true) (by decide)).mono ?_
    rintro e w' ⟨rfl, hh⟩
    go_wp2
    exact bodyPost_end (results_none rfl _ _ _) rfl ⟨rfl, by rw [HP.out]; exact hh⟩
  · refine (HPUT.out 31 5 _ _ rfl rfl (by decide) (by decide) HLB.out (List.replicate 5 true) (by decide)).mono ?_
    rintro e w' ⟨rfl, hh⟩
    go_wp2
    exact bodyPost_end (results_none rfl _ _ _) rfl ⟨rfl, by rw [HP.out]; exact hh⟩
  · refine (HPUT.out 15 4 _ _ rfl rfl (by decide) (by decide) HLB.out (List.replicate 4 true) (by decide)).mono ?_
    rintro e w' ⟨rfl, hh⟩
    go_wp2
    exact bodyPost_end (results_none rfl _ _ _) rfl ⟨rfl, by rw [HP.out]; exact hh⟩
  · refine (HPUT.out 7 3 _ _ rfl rfl (by decide) (by decide) HLB.out (List.replicate 3 true) (by decide)).mono ?_
    rintro e w' ⟨rfl, hh⟩
    go_wp2
    exact bodyPost_end (results_none rfl _ _ _) rfl ⟨rfl, by rw [HP.out]; exact hh⟩
  · refine (HPUT.out 3 2 _ _ rfl rfl (by decide) (by decide) HLB.out (List.replicate 2 true) (by decide)).mono ?_
    rintro e w' ⟨rfl, hh⟩
    go_wp2
    exact bodyPost_end (results_none rfl _ _ _) rfl ⟨rfl, by rw [HP.out]; exact hh⟩
  · refine (HPUT.out 1 1 _ _ rfl rfl (by decide) (by decide) HLB.out (List.replicate 1 true) (by decide)).mono ?_
    rintro e w' ⟨rfl, hh⟩
    go_wp2
    exact bodyPost_end (results_none rfl _ _ _) rfl ⟨rfl, by rw [HP.out]; exact hh⟩
theorem tx_at {T : ByteArray} {k : Nat} (h : k < T.data.toList.length) (h' : k < T.size) : T[k] = T.data.toList[k] := rfl
set_option maxRecDepth 100000 in
set_option maxHeartbeats 3200000 in
theorem packBits_any (T : ByteArray) (w : World) (hl : T.size ≤ 4294967296) :
    Calls Tryz.prog 209 #[.string T] w fun e w' => ∃ v, e = .returned v ∧ w'.ownsRow w.heap.size 5 1 v (bytesB (packB T.data.toList)).length ((bytesB (packB T.data.toList)).map B) ∧ Below w.heap.size w w' := by
  obtain ⟨t, ht⟩ : ∃ t, t = T.data.toList := ⟨_, rfl⟩
  have htl : t.length = T.size := by rw [ht]; rfl
  rw [← ht]
  have HT := hide ht
  clear ht
  have hz : BwB (w.alloc (.cells #[.slice none 0 0, .int .u32 0, .int .i64 0] 282)) w.heap.size (.slice none 0 0) 0 0 := heap_alloc_new w _
  have hS0 : BwS (w.alloc (.cells #[.slice none 0 0, .int .u32 0, .int .i64 0] 282)) w.heap.size (.slice none 0 0) (rawB (t.take 0)) := by
    rw [List.take_zero]
    exact ⟨0, 0, hz, by decide, rfl, rfl, World.ownsRow_nil _ _ _ _⟩
  have HS0 := hide hS0
  clear hz hS0
  go_enter Tryz.func209, Tryz.ntmps209
  go_wp2
  go_loopw [7] (fun i wr => ∃ k gv, k ≤ t.length ∧ i = .int .i64 (k : Nat) ∧ BwS wr w.heap.size gv (rawB (t.take k)) ∧ Below w.heap.size w wr ∧ (∀ j, gv.ownBlock = some j → w.heap.size ≤ j)) (fun i _ => t.length - (intOf i).toNat)
  case atStart => exact ⟨0, _, Nat.zero_le _, rfl, HS0.out, (Below.refl _ _).alloc (Nat.le_refl _) _, fun j hj => by simp [Value.ownBlock] at hj⟩
  case round =>
    obtain ⟨k, gv, hk, rfl, hS, hbel, hfr⟩ := hrel
    have hraw := rawB_length (t.take k)
    rw [List.length_take] at hraw
    by_cases hlt : k < t.length
    · have hkT : k < T.size := by omega
      have hkT2 : k < T.data.toList.length := hkT
      have hTk : T[k] = t[k] := by
        have h1 : T[k] = T.data.toList[k] := rfl
        rw [h1]
        congr 1
        exact HT.out.symm
      have hcd := fun wx => bcodeOf_any t[k] wx
      obtain ⟨n1, n2, n3⟩ := codeN_bits t[k]
      have hput := put_S hS (codeN t[k]).1 (codeN t[k]).2 n2 n3 (by omega)
      rw [← n1, ← rawB_next hlt] at hput
      generalize codeN t[k] = C at hcd hput n2 n3
      rw [← hTk] at hcd
      have hC : C.1 ≤ 1023 := by have := Nat.lt_of_lt_of_le n2 (Nat.pow_le_pow_right (by omega) n3); omega
      obtain ⟨C1, C2⟩ := C
      simp only at hcd hput n2 n3 hC
      have HCD := hide hcd
      have HPUT := hide hput
      have HBE := hide hbel
      have HFR := hide hfr
      clear hcd hput hbel hfr hS n2 hTk n1
      go_wp2_with fail
      refine (HCD.out _).mono ?_
      rintro e w1 ⟨rfl, hw1⟩
      rw [hw1]
      clear hw1 w1
      go_wp2_with fail
      refine HPUT.out.mono ?_
      rintro e w1 ⟨rfl, gv', hS1, hch, hfr1⟩
      go_wp2
      go_roundw
      case rel =>
        have hb := HBE.out
        refine ⟨k + 1, gv', by omega, by go_num, hS1, ⟨hch.os.trans hb.os, hch.tape.trans hb.tape, hch.output.trans hb.output, Nat.le_trans hb.size hch.size, fun j hj => (hch.block j (Nat.lt_of_lt_of_le hj hb.size) ?_).trans (hb.block j hj)⟩, fun j hj => ?_⟩
        · rintro (e | e)
          · omega
          · have := HFR.out j e; omega
        · rcases hfr1 j hj with a | a
          · exact HFR.out j a
          · exact Nat.le_trans hb.size a
      case measure => simp [intOf]; omega
    · have hke : k = t.length := by omega
      subst hke
      rw [List.take_length] at hS hraw
      have hfill := fill_any w.heap.size gv _ wr hS (by omega)
      have HFILL := hide hfill
      have HBE := hide hbel
      have HFR := hide hfr
      clear hfill hbel hfr hS
      go_wp2_with fail
      refine HFILL.out.mono ?_
      rintro e w1 ⟨rfl, gv', hS1, hch, hfr1⟩
      obtain ⟨L, N, h1, h2, h3, h4, h5⟩ := hS1
      obtain ⟨z0, -, -⟩ := h1.cells
      have H5 := hide h5
      clear h1 h2 h3 h4 h5
      go_wp2
      go_ret
      have hb := HBE.out
      refine ⟨gv', rfl, ?_, ⟨hch.os.trans hb.os, hch.tape.trans hb.tape, hch.output.trans hb.output, Nat.le_trans hb.size hch.size, fun j hj => (hch.block j (Nat.lt_of_lt_of_le hj hb.size) ?_).trans (hb.block j hj)⟩⟩
      · rw [bytesB_length]
        refine owns_base H5.out (fun j hj => ?_)
        rcases hfr1 j hj with a | a
        · exact HFR.out j a
        · exact Nat.le_trans hb.size a
      · rintro (e | e)
        · omega
        · have := HFR.out j e; omega
end Go.Proofs.YtiphkngfbpdeoaaGreatDoor
namespace Go.Proofs.YtiphkngfbpdeoaaGreatDoor
set_option linter.unusedVariables false
set_option linter.unusedSimpArgs false
open Go.RowKit
structure Gl (w : World) : Prop where
  lim : w.cell? ⟨0, 0, none⟩ = some (.int .u8 32) ∧ w.cell? ⟨0, 1, none⟩ = some (.int .i64 5)
  num : w.cell? ⟨1, 0, none⟩ = some (.int .u8 128) ∧ w.cell? ⟨1, 1, none⟩ = some (.int .i64 7)
  nta : w.cell? ⟨3, 0, none⟩ = some (.int .u8 0) ∧ w.cell? ⟨3, 1, none⟩ = some (.int .i64 4)
  add : w.cell? ⟨2, 0, none⟩ = some (.int .u8 64) ∧ w.cell? ⟨2, 1, none⟩ = some (.int .i64 6)
  pck : w.cell? ⟨5, 0, none⟩ = some (.int .u8 128) ∧ w.cell? ⟨5, 1, none⟩ = some (.int .i64 7)
  pln : w.cell? ⟨6, 0, none⟩ = some (.int .u8 0) ∧ w.cell? ⟨6, 1, none⟩ = some (.int .i64 7)
  fix : ∀ i (h : i < fixed8.length), w.cell? ⟨4, 2 * i, none⟩ = some (.string fixed8[i].n) ∧ w.cell? ⟨4, 2 * i + 1, none⟩ = some (.string fixed8[i].v)
  lt : 7 ≤ w.heap.size
theorem Gl.chg {S : Nat → Prop} {w w' : World} (h : Gl w) (hc : Chg S w w') (hs : ∀ j, j < 7 → ¬ S j) : Gl w' := by
  have hl := h.lt
  have q : ∀ (g o : Nat), g < 7 → w'.cell? ⟨g, o, none⟩ = w.cell? ⟨g, o, none⟩ := fun g o hg => hc.cell (p := ⟨g, o, none⟩) (Nat.lt_of_lt_of_le hg hl) (hs g hg)
  refine ⟨?_, ?_, ?_, ?_, ?_, ?_, fun i hi => ?_, Nat.le_trans hl hc.size⟩
  · rw [q _ _ (by decide), q _ _ (by decide)]; exact h.lim
  · rw [q _ _ (by decide), q _ _ (by decide)]; exact h.num
  · rw [q _ _ (by decide), q _ _ (by decide)]; exact h.nta
  · rw [q _ _ (by decide), q _ _ (by decide)]; exact h.add
  · rw [q _ _ (by decide), q _ _ (by decide)]; exact h.pck
  · rw [q _ _ (by decide), q _ _ (by decide)]; exact h.pln
  · rw [q _ _ (by decide), q _ _ (by decide)]; exact h.fix i hi
theorem Gl.below {w w' : World} (h : Gl w) (hb : Below w.heap.size w w') : Gl w' := h.chg (Chg.of_below (S := fun _ => False) hb) (fun _ _ => id)
theorem Laid.below {w wx w' : World} {gv v : Value} {l : List UInt8} (hb : Below w.heap.size w wx) (h : Laid wx gv w' v l) : Laid w gv w' v l :=
  ⟨h.own, (Chg.of_below hb).trans (h.chg.mono fun j _ e => Or.inr e), fun j hj => (h.fresh j hj).imp_right fun e => Nat.le_trans hb.size e⟩
theorem Laid.trans {w w1 w2 : World} {gv v v2 : Value} {l l2 : List UInt8} (h : Laid w gv w1 v l) (k : Laid w1 v w2 v2 l2) : Laid w gv w2 v2 l2 :=
  ⟨k.own, h.chg.trans (k.chg.mono fun j _ e => (h.fresh j e).symm), fun j hj => by
    rcases k.fresh j hj with e | e
    · exact h.fresh j e
    · exact Or.inr (Nat.le_trans h.chg.size e)⟩
theorem Laid.app {w w1 w2 : World} {gv v v2 : Value} {l r : List UInt8} (h : Laid w gv w1 v l) (hown : w2.ownsRow 0 5 1 v2 (l.length + r.length) (l.map B ++ r.map B)) (hg : w1.grownBy w2 v.ownBlock) (hf : v2.ownBlock = v.ownBlock ∨ v2.ownBlock = some w1.heap.size) : Laid w gv w2 v2 (l ++ r) := by
  have hc : Chg (fun j => v.ownBlock = some j) w1 w2 := Chg.of_grown hg (fun j hj => hj)
  have hsz := h.chg.size
  refine ⟨by rw [List.length_append, List.map_append]; exact hown, h.chg.trans (hc.mono fun j _ e => (h.fresh j e).symm), fun j hj => ?_⟩
  rcases hf with e | e
  · rw [e] at hj; exact h.fresh j hj
  · rw [e] at hj
    simp at hj
    exact Or.inr (by omega)
theorem Laid.len {w w' : World} {gv v : Value} {l : List UInt8} (h : Laid w gv w' v l) : ∃ sv cv, v = .slice sv l.length cv := slice_len h.own
theorem run_app_str {P : Program} (w : World) (t u ty e : TypeId) (i : TypeInfo) (ht : P.underlying t = some (.slice e)) (hu : P.underlying u = some .string) (hi : P.info? e = some i) (hz : i.zero = some (.int .u8 0))
    (hsize : i.size = 1) (hby : i.bytes = 1) (v : Value) (n : Nat) (xs : List Value) (hown : w.ownsRow 0 e 1 v n xs) (s : ByteArray)
    (h63 : n + s.size ≤ maxLen) (hbytes : n + s.size ≤ 140737488355328) :
    ∃ v' w', (Builtin.append_ #[t, u] ty #[v, .string s]).run P w = .ok v' w' ∧ w'.ownsRow 0 e 1 v' (n + s.size) (xs ++ Lib.strCells s) ∧ w.grownBy w' v.ownBlock ∧
      (v'.ownBlock = v.ownBlock ∨ v'.ownBlock = some w.heap.size) := by
  obtain ⟨v', w', hr, h2, h3, h4⟩ := Lib.run_append_own_string (P := P) w 0 t u ty e i ht hu hi hz hsize hby v n xs hown s h63 hbytes (Nat.zero_le _)
  refine ⟨v', w', hr, h2, h3, ?_⟩
  have hsmall : n + s.size ≤ 9223372036854775807 := by simp only [maxLen] at h63; omega
  have hxl : xs.length = n := by simpa using hown.1
  rcases hown.2 with ⟨rfl, rfl⟩ | ⟨g, cap, cur, rfl, hbg, hg, hnc, hcm, hcs, htake⟩
  · by_cases hm : s.size = 0
    · exact Or.inl (by rw [h4.2 ⟨rfl, hm⟩])
    · have h := run_append_nil_string (P := P) w t u ty e i (.int .u8 0) ht hu hi hz s (by omega) (by omega) (by rw [hby]; omega)
      rw [h] at hr
      simp only [Result.ok.injEq] at hr
      exact Or.inr (by rw [← hr.1]; rfl)
  · by_cases hroom : n + s.size ≤ cap
    · have hcs' : cur.size = cap := by simpa using hcs
      have h := Lib.run_append_room_string (P := P) w t u ty e i ht hu hi hsize g n cap cur hg s hroom (by omega)
      rw [h] at hr
      simp only [Result.ok.injEq] at hr
      exact Or.inl (by rw [← hr.1]; rfl)
    · have holds : ∀ j u, xs[j]? = some u → w.cell? ((⟨g, 0, none⟩ : Addr).add j) = some u := hown.cells (g := g) rfl
      have h := Lib.run_append_grow_string (P := P) w t u ty e i (.int .u8 0) ht hu hi hz ⟨g, 0, none⟩ n cap xs (by rw [hsize]; simpa using hxl) holds s (by omega) (by omega) (by rw [hby]; exact growslice_fits (by omega) (by omega))
      rw [h] at hr
      simp only [Result.ok.injEq] at hr
      exact Or.inr (by rw [← hr.1]; rfl)
theorem wpList_app_str {P : Program} (w : World) {ops : Array Oper} {rest : List Oper} {o : Oper} {a : Act} {Q : Exit → Act → World → Prop} (hgd : o.guard = none) (sl x : Operand) (t u : TypeId)
    (ho : o.op = .call { callee := .builtin .append, args := #[sl, x], argTypes := #[t, u] })
    (e : TypeId) (i : TypeInfo) (ht : P.underlying t = some (.slice e)) (hu : P.underlying u = some .string) (hi : P.info? e = some i) (hz : i.zero = some (.int .u8 0))
    (hsize : i.size = 1) (hby : i.bytes = 1) (v : Value) (n : Nat) (xs : List Value) (hs : a.eval sl = v) (hown : w.ownsRow 0 e 1 v n xs) (s : ByteArray) (hx : a.eval x = .string s)
    (h63 : n + s.size ≤ maxLen) (hbytes : n + s.size ≤ 140737488355328)
    (h : ∀ v' w', w'.ownsRow 0 e 1 v' (n + s.size) (xs ++ Lib.strCells s) → w.grownBy w' v.ownBlock → (v'.ownBlock = v.ownBlock ∨ v'.ownBlock = some w.heap.size) → wpList P ops Q rest (a.put o.dst v') w') : wpList P ops Q (o :: rest) a w := by
  refine wpList_plain hgd fun K hK => ?_
  obtain ⟨v', w', hr, h2, h3, h4⟩ := run_app_str (P := P) w t u o.type e i ht hu hi hz hsize hby v n xs hown s h63 hbytes
  unfold Oper.wp execOp
  simp only [ho, resolve, invoke, builtin, Sem.run_bind, Sem.run_pure, Result.andThen_ok, List.map_toArray, List.map_cons, List.map_nil, hs, hx, hr]
  exact hK _ _ (h v' w' h2 h3 h4)
theorem strCells_eq (T : ByteArray) : Lib.strCells T = T.data.toList.map B := by simp [Lib.strCells]
theorem packB_len (t : List UInt8) : (bytesB (packB t)).length ≤ 2 * t.length + 1 := by
  rw [bytesB_length]
  unfold packB
  have h1 := rawB_length t
  have h2 := padN_lt (rawB t).length
  rw [List.length_append, List.length_replicate]
  omega
theorem lies_of_owns {w : World} {b : Nat} {v : Value} {l : List UInt8} (h : w.ownsRow b 5 1 v l.length (l.map B)) : Lies w v l.length (l.map B) := lies_of_bytesIn (bytesIn_of_owns h rfl)
set_option maxRecDepth 100000 in
set_option maxHeartbeats 3200000 in
theorem appendText_any (T : ByteArray) (gv : Value) (l : List UInt8) (w : World) (hgl : Gl w) (hown : w.ownsRow 0 5 1 gv l.length (l.map B)) (hl : l.length ≤ 268435456) (hT : T.size ≤ 262144) :
    Calls Tryz.prog 205 #[gv, .string T] w fun e w' => ∃ v, e = .returned v ∧ Laid w gv w' v (l ++ txt T.data.toList) := by
  obtain ⟨i0, hi, hz0, hz1, hz2⟩ := info_parts Tryz.info5
  have hpk := packBits_any T w (by omega)
  have hpl := packB_len T.data.toList
  have htl : T.data.toList.length = T.size := rfl
  have htx : txt T.data.toList = if (bytesB (packB T.data.toList)).length < T.data.toList.length then cnt 128 7 (bytesB (packB T.data.toList)).length ++ bytesB (packB T.data.toList) else cnt 0 7 T.data.toList.length ++ T.data.toList := rfl
  rw [htl] at htx hpl
  generalize bytesB (packB T.data.toList) = Q at hpk hpl htx
  have HPK := hide hpk
  have HGL := hide hgl
  have HOW := hide hown
  clear hpk hgl hown
  go_enter Tryz.func205, Tryz.ntmps205
  go_wp2_with fail
  refine HPK.out.mono ?_
  rintro e w1 ⟨v1, rfl, hq1, hb1⟩
  obtain ⟨sq, cq, hv1⟩ := slice_len hq1
  subst hv1
  have hg1 := HGL.out.below hb1
  have ho1 := owns_chg HOW.out (Chg.of_below (S := fun _ => False) hb1) (fun _ _ => id)
  obtain ⟨a0, a1⟩ := hg1.pck
  obtain ⟨p0, p1⟩ := hg1.pln
  have HQ1 := hide hq1
  have HB1 := hide hb1
  have HO1 := hide ho1
  have hgv := fun j (hj : gv.ownBlock = some j) => owns_lt HOW.out hj
  have HGV := hide hgv
  clear hq1 hb1 ho1 hg1 hgv
  by_cases hlt : Q.length < T.size
  · rw [if_pos hlt] at htx
    have HTX := hide htx
    have HAC := hide (appendCount_any 128 7 Q.length gv l w1 HO1.out (by omega) (by omega) (by decide) (by decide) (by omega))
    clear htx
    go_wp2_with fail
    refine HAC.out.mono ?_
    rintro e w2 ⟨v2, rfl, hl2⟩
    have hq2 := owns_chg HQ1.out hl2.chg (fun j hj e => by
      have h1 := (HQ1.out.lt j hj).1
      have h2 := HGV.out j e
      omega)
    have hc1 : (l ++ cnt 128 7 Q.length).length ≤ 268435456 + 1048576 + 16 := by
      have := tail7_len (Q.length - (2 ^ 7 - 1))
      rw [List.length_append]
      unfold cnt
      split
      · simp; omega
      · rw [List.length_cons]; omega
    obtain ⟨L2, hL2⟩ : ∃ L2, L2 = l ++ cnt 128 7 Q.length := ⟨_, rfl⟩
    rw [← hL2] at hl2 hc1
    have HEL := hide hL2
    clear hL2
    obtain ⟨s2, c2, hv2⟩ := hl2.len
    subst hv2
    have HL2 := hide hl2
    have HQ2 := hide hq2
    clear hl2 hq2
    go_wp2_with (at_builtin; refine wpList_app _ rfl (.tmp 17) (.tmp 18) 38 rfl 5 i0 (.int .u8 0) 1 1 Tryz.underlying38 hi hz0 hz1 hz2 rfl (by decide) _ _ _ rfl HL2.out.own _ Q.length (Q.map B) rfl (by simp) (lies_of_owns HQ2.out) (bytes_one _) ?c3 ?c4 ?_)
    case c3 => unfold maxLen; omega
    case c4 => omega
    intro v3 w3 hown3 hg3 hf3
    have h3 := HL2.out.app hown3 hg3 hf3
    have H3 := hide (Laid.below HB1.out h3)
    clear h3 hown3 hg3 hf3
    go_wp2
    go_ret
    refine ⟨v3, rfl, ?_⟩
    rw [HTX.out, ← List.append_assoc, ← HEL.out]
    exact H3.out
  · rw [if_neg hlt] at htx
    have HTX := hide htx
    have HAC := hide (appendCount_any 0 7 T.size gv l w1 HO1.out (by omega) (by omega) (by decide) (by decide) (by omega))
    clear htx
    go_wp2_with fail
    refine HAC.out.mono ?_
    rintro e w2 ⟨v2, rfl, hl2⟩
    have hc1 : (l ++ cnt 0 7 T.size).length ≤ 268435456 + 1048576 + 16 := by
      have := tail7_len (T.size - (2 ^ 7 - 1))
      rw [List.length_append]
      unfold cnt
      split
      · simp; omega
      · rw [List.length_cons]; omega
    obtain ⟨L2, hL2⟩ : ∃ L2, L2 = l ++ cnt 0 7 T.size := ⟨_, rfl⟩
    rw [← hL2] at hl2 hc1
    have HEL := hide hL2
    clear hL2
    obtain ⟨s2, c2, hv2⟩ := hl2.len
    subst hv2
    have HL2 := hide hl2
    clear hl2
    go_wp2_with (at_builtin; refine wpList_app_str _ rfl (.tmp 24) (.tmp 25) 38 9 rfl 5 i0 Tryz.underlying38 Tryz.underlying9 hi hz0 hz1 hz2 _ _ _ rfl HL2.out.own T rfl ?c3 ?c4 ?_)
    case c3 => unfold maxLen; omega
    case c4 => omega
    intro v3 w3 hown3 hg3 hf3
    rw [strCells_eq] at hown3
    have h3 := HL2.out.app (r := T.data.toList) hown3 hg3 hf3
    have H3 := hide (Laid.below HB1.out h3)
    clear h3 hown3 hg3 hf3
    go_wp2
    go_ret
    refine ⟨v3, rfl, ?_⟩
    rw [HTX.out, ← List.append_assoc, ← HEL.out]
    exact H3.out
end Go.Proofs.YtiphkngfbpdeoaaGreatDoor
namespace Go.Proofs.YtiphkngfbpdeoaaGreatDoor
set_option linter.unusedVariables false
set_option linter.unusedSimpArgs false
open Go.RowKit
structure SrS (w : World) (sb : Nat) (rv : Value) (l : List UInt8) : Prop where
  blk : w.heap[sb]? = some (.cells #[rv] 218 (0, 0))
  bytes : BytesIn w rv l
  ne : rv.ownBlock ≠ some sb
theorem SrS.chg {S : Nat → Prop} {w w' : World} {sb : Nat} {rv : Value} {l : List UInt8} (h : SrS w sb rv l) (hc : Chg S w w') (h1 : ¬ S sb) (h2 : ∀ j, rv.ownBlock = some j → ¬ S j) : SrS w' sb rv l :=
  ⟨by rw [hc.block sb (lt_of_block h.blk) h1]; exact h.blk, h.bytes.chg hc h2, h.ne⟩
theorem SrS.below {w w' : World} {sb : Nat} {rv : Value} {l : List UInt8} (h : SrS w sb rv l) (hb : Below w.heap.size w w') : SrS w' sb rv l := h.chg (Chg.of_below (S := fun _ => False) hb) id (fun _ _ => id)
theorem bytesIn_len {w : World} {v : Value} {l : List UInt8} (h : BytesIn w v l) : ∃ sv cv, v = .slice sv l.length cv ∧ l.length ≤ cv := by
  rcases h with ⟨rfl, rfl⟩ | ⟨bb, off, cap, rfl, _, h2, _⟩
  · exact ⟨_, _, rfl, Nat.le_refl _⟩
  · exact ⟨_, _, rfl, h2⟩
structure SrTo (w w' : World) (sb : Nat) (rv rv' : Value) (l' : List UInt8) : Prop where
  st : SrS w' sb rv' l'
  chg : Chg (fun j => j = sb) w w'
  own : ∀ j, rv'.ownBlock = some j → rv.ownBlock = some j
theorem SrTo.trans {w w1 w2 : World} {sb : Nat} {rv r1 r2 : Value} {l1 l2 : List UInt8} (h : SrTo w w1 sb rv r1 l1) (k : SrTo w1 w2 sb r1 r2 l2) : SrTo w w2 sb rv r2 l2 :=
  ⟨k.st, h.chg.trans (k.chg.mono fun _ _ e => Or.inr e), fun j hj => h.own j (k.own j hj)⟩
theorem SrTo.below {w w1 w2 : World} {sb : Nat} {rv r1 : Value} {l1 : List UInt8} (h : SrTo w w1 sb rv r1 l1) (hb : Below w1.heap.size w1 w2) : SrTo w w2 sb rv r1 l1 := ⟨h.st.below hb, h.chg.then_below hb, h.own⟩
theorem SrTo.before {w w1 w2 : World} {sb : Nat} {rv r1 : Value} {l1 : List UInt8} (hb : Below w.heap.size w w1) (h : SrTo w1 w2 sb rv r1 l1) : SrTo w w2 sb rv r1 l1 := ⟨h.st, (Chg.of_below hb).trans (h.chg.mono fun _ _ e => Or.inr e), h.own⟩
set_option maxRecDepth 100000 in
set_option maxHeartbeats 800000 in
theorem takeBytes_ok (sb : Nat) (rv : Value) (l : List UInt8) (n : Nat) (w : World) (h : SrS w sb rv l) (hn : n ≤ l.length) (hl : l.length ≤ 1099511627776) :
    Calls Tryz.prog 191 #[.pointer (some ⟨sb, 0, none⟩), .int .i64 n] w fun e w' => ∃ v rv', e = .returned v ∧ BytesIn w' v (l.take n) ∧ SrTo w w' sb rv rv' (l.drop n) ∧ (∀ j, v.ownBlock = some j → rv.ownBlock = some j) := by
  have c0 := cell_of_one h.blk
  have f0 := free_of_one h.blk
  have hlt := lt_of_block h.blk
  have H := hide h
  rcases h.bytes with ⟨hv, hl0⟩ | ⟨bb, off, cap, hv, h1, h2, h3⟩
  · subst hv hl0
    have hn0 : n = 0 := by simpa using hn
    subst hn0
    clear h
    go_enter Tryz.func191, Tryz.ntmps191
    go_wp2
    go_ret
    have hc : Chg (fun j => j = sb) w (w.setCell ⟨sb, 0, none⟩ (.slice none 0 0)) := (Chg.refl (fun j => j = sb) w).setCell (p := ⟨sb, 0, none⟩) (Or.inr rfl) _
    exact ⟨_, .slice none 0 0, rfl, Or.inl ⟨rfl, rfl⟩, ⟨⟨one_setCell H.out.blk, Or.inl ⟨rfl, rfl⟩, by simp [Value.ownBlock]⟩, hc, fun j hj => hj⟩, fun j hj => hj⟩
  · subst hv
    have hne : bb ≠ sb := fun e => h.ne (by rw [e]; rfl)
    obtain ⟨AD, hAD, hAO⟩ : ∃ o2, (if cap = n then some (⟨bb, off, none⟩ : Addr) else some ⟨bb, off + n, none⟩) = some ⟨bb, o2, none⟩ ∧ (n < l.length → o2 = off + n) := by
      by_cases hck : cap = n
      · exact ⟨off, by rw [if_pos hck], fun e => by omega⟩
      · exact ⟨off + n, by rw [if_neg hck], fun _ => rfl⟩
    have HAO := hide hAO
    have H3 := hide h3
    have H1 := hide h1
    clear h hAO h3 h1
    go_enter Tryz.func191, Tryz.ntmps191
    go_wp2
    go_ret
    have hc : Chg (fun j => j = sb) w (w.setCell ⟨sb, 0, none⟩ (.slice (some ⟨bb, AD, none⟩) (l.length - n) (cap - n))) := (Chg.refl (fun j => j = sb) w).setCell (p := ⟨sb, 0, none⟩) (Or.inr rfl) _
    have hsz : bb < (w.setCell ⟨sb, 0, none⟩ (.slice (some ⟨bb, AD, none⟩) (l.length - n) (cap - n))).heap.size := Nat.lt_of_lt_of_le H1.out hc.size
    have hcl : ∀ i, i < l.length → (w.setCell ⟨sb, 0, none⟩ (.slice (some ⟨bb, AD, none⟩) (l.length - n) (cap - n))).cell? ⟨bb, off + i, none⟩ = some (.int .u8 (l.getD i 0).toNat) := fun i hi => by
      rw [hc.cell (p := ⟨bb, off + i, none⟩) H1.out hne]
      exact H3.out i hi
    refine ⟨_, .slice (some ⟨bb, AD, none⟩) (l.length - n) (cap - n), rfl, Or.inr ⟨bb, off, cap, ?_, hsz, ?_, fun i hi => ?_⟩, ⟨⟨one_setCell H.out.blk, Or.inr ⟨bb, AD, cap - n, by rw [List.length_drop], hsz, by rw [List.length_drop]; omega, fun i hi => ?_⟩, ?_⟩, hc, fun j hj => hj⟩, fun j hj => hj⟩
    · have e9 : (l.take n).length = n := by rw [List.length_take, Nat.min_eq_left hn]
      rw [e9]
      try rfl
    · rw [List.length_take]; omega
    · rw [List.length_take] at hi
      rw [hcl i (by omega)]
      simp [List.getD, List.getElem?_take, show i < n by omega]
    · rw [List.length_drop] at hi
      have ha := HAO.out (by omega)
      have e9 : (⟨bb, AD + i, none⟩ : Addr) = ⟨bb, off + (n + i), none⟩ := by rw [ha, Nat.add_assoc]
      rw [e9, hcl (n + i) (by omega)]
      simp [List.getD, List.getElem?_drop]
    · simp only [Value.ownBlock, ne_eq, Option.some.injEq]
      exact hne
set_option maxRecDepth 100000 in
set_option maxHeartbeats 800000 in
theorem takeBytes_bad (sb : Nat) (rv : Value) (l : List UInt8) (n : Nat) (w : World) (h : SrS w sb rv l) (hn : l.length < n) (hn2 : n ≤ 1099511627776) :
    Calls Tryz.prog 191 #[.pointer (some ⟨sb, 0, none⟩), .int .i64 n] w fun e w' => e = .panicked [{ v := .iface 36 (.int .i64 13), recovered := false }] ∧ w' = w := by
  have c0 := cell_of_one h.blk
  obtain ⟨sv, cv, hv, _⟩ := bytesIn_len h.bytes
  subst hv
  clear h
  go_enter Tryz.func191, Tryz.ntmps191
  go_wp2
  exact ⟨rfl, rfl, rfl⟩
set_option maxRecDepth 100000 in
set_option maxHeartbeats 800000 in
theorem stake_ok (sb : Nat) (rv : Value) (c : UInt8) (l : List UInt8) (w : World) (h : SrS w sb rv (c :: l)) (hl : (c :: l).length ≤ 1099511627776) :
    Calls Tryz.prog 175 #[.pointer (some ⟨sb, 0, none⟩)] w fun e w' => ∃ rv', e = .returned (.int .u8 c.toNat) ∧ SrTo w w' sb rv rv' l := by
  have HTB := hide (takeBytes_ok sb rv (c :: l) 1 w h (by simp) hl)
  clear h
  go_enter Tryz.func175, Tryz.ntmps175
  go_wp2_with fail
  refine HTB.out.mono ?_
  rintro e w1 ⟨v, rv', rfl, hb, hs, ho⟩
  rcases hb with ⟨_, h0⟩ | ⟨bb, off, cap, hv, h1, h2, h3⟩
  · simp at h0
  · subst hv
    have d0 := h3 0 (by simp)
    simp only [Nat.add_zero, List.take_succ_cons, List.take_zero, List.getD_cons_zero, List.length_cons, List.length_nil, Nat.zero_add] at d0 h2 ⊢
    have HS := hide hs
    clear hs h3 ho
    go_wp2
    go_ret
    exact ⟨rv', rfl, HS.out⟩
set_option maxRecDepth 100000 in
set_option maxHeartbeats 800000 in
theorem stake_bad (sb : Nat) (rv : Value) (w : World) (h : SrS w sb rv []) :
    Calls Tryz.prog 175 #[.pointer (some ⟨sb, 0, none⟩)] w fun e w' => e = .panicked [{ v := .iface 36 (.int .i64 13), recovered := false }] ∧ w' = w := by
  have HTB := hide (takeBytes_bad sb rv [] 1 w h (by simp) (by omega))
  clear h
  go_enter Tryz.func175, Tryz.ntmps175
  go_wp2_with fail
  refine HTB.out.mono ?_
  rintro e w1 ⟨rfl, rfl⟩
  exact ⟨rfl, rfl, rfl⟩
set_option maxRecDepth 100000 in
set_option maxHeartbeats 800000 in
theorem atEnd_any (sb : Nat) (rv : Value) (l : List UInt8) (w : World) (h : SrS w sb rv l) :
    Calls Tryz.prog 147 #[.pointer (some ⟨sb, 0, none⟩)] w fun e w' => e = .returned (.bool l.isEmpty) ∧ w' = w := by
  have c0 := cell_of_one h.blk
  obtain ⟨sv, cv, hv, _⟩ := bytesIn_len h.bytes
  subst hv
  have hie : l.isEmpty = decide (l.length = 0) := by cases l <;> simp
  have HIE := hide hie
  clear h hie
  go_enter Tryz.func147, Tryz.ntmps147
  go_wp2
  go_ret
  refine ⟨ret_bool ?_, rfl⟩
  rw [HIE.out]
  cases l with
  | nil => rfl
  | cons a r => simp; try omega
end Go.Proofs.YtiphkngfbpdeoaaGreatDoor
namespace Go.Proofs.YtiphkngfbpdeoaaGreatDoor
set_option linter.unusedVariables false
set_option linter.unusedSimpArgs false
theorem ba_loop (bs : ByteArray) : ∀ n i (r : List UInt8), bs.size - i = n → ByteArray.toList.loop bs i r = r.reverse ++ bs.data.toList.drop i := by
  intro n
  induction n with
  | zero =>
    intro i r h
    unfold ByteArray.toList.loop
    rw [if_neg (by omega)]
    have : bs.data.toList.length ≤ i := by show bs.size ≤ i; omega
    rw [List.drop_of_length_le this]; simp
  | succ n ih =>
    intro i r h
    unfold ByteArray.toList.loop
    rw [if_pos (by omega), ih (i+1) _ (by omega)]
    have hi : i < bs.data.toList.length := by show i < bs.size; omega
    rw [List.drop_eq_getElem_cons hi]
    have hg : bs.get! i = bs.data.toList[i] := by
      show bs.data[i]! = _
      rw [getElem!_pos bs.data i (by show i < bs.size; omega)]
      rfl
    simp [hg]
theorem ba_toList (bs : ByteArray) : bs.toList = bs.data.toList := by
  unfold ByteArray.toList
  rw [ba_loop bs _ 0 [] rfl]; simp
end Go.Proofs.YtiphkngfbpdeoaaGreatDoor
namespace Go.Proofs.YtiphkngfbpdeoaaGreatDoor
set_option linter.unusedVariables false
set_option linter.unusedSimpArgs false
def rdTxt : List UInt8 → Option (List UInt8 × List UInt8)
  | [] => none
  | c :: r => match rdCnt 7 c r with
    | none => none
    | some (n, q) => if q.length < n then none else if 128 ≤ c.toNat then (match unpB (bitsB (q.take n)) with
        | none => none
        | some t => some (t, q.drop n)) else some (q.take n, q.drop n)
def rdTxs (tab : List HP) (n : Nat) (r : List UInt8) : Option (HP × List UInt8) :=
  match (if 0 < n then (match (numd tab)[n - 1]? with
      | none => none
      | some x => some (x.n.data.toList, r)) else rdTxt r) with
  | none => none
  | some (nm, q) => match rdTxt q with
    | none => none
    | some (vl, s) => some (⟨⟨nm.toArray⟩, ⟨vl.toArray⟩⟩, s)
def rdPair (tab : List HP) (lim : Nat) : List UInt8 → Option (HP × List HP × List UInt8)
  | [] => none
  | c :: r =>
    if 128 ≤ c.toNat then (match rdCnt 7 c r with
      | none => none
      | some (n, q) => if n = 0 then none else match (numd tab)[n - 1]? with
        | none => none
        | some x => some (x, tab, q))
    else if 64 ≤ c.toNat then (match rdCnt 6 c r with
      | none => none
      | some (n, q) => match rdTxs tab n q with
        | none => none
        | some (h, s) => some (h, addT tab lim h, s))
    else if c.toNat < 16 then (match rdCnt 4 c r with
      | none => none
      | some (n, q) => match rdTxs tab n q with
        | none => none
        | some (h, s) => some (h, tab, s))
    else none
def rdPairs : Nat → List HP → List HP → Nat → List UInt8 → Option (List HP × List HP)
  | 0, _, _, _, _ => none
  | _ + 1, acc, tab, _, [] => some (acc, tab)
  | f + 1, acc, tab, lim, c :: r => match rdPair tab lim (c :: r) with
    | none => none
    | some (h, tab', q) => if listB (acc ++ [h]) then rdPairs f (acc ++ [h]) tab' lim q else none
def rdLims (most : Nat) : Nat → Nat → List HP → List UInt8 → Option (Nat × List HP × List UInt8)
  | 0, lim, tab, r => some (lim, tab, r)
  | _ + 1, lim, tab, [] => some (lim, tab, [])
  | f + 1, lim, tab, c :: q => if c.toNat / 32 = 1 then (match rdCnt 5 c q with
      | none => none
      | some (n, s) => if most < n then none else rdLims most f n (shr tab n) s) else some (lim, tab, c :: q)
structure Up where
  lim : Nat
  tab : List HP
  most : Nat
def Up.unpack (u : Up) (b : List UInt8) : Option (List HP × Nat × List HP) := match rdLims u.most 2 u.lim u.tab b with
  | none => none
  | some (lim, tab, r) => match rdPairs 9 [] tab lim r with
    | none => none
    | some (hs, tab') => some (hs, lim, tab')
theorem ba_eq {a b : ByteArray} (h : a.toList = b.toList) : a = b := by
  rw [ba_toList, ba_toList] at h
  apply ByteArray.ext
  exact Array.toList_inj.1 h
theorem hp_eq {x h : HP} (h1 : x.n.toList = h.n.toList) (h2 : x.v.toList = h.v.toList) : x = h := by
  obtain ⟨a, b⟩ := x
  obtain ⟨c, d⟩ := h
  have := ba_eq h1
  have := ba_eq h2
  simp_all
theorem ba_back (b : ByteArray) : (⟨b.data.toList.toArray⟩ : ByteArray) = b := by cases b; simp
theorem rdTxt_txt {t r : List UInt8} (ht : t.length ≤ 40) : rdTxt (txt t ++ r) = some (t, r) := by
  unfold txt
  split
  · next hp =>
    obtain ⟨c, q, e1, e2, e3, e4⟩ := rdCnt_cnt (f := 128) (k := 7) (n := (bytesB (packB t)).length) (r := bytesB (packB t) ++ r) (by decide) (by decide) (by omega)
    rw [List.append_assoc, e1, List.cons_append]
    simp only [rdTxt]
    rw [e4]
    simp only
    rw [if_neg (by rw [List.length_append]; omega), if_pos e2, List.take_left, List.drop_left, bitsB_bytesB _ (packB_eight t), unpB_pack]
  · next hp =>
    obtain ⟨c, q, e1, e2, e3, e4⟩ := rdCnt_cnt (f := 0) (k := 7) (n := t.length) (r := t ++ r) (by decide) (by decide) (by omega)
    rw [List.append_assoc, e1, List.cons_append]
    simp only [rdTxt]
    rw [e4]
    simp only
    rw [if_neg (by rw [List.length_append]; omega), if_neg (by omega), List.take_left, List.drop_left]
theorem nmF_get {l : List HP} {n : ByteArray} (h : nmF l n ≠ 0) : ∃ x, l[nmF l n - 1]? = some x ∧ x.n = n := by
  unfold nmF at h ⊢
  split
  · next i hi =>
    obtain ⟨h1, h2, _⟩ := List.findIdx?_eq_some_iff_getElem.1 hi
    refine ⟨l[i], by simp [h1], ?_⟩
    simp only [beq_iff_eq] at h2
    exact ba_eq h2
  · next hi => rw [hi] at h; simp at h
theorem pnN_get {l : List HP} {h : HP} (hne : pnN l h ≠ 0) : l[pnN l h - 1]? = some h := by
  unfold pnN at hne ⊢
  split
  · next i hi =>
    unfold pnF at hi
    obtain ⟨h1, h2, _⟩ := List.findIdx?_eq_some_iff_getElem.1 hi
    simp only [decide_eq_true_eq] at h2
    have := hp_eq h2.1 h2.2
    simp [h1, this]
  · next hi => rw [hi] at hne; simp at hne
theorem rdTxs_txs {tab : List HP} {h : HP} {r : List UInt8} (ho : okH h) : rdTxs tab (nmF (numd tab) h.n) ((if nmF (numd tab) h.n = 0 then txt h.n.data.toList else []) ++ txt h.v.data.toList ++ r) = some (h, r) := by
  unfold rdTxs
  by_cases hz : nmF (numd tab) h.n = 0
  · rw [hz, if_neg (by omega), if_pos rfl, List.append_assoc, rdTxt_txt (by rw [ba_len']; exact ho.2.1)]
    simp only
    rw [rdTxt_txt (by rw [ba_len']; exact ho.2.2)]
  · rw [if_pos (by omega), if_neg hz, List.nil_append]
    obtain ⟨x, hx, hn⟩ := nmF_get hz
    rw [hx]
    simp only
    rw [rdTxt_txt (by rw [ba_len']; exact ho.2.2)]
    simp only
    rw [ba_back, ba_back, hn]
theorem rdPair_pair {tab : List HP} {lim : Nat} {h : HP} {r : List UInt8} (ho : okH h) (hl : tab.length ≤ 1000000) : rdPair tab lim ((pairK tab lim h).1 ++ r) = some (h, (pairK tab lim h).2, r) ∧ ∃ c q, (pairK tab lim h).1 = c :: q ∧ c.toNat / 32 ≠ 1 := by
  have hp := pnN_le (numd tab) h
  have hm := nmF_le (numd tab) h.n
  rw [numd_length] at hp hm
  unfold pairK
  by_cases hz : pnN (numd tab) h = 0
  · rw [if_pos hz]
    by_cases hlt : lim < tk h
    · rw [if_pos hlt]
      simp only [txs]
      obtain ⟨c, q, e1, e2, e3, e4⟩ := rdCnt_cnt (f := 0) (k := 4) (n := nmF (numd tab) h.n) (r := (if nmF (numd tab) h.n = 0 then txt h.n.data.toList else []) ++ txt h.v.data.toList ++ r) (by decide) (by decide) (by omega)
      rw [e1]
      refine ⟨?_, c, _, List.cons_append, by omega⟩
      simp only [List.cons_append, rdPair, List.append_assoc] at e4 ⊢
      rw [if_neg (by omega), if_neg (by omega), if_pos (by omega), e4]
      simp only
      have := rdTxs_txs (tab := tab) (h := h) (r := r) ho
      simp only [List.append_assoc] at this
      rw [this]
    · rw [if_neg hlt]
      simp only [txs]
      obtain ⟨c, q, e1, e2, e3, e4⟩ := rdCnt_cnt (f := 64) (k := 6) (n := nmF (numd tab) h.n) (r := (if nmF (numd tab) h.n = 0 then txt h.n.data.toList else []) ++ txt h.v.data.toList ++ r) (by decide) (by decide) (by omega)
      rw [e1]
      refine ⟨?_, c, _, List.cons_append, by omega⟩
      simp only [List.cons_append, rdPair, List.append_assoc] at e4 ⊢
      rw [if_neg (by omega), if_pos (by omega), e4]
      simp only
      have := rdTxs_txs (tab := tab) (h := h) (r := r) ho
      simp only [List.append_assoc] at this
      rw [this]
  · rw [if_neg hz]
    obtain ⟨c, q, e1, e2, e3, e4⟩ := rdCnt_cnt (f := 128) (k := 7) (n := pnN (numd tab) h) (r := r) (by decide) (by decide) (by omega)
    simp only
    rw [e1]
    refine ⟨?_, c, _, rfl, by omega⟩
    simp only [List.cons_append, rdPair]
    rw [if_pos (by omega), e4]
    simp only
    rw [if_neg hz, pnN_get hz]
theorem rdPairs_pairs {hs : List HP} {acc tab : List HP} {lim : Nat} (hok : listB (acc ++ hs) = true) (hoh : ∀ h ∈ hs, okH h) (hf : szT tab ≤ lim) (hl : lim ≤ 256) (f : Nat) (hff : hs.length < f) : rdPairs f acc tab lim (pairsK hs tab lim).1 = some (acc ++ hs, (pairsK hs tab lim).2) := by
  induction hs generalizing acc tab f with
  | nil =>
    obtain ⟨g, rfl⟩ : ∃ g, f = g + 1 := ⟨f - 1, by simp at hff; omega⟩
    simp [pairsK, rdPairs]
  | cons h r ih =>
    obtain ⟨g, rfl⟩ : ∃ g, f = g + 1 := ⟨f - 1, by simp at hff; omega⟩
    have ho := hoh h (by simp)
    have hfew := szT_len tab
    obtain ⟨p1, c, q, p2, p3⟩ := rdPair_pair (tab := tab) (lim := lim) (h := h) (r := (pairsK r (pairK tab lim h).2 lim).1) ho (by omega)
    have e : (pairK tab lim h).1 ++ (pairsK r (pairK tab lim h).2 lim).1 = c :: (q ++ (pairsK r (pairK tab lim h).2 lim).1) := by rw [p2]; rfl
    simp only [pairsK]
    rw [e]
    simp only [rdPairs]
    rw [← e, p1]
    simp only
    have hacc : listB (acc ++ [h]) = true := by
      unfold listB at hok ⊢
      simp only [List.length_append, List.length_cons, List.all_append, List.all_cons, Bool.and_eq_true, decide_eq_true_eq] at hok ⊢
      exact ⟨by simp; omega, hok.2.1, hok.2.2.1, by simp⟩
    rw [if_pos hacc]
    have hfit : szT (pairK tab lim h).2 ≤ lim := by
      unfold pairK
      split
      · split
        · exact hf
        · exact addT_size _ _ _ hf
      · exact hf
    have := ih (acc := acc ++ [h]) (tab := (pairK tab lim h).2) (by simpa using hok) (fun x hx => hoh x (by simp [hx])) hfit g (by simp at hff; omega)
    rw [this]
    simp
theorem rdLims_lims {ls : List Nat} {lim most : Nat} {tab : List HP} {r : List UInt8} (hls : ∀ x ∈ ls, x ≤ most) (hm : most ≤ 256) (f : Nat) (hf : ls.length ≤ f) (hr : f = ls.length ∨ r = [] ∨ ∃ c q, r = c :: q ∧ c.toNat / 32 ≠ 1) :
    rdLims most f lim tab ((limsK ls lim tab).1 ++ r) = some ((limsK ls lim tab).2.1, (limsK ls lim tab).2.2, r) := by
  induction ls generalizing lim tab f with
  | nil =>
    simp only [limsK, List.nil_append]
    cases f with
    | zero => simp [rdLims]
    | succ f =>
      rcases hr with h | h | ⟨c, q, h, h2⟩
      · simp at h
      · rw [h]; simp [rdLims]
      · rw [h]; simp only [rdLims]; rw [if_neg h2]
  | cons x t ih =>
    obtain ⟨g, rfl⟩ : ∃ g, f = g + 1 := ⟨f - 1, by simp at hf; omega⟩
    have hx := hls x (by simp)
    obtain ⟨c, q, e1, e2, e3, e4⟩ := rdCnt_cnt (f := 32) (k := 5) (n := x) (r := (limsK t x (shr tab x)).1 ++ r) (by decide) (by decide) (by omega)
    simp only [limsK, List.append_assoc]
    rw [e1, List.cons_append]
    simp only [rdLims]
    rw [if_pos (by omega), e4]
    simp only
    rw [if_neg (by omega)]
    refine ih (fun y hy => hls y (by simp [hy])) g (by simp at hf; omega) ?_
    rcases hr with h | h
    · left; simp at h; exact h
    · exact Or.inr h
theorem unpack_pack {p : Pk} {hs : List HP} (hw : ∀ x ∈ p.wait, x ≤ 256) (hw2 : p.wait.length ≤ 2) (hlist : listB hs = true) (hoh : ∀ h ∈ hs, okH h) (hf : szT p.tab ≤ p.lim) (hl : p.lim ≤ 256) :
    (Up.mk p.lim p.tab 256).unpack (p.pack hs).1 = some (hs, (p.pack hs).2.lim, (p.pack hs).2.tab) := by
  obtain ⟨lim, tab, wait⟩ := p
  simp only at hw hw2 hf hl
  have hfit : ∀ (ls : List Nat) (lim : Nat) (tab : List HP), (∀ x ∈ ls, x ≤ 256) → szT tab ≤ lim → lim ≤ 256 → szT (limsK ls lim tab).2.2 ≤ (limsK ls lim tab).2.1 ∧ (limsK ls lim tab).2.1 ≤ 256 := by
    intro ls
    induction ls with
    | nil => intro lim tab _ h1 h2; exact ⟨h1, h2⟩
    | cons x t ih =>
      intro lim tab hx h1 h2
      simp only [limsK]
      refine ih x (shr tab x) (fun y hy => hx y (by simp [hy])) ?_ (hx x (by simp))
      have := shr_size tab (x : Int) (by omega)
      omega
  obtain ⟨f1, f2⟩ := hfit wait lim tab hw hf hl
  have e : (Pk.mk lim tab wait).pack hs = ((limsK wait lim tab).1 ++ (pairsK hs (limsK wait lim tab).2.2 (limsK wait lim tab).2.1).1, ⟨(limsK wait lim tab).2.1, (pairsK hs (limsK wait lim tab).2.2 (limsK wait lim tab).2.1).2, []⟩) := rfl
  rw [e]
  unfold Up.unpack
  simp only
  rw [rdLims_lims hw (Nat.le_refl _) 2 hw2]
  · simp only
    have h8 : hs.length ≤ 8 := by unfold listB at hlist; simp at hlist; exact hlist.1
    rw [rdPairs_pairs (by simpa using hlist) hoh f1 f2 9 (by omega)]
    simp
  · cases hs with
    | nil => right; left; rfl
    | cons h r =>
      right; right
      have hfew := szT_len (limsK wait lim tab).2.2
      obtain ⟨_, c, q, p2, p3⟩ := rdPair_pair (tab := (limsK wait lim tab).2.2) (lim := (limsK wait lim tab).2.1) (h := h) (r := []) (hoh h (by simp)) (by omega)
      refine ⟨c, q ++ (pairsK r (pairK (limsK wait lim tab).2.2 (limsK wait lim tab).2.1 h).2 (limsK wait lim tab).2.1).1, ?_, p3⟩
      simp only [pairsK]
      rw [p2]
      rfl
end Go.Proofs.YtiphkngfbpdeoaaGreatDoor
namespace Go.Proofs.YtiphkngfbpdeoaaGreatDoor
set_option linter.unusedVariables false
set_option linter.unusedSimpArgs false
open Go.RowKit
def Gone (e : Ending) : Prop := e = .panicked [{ v := .iface 36 (.int .i64 13), recovered := false }]
set_option maxRecDepth 100000 in
set_option maxHeartbeats 800000 in
theorem fbegins_any (f k : Nat) (c : UInt8) (w : World) (hk : k = 4 ∨ k = 5 ∨ k = 6 ∨ k = 7) :
    Calls Tryz.prog 173 #[fm f k, .int .u8 c.toNat] w fun e w' => e = .returned (.bool (decide (c.toNat / 2 ^ k = f / 2 ^ k))) ∧ Below w.heap.size w w' := by
  have hc : c.toNat ≤ 255 := Nat.le_of_lt_succ c.toNat_lt
  generalize c.toNat = x at *
  rcases hk with rfl | rfl | rfl | rfl
  all_goals go_enter Tryz.func173, Tryz.ntmps173
  all_goals go_wp2
  all_goals go_quiet (fail)
  all_goals go_wp2
  all_goals go_ret
  all_goals refine ⟨ret_bool ?_, ⟨rfl, rfl, rfl, by simp, fun k hk => Below.heap_alloc _ _ _ hk⟩⟩
  all_goals first
    | (simp; done)
    | (rw [Bool.eq_iff_iff]; simp; omega)
    | (simp; omega)
def hasF (f k : Nat) : List UInt8 → Bool
  | [] => false
  | c :: _ => decide (c.toNat / 2 ^ k = f / 2 ^ k)
set_option maxRecDepth 100000 in
set_option maxHeartbeats 800000 in
theorem shas_any (sb : Nat) (rv : Value) (l : List UInt8) (f k : Nat) (w : World) (h : SrS w sb rv l) (hk : k = 4 ∨ k = 5 ∨ k = 6 ∨ k = 7) :
    Calls Tryz.prog 145 #[.pointer (some ⟨sb, 0, none⟩), fm f k] w fun e w' => e = .returned (.bool (hasF f k l)) ∧ Below w.heap.size w w' := by
  have hbl : Below w.heap.size w (w.alloc (.cells #[.int .u8 (f : Int), .int .i64 (k : Int)] 221)) := (Below.refl _ _).alloc (Nat.le_refl _) _
  have hs1 := h.below hbl
  have hs2 : SrS (w.alloc (.cells #[.int .u8 (f : Int), .int .i64 (k : Int)] 221)).drew sb rv l := ⟨hs1.blk, hs1.bytes.chg ((Chg.refl (fun _ => False) _).drew) (fun _ _ => id), hs1.ne⟩
  have hae := atEnd_any sb rv l _ hs2
  have c0 := cell_of_one hs1.blk
  have hlt := lt_of_block h.blk
  have HAE := hide hae
  have HBL := hide hbl
  have haq : ∀ n, Calls Tryz.prog 147 #[.pointer (some ⟨sb, 0, none⟩)] ((w.alloc (.cells #[.int .u8 (f : Int), .int .i64 (k : Int)] 221)).drewN n) fun e w' => e = .returned (.bool l.isEmpty) ∧ w' = (w.alloc (.cells #[.int .u8 (f : Int), .int .i64 (k : Int)] 221)).drewN n := fun n => atEnd_any sb rv l _ ⟨hs1.blk, hs1.bytes.chg ((Chg.refl (fun _ => False) _).drewN n) (fun _ _ => id), hs1.ne⟩
  have HAQ := hide haq
  cases l with
  | nil =>
    simp only [List.isEmpty_nil] at HAE HAQ
    clear hs1 hs2 hae h hbl haq
    go_enter Tryz.func145, Tryz.ntmps145
    go_wp2
    go_quiet ((go_at_call 147; refine Calls.quiet_of_same (HAQ.out _)))
    all_goals go_wp2
    all_goals go_ret
    all_goals exact ⟨rfl, HBL.out.os, HBL.out.tape, HBL.out.output, HBL.out.size, HBL.out.block⟩
  | cons c r =>
    simp only [List.isEmpty_cons] at HAE
    rcases hs1.bytes with ⟨_, h0⟩ | ⟨bb, off, cap, hv, h1, h2, h3⟩
    · simp at h0
    · subst hv
      have d0 := h3 0 (by simp)
      simp only [Nat.add_zero, List.getD_cons_zero] at d0
      have HFB := hide (fun wx => fbegins_any f k c wx hk)
      clear hs1 hs2 hae h h3 hbl haq
      go_enter Tryz.func145, Tryz.ntmps145
      go_wp2
      go_region_with (first
        | (go_at_call 147; refine HAE.out.mono ?_; rintro e w1 ⟨rfl, rfl⟩)
        | (go_at_call 173; refine (HFB.out _).mono ?_; rintro e w1 ⟨rfl, hb1⟩; have HB1 := hide hb1; clear hb1))
      all_goals go_wp2
      all_goals go_ret
      all_goals refine ⟨ret_bool ?_, ?_⟩
      all_goals first
        | rfl
        | (have h9 := HB1.out; have h8 : Below w.heap.size w w1 := HBL.out.trans ((Below.mk h9.os h9.tape h9.output h9.size h9.block : Below (w.alloc (.cells #[.int .u8 (f : Int), .int .i64 (k : Int)] 221)).heap.size (w.alloc (.cells #[.int .u8 (f : Int), .int .i64 (k : Int)] 221)) w1).mono HBL.out.size); exact h8)
end Go.Proofs.YtiphkngfbpdeoaaGreatDoor
namespace Go.Proofs.YtiphkngfbpdeoaaGreatDoor
set_option linter.unusedVariables false
set_option linter.unusedSimpArgs false
open Go.RowKit
theorem ofInt_i64 (a : Nat) (ha : a < 4611686018427387904) : (BitVec.ofInt 64 (a : Int)).toNat = a := by
  rw [BitVec.ofInt_natCast, BitVec.toNat_ofNat]; exact Nat.mod_eq_of_lt (by omega)
theorem i64_and_nat (a b : Nat) (ha : a < 4611686018427387904) (hb : b < 4611686018427387904) : bits .and .i64 (a : Int) (b : Int) = ((a &&& b : Nat) : Int) := by
  have hx : a &&& b < 2 ^ 62 := Nat.and_lt_two_pow _ (by omega)
  show IntKind.i64.wrap ((BitVec.ofInt 64 (a : Int) &&& BitVec.ofInt 64 (b : Int)).toNat : Int) = _
  rw [BitVec.toNat_and, ofInt_i64 a ha, ofInt_i64 b hb, IntKind.wrap_i64]
  omega
theorem i64_or_nat (a b : Nat) (ha : a < 4611686018427387904) (hb : b < 4611686018427387904) : bits .or .i64 (a : Int) (b : Int) = ((a ||| b : Nat) : Int) := by
  have hx : a ||| b < 2 ^ 62 := Nat.or_lt_two_pow (by omega) (by omega)
  show IntKind.i64.wrap ((BitVec.ofInt 64 (a : Int) ||| BitVec.ofInt 64 (b : Int)).toNat : Int) = _
  rw [BitVec.toNat_or, ofInt_i64 a ha, ofInt_i64 b hb, IntKind.wrap_i64]
  omega
theorem and_mask (c : UInt8) (k : Nat) (hk : k ≤ 8) : bits .and .i64 (c.toNat : Int) ((2 ^ k - 1 : Nat) : Int) = ((c.toNat % 2 ^ k : Nat) : Int) := by
  have h1 := c.toNat_lt
  have h2 : 2 ^ k ≤ 256 := Nat.le_trans (Nat.pow_le_pow_right (by omega) hk) (by decide)
  rw [i64_and_nat _ _ (by omega) (by omega), Nat.and_two_pow_sub_one_eq_mod]
theorem and127 (c : UInt8) : bits .and .u8 (c.toNat : Int) 127 = ((c.toNat % 128 : Nat) : Int) := by
  have h1 := c.toNat_lt
  have := u8_and_nat c.toNat 127 h1 (by decide)
  rw [show ((127 : Nat) : Int) = 127 from rfl] at this
  rw [this]
  have h2 := Nat.and_two_pow_sub_one_eq_mod c.toNat 7
  rw [show 2 ^ 7 - 1 = 127 from rfl, show 2 ^ 7 = 128 from rfl] at h2
  rw [h2]
def Counted (w w' : World) (sb : Nat) (rv : Value) (q : Option (Nat × List UInt8)) (e : Ending) : Prop :=
  (∃ N r rv', q = some (N, r) ∧ N ≤ 8388608 ∧ e = .returned (.int .i64 (N : Int)) ∧ SrTo w w' sb rv rv' r) ∨ (q = none ∧ Gone e ∧ Chg (fun j => j = sb) w w')
set_option maxRecDepth 100000 in
set_option maxHeartbeats 800000 in
theorem takeCount_any (sb : Nat) (rv : Value) (l : List UInt8) (c : UInt8) (f k : Nat) (w : World) (h : SrS w sb rv l) (hk : k = 4 ∨ k = 5 ∨ k = 6 ∨ k = 7) (hl : l.length ≤ 1099511627776) :
    Calls Tryz.prog 174 #[.pointer (some ⟨sb, 0, none⟩), .int .u8 c.toNat, fm f k] w fun e w' => Counted w w' sb rv (rdCnt k c l) e := by
  have hk8 : k ≤ 8 := by omega
  have hP : 2 ^ k - 1 ≤ 127 ∧ 1 ≤ 2 ^ k - 1 := by rcases hk with rfl | rfl | rfl | rfl <;> decide
  have hand := and_mask c k hk8
  have hrd : rdCnt k c l = if c.toNat % 2 ^ k < 2 ^ k - 1 then some (c.toNat % 2 ^ k, l) else rdMore 3 0 (c.toNat % 2 ^ k) l := rfl
  have hmd : c.toNat % 2 ^ k ≤ 2 ^ k - 1 := by have := Nat.mod_lt c.toNat (Nat.two_pow_pos k); omega
  have HM := hide (fun wx => most_any f k wx hk)
  have hc := Nat.le_of_lt_succ c.toNat_lt
  generalize c.toNat % 2 ^ k = M at hand hrd hmd
  generalize 2 ^ k - 1 = P at HM hP hand hrd hmd
  generalize c.toNat = x at hand hc
  have hbl : Below w.heap.size w (w.alloc (.cells #[.int .u8 (f : Int), .int .i64 (k : Int)] 221)) := (Below.refl _ _).alloc (Nat.le_refl _) _
  have hfr := heap_alloc_new w (.cells #[.int .u8 (f : Int), .int .i64 (k : Int)] 221)
  have H := hide h
  have HBL := hide hbl
  have HFR := hide hfr
  have HRD := hide hrd
  clear h hbl hfr hrd hk
  go_enter Tryz.func174, Tryz.ntmps174
  go_wp2_with fail
  refine (HM.out _).mono ?_
  rintro e w1 ⟨rfl, hb1⟩
  have hB1 : Below w.heap.size w w1 := HBL.out.trans (hb1.mono HBL.out.size)
  have hf1 : w1.heap[w.heap.size]? = some (.cells #[.int .u8 (f : Int), .int .i64 (k : Int)] 221 (0, 0)) := by rw [hb1.block _ (lt_of_block HFR.out)]; exact HFR.out
  have q0 : w1.cell? ⟨w.heap.size, 0, none⟩ = some (.int .u8 (f : Int)) := by rw [cell_of_row _ _ _ _ _ _ hf1]; rfl
  have q1 : w1.cell? ⟨w.heap.size, 1, none⟩ = some (.int .i64 (k : Int)) := by rw [cell_of_row _ _ _ _ _ _ hf1]; rfl
  have HB1 := hide hB1
  clear hb1 hB1 hf1
  go_wp2_with fail
  refine (HM.out _).mono ?_
  rintro e w2 ⟨rfl, hb2⟩
  have hB2 : Below w.heap.size w w2 := HB1.out.trans (hb2.mono HB1.out.size)
  have HB2 := hide hB2
  clear hb2 hB2 q0 q1
  by_cases hlt : M < P
  · have hr := HRD.out
    rw [if_pos hlt] at hr
    have HR := hide hr
    clear hr
    go_wp2
    go_ret
    rw [HR.out]
    exact Or.inl ⟨M, l, rv, rfl, by omega, rfl, SrTo.before HB2.out ⟨H.out.below HB2.out, Chg.refl _ _, fun j hj => hj⟩⟩
  · have hr := HRD.out
    rw [if_neg hlt] at hr
    have HR := hide hr
    clear hr
    have hst : SrTo w w2 sb rv rv l := SrTo.before HB2.out ⟨H.out.below HB2.out, Chg.refl _ _, fun j hj => hj⟩
    have HST := hide hst
    clear hst
    go_wp2
    go_loopw [7, 20] (fun nv i wr => ∃ (j n : Nat) (l' : List UInt8) (rv' : Value), i = .int .i64 (j : Int) ∧ nv = .int .i64 (n : Int) ∧ j ≤ 3 ∧ n ≤ 254 * 128 ^ j ∧ l'.length ≤ l.length ∧ rdCnt k c l = rdMore (3 - j) j n l' ∧ SrTo w wr sb rv rv' l') (fun _ i _ => 3 - (intOf i).toNat)
    case atStart => exact ⟨0, M, l, rv, rfl, rfl, by omega, by omega, Nat.le_refl _, HR.out, HST.out⟩
    case round =>
      obtain ⟨j, n, l', rv', rfl, rfl, hj, hn, hll, heq, hsr⟩ := hrel
      by_cases hj3 : j = 3
      · subst hj3
        have HEQ := hide heq
        have HSR := hide hsr
        clear heq hsr
        go_wp2
        refine ⟨rfl, Or.inr ⟨by rw [HEQ.out]; rfl, rfl, HSR.out.chg⟩⟩
      · cases l' with
        | nil =>
          have hbad := stake_bad sb rv' wr hsr.st
          have HEQ : Hid (rdCnt k c l = none) := by
            show _ = _
            rw [heq]
            obtain ⟨g, hg⟩ : ∃ g, 3 - j = g + 1 := ⟨2 - j, by omega⟩
            rw [hg]
            rfl
          have HBAD := hide hbad
          have HSR := hide hsr
          clear heq hsr hbad
          go_wp2_with fail
          refine HBAD.out.mono ?_
          rintro e w3 ⟨rfl, hw3⟩
          rw [hw3]
          exact ⟨rfl, Or.inr ⟨HEQ.out, rfl, HSR.out.chg⟩⟩
        | cons y r =>
          have hok := stake_ok sb rv' y r wr hsr.st (by omega)
          have heq2 : rdCnt k c l = if y.toNat = 0 ∧ 0 < j then none else if y.toNat < 128 then some (n + y.toNat % 128 * 2 ^ (7 * j), r) else rdMore (2 - j) (j + 1) (n + y.toNat % 128 * 2 ^ (7 * j)) r := by
            rw [heq]
            obtain ⟨g, hg⟩ : ∃ g, 3 - j = g + 1 := ⟨2 - j, by omega⟩
            have hg2 : 2 - j = g := by omega
            rw [hg, hg2]
            rfl
          have ha := and127 y
          have hy := Nat.le_of_lt_succ y.toNat_lt
          have hmod : y.toNat % 128 ≤ 127 := by omega
          have hlr : r.length ≤ l.length := by simp at hll; omega
          have hz0 : (y.toNat = 0) = (y.toNat = 0) := rfl
          generalize y.toNat = Y at hok heq2 ha hy hmod
          have HOK := hide hok
          have HEQ := hide heq2
          have HSR := hide hsr
          clear heq hsr hok heq2 hz0
          have hj012 : j = 0 ∨ j = 1 ∨ j = 2 := by omega
          generalize hYM : Y % 128 = YM at ha hmod HEQ
          have HYM := hide hYM
          clear hYM
          rcases hj012 with rfl | rfl | rfl
          · go_wp2_with fail
            refine HOK.out.mono ?_
            rintro e w3 ⟨rv3, rfl, hs3⟩
            have HS3 := hide (HSR.out.trans hs3)
            clear hs3
            have heq := HEQ.out
            clear HEQ
            rcases Nat.eq_zero_or_pos Y with hy0 | hy0
            · rw [if_neg (by omega), if_pos (by omega)] at heq
              have HE := hide heq
              clear heq
              subst hy0
              have hym0 : YM = 0 := by have := HYM.out; omega
              subst hym0
              have ha0 : bits .and .u8 0 127 = 0 := by decide
              clear ha
              go_wp2
              go_ret
              rw [HE.out]
              exact Or.inl ⟨_, _, rv3, rfl, by omega, by (first | rfl | (congr 2; simp; done) | (congr 2; simp; omega) | (congr 2; omega) | go_num), HS3.out⟩
            · by_cases hy1 : Y < 128
              · rw [if_neg (by omega), if_pos hy1] at heq
                have HE := hide heq
                clear heq
                go_wp2
                go_ret
                rw [HE.out]
                exact Or.inl ⟨_, _, rv3, rfl, by omega, by (first | rfl | (congr 2; simp; done) | (congr 2; simp; omega) | (congr 2; omega) | go_num), HS3.out⟩
              · rw [if_neg (by omega), if_neg hy1] at heq
                have HE := hide heq
                clear heq
                go_wp2
                go_roundw
                case rel => exact ⟨1, _, r, rv3, by go_num, by (first | rfl | (congr 1; simp; done) | (congr 1; simp; omega) | (congr 1; omega) | go_num), by omega, by omega, hlr, HE.out, HS3.out⟩
                case measure => simp [intOf]
          · go_wp2_with fail
            refine HOK.out.mono ?_
            rintro e w3 ⟨rv3, rfl, hs3⟩
            have HS3 := hide (HSR.out.trans hs3)
            clear hs3
            have heq := HEQ.out
            clear HEQ
            rcases Nat.eq_zero_or_pos Y with hy0 | hy0
            · rw [if_pos (by omega)] at heq
              have HE := hide heq
              clear heq
              subst hy0
              go_wp2
              exact ⟨rfl, Or.inr ⟨HE.out, rfl, HS3.out.chg⟩⟩
            · by_cases hy1 : Y < 128
              · rw [if_neg (by omega), if_pos hy1] at heq
                have HE := hide heq
                clear heq
                go_wp2
                go_ret
                rw [HE.out]
                exact Or.inl ⟨_, _, rv3, rfl, by omega, by (first | rfl | (congr 2; simp; done) | (congr 2; simp; omega) | (congr 2; omega) | go_num), HS3.out⟩
              · rw [if_neg (by omega), if_neg hy1] at heq
                have HE := hide heq
                clear heq
                go_wp2
                go_roundw
                case rel => exact ⟨2, _, r, rv3, by go_num, by (first | rfl | (congr 1; simp; done) | (congr 1; simp; omega) | (congr 1; omega) | go_num), by omega, by omega, hlr, HE.out, HS3.out⟩
                case measure => simp [intOf]
          · go_wp2_with fail
            refine HOK.out.mono ?_
            rintro e w3 ⟨rv3, rfl, hs3⟩
            have HS3 := hide (HSR.out.trans hs3)
            clear hs3
            have heq := HEQ.out
            clear HEQ
            rcases Nat.eq_zero_or_pos Y with hy0 | hy0
            · rw [if_pos (by omega)] at heq
              have HE := hide heq
              clear heq
              subst hy0
              go_wp2
              exact ⟨rfl, Or.inr ⟨HE.out, rfl, HS3.out.chg⟩⟩
            · by_cases hy1 : Y < 128
              · rw [if_neg (by omega), if_pos hy1] at heq
                have HE := hide heq
                clear heq
                go_wp2
                go_ret
                rw [HE.out]
                exact Or.inl ⟨_, _, rv3, rfl, by omega, by (first | rfl | (congr 2; simp; done) | (congr 2; simp; omega) | (congr 2; omega) | go_num), HS3.out⟩
              · rw [if_neg (by omega), if_neg hy1] at heq
                have HE := hide heq
                clear heq
                go_wp2
                go_roundw
                case rel => exact ⟨3, _, r, rv3, by go_num, by (first | rfl | (congr 1; simp; done) | (congr 1; simp; omega) | (congr 1; omega) | go_num), by omega, by omega, hlr, HE.out, HS3.out⟩
                case measure => simp [intOf]
end Go.Proofs.YtiphkngfbpdeoaaGreatDoor
namespace Go.Proofs.YtiphkngfbpdeoaaGreatDoor
set_option linter.unusedVariables false
set_option linter.unusedSimpArgs false
open Go.RowKit
structure BrS (w : World) (rb : Nat) (av : Value) (b : List UInt8) (at_ : Nat) : Prop where
  blk : w.heap[rb]? = some (.cells #[av, .int .i64 (at_ : Int)] 276 (0, 0))
  bytes : BytesIn w av b
  ne : av.ownBlock ≠ some rb
  le : at_ ≤ 8 * b.length
theorem BrS.cells {w : World} {rb : Nat} {av : Value} {b : List UInt8} {at_ : Nat} (h : BrS w rb av b at_) : w.cell? ⟨rb, 0, none⟩ = some av ∧ w.cell? ⟨rb, 1, none⟩ = some (.int .i64 (at_ : Int)) := by
  refine ⟨?_, ?_⟩ <;> rw [cell_of_row w rb _ _ _ _ h.blk] <;> rfl
theorem BrS.free {w : World} {rb : Nat} {av : Value} {b : List UInt8} {at_ : Nat} (h : BrS w rb av b at_) (o : Nat) : w.frozen? ⟨rb, o, none⟩ = false := by
  have := h.blk
  simp [World.frozen?, this]
theorem BrS.chg {S : Nat → Prop} {w w' : World} {rb : Nat} {av : Value} {b : List UInt8} {at_ : Nat} (h : BrS w rb av b at_) (hc : Chg S w w') (h1 : ¬ S rb) (h2 : ∀ j, av.ownBlock = some j → ¬ S j) : BrS w' rb av b at_ :=
  ⟨by rw [hc.block rb (lt_of_block h.blk) h1]; exact h.blk, h.bytes.chg hc h2, h.ne, h.le⟩
theorem BrS.drewN {w : World} {rb : Nat} {av : Value} {b : List UInt8} {at_ : Nat} (h : BrS w rb av b at_) (n : Nat) : BrS (w.drewN n) rb av b at_ := h.chg ((Chg.refl (fun _ => False) _).drewN n) id (fun _ _ => id)
theorem BrS.set1 {w : World} {rb : Nat} {av : Value} {b : List UInt8} {at_ : Nat} (h : BrS w rb av b at_) (x : Nat) (hx : x ≤ 8 * b.length) : BrS (w.setCell ⟨rb, 1, none⟩ (.int .i64 (x : Int))) rb av b x :=
  ⟨block_setCell h.blk, h.bytes.chg ((Chg.refl (fun j => j = rb) w).setCell (p := ⟨rb, 1, none⟩) (Or.inr rfl) _) (fun j hj e => h.ne (e ▸ hj)), h.ne, hx⟩
theorem bit_at (c p : Nat) (hp : p < 8) : (natBits 8 c)[p]? = some (c / 2 ^ (7 - p) % 2 == 1) := by
  have h : natBits 8 c = [c / 2 ^ 7 % 2 == 1, c / 2 ^ 6 % 2 == 1, c / 2 ^ 5 % 2 == 1, c / 2 ^ 4 % 2 == 1, c / 2 ^ 3 % 2 == 1, c / 2 ^ 2 % 2 == 1, c / 2 ^ 1 % 2 == 1, c / 2 ^ 0 % 2 == 1] := by
    rw [natBits_high, natBits_high, natBits_high, natBits_high, natBits_high, natBits_high, natBits_high, natBits_high]
    rfl
  rw [h]
  have : p = 0 ∨ p = 1 ∨ p = 2 ∨ p = 3 ∨ p = 4 ∨ p = 5 ∨ p = 6 ∨ p = 7 := by omega
  rcases this with rfl | rfl | rfl | rfl | rfl | rfl | rfl | rfl <;> rfl
theorem bitsB_get {b : List UInt8} {p : Nat} (hp : p < 8 * b.length) : (bitsB b)[p]? = some ((b.getD (p / 8) 0).toNat / 2 ^ (7 - p % 8) % 2 == 1) := by
  induction b generalizing p with
  | nil => simp at hp
  | cons c r ih =>
    have e : bitsB (c :: r) = natBits 8 c.toNat ++ bitsB r := by simp [bitsB]
    rw [e]
    by_cases h8 : p < 8
    · rw [List.getElem?_append_left (by rw [natBits_length]; exact h8), bit_at _ _ h8]
      have h1 : p / 8 = 0 := by omega
      have h2 : p % 8 = p := by omega
      rw [h1, h2]
      rfl
    · rw [List.getElem?_append_right (by rw [natBits_length]; omega), natBits_length, ih (by simp at hp; omega)]
      have h1 : (p - 8) / 8 = p / 8 - 1 := by omega
      have h2 : (p - 8) % 8 = p % 8 := by omega
      obtain ⟨q, hq⟩ : ∃ q, p / 8 = q + 1 := ⟨p / 8 - 1, by omega⟩
      rw [h1, h2, hq]
      rfl
theorem take_bit {b : List UInt8} {at_ j : Nat} (hp : at_ + j < 8 * b.length) : valB (((bitsB b).drop at_).take (j + 1)) = 2 * valB (((bitsB b).drop at_).take j) + (b.getD ((at_ + j) / 8) 0).toNat / 2 ^ (7 - (at_ + j) % 8) % 2 := by
  have hl : j < ((bitsB b).drop at_).length := by rw [List.length_drop, bitsB_length]; omega
  rw [List.take_succ_eq_append_getElem hl, valB_next]
  have h1 := bitsB_get hp
  rw [List.getElem?_eq_getElem (by rw [bitsB_length]; exact hp)] at h1
  simp only [Option.some.injEq] at h1
  rw [List.getElem_drop, h1]
  congr 1
  generalize (b.getD ((at_ + j) / 8) 0).toNat / 2 ^ (7 - (at_ + j) % 8) = y
  rcases Nat.mod_two_eq_zero_or_one y with h | h <;> simp [h]
set_option maxRecDepth 100000 in
set_option maxHeartbeats 800000 in
theorem bleft_any (rb : Nat) (av : Value) (b : List UInt8) (at_ : Nat) (w : World) (h : BrS w rb av b at_) (hl : b.length ≤ 1099511627776) :
    Calls Tryz.prog 210 #[.pointer (some ⟨rb, 0, none⟩)] w fun e w' => e = .returned (.int .i64 ((8 * b.length - at_ : Nat) : Int)) ∧ ∃ k, w' = w.drewN k := by
  obtain ⟨c0, c1⟩ := h.cells
  obtain ⟨sv, cv, hv, _⟩ := bytesIn_len h.bytes
  subst hv
  have hle := h.le
  clear h
  go_enter Tryz.func210, Tryz.ntmps210
  go_wp2
  go_quiet (fail)
  go_wp2
  go_ret
  exact ⟨by go_num, _, rfl⟩
theorem or_bit (v t : Nat) (hv : v ≤ 1048576) (ht : t ≤ 1) : bits .or .i64 ((v : Int) * 2) (t : Int) = ((2 * v + t : Nat) : Int) := by
  have h1 := i64_or_nat (2 * v) t (by omega) (by omega)
  have h2 : 2 * v ||| t = 2 * v + t := by
    have := Nat.shiftLeft_add_eq_or_of_lt (a := v) (b := t) (i := 1) (by omega)
    rw [Nat.shiftLeft_eq] at this
    have e : v * 2 ^ 1 = 2 * v := by omega
    rw [e] at this
    exact this.symm
  rw [h2] at h1
  rw [← h1]
  congr 1
  omega
theorem and_one (y : Nat) (hy : y < 256) : bits .and .u8 (y : Int) 1 = ((y % 2 : Nat) : Int) := by
  have h1 := u8_and_nat y 1 hy (by decide)
  rw [Nat.and_one_is_mod] at h1
  exact h1
set_option maxRecDepth 100000 in
set_option maxHeartbeats 800000 in
theorem btake_ok (rb : Nat) (av : Value) (b : List UInt8) (at_ n : Nat) (w : World) (h : BrS w rb av b at_) (hl : b.length ≤ 1099511627776) (hn : at_ + n ≤ 8 * b.length) (hn8 : n ≤ 8) :
    Calls Tryz.prog 211 #[.pointer (some ⟨rb, 0, none⟩), .int .i64 n] w fun e w' => e = .returned (.int .i64 (valB (((bitsB b).drop at_).take n) : Int)) ∧ BrS w' rb av b (at_ + n) ∧ Chg (fun j => j = rb) w w' := by
  have hle := h.le
  have HL := hide (bleft_any rb av b at_ w h hl)
  have H := hide h
  clear h
  go_enter Tryz.func211, Tryz.ntmps211
  go_wp2_with fail
  refine HL.out.mono ?_
  rintro e w1 ⟨rfl, k1, hw1⟩
  have h1 : BrS w1 rb av b at_ := by rw [hw1]; exact H.out.drewN k1
  have hc1 : Chg (fun j => j = rb) w w1 := by rw [hw1]; exact (Chg.refl _ _).drewN k1
  have H1 := hide h1
  have HC1 := hide hc1
  clear hw1 h1 hc1
  go_wp2
  go_loopw [5, 13] (fun v i wr => ∃ j : Nat, i = .int .i64 (j : Int) ∧ v = .int .i64 (valB (((bitsB b).drop at_).take j) : Int) ∧ j ≤ n ∧ BrS wr rb av b (at_ + j) ∧ Chg (fun j => j = rb) w wr) (fun _ i _ => n - (intOf i).toNat)
  case atStart => exact ⟨0, rfl, rfl, Nat.zero_le _, H1.out, HC1.out⟩
  case round =>
    obtain ⟨j, rfl, rfl, hj, hb, hch⟩ := hrel
    by_cases hlt : j < n
    · obtain ⟨c0, c1⟩ := hb.cells
      have f1 := hb.free 1
      have htb := take_bit (b := b) (at_ := at_) (j := j) (by omega)
      have hvl := valB_lt (((bitsB b).drop at_).take j)
      have hvb : valB (((bitsB b).drop at_).take j) ≤ 256 := by
        have h9 : (((bitsB b).drop at_).take j).length ≤ 8 := by rw [List.length_take]; omega
        have h8 := Nat.pow_le_pow_right (show 2 > 0 by decide) h9
        omega
      rcases hb.bytes with ⟨_, h0⟩ | ⟨bb, off, cap, hv, g1, g2, g3⟩
      · rw [h0] at hn; simp at hn; omega
      · subst hv
        have d0 := g3 ((at_ + j) / 8) (by omega)
        generalize valB (((bitsB b).drop at_).take j) = V at hvb htb ⊢
        have hy := (b.getD ((at_ + j) / 8) 0).toNat_lt
        generalize (b.getD ((at_ + j) / 8) 0).toNat = Y at d0 htb hy
        have hyd : Y / 2 ^ (7 - (at_ + j) % 8) < 256 := Nat.lt_of_le_of_lt (Nat.div_le_self _ _) hy
        have hab : bits .and .u8 ((Y : Int) / 2 ^ (7 - (at_ + j) % 8)) 1 = ((Y / 2 ^ (7 - (at_ + j) % 8) % 2 : Nat) : Int) := by
          rw [← and_one _ hyd, Int.natCast_ediv, Int.natCast_pow]
          rfl
        have ht1 : Y / 2 ^ (7 - (at_ + j) % 8) % 2 ≤ 1 := by omega
        generalize Y / 2 ^ (7 - (at_ + j) % 8) % 2 = T at hab ht1 htb
        have hob := or_bit V T (by omega) ht1
        have HAB := hide hab
        have HTB := hide htb
        clear hab
        have HB := hide hb
        have HCH := hide hch
        clear hb hch htb g3 hvl
        go_wp2
        go_quiet (fail)
        rw [HAB.out]
        go_wp2
        go_roundw
        case rel =>
          have e9 : ((at_ + j : Nat) : Int) + 1 = ((at_ + (j + 1) : Nat) : Int) := by omega
          refine ⟨j + 1, by go_num, by rw [HTB.out]; go_num, by omega, ?_, ?_⟩
          · have h9 := (HB.out.drewN nq).set1 (at_ + (j + 1)) (by omega)
            simpa [← Int.add_assoc] using h9
          · exact (HCH.out.drewN nq).setCell (p := ⟨rb, 1, none⟩) (Or.inr rfl) _
        case measure => simp [intOf]; omega
    · have hje : j = n := by omega
      subst hje
      have HB := hide hb
      have HCH := hide hch
      clear hb hch
      go_wp2
      go_ret
      exact ⟨rfl, HB.out, HCH.out⟩
set_option maxRecDepth 100000 in
set_option maxHeartbeats 800000 in
theorem btake_bad (rb : Nat) (av : Value) (b : List UInt8) (at_ n : Nat) (w : World) (h : BrS w rb av b at_) (hl : b.length ≤ 1099511627776) (hn : 8 * b.length < at_ + n) (hn8 : n ≤ 8) :
    Calls Tryz.prog 211 #[.pointer (some ⟨rb, 0, none⟩), .int .i64 n] w fun e w' => Gone e ∧ ∃ k, w' = w.drewN k := by
  have hle := h.le
  have HL := hide (bleft_any rb av b at_ w h hl)
  clear h
  go_enter Tryz.func211, Tryz.ntmps211
  go_wp2_with fail
  refine HL.out.mono ?_
  rintro e w1 ⟨rfl, k1, hw1⟩
  have HW := hide hw1
  clear hw1
  go_wp2
  exact ⟨rfl, rfl, k1, HW.out⟩
end Go.Proofs.YtiphkngfbpdeoaaGreatDoor
