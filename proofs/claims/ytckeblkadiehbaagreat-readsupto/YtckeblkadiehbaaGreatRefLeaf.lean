/-
  sluiceref: flag, number, bytesOf, streamRight, lengthRight.
-/
import Derived.Test.YtckeblkadiehbaaGreatLawLent
namespace Go.Proofs.YtckeblkadiehbaaGreat
open Go.RowKit

set_option maxRecDepth 100000 in
set_option maxHeartbeats 400000 in
theorem rflag_any (k f s b : Int) (sa : Option Addr) (n cap : Nat) (w : World) (h0 : 0 ≤ f) (h1 : f < 256) (hb : b = 1 ∨ b = 8) :
    Calls Tryz.prog 159 #[.agg #[.int .i64 k, .int .i64 f, .int .i64 s, .slice sa n cap], .int .i64 b] w fun e w' => e = .returned (.bool (hasB f b)) ∧ Below w.heap.size w w' := by
  rcases hb with rfl | rfl
  all_goals go_enter Tryz.func159, Tryz.ntmps159
  all_goals go_wp2
  all_goals go_ret
  all_goals refine ⟨ret_bool ?_, (Below.refl _ _).alloc (Nat.le_refl _) _⟩
  all_goals simp only [hasB, Int.ediv_one]
  all_goals (rw [Bool.eq_iff_iff]; simp)

/-- The number that bytes are. -/
def nOf (l : List UInt8) : Nat := l.foldl (fun v b => 256 * v + b.toNat) 0
theorem nOf_next (l : List UInt8) (b : UInt8) : nOf (l ++ [b]) = 256 * nOf l + b.toNat := by simp [nOf]
theorem fold_lt (l : List UInt8) (v : Nat) : l.foldl (fun v b => 256 * v + b.toNat) v < (v + 1) * 256 ^ l.length := by
  induction l generalizing v with
  | nil => simp
  | cons b r ih =>
    have hb : b.toNat < 256 := b.toNat_lt
    have h := ih (256 * v + b.toNat)
    have h2 : (256 * v + b.toNat + 1) * 256 ^ r.length ≤ ((v + 1) * 256) * 256 ^ r.length := Nat.mul_le_mul_right _ (by omega)
    simp only [List.foldl_cons, List.length_cons, Nat.pow_succ]
    rw [Nat.mul_comm (256 ^ r.length) 256, ← Nat.mul_assoc]
    omega
theorem nOf_lt (l : List UInt8) : nOf l < 256 ^ l.length := by
  have := fold_lt l 0
  rw [Nat.zero_add, Nat.one_mul] at this
  exact this

theorem BytesA.cell {w : World} {sa : Option Addr} {n cap : Nat} {l : List UInt8} (h : BytesA w (.slice sa n cap) l) {i : Nat} (hi : i < l.length) :
    ∃ bb off, sa = some ⟨bb, off, none⟩ ∧ bb < w.heap.size ∧ n ≤ cap ∧ w.cell? ⟨bb, off + i, none⟩ = some (.int .u8 (l.getD i 0).toNat) := by
  rcases h with (⟨h0, rfl⟩ | ⟨bb, off, cap', he, h1, h2, h3⟩) | ⟨ad, he, rfl⟩
  · simp at hi
  · simp only [Value.slice.injEq] at he
    obtain ⟨rfl, rfl, rfl⟩ := he
    exact ⟨bb, off, rfl, h1, h2, h3 i hi⟩
  · simp at hi

theorem part_next {l : List UInt8} {at_ k : Nat} (h : at_ + k < l.length) : (l.drop at_).take (k + 1) = (l.drop at_).take k ++ [l.getD (at_ + k) 0] := by
  rw [List.take_succ_eq_append_getElem (by simp; omega), getD_lt _ _ _ h]
  simp

set_option maxRecDepth 100000 in
set_option maxHeartbeats 1600000 in
theorem number_any (sa : Option Addr) (cap : Nat) (l : List UInt8) (at_ n : Nat) (w : World) (h : BytesA w (.slice sa l.length cap) l) (hn : at_ + n ≤ l.length) (h4 : n ≤ 4) (hl : l.length ≤ 4294967296) :
    Calls Tryz.prog 121 #[.slice sa l.length cap, .int .i64 at_, .int .i64 n] w fun e w' => e = .returned (.int .i64 (nOf ((l.drop at_).take n))) ∧ w' = w := by
  have H := hide h
  clear h
  go_enter Tryz.func121, Tryz.ntmps121
  go_wp2
  go_loop [7, 8] (fun v i => ∃ k : Nat, k ≤ n ∧ i = .int .i64 k ∧ v = .int .i64 (nOf ((l.drop at_).take k))) (fun _ i => n - (intOf i).toNat)
  case atStart => exact ⟨0, Nat.zero_le _, rfl, by simp [nOf]⟩
  case round =>
    obtain ⟨k, hk, rfl, rfl⟩ := hrel
    by_cases hlt : k < n
    · obtain ⟨bb, off, hsa, hbb, hcp, hc⟩ := H.out.cell (i := at_ + k) (by omega)
      subst hsa
      have hnx := part_next (l := l) (at_ := at_) (k := k) (by omega)
      have hb := nOf_lt ((l.drop at_).take k)
      have hle : ((l.drop at_).take k).length ≤ 3 := by simp; omega
      have hb2 : nOf ((l.drop at_).take k) ≤ 16777215 := by
        have : 256 ^ ((l.drop at_).take k).length ≤ 256 ^ 3 := Nat.pow_le_pow_right (by omega) hle
        omega
      obtain ⟨x, hx⟩ : ∃ x, x = l.getD (at_ + k) 0 := ⟨_, rfl⟩
      rw [← hx] at hc hnx
      have hx8 : x.toNat < 256 := x.toNat_lt
      have hq := nOf_next ((l.drop at_).take k) x
      rw [← hnx] at hq
      obtain ⟨q, hqq⟩ : ∃ q, q = nOf ((l.drop at_).take k) := ⟨_, rfl⟩
      rw [← hqq] at hb2 hq
      rw [← hqq]
      have HQ := hide hq
      clear hb hle hnx hx hq hqq H
      go_wp2
      go_round
      case rel => exact ⟨k + 1, by omega, by go_num, by rw [HQ.out]; go_num⟩
      case measure => simp [intOf]; omega
    · have hkn : k = n := by omega
      subst hkn
      go_wp2
      go_ret
      exact ⟨rfl, rfl⟩

/-- May a frame of this kind have this stream? -/
def stR (k s : Int) : Bool := decide (0 ≤ s) && decide (s ≤ 32767) && sFits k s
def leR (n k f : Int) : Bool := decide (n ≤ 64) && lFits n k f

set_option maxRecDepth 100000 in
set_option maxHeartbeats 1600000 in
theorem streamRight_more (s : Int) (w : World) (h0 : 0 ≤ s) (h1 : s ≤ 32767) (k : Int) (hk : k = 0 ∨ k = 1 ∨ k = 2 ∨ k = 7) : Calls Tryz.prog 114 #[.int .i64 k, .int .i64 s] w fun e w' => e = .returned (.bool (sFits k s)) ∧ w' = w := by
  have e : sFits k s = decide (0 < s) := by
    unfold sFits
    rw [if_pos hk]
    by_cases h : s = 0
    · simp [h]
    · have : 0 < s := by omega
      simp [h, this]
  rw [e]
  clear e
  rcases hk with rfl | rfl | rfl | rfl
  all_goals go_enter Tryz.func114, Tryz.ntmps114
  all_goals go_wp2
  all_goals go_ret
  all_goals exact ⟨rfl, rfl⟩

set_option maxRecDepth 100000 in
set_option maxHeartbeats 1600000 in
theorem streamRight_none (s : Int) (w : World) (h0 : 0 ≤ s) (h1 : s ≤ 32767) (k : Int) (hk : k = 3 ∨ k = 4 ∨ k = 5) : Calls Tryz.prog 114 #[.int .i64 k, .int .i64 s] w fun e w' => e = .returned (.bool (sFits k s)) ∧ w' = w := by
  have e : sFits k s = (s == 0) := by
    unfold sFits
    rw [if_neg (by omega), if_pos hk]
  rw [e]
  clear e
  rcases hk with rfl | rfl | rfl
  all_goals go_enter Tryz.func114, Tryz.ntmps114
  all_goals go_wp2
  all_goals go_ret
  all_goals exact ⟨rfl, rfl⟩

set_option maxRecDepth 100000 in
set_option maxHeartbeats 1600000 in
theorem streamRight_any (k s : Int) (w : World) (hk : 0 ≤ k) : Calls Tryz.prog 114 #[.int .i64 k, .int .i64 s] w fun e w' => e = .returned (.bool (stR k s)) ∧ w' = w := by
  by_cases hs : s < 0 ∨ 32767 < s
  · have hf : stR k s = false := by
      simp only [stR, Bool.and_eq_false_iff, decide_eq_false_iff_not]
      rcases hs with h | h
      · exact Or.inl (Or.inl (by omega))
      · exact Or.inl (Or.inr (by omega))
    rw [hf]
    clear hf
    go_enter Tryz.func114, Tryz.ntmps114
    go_wp2
    all_goals first | (go_ret; exact ⟨rfl, rfl⟩) | (exfalso; omega)
  · have h0 : 0 ≤ s := by omega
    have h1 : s ≤ 32767 := by omega
    have e : stR k s = sFits k s := by simp [stR, h0, h1]
    rw [e]
    clear e hs
    have hk' : k = 0 ∨ k = 1 ∨ k = 2 ∨ k = 7 ∨ k = 3 ∨ k = 4 ∨ k = 5 ∨ k = 6 ∨ 7 < k := by omega
    rcases hk' with rfl | rfl | rfl | rfl | rfl | rfl | rfl | rfl | h7
    · exact streamRight_more s w h0 h1 0 (by simp)
    · exact streamRight_more s w h0 h1 1 (by simp)
    · exact streamRight_more s w h0 h1 2 (by simp)
    · exact streamRight_more s w h0 h1 7 (by simp)
    · exact streamRight_none s w h0 h1 3 (by simp)
    · exact streamRight_none s w h0 h1 4 (by simp)
    · exact streamRight_none s w h0 h1 5 (by simp)
    · go_enter Tryz.func114, Tryz.ntmps114
      go_wp2
      all_goals go_ret
      all_goals exact ⟨rfl, rfl⟩
    · have e : sFits k s = true := by unfold sFits; rw [if_neg (by omega), if_neg (by omega)]
      rw [e]
      have b3 : (k == 3) = false := by simp; omega
      have b4 : (k == 4) = false := by simp; omega
      have b5 : (k == 5) = false := by simp; omega
      have b6 : (k == 6) = false := by simp; omega
      clear e
      go_enter Tryz.func114, Tryz.ntmps114
      go_wp2
      all_goals go_ret
      all_goals exact ⟨rfl, rfl⟩

set_option maxRecDepth 100000 in
set_option maxHeartbeats 1600000 in
theorem lengthRight_any (k f s : Int) (m : Int) (sa : Option Addr) (n cap : Nat) (w : World) (h0 : 0 ≤ f) (h1 : f < 256) :
    Calls Tryz.prog 115 #[.agg #[.int .i64 k, .int .i64 f, .int .i64 s, .slice sa n cap], .int .i64 m] w fun e w' => e = .returned (.bool (leR m k f)) ∧ Below w.heap.size w w' := by
  have hk : k = 2 ∨ k = 5 ∨ k = 3 ∨ k = 4 ∨ k = 6 ∨ ((k == 2) = false ∧ (k == 5) = false ∧ (k == 3) = false ∧ (k == 4) = false ∧ (k == 6) = false) := by
    simp only [beq_eq_false_iff_ne]
    omega
  rcases hk with rfl | rfl | rfl | rfl | rfl | ⟨b2, b5, b3, b4, b6⟩
  rotate_left 2
  · cases hh : hasB f 1 with
    | true =>
      have e : leR m 3 f = (decide (m ≤ 64) && (m == 0)) := by simp [leR, lFits, hh]
      rw [e]
      clear e
      go_enter Tryz.func115, Tryz.ntmps115
      go_wp2_with (go_at_call 159; refine (rflag_any 3 f s 1 sa n cap _ h0 h1 (Or.inl rfl)).mono ?_; rintro e w1 ⟨rfl, hb1⟩; rw [hh])
      all_goals go_ret
      all_goals refine ⟨ret_bool ?_, ((Below.refl _ _).alloc (Nat.le_refl _) _).trans (hb1.mono (by simp))⟩
      all_goals simp [*]
      all_goals omega
    | false =>
      have e : leR m 3 f = (decide (m ≤ 64) && (m == 4)) := by simp [leR, lFits, hh]
      rw [e]
      clear e
      go_enter Tryz.func115, Tryz.ntmps115
      go_wp2_with (go_at_call 159; refine (rflag_any 3 f s 1 sa n cap _ h0 h1 (Or.inl rfl)).mono ?_; rintro e w1 ⟨rfl, hb1⟩; rw [hh])
      all_goals go_ret
      all_goals refine ⟨ret_bool ?_, ((Below.refl _ _).alloc (Nat.le_refl _) _).trans (hb1.mono (by simp))⟩
      all_goals simp [*]
      all_goals omega
  · go_enter Tryz.func115, Tryz.ntmps115
    go_wp2
    all_goals go_ret
    all_goals refine ⟨ret_bool ?_, (Below.refl _ _).alloc (Nat.le_refl _) _⟩
    all_goals simp [leR, lFits, *]
    all_goals omega
  · go_enter Tryz.func115, Tryz.ntmps115
    go_wp2
    all_goals go_ret
    all_goals refine ⟨ret_bool ?_, (Below.refl _ _).alloc (Nat.le_refl _) _⟩
    all_goals simp [leR, lFits, *]
    all_goals omega
  · have e : leR m k f = decide (m ≤ 64) := by
      simp only [beq_eq_false_iff_ne] at b2 b3 b4 b5 b6
      simp [leR, lFits, b2, b3, b4, b5, b6]
    rw [e]
    clear e
    go_enter Tryz.func115, Tryz.ntmps115
    go_wp2
    all_goals go_ret
    all_goals refine ⟨ret_bool ?_, (Below.refl _ _).alloc (Nat.le_refl _) _⟩
    all_goals simp [*]
    all_goals omega
  · go_enter Tryz.func115, Tryz.ntmps115
    go_wp2
    all_goals go_ret
    all_goals refine ⟨ret_bool ?_, (Below.refl _ _).alloc (Nat.le_refl _) _⟩
    all_goals simp [leR, lFits, *]
    all_goals omega
  · go_enter Tryz.func115, Tryz.ntmps115
    go_wp2
    all_goals go_ret
    all_goals refine ⟨ret_bool ?_, (Below.refl _ _).alloc (Nat.le_refl _) _⟩
    all_goals simp [leR, lFits, *]
    all_goals omega
end Go.Proofs.YtckeblkadiehbaaGreat
