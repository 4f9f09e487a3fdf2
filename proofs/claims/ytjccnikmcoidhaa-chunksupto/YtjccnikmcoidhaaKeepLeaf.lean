import Derived.Test.YtjccnikmcoidhaaLay
import Derived.Test.YtjccnikmcoidhaaPureKeep
import Derived.Laws.CopyOwn
set_option linter.unusedVariables false
set_option linter.unusedSimpArgs false
/-
  sluicekeep: pick, fixed, flag, value.
-/
namespace Go.Proofs.Ytjccnikmcoidhaa
open Go.RowKit

theorem pick_neg {c n : Int} (hc : c < 0) (hn : 0 < n) : 0 ≤ -(c + 1).tmod n ∧ -(c + 1).tmod n < n := by
  have e : -(c + 1).tmod n = (-(c + 1)) % n := by
    rw [← Int.neg_tmod]
    exact Int.tmod_eq_emod_of_nonneg (by omega)
  rw [e]
  exact ⟨Int.emod_nonneg _ (by omega), Int.emod_lt_of_pos _ hn⟩

/-- What pick answers. -/
def pkI (c n : Int) : Int := if c < 0 then -(c + 1).tmod n else c % n
theorem pkI_bounds (c : Int) {n : Int} (hn : 0 < n) : 0 ≤ pkI c n ∧ pkI c n < n := by
  unfold pkI
  split
  · exact pick_neg (by assumption) hn
  · exact ⟨Int.emod_nonneg _ (by omega), Int.emod_lt_of_pos _ hn⟩

set_option maxHeartbeats 400000 in
theorem pick_fun (c n : Int) (w : World) (hn : 0 < n) (hc : -9223372036854775808 ≤ c ∧ c ≤ 9223372036854775807) :
    Calls Try.prog 8 #[.int .i64 c, .int .i64 n] w fun e w' => e = .returned (.int .i64 (pkI c n)) ∧ w' = w := by
  obtain ⟨hc1, hc2⟩ := hc
  have hnz : ¬ n = 0 := by omega
  by_cases hneg : c < 0
  · have e : pkI c n = -(c + 1).tmod n := by unfold pkI; rw [if_pos hneg]
    rw [e]
    clear e
    go_enter Try.func8, Try.ntmps8
    go_wp2
    go_ret
    exact ⟨rfl, rfl⟩
  · have e : pkI c n = c % n := by unfold pkI; rw [if_neg hneg]
    rw [e]
    clear e
    go_enter Try.func8, Try.ntmps8
    go_wp2
    go_ret
    exact ⟨rfl, rfl⟩

set_option maxHeartbeats 400000 in
theorem pick_any (c n : Int) (w : World) (hn : 0 < n) (hn2 : n ≤ 4611686018427387904) (hc : -9223372036854775808 ≤ c ∧ c ≤ 9223372036854775807) :
    Calls Try.prog 8 #[.int .i64 c, .int .i64 n] w fun e w' => ∃ r : Int, e = .returned (.int .i64 r) ∧ 0 ≤ r ∧ r < n ∧ w' = w := by
  obtain ⟨hc1, hc2⟩ := hc
  have hnz : ¬ n = 0 := by omega
  by_cases hneg : c < 0
  · obtain ⟨h0, h1⟩ := pick_neg hneg hn
    have H0 : Hid (0 ≤ -(c + 1).tmod n) := h0
    have H1 : Hid (-(c + 1).tmod n < n) := h1
    clear h0 h1
    go_enter Try.func8, Try.ntmps8
    go_wp2
    go_ret
    exact ⟨_, rfl, H0.out, H1.out, rfl⟩
  · go_enter Try.func8, Try.ntmps8
    go_wp2
    go_ret
    exact ⟨_, rfl, Int.emod_nonneg _ (by omega), Int.emod_lt_of_pos _ hn, rfl⟩

set_option maxHeartbeats 400000 in
theorem kflag_any (k f s b : Int) (sa : Option Addr) (n cap : Nat) (w : World) (h0 : 0 ≤ f) (h1 : f < 256) (hb : b = 1 ∨ b = 8) :
    Calls Try.prog 14 #[.agg #[.int .i64 k, .int .i64 f, .int .i64 s, .slice sa n cap], .int .i64 b] w fun e w' => e = .returned (.bool (hasB f b)) ∧ Below w.heap.size w w' := by
  rcases hb with rfl | rfl
  all_goals go_enter Try.func14, Try.ntmps14
  all_goals go_wp2
  all_goals go_ret
  all_goals refine ⟨ret_bool ?_, (Below.refl _ _).alloc (Nat.le_refl _) _⟩
  all_goals simp only [hasB, Int.ediv_one]
  all_goals (rw [Bool.eq_iff_iff]; simp)

set_option maxHeartbeats 800000 in
theorem value_any (g off n cap : Nat) (x0 x1 x2 x3 : UInt8) (w : World) (hn : 4 ≤ n)
    (c0 : w.cell? ⟨g, off, none⟩ = some (.int .u8 x0.toNat)) (c1 : w.cell? ⟨g, off + 1, none⟩ = some (.int .u8 x1.toNat)) (c2 : w.cell? ⟨g, off + 2, none⟩ = some (.int .u8 x2.toNat))
    (c3 : w.cell? ⟨g, off + 3, none⟩ = some (.int .u8 x3.toNat)) :
    Calls Try.prog 15 #[.slice (some ⟨g, off, none⟩) n cap] w fun e w' => e = .returned (.int .i64 (be4 x0 x1 x2 x3)) ∧ ∃ k, w' = w.drewN k := by
  have h0 : x0.toNat < 256 := x0.toNat_lt
  have h1 : x1.toNat < 256 := x1.toNat_lt
  have h2 : x2.toNat < 256 := x2.toNat_lt
  have h3 : x3.toNat < 256 := x3.toNat_lt
  go_enter Try.func15, Try.ntmps15
  go_wp2
  go_quiet (fail)
  go_wp2
  go_ret
  exact ⟨rfl, _, rfl⟩

/-- What is copied, with noughts behind. -/
def fixedL (l : List UInt8) (n : Nat) : List UInt8 := l.take n ++ List.replicate (n - l.length) 0
theorem fixedL_length (l : List UInt8) (n : Nat) : (fixedL l n).length = n := by simp [fixedL]; omega

theorem made_row {w : World} {b g n : Nat} (h : w.ownsRow b 5 1 (.slice (some ⟨g, 0, none⟩) n n) n (madeCells #[Value.int .u8 0] n).toList) :
    w.heap[g]? = some (.cells (List.replicate n (Value.int .u8 0)).toArray 5 (0, 0)) ∧ n ≤ maxLen := by
  rcases h.2 with ⟨h0, _⟩ | ⟨g', cap, cur, h0, _, hgg, hle, hmx, hs, ht⟩
  · cases h0
  · simp only [Value.slice.injEq, Option.some.injEq, Addr.mk.injEq, and_true, true_and] at h0
    obtain ⟨rfl, rfl⟩ := h0
    refine ⟨?_, hmx⟩
    rw [hgg]
    have e1 : cur.toList.take (n * 1) = cur.toList := by rw [List.take_of_length_le]; simp; omega
    rw [e1] at ht
    have e2 : cur = (List.replicate n (Value.int .u8 0)).toArray := by
      apply Array.toList_inj.1
      rw [ht]
      simp only [madeCells]
      rw [List.eq_replicate_iff]
      refine ⟨by simp, fun x hx => ?_⟩
      simp at hx
      obtain ⟨a, _, rfl⟩ := hx
      simp [Nat.mod_one]
    rw [e2]

theorem copy_src {w : World} {sa : Option Addr} {l : List UInt8} {cap n : Nat} (h : BytesA w (.slice sa l.length cap) l) (h0 : 0 < ((l.take n).map B).length) :
    ∃ ad, sa = some ad ∧ ∀ j v, ((l.take n).map B)[j]? = some v → w.cell? (ad.add j) = some v := by
  rcases h with (⟨_, rfl⟩ | ⟨bb, off, cap', he, h1, h2, h3⟩) | ⟨_, _, rfl⟩
  · simp at h0
  rotate_left
  · simp at h0
  · simp only [Value.slice.injEq] at he
    obtain ⟨rfl, _, rfl⟩ := he
    refine ⟨_, rfl, fun j v hv => ?_⟩
    have hj := (List.getElem?_eq_some_iff.1 hv).1
    simp at hj
    have hj1 : j < n := by omega
    have hj2 : j < l.length := by omega
    have e : (⟨bb, off, none⟩ : Addr).add j = ⟨bb, off + j, none⟩ := by unfold Addr.add; split <;> simp_all
    rw [e, h3 j (by omega), ← hv]
    simp [hj1, List.getD, hj2]

theorem fixed_row {w : World} {b g n : Nat} {l : List UInt8} (h : w.heap[g]? = some (.cells (splice (List.replicate n (Value.int .u8 0)) 0 ((l.take n).map B)).toArray 5 (0, 0))) (hm : n ≤ maxLen) (hb : b ≤ g) :
    w.ownsRow b 5 1 (.slice (some ⟨g, 0, none⟩) n n) n ((fixedL l n).map B) := by
  have e : splice (List.replicate n (Value.int .u8 0)) 0 ((l.take n).map B) = (fixedL l n).map B := by
    unfold splice fixedL
    simp only [List.take_zero, List.nil_append, Nat.zero_add, List.length_map, List.length_take, List.drop_replicate, List.map_append, List.map_replicate]
    congr 2
    omega
  rw [e] at h
  refine ⟨by simp [fixedL_length], Or.inr ⟨g, n, _, rfl, hb, h, Nat.le_refl _, hm, by simp [fixedL_length], ?_⟩⟩
  rw [List.take_of_length_le (by simp [fixedL_length])]

set_option maxHeartbeats 800000 in
theorem fixed_any (sa : Option Addr) (l : List UInt8) (cap n : Nat) (w : World) (hn : n ≤ 64) (hb : BytesA w (.slice sa l.length cap) l) :
    Calls Try.prog 13 #[.slice sa l.length cap, .int .i64 n] w fun e w' => ∃ g cap', e = .returned (.slice (some ⟨g, 0, none⟩) n cap') ∧ w'.ownsRow w.heap.size 5 1 (.slice (some ⟨g, 0, none⟩) n cap') n ((fixedL l n).map B) ∧ Below w.heap.size w w' := by
  obtain ⟨i0, hi, hz0, hz1, hz2⟩ := info_parts Try.info5
  have hsz : (Try.prog.info? 5).map (·.size) = some 1 := by rw [hi]; simp [hz1]
  have HB : Hid (BytesA w (.slice sa l.length cap) l) := hb
  clear hb
  go_enter Try.func13, Try.ntmps13
  go_wp2_with (at_make; refine wpList_make_full _ rfl _ _ 24 rfl w.heap.size 5 i0 (.int .u8 0) 1 Try.underlying24 hi hz0 hz1 _ _ _ _ n rfl rfl ?m1 ?m2 ?m3 ?m4 ?m5 ?_)
  case m1 => rfl
  case m2 => rfl
  case m3 => rw [hz2]; omega
  case m4 => unfold maxLen; omega
  case m5 => simp
  intro w1 hown1 hg1
  have hbel1 : Below w.heap.size w w1 := (Below.refl _ _).grown hg1 (Nat.le_refl _) (fun k h => by cases h)
  obtain ⟨hh, hmx⟩ := made_row hown1
  have hsz1 : w.heap.size < w1.heap.size := lt_of_block hh
  clear hown1
  obtain ⟨X, hX⟩ : ∃ X, X = (l.take n).map B := ⟨_, rfl⟩
  have HX : Hid (X = (l.take n).map B) := hX
  clear hX
  go_wp2_with (refine wpList_copy_splice rfl (.tmp 8) (.tmp 9) 24 24 rfl 5 Try.underlying24 hsz (some ⟨w.heap.size, 0, none⟩) sa n n l.length cap rfl rfl w.heap.size 0 (List.replicate n (.int .u8 0)) 5 hh X ?c1 ?c2 ?c3 ?c4 w.heap.size w hbel1 (Nat.le_refl _) ?_)
  case c1 => rw [HX.out, List.length_map, List.length_take]; exact Nat.min_comm _ _
  case c2 =>
    intro h
    rw [HX.out] at h ⊢
    first | exact ⟨rfl, copy_src (HB.out.chg (Chg.of_below (S := fun _ => False) hbel1)) h⟩ | exact copy_src (HB.out.chg (Chg.of_below (S := fun _ => False) hbel1)) h
  case c3 => rw [HX.out]; simp; omega
  case c4 => rw [HX.out]; exact bytes_one _
  intro w2 HG2 hB2
  go_wp2
  go_ret
  have hg2 := HG2.out
  rw [HX.out] at hg2
  exact ⟨w.heap.size, n, rfl, fixed_row hg2 hmx (Nat.le_refl _), hB2⟩
end Go.Proofs.Ytjccnikmcoidhaa
