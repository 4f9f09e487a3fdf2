import Derived.Test.YtjccnikmcoidhaaFeedAny
set_option linter.unusedVariables false
set_option linter.unusedSimpArgs false
/-
  frames.Fits, frames.Bytes, sluice.NewReader.
-/
namespace Go.Proofs.Ytjccnikmcoidhaa
open Go.RowKit

def inB (n : Int) : Bool := decide (0 ≤ n) && decide (n ≤ 255)
def fitsB (k f s : Int) (n : Nat) : Bool := inB k && inB f && decide (0 ≤ s) && decide (s ≤ 32767) && decide (n ≤ 64)

set_option maxRecDepth 100000 in
set_option maxHeartbeats 400000 in
theorem inByte_any (n : Int) (w : World) : Calls Try.prog 19 #[.int .i64 n] w fun e w' => e = .returned (.bool (inB n)) ∧ w' = w := by
  go_enter Try.func19, Try.ntmps19
  go_wp2
  all_goals go_ret
  all_goals refine ⟨ret_bool ?_, rfl⟩
  all_goals simp [inB, *]
  omega

set_option maxRecDepth 100000 in
set_option maxHeartbeats 400000 in
theorem newReader_any (w : World) : Calls Try.prog 11 #[] w fun e w' => e = .returned (.pointer (some ⟨w.heap.size, 0, none⟩)) ∧ w' = w.alloc (.cells #[.slice none 0 0, .int .i64 0, .int .i64 0, .int .i64 0, .int .i64 0, .int .i64 0] 56) := by
  go_enter Try.func11, Try.ntmps11
  go_wp2
  go_ret
  exact ⟨rfl, rfl⟩

set_option maxRecDepth 100000 in
set_option maxHeartbeats 800000 in
theorem fits_any (k f s : Int) (sa : Option Addr) (n cap : Nat) (w : World) : Calls Try.prog 16 #[.agg #[.int .i64 k, .int .i64 f, .int .i64 s, .slice sa n cap]] w fun e w' => e = .returned (.bool (fitsB k f s n)) ∧ Below w.heap.size w w' := by
  go_enter Try.func16, Try.ntmps16
  go_wp2_with (go_at_call 19; refine (inByte_any _ _).mono ?_; rintro e w' ⟨rfl, rfl⟩)
  all_goals go_ret
  all_goals refine ⟨ret_bool ?_, (Below.refl _ _).alloc (Nat.le_refl _) _⟩
  all_goals simp [fitsB, *]
  all_goals omega

theorem B_ofI {x : Int} (h0 : 0 ≤ x) (h1 : x ≤ 255) : B (ofI x) = .int .u8 x := by unfold B; rw [ofI_toNat h0 h1]

theorem lies_six (w : World) (a b c d e f : Value) : Lies (w.alloc (.cells #[a, b, c, d, e, f] 5)) (.slice (some ⟨w.heap.size, 0, none⟩) 6 6) 6 [a, b, c, d, e, f] := by
  refine Or.inr ⟨_, _, rfl, fun j u hu => ?_⟩
  have hh := heap_alloc_new w (.cells #[a, b, c, d, e, f] 5)
  have e : (⟨w.heap.size, 0, none⟩ : Addr).add j = ⟨w.heap.size, j, none⟩ := by unfold Addr.add; split <;> simp_all
  rw [e, cell_of_row _ _ _ _ _ _ hh, ← hu]
  simp

set_option maxRecDepth 100000 in
set_option maxHeartbeats 1600000 in
theorem bytes_any (k f s : Int) (sa : Option Addr) (body : List UInt8) (cap : Nat) (w : World) (hk0 : 0 ≤ k) (hk1 : k ≤ 255) (hf0 : 0 ≤ f) (hf1 : f ≤ 255) (hs0 : 0 ≤ s) (hs1 : s ≤ 32767) (hn : body.length ≤ 64)
    (hb : BytesIn w (.slice sa body.length cap) body) :
    Calls Try.prog 17 #[.agg #[.int .i64 k, .int .i64 f, .int .i64 s, .slice sa body.length cap]] w fun e w' => ∃ v, e = .returned v ∧ w'.ownsRow w.heap.size 5 1 v (lay k f s body).length ((lay k f s body).map B) ∧ Below w.heap.size w w' := by
  obtain ⟨i0, hi, hz0, hz1, hz2⟩ := info_parts Try.info5
  have HB : Hid (BytesIn w (.slice sa body.length cap) body) := hb
  clear hb
  go_enter Try.func17, Try.ntmps17
  go_wp2_with (at_make; refine wpList_make_own _ rfl _ _ 24 rfl w.heap.size 5 i0 (.int .u8 0) 1 Try.underlying24 hi hz0 hz1 _ _ _ (6 + body.length) rfl rfl ?m1 ?m2 ?m3 ?m4 ?_)
  case m1 => omega
  case m2 => rw [hz2]; omega
  case m3 => unfold maxLen; omega
  case m4 => simp
  intro w1 hown1 hg1
  have hfb : w1.heap[w.heap.size]? = some (.cells #[.int .i64 k, .int .i64 f, .int .i64 s, .slice sa body.length cap] 26 (0, 0)) := by
    rw [hg1.block w.heap.size (by simp) (by simp)]; exact heap_alloc_new w _
  have hbel1 : Below w.heap.size w w1 := ((Below.refl _ _).alloc (Nat.le_refl _) _).grown hg1 (by simp) (fun k h => by cases h)
  obtain ⟨z0, z1, z2, z3, -⟩ := frame_block hfb
  have hsz1 := lt_of_block hfb
  have hb2 : ((s / 256) % 256) = s / 256 := by omega
  have hown1' := owns_base hown1 (base' := 0) (fun _ _ => Nat.zero_le _)
  clear hg1
  go_wp2_with (at_builtin; refine wpList_app _ rfl (.tmp 11) (.tmp 30) 24 rfl 5 i0 (.int .u8 0) 1 1 Try.underlying24 hi hz0 hz1 hz2 rfl (by decide) _ _ _ rfl (hown1'.alloc _) (.slice (some ⟨w1.heap.size, 0, none⟩) 6 6) 6 [.int .u8 ((body.length : Int) / 256), .int .u8 (body.length : Int), .int .u8 k, .int .u8 f, .int .u8 (s / 256), .int .u8 (s % 256)] rfl rfl ?c1 ?c2 ?c3 ?c4 ?_)
  case c1 => exact lies_six _ _ _ _ _ _ _
  case c2 =>
    intro u hu
    simp at hu
    rcases hu with rfl | rfl | rfl | rfl | rfl | rfl <;> rfl
  case c3 => unfold maxLen; omega
  case c4 => omega
  intro v2 w2 hown2 hg2 hfr2
  have hbel2 : Below w.heap.size w w2 := (hbel1.alloc (by omega) _).grown hg2 (by simp; omega) (fun k h => by simp [Value.ownBlock] at h; omega)
  have hfb2 : w2.heap[w.heap.size]? = some (.cells #[.int .i64 k, .int .i64 f, .int .i64 s, .slice sa body.length cap] 26 (0, 0)) := by
    rw [hg2.block w.heap.size (by simp; omega) (by simp [Value.ownBlock]), Below.heap_alloc _ _ _ hsz1]; exact hfb
  have hv2 : ∀ j, v2.ownBlock = some j → w.heap.size ≤ j := fun j hj => by
    rcases hfr2 with e | e
    · rw [e] at hj; simp [Value.ownBlock] at hj; omega
    · rw [e] at hj; simp at hj; omega
  obtain ⟨y0, y1, y2, y3, -⟩ := frame_block hfb2
  clear hfr2 hg2 z0 z1 z2 z3 hown1 hown1' hfb hfb2
  go_wp2_with (at_builtin; refine wpList_app _ rfl (.tmp 32) (.tmp 34) 24 rfl 5 i0 (.int .u8 0) 1 1 Try.underlying24 hi hz0 hz1 hz2 rfl (by decide) _ _ _ rfl hown2 (.slice sa body.length cap) body.length (body.map B) rfl ?d0 ?d1 ?d2 ?d3 ?d4 ?_)
  case d0 => simp
  case d1 => exact lies_of_bytesIn (HB.out.chg (Chg.of_below (S := fun _ => False) hbel2) (fun _ _ => id))
  case d2 => exact bytes_one _
  case d3 => unfold maxLen; omega
  case d4 => omega
  intro v3 w3 hown3 hg3 hfr3
  go_wp2
  go_ret
  have hsz2 := hbel2.size
  refine ⟨v3, rfl, ?_, hbel2.grown hg3 hsz2 (fun j hj => hv2 j hj)⟩
  have h4 := owns_base hown3 (base' := w.heap.size) (fun j hj => by
    rcases hfr3 with e | e
    · rw [e] at hj; exact hv2 j hj
    · rw [e] at hj; simp at hj; omega)
  have e1 : (lay k f s body).length = 6 + body.length := by simp [lay]; omega
  rw [e1]
  have e2 : (lay k f s body).map B = [.int .u8 ((body.length : Int) / 256), .int .u8 (body.length : Int), .int .u8 k, .int .u8 f, .int .u8 (s / 256), .int .u8 (s % 256)] ++ body.map B := by
    unfold lay
    rw [List.map_append]
    simp only [List.map_cons, List.map_nil]
    rw [B_ofI (by omega) (by omega), B_ofI (by omega) (by omega), B_ofI hk0 hk1, B_ofI hf0 hf1, B_ofI (by omega) (by omega), B_ofI (by omega) (by omega)]
  rw [e2]
  simpa using h4
end Go.Proofs.Ytjccnikmcoidhaa
