import Derived.Test.YtjccnikmcoidhaaGen
import Derived.Test.YtjccnikmcoidhaaPure
import Derived.WalkKit
import Derived.WalkSpells
import Derived.WalkLawsBesides
import Derived.BigQuiet
import Derived.BigRegion
import Derived.Deep.QuietTactic
set_option linter.unusedVariables false
set_option linter.unusedSimpArgs false
/-
  The leaves of package frames: what each call returns, or with what it gives up.
-/
namespace Go.Proofs.Ytjccnikmcoidhaa
open Go.RowKit

/-- What a call ends with that has found a fault, or none. -/
def endOf (c : Int) : Ending := if c = 0 then .returned (.tuple #[]) else .panicked [{ v := .iface 32 (.int .i64 c), recovered := false }]

theorem hasB_bits {f : Int} (h0 : 0 ≤ f) (h1 : f < 256) {b : Int} (hb : b = 1 ∨ b = 8) : (bits BinOp.and IntKind.i64 f b != 0) = hasB f b := by
  obtain ⟨n, rfl⟩ := Int.eq_ofNat_of_zero_le h0
  have hn : n < 256 := by omega
  have key : ∀ m : Fin 256, (bits BinOp.and IntKind.i64 (m.val : Int) 1 != 0) = hasB (m.val : Int) 1 ∧ (bits BinOp.and IntKind.i64 (m.val : Int) 8 != 0) = hasB (m.val : Int) 8 := by decide +kernel
  rcases hb with rfl | rfl
  · exact (key ⟨n, hn⟩).1
  · exact (key ⟨n, hn⟩).2

set_option maxHeartbeats 400000 in
theorem has_any (k f s b : Int) (bv : Value) (w : World) (h0 : 0 ≤ f) (h1 : f < 256) (hb : b = 1 ∨ b = 8) :
    Calls Try.prog 32 #[.agg #[.int .i64 k, .int .i64 f, .int .i64 s, bv], .int .i64 b] w fun e w' => e = .returned (.bool (hasB f b)) ∧ Below w.heap.size w w' := by
  have hh := hasB_bits h0 h1 hb
  have HH : Hid ((bits BinOp.and IntKind.i64 f b != 0) = hasB f b) := hh
  clear hh hb
  go_enter Try.func32, Try.ntmps32
  go_wp2
  go_ret
  exact ⟨ret_bool HH.out, (Below.refl _ _).alloc (Nat.le_refl _) _⟩

set_option maxHeartbeats 400000 in
theorem streamFits_any (l k f s : Int) (w : World) :
    Calls Try.prog 26 #[.agg #[.int .i64 l, .int .i64 k, .int .i64 f, .int .i64 s]] w fun e w' => e = .returned (.bool (sFits k s)) ∧ Below w.heap.size w w' := by
  go_enter Try.func26, Try.ntmps26
  go_wp2
  all_goals go_ret
  all_goals refine ⟨ret_bool ?_, (Below.refl _ _).alloc (Nat.le_refl _) _⟩
  all_goals simp_all [sFits]

theorem bcell {W w1 : World} {n : Nat} (hb : Below n W w1) : (∀ b o, b < n → w1.cell? ⟨b, o, none⟩ = W.cell? ⟨b, o, none⟩) ∧ (∀ b o, b < n → w1.frozen? ⟨b, o, none⟩ = W.frozen? ⟨b, o, none⟩) :=
  ⟨fun b o h => hb.cell (p := ⟨b, o, none⟩) h, fun b o h => hb.frozen (p := ⟨b, o, none⟩) h⟩

set_option maxHeartbeats 800000 in
theorem lengthFits_any (l k f s : Int) (w : World) (h0 : 0 ≤ f) (h1 : f < 256) :
    Calls Try.prog 27 #[.agg #[.int .i64 l, .int .i64 k, .int .i64 f, .int .i64 s]] w fun e w' => e = .returned (.bool (lFits l k f)) ∧ Below w.heap.size w w' := by
  have hh := hasB_bits h0 h1 (b := 1) (Or.inl rfl)
  cases hf : hasB f 1
  all_goals (rw [hf] at hh)
  all_goals (go_enter Try.func27, Try.ntmps27)
  all_goals go_wp2
  all_goals go_ret
  all_goals refine ⟨ret_bool ?_, ?_⟩
  all_goals first
    | exact (Below.refl _ _).alloc (Nat.le_refl _) _
    | simp_all [lFits]

theorem hc9 {l k f s : Int} (h : 32767 < s ∨ (!sFits k s) = true) : endOf (headCode l k f s) = .panicked [{ v := .iface 32 (.int .i64 9), recovered := false }] := by
  have : headCode l k f s = 9 := by unfold headCode; rw [if_pos (by simpa using h)]
  rw [this]; rfl
theorem hc10 {l k f s : Int} (h : s ≤ 32767 ∧ (!sFits k s) = false) (h2 : 64 < l ∨ (!lFits l k f) = true) : endOf (headCode l k f s) = .panicked [{ v := .iface 32 (.int .i64 10), recovered := false }] := by
  have : headCode l k f s = 10 := by
    unfold headCode
    rw [if_neg (by rintro (a | a); · omega
                   · simp [a] at h), if_pos (by simpa using h2)]
  rw [this]; rfl
theorem hc0 {l k f s : Int} (h : s ≤ 32767 ∧ (!sFits k s) = false) (h2 : l ≤ 64 ∧ (!lFits l k f) = false) : endOf (headCode l k f s) = .returned (.tuple #[]) := by
  have : headCode l k f s = 0 := by
    unfold headCode
    rw [if_neg (by rintro (a | a); · omega
                   · simp [a] at h), if_neg (by rintro (a | a); · omega
                                                · simp [a] at h2)]
  rw [this]; rfl

set_option maxHeartbeats 800000 in
theorem checkHead_any (l k f s : Int) (w : World) (h0 : 0 ≤ f) (h1 : f < 256) :
    Calls Try.prog 24 #[.agg #[.int .i64 l, .int .i64 k, .int .i64 f, .int .i64 s]] w fun e w' => e = endOf (headCode l k f s) ∧ Below w.heap.size w w' := by
  go_enter Try.func24, Try.ntmps24
  go_wp2_with (first | (go_at_call 26; refine (streamFits_any l k f s _).mono ?_; rintro e w' ⟨rfl, hb⟩; obtain ⟨hc, hf⟩ := bcell hb) | (go_at_call 27; refine (lengthFits_any l k f s _ h0 h1).mono ?_; rintro e w'' ⟨rfl, hb'⟩))
  all_goals first
    | (refine bodyPost_end (results_none rfl _ _ _) rfl ⟨?_, ?_⟩)
    | refine ⟨rfl, ?_, ?_⟩
  all_goals first
    | exact (Below.refl _ _).alloc (Nat.le_refl _) _
    | exact ((Below.refl _ _).alloc (Nat.le_refl _) _).trans (hb.mono (by simp))
    | exact (((Below.refl _ _).alloc (Nat.le_refl _) _).trans (hb.mono (by simp))).trans (hb'.mono (by have := hb.size; simp at this; omega))
    | exact (hc9 (by assumption)).symm
    | exact (hc9 (Or.inl (by assumption))).symm
    | exact (hc10 (by assumption) (by assumption)).symm
    | exact (hc10 (by assumption) (Or.inl (by assumption))).symm
    | exact (hc0 (by assumption) (by assumption)).symm
end Go.Proofs.Ytjccnikmcoidhaa
