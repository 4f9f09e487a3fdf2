/-
  sluicelaw.allFrames.
-/
import Derived.Test.YtckeblkadiehbaaGreatKeep
namespace Go.Proofs.YtckeblkadiehbaaGreat
open Go.RowKit

/-- Frames that are all the mark. -/
def fillF (m : Int) : Nat → List Value
  | 0 => []
  | k + 1 => .int .i64 m :: .int .i64 m :: .int .i64 m :: .slice none 0 0 :: fillF m k
theorem fillF_length (m : Int) (k : Nat) : (fillF m k).length = k * 4 := by
  induction k with
  | zero => rfl
  | succ k ih => simp [fillF, ih]; omega
theorem fillF_get (m : Int) {n k : Nat} (h : k < n) : (fillF m n)[k * 4]? = some (.int .i64 m) ∧ (fillF m n)[k * 4 + 1]? = some (.int .i64 m) ∧ (fillF m n)[k * 4 + 2]? = some (.int .i64 m) ∧ (fillF m n)[k * 4 + 3]? = some (.slice none 0 0) := by
  induction n generalizing k with
  | zero => omega
  | succ n ih =>
    cases k with
    | zero => simp [fillF]
    | succ k =>
      have := ih (k := k) (by omega)
      rw [Nat.succ_mul]
      simpa [fillF, Nat.add_assoc] using this
theorem fillF_add (m : Int) (a b : Nat) : fillF m (a + b) = fillF m a ++ fillF m b := by
  induction a with
  | zero => simp [fillF]
  | succ a ih => rw [Nat.succ_add]; simp [fillF, ih]

set_option maxRecDepth 100000 in
set_option maxHeartbeats 1600000 in
theorem allFrames_true (v : Value) (m : Int) (n : Nat) (w : World) (h : w.ownsRow 0 56 4 v n (fillF m n)) (hn : n ≤ 4294967296) :
    Calls Tryz.prog 18 #[v, .int .i64 m] w fun e w' => e = .returned (.bool true) ∧ w' = w := by
  obtain ⟨sv, cv, rfl⟩ := slice_len h
  have H := hide h
  clear h
  go_enter Tryz.func18, Tryz.ntmps18
  go_wp2
  go_loop [5] (fun i => ∃ k : Nat, k ≤ n ∧ i = .int .i64 k) (fun i => n - (intOf i).toNat)
  case atStart => exact ⟨0, Nat.zero_le _, rfl⟩
  case round =>
    obtain ⟨k, hk, rfl⟩ := hrel
    by_cases hlt : k < n
    · obtain ⟨g, hg, hcv⟩ := slice_some H.out (by omega)
      subst hg
      obtain ⟨e0, e1, e2, e3⟩ := fillF_get m hlt
      have c0 : w.cell? ⟨g, k * 4, none⟩ = some (.int .i64 m) := by rw [H.out.cellAt _ (by omega)]; exact e0
      have c1 : w.cell? ⟨g, k * 4 + 1, none⟩ = some (.int .i64 m) := by rw [H.out.cellAt _ (by omega)]; exact e1
      have c2 : w.cell? ⟨g, k * 4 + 2, none⟩ = some (.int .i64 m) := by rw [H.out.cellAt _ (by omega)]; exact e2
      have c3 : w.cell? ⟨g, k * 4 + 3, none⟩ = some (.slice none 0 0) := by rw [H.out.cellAt _ (by omega)]; exact e3
      clear e0 e1 e2 e3 H
      go_wp2
      go_round
      case rel => exact ⟨k + 1, by omega, by go_num⟩
      case measure => simp [intOf]; omega
    · go_wp2
      go_ret
      exact ⟨rfl, rfl⟩
end Go.Proofs.YtckeblkadiehbaaGreat
