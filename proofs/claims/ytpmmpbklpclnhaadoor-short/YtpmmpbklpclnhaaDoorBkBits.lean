import Derived.Test.YtpmmpbklpclnhaaDoorBkLeaf
set_option linter.unusedVariables false
set_option linter.unusedSimpArgs false
/-
  Package blocks: bitWriter's put and fill, packBits.
-/
namespace Go.Proofs.YtpmmpbklpclnhaaDoor
set_option linter.unusedVariables false
set_option linter.unusedSimpArgs false
open Go.RowKit

/-- Bits in the middle of a number. -/
theorem val_mid (X : List Bool) (LL m : Nat) (hm : m ≤ X.length) (h8 : 8 ≤ m) (h : LL % 2 ^ X.length = valB X) : LL / 2 ^ (m - 8) % 256 = valB ((X.drop (X.length - m)).take 8) := by
  have hX : X = X.take (X.length - m) ++ ((X.drop (X.length - m)).take 8 ++ X.drop (X.length - m + 8)) := by
    have h1 : (X.drop (X.length - m)).drop 8 = X.drop (X.length - m + 8) := by rw [List.drop_drop]
    rw [← h1, List.take_append_drop, List.take_append_drop]
  generalize hA : X.take (X.length - m) = A at hX
  generalize hY : (X.drop (X.length - m)).take 8 = Y at hX
  generalize hZ : X.drop (X.length - m + 8) = Z at hX
  have hYl : Y.length = 8 := by rw [← hY, List.length_take, List.length_drop]; omega
  have hZl : Z.length = m - 8 := by rw [← hZ, List.length_drop]; omega
  have hv : valB X = valB A * 2 ^ (8 + (m - 8)) + (valB Y * 2 ^ (m - 8) + valB Z) := by
    rw [hX, valB_append, valB_append, List.length_append, hYl, hZl]
  have h1 : LL % 2 ^ m = valB Y * 2 ^ (m - 8) + valB Z := by
    have e : LL % 2 ^ m = LL % 2 ^ X.length % 2 ^ m := by
      rw [Nat.mod_mod_of_dvd]
      exact Nat.pow_dvd_pow 2 hm
    have hm2 : 8 + (m - 8) = m := by omega
    rw [e, h, hv, hm2, Nat.mul_comm (valB A), Nat.mul_add_mod]
    apply Nat.mod_eq_of_lt
    have hy := valB_lt Y
    have hz := valB_lt Z
    rw [hYl] at hy
    rw [hZl] at hz
    have hm3 : 2 ^ m = 2 ^ 8 * 2 ^ (m - 8) := by rw [← Nat.pow_add]; congr 1; omega
    rw [hm3]
    have h5 : (valB Y + 1) * 2 ^ (m - 8) ≤ 2 ^ 8 * 2 ^ (m - 8) := Nat.mul_le_mul_right _ hy
    rw [Nat.add_mul] at h5
    omega
  have hz := valB_lt Z
  rw [hZl] at hz
  have hp : 0 < 2 ^ (m - 8) := Nat.two_pow_pos _
  have hm3 : 2 ^ m = 2 ^ (m - 8) * 256 := by
    have : 2 ^ m = 2 ^ (m - 8 + 8) := by congr 1; omega
    rw [this, Nat.pow_add]
  have h6 : LL % 2 ^ m / 2 ^ (m - 8) = LL / 2 ^ (m - 8) % 256 := by rw [hm3, Nat.mod_mul_right_div_self]
  rw [← h6, h1, Nat.mul_comm, Nat.mul_add_div hp, Nat.div_eq_of_lt hz]
  omega

/-- .. behind more bits. -/
theorem val_more (X : List Bool) (L v n : Nat) (hn : n ≤ 32) (hX : X.length + n ≤ 32) (hv : v < 2 ^ n) (h : L % 2 ^ X.length = valB X) :
    (L * 2 ^ n % 4294967296 ||| v) % 2 ^ (X.length + n) = valB (X ++ natBits n v) ∧ (L * 2 ^ n % 4294967296 ||| v) < 4294967296 := by
  have e1 : L * 2 ^ n % 4294967296 = (L % 2 ^ (32 - n)) * 2 ^ n := by
    have : 4294967296 = 2 ^ (32 - n) * 2 ^ n := by rw [← Nat.pow_add]; have : 32 - n + n = 32 := by omega
                                                   rw [this]
    rw [this, Nat.mul_mod_mul_right]
  have e2 : (L % 2 ^ (32 - n)) * 2 ^ n ||| v = (L % 2 ^ (32 - n)) * 2 ^ n + v := by
    rw [← Nat.shiftLeft_eq, Nat.shiftLeft_add_eq_or_of_lt hv]
  rw [e1, e2]
  have e3 : X.length ≤ 32 - n := by omega
  have e4 : L % 2 ^ (32 - n) % 2 ^ X.length = valB X := by
    rw [Nat.mod_mod_of_dvd, h]
    exact Nat.pow_dvd_pow 2 e3
  have hlt : L % 2 ^ (32 - n) < 2 ^ (32 - n) := Nat.mod_lt _ (Nat.two_pow_pos _)
  generalize L % 2 ^ (32 - n) = M at e4 hlt
  constructor
  · rw [valB_append, natBits_length, valB_natBits, Nat.mod_eq_of_lt hv, ← e4, Nat.pow_add, Nat.mul_comm (2 ^ X.length), Nat.mod_mul]
    rw [Nat.mul_add_mod_self_right, Nat.mod_eq_of_lt hv, Nat.mul_comm M, Nat.mul_add_div (Nat.two_pow_pos n), Nat.div_eq_of_lt hv]
    rw [Nat.add_zero, Nat.mul_comm]
    omega
  · have h5 : (M + 1) * 2 ^ n ≤ 2 ^ (32 - n) * 2 ^ n := Nat.mul_le_mul_right _ hlt
    have h6 : 2 ^ (32 - n) * 2 ^ n = 4294967296 := by rw [← Nat.pow_add]; have : 32 - n + n = 32 := by omega
                                                      rw [this]
    rw [h6, Nat.add_mul] at h5
    omega
end Go.Proofs.YtpmmpbklpclnhaaDoor
