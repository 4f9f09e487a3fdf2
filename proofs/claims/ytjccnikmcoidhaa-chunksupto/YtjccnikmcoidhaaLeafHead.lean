import Derived.Test.YtjccnikmcoidhaaLeaf
set_option linter.unusedVariables false
set_option linter.unusedSimpArgs false
/-
  frames.headOf: six bytes make a head.
-/
namespace Go.Proofs.Ytjccnikmcoidhaa
open Go.RowKit

theorem wraps_i64 (n : Int) (h0 : 0 ≤ n) (h1 : n < 2 ^ 63) : IntKind.i64.wrap n = n := by rw [IntKind.wrap_i64]; omega
theorem or_be2 (a b : UInt8) : bits BinOp.or IntKind.i64 (wrap64 ((a.toNat : Int) * 256)) (b.toNat : Int) = be2 a b := by
  have ha : a.toNat < 256 := a.toNat_lt
  have hb : b.toNat < 256 := b.toNat_lt
  have e1 : wrap64 ((a.toNat : Int) * 256) = (a.toNat : Int) * 256 := by unfold wrap64; omega
  rw [e1, bits_join .i64 63 (by decide) wraps_i64 8 ((a.toNat : Int) * 256) (b.toNat : Int) (by omega) (by omega) (by omega) (by omega) (by omega) (by omega)]
  unfold be2; omega
theorem wrap_byte (a : UInt8) : wrap64 (a.toNat : Int) = (a.toNat : Int) := by
  have ha : a.toNat < 256 := a.toNat_lt
  unfold wrap64; omega

set_option maxHeartbeats 800000 in
theorem headOf_any (g off n cap : Nat) (x0 x1 x2 x3 x4 x5 : UInt8) (w : World) (hn : 6 ≤ n)
    (c0 : w.cell? ⟨g, off, none⟩ = some (.int .u8 x0.toNat)) (c1 : w.cell? ⟨g, off + 1, none⟩ = some (.int .u8 x1.toNat)) (c2 : w.cell? ⟨g, off + 2, none⟩ = some (.int .u8 x2.toNat))
    (c3 : w.cell? ⟨g, off + 3, none⟩ = some (.int .u8 x3.toNat)) (c4 : w.cell? ⟨g, off + 4, none⟩ = some (.int .u8 x4.toNat)) (c5 : w.cell? ⟨g, off + 5, none⟩ = some (.int .u8 x5.toNat)) (hg : g < w.heap.size) :
    Calls Try.prog 23 #[.slice (some ⟨g, off, none⟩) n cap] w fun e w' => e = .returned (.agg #[.int .i64 (be2 x0 x1), .int .i64 x2.toNat, .int .i64 x3.toNat, .int .i64 (be2 x4 x5)]) ∧ Below w.heap.size w w' := by
  go_enter Try.func23, Try.ntmps23
  go_wp2
  go_region
  go_wp2
  refine bodyPost_ret (v := .agg #[.int .i64 (be2 x0 x1), .int .i64 x2.toNat, .int .i64 x3.toNat, .int .i64 (be2 x4 x5)]) ?_ rfl ⟨rfl, ((Below.refl _ _).alloc (Nat.le_refl _) _).drew⟩
  simp [results, Try.results23, go_sem, or_be2, wrap_byte]
end Go.Proofs.Ytjccnikmcoidhaa
