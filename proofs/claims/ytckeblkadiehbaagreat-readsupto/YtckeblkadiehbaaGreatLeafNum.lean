/-
  frames.checkNumber: four bytes, a number that is least or more, MaxNumber or less.
-/
import Derived.Test.YtckeblkadiehbaaGreatLeaf
namespace Go.Proofs.YtckeblkadiehbaaGreat
open Go.RowKit

theorem wraps_u32 (n : Int) (h0 : 0 ≤ n) (h1 : n < 2 ^ 32) : IntKind.u32.wrap n = n := by rw [IntKind.wrap_u32']; omega
theorem or_be4 (a b c d : UInt8) : bits BinOp.or IntKind.u32 (bits BinOp.or IntKind.u32 (bits BinOp.or IntKind.u32 ((a.toNat : Int) % 4294967296 * 16777216 % 4294967296) ((b.toNat : Int) % 4294967296 * 65536 % 4294967296))
    ((c.toNat : Int) % 4294967296 * 256 % 4294967296)) ((d.toNat : Int) % 4294967296) = be4 a b c d := by
  have ha : a.toNat < 256 := a.toNat_lt
  have hb : b.toNat < 256 := b.toNat_lt
  have hc : c.toNat < 256 := c.toNat_lt
  have hd : d.toNat < 256 := d.toNat_lt
  have e1 : (a.toNat : Int) % 4294967296 * 16777216 % 4294967296 = (a.toNat : Int) * 16777216 := by omega
  have e2 : (b.toNat : Int) % 4294967296 * 65536 % 4294967296 = (b.toNat : Int) * 65536 := by omega
  have e3 : (c.toNat : Int) % 4294967296 * 256 % 4294967296 = (c.toNat : Int) * 256 := by omega
  have e4 : (d.toNat : Int) % 4294967296 = (d.toNat : Int) := by omega
  rw [e1, e2, e3, e4]
  rw [bits_join .u32 32 (by decide) wraps_u32 24 ((a.toNat : Int) * 16777216) ((b.toNat : Int) * 65536) (by omega) (by omega) (by omega) (by omega) (by omega) (by omega)]
  rw [bits_join .u32 32 (by decide) wraps_u32 16 ((a.toNat : Int) * 16777216 + (b.toNat : Int) * 65536) ((c.toNat : Int) * 256) (by omega) (by omega) (by omega) (by omega) (by omega) (by omega)]
  rw [bits_join .u32 32 (by decide) wraps_u32 8 ((a.toNat : Int) * 16777216 + (b.toNat : Int) * 65536 + (c.toNat : Int) * 256) (d.toNat : Int) (by omega) (by omega) (by omega) (by omega) (by omega) (by omega)]
  unfold be4; omega

theorem nc9 {v l : Int} (h : v < l ∨ 2147483647 < v) : endOf (nCode v l) = .panicked [{ v := .iface 83 (.int .i64 9), recovered := false }] := by
  have : nCode v l = 9 := by unfold nCode; rw [if_pos h]
  rw [this]; rfl
theorem nc0 {v l : Int} (h : l ≤ v ∧ v ≤ 2147483647) : endOf (nCode v l) = .returned (.tuple #[]) := by
  have : nCode v l = 0 := by unfold nCode; rw [if_neg (by omega)]
  rw [this]; rfl

set_option maxHeartbeats 800000 in
theorem checkNumber_any (g off n cap : Nat) (x0 x1 x2 x3 : UInt8) (least : Int) (w : World) (hn : 4 ≤ n)
    (c0 : w.cell? ⟨g, off, none⟩ = some (.int .u8 x0.toNat)) (c1 : w.cell? ⟨g, off + 1, none⟩ = some (.int .u8 x1.toNat)) (c2 : w.cell? ⟨g, off + 2, none⟩ = some (.int .u8 x2.toNat))
    (c3 : w.cell? ⟨g, off + 3, none⟩ = some (.int .u8 x3.toNat)) :
    Calls Tryz.prog 165 #[.slice (some ⟨g, off, none⟩) n cap, .int .u32 least] w fun e w' => e = endOf (nCode (be4 x0 x1 x2 x3) least) ∧ ∃ k, w' = w.drewN k := by
  go_enter Tryz.func165, Tryz.ntmps165
  go_wp2
  go_quiet (fail)
  simp only [or_be4]
  go_wp2
  all_goals first
    | (refine bodyPost_end (results_none rfl _ _ _) rfl ⟨?_, ?_⟩)
    | refine ⟨rfl, ?_, ?_⟩
  all_goals first
    | exact ⟨_, rfl⟩
    | exact (nc9 (by assumption)).symm
    | exact (nc9 (Or.inl (by assumption))).symm
    | exact (nc0 (by assumption)).symm
end Go.Proofs.YtckeblkadiehbaaGreat
