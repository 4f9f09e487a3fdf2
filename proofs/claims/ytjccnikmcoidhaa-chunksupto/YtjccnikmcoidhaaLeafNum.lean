import Derived.Test.YtjccnikmcoidhaaLeaf
set_option linter.unusedVariables false
set_option linter.unusedSimpArgs false
/-
  frames.checkNumber: four bytes, a number that is least or more, MaxNumber or less.
-/
namespace Go.Proofs.Ytjccnikmcoidhaa
open Go.RowKit

theorem wraps_u32 (n : Int) (h0 : 0 ≤ n) (h1 : n < 2 ^ 32) : IntKind.u32.wrap n = n := by rw [IntKind.wrap_u32']; omega
theorem or_be4 (a b c d : UInt8) : bits BinOp.or IntKind.u32 (bits BinOp.or IntKind.u32 (bits BinOp.or IntKind.u32 ((a.toNat : Int) % 4294967296 * 16777216 % 4294967296) ((b.toNat : Int) % 4294967296 * 65536 % 4294967296))
    ((c.toNat : Int) % 4294967296 * 256 % 4294967296)) ((d.toNat : Int) % 4294967296) = be4 a b c d := by
  have ha : a.toNat < 256 := a.toNat_lt
  have hb : b.toNat < 256 := b.toNat_lt
  have hc : c.toNat < 256 := c.toNat_lt
  have hd : d.toNat < 256 := d.toNat_lt
  have e1 : (a.toNat : Int) % 4294967296 * 16777216 % 4294967296 = (a.toNat : Int) * 16777216 := by omega
  have e2 : (b.toNat : Int) % 4294967296 * 65536 % 4294967296 = (b.toNat : Int) * 65536 := by omega
  have e3 : (c.toNat : Int) % 4294967296 * 256 % 4294967296 = (c.toNat : Int) * 256 := by omega
  have e4 : (d.toNat : Int) % 4294967296 = (d.toNat : Int) := by omega
  rw [e1, e2, e3, e4]
  rw [bits_join .u32 32 (by decide) wraps_u32 24 ((a.toNat : Int) * 16777216) ((b.toNat : Int) * 65536) (by omega) (by omega) (by omega) (by omega) (by omega) (by omega)]
  rw [bits_join .u32 32 (by decide) wraps_u32 16 ((a.toNat : Int) * 16777216 + (b.toNat : Int) * 65536) ((c.toNat : Int) * 256) (by omega) (by omega) (by omega) (by omega) (by omega) (by omega)]
  rw [bits_join .u32 32 (by decide) wraps_u32 8 ((a.toNat : Int) * 16777216 + (b.toNat : Int) * 65536 + (c.toNat : Int) * 256) (d.toNat : Int) (by omega) (by omega) (by omega) (by omega) (by omega) (by omega)]
  unfold be4; omega

theorem nc9 {v l : Int} (h : v < l ∨ 2147483647 < v) : endOf (nCode v l) = .panicked [{ v := .iface 32 (.int .i64 9), recovered := false }] := by
  have : nCode v l = 9 := by unfold nCode; rw [if_pos h]
  rw [this]; rfl
theorem nc0 {v l : Int} (h : l ≤ v ∧ v ≤ 2147483647) : endOf (nCode v l) = .returned (.tuple #[]) := by
  have : nCode v l = 0 := by unfold nCode; rw [if_neg (by omega)]
  rw [this]; rfl

/-- What a call ends with that answers v, or has found a fault. -/
def endVal (v : Value) (c : Int) : Ending := if c = 0 then .returned v else .panicked [{ v := .iface 32 (.int .i64 c), recovered := false }]
theorem endVal0 (v : Value) : endVal v 0 = .returned v := rfl
theorem endVal_ne {v : Value} {c : Int} (h : c ≠ 0) : endVal v c = .panicked [{ v := .iface 32 (.int .i64 c), recovered := false }] := by simp [endVal, h]
theorem ev9 {v : Value} {x l : Int} (h : x < l ∨ 2147483647 < x) : endVal v (nCode x l) = .panicked [{ v := .iface 32 (.int .i64 9), recovered := false }] := by
  have : nCode x l = 9 := by unfold nCode; rw [if_pos h]
  rw [this]; rfl
theorem ev0 {v : Value} {x l : Int} (h : l ≤ x ∧ x ≤ 2147483647) : endVal v (nCode x l) = .returned v := by
  have : nCode x l = 0 := by unfold nCode; rw [if_neg (by omega)]
  rw [this]; rfl

set_option maxHeartbeats 800000 in
theorem fnum_any (g off n cap : Nat) (x0 x1 x2 x3 : UInt8) (w : World) (hn : 4 ≤ n)
    (c0 : w.cell? ⟨g, off, none⟩ = some (.int .u8 x0.toNat)) (c1 : w.cell? ⟨g, off + 1, none⟩ = some (.int .u8 x1.toNat)) (c2 : w.cell? ⟨g, off + 2, none⟩ = some (.int .u8 x2.toNat))
    (c3 : w.cell? ⟨g, off + 3, none⟩ = some (.int .u8 x3.toNat)) :
    Calls Try.prog 30 #[.slice (some ⟨g, off, none⟩) n cap] w fun e w' => e = .returned (.int .u32 (be4 x0 x1 x2 x3)) ∧ ∃ k, w' = w.drewN k := by
  go_enter Try.func30, Try.ntmps30
  go_wp2
  go_quiet (fail)
  simp only [or_be4]
  go_wp2
  go_ret
  exact ⟨rfl, _, rfl⟩

theorem be4_bounds (a b c d : UInt8) : 0 ≤ be4 a b c d ∧ be4 a b c d < 4294967296 := by
  have ha : a.toNat < 256 := a.toNat_lt
  have hb : b.toNat < 256 := b.toNat_lt
  have hc : c.toNat < 256 := c.toNat_lt
  have hd : d.toNat < 256 := d.toNat_lt
  unfold be4
  omega

set_option maxHeartbeats 800000 in
theorem numberFrom_any (g off n cap : Nat) (x0 x1 x2 x3 : UInt8) (least : Int) (w : World) (hn : 4 ≤ n)
    (c0 : w.cell? ⟨g, off, none⟩ = some (.int .u8 x0.toNat)) (c1 : w.cell? ⟨g, off + 1, none⟩ = some (.int .u8 x1.toNat)) (c2 : w.cell? ⟨g, off + 2, none⟩ = some (.int .u8 x2.toNat))
    (c3 : w.cell? ⟨g, off + 3, none⟩ = some (.int .u8 x3.toNat)) :
    Calls Try.prog 31 #[.int .u32 least, .slice (some ⟨g, off, none⟩) n cap] w fun e w' => e = endVal (.int .i64 (be4 x0 x1 x2 x3)) (nCode (be4 x0 x1 x2 x3) least) ∧ ∃ k, w' = w.drewN k := by
  obtain ⟨b0, b1⟩ := be4_bounds x0 x1 x2 x3
  have HN := hide (fnum_any g off n cap x0 x1 x2 x3 w hn c0 c1 c2 c3)
  clear c0 c1 c2 c3
  generalize be4 x0 x1 x2 x3 = x at *
  by_cases hbad : x < least ∨ 2147483647 < x
  · have HE := hide (ev9 (v := .int .i64 x) hbad)
    by_cases h1 : x < least
    · clear hbad
      go_enter Try.func31, Try.ntmps31
      go_wp2_with fail
      refine HN.out.mono ?_
      rintro e w1 ⟨rfl, k, rfl⟩
      go_wp2
      exact ⟨rfl, HE.out.symm, _, rfl⟩
    · have h2 : 2147483647 < x := by omega
      clear hbad
      go_enter Try.func31, Try.ntmps31
      go_wp2_with fail
      refine HN.out.mono ?_
      rintro e w1 ⟨rfl, k, rfl⟩
      go_wp2
      exact ⟨rfl, HE.out.symm, _, rfl⟩
  · have h1 : least ≤ x ∧ x ≤ 2147483647 := by omega
    have HE := hide (ev0 (v := .int .i64 x) h1)
    obtain ⟨h1, h2⟩ := h1
    clear hbad
    go_enter Try.func31, Try.ntmps31
    go_wp2_with fail
    refine HN.out.mono ?_
    rintro e w1 ⟨rfl, k, rfl⟩
    go_wp2
    go_ret
    exact ⟨HE.out.symm, _, rfl⟩
end Go.Proofs.Ytjccnikmcoidhaa
