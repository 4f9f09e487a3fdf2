import Derived.Test.YtjccnikmcoidhaaTakeR
import Derived.Test.YtjccnikmcoidhaaClos
set_option linter.unusedVariables false
set_option linter.unusedSimpArgs false
/-
  Frames that a reader tells, in memory.
-/
namespace Go.Proofs.Ytjccnikmcoidhaa
open Go.RowKit

theorem Try.info26 : (Try.prog.info? 26).map (fun i => (i.zero, i.size, i.bytes)) = some (some (.agg #[.int .i64 0, .int .i64 0, .int .i64 0, .slice none 0 0]), 4, 48) := by kernel_rfl

/-- The cells of frames, each with the value of its body. -/
def cellsOf : List (Fr × Value) → List Value
  | [] => []
  | p :: r => .int .i64 p.1.kind :: .int .i64 p.1.flags :: .int .i64 p.1.stream :: p.2 :: cellsOf r

theorem cellsOf_length (ps : List (Fr × Value)) : (cellsOf ps).length = ps.length * 4 := by
  induction ps with
  | nil => rfl
  | cons p r ih => simp [cellsOf, ih]; omega
theorem cellsOf_append (a b : List (Fr × Value)) : cellsOf (a ++ b) = cellsOf a ++ cellsOf b := by
  induction a with
  | nil => rfl
  | cons p r ih => simp [cellsOf, ih]

/-- The blocks of the bodies. -/
def bodyBlocks (ps : List (Fr × Value)) : List Nat := ps.filterMap (fun p => p.2.ownBlock)

theorem bodyBlocks_append (a b : List (Fr × Value)) : bodyBlocks (a ++ b) = bodyBlocks a ++ bodyBlocks b := by simp [bodyBlocks]
theorem mem_bodyBlocks {ps : List (Fr × Value)} {k : Nat} : k ∈ bodyBlocks ps ↔ ∃ p ∈ ps, p.2.ownBlock = some k := by simp [bodyBlocks]

/-- A list of frames that the program has made, from block lo on; no two bodies share a block. -/
structure FrsOwn (w : World) (lo : Nat) (v : Value) (ps : List (Fr × Value)) : Prop where
  row : w.ownsRow lo 26 4 v ps.length (cellsOf ps)
  body : ∀ p ∈ ps, w.ownsRow lo 5 1 p.2 p.1.body.length (p.1.body.map B)
  nodup : (bodyBlocks ps).Nodup

theorem FrsOwn.nil (w : World) (lo : Nat) : FrsOwn w lo (.slice none 0 0) [] := ⟨World.ownsRow_nil _ _ _ _, by simp, by simp [bodyBlocks]⟩

theorem FrsOwn.chg {S : Nat → Prop} {w w' : World} {lo : Nat} {v : Value} {ps : List (Fr × Value)} (h : FrsOwn w lo v ps) (hc : Chg S w w') (hs : ∀ k, lo ≤ k → k < w.heap.size → ¬ S k) : FrsOwn w' lo v ps :=
  ⟨owns_chg h.row hc (fun k hk => hs k (h.row.lt k hk).1 (h.row.lt k hk).2), fun p hp => owns_chg (h.body p hp) hc (fun k hk => hs k ((h.body p hp).lt k hk).1 ((h.body p hp).lt k hk).2), h.nodup⟩
/-- .. where neither the row nor a body is touched. -/
theorem FrsOwn.chg' {S : Nat → Prop} {w w' : World} {lo : Nat} {v : Value} {ps : List (Fr × Value)} (h : FrsOwn w lo v ps) (hc : Chg S w w') (h1 : ∀ k, v.ownBlock = some k → ¬ S k) (h2 : ∀ k ∈ bodyBlocks ps, ¬ S k) : FrsOwn w' lo v ps :=
  ⟨owns_chg h.row hc h1, fun p hp => owns_chg (h.body p hp) hc (fun k hk => h2 k (mem_bodyBlocks.2 ⟨p, hp, hk⟩)), h.nodup⟩
theorem FrsOwn.blocks {w : World} {lo : Nat} {v : Value} {ps : List (Fr × Value)} (h : FrsOwn w lo v ps) {k : Nat} (hk : k ∈ bodyBlocks ps) : lo ≤ k ∧ k < w.heap.size := by
  obtain ⟨p, hp, e⟩ := mem_bodyBlocks.1 hk
  exact (h.body p hp).lt k e

/-- A reader, with a fault or without. -/
def RdT (w : World) (rb : Nat) (gv : Value) (r : Rd) : Prop :=
  (r.code = 0 ∧ RdS w rb gv r.got) ∨ (r.code ≠ 0 ∧ gv = .slice none 0 0 ∧ r.got = [] ∧ RdB w rb gv 0 0 0 0 r.code)

theorem wiped_rd {w : World} {fa rb : Nat} {c : Int} {gv : Value} {L K F S c0 : Int} (h : RdB w rb gv L K F S c0) (hne : fa ≠ rb) : RdB (wiped w fa rb c) rb (.slice none 0 0) 0 0 0 0 c := by
  have h0 : RdB (w.setCell ⟨fa, 0, none⟩ (.int .i64 c)) rb gv L K F S c0 := by
    unfold RdB; rw [Below.heap_setCell _ _ _ _ (by simp; omega)]; exact h
  have h1 := block_setCell (i := 0) (u := .slice none 0 0) h0
  have h2 := block_setCell (i := 1) (u := .int .i64 0) h1
  have h3 := block_setCell (i := 2) (u := .int .i64 0) h2
  have h4 := block_setCell (i := 3) (u := .int .i64 0) h3
  have h5 := block_setCell (i := 4) (u := .int .i64 0) h4
  have h6 := block_setCell (i := 5) (u := .int .i64 c) h5
  exact h6
theorem wiped_chg (w : World) (fa rb : Nat) (c : Int) : Chg (fun k => k = fa ∨ k = rb) w (wiped w fa rb c) := by
  unfold wiped
  exact (((((((Chg.refl (fun k => k = fa ∨ k = rb) w).setCell (p := ⟨fa, 0, none⟩) (Or.inr (Or.inl rfl)) _).setCell (p := ⟨rb, 0, none⟩) (Or.inr (Or.inr rfl)) _).setCell (p := ⟨rb, 1, none⟩) (Or.inr (Or.inr rfl)) _).setCell (p := ⟨rb, 2, none⟩) (Or.inr (Or.inr rfl)) _).setCell (p := ⟨rb, 3, none⟩) (Or.inr (Or.inr rfl)) _).setCell (p := ⟨rb, 4, none⟩) (Or.inr (Or.inr rfl)) _).setCell (p := ⟨rb, 5, none⟩) (Or.inr (Or.inr rfl)) _
theorem wiped_fa {w : World} {fa rb : Nat} {c : Int} {t : TypeId} {v : Value} (h : w.heap[fa]? = some (.cells #[v] t (0, 0))) (hne : fa ≠ rb) : (wiped w fa rb c).cell? ⟨fa, 0, none⟩ = some (.int .i64 c) := by
  unfold wiped
  have h1 := one_setCell (u := .int .i64 c) h
  have hc : Chg (fun k => k = rb) (w.setCell ⟨fa, 0, none⟩ (.int .i64 c)) (wiped w fa rb c) := by
    unfold wiped
    exact ((((((Chg.refl (fun k => k = rb) _).setCell (p := ⟨rb, 0, none⟩) (Or.inr rfl) _).setCell (p := ⟨rb, 1, none⟩) (Or.inr rfl) _).setCell (p := ⟨rb, 2, none⟩) (Or.inr rfl) _).setCell (p := ⟨rb, 3, none⟩) (Or.inr rfl) _).setCell (p := ⟨rb, 4, none⟩) (Or.inr rfl) _).setCell (p := ⟨rb, 5, none⟩) (Or.inr rfl) _
  have := hc.cell (p := ⟨fa, 0, none⟩) (lt_of_block h1) (by simp; omega)
  unfold wiped at this
  rw [this]
  exact cell_of_one h1
end Go.Proofs.Ytjccnikmcoidhaa
