import Derived.Test.YtjccnikmcoidhaaKeepLeaf
set_option linter.unusedVariables false
set_option linter.unusedSimpArgs false
/-
  sluicekeep.tameBody: a body that a frame may have. Small facts.
-/
namespace Go.Proofs.Ytjccnikmcoidhaa
open Go.RowKit

/-- A body that is right by kind and flags. -/
structure TB (k f : Int) (body : List UInt8) : Prop where
  n : body.length ≤ 64
  ln : lFits body.length k f = true
  bd : bodyCode k f body = 0

/-- The end of tameBody. -/
def Tamed (w w' : World) (k f : Int) (e : Ending) : Prop := ∃ v body, e = .returned v ∧ w'.ownsRow w.heap.size 5 1 v body.length (body.map B) ∧ TB k f body ∧ Below w.heap.size w w'

theorem bytesIn_cut {w : World} {bb off cap : Nat} {l : List UInt8} (h : BytesA w (.slice (some ⟨bb, off, none⟩) l.length cap) l) (hl : 64 ≤ l.length) : BytesA w (.slice (some ⟨bb, off, none⟩) 64 cap) (l.take 64) := by
  rcases h with (⟨h, _⟩ | ⟨bb', off', cap', he, h1, h2, h3⟩) | ⟨_, _, rfl⟩
  · cases h
  · simp only [Value.slice.injEq, Option.some.injEq, Addr.mk.injEq, and_true, true_and] at he
    obtain ⟨⟨rfl, rfl⟩, rfl⟩ := he
    have hlen : (l.take 64).length = 64 := by simp; omega
    refine Or.inl (Or.inr ⟨bb, off, cap, by rw [hlen], h1, by omega, fun i hi => ?_⟩)
    rw [h3 i (by omega)]
    have : (l.take 64).getD i 0 = l.getD i 0 := by
      rw [hlen] at hi
      simp [List.getD, hi]
    rw [this]
  · simp at hl

theorem bytesIn_addr {w : World} {sa : Option Addr} {cap : Nat} {l : List UInt8} (h : BytesA w (.slice sa l.length cap) l) (hl : 0 < l.length) : ∃ bb off, sa = some ⟨bb, off, none⟩ ∧ l.length ≤ cap ∧ bb < w.heap.size := by
  rcases h with (⟨_, rfl⟩ | ⟨bb, off, cap', he, h1, h2, h3⟩) | ⟨_, _, rfl⟩
  · simp at hl
  · simp only [Value.slice.injEq] at he
    exact ⟨bb, off, he.1, by omega, h1⟩
  · simp at hl

theorem tb_one {k f : Int} {body : List UInt8} (hk : k = 2 ∨ k = 5) (hl : body.length = 1) : TB k f body := by
  refine ⟨by omega, ?_, ?_⟩
  · rcases hk with rfl | rfl <;> simp [lFits, hl]
  · rcases hk with rfl | rfl <;> simp [bodyCode]
theorem tb_four {f : Int} {body : List UInt8} (hl : body.length = 4) : TB 4 f body := ⟨by omega, by simp [lFits, hl], by simp [bodyCode]⟩
theorem tb_ack {f : Int} (h : hasB f 1 = true) : TB 3 f [] := ⟨by simp, by simp [lFits, h], by simp [bodyCode, h]⟩
theorem tb_bare {f : Int} {body : List UInt8} (hl : body.length ≤ 64) (h : hasB f 8 = false) : TB 0 f body := ⟨hl, by simp [lFits], by simp [bodyCode, h]⟩
theorem tb_else {k f : Int} {body : List UInt8} (hl : body.length ≤ 64) (h : ¬ k = 0 ∧ ¬ k = 2 ∧ ¬ k = 3 ∧ ¬ k = 4 ∧ ¬ k = 5 ∧ ¬ k = 6) : TB k f body := by
  obtain ⟨a, b, c, d, e, g⟩ := h
  exact ⟨hl, by simp [lFits, b, c, d, e, g], by simp [bodyCode, a, c, g]⟩
theorem tb_num {k f : Int} {x0 x1 x2 x3 : UInt8} (hk : (k = 3 ∧ hasB f 1 = false) ∨ k = 6) (h1 : 1 ≤ be4 x0 x1 x2 x3) (h2 : be4 x0 x1 x2 x3 ≤ 2147483647) : TB k f [x0, x1, x2, x3] := by
  refine ⟨by simp, ?_, ?_⟩
  · rcases hk with ⟨rfl, h⟩ | rfl
    · simp [lFits, h]
    · simp [lFits]
  · rcases hk with ⟨rfl, h⟩ | rfl
    · simp [bodyCode, h, numCode, num4, nCode]; omega
    · simp [bodyCode, numCode, num4, nCode]; omega
theorem tb_pad {f : Int} {body : List UInt8} (hl : body.length ≤ 64) (h : hasB f 8 = true) (hp : padCode body = 0) : TB 0 f body := ⟨hl, by simp [lFits], by simp [bodyCode, h, hp]⟩

/-- Noughts at the end. -/
theorem pad_ok {p : UInt8} {r : List UInt8} (hp : p.toNat ≤ r.length) (h : ∀ j, r.length + 1 - p.toNat ≤ j → j < r.length + 1 → (p :: r).getD j 0 = 0) : padCode (p :: r) = 0 := by
  simp only [padCode]
  rw [if_neg (by omega), if_pos]
  rw [List.all_eq_true]
  intro x hx
  rw [List.mem_drop_iff_getElem] at hx
  obtain ⟨j, hj, rfl⟩ := hx
  simp only [List.length_cons] at hj
  have h1 := h (r.length + 1 - p.toNat + j) (by omega) (by omega)
  rw [getD_lt _ _ _ (by simp; omega)] at h1
  simpa using h1

theorem owns_set {w : World} {base g n cap : Nat} {l : List UInt8} (h : w.ownsRow base 5 1 (.slice (some ⟨g, 0, none⟩) n cap) n (l.map B)) (j : Nat) (c : UInt8) :
    (w.setCell ⟨g, j, none⟩ (B c)).ownsRow base 5 1 (.slice (some ⟨g, 0, none⟩) n cap) n ((l.set j c).map B) := by
  have := h.stored j (B c)
  rw [List.map_set]
  exact this.1
theorem owns_cell {w : World} {base g n cap : Nat} {l : List UInt8} (h : w.ownsRow base 5 1 (.slice (some ⟨g, 0, none⟩) n cap) n (l.map B)) {j : Nat} (hj : j < n) : w.cell? ⟨g, j, none⟩ = some (.int .u8 (l.getD j 0).toNat) := by
  have hl : l.length = n := by have := h.1; simpa using this
  rw [h.cellAt j (by omega)]
  simp [List.getD, hl, hj]
end Go.Proofs.Ytjccnikmcoidhaa
