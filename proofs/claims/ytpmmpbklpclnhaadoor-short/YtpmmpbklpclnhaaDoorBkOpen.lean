import Derived.Test.YtpmmpbklpclnhaaDoorBkLaid
set_option linter.unusedVariables false
set_option linter.unusedSimpArgs false
/-
  A list of pairs that comes in, as it reads.
-/
namespace Go.Proofs.YtpmmpbklpclnhaaDoor
set_option linter.unusedVariables false
set_option linter.unusedSimpArgs false
open Go.ChangeShapes Go.WideShapes Go.ChangeAt Go.RowKit

section
variable {H : Type} {enc : TypeId × Value → H} {W : World}
theorem open_heads {fuel : Nat} {sa : Option Addr} {len cap : Nat} {x : DataW H × List MemPlace} (h : DataW.trod enc Tryd.prog W 0 (fun _ => true) true fuel 34 [.slice sa len cap] = some x) :
    ∃ hs : List HP, hs.length = len ∧ len ≤ 9223372036854775807 ∧ (∀ y ∈ hs, y.n.size ≤ 9223372036854775807 ∧ y.v.size ≤ 9223372036854775807) ∧
      (len = 0 ∨ ∃ bb off, sa = some ⟨bb, off, none⟩ ∧ bb < W.heap.size ∧ ∀ i (hi : i < hs.length), W.cell? ⟨bb, off + i * 2, none⟩ = some (.string hs[i].n) ∧ W.cell? ⟨bb, off + i * 2 + 1, none⟩ = some (.string hs[i].v)) := by
  rcases Deep.open_slice Tryd.underlying34 h with ⟨hcs, _⟩ | ⟨a, len', cap', m, n, D, Pl, hcs, _, hl, hmx, hm, hx, hel⟩
  · simp at hcs
    obtain ⟨rfl, rfl, rfl⟩ := hcs
    exact ⟨[], rfl, by omega, by simp, Or.inl rfl⟩
  · simp at hcs
    obtain ⟨rfl, rfl, rfl⟩ := hcs
    simp only [if_true] at hm
    rw [cellsHdr] at hel
    have hone : ∀ i, i < len → ∃ q : HP, W.cell? (a.add (i * 2)) = some (.string q.n) ∧ W.cell? ((a.add (i * 2)).add 1) = some (.string q.v) ∧ q.n.size ≤ maxLen ∧ q.v.size ≤ maxLen := by
      intro i hi
      obtain ⟨cs, hc1, hc2⟩ := hel i (by omega)
      obtain ⟨_, hlen, hcell⟩ := World.cells?_some hc1
      match cs, hlen with
      | [c0, c1], _ =>
        obtain ⟨q, rfl, rfl, _, m0, m1⟩ := hdr_reads hc2
        have d0 := hcell 0 (by omega)
        have d1 := hcell 1 (by omega)
        refine ⟨q, ?_, d1, m0, m1⟩
        simpa [Addr.add] using d0
    obtain ⟨f, hf⟩ := @Deep.choose_lt HP ⟨⟨⟨#[]⟩, ⟨#[]⟩⟩⟩ _ _ hone
    have hml : len ≤ 9223372036854775807 := by have := hmx; unfold maxLen at this; omega
    refine ⟨(List.range len).map f, by simp, hml, ?_, ?_⟩
    · intro y hy
      obtain ⟨i, hi, rfl⟩ := List.mem_map.1 hy
      obtain ⟨_, _, m0, m1⟩ := hf i (by simpa using hi)
      unfold maxLen at m0 m1
      exact ⟨by omega, by omega⟩
    · rcases Nat.eq_zero_or_pos len with h0 | h0
      · exact Or.inl h0
      · right
        obtain ⟨b, off, spot⟩ := a
        have hspot : spot = none := by
          obtain ⟨g0, _⟩ := hf 0 h0
          simpa [Addr.add] using World.cell?_spot g0
        subst hspot
        have ad : ∀ j, (⟨b, off, none⟩ : Addr).add j = ⟨b, off + j, none⟩ := fun j => by unfold Addr.add; split <;> simp_all
        have ad2 : ∀ i j, ((⟨b, i, none⟩ : Addr)).add j = ⟨b, i + j, none⟩ := fun i j => by unfold Addr.add; split <;> simp_all
        refine ⟨b, off, rfl, ?_, fun i hi => ?_⟩
        · obtain ⟨g0, _⟩ := hf 0 h0
          rw [ad] at g0
          exact World.block_lt_of_cell? W _ g0
        · simp at hi
          obtain ⟨e0, e1, _⟩ := hf i hi
          rw [ad] at e0 e1
          rw [ad2] at e1
          simp only [List.getElem_map, List.getElem_range]
          exact ⟨e0, e1⟩
end
end Go.Proofs.YtpmmpbklpclnhaaDoor
