import Derived.Test.YtjccnikmcoidhaaLeafNum
set_option linter.unusedVariables false
set_option linter.unusedSimpArgs false
/-
  frames.contentOf: what is left of a body without what pads it.
-/
namespace Go.Proofs.Ytjccnikmcoidhaa
open Go.RowKit

theorem pad_bad {p : UInt8} {r : List UInt8} {k : Nat} (hs : ¬ r.length < p.toNat) (hk : k < p.toNat) (hx : (p :: r).getD (r.length + 1 - p.toNat + k) 0 ≠ 0) :
    endOf (padCode (p :: r)) = .panicked [{ v := .iface 32 (.int .i64 9), recovered := false }] := by
  have : padCode (p :: r) = 9 := by
    simp only [padCode]
    rw [if_neg hs, if_neg]
    intro h
    rw [List.all_eq_true] at h
    have hm : (p :: r).getD (r.length + 1 - p.toNat + k) 0 ∈ (p :: r).drop (r.length + 1 - p.toNat) := by
      rw [getD_lt _ _ _ (by simp; omega)]
      rw [List.mem_drop_iff_getElem]
      exact ⟨k, by simp; omega, rfl⟩
    have := h _ hm
    simp at this
    exact hx (by simpa using this)
  rw [this]; rfl
theorem pad_good {p : UInt8} {r : List UInt8} (hs : ¬ r.length < p.toNat) (hz : ∀ j, j < p.toNat → (p :: r).getD (r.length + 1 - p.toNat + j) 0 = 0) :
    endOf (padCode (p :: r)) = .returned (.tuple #[]) := by
  have : padCode (p :: r) = 0 := by
    simp only [padCode]
    rw [if_neg hs, if_pos]
    rw [List.all_eq_true]
    intro x hx
    rw [List.mem_drop_iff_getElem] at hx
    obtain ⟨j, hj, rfl⟩ := hx
    have h1 := hz j (by simp at hj; omega)
    rw [getD_lt _ _ _ (by simp at hj ⊢; omega)] at h1
    simpa using h1
  rw [this]; rfl

theorem Hbelow {w w1 : World} {g off : Nat} {l : List UInt8} (hb : Below w.heap.size w w1) (hg : g < w.heap.size) (hc : ∀ i, i < l.length → w.cell? ⟨g, off + i, none⟩ = some (.int .u8 (l.getD i 0).toNat)) : ∀ i, i < l.length → w1.cell? ⟨g, off + i, none⟩ = some (.int .u8 (l.getD i 0).toNat) :=
  fun i hi => (hb.cell (p := ⟨g, off + i, none⟩) hg).trans (hc i hi)
theorem four_blk {w : World} {b : Nat} {v0 v1 v2 v3 : Value} {t : TypeId} (h : w.heap[b]? = some (.cells #[v0, v1, v2, v3] t (0, 0))) :
    w.cell? ⟨b, 0, none⟩ = some v0 ∧ w.cell? ⟨b, 1, none⟩ = some v1 ∧ w.cell? ⟨b, 2, none⟩ = some v2 ∧ w.cell? ⟨b, 3, none⟩ = some v3 := by
  refine ⟨?_, ?_, ?_, ?_⟩ <;> rw [cell_of_row w b _ _ _ _ h] <;> rfl
/-- Behind the box and the call of Has. -/
theorem boxed_has (k f s b : Int) (bv : Value) (w : World) (h0 : 0 ≤ f) (h1 : f < 256) (hb : b = 1 ∨ b = 8) {x : Bool} (hx : hasB f b = x) :
    Calls Try.prog 32 #[.agg #[.int .i64 k, .int .i64 f, .int .i64 s, bv], .int .i64 b] (w.alloc (.cells #[.int .i64 k, .int .i64 f, .int .i64 s, bv] 71)) fun e w' => e = .returned (.bool x) ∧ Below w.heap.size w w' ∧ w'.heap[w.heap.size]? = some (.cells #[.int .i64 k, .int .i64 f, .int .i64 s, bv] 71 (0, 0)) := by
  have hb0 : Below w.heap.size w (w.alloc (.cells #[.int .i64 k, .int .i64 f, .int .i64 s, bv] 71)) := (Below.refl _ _).alloc (Nat.le_refl _) _
  refine (has_any k f s b bv _ h0 h1 hb).mono ?_
  rintro e w' ⟨rfl, hb1⟩
  refine ⟨by rw [hx], hb0.trans (hb1.mono (by simp)), ?_⟩
  rw [hb1.block _ (by simp)]
  exact heap_alloc_new w _

set_option maxHeartbeats 800000 in
theorem contentOf_bare (k f s : Int) (bv : Value) (w : World) (h0 : 0 ≤ f) (h1 : f < 256) (hf : hasB f 8 = false) :
    Calls Try.prog 28 #[.agg #[.int .i64 k, .int .i64 f, .int .i64 s, bv]] w fun e w' => e = .returned bv ∧ Below w.heap.size w w' := by
  have HH := hide (boxed_has k f s 8 bv w h0 h1 (Or.inr rfl) hf)
  clear hf
  go_enter Try.func28, Try.ntmps28
  go_wp2_with fail
  refine HH.out.mono ?_
  rintro e w1 ⟨rfl, hb1, hr1⟩
  obtain ⟨z0, z1, z2, z3⟩ := four_blk hr1
  go_wp2
  go_ret
  exact ⟨rfl, hb1⟩

set_option maxHeartbeats 800000 in
theorem contentOf_none (k f s : Int) (sa : Option Addr) (cap : Nat) (w : World) (h0 : 0 ≤ f) (h1 : f < 256) (hf : hasB f 8 = true) :
    Calls Try.prog 28 #[.agg #[.int .i64 k, .int .i64 f, .int .i64 s, .slice sa 0 cap]] w fun e w' => e = .panicked [{ v := .iface 32 (.int .i64 9), recovered := false }] ∧ Below w.heap.size w w' := by
  have HH := hide (boxed_has k f s 8 (.slice sa 0 cap) w h0 h1 (Or.inr rfl) hf)
  clear hf
  go_enter Try.func28, Try.ntmps28
  go_wp2_with fail
  refine HH.out.mono ?_
  rintro e w1 ⟨rfl, hb1, hr1⟩
  obtain ⟨z0, z1, z2, z3⟩ := four_blk hr1
  go_wp2
  exact ⟨rfl, rfl, hb1⟩

/-- What a body is cut to: length m, behind its first byte. -/
def Cut (g off cap m : Nat) (cv : Value) : Prop := ∃ o, cv = .slice (some ⟨g, o, none⟩) m (cap - 1) ∧ (0 < m → o = off + 1)

set_option maxRecDepth 100000 in
set_option maxHeartbeats 1600000 in
theorem contentOf_pad (g off cap : Nat) (p : UInt8) (r : List UInt8) (k f s : Int) (w : World) (hl : r.length + 1 ≤ 64) (hcap : r.length + 1 ≤ cap) (h0 : 0 ≤ f) (h1 : f < 256) (hg : g < w.heap.size) (hf : hasB f 8 = true)
    (hc : ∀ i, i < (p :: r).length → w.cell? ⟨g, off + i, none⟩ = some (.int .u8 ((p :: r).getD i 0).toNat)) :
    Calls Try.prog 28 #[.agg #[.int .i64 k, .int .i64 f, .int .i64 s, .slice (some ⟨g, off, none⟩) (r.length + 1) cap]] w fun e w' =>
      ((padCode (p :: r) ≠ 0 ∧ e = .panicked [{ v := .iface 32 (.int .i64 9), recovered := false }]) ∨ (padCode (p :: r) = 0 ∧ ∃ cv, e = .returned cv ∧ Cut g off cap (r.length - p.toNat) cv)) ∧ Below w.heap.size w w' := by
  have hp : p.toNat < 256 := p.toNat_lt
  have hw : wrap64 (p.toNat : Int) = (p.toNat : Int) := by unfold wrap64; omega
  have c00 : w.cell? ⟨g, off, none⟩ = some (.int .u8 p.toNat) := by simpa using hc 0 (by simp)
  simp only [List.length_cons] at hc
  have HBAD : Hid (∀ k, ¬ r.length < p.toNat → k < p.toNat → (p :: r).getD (r.length + 1 - p.toNat + k) 0 ≠ 0 → padCode (p :: r) ≠ 0) := fun k a b c e => by
    have := pad_bad a b c
    rw [e] at this; cases this
  have HGOOD : Hid (¬ r.length < p.toNat → (∀ j, j < p.toNat → (p :: r).getD (r.length + 1 - p.toNat + j) 0 = 0) → padCode (p :: r) = 0) := fun a b => by
    have := pad_good a b
    unfold endOf at this
    split at this
    · assumption
    · cases this
  have HSH : Hid (r.length < p.toNat → padCode (p :: r) ≠ 0) := fun h => by simp [padCode, h]
  have HC : Hid (∀ i, i < r.length + 1 → w.cell? ⟨g, off + i, none⟩ = some (.int .u8 ((fun j => (p :: r).getD j 0) i).toNat)) := hc
  obtain ⟨X, hX⟩ : ∃ X : Nat → UInt8, X = fun j => (p :: r).getD j 0 := ⟨_, rfl⟩
  have hXj : ∀ j, (p :: r).getD j 0 = X j := fun j => by rw [hX]
  rw [← hX] at HC
  simp only [hXj] at HBAD HGOOD
  clear hc hX hXj
  generalize padCode (p :: r) = pc at *
  generalize p.toNat = pn at *
  generalize r.length = n at *
  clear p r
  have HH := hide (boxed_has k f s 8 (.slice (some ⟨g, off, none⟩) (n + 1) cap) w h0 h1 (Or.inr rfl) hf)
  clear hf
  go_enter Try.func28, Try.ntmps28
  go_wp2_with fail
  refine HH.out.mono ?_
  rintro e w1 ⟨rfl, hb1, hr1⟩
  obtain ⟨z0, z1, z2, z3⟩ := four_blk hr1
  have HC1 : Hid (∀ i, i < n + 1 → w1.cell? ⟨g, off + i, none⟩ = some (.int .u8 (X i).toNat)) := fun i hi => (hb1.cell (p := ⟨g, off + i, none⟩) hg).trans (HC.out i hi)
  have c0 : w1.cell? ⟨g, off, none⟩ = some (.int .u8 pn) := (hb1.cell (p := ⟨g, off, none⟩) hg).trans c00
  have HB1 := hide hb1
  clear hb1 hr1 HC HH c00
  by_cases hs : n < pn
  · have HZ := hide (HSH.out hs)
    go_wp2
    exact ⟨rfl, Or.inl ⟨HZ.out, rfl⟩, HB1.out⟩
  · obtain ⟨m, hm⟩ : ∃ m, n = m + pn := ⟨n - pn, by omega⟩
    subst hm
    have hle : pn ≤ m + pn := by omega
    clear hs
    have hsub : ((m : Int) + (pn : Int) + 1 - (pn : Int)) = ((m + 1 : Nat) : Int) := by omega
    by_cases h0 : pn = 0
    · have HZ := hide (HGOOD.out (by omega) (fun j hj => by omega))
      subst h0
      simp only [Nat.add_zero] at *
      clear hsub hw hle hp
      by_cases hm1 : m + 1 = cap
      · by_cases hm0 : m = 0
        · subst hm0
          subst hm1
          go_wp2
          all_goals refine wp_loop_rounds 1 ?_
          all_goals rw [rounds_succ]
          all_goals go_wp2
          all_goals go_ret
          all_goals refine ⟨Or.inr ⟨HZ.out, _, rfl, ?_⟩, HB1.out⟩
          all_goals first | exact ⟨_, rfl, fun _ => rfl⟩ | exact ⟨_, rfl, fun h => absurd h (by simp)⟩
        · subst hm1
          have hc1 : 1 < m + 1 := by omega
          go_wp2
          all_goals refine wp_loop_rounds 1 ?_
          all_goals rw [rounds_succ]
          all_goals go_wp2
          all_goals go_ret
          all_goals refine ⟨Or.inr ⟨HZ.out, _, rfl, ?_⟩, HB1.out⟩
          all_goals first | exact ⟨_, rfl, fun _ => rfl⟩ | exact ⟨_, rfl, fun h => absurd h (by simp)⟩
      · have hc1 : m + 1 < cap := by omega
        go_wp2
        all_goals refine wp_loop_rounds 1 ?_
        all_goals rw [rounds_succ]
        all_goals go_wp2
        all_goals go_ret
        all_goals refine ⟨Or.inr ⟨HZ.out, _, rfl, ?_⟩, HB1.out⟩
        all_goals first | exact ⟨_, rfl, fun _ => rfl⟩ | exact ⟨_, rfl, fun h => absurd h (by simp)⟩
    · have hpos : 0 < pn := by omega
      have hc1 : m + 1 < cap := by omega
      have hc2 : 1 < cap := by omega
      go_wp2
      go_loop [40] (fun i => ∃ k : Nat, k ≤ pn ∧ i = .int .i64 k ∧ ∀ j, j < k → X (m + pn + 1 - pn + j) = 0) (fun i => pn - (intOf i).toNat)
      case atStart => exact ⟨0, Nat.zero_le _, rfl, fun j hj => by omega⟩
      case round =>
        obtain ⟨k, hk, rfl, hz⟩ := hrel
        have HZ := hide hz
        clear hz
        by_cases hlt : k < pn
        · obtain ⟨x, hx⟩ : ∃ x, x = X (m + pn + 1 - pn + k) := ⟨_, rfl⟩
          have hck : w1.cell? ⟨g, off + (m + 1) + k, none⟩ = some (.int .u8 x.toNat) := by
            rw [hx, show m + pn + 1 - pn + k = m + 1 + k from by omega, Nat.add_assoc]
            exact HC1.out _ (by omega)
          have HX := hide hx
          clear hx
          by_cases h0x : x.toNat = 0
          · have hb : ((x.toNat : Int) != 0) = false := by simp [h0x]
            go_wp2
            go_round
            case rel =>
              refine ⟨k + 1, by omega, by go_num, fun j hj => ?_⟩
              by_cases e : j < k
              · exact HZ.out j e
              · have : j = k := by omega
                subst this
                rw [← HX.out]; exact UInt8.toNat_inj.1 h0x
            case measure => simp [intOf]; omega
          · have hb : ((x.toNat : Int) != 0) = true := by simp [h0x]
            have HE := hide (HBAD.out k (by omega) hlt (by rw [← HX.out]; intro e; exact h0x (by rw [e]; rfl)))
            go_wp2
            exact ⟨rfl, Or.inl ⟨HE.out, rfl⟩, HB1.out⟩
        · have HE := hide (HGOOD.out (by omega) (fun j hj => HZ.out j (by omega)))
          go_wp2
          go_ret
          refine ⟨Or.inr ⟨HE.out, _, rfl, ?_⟩, HB1.out⟩
          exact ⟨_, rfl, fun _ => rfl⟩
end Go.Proofs.Ytjccnikmcoidhaa
