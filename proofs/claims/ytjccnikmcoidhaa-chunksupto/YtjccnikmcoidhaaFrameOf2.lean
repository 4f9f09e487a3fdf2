import Derived.Test.YtjccnikmcoidhaaFrameOf
set_option linter.unusedVariables false
set_option linter.unusedSimpArgs false
/-
  frames.frameOf: the kinds whose bodies are numbers; all kinds.
-/
namespace Go.Proofs.Ytjccnikmcoidhaa
set_option linter.unusedVariables false
set_option linter.unusedSimpArgs false
open Go.RowKit

theorem bodyCode_six (f : Int) (l : List UInt8) : bodyCode 6 f l = numCode l 1 := by simp [bodyCode]

set_option maxRecDepth 100000 in
set_option maxHeartbeats 1600000 in
theorem frameOf_settings (bv : Value) (l : List UInt8) (f s : Int) (w : World) (h0 : 0 ≤ f) (h1 : f < 256) (hb : BodyIn w bv l) (h4 : hasB f 1 = false → l.length = 4) :
    Calls Try.prog 25 #[.agg #[.int .i64 3, .int .i64 f, .int .i64 s, bv]] w fun e w' => Framed w w' e 3 f s bv l := by
  have hco := fun (w2 : World) (hb2 : Below w.heap.size w w2) => settingOf_any bv l f s w2 h0 h1 (hb.below hb2) h4
  obtain ⟨sa, n, cap, rfl⟩ := hb.slice
  have hb2 := below_two w (.cells #[.int .i64 3, .int .i64 f, .int .i64 s, .slice sa n cap] 26) (.cells #[.int .i64 3, .int .i64 f, .int .i64 s, .slice sa n cap] 71)
  have hr2 := heap_alloc_new (w.alloc (.cells #[.int .i64 3, .int .i64 f, .int .i64 s, .slice sa n cap] 26)) (.cells #[.int .i64 3, .int .i64 f, .int .i64 s, .slice sa n cap] 71)
  have hq2 : ((w.alloc (.cells #[.int .i64 3, .int .i64 f, .int .i64 s, .slice sa n cap] 26)).alloc (.cells #[.int .i64 3, .int .i64 f, .int .i64 s, .slice sa n cap] 71)).heap[w.heap.size]? = some (.cells #[.int .i64 3, .int .i64 f, .int .i64 s, .slice sa n cap] 26 (0, 0)) := by
    rw [((Below.refl _ (w.alloc (.cells #[.int .i64 3, .int .i64 f, .int .i64 s, .slice sa n cap] 26))).alloc (Nat.le_refl _) (.cells #[.int .i64 3, .int .i64 f, .int .i64 s, .slice sa n cap] 71)).block _ (by simp)]
    exact heap_alloc_new w _
  have hz : (w.alloc (.cells #[.int .i64 3, .int .i64 f, .int .i64 s, .slice sa n cap] 26)).heap.size = w.heap.size + 1 := by simp
  rw [hz] at hr2
  clear hz hb
  obtain ⟨w2, hw2⟩ : ∃ w2, w2 = ((w.alloc (.cells #[.int .i64 3, .int .i64 f, .int .i64 s, .slice sa n cap] 26)).alloc (.cells #[.int .i64 3, .int .i64 f, .int .i64 s, .slice sa n cap] 71)) := ⟨_, rfl⟩
  rw [← hw2] at hb2 hr2 hq2
  have hb3 : Below w.heap.size w w2.drew := hb2.drew
  have hr3 : w2.drew.heap[w.heap.size + 1]? = some (.cells #[.int .i64 3, .int .i64 f, .int .i64 s, .slice sa n cap] 71 (0, 0)) := hr2
  have hq3 : w2.drew.heap[w.heap.size]? = some (.cells #[.int .i64 3, .int .i64 f, .int .i64 s, .slice sa n cap] 26 (0, 0)) := hq2
  have hlt3 := lt_of_block hr3
  have hlq3 := lt_of_block hq3
  obtain ⟨z0, z1, z2, z3⟩ := four_blk hr2
  obtain ⟨q0, q1, q2, q3⟩ := four_blk hq2
  have hcd := hco w2.drew hb3
  by_cases hz : bodyCode 3 f l = 0
  · have HC : Hid (Calls Try.prog 29 #[.agg #[.int .i64 3, .int .i64 f, .int .i64 s, .slice sa n cap]] w2.drew fun e w' => e = .returned (.int .i64 (if hasB f 1 then 0 else num4 l)) ∧ Below w.heap.size w w' ∧ w'.heap[w.heap.size + 1]? = some (.cells #[.int .i64 3, .int .i64 f, .int .i64 s, .slice sa n cap] 71 (0, 0)) ∧ w'.heap[w.heap.size]? = some (.cells #[.int .i64 3, .int .i64 f, .int .i64 s, .slice sa n cap] 26 (0, 0))) := by
      refine hcd.mono ?_
      rintro e w' ⟨rfl, hb⟩
      exact ⟨by rw [hz, endVal0], hb3.trans (hb.mono hb3.size), by rw [hb.block _ hlt3]; exact hr3, by rw [hb.block _ hlq3]; exact hq3⟩
    have HF : Hid (∀ w', Below w.heap.size w w' → Framed w w' (.returned (.iface 81 (.agg #[.int .i64 3, .int .i64 f, .int .i64 s, .slice sa n cap, .int .i64 (if hasB f 1 then 0 else num4 l)]))) 3 f s (.slice sa n cap) l) := fun w' hb => ⟨Or.inr ⟨hz, .slice none 0 0, rfl, fun h => absurd h (by decide)⟩, hb⟩
    clear hco hcd hz hb2 hr2 hb3 hr3 hq2 hq3
    generalize (if hasB f 1 = true then 0 else num4 l) = x at *
    go_enter Try.func25, Try.ntmps25
    go_wp2
    rw [← hw2]
    clear hw2
    go_region_law (refine step_call rfl 29 Try.f29 Try.func29 (by kernel_rfl) rfl [.tmp 30] #[71] rfl [.agg #[.int .i64 3, .int .i64 f, .int .i64 s, .slice sa n cap]] (by simp [Act.eval, Act.put]) HC.out ?_; rintro e w3 ⟨rfl, hb4, hr4, hq4⟩; refine ⟨_, rfl, ?_⟩; obtain ⟨y0, y1, y2, y3⟩ := four_blk hr4; obtain ⟨x0, x1, x2, x3⟩ := four_blk hq4; have HV := hide (HF.out _ hb4); clear hb4 hr4 hq4)
    all_goals go_wp2
    all_goals go_ret
    all_goals exact HV.out
  · have hz9 : bodyCode 3 f l = 9 := by rcases bodyCode_cases 3 f l with h | h; · exact absurd h hz
                                        · exact h
    have HC : Hid (Calls Try.prog 29 #[.agg #[.int .i64 3, .int .i64 f, .int .i64 s, .slice sa n cap]] w2.drew fun e w' => e = .panicked [{ v := .iface 32 (.int .i64 9), recovered := false }] ∧ Framed w w' e 3 f s (.slice sa n cap) l) := by
      refine hcd.mono ?_
      rintro e w' ⟨rfl, hb⟩
      rw [hz9, endVal_ne (by decide)]
      exact ⟨rfl, Or.inl ⟨hz, by rw [hz9]⟩, hb3.trans (hb.mono hb3.size)⟩
    clear hco hcd hz hz9 hb2 hr2 hb3 hr3 hq2 hq3
    go_enter Try.func25, Try.ntmps25
    go_wp2
    rw [← hw2]
    clear hw2
    go_region_law (first
      | (refine step_gone rfl 29 Try.f29 Try.func29 (by kernel_rfl) rfl [.tmp 30] #[71] rfl [.agg #[.int .i64 3, .int .i64 f, .int .i64 s, .slice sa n cap]] (by simp [Act.eval, Act.put]) HC.out (fun e w3 he => ⟨_, he.1, rfl, by rw [← he.1]; exact he.2⟩) (.int .i64 0) ?_; intro hf; have HFL : Hid False := hf; clear hf))
    all_goals exact HFL.out.elim
set_option maxRecDepth 100000 in
set_option maxHeartbeats 1600000 in
theorem frameOf_ping (bv : Value) (l : List UInt8) (f s : Int) (w : World) (h0 : 0 ≤ f) (h1 : f < 256) (hb : BodyIn w bv l) (h4 : l.length = 4) :
    Calls Try.prog 25 #[.agg #[.int .i64 4, .int .i64 f, .int .i64 s, bv]] w fun e w' => Framed w w' e 4 f s bv l := by
  have hco := fun (w2 : World) (hb2 : Below w.heap.size w w2) => number_l bv l w2 (hb.below hb2) h4
  obtain ⟨sa, n, cap, rfl⟩ := hb.slice
  have hb2 := below_two w (.cells #[.int .i64 4, .int .i64 f, .int .i64 s, .slice sa n cap] 26) (.cells #[.int .i64 4, .int .i64 f, .int .i64 s, .slice sa n cap] 71)
  have hr2 := heap_alloc_new (w.alloc (.cells #[.int .i64 4, .int .i64 f, .int .i64 s, .slice sa n cap] 26)) (.cells #[.int .i64 4, .int .i64 f, .int .i64 s, .slice sa n cap] 71)
  have hq2 : ((w.alloc (.cells #[.int .i64 4, .int .i64 f, .int .i64 s, .slice sa n cap] 26)).alloc (.cells #[.int .i64 4, .int .i64 f, .int .i64 s, .slice sa n cap] 71)).heap[w.heap.size]? = some (.cells #[.int .i64 4, .int .i64 f, .int .i64 s, .slice sa n cap] 26 (0, 0)) := by
    rw [((Below.refl _ (w.alloc (.cells #[.int .i64 4, .int .i64 f, .int .i64 s, .slice sa n cap] 26))).alloc (Nat.le_refl _) (.cells #[.int .i64 4, .int .i64 f, .int .i64 s, .slice sa n cap] 71)).block _ (by simp)]
    exact heap_alloc_new w _
  have hz : (w.alloc (.cells #[.int .i64 4, .int .i64 f, .int .i64 s, .slice sa n cap] 26)).heap.size = w.heap.size + 1 := by simp
  rw [hz] at hr2
  clear hz hb
  obtain ⟨w2, hw2⟩ : ∃ w2, w2 = ((w.alloc (.cells #[.int .i64 4, .int .i64 f, .int .i64 s, .slice sa n cap] 26)).alloc (.cells #[.int .i64 4, .int .i64 f, .int .i64 s, .slice sa n cap] 71)) := ⟨_, rfl⟩
  rw [← hw2] at hb2 hr2 hq2
  have hb3 : Below w.heap.size w w2.drew := hb2.drew
  have hr3 : w2.drew.heap[w.heap.size + 1]? = some (.cells #[.int .i64 4, .int .i64 f, .int .i64 s, .slice sa n cap] 71 (0, 0)) := hr2
  have hq3 : w2.drew.heap[w.heap.size]? = some (.cells #[.int .i64 4, .int .i64 f, .int .i64 s, .slice sa n cap] 26 (0, 0)) := hq2
  have hlt3 := lt_of_block hr3
  have hlq3 := lt_of_block hq3
  obtain ⟨z0, z1, z2, z3⟩ := four_blk hr2
  obtain ⟨q0, q1, q2, q3⟩ := four_blk hq2
  have hcd := hco w2.drew hb3
  by_cases hz : bodyCode 4 f l = 0
  · have HC : Hid (Calls Try.prog 30 #[.slice sa n cap] w2.drew fun e w' => e = .returned (.int .u32 (num4 l)) ∧ Below w.heap.size w w' ∧ w'.heap[w.heap.size + 1]? = some (.cells #[.int .i64 4, .int .i64 f, .int .i64 s, .slice sa n cap] 71 (0, 0)) ∧ w'.heap[w.heap.size]? = some (.cells #[.int .i64 4, .int .i64 f, .int .i64 s, .slice sa n cap] 26 (0, 0))) := by
      refine hcd.mono ?_
      rintro e w' ⟨rfl, hb⟩
      exact ⟨rfl, hb3.trans (hb.mono hb3.size), by rw [hb.block _ hlt3]; exact hr3, by rw [hb.block _ hlq3]; exact hq3⟩
    have HF : Hid (∀ w', Below w.heap.size w w' → Framed w w' (.returned (.iface 85 (.agg #[.int .i64 4, .int .i64 f, .int .i64 s, .slice sa n cap, .int .u32 (num4 l)]))) 4 f s (.slice sa n cap) l) := fun w' hb => ⟨Or.inr ⟨hz, .slice none 0 0, rfl, fun h => absurd h (by decide)⟩, hb⟩
    clear hco hcd hz hb2 hr2 hb3 hr3 hq2 hq3
    generalize num4 l = x at *
    go_enter Try.func25, Try.ntmps25
    go_wp2
    rw [← hw2]
    clear hw2
    go_region_law (refine step_call rfl 30 Try.f30 Try.func30 (by kernel_rfl) rfl [.tmp 38] #[24] rfl [.slice sa n cap] (by simp [Act.eval, Act.put]) HC.out ?_; rintro e w3 ⟨rfl, hb4, hr4, hq4⟩; refine ⟨_, rfl, ?_⟩; obtain ⟨y0, y1, y2, y3⟩ := four_blk hr4; obtain ⟨x0, x1, x2, x3⟩ := four_blk hq4; have HV := hide (HF.out _ hb4); clear hb4 hr4 hq4)
    all_goals go_wp2
    all_goals go_ret
    all_goals exact HV.out
  · exact absurd (by simp [bodyCode]) hz
set_option maxRecDepth 100000 in
set_option maxHeartbeats 1600000 in
theorem frameOf_credit (bv : Value) (l : List UInt8) (f s : Int) (w : World) (h0 : 0 ≤ f) (h1 : f < 256) (hb : BodyIn w bv l) (h4 : l.length = 4) :
    Calls Try.prog 25 #[.agg #[.int .i64 6, .int .i64 f, .int .i64 s, bv]] w fun e w' => Framed w w' e 6 f s bv l := by
  have hco := fun (w2 : World) (hb2 : Below w.heap.size w w2) => numberFrom_l bv l 1 w2 (hb.below hb2) h4
  obtain ⟨sa, n, cap, rfl⟩ := hb.slice
  have hb2 := below_two w (.cells #[.int .i64 6, .int .i64 f, .int .i64 s, .slice sa n cap] 26) (.cells #[.int .i64 6, .int .i64 f, .int .i64 s, .slice sa n cap] 71)
  have hr2 := heap_alloc_new (w.alloc (.cells #[.int .i64 6, .int .i64 f, .int .i64 s, .slice sa n cap] 26)) (.cells #[.int .i64 6, .int .i64 f, .int .i64 s, .slice sa n cap] 71)
  have hq2 : ((w.alloc (.cells #[.int .i64 6, .int .i64 f, .int .i64 s, .slice sa n cap] 26)).alloc (.cells #[.int .i64 6, .int .i64 f, .int .i64 s, .slice sa n cap] 71)).heap[w.heap.size]? = some (.cells #[.int .i64 6, .int .i64 f, .int .i64 s, .slice sa n cap] 26 (0, 0)) := by
    rw [((Below.refl _ (w.alloc (.cells #[.int .i64 6, .int .i64 f, .int .i64 s, .slice sa n cap] 26))).alloc (Nat.le_refl _) (.cells #[.int .i64 6, .int .i64 f, .int .i64 s, .slice sa n cap] 71)).block _ (by simp)]
    exact heap_alloc_new w _
  have hz : (w.alloc (.cells #[.int .i64 6, .int .i64 f, .int .i64 s, .slice sa n cap] 26)).heap.size = w.heap.size + 1 := by simp
  rw [hz] at hr2
  clear hz hb
  obtain ⟨w2, hw2⟩ : ∃ w2, w2 = ((w.alloc (.cells #[.int .i64 6, .int .i64 f, .int .i64 s, .slice sa n cap] 26)).alloc (.cells #[.int .i64 6, .int .i64 f, .int .i64 s, .slice sa n cap] 71)) := ⟨_, rfl⟩
  rw [← hw2] at hb2 hr2 hq2
  have hb3 : Below w.heap.size w w2.drew := hb2.drew
  have hr3 : w2.drew.heap[w.heap.size + 1]? = some (.cells #[.int .i64 6, .int .i64 f, .int .i64 s, .slice sa n cap] 71 (0, 0)) := hr2
  have hq3 : w2.drew.heap[w.heap.size]? = some (.cells #[.int .i64 6, .int .i64 f, .int .i64 s, .slice sa n cap] 26 (0, 0)) := hq2
  have hlt3 := lt_of_block hr3
  have hlq3 := lt_of_block hq3
  obtain ⟨z0, z1, z2, z3⟩ := four_blk hr2
  obtain ⟨q0, q1, q2, q3⟩ := four_blk hq2
  have hcd := hco w2.drew hb3
  by_cases hz : bodyCode 6 f l = 0
  · have HC : Hid (Calls Try.prog 31 #[.int .u32 1, .slice sa n cap] w2.drew fun e w' => e = .returned (.int .i64 (num4 l)) ∧ Below w.heap.size w w' ∧ w'.heap[w.heap.size + 1]? = some (.cells #[.int .i64 6, .int .i64 f, .int .i64 s, .slice sa n cap] 71 (0, 0)) ∧ w'.heap[w.heap.size]? = some (.cells #[.int .i64 6, .int .i64 f, .int .i64 s, .slice sa n cap] 26 (0, 0))) := by
      refine hcd.mono ?_
      rintro e w' ⟨rfl, hb⟩
      exact ⟨by rw [← bodyCode_six f l, hz, endVal0], hb3.trans (hb.mono hb3.size), by rw [hb.block _ hlt3]; exact hr3, by rw [hb.block _ hlq3]; exact hq3⟩
    have HF : Hid (∀ w', Below w.heap.size w w' → Framed w w' (.returned (.iface 88 (.agg #[.int .i64 6, .int .i64 f, .int .i64 s, .slice sa n cap, .int .i64 (num4 l)]))) 6 f s (.slice sa n cap) l) := fun w' hb => ⟨Or.inr ⟨hz, .slice none 0 0, rfl, fun h => absurd h (by decide)⟩, hb⟩
    clear hco hcd hz hb2 hr2 hb3 hr3 hq2 hq3
    generalize num4 l = x at *
    go_enter Try.func25, Try.ntmps25
    go_wp2
    rw [← hw2]
    clear hw2
    go_region_law (refine step_call rfl 31 Try.f31 Try.func31 (by kernel_rfl) rfl [.const (.int .u32 1), .tmp 51] #[82, 24] rfl [.int .u32 1, .slice sa n cap] (by simp [Act.eval, Act.put]) HC.out ?_; rintro e w3 ⟨rfl, hb4, hr4, hq4⟩; refine ⟨_, rfl, ?_⟩; obtain ⟨y0, y1, y2, y3⟩ := four_blk hr4; obtain ⟨x0, x1, x2, x3⟩ := four_blk hq4; have HV := hide (HF.out _ hb4); clear hb4 hr4 hq4)
    all_goals go_wp2
    all_goals go_ret
    all_goals exact HV.out
  · have hz9 : bodyCode 6 f l = 9 := by rcases bodyCode_cases 6 f l with h | h; · exact absurd h hz
                                        · exact h
    have HC : Hid (Calls Try.prog 31 #[.int .u32 1, .slice sa n cap] w2.drew fun e w' => e = .panicked [{ v := .iface 32 (.int .i64 9), recovered := false }] ∧ Framed w w' e 6 f s (.slice sa n cap) l) := by
      refine hcd.mono ?_
      rintro e w' ⟨rfl, hb⟩
      rw [← bodyCode_six f l, hz9, endVal_ne (by decide)]
      exact ⟨rfl, Or.inl ⟨hz, by rw [hz9]⟩, hb3.trans (hb.mono hb3.size)⟩
    clear hco hcd hz hz9 hb2 hr2 hb3 hr3 hq2 hq3
    go_enter Try.func25, Try.ntmps25
    go_wp2
    rw [← hw2]
    clear hw2
    go_region_law (first
      | (refine step_gone rfl 31 Try.f31 Try.func31 (by kernel_rfl) rfl [.const (.int .u32 1), .tmp 51] #[82, 24] rfl [.int .u32 1, .slice sa n cap] (by simp [Act.eval, Act.put]) HC.out (fun e w3 he => ⟨_, he.1, rfl, by rw [← he.1]; exact he.2⟩) (.int .i64 0) ?_; intro hf; have HFL : Hid False := hf; clear hf))
    all_goals exact HFL.out.elim

theorem frameOf_any (bv : Value) (l : List UInt8) (k f s : Int) (w : World) (hl : l.length ≤ 64) (h0 : 0 ≤ f) (h1 : f < 256) (hb : BodyIn w bv l) (h4 : (k = 3 ∧ hasB f 1 = false) ∨ k = 4 ∨ k = 6 → l.length = 4) :
    Calls Try.prog 25 #[.agg #[.int .i64 k, .int .i64 f, .int .i64 s, bv]] w fun e w' => Framed w w' e k f s bv l := by
  by_cases k0 : k = 0
  · subst k0; exact frameOf_data bv l f s w hl h0 h1 hb
  by_cases k3 : k = 3
  · subst k3; exact frameOf_settings bv l f s w h0 h1 hb (fun h => h4 (Or.inl ⟨rfl, h⟩))
  by_cases k4 : k = 4
  · subst k4; exact frameOf_ping bv l f s w h0 h1 hb (h4 (Or.inr (Or.inl rfl)))
  by_cases k6 : k = 6
  · subst k6; exact frameOf_credit bv l f s w h0 h1 hb (h4 (Or.inr (Or.inr rfl)))
  exact frameOf_plain bv l k f s w hb.slice k0 k3 k4 k6
end Go.Proofs.Ytjccnikmcoidhaa
