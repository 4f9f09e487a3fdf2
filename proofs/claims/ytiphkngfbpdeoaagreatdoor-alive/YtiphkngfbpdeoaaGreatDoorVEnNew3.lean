import Derived.Test.YtiphkngfbpdeoaaGreatDoorVGar
import Derived.Test.YtiphkngfbpdeoaaGreatDoorVGas
set_option linter.unusedVariables false
set_option linter.unusedSimpArgs false
namespace Go.Proofs.YtiphkngfbpdeoaaGreatDoor
set_option linter.unusedVariables false
set_option linter.unusedSimpArgs false
open Go.RowKit
set_option maxHeartbeats 400000 in
theorem newTuner_eq (t k : Int) (w : World) : Calls Tryz.prog 53 #[.int .i64 t, .int .i64 k] w fun e w' => e = .returned (.agg #[.int .i64 t, .int .i64 k, .int .i64 0, .int .i64 1, .int .u32 0, .bool false, .bool false, .int .i64 0, .int .i64 0]) ∧ w' = w.alloc (.cells #[.int .i64 t, .int .i64 k, .int .i64 0, .int .i64 1, .int .u32 0, .bool false, .bool false, .int .i64 0, .int .i64 0] 72) := by
  go_enter Tryz.func53, Tryz.ntmps53
  go_wp2
  refine bodyPost_ret (v := .agg #[.int .i64 t, .int .i64 k, .int .i64 0, .int .i64 1, .int .u32 0, .bool false, .bool false, .int .i64 0, .int .i64 0]) ?_ rfl ⟨rfl, rfl⟩
  simp [results, Tryz.results53, go_sem]
set_option maxHeartbeats 800000 in
theorem newStreams_eq (w : World) : Calls Tryz.prog 54 #[] w fun e w' => e = .returned (.agg #[.map (some (w.heap.size + 1)), .slice none 0 0]) ∧ w' = (w.alloc (.cells #[.map (some (w.heap.size + 1)), .slice none 0 0] 76)).alloc (.map #[] 0) := by
  have hmk : (Instr.makeMap 73 none).run Tryz.prog (w.alloc (.cells #[.map none, .slice none 0 0] 76)) = .ok (.map (some (w.heap.size + 1))) ((w.alloc (.cells #[.map none, .slice none 0 0] 76)).alloc (.map #[] 0)) := by
    simp [Instr.makeMap, run_underlying Tryz.underlying73, Result.andThen, newObj, Sem.run]
    rfl
  go_enter Tryz.func54, Tryz.ntmps54
  go_wp2
  refine bodyPost_ret (v := .agg #[.map (some (w.heap.size + 1)), .slice none 0 0]) ?_ rfl ⟨rfl, rfl⟩
  simp [results, Tryz.results54, go_sem]
set_option maxHeartbeats 400000 in
theorem bNewU_eq (n : Int) (w : World) : Calls Tryz.prog 55 #[.int .i64 n] w fun e w' => e = .returned (.agg #[.int .i64 n, .int .i64 0, .slice none 0 0, .int .i64 n]) ∧ w' = w.alloc (.cells #[.int .i64 n, .int .i64 0, .slice none 0 0, .int .i64 n] 87) := by
  go_enter Tryz.func55, Tryz.ntmps55
  go_wp2
  refine bodyPost_ret (v := .agg #[.int .i64 n, .int .i64 0, .slice none 0 0, .int .i64 n]) ?_ rfl ⟨rfl, rfl⟩
  simp [results, Tryz.results55, go_sem]
set_option maxHeartbeats 400000 in
theorem bNewP_eq (n : Int) (w : World) : Calls Tryz.prog 56 #[.int .i64 n] w fun e w' => e = .returned (.agg #[.int .i64 n, .int .i64 0, .slice none 0 0, .slice none 0 0]) ∧ w' = w.alloc (.cells #[.int .i64 n, .int .i64 0, .slice none 0 0, .slice none 0 0] 92) := by
  go_enter Tryz.func56, Tryz.ntmps56
  go_wp2
  refine bodyPost_ret (v := .agg #[.int .i64 n, .int .i64 0, .slice none 0 0, .slice none 0 0]) ?_ rfl ⟨rfl, rfl⟩
  simp [results, Tryz.results56, go_sem]
theorem cfg_alloc {W : World} {b : Nat} {o x : Obj} (h : W.heap[b]? = some x) : (W.alloc o).heap[b]? = some x := by
  rw [heap_alloc_old _ _ (Array.getElem?_eq_some_iff.1 h).1]
  exact h
theorem cfg_drew {W : World} {b : Nat} {x : Obj} (h : W.heap[b]? = some x) : W.drew.heap[b]? = some x := h
theorem cfgs' {wx : World} {b : Nat} {i c bb k : Int} (hb : wx.heap[b]? = some (.cells #[.int .i64 i, .int .i64 c, .int .i64 bb, .int .i64 k] 23 (0, 0))) : wx.cell? ⟨b, 0, none⟩ = some (.int .i64 i) ∧ wx.cell? ⟨b, 1, none⟩ = some (.int .i64 c) ∧ wx.cell? ⟨b, 2, none⟩ = some (.int .i64 bb) ∧ wx.cell? ⟨b, 3, none⟩ = some (.int .i64 k) := by
  refine ⟨?_, ?_, ?_, ?_⟩ <;> (rw [cell_of_row _ _ _ _ _ _ hb]; rfl)
theorem below_setC {B g : Nat} {a : World} (hp : B ≤ g) : ∀ (vs : List Value) (o : Nat) (w : World), Below B a w → Below B a (w.setCells g o vs)
  | [], _, _, h => h
  | v :: r, o, _, h => below_setC hp r (o + 1) _ (h.setCell hp v)
theorem heap_setCells_same (g : Nat) : ∀ (vs : List Value) (o : Nat) (w : World) (C : Array Value) (t : TypeId) (fr : Nat × Nat), w.heap[g]? = some (.cells C t fr) → ∃ C', (w.setCells g o vs).heap[g]? = some (.cells C' t fr) ∧ C'.size = C.size ∧ ∀ j, C'[j]? = if o ≤ j ∧ j < o + vs.length ∧ j < C.size then vs[j - o]? else C[j]?
  | [], o, w, C, t, fr, h => ⟨C, h, rfl, fun j => by rw [if_neg (by simp; omega)]⟩
  | v :: r, o, w, C, t, fr, h => by
    rw [World.setCells]
    obtain ⟨C', h1, h2, h3⟩ := heap_setCells_same g r (o + 1) (w.setCell ⟨g, o, none⟩ v) (C.setIfInBounds o v) t fr (block_setCell h)
    refine ⟨C', h1, by simpa using h2, fun j => ?_⟩
    rw [h3 j]
    simp only [Array.size_setIfInBounds, List.length_cons, Array.getElem?_setIfInBounds]
    by_cases hj : o = j
    · subst hj
      rw [if_neg (by omega)]
      by_cases hs : o < C.size
      · simp [hs]
      · simp [hs]
    · simp only [if_neg hj]
      by_cases hin : o + 1 ≤ j ∧ j < o + 1 + r.length ∧ j < C.size
      · rw [if_pos hin, if_pos (by omega)]
        have : j - o = (j - (o + 1)) + 1 := by omega
        rw [this, List.getElem?_cons_succ]
      · rw [if_neg hin, if_neg (by omega)]
theorem heap_setCells_all (g : Nat) (w : World) (C D : Array Value) (t : TypeId) (fr : Nat × Nat) (h : w.heap[g]? = some (.cells C t fr)) (hs : D.size = C.size) : (w.setCells g 0 D.toList).heap[g]? = some (.cells D t fr) := by
  obtain ⟨C', h1, h2, h3⟩ := heap_setCells_same g D.toList 0 w C t fr h
  rw [h1]
  have : C' = D := by
    apply Array.ext_getElem?
    intro j
    rw [h3 j]
    by_cases hj : j < C.size
    · rw [if_pos (by simp; omega)]
      simp
    · rw [if_neg (by omega)]
      rw [Array.getElem?_eq_none (by omega), Array.getElem?_eq_none (by omega)]
  rw [this]
theorem heap_setCells_off (g o j : Nat) (w : World) (vs : List Value) (hj : j ≠ g) : (w.setCells g o vs).heap[j]? = w.heap[j]? := by
  induction vs generalizing o w with
  | nil => rfl
  | cons v r ih =>
    rw [World.setCells, ih]
    exact heap_setCell_other w ⟨g, o, none⟩ j v (fun e => hj e)
theorem store_new (i c b k : Int) : ∃ G : World → Nat → Nat → World, ∀ W E mb, W.heap[E]? = some (.cells #[.bool false, .int .i64 0, .int .i64 0, .int .i64 0, .int .i64 0, .int .i64 0, .int .i64 0, .int .i64 0, .bool false, .int .i64 0, .bool false, .int .i64 0, .int .i64 0, .int .i64 0, .int .i64 0, .int .i64 0, .int .i64 0, .int .u32 0, .bool false, .bool false, .int .i64 0, .int .i64 0, .map none, .slice none 0 0, .int .i64 0, .slice none 0 0, .int .i64 0, .int .i64 0, .int .i64 0, .int .i64 0, .bool false, .int .i64 0, .slice none 0 0, .bool false, .int .i64 0, .int .i64 0, .int .i64 0, .slice none 0 0, .int .i64 0, .bool false, .bool false, .slice none 0 0, .slice none 0 0, .slice none 0 0, .int .i64 0, .int .i64 0, .int .i64 0, .int .i64 0, .slice none 0 0, .slice none 0 0] 96 (0, 0)) → (storeCells ⟨E, 0, none⟩ (EndM.new i c b k mb).cells.toList).run Tryz.prog W = .ok () (G W E mb) ∧ (G W E mb).heap[E]? = some (.cells (EndM.new i c b k mb).cells 96 (0, 0)) ∧ (∀ j, j ≠ E → (G W E mb).heap[j]? = W.heap[j]?) ∧ ∀ (B : Nat) (V : World), B ≤ E → Below B V W → Below B V (G W E mb) := by
  refine ⟨fun W E mb => W.setCells E 0 (EndM.new i c b k mb).cells.toList, fun W E mb h => ⟨?_, heap_setCells_all E W _ _ _ _ h (by rfl), fun j hj => heap_setCells_off E 0 j W _ hj, fun B V hB hb => below_setC hB _ 0 W hb⟩⟩
  have ht : ∀ j, j < 50 → (W.cell? ⟨E, 0 + j, none⟩).isSome = true ∧ W.frozen? ⟨E, 0 + j, none⟩ = false := fun j hj => ⟨by
    rw [cell_of_row _ _ _ _ _ _ h, Nat.zero_add, Array.getElem?_eq_getElem (by exact hj)]
    rfl, by simp [World.frozen?, h]⟩
  have := run_storeCells_cells (P := Tryz.prog) E 0 (EndM.new i c b k mb).cells.toList 0 W (fun j hj => (ht j hj).1) (fun j hj => (ht j hj).2) (by simp [EndM.cells, EndM.new, Value.oneCell'])
  simpa using this
theorem upon_skip {P : Program} {o : Oper} {a : Act} {next : Act → World → Prop} {Q : Exit → Act → World → Prop} {w' : World} (h : next (a.put o.dst undef) w') : Oper.upon P o a next Q ((Result.ok () w').andThen fun _ w' => Result.ok Next.skip w') := h
theorem below_al {w W : World} {o : Obj} (h : Below w.heap.size w W) : Below w.heap.size w (W.alloc o) := h.alloc h.size o
theorem below_dr {w W : World} (h : Below w.heap.size w W) : Below w.heap.size w W.drew := h.drew
theorem wp_hideQ {P : Program} {c : Code} {Q : Exit → Act → World → Prop} {a : Act} {w : World} (h : ∀ Q' : Exit → Act → World → Prop, Hid (∀ a w, Q .normal a w → Q' .normal a w) → c.wp P Q' a w) : c.wp P Q a w := h Q (fun _ _ h => h)
set_option maxRecDepth 100000 in
set_option maxHeartbeats 1600000 in
theorem eNew_any (i c b k : Int) (w : World) (hc : 32 ≤ c ∧ c ≤ 1000) :
    Calls Tryz.prog 34 #[.bool false, .agg #[.int .i64 i, .int .i64 c, .int .i64 b, .int .i64 k]] w fun e w' => ∃ mb, e = .returned (.agg (EndM.new i c b k mb).cells) ∧ w.heap.size ≤ mb ∧ w'.heap[mb]? = some (.map #[] 0) ∧ Below w.heap.size w w' := by
  have HT : Hid (∀ w, Calls Tryz.prog 53 #[.int .i64 c, .int .i64 k] w fun e w' => e = .returned (.agg #[.int .i64 c, .int .i64 k, .int .i64 0, .int .i64 1, .int .u32 0, .bool false, .bool false, .int .i64 0, .int .i64 0]) ∧ w' = w.alloc (.cells #[.int .i64 c, .int .i64 k, .int .i64 0, .int .i64 1, .int .u32 0, .bool false, .bool false, .int .i64 0, .int .i64 0] 72)) := fun w => newTuner_eq c k w
  have HS : Hid (∀ w, Calls Tryz.prog 54 #[] w fun e w' => e = .returned (.agg #[.map (some (w.heap.size + 1)), .slice none 0 0]) ∧ w' = (w.alloc (.cells #[.map (some (w.heap.size + 1)), .slice none 0 0] 76)).alloc (.map #[] 0)) := fun w => newStreams_eq w
  have HU : Hid (∀ w, Calls Tryz.prog 55 #[.int .i64 128] w fun e w' => e = .returned (.agg #[.int .i64 128, .int .i64 0, .slice none 0 0, .int .i64 128]) ∧ w' = w.alloc (.cells #[.int .i64 128, .int .i64 0, .slice none 0 0, .int .i64 128] 87)) := fun w => bNewU_eq 128 w
  have HP : Hid (∀ w, Calls Tryz.prog 56 #[.int .i64 128] w fun e w' => e = .returned (.agg #[.int .i64 128, .int .i64 0, .slice none 0 0, .slice none 0 0]) ∧ w' = w.alloc (.cells #[.int .i64 128, .int .i64 0, .slice none 0 0, .slice none 0 0] 92)) := fun w => bNewP_eq 128 w
  have hw : IntKind.i64.wrap (c - 32) = c - 32 := by rw [IntKind.wrap_i64]; omega
  obtain ⟨C, hV⟩ : ∃ C : Nat → Array Value, ∀ mb, #[Value.bool false, .int .i64 0, .int .i64 0, .int .i64 b, .int .i64 32, .int .i64 32, .int .i64 (c - 32), .int .i64 i, .bool false, .int .i64 0, .bool false, .int .i64 32, .int .i64 32, .int .i64 c, .int .i64 k, .int .i64 0, .int .i64 1, .int .u32 0, .bool false, .bool false, .int .i64 0, .int .i64 0, .map (some mb), .slice none 0 0, .int .i64 0, .slice none 0 0, .int .i64 0, .int .i64 0, .int .i64 0, .int .i64 0, .bool false, .int .i64 0, .slice none 0 0, .bool false, .int .i64 0, .int .i64 128, .int .i64 0, .slice none 0 0, .int .i64 128, .bool false, .bool false, .slice none 0 0, .slice none 0 0, .slice none 0 0, .int .i64 2, .int .i64 0, .int .i64 128, .int .i64 0, .slice none 0 0, .slice none 0 0] = C mb := ⟨_, fun _ => rfl⟩
  obtain ⟨G, hG⟩ := store_new i c b k
  have HG := hide hG
  have hC : ∀ mb, C mb = (EndM.new i c b k mb).cells := fun mb => by rw [← hV mb]; rfl
  have hCs : ∀ mb, (C mb).size = 50 := fun mb => by rw [hC]; rfl
  have hC7 : ∀ mb, (C mb).setIfInBounds 47 (.int .i64 0) = C mb := fun mb => by rw [hC]; rfl
  have hC8 : ∀ mb, (C mb).setIfInBounds 48 (.slice none 0 0) = C mb := fun mb => by rw [hC]; rfl
  have hC9 : ∀ mb, (C mb).setIfInBounds 49 (.slice none 0 0) = C mb := fun mb => by rw [hC]; rfl
  have hst : ∀ W E mb, W.heap[E]? = some (.cells #[.bool false, .int .i64 0, .int .i64 0, .int .i64 0, .int .i64 0, .int .i64 0, .int .i64 0, .int .i64 0, .bool false, .int .i64 0, .bool false, .int .i64 0, .int .i64 0, .int .i64 0, .int .i64 0, .int .i64 0, .int .i64 0, .int .u32 0, .bool false, .bool false, .int .i64 0, .int .i64 0, .map none, .slice none 0 0, .int .i64 0, .slice none 0 0, .int .i64 0, .int .i64 0, .int .i64 0, .int .i64 0, .bool false, .int .i64 0, .slice none 0 0, .bool false, .int .i64 0, .int .i64 0, .int .i64 0, .slice none 0 0, .int .i64 0, .bool false, .bool false, .slice none 0 0, .slice none 0 0, .slice none 0 0, .int .i64 0, .int .i64 0, .int .i64 0, .int .i64 0, .slice none 0 0, .slice none 0 0] 96 (0, 0)) → (storeCells ⟨E, 0, none⟩ (C mb).toList).run Tryz.prog W = .ok () (G W E mb) := fun W E mb h => by rw [hC mb]; exact (hG W E mb h).1
  clear hG
  have HC := hide hC
  clear hC
  dsimp only at hst hV
  have HST : Hid (∀ {o : Oper} {a : Act} {next : Act → World → Prop} {Q : Exit → Act → World → Prop} (W : World) (E mb : Nat), W.heap[E]? = some (.cells #[.bool false, .int .i64 0, .int .i64 0, .int .i64 0, .int .i64 0, .int .i64 0, .int .i64 0, .int .i64 0, .bool false, .int .i64 0, .bool false, .int .i64 0, .int .i64 0, .int .i64 0, .int .i64 0, .int .i64 0, .int .i64 0, .int .u32 0, .bool false, .bool false, .int .i64 0, .int .i64 0, .map none, .slice none 0 0, .int .i64 0, .slice none 0 0, .int .i64 0, .int .i64 0, .int .i64 0, .int .i64 0, .bool false, .int .i64 0, .slice none 0 0, .bool false, .int .i64 0, .int .i64 0, .int .i64 0, .slice none 0 0, .int .i64 0, .bool false, .bool false, .slice none 0 0, .slice none 0 0, .slice none 0 0, .int .i64 0, .int .i64 0, .int .i64 0, .int .i64 0, .slice none 0 0, .slice none 0 0] 96 (0, 0)) → W.heap[w.heap.size]? = some (.cells #[.int .i64 i, .int .i64 c, .int .i64 b, .int .i64 k] 23 (0, 0)) → W.heap[mb]? = some (.map #[] 0) → Below w.heap.size w W → (∃ cs, W.heap[w.heap.size + 1]? = some (.cells cs 96 (0, 0)) ∧ cs.size = 50) → w.heap.size + 2 ≤ E → w.heap.size + 2 ≤ mb → (∀ W', W'.heap[w.heap.size]? = some (.cells #[.int .i64 i, .int .i64 c, .int .i64 b, .int .i64 k] 23 (0, 0)) → Hid (W'.heap[E]? = some (.cells (EndM.new i c b k mb).cells 96 (0, 0)) ∧ w.heap.size + 2 ≤ E ∧ W'.heap[mb]? = some (.map #[] 0) ∧ w.heap.size + 2 ≤ mb ∧ Below w.heap.size w W' ∧ ∃ cs, W'.heap[w.heap.size + 1]? = some (.cells cs 96 (0, 0)) ∧ cs.size = 50) → next (a.put o.dst undef) W') → Oper.upon Tryz.prog o a next Q (((storeCells ⟨E, 0, none⟩ (C mb).toList).run Tryz.prog W).andThen fun _ w' => Result.ok Next.skip w')) := by
    intro o a next Q W E mb hz hcf hmb hbl hrs hE hm hn
    rw [hst W E mb hz]
    obtain ⟨-, g2, g3, g4⟩ := HG.out W E mb hz
    have hne : mb ≠ E := by rintro rfl; rw [hz] at hmb; cases hmb
    exact upon_skip (hn _ (by rw [g3 _ (by omega)]; exact hcf) ⟨g2, hE, by rw [g3 _ hne]; exact hmb, hm, g4 _ _ (by omega) hbl, by rw [g3 _ (by omega)]; exact hrs⟩)
  clear hst
  have HRES : Hid (∀ W : World, W.heap[w.heap.size + 1]? = some (.cells #[.bool false, .int .i64 0, .int .i64 0, .int .i64 0, .int .i64 0, .int .i64 0, .int .i64 0, .int .i64 0, .bool false, .int .i64 0, .bool false, .int .i64 0, .int .i64 0, .int .i64 0, .int .i64 0, .int .i64 0, .int .i64 0, .int .u32 0, .bool false, .bool false, .int .i64 0, .int .i64 0, .map none, .slice none 0 0, .int .i64 0, .slice none 0 0, .int .i64 0, .int .i64 0, .int .i64 0, .int .i64 0, .bool false, .int .i64 0, .slice none 0 0, .bool false, .int .i64 0, .int .i64 0, .int .i64 0, .slice none 0 0, .int .i64 0, .bool false, .bool false, .slice none 0 0, .slice none 0 0, .slice none 0 0, .int .i64 0, .int .i64 0, .int .i64 0, .int .i64 0, .slice none 0 0, .slice none 0 0] 96 (0, 0)) → ∃ cs, W.heap[w.heap.size + 1]? = some (.cells cs 96 (0, 0)) ∧ cs.size = 50) := fun W h => ⟨_, h, rfl⟩
  have HA : Hid (∀ (W : World) (o : Obj) (n : Nat), W.heap.size = n → (W.alloc o).heap[n]? = some o) := fun W o n h => by rw [← h]; exact heap_alloc_new W o
  go_enter Tryz.func34, Tryz.ntmps34
  go_upto_region 1 with fail
  obtain ⟨w0, hw0⟩ : ∃ w0, w0 = w.alloc (.cells #[.int .i64 i, .int .i64 c, .int .i64 b, .int .i64 k] 23) := ⟨_, rfl⟩
  rw [← hw0]
  have HCF : Hid (w0.heap[w.heap.size]? = some (.cells #[.int .i64 i, .int .i64 c, .int .i64 b, .int .i64 k] 23 (0, 0))) := by rw [hw0]; exact heap_alloc_new w _
  have HSZ : Hid (w0.heap.size = w.heap.size + 1) := (by rw [hw0]; simp : w0.heap.size = w.heap.size + 1)
  have HB0 : Hid (Below w.heap.size w w0) := by rw [hw0]; exact (Below.refl _ _).alloc (Nat.le_refl _) _
  have hlt0 : w.heap.size < w0.heap.size := lt_of_block HCF.out
  clear hw0
  obtain ⟨y0, y1, y2, y3⟩ := cfgs' HCF.out
  go_cut [5] (fun s5 wx => ∃ E mb, s5 = .pointer (some ⟨E, 0, none⟩) ∧ wx.heap[E]? = some (.cells (EndM.new i c b k mb).cells 96 (0, 0)) ∧ w.heap.size + 2 ≤ E ∧ wx.heap[mb]? = some (.map #[] 0) ∧ w.heap.size + 2 ≤ mb ∧ Below w.heap.size w wx ∧ ∃ cs, wx.heap[w.heap.size + 1]? = some (.cells cs 96 (0, 0)) ∧ cs.size = 50)
  case first =>
    refine wp_hideQ (fun Q HQ => ?_)
    go_region_held3 (fun w' => w'.cell? ⟨w.heap.size, 0, none⟩ = some (.int .i64 i) ∧ w'.cell? ⟨w.heap.size, 1, none⟩ = some (.int .i64 c) ∧ w'.cell? ⟨w.heap.size, 2, none⟩ = some (.int .i64 b) ∧ w'.cell? ⟨w.heap.size, 3, none⟩ = some (.int .i64 k)) (first | exact cfgs' hcf | (refine cfgs' ?_; (repeat (first | exact HCF.out | refine cfg_alloc ?_ | refine cfg_drew ?_))) | go_keep)
      (first
        | (go_at_call 53; refine (HT.out _).mono ?_; rintro e w' ⟨rfl, rfl⟩)
        | (go_at_call 54; refine (HS.out _).mono ?_; rintro e w' ⟨rfl, rfl⟩)
        | (go_at_call 55; refine (HU.out _).mono ?_; rintro e w' ⟨rfl, rfl⟩)
        | (go_at_call 56; refine (HP.out _).mono ?_; rintro e w' ⟨rfl, rfl⟩)
        | (refine HST.out _ _ _ ?_ ?_ ?_ ?_ ?_ ?_ ?_ ?_
           (focus (refine cfg_drew ?_; (repeat (first | (refine HA.out _ _ _ ?_; (simp; done)) | refine cfg_alloc ?_)); done))
           (focus (refine cfg_drew ?_; (repeat (first | exact HCF.out | refine cfg_alloc ?_)); done))
           (focus (refine cfg_drew ?_; (repeat (first | (refine HA.out _ _ _ ?_; (simp; done)) | refine cfg_alloc ?_)); done))
           (focus (refine below_dr ?_; (repeat (first | exact HB0.out | refine below_al ?_)); done))
           (focus (refine HRES.out _ ?_; refine cfg_drew ?_; (repeat (first | (refine HA.out _ _ _ ?_; exact HSZ.out) | refine cfg_alloc ?_)); done))
           (focus (have := HSZ.out; omega))
           (focus (have := HSZ.out; omega))
           (intro W' hcf HF)))
    all_goals (refine HQ.out _ _ ?_; go_wp2_with fail; go_meet; exact ⟨_, _, rfl, HF.out⟩)
  case rest =>
    obtain ⟨E, mb, rfl, hE, hE2, hmb, hm2, hbel, cs, hcs, hsz⟩ := hcut
    have hon : (EndM.new i c b k mb).cells.all (·.oneCell') = true := by simp [EndM.cells, EndM.new, Value.oneCell']
    have hn : (EndM.new i c b k mb).cells.size = 50 := rfl
    obtain ⟨CC, hCC⟩ : ∃ CC, CC = (EndM.new i c b k mb).cells := ⟨_, rfl⟩
    rw [← hCC] at hE hon hn
    have HCC := hide hCC
    clear hCC
    have HLD : Hid (wc.rangeAt E 0 CC.toList) := fun j v hv => by
      rw [cell_of_row _ _ _ _ _ _ hE, Nat.zero_add]
      simpa using hv
    have HTH : Hid (wc.there (w.heap.size + 1) 0 CC.size) := fun j hj => ⟨by
      rw [cell_of_row _ _ _ _ _ _ hcs, Nat.zero_add, Array.getElem?_eq_getElem (by rw [hsz, ← hn]; exact hj)]
      rfl, by simp [World.frozen?, hcs]⟩
    have HI : (Tryz.prog.info? 96).map (·.size) = some 50 := by kernel_rfl
    have HIN : Hid ((Tryz.prog.info? 96).map (·.size) = some CC.size) := by rw [hn]; exact HI
    have HIL : Hid ((Tryz.prog.info? 96).map (·.size) = some CC.toList.length) := by rw [Array.length_toList, hn]; exact HI
    have HON := hide hon
    have HR : Hid ((loadVar 96 ⟨w.heap.size + 1, 0, none⟩).run Tryz.prog (wc.setCells (w.heap.size + 1) 0 CC.toList) = .ok (.agg CC) (wc.setCells (w.heap.size + 1) 0 CC.toList)) := by
      have := run_loadVar_mid (P := Tryz.prog) (wc.setCells (w.heap.size + 1) 0 CC.toList) (w.heap.size + 1) 0 96 CC.toList _ (World.rangeAt_setCells_same _ _ _ _ (by rw [Array.length_toList]; exact HTH.out)) Tryz.underlying96 rfl HIL.out
      rw [Array.toArray_toList] at this
      exact this
    have HF : Hid (CC = (EndM.new i c b k mb).cells ∧ w.heap.size ≤ mb ∧ (wc.setCells (w.heap.size + 1) 0 CC.toList).heap[mb]? = some (.map #[] 0) ∧ Below w.heap.size w (wc.setCells (w.heap.size + 1) 0 CC.toList)) :=
      ⟨HCC.out, by omega, by rw [heap_setCells_off _ _ _ _ _ (by omega)]; exact hmb, below_setC (by omega) _ _ _ hbel⟩
    clear hE hmb hbel hcs hon hn hsz HI
    go_wp2_with (first
      | (refine wpList_load_mid rfl 96 (.tmp 5) rfl E 0 rfl CC.toList _ HLD.out Tryz.underlying96 rfl HIL.out ?_; rw [Array.toArray_toList])
      | (refine wpList_store_mid rfl 96 (.tmp 4) (.tmp 34) rfl (w.heap.size + 1) 0 CC rfl rfl HTH.out HIN.out HON.out ?_))
    refine bodyPost_ret (v := .agg CC) ?_ rfl ⟨mb, by rw [HF.out.1], HF.out.2⟩
    have hr := HR.out
    simp [results, Tryz.results34, asAddr, hr]
end Go.Proofs.YtiphkngfbpdeoaaGreatDoor
