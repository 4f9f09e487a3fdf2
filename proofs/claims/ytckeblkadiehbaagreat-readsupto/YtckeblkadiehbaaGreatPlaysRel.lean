/-
  Scripts, as arguments; what a law asks of its steps.
-/
import Derived.Test.YtckeblkadiehbaaGreatFrInv
import Derived.Test.YtckeblkadiehbaaGreatOpening
namespace Go.Proofs.YtckeblkadiehbaaGreat
open Go.RowKit

theorem frame_blockT {w : World} {b : Nat} {v0 v1 v2 v3 : Value} {t : TypeId} (h : w.heap[b]? = some (.cells #[v0, v1, v2, v3] t (0, 0))) :
    w.cell? ⟨b, 0, none⟩ = some v0 ∧ w.cell? ⟨b, 1, none⟩ = some v1 ∧ w.cell? ⟨b, 2, none⟩ = some v2 ∧ w.cell? ⟨b, 3, none⟩ = some v3 ∧ ∀ o, w.frozen? ⟨b, o, none⟩ = false := by
  refine ⟨?_, ?_, ?_, ?_, fun o => by simp [World.frozen?, h]⟩ <;> rw [cell_of_row w b _ _ _ _ h] <;> rfl

def OpV.ok (o : OpV) : Prop := I64 o.k ∧ I64 o.a ∧ I64 o.b ∧ I64 o.c ∧ o.s.size ≤ 1048576

/-- A script, as it lies. -/
structure OpsIn (w : World) (sa : Option Addr) (ops : List OpV) : Prop where
  cell : ∀ k (h : k < ops.length), ∃ ob off, sa = some ⟨ob, off, none⟩ ∧ ob < w.heap.size ∧ w.cell? ⟨ob, off + k * 5, none⟩ = some (.int .i64 ops[k].k) ∧ w.cell? ⟨ob, off + k * 5 + 1, none⟩ = some (.int .i64 ops[k].a) ∧
    w.cell? ⟨ob, off + k * 5 + 2, none⟩ = some (.int .i64 ops[k].b) ∧ w.cell? ⟨ob, off + k * 5 + 3, none⟩ = some (.int .i64 ops[k].c) ∧ w.cell? ⟨ob, off + k * 5 + 4, none⟩ = some (.string ops[k].s)
  ok : ∀ o ∈ ops, o.ok

theorem OpsIn.chg {S : Nat → Prop} {w w' : World} {sa : Option Addr} {ops : List OpV} (h : OpsIn w sa ops) (hc : Chg S w w') (hs : ∀ ob off, sa = some ⟨ob, off, none⟩ → ¬ S ob) : OpsIn w' sa ops := by
  refine ⟨fun k hk => ?_, h.ok⟩
  obtain ⟨ob, off, he, hl, a, b, c, d, e⟩ := h.cell k hk
  have hn := hs ob off he
  exact ⟨ob, off, he, Nat.lt_of_lt_of_le hl hc.size, (hc.cell (p := ⟨ob, off + k * 5, none⟩) hl hn).trans a, (hc.cell (p := ⟨ob, off + k * 5 + 1, none⟩) hl hn).trans b, (hc.cell (p := ⟨ob, off + k * 5 + 2, none⟩) hl hn).trans c, (hc.cell (p := ⟨ob, off + k * 5 + 3, none⟩) hl hn).trans d, (hc.cell (p := ⟨ob, off + k * 5 + 4, none⟩) hl hn).trans e⟩
theorem OpsIn.below {w w' : World} {sa : Option Addr} {ops : List OpV} (h : OpsIn w sa ops) (hb : Below w.heap.size w w') : OpsIn w' sa ops := h.chg (Chg.of_below (S := fun _ => False) hb) (fun _ _ _ => id)

theorem opCells_get {rs : List OpV} {k : Nat} (h : k < rs.length) : (opCells rs)[k * 5]? = some (.int .i64 rs[k].k) ∧ (opCells rs)[k * 5 + 1]? = some (.int .i64 rs[k].a) ∧ (opCells rs)[k * 5 + 2]? = some (.int .i64 rs[k].b) ∧ (opCells rs)[k * 5 + 3]? = some (.int .i64 rs[k].c) ∧ (opCells rs)[k * 5 + 4]? = some (.string rs[k].s) := by
  induction rs generalizing k with
  | nil => simp at h
  | cons p r ih =>
    cases k with
    | zero => simp [opCells]
    | succ k =>
      simp only [List.length_cons] at h
      have := ih (k := k) (by omega)
      rw [Nat.succ_mul]
      simpa [opCells, Nat.add_assoc] using this

theorem opsIn_of_block {w : World} {b : Nat} {ops : List OpV} {t : TypeId} {fr : Nat × Nat} (h : w.heap[b]? = some (.cells (opCells ops).toArray t fr)) (hok : ∀ o ∈ ops, o.ok) : OpsIn w (some ⟨b, 0, none⟩) ops := by
  refine ⟨fun k hk => ⟨b, 0, rfl, lt_of_block h, ?_⟩, hok⟩
  obtain ⟨a0, a1, a2, a3, a4⟩ := opCells_get hk
  simp only [Nat.zero_add]
  exact ⟨(row_cell h).trans a0, (row_cell h).trans a1, (row_cell h).trans a2, (row_cell h).trans a3, (row_cell h).trans a4⟩

/-- What a script weighs: its steps and the bytes that they bring. -/
def wt : List OpV → Nat
  | [] => 0
  | o :: r => 1 + o.s.size + wt r
theorem wt_append (a b : List OpV) : wt (a ++ b) = wt a + wt b := by
  induction a with
  | nil => simp [wt]
  | cons o r ih => simp only [List.cons_append, wt, ih]; omega
theorem wt_next {ops : List OpV} {k : Nat} (h : k < ops.length) : wt (ops.take (k + 1)) = wt (ops.take k) + 1 + ops[k].s.size := by
  rw [List.take_succ_eq_append_getElem h, wt_append]
  simp only [wt]; omega
theorem wt_take (ops : List OpV) (k : Nat) : wt (ops.take k) ≤ wt ops := by
  have h := wt_append (ops.take k) (ops.drop k)
  rw [List.take_append_drop] at h
  omega
theorem wt_open : wt openOps ≤ 16777216 := by decide

theorem openOps_ok : ∀ o ∈ openOps, o.ok := by
  intro o ho
  simp only [openOps, List.mem_cons, List.not_mem_nil, or_false] at ho
  rcases ho with rfl | rfl | rfl | rfl | rfl | rfl | rfl | rfl | rfl | rfl | rfl | rfl | rfl | rfl <;> exact ⟨⟨by decide, by decide⟩, ⟨by decide, by decide⟩, ⟨by decide, by decide⟩, ⟨by decide, by decide⟩, by decide⟩

/-- What a law asks of its steps. -/
structure Played (lo hi : Int) (G : World → Value → Prop) (I : World → World → World → Nat → Value → Value → Value → Value → Nat → Prop) : Prop where
  new : ∀ W0 V0 b gF gH gC gS, V0.heap[b]? = some (.cells (lw gF gH gC gS (.slice none 0 0) (.slice none 0 0) (.slice none 0 0)) 46 (0, 0)) → W0.heap.size ≤ b → Below W0.heap.size W0 V0 → I W0 V0 V0 b gF gH gC gS 0
  below : ∀ W0 V0 w w' b gF gH gC gS m, I W0 V0 w b gF gH gC gS m → Below w.heap.size w w' → I W0 V0 w' b gF gH gC gS m
  bel : ∀ W0 V0 w b gF gH gC gS m, I W0 V0 w b gF gH gC gS m → Below W0.heap.size W0 w ∧ Chg (fun j => j = b) V0 w
  mono : ∀ W0 V0 w b gF gH gC gS m n, m ≤ n → I W0 V0 w b gF gH gC gS m → I W0 V0 w b gF gH gC gS n
  bks : ∀ W0 V0 w b gF gH gC gS m, I W0 V0 w b gF gH gC gS m → ∃ cs kv fv recs frs, BkS w b cs kv fv recs frs ∧ recs.length ≤ m ∧ frs.length ≤ m
  step : ∀ W0 V0 w b gF gH gC gS m (o : OpV), lo ≤ o.k → o.k ≤ hi → o.ok → G W0 gF → m + 1 + o.s.size ≤ 16777216 → I W0 V0 w b gF gH gC gS m →
    Calls Tryz.prog 8 #[.pointer (some ⟨b, 0, none⟩), .agg #[.int .i64 o.k, .int .i64 o.a, .int .i64 o.b, .int .i64 o.c, .string o.s]] w fun e w' => e = .returned (.bool true) ∧ I W0 V0 w' b gF gH gC gS (m + 1 + o.s.size)
  known : ∀ w' n, w'.heap[n + 6]? = some (.cells #[.int .i64 0, .int .i64 1, .int .i64 1, .slice (some ⟨n + 2, 0, none⟩) 2 2] 56 (0, 0)) → w'.heap[n + 2]? = some (.cells #[.int .u8 104, .int .u8 105] 5 (2, 3)) → G w' (.slice (some ⟨n + 6, 0, none⟩) 1 1)
end Go.Proofs.YtckeblkadiehbaaGreat
