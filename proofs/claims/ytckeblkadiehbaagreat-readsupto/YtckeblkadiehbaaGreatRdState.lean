/-
  What stands of a script's world between two steps of Reads.
-/
import Derived.Test.YtckeblkadiehbaaGreatKeepFRel
import Derived.Test.YtckeblkadiehbaaGreatRefFeed
import Derived.Test.YtckeblkadiehbaaGreatFrInv
namespace Go.Proofs.YtckeblkadiehbaaGreat
open Go.RowKit

/-- A reader of the program and the document's: their blocks, what they hold, what was fed. -/
structure RdR where
  xb : Nat
  pb : Nat
  gv : Value
  av : Value
  all : List UInt8

def rdCells : List RdR → List Value
  | [] => []
  | r :: t => .pointer (some ⟨r.xb, 0, none⟩) :: .pointer (some ⟨r.pb, 0, none⟩) :: rdCells t
theorem rdCells_length (rs : List RdR) : (rdCells rs).length = rs.length * 2 := by
  induction rs with
  | nil => rfl
  | cons p r ih => simp [rdCells, ih]; omega
theorem rdCells_append (a b : List RdR) : rdCells (a ++ b) = rdCells a ++ rdCells b := by
  induction a with
  | nil => rfl
  | cons p r ih => simp [rdCells, ih]
theorem rdCells_get {rs : List RdR} {k : Nat} (h : k < rs.length) : (rdCells rs)[k * 2]? = some (.pointer (some ⟨rs[k].xb, 0, none⟩)) ∧ (rdCells rs)[k * 2 + 1]? = some (.pointer (some ⟨rs[k].pb, 0, none⟩)) := by
  induction rs generalizing k with
  | nil => simp at h
  | cons p r ih =>
    cases k with
    | zero => simp [rdCells]
    | succ k =>
      simp only [List.length_cons] at h
      have := ih (k := k) (by omega)
      rw [Nat.succ_mul]
      simpa [rdCells, Nat.add_assoc] using this
theorem rdCells_set {rs : List RdR} {k : Nat} {r : RdR} (h : k < rs.length) (hx : r.xb = rs[k].xb) (hp : r.pb = rs[k].pb) : rdCells (rs.set k r) = rdCells rs := by
  induction rs generalizing k with
  | nil => simp at h
  | cons p t ih =>
    cases k with
    | zero => simp at hx hp; simp [rdCells, hx, hp]
    | succ k =>
      simp only [List.length_cons] at h
      simp only [List.getElem_cons_succ] at hx hp
      simp [rdCells, ih (k := k) (by omega) hx hp]

theorem rdT_chg {S : Nat → Prop} {w w' : World} {rb : Nat} {gv : Value} {r : Rd} (h : RdT w rb gv r) (hc : Chg S w w') (h1 : ¬ S rb) (h2 : ∀ k, gv.ownBlock = some k → ¬ S k) : RdT w' rb gv r := by
  rcases h with ⟨h0, h⟩ | ⟨h0, e, g, h⟩
  · exact Or.inl ⟨h0, h.chg hc h1 h2⟩
  · exact Or.inr ⟨h0, e, g, h.chg hc h1⟩
theorem rdT_own {w : World} {rb : Nat} {gv : Value} {r : Rd} (h : RdT w rb gv r) : ∃ n ys, w.ownsRow 0 5 1 gv n ys := by
  rcases h with ⟨_, h⟩ | ⟨_, e, _, _⟩
  · exact ⟨_, _, h.own⟩
  · exact ⟨0, [], by rw [e]; exact World.ownsRow_nil _ _ _ _⟩
theorem rdT_blk {w : World} {rb : Nat} {gv : Value} {r : Rd} (h : RdT w rb gv r) : ∃ cs, w.heap[rb]? = some (.cells cs 163 (0, 0)) := by
  rcases h with ⟨_, h⟩ | ⟨_, _, _, h⟩
  · obtain ⟨L, K, F, S, h⟩ := h.rd
    exact ⟨_, h⟩
  · exact ⟨_, h⟩

theorem BkS.chg {S : Nat → Prop} {w w' : World} {b : Nat} {cs : Array Value} {kv fv : Value} {recs : List RecB} {frs : List FRec} (h : BkS w b cs kv fv recs frs) (hc : Chg S w w') (hb : ¬ S b) (hk : ∀ j, kv.ownBlock = some j → ¬ S j) (hf : ∀ j, fv.ownBlock = some j → ¬ S j)
    (hB : ∀ x ∈ recs, ∀ u ∈ [x.l, x.a, x.b, x.c], ∀ j, u.ownBlock = some j → ¬ S j) (hF : ∀ x ∈ frs, ∀ u ∈ [x.l, x.a, x.b, x.c], ∀ j, u.ownBlock = some j → ¬ S j) : BkS w' b cs kv fv recs frs :=
  ⟨by rw [hc.block b (lt_of_block h.blk) hb]; exact h.blk, h.c9, h.c10, h.c11, h.c12, h.c13, owns_chg h.rowB hc hk, owns_chg h.rowF hc hf, fun r hr => (h.famB r hr).chg hc (hB r hr), fun r hr => (h.famF r hr).chg hc (hF r hr), h.okB, h.okF⟩

structure RInv (W0 V0 w : World) (b : Nat) (gF gH gC gS rv kv fv : Value) (rds : List RdR) (recs : List RecB) (frs : List FRec) (N : Nat) : Prop where
  bk : BkS w b (lw gF gH gC gS rv kv fv) kv fv recs frs
  rowR : w.ownsRow 0 98 2 rv rds.length (rdCells rds)
  rd : ∀ r ∈ rds, RdT w r.xb r.gv (feed [] r.all).2 ∧ RfS w r.pb r.av r.all ∧ r.all.length ≤ N
  ap1 : ∀ i j (hi : i < rds.length) (hj : j < rds.length), i ≠ j → rds[i].xb ≠ rds[j].xb ∧ rds[i].pb ≠ rds[j].pb ∧ (∀ k, rds[i].gv.ownBlock = some k → rds[j].gv.ownBlock ≠ some k ∧ rds[j].av.ownBlock ≠ some k) ∧ (∀ k, rds[i].av.ownBlock = some k → rds[j].av.ownBlock ≠ some k)
  ap2 : ∀ r ∈ rds, ∀ k, r.gv.ownBlock = some k → r.av.ownBlock ≠ some k
  ap3 : ∀ r ∈ rds, ∀ k, (r.gv.ownBlock = some k ∨ r.av.ownBlock = some k) → ∀ x ∈ recs, ∀ u ∈ [x.l, x.a, x.b, x.c], u.ownBlock ≠ some k
  new : ∀ r ∈ rds, V0.heap.size ≤ r.xb ∧ V0.heap.size ≤ r.pb ∧ (∀ k, (r.gv.ownBlock = some k ∨ r.av.ownBlock = some k) → V0.heap.size ≤ k)
  rvV : ∀ j, rv.ownBlock = some j → V0.heap.size ≤ j
  kvV : ∀ j, kv.ownBlock = some j → V0.heap.size ≤ j
  fvV : ∀ j, fv.ownBlock = some j → V0.heap.size ≤ j
  b0 : W0.heap.size ≤ b
  belV : Below W0.heap.size W0 V0
  chV : Chg (fun j => j = b) V0 w
  few : rds.length ≤ N ∧ recs.length ≤ N ∧ frs.length ≤ N

section
variable {W0 V0 w : World} {b N : Nat} {gF gH gC gS rv kv fv : Value} {rds : List RdR} {recs : List RecB} {frs : List FRec}

theorem RInv.bel (h : RInv W0 V0 w b gF gH gC gS rv kv fv rds recs frs N) : Below W0.heap.size W0 w :=
  below_of_chg h.belV h.chV fun j e => by rw [e]; exact h.b0

/-- The blocks of a reader. -/
def RB (r : RdR) (j : Nat) : Prop := j = r.xb ∨ r.gv.ownBlock = some j ∨ j = r.pb ∨ r.av.ownBlock = some j

theorem RInv.rb_lt (h : RInv W0 V0 w b gF gH gC gS rv kv fv rds recs frs N) {r : RdR} (hr : r ∈ rds) {j : Nat} (hj : RB r j) : j < w.heap.size := by
  obtain ⟨h1, h2, _⟩ := h.rd r hr
  rcases hj with rfl | e | rfl | e
  · obtain ⟨cs, hb⟩ := rdT_blk h1; exact lt_of_block hb
  · obtain ⟨n, ys, ho⟩ := rdT_own h1; exact owns_lt ho e
  · exact lt_of_block h2.blk
  · exact owns_lt h2.row e

/-- A block whose type is none of a reader's, and u8 rows of others, are apart from a reader's blocks. -/
theorem RInv.not_blk (h : RInv W0 V0 w b gF gH gC gS rv kv fv rds recs frs N) {r : RdR} (hr : r ∈ rds) {j t : Nat} {cs : Array Value} {fr : Nat × Nat} (hb : w.heap[j]? = some (.cells cs t fr)) (h1 : t ≠ 163) (h2 : t ≠ 96) (h3 : 5 ≠ t) : ¬ RB r j := by
  obtain ⟨a, c, _⟩ := h.rd r hr
  rintro (e | e | e | e)
  · subst e; obtain ⟨cs', hb'⟩ := rdT_blk a; rw [hb'] at hb; simp at hb; exact h1 hb.2.1.symm
  · obtain ⟨n, ys, ho⟩ := rdT_own a; exact owns_ne ho hb h3 e
  · subst e; rw [c.blk] at hb; simp at hb; exact h2 hb.2.1.symm
  · exact owns_ne c.row hb h3 e
theorem RInv.not_row (h : RInv W0 V0 w b gF gH gC gS rv kv fv rds recs frs N) {r : RdR} (hr : r ∈ rds) {base t s n : Nat} {v : Value} {ys : List Value} (ho : w.ownsRow base t s v n ys) (h1 : t ≠ 163) (h2 : t ≠ 96) (h3 : 5 ≠ t) : ∀ j, v.ownBlock = some j → ¬ RB r j := by
  intro j hj
  rcases ho.2 with ⟨rfl, _⟩ | ⟨g, cap, cur, rfl, _, hgg, _⟩
  · simp [Value.ownBlock] at hj
  · simp [Value.ownBlock] at hj
    subst hj
    exact h.not_blk hr hgg h1 h2 h3
theorem RInv.not_u8 (h : RInv W0 V0 w b gF gH gC gS rv kv fv rds recs frs N) {r : RdR} (hr : r ∈ rds) {base s n : Nat} {v : Value} {ys : List Value} (ho : w.ownsRow base 5 s v n ys) (hg : ∀ j, v.ownBlock = some j → r.gv.ownBlock ≠ some j ∧ r.av.ownBlock ≠ some j) : ∀ j, v.ownBlock = some j → ¬ RB r j := by
  intro j hj
  obtain ⟨a, c, _⟩ := h.rd r hr
  rintro (e | e | e | e)
  · subst e; obtain ⟨cs', hb'⟩ := rdT_blk a; exact owns_ne ho hb' (by decide) hj
  · exact (hg j hj).1 e
  · subst e; exact owns_ne ho c.blk (by decide) hj
  · exact (hg j hj).2 e

/-- What calls on one reader leave of all else. -/
theorem RInv.others (h : RInv W0 V0 w b gF gH gC gS rv kv fv rds recs frs N) {r : RdR} (hr : r ∈ rds) {w' : World} (hc : Chg (RB r) w w') : BkS w' b (lw gF gH gC gS rv kv fv) kv fv recs frs ∧ w'.ownsRow 0 98 2 rv rds.length (rdCells rds) := by
  refine ⟨h.bk.chg hc (h.not_blk hr h.bk.blk (by decide) (by decide) (by decide)) (h.not_row hr h.bk.rowB (by decide) (by decide) (by decide)) (h.not_row hr h.bk.rowF (by decide) (by decide) (by decide)) ?_ ?_, owns_chg h.rowR hc (h.not_row hr h.rowR (by decide) (by decide) (by decide))⟩
  · intro x hx u hu
    have hf := h.bk.famB x hx
    have ho : ∃ n ys, w.ownsRow 0 5 1 u n ys := by
      simp only [List.mem_cons, List.not_mem_nil, or_false] at hu
      rcases hu with rfl | rfl | rfl | rfl
      · exact ⟨_, _, hf.l⟩
      · exact ⟨_, _, hf.a⟩
      · exact ⟨_, _, hf.b⟩
      · exact ⟨_, _, hf.c⟩
    obtain ⟨n, ys, ho⟩ := ho
    exact h.not_u8 hr ho fun j hj => ⟨fun e => h.ap3 r hr j (Or.inl e) x hx u hu hj, fun e => h.ap3 r hr j (Or.inr e) x hx u hu hj⟩
  · intro x hx u hu
    have hf := h.bk.famF x hx
    have ho : ∃ n ys, w.ownsRow 0 56 4 u n ys := by
      simp only [List.mem_cons, List.not_mem_nil, or_false] at hu
      rcases hu with rfl | rfl | rfl | rfl
      · exact ⟨_, _, hf.l⟩
      · exact ⟨_, _, hf.a⟩
      · exact ⟨_, _, hf.b⟩
      · exact ⟨_, _, hf.c⟩
    obtain ⟨n, ys, ho⟩ := ho
    exact h.not_row hr ho (by decide) (by decide) (by decide)
end
end Go.Proofs.YtckeblkadiehbaaGreat
