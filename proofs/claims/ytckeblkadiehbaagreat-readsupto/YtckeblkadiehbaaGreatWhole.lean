/-
  (*sluicelaw.Books).whole.
-/
import Derived.Test.YtckeblkadiehbaaGreatAllFr
namespace Go.Proofs.YtckeblkadiehbaaGreat
open Go.RowKit

/-- A list of frames that was kept, and the three that were appended to it. -/
structure FRec where
  l : Value
  a : Value
  b : Value
  c : Value
  m : Int
  len : Nat

def frCells : List FRec → List Value
  | [] => []
  | r :: t => r.l :: r.a :: r.b :: r.c :: .int .i64 r.m :: frCells t
theorem frCells_length (rs : List FRec) : (frCells rs).length = rs.length * 5 := by
  induction rs with
  | nil => rfl
  | cons p r ih => simp [frCells, ih]; omega
theorem frCells_append (a b : List FRec) : frCells (a ++ b) = frCells a ++ frCells b := by
  induction a with
  | nil => rfl
  | cons p r ih => simp [frCells, ih]

structure FamF (w : World) (r : FRec) : Prop where
  l : w.ownsRow 0 56 4 r.l r.len (fillF r.m r.len)
  a : w.ownsRow 0 56 4 r.a (r.len + 1) (fillF r.m (r.len + 1))
  b : w.ownsRow 0 56 4 r.b (r.len + 2) (fillF r.m (r.len + 2))
  c : w.ownsRow 0 56 4 r.c (r.len + 3) (fillF r.m (r.len + 3))

theorem FamF.chg {S : Nat → Prop} {w w' : World} {r : FRec} (h : FamF w r) (hc : Chg S w w') (hs : ∀ v ∈ [r.l, r.a, r.b, r.c], ∀ k, v.ownBlock = some k → ¬ S k) : FamF w' r :=
  ⟨owns_chg h.l hc (hs _ (by simp)), owns_chg h.a hc (hs _ (by simp)), owns_chg h.b hc (hs _ (by simp)), owns_chg h.c hc (hs _ (by simp))⟩

theorem recCells_get {rs : List RecB} {k : Nat} (h : k < rs.length) : (recCells rs)[k * 5]? = some rs[k].l ∧ (recCells rs)[k * 5 + 1]? = some rs[k].a ∧ (recCells rs)[k * 5 + 2]? = some rs[k].b ∧ (recCells rs)[k * 5 + 3]? = some rs[k].c ∧ (recCells rs)[k * 5 + 4]? = some (.int .i64 rs[k].n) := by
  induction rs generalizing k with
  | nil => simp at h
  | cons p r ih =>
    cases k with
    | zero => simp [recCells]
    | succ k =>
      simp only [List.length_cons] at h
      have := ih (k := k) (by omega)
      rw [Nat.succ_mul]
      simpa [recCells, Nat.add_assoc] using this
theorem frCells_get {rs : List FRec} {k : Nat} (h : k < rs.length) : (frCells rs)[k * 5]? = some rs[k].l ∧ (frCells rs)[k * 5 + 1]? = some rs[k].a ∧ (frCells rs)[k * 5 + 2]? = some rs[k].b ∧ (frCells rs)[k * 5 + 3]? = some rs[k].c ∧ (frCells rs)[k * 5 + 4]? = some (.int .i64 rs[k].m) := by
  induction rs generalizing k with
  | nil => simp at h
  | cons p r ih =>
    cases k with
    | zero => simp [frCells]
    | succ k =>
      simp only [List.length_cons] at h
      have := ih (k := k) (by omega)
      rw [Nat.succ_mul]
      simpa [frCells, Nat.add_assoc] using this

/-- The books, as they lie in a World. -/
structure BkS (w : World) (b : Nat) (cs : Array Value) (kv fv : Value) (recs : List RecB) (frs : List FRec) : Prop where
  blk : w.heap[b]? = some (.cells cs 46 (0, 0))
  c9 : cs[9]? = some kv
  c10 : cs[10]? = some (.slice none 0 0)
  c11 : cs[11]? = some (.slice none 0 0)
  c12 : cs[12]? = some fv
  c13 : cs[13]? = some (.slice none 0 0)
  rowB : w.ownsRow 0 65 5 kv recs.length (recCells recs)
  rowF : w.ownsRow 0 75 5 fv frs.length (frCells frs)
  famB : ∀ r ∈ recs, FamB w r
  famF : ∀ r ∈ frs, FamF w r
  okB : ∀ r ∈ recs, r.n ≤ 1099511627776 ∧ r.len ≤ 4294967296
  okF : ∀ r ∈ frs, r.len ≤ 1073741824

/-- What a call that makes new memory alone leaves of the books. -/
theorem BkS.below {w w' : World} {b : Nat} {cs : Array Value} {kv fv : Value} {recs : List RecB} {frs : List FRec} (h : BkS w b cs kv fv recs frs) (hb : Below w.heap.size w w') : BkS w' b cs kv fv recs frs := by
  have hc : Chg (fun _ => False) w w' := Chg.of_below hb
  exact ⟨by rw [hb.block b (lt_of_block h.blk)]; exact h.blk, h.c9, h.c10, h.c11, h.c12, h.c13, owns_chg h.rowB hc (fun _ _ => id), owns_chg h.rowF hc (fun _ _ => id), fun r hr => (h.famB r hr).chg hc (fun _ _ _ _ => id), fun r hr => (h.famF r hr).chg hc (fun _ _ _ _ => id), h.okB, h.okF⟩

theorem told_kept {w w' : World} {b : Nat} {cs : Array Value} {t : TypeId} {fr : Nat × Nat} (h : w.heap[b]? = some (.cells cs t fr)) (hb : Below w.heap.size w w') : w'.heap[b]? = some (.cells cs t fr) := by
  rw [hb.block b (lt_of_block h)]; exact h

theorem bytes_of_marks {w : World} {v : Value} {n k : Nat} (h : w.ownsRow 0 5 1 v k ((marks n k).map B)) : BytesIn w v (marks n k) := bytesIn_of_owns h (marks_length n k).symm

set_option maxRecDepth 100000 in
set_option maxHeartbeats 6400000 in
theorem whole_true (b : Nat) (cs : Array Value) (kv fv : Value) (recs : List RecB) (frs : List FRec) (w : World) (h : BkS w b cs kv fv recs frs) (hn : recs.length ≤ 268435456) (hf : frs.length ≤ 268435456) :
    Calls Tryz.prog 9 #[.pointer (some ⟨b, 9, none⟩)] w fun e w' => e = .returned (.bool true) ∧ Below w.heap.size w w' := by
  have H := hide h
  obtain ⟨sk, ck, rfl⟩ := slice_len h.rowB
  obtain ⟨sf, cf, rfl⟩ := slice_len h.rowF
  have hblt := lt_of_block h.blk
  have g9 : w.cell? ⟨b, 9, none⟩ = some (.slice sk recs.length ck) := by rw [cell_of_row w b _ _ _ _ h.blk]; exact h.c9
  have g10 : w.cell? ⟨b, 10, none⟩ = some (.slice none 0 0) := by rw [cell_of_row w b _ _ _ _ h.blk]; exact h.c10
  have g11 : w.cell? ⟨b, 11, none⟩ = some (.slice none 0 0) := by rw [cell_of_row w b _ _ _ _ h.blk]; exact h.c11
  have g12 : w.cell? ⟨b, 12, none⟩ = some (.slice sf frs.length cf) := by rw [cell_of_row w b _ _ _ _ h.blk]; exact h.c12
  have g13 : w.cell? ⟨b, 13, none⟩ = some (.slice none 0 0) := by rw [cell_of_row w b _ _ _ _ h.blk]; exact h.c13
  clear h
  go_enter Tryz.func9, Tryz.ntmps9
  go_wp2
  go_loopw [3, 4] (fun ok i wr => ∃ k : Nat, k ≤ recs.length ∧ ok = .bool true ∧ i = .int .i64 k ∧ Below w.heap.size w wr) (fun _ i _ => recs.length - (intOf i).toNat)
  case atStart => exact ⟨0, Nat.zero_le _, rfl, rfl, Below.refl _ _⟩
  case round =>
    obtain ⟨k, hk, rfl, rfl, hbel⟩ := hrel
    have d9 := (hbel.cell (p := ⟨b, 9, none⟩) hblt).trans g9
    by_cases hlt : k < recs.length
    · obtain ⟨g, hg, hck⟩ := slice_some H.out.rowB (by omega)
      subst hg
      obtain ⟨r, hr⟩ : ∃ r, r = recs[k] := ⟨_, rfl⟩
      have hrm : r ∈ recs := by rw [hr]; exact List.getElem_mem _
      have hgl : g < w.heap.size := owns_lt H.out.rowB rfl
      obtain ⟨e0, e1, e2, e3, e4⟩ := recCells_get hlt
      rw [← hr] at e0 e1 e2 e3 e4
      have hrow := H.out.rowB
      have c0 : wr.cell? ⟨g, k * 5, none⟩ = some r.l := (hbel.cell (p := ⟨g, k * 5, none⟩) hgl).trans (by rw [hrow.cellAt _ (by omega)]; exact e0)
      have c1 : wr.cell? ⟨g, k * 5 + 1, none⟩ = some r.a := (hbel.cell (p := ⟨g, k * 5 + 1, none⟩) hgl).trans (by rw [hrow.cellAt _ (by omega)]; exact e1)
      have c2 : wr.cell? ⟨g, k * 5 + 2, none⟩ = some r.b := (hbel.cell (p := ⟨g, k * 5 + 2, none⟩) hgl).trans (by rw [hrow.cellAt _ (by omega)]; exact e2)
      have c3 : wr.cell? ⟨g, k * 5 + 3, none⟩ = some r.c := (hbel.cell (p := ⟨g, k * 5 + 3, none⟩) hgl).trans (by rw [hrow.cellAt _ (by omega)]; exact e3)
      have c4 : wr.cell? ⟨g, k * 5 + 4, none⟩ = some (.int .i64 r.n) := (hbel.cell (p := ⟨g, k * 5 + 4, none⟩) hgl).trans (by rw [hrow.cellAt _ (by omega)]; exact e4)
      have hfam := H.out.famB r hrm
      obtain ⟨hrn, hrl⟩ := H.out.okB r hrm
      obtain ⟨rl, ra, rb, rc, rn, rlen⟩ := r
      simp only at c0 c1 c2 c3 c4 hrn hrl
      have m1 : w.ownsRow 0 5 1 rl rlen ((marks rn rlen).map B) := hfam.l
      have m2 : w.ownsRow 0 5 1 ra (rlen + 1) ((marks rn (rlen + 1)).map B) := hfam.a
      have m3 : w.ownsRow 0 5 1 rb (rlen + 2) ((marks rn (rlen + 2)).map B) := hfam.b
      have m4 : w.ownsRow 0 5 1 rc (rlen + 3) ((marks rn (rlen + 3)).map B) := hfam.c
      clear hfam
      obtain ⟨s1, q1, rfl⟩ := slice_len m1
      obtain ⟨s2, q2, rfl⟩ := slice_len m2
      obtain ⟨s3, q3, rfl⟩ := slice_len m3
      obtain ⟨s4, q4, rfl⟩ := slice_len m4
      have K1 : Hid (∀ w', Below w.heap.size w w' → BytesIn w' (.slice s1 rlen q1) (marks rn rlen)) := fun w' hb' => bytes_of_marks (owns_chg m1 (Chg.of_below (S := fun _ => False) hb') (fun _ _ => id))
      have K2 : Hid (∀ w', Below w.heap.size w w' → BytesIn w' (.slice s2 (rlen + 1) q2) (marks rn (rlen + 1))) := fun w' hb' => bytes_of_marks (owns_chg m2 (Chg.of_below (S := fun _ => False) hb') (fun _ _ => id))
      have K3 : Hid (∀ w', Below w.heap.size w w' → BytesIn w' (.slice s3 (rlen + 2) q3) (marks rn (rlen + 2))) := fun w' hb' => bytes_of_marks (owns_chg m3 (Chg.of_below (S := fun _ => False) hb') (fun _ _ => id))
      have K4 : Hid (∀ w', Below w.heap.size w w' → BytesIn w' (.slice s4 (rlen + 3) q4) (marks rn (rlen + 3))) := fun w' hb' => bytes_of_marks (owns_chg m4 (Chg.of_below (S := fun _ => False) hb') (fun _ _ => id))
      have hbA : Below w.heap.size w (wr.alloc (.cells #[.slice s1 rlen q1, .slice s2 (rlen + 1) q2, .slice s3 (rlen + 2) q3, .slice s4 (rlen + 3) q4, .int .i64 rn] 65)) := hbel.alloc hbel.size _
      have HBA := hide hbA
      clear hbA m1 m2 m3 m4 e0 e1 e2 e3 e4 hr hrm hrow H g9 g10 g11 g12 g13
      have hx0 := heap_alloc_new wr (.cells #[.slice s1 rlen q1, .slice s2 (rlen + 1) q2, .slice s3 (rlen + 2) q3, .slice s4 (rlen + 3) q4, .int .i64 rn] 65)
      have HX0 := hide hx0
      clear hx0
      go_wp2_with fail
      refine (marked_true (.slice s1 rlen q1) rn rlen _ (K1.out _ HBA.out) (by omega) (by omega)).mono ?_
      rintro e w1 ⟨rfl, hb1⟩
      have hB1 := hide (HBA.out.trans (hb1.mono HBA.out.size))
      have HX1 := hide (told_kept HX0.out hb1)
      obtain ⟨a0, a1, a2, a3, a4, -⟩ := lists_block HX1.out
      clear hb1 c0 c1 c2 c3 c4 d9
      go_wp2_with fail
      refine (marked_true (.slice s2 (rlen + 1) q2) rn (rlen + 1) _ (K2.out _ hB1.out) (by omega) (by omega)).mono ?_
      rintro e w2 ⟨rfl, hb2⟩
      have hB2 := hide (hB1.out.trans (hb2.mono hB1.out.size))
      have HX2 := hide (told_kept HX1.out hb2)
      obtain ⟨b0, b1, b2, b3, b4, -⟩ := lists_block HX2.out
      clear hb2 a0 a1 a2 a3 a4
      go_wp2_with fail
      refine (marked_true (.slice s3 (rlen + 2) q3) rn (rlen + 2) _ (K3.out _ hB2.out) (by omega) (by omega)).mono ?_
      rintro e w3 ⟨rfl, hb3⟩
      have hB3 := hide (hB2.out.trans (hb3.mono hB2.out.size))
      have HX3 := hide (told_kept HX2.out hb3)
      obtain ⟨y0, y1, y2, y3, y4, -⟩ := lists_block HX3.out
      clear hb3 b0 b1 b2 b3 b4
      go_wp2_with fail
      refine (marked_true (.slice s4 (rlen + 3) q4) rn (rlen + 3) _ (K4.out _ hB3.out) (by omega) (by omega)).mono ?_
      rintro e w4 ⟨rfl, hb4⟩
      have hB4 := hide (hB3.out.trans (hb4.mono hB3.out.size))
      clear hb4 y0 y1 y2 y3 y4
      go_wp2
      go_roundw
      case rel => exact ⟨k + 1, by omega, rfl, by go_num, hB4.out⟩
      case measure => simp [intOf]; omega
    · have d10 := (hbel.cell (p := ⟨b, 10, none⟩) hblt).trans g10
      have d11 := (hbel.cell (p := ⟨b, 11, none⟩) hblt).trans g11
      have d12 := (hbel.cell (p := ⟨b, 12, none⟩) hblt).trans g12
      have d13 := (hbel.cell (p := ⟨b, 13, none⟩) hblt).trans g13
      clear g9 g10 g11 g12 g13
      go_wp2
      refine wp_loop_rounds 1 ?_
      rw [rounds_succ]
      go_wp2
      refine wp_loop_rounds 1 ?_
      rw [rounds_succ]
      go_wp2
      obtain ⟨w0, hw0⟩ : ∃ w0, w0 = wr := ⟨_, rfl⟩
      have hblt0 : b < w0.heap.size := by rw [hw0]; have := hbel.size; omega
      have hbel0 : Below w.heap.size w w0 := by rw [hw0]; exact hbel
      rw [← hw0] at d9 d10 d11 d12 d13 ⊢
      clear hbel hw0 d9 d10 d11
      go_loopw [3, 10] (fun ok i wr => ∃ k : Nat, k ≤ frs.length ∧ ok = .bool true ∧ i = .int .i64 k ∧ Below w0.heap.size w0 wr) (fun _ i _ => frs.length - (intOf i).toNat)
      case atStart => exact ⟨0, Nat.zero_le _, rfl, rfl, Below.refl _ _⟩
      case round =>
        obtain ⟨j, hj, rfl, rfl, hbj⟩ := hrel
        have d12' := (hbj.cell (p := ⟨b, 12, none⟩) hblt0).trans d12
        have d13' := (hbj.cell (p := ⟨b, 13, none⟩) hblt0).trans d13
        clear d12 d13
        have hbw := hbel0.trans (hbj.mono hbel0.size)
        by_cases hjl : j < frs.length
        · obtain ⟨g, hg, hck⟩ := slice_some H.out.rowF (by omega)
          subst hg
          obtain ⟨r, hr⟩ : ∃ r, r = frs[j] := ⟨_, rfl⟩
          have hrm : r ∈ frs := by rw [hr]; exact List.getElem_mem _
          have hgl : g < w.heap.size := owns_lt H.out.rowF rfl
          obtain ⟨e0, e1, e2, e3, e4⟩ := frCells_get hjl
          rw [← hr] at e0 e1 e2 e3 e4
          have hrow := H.out.rowF
          have c0 : wr.cell? ⟨g, j * 5, none⟩ = some r.l := (hbw.cell (p := ⟨g, j * 5, none⟩) hgl).trans (by rw [hrow.cellAt _ (by omega)]; exact e0)
          have c1 : wr.cell? ⟨g, j * 5 + 1, none⟩ = some r.a := (hbw.cell (p := ⟨g, j * 5 + 1, none⟩) hgl).trans (by rw [hrow.cellAt _ (by omega)]; exact e1)
          have c2 : wr.cell? ⟨g, j * 5 + 2, none⟩ = some r.b := (hbw.cell (p := ⟨g, j * 5 + 2, none⟩) hgl).trans (by rw [hrow.cellAt _ (by omega)]; exact e2)
          have c3 : wr.cell? ⟨g, j * 5 + 3, none⟩ = some r.c := (hbw.cell (p := ⟨g, j * 5 + 3, none⟩) hgl).trans (by rw [hrow.cellAt _ (by omega)]; exact e3)
          have c4 : wr.cell? ⟨g, j * 5 + 4, none⟩ = some (.int .i64 r.m) := (hbw.cell (p := ⟨g, j * 5 + 4, none⟩) hgl).trans (by rw [hrow.cellAt _ (by omega)]; exact e4)
          have hfam := H.out.famF r hrm
          have hrl := H.out.okF r hrm
          obtain ⟨rl, ra, rb, rc, rm, rlen⟩ := r
          simp only at c0 c1 c2 c3 c4 hrl
          have m1 : w.ownsRow 0 56 4 rl rlen (fillF rm rlen) := hfam.l
          have m2 : w.ownsRow 0 56 4 ra (rlen + 1) (fillF rm (rlen + 1)) := hfam.a
          have m3 : w.ownsRow 0 56 4 rb (rlen + 2) (fillF rm (rlen + 2)) := hfam.b
          have m4 : w.ownsRow 0 56 4 rc (rlen + 3) (fillF rm (rlen + 3)) := hfam.c
          clear hfam
          obtain ⟨s1, q1, rfl⟩ := slice_len m1
          obtain ⟨s2, q2, rfl⟩ := slice_len m2
          obtain ⟨s3, q3, rfl⟩ := slice_len m3
          obtain ⟨s4, q4, rfl⟩ := slice_len m4
          have hbA : Below w.heap.size w (wr.alloc (.cells #[.slice s1 rlen q1, .slice s2 (rlen + 1) q2, .slice s3 (rlen + 2) q3, .slice s4 (rlen + 3) q4, .int .i64 rm] 75)) := hbw.alloc hbw.size _
          have K1 := hide (owns_chg m1 (Chg.of_below (S := fun _ => False) hbA) (fun _ _ => id))
          have K2 := hide (owns_chg m2 (Chg.of_below (S := fun _ => False) hbA) (fun _ _ => id))
          have K3 := hide (owns_chg m3 (Chg.of_below (S := fun _ => False) hbA) (fun _ _ => id))
          have K4 := hide (owns_chg m4 (Chg.of_below (S := fun _ => False) hbA) (fun _ _ => id))
          have HBJ := hide (hbj.alloc hbj.size (.cells #[.slice s1 rlen q1, .slice s2 (rlen + 1) q2, .slice s3 (rlen + 2) q3, .slice s4 (rlen + 3) q4, .int .i64 rm] 75))
          clear hbA m1 m2 m3 m4 e0 e1 e2 e3 e4 hr hrm hrow H hbw hbj
          go_wp2_with fail
          refine (allFrames_true (.slice s1 rlen q1) rm rlen _ K1.out (by omega)).mono ?_
          rintro e w1 ⟨rfl, hw1⟩
          rw [hw1]
          clear hw1 w1
          go_wp2_with fail
          refine (allFrames_true (.slice s2 (rlen + 1) q2) rm (rlen + 1) _ K2.out (by omega)).mono ?_
          rintro e w2 ⟨rfl, hw1⟩
          rw [hw1]
          clear hw1 w2
          go_wp2_with fail
          refine (allFrames_true (.slice s3 (rlen + 2) q3) rm (rlen + 2) _ K3.out (by omega)).mono ?_
          rintro e w3 ⟨rfl, hw1⟩
          rw [hw1]
          clear hw1 w3
          go_wp2_with fail
          refine (allFrames_true (.slice s4 (rlen + 3) q4) rm (rlen + 3) _ K4.out (by omega)).mono ?_
          rintro e w4 ⟨rfl, hw1⟩
          rw [hw1]
          clear hw1 w4
          go_wp2
          go_roundw
          case rel => exact ⟨j + 1, by omega, rfl, by go_num, HBJ.out⟩
          case measure => simp [intOf]; omega
        · go_wp2
          refine wp_loop_rounds 1 ?_
          rw [rounds_succ]
          go_wp2
          go_ret
          exact ⟨rfl, hbw⟩
end Go.Proofs.YtckeblkadiehbaaGreat
