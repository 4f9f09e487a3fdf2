import Derived.Test.YtdifgcppmnmagaaGreatDoorRGaa
import Derived.Lib.SlBytesConst
import Derived.ProofKit
import Derived.OpenShut
import Derived.ShutString
import Derived.ChangeOld
import Derived.JoinedCond
import Derived.Deep.Slices
import Derived.Lib.SmallJoins
import Derived.WalkKit
import Derived.WalkSpells
import Derived.WalkLawsBesides
import Derived.BigQuiet
import Derived.BigRegion
import Derived.Deep.QuietTactic
set_option linter.unusedVariables false
set_option linter.unusedSimpArgs false
/-
  (*sluicelaw.Books).whole.
-/
namespace Go.Proofs.YtdifgcppmnmagaaGreatDoor
open Go.RowKit

/-- A list of frames that was kept, and the three that were appended to it. -/
structure FRec where
  l : Value
  a : Value
  b : Value
  c : Value
  m : Int
  len : Nat

def frCells : List FRec → List Value
  | [] => []
  | r :: t => r.l :: r.a :: r.b :: r.c :: .int .i64 r.m :: frCells t
theorem frCells_length (rs : List FRec) : (frCells rs).length = rs.length * 5 := by
  induction rs with
  | nil => rfl
  | cons p r ih => simp [frCells, ih]; omega
theorem frCells_append (a b : List FRec) : frCells (a ++ b) = frCells a ++ frCells b := by
  induction a with
  | nil => rfl
  | cons p r ih => simp [frCells, ih]

structure FamF (w : World) (r : FRec) : Prop where
  l : w.ownsRow 0 56 4 r.l r.len (fillF r.m r.len)
  a : w.ownsRow 0 56 4 r.a (r.len + 1) (fillF r.m (r.len + 1))
  b : w.ownsRow 0 56 4 r.b (r.len + 2) (fillF r.m (r.len + 2))
  c : w.ownsRow 0 56 4 r.c (r.len + 3) (fillF r.m (r.len + 3))

theorem FamF.chg {S : Nat → Prop} {w w' : World} {r : FRec} (h : FamF w r) (hc : Chg S w w') (hs : ∀ v ∈ [r.l, r.a, r.b, r.c], ∀ k, v.ownBlock = some k → ¬ S k) : FamF w' r :=
  ⟨owns_chg h.l hc (hs _ (by simp)), owns_chg h.a hc (hs _ (by simp)), owns_chg h.b hc (hs _ (by simp)), owns_chg h.c hc (hs _ (by simp))⟩

theorem recCells_get {rs : List RecB} {k : Nat} (h : k < rs.length) : (recCells rs)[k * 5]? = some rs[k].l ∧ (recCells rs)[k * 5 + 1]? = some rs[k].a ∧ (recCells rs)[k * 5 + 2]? = some rs[k].b ∧ (recCells rs)[k * 5 + 3]? = some rs[k].c ∧ (recCells rs)[k * 5 + 4]? = some (.int .i64 rs[k].n) := by
  induction rs generalizing k with
  | nil => simp at h
  | cons p r ih =>
    cases k with
    | zero => simp [recCells]
    | succ k =>
      simp only [List.length_cons] at h
      have := ih (k := k) (by omega)
      rw [Nat.succ_mul]
      simpa [recCells, Nat.add_assoc] using this
theorem frCells_get {rs : List FRec} {k : Nat} (h : k < rs.length) : (frCells rs)[k * 5]? = some rs[k].l ∧ (frCells rs)[k * 5 + 1]? = some rs[k].a ∧ (frCells rs)[k * 5 + 2]? = some rs[k].b ∧ (frCells rs)[k * 5 + 3]? = some rs[k].c ∧ (frCells rs)[k * 5 + 4]? = some (.int .i64 rs[k].m) := by
  induction rs generalizing k with
  | nil => simp at h
  | cons p r ih =>
    cases k with
    | zero => simp [frCells]
    | succ k =>
      simp only [List.length_cons] at h
      have := ih (k := k) (by omega)
      rw [Nat.succ_mul]
      simpa [frCells, Nat.add_assoc] using this

/-- The books, as they lie in a World. -/
structure BkS (w : World) (b : Nat) (cs : Array Value) (kv fv : Value) (recs : List RecB) (frs : List FRec) : Prop where
  blk : w.heap[b]? = some (.cells cs 46 (0, 0))
  c9 : cs[9]? = some kv
  c10 : cs[10]? = some (.slice none 0 0)
  c11 : cs[11]? = some (.slice none 0 0)
  c12 : cs[12]? = some fv
  c13 : cs[13]? = some (.slice none 0 0)
  rowB : w.ownsRow 0 65 5 kv recs.length (recCells recs)
  rowF : w.ownsRow 0 75 5 fv frs.length (frCells frs)
  famB : ∀ r ∈ recs, FamB w r
  famF : ∀ r ∈ frs, FamF w r
  okB : ∀ r ∈ recs, r.n ≤ 1099511627776 ∧ r.len ≤ 4294967296
  okF : ∀ r ∈ frs, r.len ≤ 1073741824

/-- What a call that makes new memory alone leaves of the books. -/
theorem BkS.below {w w' : World} {b : Nat} {cs : Array Value} {kv fv : Value} {recs : List RecB} {frs : List FRec} (h : BkS w b cs kv fv recs frs) (hb : Below w.heap.size w w') : BkS w' b cs kv fv recs frs := by
  have hc : Chg (fun _ => False) w w' := Chg.of_below hb
  exact ⟨by rw [hb.block b (lt_of_block h.blk)]; exact h.blk, h.c9, h.c10, h.c11, h.c12, h.c13, owns_chg h.rowB hc (fun _ _ => id), owns_chg h.rowF hc (fun _ _ => id), fun r hr => (h.famB r hr).chg hc (fun _ _ _ _ => id), fun r hr => (h.famF r hr).chg hc (fun _ _ _ _ => id), h.okB, h.okF⟩

theorem told_kept {w w' : World} {b : Nat} {cs : Array Value} {t : TypeId} {fr : Nat × Nat} (h : w.heap[b]? = some (.cells cs t fr)) (hb : Below w.heap.size w w') : w'.heap[b]? = some (.cells cs t fr) := by
  rw [hb.block b (lt_of_block h)]; exact h

theorem bytes_of_marks {w : World} {v : Value} {n k : Nat} (h : w.ownsRow 0 5 1 v k ((marks n k).map B)) : BytesIn w v (marks n k) := bytesIn_of_owns h (marks_length n k).symm

set_option maxRecDepth 100000 in
set_option maxHeartbeats 6400000 in
theorem whole_true (b : Nat) (cs : Array Value) (kv fv : Value) (recs : List RecB) (frs : List FRec) (w : World) (h : BkS w b cs kv fv recs frs) (hn : recs.length ≤ 268435456) (hf : frs.length ≤ 268435456) :
    Calls Tryz.prog 9 #[.pointer (some ⟨b, 9, none⟩)] w fun e w' => e = .returned (.bool true) ∧ Below w.heap.size w w' := by
  have H := hide h
  obtain ⟨sk, ck, rfl⟩ := slice_len h.rowB
  obtain ⟨sf, cf, rfl⟩ := slice_len h.rowF
  have hblt := lt_of_block h.blk
  have g9 : w.cell? ⟨b, 9, none⟩ = some (.slice sk recs.length ck) := by rw [cell_of_row w b _ _ _ _ h.blk]; exact h.c9
  have g10 : w.cell? ⟨b, 10, none⟩ = some (.slice none 0 0) := by rw [cell_of_row w b _ _ _ _ h.blk]; exact h.c10
  have g11 : w.cell? ⟨b, 11, none⟩ = some (.slice none 0 0) := by rw [cell_of_row w b _ _ _ _ h.blk]; exact h.c11
  have g12 : w.cell? ⟨b, 12, none⟩ = some (.slice sf frs.length cf) := by rw [cell_of_row w b _ _ _ _ h.blk]; exact h.c12
  have g13 : w.cell? ⟨b, 13, none⟩ = some (.slice none 0 0) := by rw [cell_of_row w b _ _ _ _ h.blk]; exact h.c13
  clear h
  go_enter Tryz.func9, Tryz.ntmps9
  go_wp2
  go_loopw [3, 4] (fun ok i wr => ∃ k : Nat, k ≤ recs.length ∧ ok = .bool true ∧ i = .int .i64 k ∧ Below w.heap.size w wr) (fun _ i _ => recs.length - (intOf i).toNat)
  case atStart => exact ⟨0, Nat.zero_le _, rfl, rfl, Below.refl _ _⟩
  case round =>
    obtain ⟨k, hk, rfl, rfl, hbel⟩ := hrel
    have d9 := (hbel.cell (p := ⟨b, 9, none⟩) hblt).trans g9
    by_cases hlt : k < recs.length
    · obtain ⟨g, hg, hck⟩ := slice_some H.out.rowB (by omega)
      subst hg
      obtain ⟨r, hr⟩ : ∃ r, r = recs[k] := ⟨_, rfl⟩
      have hrm : r ∈ recs := by rw [hr]; exact List.getElem_mem _
      have hgl : g < w.heap.size := owns_lt H.out.rowB rfl
      obtain ⟨e0, e1, e2, e3, e4⟩ := recCells_get hlt
      rw [← hr] at e0 e1 e2 e3 e4
      have hrow := H.out.rowB
      have c0 : wr.cell? ⟨g, k * 5, none⟩ = some r.l := (hbel.cell (p := ⟨g, k * 5, none⟩) hgl).trans (by rw [hrow.cellAt _ (by omega)]; exact e0)
      have c1 : wr.cell? ⟨g, k * 5 + 1, none⟩ = some r.a := (hbel.cell (p := ⟨g, k * 5 + 1, none⟩) hgl).trans (by rw [hrow.cellAt _ (by omega)]; exact e1)
      have c2 : wr.cell? ⟨g, k * 5 + 2, none⟩ = some r.b := (hbel.cell (p := ⟨g, k * 5 + 2, none⟩) hgl).trans (by rw [hrow.cellAt _ (by omega)]; exact e2)
      have c3 : wr.cell? ⟨g, k * 5 + 3, none⟩ = some r.c := (hbel.cell (p := ⟨g, k * 5 + 3, none⟩) hgl).trans (by rw [hrow.cellAt _ (by omega)]; exact e3)
      have c4 : wr.cell? ⟨g, k * 5 + 4, none⟩ = some (.int .i64 r.n) := (hbel.cell (p := ⟨g, k * 5 + 4, none⟩) hgl).trans (by rw [hrow.cellAt _ (by omega)]; exact e4)
      have hfam := H.out.famB r hrm
      obtain ⟨hrn, hrl⟩ := H.out.okB r hrm
      obtain ⟨rl, ra, rb, rc, rn, rlen⟩ := r
      simp only at c0 c1 c2 c3 c4 hrn hrl
      have m1 : w.ownsRow 0 5 1 rl rlen ((marks rn rlen).map B) := hfam.l
      have m2 : w.ownsRow 0 5 1 ra (rlen + 1) ((marks rn (rlen + 1)).map B) := hfam.a
      have m3 : w.ownsRow 0 5 1 rb (rlen + 2) ((marks rn (rlen + 2)).map B) := hfam.b
      have m4 : w.ownsRow 0 5 1 rc (rlen + 3) ((marks rn (rlen + 3)).map B) := hfam.c
      clear hfam
      obtain ⟨s1, q1, rfl⟩ := slice_len m1
      obtain ⟨s2, q2, rfl⟩ := slice_len m2
      obtain ⟨s3, q3, rfl⟩ := slice_len m3
      obtain ⟨s4, q4, rfl⟩ := slice_len m4
      have K1 : Hid (∀ w', Below w.heap.size w w' → BytesIn w' (.slice s1 rlen q1) (marks rn rlen)) := fun w' hb' => bytes_of_marks (owns_chg m1 (Chg.of_below (S := fun _ => False) hb') (fun _ _ => id))
      have K2 : Hid (∀ w', Below w.heap.size w w' → BytesIn w' (.slice s2 (rlen + 1) q2) (marks rn (rlen + 1))) := fun w' hb' => bytes_of_marks (owns_chg m2 (Chg.of_below (S := fun _ => False) hb') (fun _ _ => id))
      have K3 : Hid (∀ w', Below w.heap.size w w' → BytesIn w' (.slice s3 (rlen + 2) q3) (marks rn (rlen + 2))) := fun w' hb' => bytes_of_marks (owns_chg m3 (Chg.of_below (S := fun _ => False) hb') (fun _ _ => id))
      have K4 : Hid (∀ w', Below w.heap.size w w' → BytesIn w' (.slice s4 (rlen + 3) q4) (marks rn (rlen + 3))) := fun w' hb' => bytes_of_marks (owns_chg m4 (Chg.of_below (S := fun _ => False) hb') (fun _ _ => id))
      have hbA : Below w.heap.size w (wr.alloc (.cells #[.slice s1 rlen q1, .slice s2 (rlen + 1) q2, .slice s3 (rlen + 2) q3, .slice s4 (rlen + 3) q4, .int .i64 rn] 65)) := hbel.alloc hbel.size _
      have HBA := hide hbA
      clear hbA m1 m2 m3 m4 e0 e1 e2 e3 e4 hr hrm hrow H g9 g10 g11 g12 g13
      have hx0 := heap_alloc_new wr (.cells #[.slice s1 rlen q1, .slice s2 (rlen + 1) q2, .slice s3 (rlen + 2) q3, .slice s4 (rlen + 3) q4, .int .i64 rn] 65)
      have HX0 := hide hx0
      clear hx0
      go_wp2_with fail
      refine (marked_true (.slice s1 rlen q1) rn rlen _ (K1.out _ HBA.out) (by omega) (by omega)).mono ?_
      rintro e w1 ⟨rfl, hb1⟩
      have hB1 := hide (HBA.out.trans (hb1.mono HBA.out.size))
      have HX1 := hide (told_kept HX0.out hb1)
      obtain ⟨a0, a1, a2, a3, a4, -⟩ := lists_block HX1.out
      clear hb1 c0 c1 c2 c3 c4 d9
      go_wp2_with fail
      refine (marked_true (.slice s2 (rlen + 1) q2) rn (rlen + 1) _ (K2.out _ hB1.out) (by omega) (by omega)).mono ?_
      rintro e w2 ⟨rfl, hb2⟩
      have hB2 := hide (hB1.out.trans (hb2.mono hB1.out.size))
      have HX2 := hide (told_kept HX1.out hb2)
      obtain ⟨b0, b1, b2, b3, b4, -⟩ := lists_block HX2.out
      clear hb2 a0 a1 a2 a3 a4
      go_wp2_with fail
      refine (marked_true (.slice s3 (rlen + 2) q3) rn (rlen + 2) _ (K3.out _ hB2.out) (by omega) (by omega)).mono ?_
      rintro e w3 ⟨rfl, hb3⟩
      have hB3 := hide (hB2.out.trans (hb3.mono hB2.out.size))
      have HX3 := hide (told_kept HX2.out hb3)
      obtain ⟨y0, y1, y2, y3, y4, -⟩ := lists_block HX3.out
      clear hb3 b0 b1 b2 b3 b4
      go_wp2_with fail
      refine (marked_true (.slice s4 (rlen + 3) q4) rn (rlen + 3) _ (K4.out _ hB3.out) (by omega) (by omega)).mono ?_
      rintro e w4 ⟨rfl, hb4⟩
      have hB4 := hide (hB3.out.trans (hb4.mono hB3.out.size))
      clear hb4 y0 y1 y2 y3 y4
      go_wp2
      go_roundw
      case rel => exact ⟨k + 1, by omega, rfl, by go_num, hB4.out⟩
      case measure => simp [intOf]; omega
    · have d10 := (hbel.cell (p := ⟨b, 10, none⟩) hblt).trans g10
      have d11 := (hbel.cell (p := ⟨b, 11, none⟩) hblt).trans g11
      have d12 := (hbel.cell (p := ⟨b, 12, none⟩) hblt).trans g12
      have d13 := (hbel.cell (p := ⟨b, 13, none⟩) hblt).trans g13
      clear g9 g10 g11 g12 g13
      go_wp2
      refine wp_loop_rounds 1 ?_
      rw [rounds_succ]
      go_wp2
      refine wp_loop_rounds 1 ?_
      rw [rounds_succ]
      go_wp2
      obtain ⟨w0, hw0⟩ : ∃ w0, w0 = wr := ⟨_, rfl⟩
      have hblt0 : b < w0.heap.size := by rw [hw0]; have := hbel.size; omega
      have hbel0 : Below w.heap.size w w0 := by rw [hw0]; exact hbel
      rw [← hw0] at d9 d10 d11 d12 d13 ⊢
      clear hbel hw0 d9 d10 d11
      go_loopw [3, 10] (fun ok i wr => ∃ k : Nat, k ≤ frs.length ∧ ok = .bool true ∧ i = .int .i64 k ∧ Below w0.heap.size w0 wr) (fun _ i _ => frs.length - (intOf i).toNat)
      case atStart => exact ⟨0, Nat.zero_le _, rfl, rfl, Below.refl _ _⟩
      case round =>
        obtain ⟨j, hj, rfl, rfl, hbj⟩ := hrel
        have d12' := (hbj.cell (p := ⟨b, 12, none⟩) hblt0).trans d12
        have d13' := (hbj.cell (p := ⟨b, 13, none⟩) hblt0).trans d13
        clear d12 d13
        have hbw := hbel0.trans (hbj.mono hbel0.size)
        by_cases hjl : j < frs.length
        · obtain ⟨g, hg, hck⟩ := slice_some H.out.rowF (by omega)
          subst hg
          obtain ⟨r, hr⟩ : ∃ r, r = frs[j] := ⟨_, rfl⟩
          have hrm : r ∈ frs := by rw [hr]; exact List.getElem_mem _
          have hgl : g < w.heap.size := owns_lt H.out.rowF rfl
          obtain ⟨e0, e1, e2, e3, e4⟩ := frCells_get hjl
          rw [← hr] at e0 e1 e2 e3 e4
          have hrow := H.out.rowF
          have c0 : wr.cell? ⟨g, j * 5, none⟩ = some r.l := (hbw.cell (p := ⟨g, j * 5, none⟩) hgl).trans (by rw [hrow.cellAt _ (by omega)]; exact e0)
          have c1 : wr.cell? ⟨g, j * 5 + 1, none⟩ = some r.a := (hbw.cell (p := ⟨g, j * 5 + 1, none⟩) hgl).trans (by rw [hrow.cellAt _ (by omega)]; exact e1)
          have c2 : wr.cell? ⟨g, j * 5 + 2, none⟩ = some r.b := (hbw.cell (p := ⟨g, j * 5 + 2, none⟩) hgl).trans (by rw [hrow.cellAt _ (by omega)]; exact e2)
          have c3 : wr.cell? ⟨g, j * 5 + 3, none⟩ = some r.c := (hbw.cell (p := ⟨g, j * 5 + 3, none⟩) hgl).trans (by rw [hrow.cellAt _ (by omega)]; exact e3)
          have c4 : wr.cell? ⟨g, j * 5 + 4, none⟩ = some (.int .i64 r.m) := (hbw.cell (p := ⟨g, j * 5 + 4, none⟩) hgl).trans (by rw [hrow.cellAt _ (by omega)]; exact e4)
          have hfam := H.out.famF r hrm
          have hrl := H.out.okF r hrm
          obtain ⟨rl, ra, rb, rc, rm, rlen⟩ := r
          simp only at c0 c1 c2 c3 c4 hrl
          have m1 : w.ownsRow 0 56 4 rl rlen (fillF rm rlen) := hfam.l
          have m2 : w.ownsRow 0 56 4 ra (rlen + 1) (fillF rm (rlen + 1)) := hfam.a
          have m3 : w.ownsRow 0 56 4 rb (rlen + 2) (fillF rm (rlen + 2)) := hfam.b
          have m4 : w.ownsRow 0 56 4 rc (rlen + 3) (fillF rm (rlen + 3)) := hfam.c
          clear hfam
          obtain ⟨s1, q1, rfl⟩ := slice_len m1
          obtain ⟨s2, q2, rfl⟩ := slice_len m2
          obtain ⟨s3, q3, rfl⟩ := slice_len m3
          obtain ⟨s4, q4, rfl⟩ := slice_len m4
          have hbA : Below w.heap.size w (wr.alloc (.cells #[.slice s1 rlen q1, .slice s2 (rlen + 1) q2, .slice s3 (rlen + 2) q3, .slice s4 (rlen + 3) q4, .int .i64 rm] 75)) := hbw.alloc hbw.size _
          have K1 := hide (owns_chg m1 (Chg.of_below (S := fun _ => False) hbA) (fun _ _ => id))
          have K2 := hide (owns_chg m2 (Chg.of_below (S := fun _ => False) hbA) (fun _ _ => id))
          have K3 := hide (owns_chg m3 (Chg.of_below (S := fun _ => False) hbA) (fun _ _ => id))
          have K4 := hide (owns_chg m4 (Chg.of_below (S := fun _ => False) hbA) (fun _ _ => id))
          have HBJ := hide (hbj.alloc hbj.size (.cells #[.slice s1 rlen q1, .slice s2 (rlen + 1) q2, .slice s3 (rlen + 2) q3, .slice s4 (rlen + 3) q4, .int .i64 rm] 75))
          clear hbA m1 m2 m3 m4 e0 e1 e2 e3 e4 hr hrm hrow H hbw hbj
          go_wp2_with fail
          refine (allFrames_true (.slice s1 rlen q1) rm rlen _ K1.out (by omega)).mono ?_
          rintro e w1 ⟨rfl, hw1⟩
          rw [hw1]
          clear hw1 w1
          go_wp2_with fail
          refine (allFrames_true (.slice s2 (rlen + 1) q2) rm (rlen + 1) _ K2.out (by omega)).mono ?_
          rintro e w2 ⟨rfl, hw1⟩
          rw [hw1]
          clear hw1 w2
          go_wp2_with fail
          refine (allFrames_true (.slice s3 (rlen + 2) q3) rm (rlen + 2) _ K3.out (by omega)).mono ?_
          rintro e w3 ⟨rfl, hw1⟩
          rw [hw1]
          clear hw1 w3
          go_wp2_with fail
          refine (allFrames_true (.slice s4 (rlen + 3) q4) rm (rlen + 3) _ K4.out (by omega)).mono ?_
          rintro e w4 ⟨rfl, hw1⟩
          rw [hw1]
          clear hw1 w4
          go_wp2
          go_roundw
          case rel => exact ⟨j + 1, by omega, rfl, by go_num, HBJ.out⟩
          case measure => simp [intOf]; omega
        · go_wp2
          refine wp_loop_rounds 1 ?_
          rw [rounds_succ]
          go_wp2
          go_ret
          exact ⟨rfl, hbw⟩
end Go.Proofs.YtdifgcppmnmagaaGreatDoor
/-
  What stands of a script's world between two steps of Writes.
-/
namespace Go.Proofs.YtdifgcppmnmagaaGreatDoor
open Go.RowKit

/-- A list of frames, as an argument. -/
structure FsIn (w : World) (sa : Option Addr) (qs : List (Fr × Value)) : Prop where
  cell : ∀ k (h : k < qs.length), ∃ fb off, sa = some ⟨fb, off, none⟩ ∧ fb < w.heap.size ∧ w.cell? ⟨fb, off + k * 4, none⟩ = some (.int .i64 qs[k].1.kind) ∧ w.cell? ⟨fb, off + k * 4 + 1, none⟩ = some (.int .i64 qs[k].1.flags) ∧
    w.cell? ⟨fb, off + k * 4 + 2, none⟩ = some (.int .i64 qs[k].1.stream) ∧ w.cell? ⟨fb, off + k * 4 + 3, none⟩ = some qs[k].2
  body : ∀ q ∈ qs, BytesA w q.2 q.1.body
  len : ∀ q ∈ qs, q.1.body.length ≤ 4194304

theorem FsIn.below {w w' : World} {sa : Option Addr} {qs : List (Fr × Value)} (h : FsIn w sa qs) (hb : Below w.heap.size w w') : FsIn w' sa qs := by
  refine ⟨fun k hk => ?_, fun q hq => (h.body q hq).chg (Chg.of_below hb), h.len⟩
  obtain ⟨fb, off, hs, hl, a, b, c, d⟩ := h.cell k hk
  exact ⟨fb, off, hs, Nat.lt_of_lt_of_le hl hb.size, (hb.cell (p := ⟨fb, off + k * 4, none⟩) hl).trans a, (hb.cell (p := ⟨fb, off + k * 4 + 1, none⟩) hl).trans b, (hb.cell (p := ⟨fb, off + k * 4 + 2, none⟩) hl).trans c, (hb.cell (p := ⟨fb, off + k * 4 + 3, none⟩) hl).trans d⟩

/-- The cells of a World of the law. -/
abbrev lw (gF gH gC gS rv kv fv : Value) : Array Value := #[gF, gH, gC, gS, rv, .slice none 0 0, .slice none 0 0, .slice none 0 0, .slice none 0 0, kv, .slice none 0 0, .slice none 0 0, fv, .slice none 0 0]

structure WInv (W0 V0 w : World) (b : Nat) (gF gH gC gS kv : Value) (recs : List RecB) : Prop where
  bk : BkS w b (lw gF gH gC gS (.slice none 0 0) kv (.slice none 0 0)) kv (.slice none 0 0) recs []
  kvV : ∀ j, kv.ownBlock = some j → V0.heap.size ≤ j
  b0 : W0.heap.size ≤ b
  belV : Below W0.heap.size W0 V0
  chV : Chg (fun j => j = b) V0 w

theorem WInv.below {W0 V0 w w' : World} {b : Nat} {gF gH gC gS kv : Value} {recs : List RecB} (h : WInv W0 V0 w b gF gH gC gS kv recs) (hb : Below w.heap.size w w') : WInv W0 V0 w' b gF gH gC gS kv recs :=
  ⟨h.bk.below hb, h.kvV, h.b0, h.belV, h.chV.then_below hb⟩

theorem below_of_chg {S : Nat → Prop} {W0 w w' : World} (h : Below W0.heap.size W0 w) (hc : Chg S w w') (hs : ∀ j, S j → W0.heap.size ≤ j) : Below W0.heap.size W0 w' :=
  ⟨hc.os.trans h.os, hc.tape.trans h.tape, hc.output.trans h.output, Nat.le_trans h.size hc.size, fun k hk => by
    rw [hc.block k (Nat.lt_of_lt_of_le hk h.size) (fun e => absurd (hs k e) (Nat.not_le.2 hk))]; exact h.block k hk⟩

theorem WInv.bel {W0 V0 w : World} {b : Nat} {gF gH gC gS kv : Value} {recs : List RecB} (h : WInv W0 V0 w b gF gH gC gS kv recs) : Below W0.heap.size W0 w :=
  below_of_chg h.belV h.chV fun j e => by rw [e]; exact h.b0
theorem WInv.kv0 {W0 V0 w : World} {b : Nat} {gF gH gC gS kv : Value} {recs : List RecB} (h : WInv W0 V0 w b gF gH gC gS kv recs) : ∀ j, kv.ownBlock = some j → W0.heap.size ≤ j :=
  fun j e => Nat.le_trans h.belV.size (h.kvV j e)

theorem winv_next {W0 V0 w w5 w6 w7 : World} {b g base len : Nat} {gF gH gC gS kv lv : Value} {recs : List RecB} {xs : List Value} (h : WInv W0 V0 w b gF gH gC gS kv recs) (hn : recs.length ≤ 1099511627776) (hlen : len ≤ 4294967296) (h5 : Below w.heap.size w w5)
    (hv : w5.ownsRow base 5 1 lv len xs) (hgw : w.heap.size ≤ g) (hgb : g < base) (hb5 : base ≤ w5.heap.size) (hk : KeptB w5 w6 b (lw gF gH gC gS (.slice none 0 0) kv (.slice none 0 0)) kv lv recs len) (h7 : Chg (fun k => k = g) w6 w7) :
    ∃ kv' r, WInv W0 V0 w7 b gF gH gC gS kv' (recs ++ [r]) := by
  obtain ⟨kv', r, hb6, hrow6, hrl, hrn, hrlen, hfam, hsep, hch, hkv'⟩ := hk
  have hblt : b < w.heap.size := lt_of_block h.bk.blk
  have hlvb : ∀ j, lv.ownBlock = some j → base ≤ j := fun j hj => (hv.lt j hj).1
  have h6 : Chg (fun j => j = b ∨ kv.ownBlock = some j) w w6 := (Chg.of_below h5).trans (hch.mono (fun j _ hj => by
    rcases hj with e | e | e
    · exact Or.inr (Or.inl e)
    · exact Or.inr (Or.inr e)
    · have := hlvb j e; left; omega))
  have hc : Chg (fun j => j = b ∨ kv.ownBlock = some j) w w7 := h6.trans (h7.mono (fun j _ e => by left; omega))
  have hkg : ∀ j, kv'.ownBlock = some j → ¬ j = g := by
    intro j hj e
    rcases hkv' j hj with a | a
    · have := owns_lt h.bk.rowB a; omega
    · omega
  have hrg : ∀ u ∈ [r.l, r.a, r.b, r.c], ∀ j, u.ownBlock = some j → ¬ j = g := by
    intro u hu j hj e
    rcases hsep u hu j hj with a | a
    · have := hlvb j a; omega
    · omega
  have sep : ∀ u k ys, w.ownsRow 0 5 1 u k ys → ∀ j, u.ownBlock = some j → ¬ (j = b ∨ kv.ownBlock = some j) := by
    rintro u k ys hu j hj (rfl | e)
    · exact owns_ne hu h.bk.blk (by decide) hj
    · exact rows_ne h.bk.rowB hu (by decide) e hj
  refine ⟨kv', r, ⟨⟨?_, rfl, rfl, rfl, rfl, rfl, owns_chg hrow6 h7 hkg, World.ownsRow_nil _ _ _ _, ?_, by simp, ?_, by simp⟩, ?_, h.b0, h.belV, ?_⟩⟩
  · rw [h7.block b (by have := h6.size; omega) (by omega), hb6]
    rfl
  · intro r' hr'
    rcases List.mem_append.1 hr' with hr' | hr'
    · have hf := h.bk.famB r' hr'
      refine hf.chg hc fun u hu => ?_
      simp only [List.mem_cons, List.not_mem_nil, or_false] at hu
      rcases hu with rfl | rfl | rfl | rfl
      · exact sep _ _ _ hf.l
      · exact sep _ _ _ hf.a
      · exact sep _ _ _ hf.b
      · exact sep _ _ _ hf.c
    · simp only [List.mem_cons, List.not_mem_nil, or_false] at hr'
      subst hr'
      exact hfam.chg h7 hrg
  · intro r' hr'
    rcases List.mem_append.1 hr' with hr' | hr'
    · exact h.bk.okB r' hr'
    · simp only [List.mem_cons, List.not_mem_nil, or_false] at hr'
      subst hr'
      rw [hrn, hrlen]
      exact ⟨hn, hlen⟩
  · intro j hj
    rcases hkv' j hj with a | a
    · exact h.kvV j a
    · have h1 := h.chV.size
      have h2 := h5.size
      omega
  · exact h.chV.trans (hc.mono fun j _ e => by
      rcases e with e | e
      · exact Or.inr e
      · exact Or.inl (h.kvV j e))
end Go.Proofs.YtdifgcppmnmagaaGreatDoor
/-
  sluicelaw: opening, known.
-/
namespace Go.Proofs.YtdifgcppmnmagaaGreatDoor
open Go.RowKit

theorem heap_at {w : World} {o : Obj} {k : Nat} (h : w.heap.size = k) : (w.alloc o).heap[k]? = some o := by
  subst h
  show (w.heap.push o)[w.heap.size]? = _
  simp
theorem heap_in {w : World} {o o2 : Obj} {k : Nat} (hk : k < w.heap.size) (h : w.heap[k]? = some o2) : (w.alloc o).heap[k]? = some o2 := by rw [Below.heap_alloc _ _ _ hk]; exact h

/-- A step of a script. -/
structure OpV where
  k : Int
  a : Int
  b : Int
  c : Int
  s : ByteArray

def opCells : List OpV → List Value
  | [] => []
  | o :: r => [.int .i64 o.k, .int .i64 o.a, .int .i64 o.b, .int .i64 o.c, .string o.s] ++ opCells r

/-- The document's examples, as a script. -/
def openOps : List OpV := [⟨1, 0, 0, 0, ⟨#[]⟩⟩, ⟨2, 0, 0, 0, ⟨#[]⟩⟩, ⟨3, 0, 0, 0, ⟨#[0, 2, 0, 1, 0, 1, 104, 105]⟩⟩, ⟨4, 128, 0, 0, ⟨#[]⟩⟩, ⟨6, 0, 0, 0, ⟨#[]⟩⟩, ⟨7, 0, 0, 0, ⟨#[]⟩⟩, ⟨8, 128, 0, 0, ⟨#[]⟩⟩,
  ⟨9, 0, 0, 0, ⟨#[129, 71, 130, 2, 31]⟩⟩, ⟨11, 0, 0, 0, ⟨#[]⟩⟩, ⟨12, 0, 0, 0, ⟨#[]⟩⟩, ⟨13, 0, 0, 0, ⟨#[]⟩⟩, ⟨14, 0, 1, 0, ⟨#[104, 105]⟩⟩, ⟨20, 0, 1000, 0, ⟨#[]⟩⟩, ⟨27, 0, 0, 0, ⟨#[]⟩⟩]

set_option maxRecDepth 100000 in
set_option maxHeartbeats 6400000 in
theorem opening_any (w : World) :
    Calls Tryz.prog 7 #[] w fun e w' => e = .returned (.slice (some ⟨w.heap.size, 0, none⟩) 14 14) ∧ w' = w.alloc (.cells (opCells openOps).toArray 49) := by
  go_enter Tryz.func7, Tryz.ntmps7
  go_wp2
  go_ret
  exact ⟨rfl, rfl⟩

set_option maxRecDepth 100000 in
set_option maxHeartbeats 6400000 in
theorem known_any (w : World) :
    Calls Tryz.prog 6 #[] w fun e w' => e = .returned (.agg #[.slice (some ⟨w.heap.size + 6, 0, none⟩) 1 1, .slice (some ⟨w.heap.size + 8, 0, none⟩) 1 1, .slice (some ⟨w.heap.size + 9, 0, none⟩) 1 1, .slice (some ⟨w.heap.size + 10, 0, none⟩) 1 1]) ∧ Below w.heap.size w w' ∧
      w'.heap[w.heap.size + 6]? = some (.cells #[.int .i64 0, .int .i64 1, .int .i64 1, .slice (some ⟨w.heap.size + 2, 0, none⟩) 2 2] 56 (0, 0)) ∧ w'.heap[w.heap.size + 2]? = some (.cells #[.int .u8 104, .int .u8 105] 5 (2, 3)) ∧
      w'.heap[w.heap.size + 8]? = some (.cells #[.slice (some ⟨w.heap.size + 7, 0, none⟩) 2 2] 57 (0, 0)) ∧ w'.heap[w.heap.size + 7]? = some (.cells #[.string ⟨#[112, 97, 116, 104]⟩, .string ⟨#[47]⟩, .string ⟨#[104, 111, 115, 116]⟩, .string ⟨#[101, 97, 116]⟩] 62 (0, 0)) := by
  have kc : ∀ (w : World) (C : Array Value) (n c k : Nat), w.heap.size = k → (convert 54 54 (.slice (some ⟨k, 0, none⟩) n c)).run Tryz.prog (w.alloc (.cells C 5)) = .ok (.slice (some ⟨k, 0, none⟩) n c) (w.alloc (.cells C 5 (C.size, C.size + 1))) := by
    intro w C n c k hk
    subst hk
    exact Lib.run_convert_bytes_const (P := Tryz.prog) w 54 5 C n c Tryz.underlying54 Tryz.underlying5
  go_enter Tryz.func6, Tryz.ntmps6
  go_wp2
  refine bodyPost_ret (v := .agg #[.slice (some ⟨w.heap.size + 6, 0, none⟩) 1 1, .slice (some ⟨w.heap.size + 8, 0, none⟩) 1 1, .slice (some ⟨w.heap.size + 9, 0, none⟩) 1 1, .slice (some ⟨w.heap.size + 10, 0, none⟩) 1 1]) ?_ rfl ⟨rfl, ?_, ?_, ?_, ?_, ?_⟩
  · simp [results, Tryz.results6, go_sem]
  · repeat (first | exact Below.refl _ _ | refine Below.alloc ?_ (by simp; try omega) _)
  · refine heap_in (by simp) (heap_in (by simp) (heap_in (by simp) (heap_in (by simp) (heap_at (by simp)))))
  · refine heap_in (by simp) (heap_in (by simp) (heap_in (by simp) (heap_in (by simp) (heap_in (by simp) (heap_in (by simp) (heap_in (by simp) (heap_in (by simp) (heap_at (by simp)))))))))
  · refine heap_in (by simp) (heap_in (by simp) (heap_at (by simp)))
  · refine heap_in (by simp) (heap_in (by simp) (heap_in (by simp) (heap_at (by simp))))
end Go.Proofs.YtdifgcppmnmagaaGreatDoor
/-
  Scripts, as arguments; what a law asks of its steps.
-/
namespace Go.Proofs.YtdifgcppmnmagaaGreatDoor
open Go.RowKit

theorem frame_blockT {w : World} {b : Nat} {v0 v1 v2 v3 : Value} {t : TypeId} (h : w.heap[b]? = some (.cells #[v0, v1, v2, v3] t (0, 0))) :
    w.cell? ⟨b, 0, none⟩ = some v0 ∧ w.cell? ⟨b, 1, none⟩ = some v1 ∧ w.cell? ⟨b, 2, none⟩ = some v2 ∧ w.cell? ⟨b, 3, none⟩ = some v3 ∧ ∀ o, w.frozen? ⟨b, o, none⟩ = false := by
  refine ⟨?_, ?_, ?_, ?_, fun o => by simp [World.frozen?, h]⟩ <;> rw [cell_of_row w b _ _ _ _ h] <;> rfl

def OpV.ok (o : OpV) : Prop := I64 o.k ∧ I64 o.a ∧ I64 o.b ∧ I64 o.c ∧ o.s.size ≤ 1048576

/-- A script, as it lies. -/
structure OpsIn (w : World) (sa : Option Addr) (ops : List OpV) : Prop where
  cell : ∀ k (h : k < ops.length), ∃ ob off, sa = some ⟨ob, off, none⟩ ∧ ob < w.heap.size ∧ w.cell? ⟨ob, off + k * 5, none⟩ = some (.int .i64 ops[k].k) ∧ w.cell? ⟨ob, off + k * 5 + 1, none⟩ = some (.int .i64 ops[k].a) ∧
    w.cell? ⟨ob, off + k * 5 + 2, none⟩ = some (.int .i64 ops[k].b) ∧ w.cell? ⟨ob, off + k * 5 + 3, none⟩ = some (.int .i64 ops[k].c) ∧ w.cell? ⟨ob, off + k * 5 + 4, none⟩ = some (.string ops[k].s)
  ok : ∀ o ∈ ops, o.ok

theorem OpsIn.chg {S : Nat → Prop} {w w' : World} {sa : Option Addr} {ops : List OpV} (h : OpsIn w sa ops) (hc : Chg S w w') (hs : ∀ ob off, sa = some ⟨ob, off, none⟩ → ¬ S ob) : OpsIn w' sa ops := by
  refine ⟨fun k hk => ?_, h.ok⟩
  obtain ⟨ob, off, he, hl, a, b, c, d, e⟩ := h.cell k hk
  have hn := hs ob off he
  exact ⟨ob, off, he, Nat.lt_of_lt_of_le hl hc.size, (hc.cell (p := ⟨ob, off + k * 5, none⟩) hl hn).trans a, (hc.cell (p := ⟨ob, off + k * 5 + 1, none⟩) hl hn).trans b, (hc.cell (p := ⟨ob, off + k * 5 + 2, none⟩) hl hn).trans c, (hc.cell (p := ⟨ob, off + k * 5 + 3, none⟩) hl hn).trans d, (hc.cell (p := ⟨ob, off + k * 5 + 4, none⟩) hl hn).trans e⟩
theorem OpsIn.below {w w' : World} {sa : Option Addr} {ops : List OpV} (h : OpsIn w sa ops) (hb : Below w.heap.size w w') : OpsIn w' sa ops := h.chg (Chg.of_below (S := fun _ => False) hb) (fun _ _ _ => id)

theorem opCells_get {rs : List OpV} {k : Nat} (h : k < rs.length) : (opCells rs)[k * 5]? = some (.int .i64 rs[k].k) ∧ (opCells rs)[k * 5 + 1]? = some (.int .i64 rs[k].a) ∧ (opCells rs)[k * 5 + 2]? = some (.int .i64 rs[k].b) ∧ (opCells rs)[k * 5 + 3]? = some (.int .i64 rs[k].c) ∧ (opCells rs)[k * 5 + 4]? = some (.string rs[k].s) := by
  induction rs generalizing k with
  | nil => simp at h
  | cons p r ih =>
    cases k with
    | zero => simp [opCells]
    | succ k =>
      simp only [List.length_cons] at h
      have := ih (k := k) (by omega)
      rw [Nat.succ_mul]
      simpa [opCells, Nat.add_assoc] using this

theorem opsIn_of_block {w : World} {b : Nat} {ops : List OpV} {t : TypeId} {fr : Nat × Nat} (h : w.heap[b]? = some (.cells (opCells ops).toArray t fr)) (hok : ∀ o ∈ ops, o.ok) : OpsIn w (some ⟨b, 0, none⟩) ops := by
  refine ⟨fun k hk => ⟨b, 0, rfl, lt_of_block h, ?_⟩, hok⟩
  obtain ⟨a0, a1, a2, a3, a4⟩ := opCells_get hk
  simp only [Nat.zero_add]
  exact ⟨(row_cell h).trans a0, (row_cell h).trans a1, (row_cell h).trans a2, (row_cell h).trans a3, (row_cell h).trans a4⟩

/-- What a script weighs: its steps and the bytes that they bring. -/
def wt : List OpV → Nat
  | [] => 0
  | o :: r => 1 + o.s.size + wt r
theorem wt_append (a b : List OpV) : wt (a ++ b) = wt a + wt b := by
  induction a with
  | nil => simp [wt]
  | cons o r ih => simp only [List.cons_append, wt, ih]; omega
theorem wt_next {ops : List OpV} {k : Nat} (h : k < ops.length) : wt (ops.take (k + 1)) = wt (ops.take k) + 1 + ops[k].s.size := by
  rw [List.take_succ_eq_append_getElem h, wt_append]
  simp only [wt]; omega
theorem wt_take (ops : List OpV) (k : Nat) : wt (ops.take k) ≤ wt ops := by
  have h := wt_append (ops.take k) (ops.drop k)
  rw [List.take_append_drop] at h
  omega
theorem wt_open : wt openOps ≤ 1048576 := by decide

theorem openOps_ok : ∀ o ∈ openOps, o.ok := by
  intro o ho
  simp only [openOps, List.mem_cons, List.not_mem_nil, or_false] at ho
  rcases ho with rfl | rfl | rfl | rfl | rfl | rfl | rfl | rfl | rfl | rfl | rfl | rfl | rfl | rfl <;> exact ⟨⟨by decide, by decide⟩, ⟨by decide, by decide⟩, ⟨by decide, by decide⟩, ⟨by decide, by decide⟩, by decide⟩

/-- What a law asks of its steps. -/
structure Played (lo hi : Int) (K : World → Prop) (G : World → Value → Value → Prop) (I : World → World → World → Nat → Value → Value → Value → Value → Nat → Prop) : Prop where
  kb : ∀ w w', K w → Below w.heap.size w w' → K w'
  new : ∀ W0 V0 b gF gH gC gS, V0.heap[b]? = some (.cells (lw gF gH gC gS (.slice none 0 0) (.slice none 0 0) (.slice none 0 0)) 46 (0, 0)) → W0.heap.size ≤ b → Below W0.heap.size W0 V0 → I W0 V0 V0 b gF gH gC gS 0
  below : ∀ W0 V0 w w' b gF gH gC gS m, I W0 V0 w b gF gH gC gS m → Below w.heap.size w w' → I W0 V0 w' b gF gH gC gS m
  bel : ∀ W0 V0 w b gF gH gC gS m, I W0 V0 w b gF gH gC gS m → Below W0.heap.size W0 w ∧ Chg (fun j => j = b) V0 w
  mono : ∀ W0 V0 w b gF gH gC gS m n, m ≤ n → I W0 V0 w b gF gH gC gS m → I W0 V0 w b gF gH gC gS n
  bks : ∀ W0 V0 w b gF gH gC gS m, I W0 V0 w b gF gH gC gS m → m ≤ 1048576 → Calls Tryz.prog 9 #[.pointer (some ⟨b, 9, none⟩)] w fun e w' => e = .returned (.bool true) ∧ Below w.heap.size w w'
  step : ∀ W0 V0 w b gF gH gC gS m (o : OpV), lo ≤ o.k → o.k ≤ hi → o.ok → K W0 → G W0 gF gH → m + 1 + o.s.size ≤ 1048576 → I W0 V0 w b gF gH gC gS m →
    Calls Tryz.prog 8 #[.pointer (some ⟨b, 0, none⟩), .agg #[.int .i64 o.k, .int .i64 o.a, .int .i64 o.b, .int .i64 o.c, .string o.s]] w fun e w' => e = .returned (.bool true) ∧ I W0 V0 w' b gF gH gC gS (m + 1 + o.s.size)
  known : ∀ w' n, w'.heap[n + 6]? = some (.cells #[.int .i64 0, .int .i64 1, .int .i64 1, .slice (some ⟨n + 2, 0, none⟩) 2 2] 56 (0, 0)) → w'.heap[n + 2]? = some (.cells #[.int .u8 104, .int .u8 105] 5 (2, 3)) →
    w'.heap[n + 8]? = some (.cells #[.slice (some ⟨n + 7, 0, none⟩) 2 2] 57 (0, 0)) → w'.heap[n + 7]? = some (.cells #[.string ⟨#[112, 97, 116, 104]⟩, .string ⟨#[47]⟩, .string ⟨#[104, 111, 115, 116]⟩, .string ⟨#[101, 97, 116]⟩] 62 (0, 0)) →
    G w' (.slice (some ⟨n + 6, 0, none⟩) 1 1) (.slice (some ⟨n + 8, 0, none⟩) 1 1)
end Go.Proofs.YtdifgcppmnmagaaGreatDoor
/-
  Goods and scripts, as they are read from a caller's memory.
-/
namespace Go.Proofs.YtdifgcppmnmagaaGreatDoor
open Go.ChangeShapes Go.WideShapes Go.ChangeAt Go.RowKit
open Go.ChangeMaps (open_string shut_string)

theorem own : ownKnob Tryz.prog.godebug = none := by kernel_rfl
theorem laidOut : laidOutB Tryz.prog = true := by kernel_rfl
theorem cellsU8 : Tryz.prog.cellsOf 5 = 1 := by kernel_rfl
theorem cellsInt : Tryz.prog.cellsOf 3 = 1 := by kernel_rfl
theorem cellsBytes : Tryz.prog.cellsOf 54 = 1 := by kernel_rfl
theorem cellsString : Tryz.prog.cellsOf 9 = 1 := by kernel_rfl
theorem cellsFrame : Tryz.prog.cellsOf 56 = 4 := by kernel_rfl
theorem cellsOp : Tryz.prog.cellsOf 49 = 5 := by kernel_rfl
theorem cellsGoods : Tryz.prog.cellsOf 27 = 4 := by kernel_rfl
theorem undFrame : ∃ n0 n1 n2 n3 : Field, Tryz.prog.underlying 56 = some (.struct #[n0, n1, n2, n3]) ∧ n0.type = 3 ∧ n1.type = 3 ∧ n2.type = 3 ∧ n3.type = 54 ∧ n0.offset = 0 ∧ n1.offset = 1 ∧ n2.offset = 2 ∧ n3.offset = 3 :=
  ⟨_, _, _, _, Tryz.underlying56, rfl, rfl, rfl, rfl, rfl, rfl, rfl, rfl⟩
theorem undOp : ∃ n0 n1 n2 n3 n4 : Field, Tryz.prog.underlying 49 = some (.struct #[n0, n1, n2, n3, n4]) ∧ n0.type = 3 ∧ n1.type = 3 ∧ n2.type = 3 ∧ n3.type = 3 ∧ n4.type = 9 ∧ n0.offset = 0 ∧ n1.offset = 1 ∧ n2.offset = 2 ∧ n3.offset = 3 ∧ n4.offset = 4 :=
  ⟨_, _, _, _, _, Tryz.underlying49, rfl, rfl, rfl, rfl, rfl, rfl, rfl, rfl, rfl, rfl⟩
theorem undGoods : ∃ n0 n1 n2 n3 : Field, Tryz.prog.underlying 27 = some (.struct #[n0, n1, n2, n3]) ∧ n0.type = 22 ∧ n1.type = 23 ∧ n2.type = 24 ∧ n3.type = 25 ∧ Deep.oneCellFields Tryz.prog #[n0, n1, n2, n3] = true :=
  ⟨_, _, _, _, Tryz.underlying27, rfl, rfl, rfl, rfl, by kernel_rfl⟩

theorem wf_i64 {n : Int} (h : (Lit.int .i64 n).wf = true) : I64 n := bounds_i64 h
theorem wf_u8 {n : Int} (h : (Lit.int .u8 n).wf = true) : 0 ≤ n ∧ n ≤ 255 := bounds_u8 h

section
variable {H : Type}
theorem bulk_one (d : DataW H) : 1 ≤ Rows.uptoBulk d := by
  cases d with
  | lit l => cases l <;> simp [Rows.uptoBulk]
  | nil => simp [Rows.uptoBulk]
  | ptr d => simp [Rows.uptoBulk]
  | slice elems spare => simp [Rows.uptoBulk]
  | agg parts => simp [Rows.uptoBulk]
  | iface t d => simp [Rows.uptoBulk]
  | map entries => simp [Rows.uptoBulk]
  | held h => simp [Rows.uptoBulk]
theorem bulk_length (l : List (DataW H)) : l.length ≤ Rows.uptoBulkAll l := by
  induction l with
  | nil => simp [Rows.uptoBulkAll]
  | cons x r ih => have := bulk_one x; simp only [Rows.uptoBulkAll, List.length_cons]; omega
theorem bulk_mem {l : List (DataW H)} {d : DataW H} (h : d ∈ l) : Rows.uptoBulk d ≤ Rows.uptoBulkAll l := by
  induction l with
  | nil => simp at h
  | cons x r ih =>
    simp only [Rows.uptoBulkAll]
    rcases List.mem_cons.1 h with rfl | h
    · omega
    · have := ih h; omega
theorem slice_bulk (elems spare : List (DataW H)) : elems.length + spare.length + 1 ≤ Rows.uptoBulk (.slice elems spare) := by
  have h1 := bulk_length elems
  have h2 := bulk_length spare
  simp only [Rows.uptoBulk]
  omega
end

section
variable {H : Type} {enc : TypeId × Value → H} {W : World}

/-- A slice of bytes, as it reads. -/
theorem open_bytes {fuel : Nat} {v : Value} {x : DataW H × List MemPlace} (h : DataW.trod enc Tryz.prog W 0 (fun _ => true) true fuel 54 [v] = some x) : ∃ body, BytesA W v body ∧ body.length ≤ Rows.uptoBulk x.1 := by
  rcases open_ints Tryz.underlying54 Tryz.underlying5 cellsU8 h with ⟨hcs, _⟩ | ⟨a, len, cap, zs, hcs, _, hl, hm, hz, hx, hcell, hwz⟩
  · simp at hcs
    exact ⟨[], Or.inl (Or.inl ⟨hcs, rfl⟩), by simp⟩
  · simp at hcs
    subst hcs
    simp only [if_true] at hz
    by_cases h0 : cap = 0
    · have hl0 : len = 0 := by omega
      subst hl0
      subst h0
      exact ⟨[], Or.inr ⟨a, rfl, rfl⟩, by simp⟩
    · have hc0 := hcell 0 (by omega)
      obtain ⟨b, off, spot⟩ := a
      have hspot : spot = none := by simpa [Addr.add] using World.cell?_spot hc0
      subst hspot
      have hb : b < W.heap.size := by
        have := World.block_lt_of_cell? W _ hc0
        simpa [Addr.add] using this
      refine ⟨(zs.take len).map ofI, Or.inl (Or.inr ⟨b, off, cap, by simp; omega, hb, by simp; omega, fun i hi => ?_⟩), ?_⟩
      · simp at hi
        have hc := hcell i (by omega)
        have e : (⟨b, off, none⟩ : Addr).add i = ⟨b, off + i, none⟩ := by unfold Addr.add; split <;> simp_all
        rw [e] at hc
        rw [hc]
        have hi2 : i < zs.length := by omega
        have hi1 : i < len := by omega
        obtain ⟨h1, h2⟩ := wf_u8 (hwz (zs.getD i 0) (by rw [getD_lt _ _ _ hi2]; exact List.getElem_mem _))
        have e2 : ((zs.take len).map ofI).getD i 0 = ofI (zs.getD i 0) := by simp [List.getD, hi1, hi2]
        rw [e2, ofI_toNat h1 h2]
      · rw [hx]
        have hsb := slice_bulk (H := H) (lits .u8 (zs.take len)) (lits .u8 (zs.drop len))
        have hl1 : (lits (H := H) .u8 (zs.take len)).length = (zs.take len).length := by simp [lits]
        rw [hl1] at hsb
        simp only [List.length_map]
        omega

set_option maxRecDepth 100000 in
/-- A list of frames, as it reads. -/
theorem open_frames {fuel : Nat} {sa : Option Addr} {len cap : Nat} {x : DataW H × List MemPlace} (h : DataW.trod enc Tryz.prog W 0 (fun _ => true) true fuel 22 [.slice sa len cap] = some x) (hb : Rows.uptoBulk x.1 ≤ 1048576) :
    ∃ qs : List (Fr × Value), qs.length = len ∧ len ≤ 1048576 ∧ FsIn W sa qs := by
  rcases Deep.open_slice Tryz.underlying22 h with ⟨hcs, _⟩ | ⟨a, len', cap', m, n, D, Pl, hcs, _, hl, hmx, hm, hx, hel⟩
  · simp at hcs
    obtain ⟨rfl, rfl, rfl⟩ := hcs
    exact ⟨[], rfl, by omega, ⟨fun k hk => by simp at hk, by simp, by simp⟩⟩
  · simp at hcs
    obtain ⟨rfl, rfl, rfl⟩ := hcs
    simp only [if_true] at hm
    rw [cellsFrame] at hel
    obtain ⟨n0, n1, n2, n3, hu, t0, t1, t2, t3, o0, o1, o2, o3⟩ := undFrame
    rw [hx] at hb
    have hone : ∀ i, i < len → ∃ q : Fr × Value, (W.cell? (a.add (i * 4)) = some (.int .i64 q.1.kind) ∧ W.cell? ((a.add (i * 4)).add 1) = some (.int .i64 q.1.flags) ∧ W.cell? ((a.add (i * 4)).add 2) = some (.int .i64 q.1.stream) ∧ W.cell? ((a.add (i * 4)).add 3) = some q.2) ∧
        BytesA W q.2 q.1.body ∧ q.1.body.length ≤ 4194304 := by
      intro i hi
      obtain ⟨cs, hc1, hc2⟩ := hel i (by omega)
      obtain ⟨_, hlen, hcell⟩ := World.cells?_some hc1
      obtain ⟨y0, y1, y2, y3, n', hD, _, h0, h1, h2, h3⟩ := Joins.trod_struct4 hu hc2
      have hDb : Rows.uptoBulk (D i) ≤ 1048576 := by
        have hm1 : D i ∈ (List.range len).map D := List.mem_map.2 ⟨i, by simpa using hi, rfl⟩
        have := bulk_mem hm1
        simp only [Rows.uptoBulk] at hb
        omega
      have hD1 : D i = .agg [y0.1, y1.1, y2.1, y3.1] := congrArg Prod.fst hD
      rw [hD1] at hDb
      simp only [Rows.uptoBulk, Rows.uptoBulkAll] at hDb
      match cs, hlen with
      | [c0, c1, c2, c3], _ =>
        rw [t0, o0, cellsInt] at h0
        rw [t1, o1, cellsInt] at h1
        rw [t2, o2, cellsInt] at h2
        rw [t3, o3, cellsBytes] at h3
        obtain ⟨k0, e0, _, w0⟩ := DataW.trod_int Tryz.underlying3 h0
        obtain ⟨k1, e1, _, w1⟩ := DataW.trod_int Tryz.underlying3 h1
        obtain ⟨k2, e2, _, w2⟩ := DataW.trod_int Tryz.underlying3 h2
        simp at e0 e1 e2 h3
        subst e0 e1 e2
        obtain ⟨body, hbody, hbl⟩ := open_bytes h3
        have d0 := hcell 0 (by omega)
        have d1 := hcell 1 (by omega)
        have d2 := hcell 2 (by omega)
        have d3 := hcell 3 (by omega)
        refine ⟨(⟨k0, k1, k2, body⟩, c3), ⟨?_, d1, d2, d3⟩, hbody, ?_⟩
        · simpa [Addr.add] using d0
        · show body.length ≤ _
          omega
    obtain ⟨f, hf⟩ := @Deep.choose_lt (Fr × Value) ⟨(⟨0, 0, 0, []⟩, .bool false)⟩ _ _ hone
    have hlenb : len ≤ 1048576 := by
      have := slice_bulk ((List.range len).map D) ((List.range (m - len)).map fun j => D (len + j))
      simp only [List.length_map, List.length_range] at this
      simp only at hb
      omega
    refine ⟨(List.range len).map f, by simp, hlenb, ⟨fun k hk => ?_, fun q hq => ?_, fun q hq => ?_⟩⟩
    · simp at hk
      obtain ⟨⟨e0, e1, e2, e3⟩, _⟩ := hf k hk
      obtain ⟨b, off, spot⟩ := a
      have hspot : spot = none := by
        obtain ⟨⟨g0, _⟩, _⟩ := hf 0 (by omega)
        simpa [Addr.add] using World.cell?_spot g0
      subst hspot
      have ad : ∀ j, (⟨b, off, none⟩ : Addr).add j = ⟨b, off + j, none⟩ := fun j => by unfold Addr.add; split <;> simp_all
      have ad2 : ∀ i j, ((⟨b, i, none⟩ : Addr)).add j = ⟨b, i + j, none⟩ := fun i j => by unfold Addr.add; split <;> simp_all
      rw [ad] at e0 e1 e2 e3
      rw [ad2] at e1 e2 e3
      refine ⟨b, off, rfl, World.block_lt_of_cell? W _ e0, ?_, ?_, ?_, ?_⟩
      · simpa using e0
      · simpa using e1
      · simpa using e2
      · simpa using e3
    · obtain ⟨i, hi, rfl⟩ := List.mem_map.1 hq
      exact (hf i (by simpa using hi)).2.1
    · obtain ⟨i, hi, rfl⟩ := List.mem_map.1 hq
      exact (hf i (by simpa using hi)).2.2

theorem trod_struct5 {P : Program} {base : Nat} {spare : Nat → Bool} {held : Bool} {t : TypeId} {f0 f1 f2 f3 f4 : Field} {fuel : Nat} {cs : List Value} {x : DataW H × List MemPlace} (ht : P.underlying t = some (.struct #[f0, f1, f2, f3, f4])) (h : DataW.trod enc P W base spare held fuel t cs = some x) :
    ∃ y0 y1 y2 y3 y4 n, x.1 = .agg [y0.1, y1.1, y2.1, y3.1, y4.1] ∧ DataW.trod enc P W base spare held n f0.type ((cs.drop f0.offset).take (P.cellsOf f0.type)) = some y0 ∧
      DataW.trod enc P W base spare held n f1.type ((cs.drop f1.offset).take (P.cellsOf f1.type)) = some y1 ∧ DataW.trod enc P W base spare held n f2.type ((cs.drop f2.offset).take (P.cellsOf f2.type)) = some y2 ∧
      DataW.trod enc P W base spare held n f3.type ((cs.drop f3.offset).take (P.cellsOf f3.type)) = some y3 ∧ DataW.trod enc P W base spare held n f4.type ((cs.drop f4.offset).take (P.cellsOf f4.type)) = some y4 := by
  obtain ⟨xs, n, _, rfl, hl, hlen, hf⟩ := DataW.trod_struct ht h
  match xs, hlen with
  | [y0, y1, y2, y3, y4], _ => exact ⟨y0, y1, y2, y3, y4, n, by simp, by simpa using hf 0 f0 rfl, by simpa using hf 1 f1 rfl, by simpa using hf 2 f2 rfl, by simpa using hf 3 f3 rfl, by simpa using hf 4 f4 rfl⟩

theorem wt_bulk {f : Nat → OpV} {D : Nat → DataW H} {L : List Nat} (h : ∀ i ∈ L, 1 + (f i).s.size ≤ Rows.uptoBulk (D i)) : wt (L.map f) ≤ Rows.uptoBulkAll (L.map D) := by
  induction L with
  | nil => simp [wt, Rows.uptoBulkAll]
  | cons i r ih =>
    have h1 := h i (by simp)
    have h2 := ih (fun j hj => h j (by simp [hj]))
    simp only [List.map_cons, wt, Rows.uptoBulkAll]
    omega

set_option maxRecDepth 100000 in
/-- A script, as it reads. -/
theorem open_ops {fuel : Nat} {sa : Option Addr} {len cap : Nat} {x : DataW H × List MemPlace} (h : DataW.trod enc Tryz.prog W 0 (fun _ => true) true fuel 28 [.slice sa len cap] = some x) (hb : Rows.uptoBulk x.1 ≤ 1048576) :
    ∃ ops : List OpV, ops.length = len ∧ len ≤ 1048576 ∧ wt ops ≤ 1048576 ∧ OpsIn W sa ops := by
  rcases Deep.open_slice Tryz.underlying28 h with ⟨hcs, _⟩ | ⟨a, len', cap', m, n, D, Pl, hcs, _, hl, hmx, hm, hx, hel⟩
  · simp at hcs
    obtain ⟨rfl, rfl, rfl⟩ := hcs
    exact ⟨[], rfl, by omega, by simp [wt], ⟨fun k hk => by simp at hk, by simp⟩⟩
  · simp at hcs
    obtain ⟨rfl, rfl, rfl⟩ := hcs
    simp only [if_true] at hm
    rw [cellsOp] at hel
    obtain ⟨n0, n1, n2, n3, n4, hu, t0, t1, t2, t3, t4, o0, o1, o2, o3, o4⟩ := undOp
    rw [hx] at hb
    have hone : ∀ i, i < len → ∃ o : OpV, (W.cell? (a.add (i * 5)) = some (.int .i64 o.k) ∧ W.cell? ((a.add (i * 5)).add 1) = some (.int .i64 o.a) ∧ W.cell? ((a.add (i * 5)).add 2) = some (.int .i64 o.b) ∧ W.cell? ((a.add (i * 5)).add 3) = some (.int .i64 o.c) ∧ W.cell? ((a.add (i * 5)).add 4) = some (.string o.s)) ∧ o.ok ∧ 1 + o.s.size ≤ Rows.uptoBulk (D i) := by
      intro i hi
      obtain ⟨cs, hc1, hc2⟩ := hel i (by omega)
      obtain ⟨_, hlen, hcell⟩ := World.cells?_some hc1
      obtain ⟨y0, y1, y2, y3, y4, n', hD1, h0, h1, h2, h3, h4⟩ := trod_struct5 hu hc2
      have hDb : Rows.uptoBulk (D i) ≤ 1048576 := by
        have hm1 : D i ∈ (List.range len).map D := List.mem_map.2 ⟨i, by simpa using hi, rfl⟩
        have := bulk_mem hm1
        simp only [Rows.uptoBulk] at hb
        omega
      simp only at hD1
      rw [hD1] at hDb
      simp only [Rows.uptoBulk, Rows.uptoBulkAll] at hDb
      match cs, hlen with
      | [c0, c1, c2, c3, c4], _ =>
        rw [t0, o0, cellsInt] at h0
        rw [t1, o1, cellsInt] at h1
        rw [t2, o2, cellsInt] at h2
        rw [t3, o3, cellsInt] at h3
        rw [t4, o4, cellsString] at h4
        obtain ⟨k0, e0, _, w0⟩ := DataW.trod_int Tryz.underlying3 h0
        obtain ⟨k1, e1, _, w1⟩ := DataW.trod_int Tryz.underlying3 h1
        obtain ⟨k2, e2, _, w2⟩ := DataW.trod_int Tryz.underlying3 h2
        obtain ⟨k3, e3, _, w3⟩ := DataW.trod_int Tryz.underlying3 h3
        obtain ⟨s, e4, hx4, _⟩ := DataW.trod_string Tryz.underlying9 h4
        simp at e0 e1 e2 e3 e4
        subst e0 e1 e2 e3 e4
        have d0 := hcell 0 (by omega)
        have d1 := hcell 1 (by omega)
        have d2 := hcell 2 (by omega)
        have d3 := hcell 3 (by omega)
        have d4 := hcell 4 (by omega)
        have e : s.data.toList.length = s.size := by rw [Array.length_toList]; rfl
        rw [hx4] at hDb hD1
        refine ⟨⟨k0, k1, k2, k3, s⟩, ⟨?_, d1, d2, d3, d4⟩, ⟨wf_i64 w0, wf_i64 w1, wf_i64 w2, wf_i64 w3, ?_⟩, ?_⟩
        · simpa [Addr.add] using d0
        · show s.size ≤ _
          simp only [Rows.uptoBulk] at hDb
          omega
        · show 1 + s.size ≤ _
          rw [hD1]
          simp only [Rows.uptoBulk, Rows.uptoBulkAll]
          omega
    obtain ⟨f, hf⟩ := @Deep.choose_lt OpV ⟨⟨0, 0, 0, 0, .empty⟩⟩ _ _ hone
    have hlenb : len ≤ 1048576 := by
      have := slice_bulk ((List.range len).map D) ((List.range (m - len)).map fun j => D (len + j))
      simp only [List.length_map, List.length_range] at this
      simp only at hb
      omega
    have hwt : wt ((List.range len).map f) ≤ 1048576 := by
      have h1 := wt_bulk (f := f) (D := D) (L := List.range len) (fun i hi => (hf i (by simpa using hi)).2.2)
      simp only [Rows.uptoBulk] at hb
      omega
    refine ⟨(List.range len).map f, by simp, hlenb, hwt, ⟨fun k hk => ?_, fun q hq => ?_⟩⟩
    · simp at hk
      obtain ⟨⟨e0, e1, e2, e3, e4⟩, _⟩ := hf k hk
      obtain ⟨b, off, spot⟩ := a
      have hspot : spot = none := by
        obtain ⟨⟨g0, _⟩, _⟩ := hf 0 (by omega)
        simpa [Addr.add] using World.cell?_spot g0
      subst hspot
      have ad : ∀ j, (⟨b, off, none⟩ : Addr).add j = ⟨b, off + j, none⟩ := fun j => by unfold Addr.add; split <;> simp_all
      have ad2 : ∀ i j, ((⟨b, i, none⟩ : Addr)).add j = ⟨b, i + j, none⟩ := fun i j => by unfold Addr.add; split <;> simp_all
      rw [ad] at e0 e1 e2 e3 e4
      rw [ad2] at e1 e2 e3 e4
      refine ⟨b, off, rfl, World.block_lt_of_cell? W _ e0, ?_, ?_, ?_, ?_, ?_⟩
      · simpa using e0
      · simpa using e1
      · simpa using e2
      · simpa using e3
      · simpa using e4
    · obtain ⟨i, hi, rfl⟩ := List.mem_map.1 hq
      exact (hf i (by simpa using hi)).2.1
end
end Go.Proofs.YtdifgcppmnmagaaGreatDoor
/-
  sluicelaw: plays.
-/
namespace Go.Proofs.YtdifgcppmnmagaaGreatDoor
open Go.RowKit

set_option maxRecDepth 100000 in
set_option maxHeartbeats 6400000 in
theorem plays_true {lo hi : Int} {K : World → Prop} {G : World → Value → Value → Prop} {I : World → World → World → Nat → Value → Value → Value → Value → Nat → Prop} (P : Played lo hi K G I) (sF sH sC sS : Option Addr) (nF cF nH cH nC cC nS cS : Nat) (so : Option Addr) (co : Nat) (ops : List OpV) (W : World)
    (hK : K W) (hG : G W (.slice sF nF cF) (.slice sH nH cH)) (hO : OpsIn W so ops) (hn : ops.length ≤ 1048576) (hwt : wt ops ≤ 1048576) :
    Calls Tryz.prog 5 #[.agg #[.slice sF nF cF, .slice sH nH cH, .slice sC nC cC, .slice sS nS cS], .slice so ops.length co, .int .i64 lo, .int .i64 hi] W fun e w' => e = .returned (.bool true) ∧ Below W.heap.size W w' := by
  have HP := hide P
  have HG := hide hG
  have HO := hide hO
  have HKW := hide hK
  clear P hG hO hK
  go_enter Tryz.func5, Tryz.ntmps5
  go_wp2_with fail
  refine (known_any _).mono ?_
  rintro e w1 ⟨rfl, hb1, hk6, hk2, hk8, hk7⟩
  have hg1 := told_kept (heap_alloc_new W (.cells #[.slice sF nF cF, .slice sH nH cH, .slice sC nC cC, .slice sS nS cS] 27)) hb1
  have HG1 := hide hg1
  have hBW : Below W.heap.size W w1 := ((Below.refl _ W).alloc (Nat.le_refl _) _).trans (hb1.mono (by simp))
  have hsz1 := lt_of_block hg1
  have HBW := hide hBW
  clear hb1 hg1 hBW
  generalize (W.alloc (.cells #[.slice sF nF cF, .slice sH nH cH, .slice sC nC cC, .slice sS nS cS] 27)).heap.size = nk at hk6 hk2 hk8 hk7 ⊢
  have HK := hide (HP.out.known w1 _ hk6 hk2 hk8 hk7)
  have HK1 := hide (HP.out.kb _ _ HKW.out HBW.out)
  clear hk6 hk2 hk8 hk7
  go_wp2_with fail
  refine (opening_any _).mono ?_
  rintro e w2 ⟨rfl, hw2⟩
  have hv2 : w2.heap[w1.heap.size]? = some (.cells (lw (.slice (some ⟨nk + 6, 0, none⟩) 1 1) (.slice (some ⟨nk + 8, 0, none⟩) 1 1) (.slice (some ⟨nk + 9, 0, none⟩) 1 1) (.slice (some ⟨nk + 10, 0, none⟩) 1 1) (.slice none 0 0) (.slice none 0 0) (.slice none 0 0)) 46 (0, 0)) := by
    rw [hw2]; exact heap_in (by simp) (heap_at rfl)
  have hb2 : Below w1.heap.size w1 w2 := by
    rw [hw2]; exact ((Below.refl _ _).alloc (Nat.le_refl _) _).alloc (by simp) _
  have ho2 : OpsIn w2 (some ⟨w1.heap.size + 1, 0, none⟩) openOps := by
    refine opsIn_of_block (t := 49) (fr := (0, 0)) ?_ openOps_ok
    rw [hw2]; exact heap_at (by simp)
  have hI2 := HP.out.new w1 w2 w1.heap.size _ _ _ _ hv2 (Nat.le_refl _) hb2
  have HI2 := hide hI2
  have HO2 := hide ho2
  have hadr : ∀ o : Obj, (w1.alloc o).heap.size = w1.heap.size + 1 := fun o => by simp
  rw [hadr]
  clear hw2 hv2 hb2 ho2 hI2 hadr
  go_wp2
  have HWT := hide hwt
  go_loopw [11] (fun i wr => ∃ k : Nat, k ≤ 14 ∧ i = .int .i64 k ∧ I w1 w2 wr w1.heap.size (.slice (some ⟨nk + 6, 0, none⟩) 1 1) (.slice (some ⟨nk + 8, 0, none⟩) 1 1) (.slice (some ⟨nk + 9, 0, none⟩) 1 1) (.slice (some ⟨nk + 10, 0, none⟩) 1 1) (wt (openOps.take k))) (fun i _ => 14 - (intOf i).toNat)
  case atStart => exact ⟨0, by omega, rfl, HI2.out⟩
  case round =>
    obtain ⟨k, hk, rfl, hI⟩ := hrel
    by_cases hlt : k < 14
    · obtain ⟨ob, off, hso, hob, c0, c1, c2, c3, c4⟩ := (HO2.out.chg (HP.out.bel _ _ _ _ _ _ _ _ _ hI).2 (fun ob off he => by simp at he; omega)).cell k hlt
      simp only [Option.some.injEq, Addr.mk.injEq, and_true] at hso
      obtain ⟨rfl, rfl⟩ := hso
      simp only [Nat.zero_add] at c0 c1 c2 c3 c4
      have hok := HO2.out.ok openOps[k] (List.getElem_mem _)
      have hnx := wt_next (ops := openOps) hlt
      have htl := Nat.le_trans (wt_take openOps (k + 1)) wt_open
      generalize openOps[k] = o at c0 c1 c2 c3 c4 hok hnx
      obtain ⟨ok, oa, ob, oc, os⟩ := o
      simp only at c0 c1 c2 c3 c4
      have HI := hide hI
      have HOK := hide hok
      rw [hnx] at htl
      simp only at hnx htl
      have HNX := hide hnx
      have HTL := hide htl
      clear hI hok HI2 hnx htl
      by_cases hin : lo ≤ ok ∧ ok ≤ hi
      · obtain ⟨h1, h2⟩ := hin
        go_wp2_with fail
        refine (HP.out.step w1 w2 _ w1.heap.size _ _ _ _ (wt (openOps.take k)) ⟨ok, oa, ob, oc, os⟩ h1 h2 HOK.out HK1.out HK.out HTL.out HI.out).mono ?_
        rintro e w' ⟨rfl, hI'⟩
        clear c0 c1 c2 c3 c4
        go_wp2
        go_roundw
        case rel => exact ⟨k + 1, by omega, by go_num, by rw [HNX.out]; exact hI'⟩
        case measure => simp [intOf]; omega
      · by_cases h1 : lo ≤ ok
        · have h2 : ¬ ok ≤ hi := fun h => hin ⟨h1, h⟩
          clear hin
          go_wp2
          go_roundw
          case rel => exact ⟨k + 1, by omega, by go_num, HP.out.mono _ _ _ _ _ _ _ _ _ _ (by rw [HNX.out]; omega) HI.out⟩
          case measure => simp [intOf]; omega
        · clear hin
          go_wp2
          go_roundw
          case rel => exact ⟨k + 1, by omega, by go_num, HP.out.mono _ _ _ _ _ _ _ _ _ _ (by rw [HNX.out]; omega) HI.out⟩
          case measure => simp [intOf]; omega
    · have hbr := (HP.out.bel _ _ _ _ _ _ _ _ _ hI).1
      have hgr : wr.heap[W.heap.size]? = some (.cells #[.slice sF nF cF, .slice sH nH cH, .slice sC nC cC, .slice sS nS cS] 27 (0, 0)) := by
        rw [hbr.block _ hsz1]; exact HG1.out
      obtain ⟨g0, g1, g2, g3, -⟩ := frame_blockT hgr
      have HBR := hide (HBW.out.trans (hbr.mono HBW.out.size))
      clear hI hbr hgr HI2 HK
      obtain ⟨wq, hwq⟩ : ∃ wq, wq = wr := ⟨wr, rfl⟩
      subst hwq
      go_wp2
      obtain ⟨V2, hV2⟩ : ∃ V2, V2 = wq.alloc (.cells (lw (.slice sF nF cF) (.slice sH nH cH) (.slice sC nC cC) (.slice sS nS cS) (.slice none 0 0) (.slice none 0 0) (.slice none 0 0)) 46) := ⟨_, rfl⟩
      have hbV : Below W.heap.size W V2 := by rw [hV2]; exact HBR.out.alloc HBR.out.size _
      have hvV : V2.heap[wq.heap.size]? = some (.cells (lw (.slice sF nF cF) (.slice sH nH cH) (.slice sC nC cC) (.slice sS nS cS) (.slice none 0 0) (.slice none 0 0) (.slice none 0 0)) 46 (0, 0)) := by rw [hV2]; exact heap_at rfl
      have HIV := hide (HP.out.new W V2 wq.heap.size _ _ _ _ hvV HBR.out.size hbV)
      rw [← hV2]
      clear hV2 hbV hvV g0 g1 g2 g3 HG1
      go_loopw [14] (fun i wr => ∃ k : Nat, k ≤ ops.length ∧ i = .int .i64 k ∧ I W V2 wr wq.heap.size (.slice sF nF cF) (.slice sH nH cH) (.slice sC nC cC) (.slice sS nS cS) (wt (ops.take k))) (fun i _ => ops.length - (intOf i).toNat)
      case atStart => exact ⟨0, by omega, rfl, HIV.out⟩
      case round =>
        obtain ⟨k, hk, rfl, hI⟩ := hrel
        by_cases hlt : k < ops.length
        · obtain ⟨ob, off, hso, hob, c0, c1, c2, c3, c4⟩ := (HO.out.below (HP.out.bel _ _ _ _ _ _ _ _ _ hI).1).cell k hlt
          subst hso
          have hok := HO.out.ok ops[k] (List.getElem_mem _)
          have hnx := wt_next (ops := ops) hlt
          have htl := Nat.le_trans (wt_take ops (k + 1)) hwt
          generalize ops[k] = o at c0 c1 c2 c3 c4 hok hnx
          obtain ⟨ok, oa, ob', oc, os⟩ := o
          simp only at c0 c1 c2 c3 c4
          have HI := hide hI
          have HOK := hide hok
          rw [hnx] at htl
          simp only at hnx htl
          have HNX := hide hnx
          have HTL := hide htl
          clear hI hok HIV hnx htl
          by_cases h1 : ok < lo
          · go_wp2
            go_roundw
            case rel => exact ⟨k + 1, by omega, by go_num, HP.out.mono _ _ _ _ _ _ _ _ _ _ (by rw [HNX.out]; omega) HI.out⟩
            case measure => simp [intOf]; omega
          · by_cases h2 : hi < ok
            · go_wp2
              go_roundw
              case rel => exact ⟨k + 1, by omega, by go_num, HP.out.mono _ _ _ _ _ _ _ _ _ _ (by rw [HNX.out]; omega) HI.out⟩
              case measure => simp [intOf]; omega
            · go_wp2_with fail
              refine (HP.out.step W V2 _ wq.heap.size _ _ _ _ (wt (ops.take k)) ⟨ok, oa, ob', oc, os⟩ (by show lo ≤ ok; omega) (by show ok ≤ hi; omega) HOK.out HKW.out HG.out HTL.out HI.out).mono ?_
              rintro e w5 ⟨rfl, hI5⟩
              have HBK := hide (HP.out.bks _ _ _ _ _ _ _ _ _ hI5 (by have := HTL.out; simp only at this ⊢; omega))
              have HI5 := hide hI5
              clear c0 c1 c2 c3 c4 hI5
              go_wp2_with fail
              refine HBK.out.mono ?_
              rintro e w6 ⟨rfl, hb6⟩
              have HI6 := hide (HP.out.below _ _ _ _ _ _ _ _ _ _ HI5.out hb6)
              clear hb6
              go_wp2
              go_roundw
              case rel => exact ⟨k + 1, by omega, by go_num, by rw [HNX.out]; exact HI6.out⟩
              case measure => simp [intOf]; omega
        · have hbe := (HP.out.bel _ _ _ _ _ _ _ _ _ hI).1
          go_wp2
          go_ret
          exact ⟨rfl, hbe⟩
end Go.Proofs.YtdifgcppmnmagaaGreatDoor
/-
  Frames that are right are read as they were written; bytes in pieces tell what they tell as a whole.
-/
namespace Go.Proofs.YtdifgcppmnmagaaGreatDoor

theorem feed_code (got l : List UInt8) : (feed got l).2.code ≠ 0 → (feed got l).2.got = [] := by
  induction l generalizing got with
  | nil => intro h; exact absurd rfl h
  | cons c r ih =>
    simp only [feed]
    split
    · exact ih _
    · exact ih _
    · intro _; rfl

theorem feed_append (got a b : List UInt8) : feed got (a ++ b) = ((feed got a).1 ++ ((feed got a).2.feed b).1, ((feed got a).2.feed b).2) := by
  induction a generalizing got with
  | nil =>
    have : (Rd.mk got 0).feed b = feed got b := by show (if (0 : Int) = 0 then _ else _) = _; rw [if_pos rfl]
    simp [feed, this]
  | cons c r ih =>
    simp only [List.cons_append, feed]
    split
    · exact ih _
    · simp [ih]
    · rename_i code hs
      have hc : code ≠ 0 := by
        unfold step at hs
        simp only at hs
        split at hs
        · rename_i h; simp only [Sum.inr.injEq] at hs; rw [← hs]; exact h.2
        · split at hs
          · cases hs
          · split at hs
            · rename_i h; simp only [Sum.inr.injEq] at hs; rw [← hs]; exact h
            · cases hs
      have : (Rd.mk [] code).feed b = ([], ⟨[], code⟩) := by show (if code = 0 then _ else _) = _; rw [if_neg hc]
      simp [this]

theorem Rd.feed_append (r : Rd) (a b : List UInt8) : r.feed (a ++ b) = ((r.feed a).1 ++ ((r.feed a).2.feed b).1, ((r.feed a).2.feed b).2) := by
  unfold Rd.feed
  by_cases h : r.code = 0
  · simp only [h, if_true]
    exact Go.Proofs.YtdifgcppmnmagaaGreatDoor.feed_append _ _ _
  · simp [h]

theorem Rd.feed_nil (r : Rd) : r.feed [] = ([], r) := by
  unfold Rd.feed
  by_cases h : r.code = 0
  · rw [if_pos h]
    show ([], Rd.mk r.got 0) = ([], r)
    rw [← h]
  · rw [if_neg h]

theorem Rd.feed_dead {r : Rd} (h : r.code ≠ 0) (l : List UInt8) : r.feed l = ([], r) := by unfold Rd.feed; rw [if_neg h]

/-- Is the frame right, by the table? -/
structure Right (k f s : Int) (body : List UInt8) : Prop where
  k0 : 0 ≤ k
  k1 : k ≤ 255
  f0 : 0 ≤ f
  f1 : f ≤ 255
  s0 : 0 ≤ s
  s1 : s ≤ 32767
  st : sFits k s = true
  n : body.length ≤ 64
  ln : lFits body.length k f = true
  bd : bodyCode k f body = 0

theorem lay_length (k f s : Int) (body : List UInt8) : (lay k f s body).length = 6 + body.length := by simp [lay]; omega
theorem lay_drop (k f s : Int) (body : List UInt8) : (lay k f s body).drop 6 = body := rfl

theorem hdOf_lay {k f s : Int} {body r : List UInt8} (hk0 : 0 ≤ k) (hk1 : k ≤ 255) (hf0 : 0 ≤ f) (hf1 : f ≤ 255) (hs0 : 0 ≤ s) (hs1 : s ≤ 32767) (hn : body.length ≤ 64) :
    hdOf ([ofI ((body.length : Int) / 256), ofI (body.length : Int), ofI k, ofI f, ofI (s / 256), ofI (s % 256)] ++ r) = ⟨body.length, k, f, s⟩ := by
  simp only [hdOf, List.cons_append, be2]
  rw [ofI_toNat (by omega) (by omega), ofI_toNat (by omega) (by omega), ofI_toNat hk0 hk1, ofI_toNat hf0 hf1, ofI_toNat (by omega) (by omega), ofI_toNat (by omega) (by omega)]
  congr 1 <;> omega

theorem feed_short (got l : List UInt8) (h : got.length + l.length < 6) : feed got l = ([], ⟨got ++ l, 0⟩) := by
  induction l generalizing got with
  | nil => simp [feed]
  | cons c r ih =>
    have hs : step got c = .more (got ++ [c]) := by
      unfold step
      simp only [List.length_append, List.length_cons, List.length_nil] at h ⊢
      rw [if_neg (by omega), if_pos (by omega)]
    simp only [feed, hs]
    rw [ih _ (by simp at h ⊢; omega)]
    simp

/-- Behind a head that is right: the body is gathered, and then looked at. -/
theorem feed_body (got l : List UInt8) (n : Nat) (h6 : 6 ≤ got.length) (hc : (hdOf got).length = (n : Int)) (hl : got.length + l.length = 6 + n) (hlt : got.length < 6 + n) :
    feed got l = if bodyCode (hdOf got).kind (hdOf got).flags ((got ++ l).drop 6) = 0 then ([⟨(hdOf got).kind, (hdOf got).flags, (hdOf got).stream, (got ++ l).drop 6⟩], ⟨[], 0⟩) else ([], ⟨[], bodyCode (hdOf got).kind (hdOf got).flags ((got ++ l).drop 6)⟩) := by
  induction l generalizing got with
  | nil => simp at hl; omega
  | cons c r ih =>
    have hh : hdOf (got ++ [c]) = hdOf got := by
      match got, h6 with
      | a :: b :: d :: e :: f :: g :: r, _ => rfl
    by_cases hr : r = []
    · subst hr
      simp only [List.length_cons, List.length_nil] at hl
      by_cases hb : bodyCode (hdOf got).kind (hdOf got).flags ((got ++ [c]).drop 6) = 0
      · have hs : step got c = .frame ⟨(hdOf got).kind, (hdOf got).flags, (hdOf got).stream, (got ++ [c]).drop 6⟩ := by
          unfold step
          simp only [hh]
          simp only [List.length_append, List.length_cons, List.length_nil]
          rw [if_neg (by omega), if_neg (by omega), if_neg (by simpa using hb)]
        simp only [feed, hs]
        rw [if_pos hb]
      · have hs : step got c = .fault (bodyCode (hdOf got).kind (hdOf got).flags ((got ++ [c]).drop 6)) := by
          unfold step
          simp only [hh]
          simp only [List.length_append, List.length_cons, List.length_nil]
          rw [if_neg (by omega), if_neg (by omega), if_pos hb]
        simp only [feed, hs]
        rw [if_neg hb]
    · have hrl : 0 < r.length := List.length_pos_iff.2 hr
      simp only [List.length_cons] at hl
      have hs : step got c = .more (got ++ [c]) := by
        unfold step
        simp only [hh]
        simp only [List.length_append, List.length_cons, List.length_nil]
        rw [if_neg (by omega), if_pos (by omega)]
      simp only [feed, hs]
      have := ih (got ++ [c]) (by simp; omega) (by rw [hh]; exact hc) (by simp; omega) (by simp; omega)
      rw [this, hh]
      simp only [List.append_assoc, List.cons_append, List.nil_append]

/-- What a reader makes of the bytes of a frame that fits. -/
theorem feed_lay {k f s : Int} {body : List UInt8} (hk0 : 0 ≤ k) (hk1 : k ≤ 255) (hf0 : 0 ≤ f) (hf1 : f ≤ 255) (hs0 : 0 ≤ s) (hs1 : s ≤ 32767) (hn : body.length ≤ 64) :
    feed [] (lay k f s body) = if headCode body.length k f s ≠ 0 then ([], ⟨[], headCode body.length k f s⟩) else if bodyCode k f body = 0 then ([⟨k, f, s, body⟩], ⟨[], 0⟩) else ([], ⟨[], bodyCode k f body⟩) := by
  obtain ⟨x0, hx0⟩ : ∃ x, x = ofI ((body.length : Int) / 256) := ⟨_, rfl⟩
  have hd : ∀ r, hdOf ([ofI ((body.length : Int) / 256), ofI (body.length : Int), ofI k, ofI f, ofI (s / 256), ofI (s % 256)] ++ r) = ⟨body.length, k, f, s⟩ := fun r => hdOf_lay hk0 hk1 hf0 hf1 hs0 hs1 hn
  have e : lay k f s body = [ofI ((body.length : Int) / 256), ofI (body.length : Int), ofI k, ofI f, ofI (s / 256)] ++ (ofI (s % 256) :: body) := rfl
  rw [e, feed_append, feed_short [] _ (by simp)]
  have h1 : (Rd.mk ([] ++ [ofI ((body.length : Int) / 256), ofI (body.length : Int), ofI k, ofI f, ofI (s / 256)]) 0).feed (ofI (s % 256) :: body) =
      feed [ofI ((body.length : Int) / 256), ofI (body.length : Int), ofI k, ofI f, ofI (s / 256)] (ofI (s % 256) :: body) := by
    show (if (0 : Int) = 0 then _ else _) = _
    rw [if_pos rfl]; rfl
  rw [h1]
  have hd0 : hdOf ([ofI ((body.length : Int) / 256), ofI (body.length : Int), ofI k, ofI f, ofI (s / 256)] ++ [ofI (s % 256)]) = ⟨body.length, k, f, s⟩ := by
    have := hd []; simpa using this
  have hcode : Hd.code ⟨body.length, k, f, s⟩ = headCode body.length k f s := rfl
  simp only [List.nil_append, feed]
  by_cases hh : headCode body.length k f s ≠ 0
  · have hs : step [ofI ((body.length : Int) / 256), ofI (body.length : Int), ofI k, ofI f, ofI (s / 256)] (ofI (s % 256)) = .fault (headCode body.length k f s) := by
      unfold step
      simp only [hd0, hcode]
      rw [if_pos ⟨rfl, hh⟩]
    rw [hs, if_pos hh]
  · rw [if_neg hh]
    by_cases hb : body = []
    · subst hb
      simp only [List.length_nil] at *
      have hs : step [ofI (((0 : Nat) : Int) / 256), ofI ((0 : Nat) : Int), ofI k, ofI f, ofI (s / 256)] (ofI (s % 256)) =
          if bodyCode k f [] = 0 then .frame ⟨k, f, s, []⟩ else .fault (bodyCode k f []) := by
        unfold step
        simp only [hd0, hcode]
        rw [if_neg (fun h => hh h.2), if_neg (by simp)]
        by_cases hz : bodyCode k f [] = 0
        · rw [if_neg (by simpa using hz), if_pos hz]; rfl
        · rw [if_pos (by simpa using hz), if_neg hz]; rfl
      rw [hs]
      by_cases hz : bodyCode k f [] = 0
      · simp [hz, feed]
      · simp [hz]
    · have hbl : 0 < body.length := List.length_pos_iff.2 hb
      have hs : step [ofI ((body.length : Int) / 256), ofI (body.length : Int), ofI k, ofI f, ofI (s / 256)] (ofI (s % 256)) = .more ([ofI ((body.length : Int) / 256), ofI (body.length : Int), ofI k, ofI f, ofI (s / 256)] ++ [ofI (s % 256)]) := by
        unfold step
        simp only [hd0, hcode]
        rw [if_neg (fun h => hh h.2), if_pos (Or.inr (by simp; omega))]
      rw [hs]
      simp only
      rw [feed_body _ body body.length (by simp) (by rw [hd0]) (by simp) (by simp; omega), hd0]
      simp only [List.cons_append, List.nil_append, List.drop_succ_cons, List.drop_zero]

theorem headCode_of {l k f s : Int} (h1 : s ≤ 32767) (h2 : sFits k s = true) (h3 : l ≤ 64) (h4 : lFits l k f = true) : headCode l k f s = 0 := by
  have a1 : ¬ (32767 < s ∨ sFits k s = false) := by
    rintro (a | a)
    · omega
    · rw [h2] at a; cases a
  have a2 : ¬ (64 < l ∨ lFits l k f = false) := by
    rintro (a | a)
    · omega
    · rw [h4] at a; cases a
  unfold headCode
  rw [if_neg a1, if_neg a2]

theorem feed_right {k f s : Int} {body : List UInt8} (h : Right k f s body) : feed [] (lay k f s body) = ([⟨k, f, s, body⟩], ⟨[], 0⟩) := by
  rw [feed_lay h.k0 h.k1 h.f0 h.f1 h.s0 h.s1 h.n, if_neg (by simpa using headCode_of h.s1 h.st (by have := h.n; omega) h.ln), if_pos h.bd]
end Go.Proofs.YtdifgcppmnmagaaGreatDoor
/-
  The document's way to read, all at once: what a reader makes of bytes, head by head.
-/
namespace Go.Proofs.YtdifgcppmnmagaaGreatDoor

theorem feed_six (a b c d e f : UInt8) : feed [] [a, b, c, d, e, f] =
    if (hdOf [a, b, c, d, e, f]).code ≠ 0 then ([], ⟨[], (hdOf [a, b, c, d, e, f]).code⟩)
    else if (hdOf [a, b, c, d, e, f]).length = 0 then
      (if bodyCode (hdOf [a, b, c, d, e, f]).kind (hdOf [a, b, c, d, e, f]).flags [] = 0 then ([⟨(hdOf [a, b, c, d, e, f]).kind, (hdOf [a, b, c, d, e, f]).flags, (hdOf [a, b, c, d, e, f]).stream, []⟩], ⟨[], 0⟩)
       else ([], ⟨[], bodyCode (hdOf [a, b, c, d, e, f]).kind (hdOf [a, b, c, d, e, f]).flags []⟩))
    else ([], ⟨[a, b, c, d, e, f], 0⟩) := by
  have e0 : [a, b, c, d, e, f] = [a, b, c, d, e] ++ [f] := rfl
  have hn : 0 ≤ (hdOf [a, b, c, d, e, f]).length := by simp only [hdOf, be2]; omega
  have h5 : feed [] [a, b, c, d, e, f] = feed [a, b, c, d, e] [f] := by
    rw [e0, feed_append, feed_short [] _ (by simp)]
    show ([] ++ (Rd.feed ⟨[] ++ [a, b, c, d, e], 0⟩ [f]).1, (Rd.feed ⟨[] ++ [a, b, c, d, e], 0⟩ [f]).2) = _
    unfold Rd.feed
    rw [if_pos rfl]
    simp
  rw [h5]
  by_cases hc : (hdOf [a, b, c, d, e, f]).code ≠ 0
  · have hs : step [a, b, c, d, e] f = .fault (hdOf [a, b, c, d, e, f]).code := by
      unfold step
      simp only [List.cons_append, List.nil_append]
      rw [if_pos ⟨rfl, hc⟩]
    simp only [feed, hs]
    rw [if_pos hc]
  · rw [if_neg hc]
    by_cases hl : (hdOf [a, b, c, d, e, f]).length = 0
    · rw [if_pos hl]
      by_cases hb : bodyCode (hdOf [a, b, c, d, e, f]).kind (hdOf [a, b, c, d, e, f]).flags [] = 0
      · have hs : step [a, b, c, d, e] f = .frame ⟨(hdOf [a, b, c, d, e, f]).kind, (hdOf [a, b, c, d, e, f]).flags, (hdOf [a, b, c, d, e, f]).stream, []⟩ := by
          unfold step
          simp only [List.cons_append, List.nil_append, List.length_cons, List.length_nil, List.drop_succ_cons, List.drop_zero]
          rw [if_neg (fun h => hc h.2), if_neg (by omega), if_neg (by simpa using hb)]
        simp only [feed, hs]
        rw [if_pos hb]
      · have hs : step [a, b, c, d, e] f = .fault (bodyCode (hdOf [a, b, c, d, e, f]).kind (hdOf [a, b, c, d, e, f]).flags []) := by
          unfold step
          simp only [List.cons_append, List.nil_append, List.length_cons, List.length_nil, List.drop_succ_cons, List.drop_zero]
          rw [if_neg (fun h => hc h.2), if_neg (by omega), if_pos (by simpa using hb)]
        simp only [feed, hs]
        rw [if_neg hb]
    · rw [if_neg hl]
      have hs : step [a, b, c, d, e] f = .more [a, b, c, d, e, f] := by
        unfold step
        simp only [List.cons_append, List.nil_append, List.length_cons, List.length_nil]
        rw [if_neg (fun h => hc h.2), if_pos (by omega)]
      simp only [feed, hs]

theorem hd_six (a b c d e f : UInt8) (r : List UInt8) : hdOf (a :: b :: c :: d :: e :: f :: r) = hdOf [a, b, c, d, e, f] := rfl

/-- A body that is not whole yet. -/
theorem feed_wait (got l : List UInt8) (h6 : 6 ≤ got.length) (hl : ((got.length + l.length : Nat) : Int) < 6 + (hdOf got).length) : feed got l = ([], ⟨got ++ l, 0⟩) := by
  induction l generalizing got with
  | nil => simp [feed]
  | cons c r ih =>
    have hh : hdOf (got ++ [c]) = hdOf got := by
      match got, h6 with
      | a :: b :: d :: e :: f :: g :: r, _ => rfl
    simp only [List.length_cons] at hl
    have hs : step got c = .more (got ++ [c]) := by
      unfold step
      simp only [hh]
      simp only [List.length_append, List.length_cons, List.length_nil]
      rw [if_neg (by omega), if_pos (by omega)]
    simp only [feed, hs]
    rw [ih (got ++ [c]) (by simp; omega) (by rw [hh]; simp; omega)]
    simp

theorem feed_split (a b c d e f : UInt8) (r : List UInt8) : feed [] (a :: b :: c :: d :: e :: f :: r) = ((feed [] [a, b, c, d, e, f]).1 ++ ((feed [] [a, b, c, d, e, f]).2.feed r).1, ((feed [] [a, b, c, d, e, f]).2.feed r).2) :=
  feed_append [] [a, b, c, d, e, f] r

theorem rf_head {l : List UInt8} (h6 : 6 ≤ l.length) (hc : (hdOf l).code ≠ 0) : feed [] l = ([], ⟨[], (hdOf l).code⟩) := by
  match l, h6 with
  | a :: b :: c :: d :: e :: f :: r, _ =>
    rw [hd_six] at hc ⊢
    rw [feed_split, feed_six, if_pos hc, Rd.feed_dead hc]
    rfl

theorem rf_wait {l : List UInt8} (h6 : 6 ≤ l.length) (hc : (hdOf l).code = 0) (hl : (l.length : Int) < 6 + (hdOf l).length) : feed [] l = ([], ⟨l, 0⟩) := by
  match l, h6 with
  | a :: b :: c :: d :: e :: f :: r, _ =>
    rw [hd_six] at hc hl
    simp only [List.length_cons] at hl
    rw [feed_split, feed_six, if_neg (by simpa using hc), if_neg (by omega)]
    have e1 : (Rd.mk [a, b, c, d, e, f] 0).feed r = feed [a, b, c, d, e, f] r := by unfold Rd.feed; rw [if_pos rfl]
    rw [e1, feed_wait _ r (by simp) (by simp only [List.length_cons, List.length_nil]; omega)]
    simp

theorem rf_body {l : List UInt8} {n : Nat} (h6 : 6 ≤ l.length) (hc : (hdOf l).code = 0) (hn : (hdOf l).length = (n : Int)) (hl : 6 + n ≤ l.length) :
    feed [] l = if bodyCode (hdOf l).kind (hdOf l).flags ((l.drop 6).take n) = 0 then (⟨(hdOf l).kind, (hdOf l).flags, (hdOf l).stream, (l.drop 6).take n⟩ :: (feed [] (l.drop (6 + n))).1, (feed [] (l.drop (6 + n))).2)
      else ([], ⟨[], bodyCode (hdOf l).kind (hdOf l).flags ((l.drop 6).take n)⟩) := by
  match l, h6 with
  | a :: b :: c :: d :: e :: f :: r, _ =>
    rw [hd_six] at hc hn ⊢
    have hr : n ≤ r.length := by simp only [List.length_cons] at hl; omega
    have hd1 : (a :: b :: c :: d :: e :: f :: r).drop 6 = r := rfl
    have hd2 : (a :: b :: c :: d :: e :: f :: r).drop (6 + n) = r.drop n := by rw [← List.drop_drop]; rfl
    rw [hd1, hd2, feed_split, feed_six, if_neg (by simpa using hc)]
    have dead : ∀ (z : Int) (q : List UInt8), z ≠ 0 → (([] : List Fr) ++ ((Rd.mk [] z).feed q).1, ((Rd.mk [] z).feed q).2) = (([], ⟨[], z⟩) : List Fr × Rd) := fun z q hz => by rw [Rd.feed_dead hz]; rfl
    have live : ∀ (g q : List UInt8), (Rd.mk g 0).feed q = feed g q := fun g q => by unfold Rd.feed; rw [if_pos rfl]
    by_cases h0 : n = 0
    · subst h0
      rw [if_pos (by rw [hn]; rfl), List.take_zero, List.drop_zero]
      by_cases hb : bodyCode (hdOf [a, b, c, d, e, f]).kind (hdOf [a, b, c, d, e, f]).flags [] = 0
      · rw [if_pos hb, if_pos hb]
        simp only [live]
        rfl
      · rw [if_neg hb, if_neg hb]
        exact dead _ _ hb
    · rw [if_neg (by rw [hn]; omega)]
      simp only [live, List.nil_append]
      have e2 : r = r.take n ++ r.drop n := (List.take_append_drop n r).symm
      have e3 : feed [a, b, c, d, e, f] r = feed [a, b, c, d, e, f] (r.take n ++ r.drop n) := by rw [List.take_append_drop]
      rw [e3, feed_append, feed_body [a, b, c, d, e, f] (r.take n) n (by simp) hn (by simp; omega) (by simp; omega)]
      have e4 : ([a, b, c, d, e, f] ++ r.take n).drop 6 = r.take n := rfl
      rw [e4]
      by_cases hb : bodyCode (hdOf [a, b, c, d, e, f]).kind (hdOf [a, b, c, d, e, f]).flags (r.take n) = 0
      · rw [if_pos hb, if_pos hb]
        simp only [live]
        rfl
      · rw [if_neg hb, if_neg hb]
        exact dead _ _ hb
end Go.Proofs.YtdifgcppmnmagaaGreatDoor
/-
  The leaves of package frames: what each call returns, or with what it gives up.
-/
namespace Go.Proofs.YtdifgcppmnmagaaGreatDoor
open Go.RowKit

/-- What a call ends with that has found a fault, or none. -/
def endOf (c : Int) : Ending := if c = 0 then .returned (.tuple #[]) else .panicked [{ v := .iface 83 (.int .i64 c), recovered := false }]

theorem hasB_bits {f : Int} (h0 : 0 ≤ f) (h1 : f < 256) {b : Int} (hb : b = 1 ∨ b = 8) : (bits BinOp.and IntKind.i64 f b != 0) = hasB f b := by
  obtain ⟨n, rfl⟩ := Int.eq_ofNat_of_zero_le h0
  have hn : n < 256 := by omega
  have key : ∀ m : Fin 256, (bits BinOp.and IntKind.i64 (m.val : Int) 1 != 0) = hasB (m.val : Int) 1 ∧ (bits BinOp.and IntKind.i64 (m.val : Int) 8 != 0) = hasB (m.val : Int) 8 := by decide +kernel
  rcases hb with rfl | rfl
  · exact (key ⟨n, hn⟩).1
  · exact (key ⟨n, hn⟩).2

set_option maxHeartbeats 400000 in
theorem has_any (k f s b : Int) (bv : Value) (w : World) (h0 : 0 ≤ f) (h1 : f < 256) (hb : b = 1 ∨ b = 8) :
    Calls Tryz.prog 284 #[.agg #[.int .i64 k, .int .i64 f, .int .i64 s, bv], .int .i64 b] w fun e w' => e = .returned (.bool (hasB f b)) ∧ Below w.heap.size w w' := by
  have hh := hasB_bits h0 h1 hb
  have HH : Hid ((bits BinOp.and IntKind.i64 f b != 0) = hasB f b) := hh
  clear hh hb
  go_enter Tryz.func284, Tryz.ntmps284
  go_wp2
  go_ret
  exact ⟨ret_bool HH.out, (Below.refl _ _).alloc (Nat.le_refl _) _⟩

set_option maxHeartbeats 400000 in
theorem streamFits_any (l k f s : Int) (w : World) :
    Calls Tryz.prog 203 #[.agg #[.int .i64 l, .int .i64 k, .int .i64 f, .int .i64 s]] w fun e w' => e = .returned (.bool (sFits k s)) ∧ Below w.heap.size w w' := by
  go_enter Tryz.func203, Tryz.ntmps203
  go_wp2
  all_goals go_ret
  all_goals refine ⟨ret_bool ?_, (Below.refl _ _).alloc (Nat.le_refl _) _⟩
  all_goals simp_all [sFits]

theorem bcell {W w1 : World} {n : Nat} (hb : Below n W w1) : (∀ b o, b < n → w1.cell? ⟨b, o, none⟩ = W.cell? ⟨b, o, none⟩) ∧ (∀ b o, b < n → w1.frozen? ⟨b, o, none⟩ = W.frozen? ⟨b, o, none⟩) :=
  ⟨fun b o h => hb.cell (p := ⟨b, o, none⟩) h, fun b o h => hb.frozen (p := ⟨b, o, none⟩) h⟩

set_option maxHeartbeats 800000 in
theorem lengthFits_any (l k f s : Int) (w : World) (h0 : 0 ≤ f) (h1 : f < 256) :
    Calls Tryz.prog 204 #[.agg #[.int .i64 l, .int .i64 k, .int .i64 f, .int .i64 s]] w fun e w' => e = .returned (.bool (lFits l k f)) ∧ Below w.heap.size w w' := by
  have hh := hasB_bits h0 h1 (b := 1) (Or.inl rfl)
  cases hf : hasB f 1
  all_goals (rw [hf] at hh)
  all_goals (go_enter Tryz.func204, Tryz.ntmps204)
  all_goals go_wp2
  all_goals go_ret
  all_goals refine ⟨ret_bool ?_, ?_⟩
  all_goals first
    | exact (Below.refl _ _).alloc (Nat.le_refl _) _
    | simp_all [lFits]

theorem hc9 {l k f s : Int} (h : 32767 < s ∨ (!sFits k s) = true) : endOf (headCode l k f s) = .panicked [{ v := .iface 83 (.int .i64 9), recovered := false }] := by
  have : headCode l k f s = 9 := by unfold headCode; rw [if_pos (by simpa using h)]
  rw [this]; rfl
theorem hc10 {l k f s : Int} (h : s ≤ 32767 ∧ (!sFits k s) = false) (h2 : 64 < l ∨ (!lFits l k f) = true) : endOf (headCode l k f s) = .panicked [{ v := .iface 83 (.int .i64 10), recovered := false }] := by
  have : headCode l k f s = 10 := by
    unfold headCode
    rw [if_neg (by rintro (a | a); · omega
                   · simp [a] at h), if_pos (by simpa using h2)]
  rw [this]; rfl
theorem hc0 {l k f s : Int} (h : s ≤ 32767 ∧ (!sFits k s) = false) (h2 : l ≤ 64 ∧ (!lFits l k f) = false) : endOf (headCode l k f s) = .returned (.tuple #[]) := by
  have : headCode l k f s = 0 := by
    unfold headCode
    rw [if_neg (by rintro (a | a); · omega
                   · simp [a] at h), if_neg (by rintro (a | a); · omega
                                                · simp [a] at h2)]
  rw [this]; rfl

set_option maxHeartbeats 800000 in
theorem checkHead_any (l k f s : Int) (w : World) (h0 : 0 ≤ f) (h1 : f < 256) :
    Calls Tryz.prog 131 #[.agg #[.int .i64 l, .int .i64 k, .int .i64 f, .int .i64 s]] w fun e w' => e = endOf (headCode l k f s) ∧ Below w.heap.size w w' := by
  go_enter Tryz.func131, Tryz.ntmps131
  go_wp2_with (first | (go_at_call 203; refine (streamFits_any l k f s _).mono ?_; rintro e w' ⟨rfl, hb⟩; obtain ⟨hc, hf⟩ := bcell hb) | (go_at_call 204; refine (lengthFits_any l k f s _ h0 h1).mono ?_; rintro e w'' ⟨rfl, hb'⟩))
  all_goals first
    | (refine bodyPost_end (results_none rfl _ _ _) rfl ⟨?_, ?_⟩)
    | refine ⟨rfl, ?_, ?_⟩
  all_goals first
    | exact (Below.refl _ _).alloc (Nat.le_refl _) _
    | exact ((Below.refl _ _).alloc (Nat.le_refl _) _).trans (hb.mono (by simp))
    | exact (((Below.refl _ _).alloc (Nat.le_refl _) _).trans (hb.mono (by simp))).trans (hb'.mono (by have := hb.size; simp at this; omega))
    | exact (hc9 (by assumption)).symm
    | exact (hc9 (Or.inl (by assumption))).symm
    | exact (hc10 (by assumption) (by assumption)).symm
    | exact (hc10 (by assumption) (Or.inl (by assumption))).symm
    | exact (hc0 (by assumption) (by assumption)).symm
end Go.Proofs.YtdifgcppmnmagaaGreatDoor
/-
  frames.checkNumber: four bytes, a number that is least or more, MaxNumber or less.
-/
namespace Go.Proofs.YtdifgcppmnmagaaGreatDoor
open Go.RowKit

theorem wraps_u32 (n : Int) (h0 : 0 ≤ n) (h1 : n < 2 ^ 32) : IntKind.u32.wrap n = n := by rw [IntKind.wrap_u32']; omega
theorem or_be4 (a b c d : UInt8) : bits BinOp.or IntKind.u32 (bits BinOp.or IntKind.u32 (bits BinOp.or IntKind.u32 ((a.toNat : Int) % 4294967296 * 16777216 % 4294967296) ((b.toNat : Int) % 4294967296 * 65536 % 4294967296))
    ((c.toNat : Int) % 4294967296 * 256 % 4294967296)) ((d.toNat : Int) % 4294967296) = be4 a b c d := by
  have ha : a.toNat < 256 := a.toNat_lt
  have hb : b.toNat < 256 := b.toNat_lt
  have hc : c.toNat < 256 := c.toNat_lt
  have hd : d.toNat < 256 := d.toNat_lt
  have e1 : (a.toNat : Int) % 4294967296 * 16777216 % 4294967296 = (a.toNat : Int) * 16777216 := by omega
  have e2 : (b.toNat : Int) % 4294967296 * 65536 % 4294967296 = (b.toNat : Int) * 65536 := by omega
  have e3 : (c.toNat : Int) % 4294967296 * 256 % 4294967296 = (c.toNat : Int) * 256 := by omega
  have e4 : (d.toNat : Int) % 4294967296 = (d.toNat : Int) := by omega
  rw [e1, e2, e3, e4]
  rw [bits_join .u32 32 (by decide) wraps_u32 24 ((a.toNat : Int) * 16777216) ((b.toNat : Int) * 65536) (by omega) (by omega) (by omega) (by omega) (by omega) (by omega)]
  rw [bits_join .u32 32 (by decide) wraps_u32 16 ((a.toNat : Int) * 16777216 + (b.toNat : Int) * 65536) ((c.toNat : Int) * 256) (by omega) (by omega) (by omega) (by omega) (by omega) (by omega)]
  rw [bits_join .u32 32 (by decide) wraps_u32 8 ((a.toNat : Int) * 16777216 + (b.toNat : Int) * 65536 + (c.toNat : Int) * 256) (d.toNat : Int) (by omega) (by omega) (by omega) (by omega) (by omega) (by omega)]
  unfold be4; omega

theorem nc9 {v l : Int} (h : v < l ∨ 2147483647 < v) : endOf (nCode v l) = .panicked [{ v := .iface 83 (.int .i64 9), recovered := false }] := by
  have : nCode v l = 9 := by unfold nCode; rw [if_pos h]
  rw [this]; rfl
theorem nc0 {v l : Int} (h : l ≤ v ∧ v ≤ 2147483647) : endOf (nCode v l) = .returned (.tuple #[]) := by
  have : nCode v l = 0 := by unfold nCode; rw [if_neg (by omega)]
  rw [this]; rfl

/-- What a call ends with that answers v, or has found a fault. -/
def endVal (v : Value) (c : Int) : Ending := if c = 0 then .returned v else .panicked [{ v := .iface 83 (.int .i64 c), recovered := false }]
theorem endVal0 (v : Value) : endVal v 0 = .returned v := rfl
theorem endVal_ne {v : Value} {c : Int} (h : c ≠ 0) : endVal v c = .panicked [{ v := .iface 83 (.int .i64 c), recovered := false }] := by simp [endVal, h]
theorem ev9 {v : Value} {x l : Int} (h : x < l ∨ 2147483647 < x) : endVal v (nCode x l) = .panicked [{ v := .iface 83 (.int .i64 9), recovered := false }] := by
  have : nCode x l = 9 := by unfold nCode; rw [if_pos h]
  rw [this]; rfl
theorem ev0 {v : Value} {x l : Int} (h : l ≤ x ∧ x ≤ 2147483647) : endVal v (nCode x l) = .returned v := by
  have : nCode x l = 0 := by unfold nCode; rw [if_neg (by omega)]
  rw [this]; rfl

set_option maxHeartbeats 800000 in
theorem fnum_any (g off n cap : Nat) (x0 x1 x2 x3 : UInt8) (w : World) (hn : 4 ≤ n)
    (c0 : w.cell? ⟨g, off, none⟩ = some (.int .u8 x0.toNat)) (c1 : w.cell? ⟨g, off + 1, none⟩ = some (.int .u8 x1.toNat)) (c2 : w.cell? ⟨g, off + 2, none⟩ = some (.int .u8 x2.toNat))
    (c3 : w.cell? ⟨g, off + 3, none⟩ = some (.int .u8 x3.toNat)) :
    Calls Tryz.prog 207 #[.slice (some ⟨g, off, none⟩) n cap] w fun e w' => e = .returned (.int .u32 (be4 x0 x1 x2 x3)) ∧ ∃ k, w' = w.drewN k := by
  go_enter Tryz.func207, Tryz.ntmps207
  go_wp2
  go_quiet (fail)
  simp only [or_be4]
  go_wp2
  go_ret
  exact ⟨rfl, _, rfl⟩

theorem be4_bounds (a b c d : UInt8) : 0 ≤ be4 a b c d ∧ be4 a b c d < 4294967296 := by
  have ha : a.toNat < 256 := a.toNat_lt
  have hb : b.toNat < 256 := b.toNat_lt
  have hc : c.toNat < 256 := c.toNat_lt
  have hd : d.toNat < 256 := d.toNat_lt
  unfold be4
  omega

set_option maxHeartbeats 800000 in
theorem numberFrom_any (g off n cap : Nat) (x0 x1 x2 x3 : UInt8) (least : Int) (w : World) (hn : 4 ≤ n)
    (c0 : w.cell? ⟨g, off, none⟩ = some (.int .u8 x0.toNat)) (c1 : w.cell? ⟨g, off + 1, none⟩ = some (.int .u8 x1.toNat)) (c2 : w.cell? ⟨g, off + 2, none⟩ = some (.int .u8 x2.toNat))
    (c3 : w.cell? ⟨g, off + 3, none⟩ = some (.int .u8 x3.toNat)) :
    Calls Tryz.prog 208 #[.int .u32 least, .slice (some ⟨g, off, none⟩) n cap] w fun e w' => e = endVal (.int .i64 (be4 x0 x1 x2 x3)) (nCode (be4 x0 x1 x2 x3) least) ∧ ∃ k, w' = w.drewN k := by
  obtain ⟨b0, b1⟩ := be4_bounds x0 x1 x2 x3
  have HN := hide (fnum_any g off n cap x0 x1 x2 x3 w hn c0 c1 c2 c3)
  clear c0 c1 c2 c3
  generalize be4 x0 x1 x2 x3 = x at *
  by_cases hbad : x < least ∨ 2147483647 < x
  · have HE := hide (ev9 (v := .int .i64 x) hbad)
    by_cases h1 : x < least
    · clear hbad
      go_enter Tryz.func208, Tryz.ntmps208
      go_wp2_with fail
      refine HN.out.mono ?_
      rintro e w1 ⟨rfl, k, rfl⟩
      go_wp2
      exact ⟨rfl, HE.out.symm, _, rfl⟩
    · have h2 : 2147483647 < x := by omega
      clear hbad
      go_enter Tryz.func208, Tryz.ntmps208
      go_wp2_with fail
      refine HN.out.mono ?_
      rintro e w1 ⟨rfl, k, rfl⟩
      go_wp2
      exact ⟨rfl, HE.out.symm, _, rfl⟩
  · have h1 : least ≤ x ∧ x ≤ 2147483647 := by omega
    have HE := hide (ev0 (v := .int .i64 x) h1)
    obtain ⟨h1, h2⟩ := h1
    clear hbad
    go_enter Tryz.func208, Tryz.ntmps208
    go_wp2_with fail
    refine HN.out.mono ?_
    rintro e w1 ⟨rfl, k, rfl⟩
    go_wp2
    go_ret
    exact ⟨HE.out.symm, _, rfl⟩
end Go.Proofs.YtdifgcppmnmagaaGreatDoor
