import Derived.Test.YtghongdbohjaaaaGreatDoorGaa
import Derived.Lib.SlBytesConst
import Derived.ProofKit
import Derived.OpenShut
import Derived.ShutString
import Derived.ChangeOld
import Derived.JoinedCond
import Derived.Deep.Slices
import Derived.Lib.SmallJoins
set_option linter.unusedVariables false
set_option linter.unusedSimpArgs false
/-
  (*sluicelaw.Books).whole.
-/
namespace Go.Proofs.YtghongdbohjaaaaGreatDoor
open Go.RowKit

/-- A list of frames that was kept, and the three that were appended to it. -/
structure FRec where
  l : Value
  a : Value
  b : Value
  c : Value
  m : Int
  len : Nat

def frCells : List FRec → List Value
  | [] => []
  | r :: t => r.l :: r.a :: r.b :: r.c :: .int .i64 r.m :: frCells t
theorem frCells_length (rs : List FRec) : (frCells rs).length = rs.length * 5 := by
  induction rs with
  | nil => rfl
  | cons p r ih => simp [frCells, ih]; omega
theorem frCells_append (a b : List FRec) : frCells (a ++ b) = frCells a ++ frCells b := by
  induction a with
  | nil => rfl
  | cons p r ih => simp [frCells, ih]

structure FamF (w : World) (r : FRec) : Prop where
  l : w.ownsRow 0 56 4 r.l r.len (fillF r.m r.len)
  a : w.ownsRow 0 56 4 r.a (r.len + 1) (fillF r.m (r.len + 1))
  b : w.ownsRow 0 56 4 r.b (r.len + 2) (fillF r.m (r.len + 2))
  c : w.ownsRow 0 56 4 r.c (r.len + 3) (fillF r.m (r.len + 3))

theorem FamF.chg {S : Nat → Prop} {w w' : World} {r : FRec} (h : FamF w r) (hc : Chg S w w') (hs : ∀ v ∈ [r.l, r.a, r.b, r.c], ∀ k, v.ownBlock = some k → ¬ S k) : FamF w' r :=
  ⟨owns_chg h.l hc (hs _ (by simp)), owns_chg h.a hc (hs _ (by simp)), owns_chg h.b hc (hs _ (by simp)), owns_chg h.c hc (hs _ (by simp))⟩

theorem recCells_get {rs : List RecB} {k : Nat} (h : k < rs.length) : (recCells rs)[k * 5]? = some rs[k].l ∧ (recCells rs)[k * 5 + 1]? = some rs[k].a ∧ (recCells rs)[k * 5 + 2]? = some rs[k].b ∧ (recCells rs)[k * 5 + 3]? = some rs[k].c ∧ (recCells rs)[k * 5 + 4]? = some (.int .i64 rs[k].n) := by
  induction rs generalizing k with
  | nil => simp at h
  | cons p r ih =>
    cases k with
    | zero => simp [recCells]
    | succ k =>
      simp only [List.length_cons] at h
      have := ih (k := k) (by omega)
      rw [Nat.succ_mul]
      simpa [recCells, Nat.add_assoc] using this
theorem frCells_get {rs : List FRec} {k : Nat} (h : k < rs.length) : (frCells rs)[k * 5]? = some rs[k].l ∧ (frCells rs)[k * 5 + 1]? = some rs[k].a ∧ (frCells rs)[k * 5 + 2]? = some rs[k].b ∧ (frCells rs)[k * 5 + 3]? = some rs[k].c ∧ (frCells rs)[k * 5 + 4]? = some (.int .i64 rs[k].m) := by
  induction rs generalizing k with
  | nil => simp at h
  | cons p r ih =>
    cases k with
    | zero => simp [frCells]
    | succ k =>
      simp only [List.length_cons] at h
      have := ih (k := k) (by omega)
      rw [Nat.succ_mul]
      simpa [frCells, Nat.add_assoc] using this

/-- The books, as they lie in a World. -/
structure BkS (w : World) (b : Nat) (cs : Array Value) (kv fv : Value) (recs : List RecB) (frs : List FRec) : Prop where
  blk : w.heap[b]? = some (.cells cs 46 (0, 0))
  c9 : cs[9]? = some kv
  c10 : cs[10]? = some (.slice none 0 0)
  c11 : cs[11]? = some (.slice none 0 0)
  c12 : cs[12]? = some fv
  c13 : cs[13]? = some (.slice none 0 0)
  rowB : w.ownsRow 0 65 5 kv recs.length (recCells recs)
  rowF : w.ownsRow 0 75 5 fv frs.length (frCells frs)
  famB : ∀ r ∈ recs, FamB w r
  famF : ∀ r ∈ frs, FamF w r
  okB : ∀ r ∈ recs, r.n ≤ 1099511627776 ∧ r.len ≤ 4294967296
  okF : ∀ r ∈ frs, r.len ≤ 1073741824

/-- What a call that makes new memory alone leaves of the books. -/
theorem BkS.below {w w' : World} {b : Nat} {cs : Array Value} {kv fv : Value} {recs : List RecB} {frs : List FRec} (h : BkS w b cs kv fv recs frs) (hb : Below w.heap.size w w') : BkS w' b cs kv fv recs frs := by
  have hc : Chg (fun _ => False) w w' := Chg.of_below hb
  exact ⟨by rw [hb.block b (lt_of_block h.blk)]; exact h.blk, h.c9, h.c10, h.c11, h.c12, h.c13, owns_chg h.rowB hc (fun _ _ => id), owns_chg h.rowF hc (fun _ _ => id), fun r hr => (h.famB r hr).chg hc (fun _ _ _ _ => id), fun r hr => (h.famF r hr).chg hc (fun _ _ _ _ => id), h.okB, h.okF⟩

theorem told_kept {w w' : World} {b : Nat} {cs : Array Value} {t : TypeId} {fr : Nat × Nat} (h : w.heap[b]? = some (.cells cs t fr)) (hb : Below w.heap.size w w') : w'.heap[b]? = some (.cells cs t fr) := by
  rw [hb.block b (lt_of_block h)]; exact h

theorem bytes_of_marks {w : World} {v : Value} {n k : Nat} (h : w.ownsRow 0 5 1 v k ((marks n k).map B)) : BytesIn w v (marks n k) := bytesIn_of_owns h (marks_length n k).symm

set_option maxRecDepth 100000 in
set_option maxHeartbeats 6400000 in
theorem whole_true (b : Nat) (cs : Array Value) (kv fv : Value) (recs : List RecB) (frs : List FRec) (w : World) (h : BkS w b cs kv fv recs frs) (hn : recs.length ≤ 268435456) (hf : frs.length ≤ 268435456) :
    Calls Tryz.prog 9 #[.pointer (some ⟨b, 9, none⟩)] w fun e w' => e = .returned (.bool true) ∧ Below w.heap.size w w' := by
  have H := hide h
  obtain ⟨sk, ck, rfl⟩ := slice_len h.rowB
  obtain ⟨sf, cf, rfl⟩ := slice_len h.rowF
  have hblt := lt_of_block h.blk
  have g9 : w.cell? ⟨b, 9, none⟩ = some (.slice sk recs.length ck) := by rw [cell_of_row w b _ _ _ _ h.blk]; exact h.c9
  have g10 : w.cell? ⟨b, 10, none⟩ = some (.slice none 0 0) := by rw [cell_of_row w b _ _ _ _ h.blk]; exact h.c10
  have g11 : w.cell? ⟨b, 11, none⟩ = some (.slice none 0 0) := by rw [cell_of_row w b _ _ _ _ h.blk]; exact h.c11
  have g12 : w.cell? ⟨b, 12, none⟩ = some (.slice sf frs.length cf) := by rw [cell_of_row w b _ _ _ _ h.blk]; exact h.c12
  have g13 : w.cell? ⟨b, 13, none⟩ = some (.slice none 0 0) := by rw [cell_of_row w b _ _ _ _ h.blk]; exact h.c13
  clear h
  go_enter Tryz.func9, Tryz.ntmps9
  go_wp2
  go_loopw [3, 4] (fun ok i wr => ∃ k : Nat, k ≤ recs.length ∧ ok = .bool true ∧ i = .int .i64 k ∧ Below w.heap.size w wr) (fun _ i _ => recs.length - (intOf i).toNat)
  case atStart => exact ⟨0, Nat.zero_le _, rfl, rfl, Below.refl _ _⟩
  case round =>
    obtain ⟨k, hk, rfl, rfl, hbel⟩ := hrel
    have d9 := (hbel.cell (p := ⟨b, 9, none⟩) hblt).trans g9
    by_cases hlt : k < recs.length
    · obtain ⟨g, hg, hck⟩ := slice_some H.out.rowB (by omega)
      subst hg
      obtain ⟨r, hr⟩ : ∃ r, r = recs[k] := ⟨_, rfl⟩
      have hrm : r ∈ recs := by rw [hr]; exact List.getElem_mem _
      have hgl : g < w.heap.size := owns_lt H.out.rowB rfl
      obtain ⟨e0, e1, e2, e3, e4⟩ := recCells_get hlt
      rw [← hr] at e0 e1 e2 e3 e4
      have hrow := H.out.rowB
      have c0 : wr.cell? ⟨g, k * 5, none⟩ = some r.l := (hbel.cell (p := ⟨g, k * 5, none⟩) hgl).trans (by rw [hrow.cellAt _ (by omega)]; exact e0)
      have c1 : wr.cell? ⟨g, k * 5 + 1, none⟩ = some r.a := (hbel.cell (p := ⟨g, k * 5 + 1, none⟩) hgl).trans (by rw [hrow.cellAt _ (by omega)]; exact e1)
      have c2 : wr.cell? ⟨g, k * 5 + 2, none⟩ = some r.b := (hbel.cell (p := ⟨g, k * 5 + 2, none⟩) hgl).trans (by rw [hrow.cellAt _ (by omega)]; exact e2)
      have c3 : wr.cell? ⟨g, k * 5 + 3, none⟩ = some r.c := (hbel.cell (p := ⟨g, k * 5 + 3, none⟩) hgl).trans (by rw [hrow.cellAt _ (by omega)]; exact e3)
      have c4 : wr.cell? ⟨g, k * 5 + 4, none⟩ = some (.int .i64 r.n) := (hbel.cell (p := ⟨g, k * 5 + 4, none⟩) hgl).trans (by rw [hrow.cellAt _ (by omega)]; exact e4)
      have hfam := H.out.famB r hrm
      obtain ⟨hrn, hrl⟩ := H.out.okB r hrm
      obtain ⟨rl, ra, rb, rc, rn, rlen⟩ := r
      simp only at c0 c1 c2 c3 c4 hrn hrl
      have m1 : w.ownsRow 0 5 1 rl rlen ((marks rn rlen).map B) := hfam.l
      have m2 : w.ownsRow 0 5 1 ra (rlen + 1) ((marks rn (rlen + 1)).map B) := hfam.a
      have m3 : w.ownsRow 0 5 1 rb (rlen + 2) ((marks rn (rlen + 2)).map B) := hfam.b
      have m4 : w.ownsRow 0 5 1 rc (rlen + 3) ((marks rn (rlen + 3)).map B) := hfam.c
      clear hfam
      obtain ⟨s1, q1, rfl⟩ := slice_len m1
      obtain ⟨s2, q2, rfl⟩ := slice_len m2
      obtain ⟨s3, q3, rfl⟩ := slice_len m3
      obtain ⟨s4, q4, rfl⟩ := slice_len m4
      have K1 : Hid (∀ w', Below w.heap.size w w' → BytesIn w' (.slice s1 rlen q1) (marks rn rlen)) := fun w' hb' => bytes_of_marks (owns_chg m1 (Chg.of_below (S := fun _ => False) hb') (fun _ _ => id))
      have K2 : Hid (∀ w', Below w.heap.size w w' → BytesIn w' (.slice s2 (rlen + 1) q2) (marks rn (rlen + 1))) := fun w' hb' => bytes_of_marks (owns_chg m2 (Chg.of_below (S := fun _ => False) hb') (fun _ _ => id))
      have K3 : Hid (∀ w', Below w.heap.size w w' → BytesIn w' (.slice s3 (rlen + 2) q3) (marks rn (rlen + 2))) := fun w' hb' => bytes_of_marks (owns_chg m3 (Chg.of_below (S := fun _ => False) hb') (fun _ _ => id))
      have K4 : Hid (∀ w', Below w.heap.size w w' → BytesIn w' (.slice s4 (rlen + 3) q4) (marks rn (rlen + 3))) := fun w' hb' => bytes_of_marks (owns_chg m4 (Chg.of_below (S := fun _ => False) hb') (fun _ _ => id))
      have hbA : Below w.heap.size w (wr.alloc (.cells #[.slice s1 rlen q1, .slice s2 (rlen + 1) q2, .slice s3 (rlen + 2) q3, .slice s4 (rlen + 3) q4, .int .i64 rn] 65)) := hbel.alloc hbel.size _
      have HBA := hide hbA
      clear hbA m1 m2 m3 m4 e0 e1 e2 e3 e4 hr hrm hrow H g9 g10 g11 g12 g13
      have hx0 := heap_alloc_new wr (.cells #[.slice s1 rlen q1, .slice s2 (rlen + 1) q2, .slice s3 (rlen + 2) q3, .slice s4 (rlen + 3) q4, .int .i64 rn] 65)
      have HX0 := hide hx0
      clear hx0
      go_wp2_with fail
      refine (marked_true (.slice s1 rlen q1) rn rlen _ (K1.out _ HBA.out) (by omega) (by omega)).mono ?_
      rintro e w1 ⟨rfl, hb1⟩
      have hB1 := hide (HBA.out.trans (hb1.mono HBA.out.size))
      have HX1 := hide (told_kept HX0.out hb1)
      obtain ⟨a0, a1, a2, a3, a4, -⟩ := lists_block HX1.out
      clear hb1 c0 c1 c2 c3 c4 d9
      go_wp2_with fail
      refine (marked_true (.slice s2 (rlen + 1) q2) rn (rlen + 1) _ (K2.out _ hB1.out) (by omega) (by omega)).mono ?_
      rintro e w2 ⟨rfl, hb2⟩
      have hB2 := hide (hB1.out.trans (hb2.mono hB1.out.size))
      have HX2 := hide (told_kept HX1.out hb2)
      obtain ⟨b0, b1, b2, b3, b4, -⟩ := lists_block HX2.out
      clear hb2 a0 a1 a2 a3 a4
      go_wp2_with fail
      refine (marked_true (.slice s3 (rlen + 2) q3) rn (rlen + 2) _ (K3.out _ hB2.out) (by omega) (by omega)).mono ?_
      rintro e w3 ⟨rfl, hb3⟩
      have hB3 := hide (hB2.out.trans (hb3.mono hB2.out.size))
      have HX3 := hide (told_kept HX2.out hb3)
      obtain ⟨y0, y1, y2, y3, y4, -⟩ := lists_block HX3.out
      clear hb3 b0 b1 b2 b3 b4
      go_wp2_with fail
      refine (marked_true (.slice s4 (rlen + 3) q4) rn (rlen + 3) _ (K4.out _ hB3.out) (by omega) (by omega)).mono ?_
      rintro e w4 ⟨rfl, hb4⟩
      have hB4 := hide (hB3.out.trans (hb4.mono hB3.out.size))
      clear hb4 y0 y1 y2 y3 y4
      go_wp2
      go_roundw
      case rel => exact ⟨k + 1, by omega, rfl, by go_num, hB4.out⟩
      case measure => simp [intOf]; omega
    · have d10 := (hbel.cell (p := ⟨b, 10, none⟩) hblt).trans g10
      have d11 := (hbel.cell (p := ⟨b, 11, none⟩) hblt).trans g11
      have d12 := (hbel.cell (p := ⟨b, 12, none⟩) hblt).trans g12
      have d13 := (hbel.cell (p := ⟨b, 13, none⟩) hblt).trans g13
      clear g9 g10 g11 g12 g13
      go_wp2
      refine wp_loop_rounds 1 ?_
      rw [rounds_succ]
      go_wp2
      refine wp_loop_rounds 1 ?_
      rw [rounds_succ]
      go_wp2
      obtain ⟨w0, hw0⟩ : ∃ w0, w0 = wr := ⟨_, rfl⟩
      have hblt0 : b < w0.heap.size := by rw [hw0]; have := hbel.size; omega
      have hbel0 : Below w.heap.size w w0 := by rw [hw0]; exact hbel
      rw [← hw0] at d9 d10 d11 d12 d13 ⊢
      clear hbel hw0 d9 d10 d11
      go_loopw [3, 10] (fun ok i wr => ∃ k : Nat, k ≤ frs.length ∧ ok = .bool true ∧ i = .int .i64 k ∧ Below w0.heap.size w0 wr) (fun _ i _ => frs.length - (intOf i).toNat)
      case atStart => exact ⟨0, Nat.zero_le _, rfl, rfl, Below.refl _ _⟩
      case round =>
        obtain ⟨j, hj, rfl, rfl, hbj⟩ := hrel
        have d12' := (hbj.cell (p := ⟨b, 12, none⟩) hblt0).trans d12
        have d13' := (hbj.cell (p := ⟨b, 13, none⟩) hblt0).trans d13
        clear d12 d13
        have hbw := hbel0.trans (hbj.mono hbel0.size)
        by_cases hjl : j < frs.length
        · obtain ⟨g, hg, hck⟩ := slice_some H.out.rowF (by omega)
          subst hg
          obtain ⟨r, hr⟩ : ∃ r, r = frs[j] := ⟨_, rfl⟩
          have hrm : r ∈ frs := by rw [hr]; exact List.getElem_mem _
          have hgl : g < w.heap.size := owns_lt H.out.rowF rfl
          obtain ⟨e0, e1, e2, e3, e4⟩ := frCells_get hjl
          rw [← hr] at e0 e1 e2 e3 e4
          have hrow := H.out.rowF
          have c0 : wr.cell? ⟨g, j * 5, none⟩ = some r.l := (hbw.cell (p := ⟨g, j * 5, none⟩) hgl).trans (by rw [hrow.cellAt _ (by omega)]; exact e0)
          have c1 : wr.cell? ⟨g, j * 5 + 1, none⟩ = some r.a := (hbw.cell (p := ⟨g, j * 5 + 1, none⟩) hgl).trans (by rw [hrow.cellAt _ (by omega)]; exact e1)
          have c2 : wr.cell? ⟨g, j * 5 + 2, none⟩ = some r.b := (hbw.cell (p := ⟨g, j * 5 + 2, none⟩) hgl).trans (by rw [hrow.cellAt _ (by omega)]; exact e2)
          have c3 : wr.cell? ⟨g, j * 5 + 3, none⟩ = some r.c := (hbw.cell (p := ⟨g, j * 5 + 3, none⟩) hgl).trans (by rw [hrow.cellAt _ (by omega)]; exact e3)
          have c4 : wr.cell? ⟨g, j * 5 + 4, none⟩ = some (.int .i64 r.m) := (hbw.cell (p := ⟨g, j * 5 + 4, none⟩) hgl).trans (by rw [hrow.cellAt _ (by omega)]; exact e4)
          have hfam := H.out.famF r hrm
          have hrl := H.out.okF r hrm
          obtain ⟨rl, ra, rb, rc, rm, rlen⟩ := r
          simp only at c0 c1 c2 c3 c4 hrl
          have m1 : w.ownsRow 0 56 4 rl rlen (fillF rm rlen) := hfam.l
          have m2 : w.ownsRow 0 56 4 ra (rlen + 1) (fillF rm (rlen + 1)) := hfam.a
          have m3 : w.ownsRow 0 56 4 rb (rlen + 2) (fillF rm (rlen + 2)) := hfam.b
          have m4 : w.ownsRow 0 56 4 rc (rlen + 3) (fillF rm (rlen + 3)) := hfam.c
          clear hfam
          obtain ⟨s1, q1, rfl⟩ := slice_len m1
          obtain ⟨s2, q2, rfl⟩ := slice_len m2
          obtain ⟨s3, q3, rfl⟩ := slice_len m3
          obtain ⟨s4, q4, rfl⟩ := slice_len m4
          have hbA : Below w.heap.size w (wr.alloc (.cells #[.slice s1 rlen q1, .slice s2 (rlen + 1) q2, .slice s3 (rlen + 2) q3, .slice s4 (rlen + 3) q4, .int .i64 rm] 75)) := hbw.alloc hbw.size _
          have K1 := hide (owns_chg m1 (Chg.of_below (S := fun _ => False) hbA) (fun _ _ => id))
          have K2 := hide (owns_chg m2 (Chg.of_below (S := fun _ => False) hbA) (fun _ _ => id))
          have K3 := hide (owns_chg m3 (Chg.of_below (S := fun _ => False) hbA) (fun _ _ => id))
          have K4 := hide (owns_chg m4 (Chg.of_below (S := fun _ => False) hbA) (fun _ _ => id))
          have HBJ := hide (hbj.alloc hbj.size (.cells #[.slice s1 rlen q1, .slice s2 (rlen + 1) q2, .slice s3 (rlen + 2) q3, .slice s4 (rlen + 3) q4, .int .i64 rm] 75))
          clear hbA m1 m2 m3 m4 e0 e1 e2 e3 e4 hr hrm hrow H hbw hbj
          go_wp2_with fail
          refine (allFrames_true (.slice s1 rlen q1) rm rlen _ K1.out (by omega)).mono ?_
          rintro e w1 ⟨rfl, hw1⟩
          rw [hw1]
          clear hw1 w1
          go_wp2_with fail
          refine (allFrames_true (.slice s2 (rlen + 1) q2) rm (rlen + 1) _ K2.out (by omega)).mono ?_
          rintro e w2 ⟨rfl, hw1⟩
          rw [hw1]
          clear hw1 w2
          go_wp2_with fail
          refine (allFrames_true (.slice s3 (rlen + 2) q3) rm (rlen + 2) _ K3.out (by omega)).mono ?_
          rintro e w3 ⟨rfl, hw1⟩
          rw [hw1]
          clear hw1 w3
          go_wp2_with fail
          refine (allFrames_true (.slice s4 (rlen + 3) q4) rm (rlen + 3) _ K4.out (by omega)).mono ?_
          rintro e w4 ⟨rfl, hw1⟩
          rw [hw1]
          clear hw1 w4
          go_wp2
          go_roundw
          case rel => exact ⟨j + 1, by omega, rfl, by go_num, HBJ.out⟩
          case measure => simp [intOf]; omega
        · go_wp2
          refine wp_loop_rounds 1 ?_
          rw [rounds_succ]
          go_wp2
          go_ret
          exact ⟨rfl, hbw⟩
end Go.Proofs.YtghongdbohjaaaaGreatDoor
/-
  What stands of a script's world between two steps of Writes.
-/
namespace Go.Proofs.YtghongdbohjaaaaGreatDoor
open Go.RowKit

/-- A list of frames, as an argument. -/
structure FsIn (w : World) (sa : Option Addr) (qs : List (Fr × Value)) : Prop where
  cell : ∀ k (h : k < qs.length), ∃ fb off, sa = some ⟨fb, off, none⟩ ∧ fb < w.heap.size ∧ w.cell? ⟨fb, off + k * 4, none⟩ = some (.int .i64 qs[k].1.kind) ∧ w.cell? ⟨fb, off + k * 4 + 1, none⟩ = some (.int .i64 qs[k].1.flags) ∧
    w.cell? ⟨fb, off + k * 4 + 2, none⟩ = some (.int .i64 qs[k].1.stream) ∧ w.cell? ⟨fb, off + k * 4 + 3, none⟩ = some qs[k].2
  body : ∀ q ∈ qs, BytesA w q.2 q.1.body
  len : ∀ q ∈ qs, q.1.body.length ≤ 4194304

theorem FsIn.below {w w' : World} {sa : Option Addr} {qs : List (Fr × Value)} (h : FsIn w sa qs) (hb : Below w.heap.size w w') : FsIn w' sa qs := by
  refine ⟨fun k hk => ?_, fun q hq => (h.body q hq).chg (Chg.of_below hb), h.len⟩
  obtain ⟨fb, off, hs, hl, a, b, c, d⟩ := h.cell k hk
  exact ⟨fb, off, hs, Nat.lt_of_lt_of_le hl hb.size, (hb.cell (p := ⟨fb, off + k * 4, none⟩) hl).trans a, (hb.cell (p := ⟨fb, off + k * 4 + 1, none⟩) hl).trans b, (hb.cell (p := ⟨fb, off + k * 4 + 2, none⟩) hl).trans c, (hb.cell (p := ⟨fb, off + k * 4 + 3, none⟩) hl).trans d⟩

/-- The cells of a World of the law. -/
abbrev lw (gF gH gC gS rv kv fv : Value) : Array Value := #[gF, gH, gC, gS, rv, .slice none 0 0, .slice none 0 0, .slice none 0 0, .slice none 0 0, kv, .slice none 0 0, .slice none 0 0, fv, .slice none 0 0]

structure WInv (W0 V0 w : World) (b : Nat) (gF gH gC gS kv : Value) (recs : List RecB) : Prop where
  bk : BkS w b (lw gF gH gC gS (.slice none 0 0) kv (.slice none 0 0)) kv (.slice none 0 0) recs []
  kvV : ∀ j, kv.ownBlock = some j → V0.heap.size ≤ j
  b0 : W0.heap.size ≤ b
  belV : Below W0.heap.size W0 V0
  chV : Chg (fun j => j = b) V0 w

theorem WInv.below {W0 V0 w w' : World} {b : Nat} {gF gH gC gS kv : Value} {recs : List RecB} (h : WInv W0 V0 w b gF gH gC gS kv recs) (hb : Below w.heap.size w w') : WInv W0 V0 w' b gF gH gC gS kv recs :=
  ⟨h.bk.below hb, h.kvV, h.b0, h.belV, h.chV.then_below hb⟩

theorem below_of_chg {S : Nat → Prop} {W0 w w' : World} (h : Below W0.heap.size W0 w) (hc : Chg S w w') (hs : ∀ j, S j → W0.heap.size ≤ j) : Below W0.heap.size W0 w' :=
  ⟨hc.os.trans h.os, hc.tape.trans h.tape, hc.output.trans h.output, Nat.le_trans h.size hc.size, fun k hk => by
    rw [hc.block k (Nat.lt_of_lt_of_le hk h.size) (fun e => absurd (hs k e) (Nat.not_le.2 hk))]; exact h.block k hk⟩

theorem WInv.bel {W0 V0 w : World} {b : Nat} {gF gH gC gS kv : Value} {recs : List RecB} (h : WInv W0 V0 w b gF gH gC gS kv recs) : Below W0.heap.size W0 w :=
  below_of_chg h.belV h.chV fun j e => by rw [e]; exact h.b0
theorem WInv.kv0 {W0 V0 w : World} {b : Nat} {gF gH gC gS kv : Value} {recs : List RecB} (h : WInv W0 V0 w b gF gH gC gS kv recs) : ∀ j, kv.ownBlock = some j → W0.heap.size ≤ j :=
  fun j e => Nat.le_trans h.belV.size (h.kvV j e)

theorem winv_next {W0 V0 w w5 w6 w7 : World} {b g base len : Nat} {gF gH gC gS kv lv : Value} {recs : List RecB} {xs : List Value} (h : WInv W0 V0 w b gF gH gC gS kv recs) (hn : recs.length ≤ 1099511627776) (hlen : len ≤ 4294967296) (h5 : Below w.heap.size w w5)
    (hv : w5.ownsRow base 5 1 lv len xs) (hgw : w.heap.size ≤ g) (hgb : g < base) (hb5 : base ≤ w5.heap.size) (hk : KeptB w5 w6 b (lw gF gH gC gS (.slice none 0 0) kv (.slice none 0 0)) kv lv recs len) (h7 : Chg (fun k => k = g) w6 w7) :
    ∃ kv' r, WInv W0 V0 w7 b gF gH gC gS kv' (recs ++ [r]) := by
  obtain ⟨kv', r, hb6, hrow6, hrl, hrn, hrlen, hfam, hsep, hch, hkv'⟩ := hk
  have hblt : b < w.heap.size := lt_of_block h.bk.blk
  have hlvb : ∀ j, lv.ownBlock = some j → base ≤ j := fun j hj => (hv.lt j hj).1
  have h6 : Chg (fun j => j = b ∨ kv.ownBlock = some j) w w6 := (Chg.of_below h5).trans (hch.mono (fun j _ hj => by
    rcases hj with e | e | e
    · exact Or.inr (Or.inl e)
    · exact Or.inr (Or.inr e)
    · have := hlvb j e; left; omega))
  have hc : Chg (fun j => j = b ∨ kv.ownBlock = some j) w w7 := h6.trans (h7.mono (fun j _ e => by left; omega))
  have hkg : ∀ j, kv'.ownBlock = some j → ¬ j = g := by
    intro j hj e
    rcases hkv' j hj with a | a
    · have := owns_lt h.bk.rowB a; omega
    · omega
  have hrg : ∀ u ∈ [r.l, r.a, r.b, r.c], ∀ j, u.ownBlock = some j → ¬ j = g := by
    intro u hu j hj e
    rcases hsep u hu j hj with a | a
    · have := hlvb j a; omega
    · omega
  have sep : ∀ u k ys, w.ownsRow 0 5 1 u k ys → ∀ j, u.ownBlock = some j → ¬ (j = b ∨ kv.ownBlock = some j) := by
    rintro u k ys hu j hj (rfl | e)
    · exact owns_ne hu h.bk.blk (by decide) hj
    · exact rows_ne h.bk.rowB hu (by decide) e hj
  refine ⟨kv', r, ⟨⟨?_, rfl, rfl, rfl, rfl, rfl, owns_chg hrow6 h7 hkg, World.ownsRow_nil _ _ _ _, ?_, by simp, ?_, by simp⟩, ?_, h.b0, h.belV, ?_⟩⟩
  · rw [h7.block b (by have := h6.size; omega) (by omega), hb6]
    rfl
  · intro r' hr'
    rcases List.mem_append.1 hr' with hr' | hr'
    · have hf := h.bk.famB r' hr'
      refine hf.chg hc fun u hu => ?_
      simp only [List.mem_cons, List.not_mem_nil, or_false] at hu
      rcases hu with rfl | rfl | rfl | rfl
      · exact sep _ _ _ hf.l
      · exact sep _ _ _ hf.a
      · exact sep _ _ _ hf.b
      · exact sep _ _ _ hf.c
    · simp only [List.mem_cons, List.not_mem_nil, or_false] at hr'
      subst hr'
      exact hfam.chg h7 hrg
  · intro r' hr'
    rcases List.mem_append.1 hr' with hr' | hr'
    · exact h.bk.okB r' hr'
    · simp only [List.mem_cons, List.not_mem_nil, or_false] at hr'
      subst hr'
      rw [hrn, hrlen]
      exact ⟨hn, hlen⟩
  · intro j hj
    rcases hkv' j hj with a | a
    · exact h.kvV j a
    · have h1 := h.chV.size
      have h2 := h5.size
      omega
  · exact h.chV.trans (hc.mono fun j _ e => by
      rcases e with e | e
      · exact Or.inr e
      · exact Or.inl (h.kvV j e))
end Go.Proofs.YtghongdbohjaaaaGreatDoor
/-
  sluicelaw: opening, known.
-/
namespace Go.Proofs.YtghongdbohjaaaaGreatDoor
open Go.RowKit

theorem heap_at {w : World} {o : Obj} {k : Nat} (h : w.heap.size = k) : (w.alloc o).heap[k]? = some o := by
  subst h
  show (w.heap.push o)[w.heap.size]? = _
  simp
theorem heap_in {w : World} {o o2 : Obj} {k : Nat} (hk : k < w.heap.size) (h : w.heap[k]? = some o2) : (w.alloc o).heap[k]? = some o2 := by rw [Below.heap_alloc _ _ _ hk]; exact h

/-- A step of a script. -/
structure OpV where
  k : Int
  a : Int
  b : Int
  c : Int
  s : ByteArray

def opCells : List OpV → List Value
  | [] => []
  | o :: r => [.int .i64 o.k, .int .i64 o.a, .int .i64 o.b, .int .i64 o.c, .string o.s] ++ opCells r

/-- The document's examples, as a script. -/
def openOps : List OpV := [⟨1, 0, 0, 0, ⟨#[]⟩⟩, ⟨2, 0, 0, 0, ⟨#[]⟩⟩, ⟨3, 0, 0, 0, ⟨#[0, 2, 0, 1, 0, 1, 104, 105]⟩⟩, ⟨4, 128, 0, 0, ⟨#[]⟩⟩, ⟨6, 0, 0, 0, ⟨#[]⟩⟩, ⟨7, 0, 0, 0, ⟨#[]⟩⟩, ⟨8, 128, 0, 0, ⟨#[]⟩⟩,
  ⟨9, 0, 0, 0, ⟨#[129, 71, 130, 2, 31]⟩⟩, ⟨11, 0, 0, 0, ⟨#[]⟩⟩, ⟨12, 0, 0, 0, ⟨#[]⟩⟩, ⟨13, 0, 0, 0, ⟨#[]⟩⟩, ⟨14, 0, 1, 0, ⟨#[104, 105]⟩⟩, ⟨20, 0, 1000, 0, ⟨#[]⟩⟩, ⟨27, 0, 0, 0, ⟨#[]⟩⟩]

set_option maxRecDepth 100000 in
set_option maxHeartbeats 6400000 in
theorem opening_any (w : World) :
    Calls Tryz.prog 7 #[] w fun e w' => e = .returned (.slice (some ⟨w.heap.size, 0, none⟩) 14 14) ∧ w' = w.alloc (.cells (opCells openOps).toArray 49) := by
  go_enter Tryz.func7, Tryz.ntmps7
  go_wp2
  go_ret
  exact ⟨rfl, rfl⟩

set_option maxRecDepth 100000 in
set_option maxHeartbeats 6400000 in
theorem known_any (w : World) :
    Calls Tryz.prog 6 #[] w fun e w' => e = .returned (.agg #[.slice (some ⟨w.heap.size + 6, 0, none⟩) 1 1, .slice (some ⟨w.heap.size + 8, 0, none⟩) 1 1, .slice (some ⟨w.heap.size + 9, 0, none⟩) 1 1, .slice (some ⟨w.heap.size + 10, 0, none⟩) 1 1]) ∧ Below w.heap.size w w' ∧
      w'.heap[w.heap.size + 6]? = some (.cells #[.int .i64 0, .int .i64 1, .int .i64 1, .slice (some ⟨w.heap.size + 2, 0, none⟩) 2 2] 56 (0, 0)) ∧ w'.heap[w.heap.size + 2]? = some (.cells #[.int .u8 104, .int .u8 105] 5 (2, 3)) ∧
      w'.heap[w.heap.size + 8]? = some (.cells #[.slice (some ⟨w.heap.size + 7, 0, none⟩) 2 2] 57 (0, 0)) ∧ w'.heap[w.heap.size + 7]? = some (.cells #[.string ⟨#[112, 97, 116, 104]⟩, .string ⟨#[47]⟩, .string ⟨#[104, 111, 115, 116]⟩, .string ⟨#[101, 97, 116]⟩] 62 (0, 0)) := by
  have kc : ∀ (w : World) (C : Array Value) (n c k : Nat), w.heap.size = k → (convert 54 54 (.slice (some ⟨k, 0, none⟩) n c)).run Tryz.prog (w.alloc (.cells C 5)) = .ok (.slice (some ⟨k, 0, none⟩) n c) (w.alloc (.cells C 5 (C.size, C.size + 1))) := by
    intro w C n c k hk
    subst hk
    exact Lib.run_convert_bytes_const (P := Tryz.prog) w 54 5 C n c Tryz.underlying54 Tryz.underlying5
  go_enter Tryz.func6, Tryz.ntmps6
  go_wp2
  refine bodyPost_ret (v := .agg #[.slice (some ⟨w.heap.size + 6, 0, none⟩) 1 1, .slice (some ⟨w.heap.size + 8, 0, none⟩) 1 1, .slice (some ⟨w.heap.size + 9, 0, none⟩) 1 1, .slice (some ⟨w.heap.size + 10, 0, none⟩) 1 1]) ?_ rfl ⟨rfl, ?_, ?_, ?_, ?_, ?_⟩
  · simp [results, Tryz.results6, go_sem]
  · repeat (first | exact Below.refl _ _ | refine Below.alloc ?_ (by simp; try omega) _)
  · refine heap_in (by simp) (heap_in (by simp) (heap_in (by simp) (heap_in (by simp) (heap_at (by simp)))))
  · refine heap_in (by simp) (heap_in (by simp) (heap_in (by simp) (heap_in (by simp) (heap_in (by simp) (heap_in (by simp) (heap_in (by simp) (heap_in (by simp) (heap_at (by simp)))))))))
  · refine heap_in (by simp) (heap_in (by simp) (heap_at (by simp)))
  · refine heap_in (by simp) (heap_in (by simp) (heap_in (by simp) (heap_at (by simp))))
end Go.Proofs.YtghongdbohjaaaaGreatDoor
/-
  Scripts, as arguments; what a law asks of its steps.
-/
namespace Go.Proofs.YtghongdbohjaaaaGreatDoor
open Go.RowKit

theorem frame_blockT {w : World} {b : Nat} {v0 v1 v2 v3 : Value} {t : TypeId} (h : w.heap[b]? = some (.cells #[v0, v1, v2, v3] t (0, 0))) :
    w.cell? ⟨b, 0, none⟩ = some v0 ∧ w.cell? ⟨b, 1, none⟩ = some v1 ∧ w.cell? ⟨b, 2, none⟩ = some v2 ∧ w.cell? ⟨b, 3, none⟩ = some v3 ∧ ∀ o, w.frozen? ⟨b, o, none⟩ = false := by
  refine ⟨?_, ?_, ?_, ?_, fun o => by simp [World.frozen?, h]⟩ <;> rw [cell_of_row w b _ _ _ _ h] <;> rfl

def OpV.ok (o : OpV) : Prop := I64 o.k ∧ I64 o.a ∧ I64 o.b ∧ I64 o.c ∧ o.s.size ≤ 1048576

/-- A script, as it lies. -/
structure OpsIn (w : World) (sa : Option Addr) (ops : List OpV) : Prop where
  cell : ∀ k (h : k < ops.length), ∃ ob off, sa = some ⟨ob, off, none⟩ ∧ ob < w.heap.size ∧ w.cell? ⟨ob, off + k * 5, none⟩ = some (.int .i64 ops[k].k) ∧ w.cell? ⟨ob, off + k * 5 + 1, none⟩ = some (.int .i64 ops[k].a) ∧
    w.cell? ⟨ob, off + k * 5 + 2, none⟩ = some (.int .i64 ops[k].b) ∧ w.cell? ⟨ob, off + k * 5 + 3, none⟩ = some (.int .i64 ops[k].c) ∧ w.cell? ⟨ob, off + k * 5 + 4, none⟩ = some (.string ops[k].s)
  ok : ∀ o ∈ ops, o.ok

theorem OpsIn.chg {S : Nat → Prop} {w w' : World} {sa : Option Addr} {ops : List OpV} (h : OpsIn w sa ops) (hc : Chg S w w') (hs : ∀ ob off, sa = some ⟨ob, off, none⟩ → ¬ S ob) : OpsIn w' sa ops := by
  refine ⟨fun k hk => ?_, h.ok⟩
  obtain ⟨ob, off, he, hl, a, b, c, d, e⟩ := h.cell k hk
  have hn := hs ob off he
  exact ⟨ob, off, he, Nat.lt_of_lt_of_le hl hc.size, (hc.cell (p := ⟨ob, off + k * 5, none⟩) hl hn).trans a, (hc.cell (p := ⟨ob, off + k * 5 + 1, none⟩) hl hn).trans b, (hc.cell (p := ⟨ob, off + k * 5 + 2, none⟩) hl hn).trans c, (hc.cell (p := ⟨ob, off + k * 5 + 3, none⟩) hl hn).trans d, (hc.cell (p := ⟨ob, off + k * 5 + 4, none⟩) hl hn).trans e⟩
theorem OpsIn.below {w w' : World} {sa : Option Addr} {ops : List OpV} (h : OpsIn w sa ops) (hb : Below w.heap.size w w') : OpsIn w' sa ops := h.chg (Chg.of_below (S := fun _ => False) hb) (fun _ _ _ => id)

theorem opCells_get {rs : List OpV} {k : Nat} (h : k < rs.length) : (opCells rs)[k * 5]? = some (.int .i64 rs[k].k) ∧ (opCells rs)[k * 5 + 1]? = some (.int .i64 rs[k].a) ∧ (opCells rs)[k * 5 + 2]? = some (.int .i64 rs[k].b) ∧ (opCells rs)[k * 5 + 3]? = some (.int .i64 rs[k].c) ∧ (opCells rs)[k * 5 + 4]? = some (.string rs[k].s) := by
  induction rs generalizing k with
  | nil => simp at h
  | cons p r ih =>
    cases k with
    | zero => simp [opCells]
    | succ k =>
      simp only [List.length_cons] at h
      have := ih (k := k) (by omega)
      rw [Nat.succ_mul]
      simpa [opCells, Nat.add_assoc] using this

theorem opsIn_of_block {w : World} {b : Nat} {ops : List OpV} {t : TypeId} {fr : Nat × Nat} (h : w.heap[b]? = some (.cells (opCells ops).toArray t fr)) (hok : ∀ o ∈ ops, o.ok) : OpsIn w (some ⟨b, 0, none⟩) ops := by
  refine ⟨fun k hk => ⟨b, 0, rfl, lt_of_block h, ?_⟩, hok⟩
  obtain ⟨a0, a1, a2, a3, a4⟩ := opCells_get hk
  simp only [Nat.zero_add]
  exact ⟨(row_cell h).trans a0, (row_cell h).trans a1, (row_cell h).trans a2, (row_cell h).trans a3, (row_cell h).trans a4⟩

/-- What a script weighs: its steps and the bytes that they bring. -/
def wt : List OpV → Nat
  | [] => 0
  | o :: r => 1 + o.s.size + wt r
theorem wt_append (a b : List OpV) : wt (a ++ b) = wt a + wt b := by
  induction a with
  | nil => simp [wt]
  | cons o r ih => simp only [List.cons_append, wt, ih]; omega
theorem wt_next {ops : List OpV} {k : Nat} (h : k < ops.length) : wt (ops.take (k + 1)) = wt (ops.take k) + 1 + ops[k].s.size := by
  rw [List.take_succ_eq_append_getElem h, wt_append]
  simp only [wt]; omega
theorem wt_take (ops : List OpV) (k : Nat) : wt (ops.take k) ≤ wt ops := by
  have h := wt_append (ops.take k) (ops.drop k)
  rw [List.take_append_drop] at h
  omega
theorem wt_open : wt openOps ≤ 16777216 := by decide

theorem openOps_ok : ∀ o ∈ openOps, o.ok := by
  intro o ho
  simp only [openOps, List.mem_cons, List.not_mem_nil, or_false] at ho
  rcases ho with rfl | rfl | rfl | rfl | rfl | rfl | rfl | rfl | rfl | rfl | rfl | rfl | rfl | rfl <;> exact ⟨⟨by decide, by decide⟩, ⟨by decide, by decide⟩, ⟨by decide, by decide⟩, ⟨by decide, by decide⟩, by decide⟩

/-- What a law asks of its steps. -/
structure Played (lo hi : Int) (K : World → Prop) (G : World → Value → Value → Prop) (I : World → World → World → Nat → Value → Value → Value → Value → Nat → Prop) : Prop where
  kb : ∀ w w', K w → Below w.heap.size w w' → K w'
  new : ∀ W0 V0 b gF gH gC gS, V0.heap[b]? = some (.cells (lw gF gH gC gS (.slice none 0 0) (.slice none 0 0) (.slice none 0 0)) 46 (0, 0)) → W0.heap.size ≤ b → Below W0.heap.size W0 V0 → I W0 V0 V0 b gF gH gC gS 0
  below : ∀ W0 V0 w w' b gF gH gC gS m, I W0 V0 w b gF gH gC gS m → Below w.heap.size w w' → I W0 V0 w' b gF gH gC gS m
  bel : ∀ W0 V0 w b gF gH gC gS m, I W0 V0 w b gF gH gC gS m → Below W0.heap.size W0 w ∧ Chg (fun j => j = b) V0 w
  mono : ∀ W0 V0 w b gF gH gC gS m n, m ≤ n → I W0 V0 w b gF gH gC gS m → I W0 V0 w b gF gH gC gS n
  bks : ∀ W0 V0 w b gF gH gC gS m, I W0 V0 w b gF gH gC gS m → m ≤ 16777216 → Calls Tryz.prog 9 #[.pointer (some ⟨b, 9, none⟩)] w fun e w' => e = .returned (.bool true) ∧ Below w.heap.size w w'
  step : ∀ W0 V0 w b gF gH gC gS m (o : OpV), lo ≤ o.k → o.k ≤ hi → o.ok → K W0 → G W0 gF gH → m + 1 + o.s.size ≤ 16777216 → I W0 V0 w b gF gH gC gS m →
    Calls Tryz.prog 8 #[.pointer (some ⟨b, 0, none⟩), .agg #[.int .i64 o.k, .int .i64 o.a, .int .i64 o.b, .int .i64 o.c, .string o.s]] w fun e w' => e = .returned (.bool true) ∧ I W0 V0 w' b gF gH gC gS (m + 1 + o.s.size)
  known : ∀ w' n, w'.heap[n + 6]? = some (.cells #[.int .i64 0, .int .i64 1, .int .i64 1, .slice (some ⟨n + 2, 0, none⟩) 2 2] 56 (0, 0)) → w'.heap[n + 2]? = some (.cells #[.int .u8 104, .int .u8 105] 5 (2, 3)) →
    w'.heap[n + 8]? = some (.cells #[.slice (some ⟨n + 7, 0, none⟩) 2 2] 57 (0, 0)) → w'.heap[n + 7]? = some (.cells #[.string ⟨#[112, 97, 116, 104]⟩, .string ⟨#[47]⟩, .string ⟨#[104, 111, 115, 116]⟩, .string ⟨#[101, 97, 116]⟩] 62 (0, 0)) →
    G w' (.slice (some ⟨n + 6, 0, none⟩) 1 1) (.slice (some ⟨n + 8, 0, none⟩) 1 1)
end Go.Proofs.YtghongdbohjaaaaGreatDoor
/-
  Goods and scripts, as they are read from a caller's memory.
-/
namespace Go.Proofs.YtghongdbohjaaaaGreatDoor
open Go.ChangeShapes Go.WideShapes Go.ChangeAt Go.RowKit
open Go.ChangeMaps (open_string shut_string)

theorem own : ownKnob Tryz.prog.godebug = none := by kernel_rfl
theorem laidOut : laidOutB Tryz.prog = true := by kernel_rfl
theorem cellsU8 : Tryz.prog.cellsOf 5 = 1 := by kernel_rfl
theorem cellsInt : Tryz.prog.cellsOf 3 = 1 := by kernel_rfl
theorem cellsBytes : Tryz.prog.cellsOf 54 = 1 := by kernel_rfl
theorem cellsString : Tryz.prog.cellsOf 9 = 1 := by kernel_rfl
theorem cellsFrame : Tryz.prog.cellsOf 56 = 4 := by kernel_rfl
theorem cellsOp : Tryz.prog.cellsOf 49 = 5 := by kernel_rfl
theorem cellsGoods : Tryz.prog.cellsOf 27 = 4 := by kernel_rfl
theorem undFrame : ∃ n0 n1 n2 n3 : Field, Tryz.prog.underlying 56 = some (.struct #[n0, n1, n2, n3]) ∧ n0.type = 3 ∧ n1.type = 3 ∧ n2.type = 3 ∧ n3.type = 54 ∧ n0.offset = 0 ∧ n1.offset = 1 ∧ n2.offset = 2 ∧ n3.offset = 3 :=
  ⟨_, _, _, _, Tryz.underlying56, rfl, rfl, rfl, rfl, rfl, rfl, rfl, rfl⟩
theorem undOp : ∃ n0 n1 n2 n3 n4 : Field, Tryz.prog.underlying 49 = some (.struct #[n0, n1, n2, n3, n4]) ∧ n0.type = 3 ∧ n1.type = 3 ∧ n2.type = 3 ∧ n3.type = 3 ∧ n4.type = 9 ∧ n0.offset = 0 ∧ n1.offset = 1 ∧ n2.offset = 2 ∧ n3.offset = 3 ∧ n4.offset = 4 :=
  ⟨_, _, _, _, _, Tryz.underlying49, rfl, rfl, rfl, rfl, rfl, rfl, rfl, rfl, rfl, rfl⟩
theorem undGoods : ∃ n0 n1 n2 n3 : Field, Tryz.prog.underlying 27 = some (.struct #[n0, n1, n2, n3]) ∧ n0.type = 22 ∧ n1.type = 23 ∧ n2.type = 24 ∧ n3.type = 25 ∧ Deep.oneCellFields Tryz.prog #[n0, n1, n2, n3] = true :=
  ⟨_, _, _, _, Tryz.underlying27, rfl, rfl, rfl, rfl, by kernel_rfl⟩

theorem wf_i64 {n : Int} (h : (Lit.int .i64 n).wf = true) : I64 n := bounds_i64 h
theorem wf_u8 {n : Int} (h : (Lit.int .u8 n).wf = true) : 0 ≤ n ∧ n ≤ 255 := bounds_u8 h

section
variable {H : Type}
theorem bulk_one (d : DataW H) : 1 ≤ Rows.uptoBulk d := by
  cases d with
  | lit l => cases l <;> simp [Rows.uptoBulk]
  | nil => simp [Rows.uptoBulk]
  | ptr d => simp [Rows.uptoBulk]
  | slice elems spare => simp [Rows.uptoBulk]
  | agg parts => simp [Rows.uptoBulk]
  | iface t d => simp [Rows.uptoBulk]
  | map entries => simp [Rows.uptoBulk]
  | held h => simp [Rows.uptoBulk]
theorem bulk_length (l : List (DataW H)) : l.length ≤ Rows.uptoBulkAll l := by
  induction l with
  | nil => simp [Rows.uptoBulkAll]
  | cons x r ih => have := bulk_one x; simp only [Rows.uptoBulkAll, List.length_cons]; omega
theorem bulk_mem {l : List (DataW H)} {d : DataW H} (h : d ∈ l) : Rows.uptoBulk d ≤ Rows.uptoBulkAll l := by
  induction l with
  | nil => simp at h
  | cons x r ih =>
    simp only [Rows.uptoBulkAll]
    rcases List.mem_cons.1 h with rfl | h
    · omega
    · have := ih h; omega
theorem slice_bulk (elems spare : List (DataW H)) : elems.length + spare.length + 1 ≤ Rows.uptoBulk (.slice elems spare) := by
  have h1 := bulk_length elems
  have h2 := bulk_length spare
  simp only [Rows.uptoBulk]
  omega
end

section
variable {H : Type} {enc : TypeId × Value → H} {W : World}

/-- A slice of bytes, as it reads. -/
theorem open_bytes {fuel : Nat} {v : Value} {x : DataW H × List MemPlace} (h : DataW.trod enc Tryz.prog W 0 (fun _ => true) true fuel 54 [v] = some x) : ∃ body, BytesA W v body ∧ body.length ≤ Rows.uptoBulk x.1 := by
  rcases open_ints Tryz.underlying54 Tryz.underlying5 cellsU8 h with ⟨hcs, _⟩ | ⟨a, len, cap, zs, hcs, _, hl, hm, hz, hx, hcell, hwz⟩
  · simp at hcs
    exact ⟨[], Or.inl (Or.inl ⟨hcs, rfl⟩), by simp⟩
  · simp at hcs
    subst hcs
    simp only [if_true] at hz
    by_cases h0 : cap = 0
    · have hl0 : len = 0 := by omega
      subst hl0
      subst h0
      exact ⟨[], Or.inr ⟨a, rfl, rfl⟩, by simp⟩
    · have hc0 := hcell 0 (by omega)
      obtain ⟨b, off, spot⟩ := a
      have hspot : spot = none := by simpa [Addr.add] using World.cell?_spot hc0
      subst hspot
      have hb : b < W.heap.size := by
        have := World.block_lt_of_cell? W _ hc0
        simpa [Addr.add] using this
      refine ⟨(zs.take len).map ofI, Or.inl (Or.inr ⟨b, off, cap, by simp; omega, hb, by simp; omega, fun i hi => ?_⟩), ?_⟩
      · simp at hi
        have hc := hcell i (by omega)
        have e : (⟨b, off, none⟩ : Addr).add i = ⟨b, off + i, none⟩ := by unfold Addr.add; split <;> simp_all
        rw [e] at hc
        rw [hc]
        have hi2 : i < zs.length := by omega
        have hi1 : i < len := by omega
        obtain ⟨h1, h2⟩ := wf_u8 (hwz (zs.getD i 0) (by rw [getD_lt _ _ _ hi2]; exact List.getElem_mem _))
        have e2 : ((zs.take len).map ofI).getD i 0 = ofI (zs.getD i 0) := by simp [List.getD, hi1, hi2]
        rw [e2, ofI_toNat h1 h2]
      · rw [hx]
        have hsb := slice_bulk (H := H) (lits .u8 (zs.take len)) (lits .u8 (zs.drop len))
        have hl1 : (lits (H := H) .u8 (zs.take len)).length = (zs.take len).length := by simp [lits]
        rw [hl1] at hsb
        simp only [List.length_map]
        omega

set_option maxRecDepth 100000 in
/-- A list of frames, as it reads. -/
theorem open_frames {fuel : Nat} {sa : Option Addr} {len cap : Nat} {x : DataW H × List MemPlace} (h : DataW.trod enc Tryz.prog W 0 (fun _ => true) true fuel 22 [.slice sa len cap] = some x) (hb : Rows.uptoBulk x.1 ≤ 1048576) :
    ∃ qs : List (Fr × Value), qs.length = len ∧ len ≤ 1048576 ∧ FsIn W sa qs := by
  rcases Deep.open_slice Tryz.underlying22 h with ⟨hcs, _⟩ | ⟨a, len', cap', m, n, D, Pl, hcs, _, hl, hmx, hm, hx, hel⟩
  · simp at hcs
    obtain ⟨rfl, rfl, rfl⟩ := hcs
    exact ⟨[], rfl, by omega, ⟨fun k hk => by simp at hk, by simp, by simp⟩⟩
  · simp at hcs
    obtain ⟨rfl, rfl, rfl⟩ := hcs
    simp only [if_true] at hm
    rw [cellsFrame] at hel
    obtain ⟨n0, n1, n2, n3, hu, t0, t1, t2, t3, o0, o1, o2, o3⟩ := undFrame
    rw [hx] at hb
    have hone : ∀ i, i < len → ∃ q : Fr × Value, (W.cell? (a.add (i * 4)) = some (.int .i64 q.1.kind) ∧ W.cell? ((a.add (i * 4)).add 1) = some (.int .i64 q.1.flags) ∧ W.cell? ((a.add (i * 4)).add 2) = some (.int .i64 q.1.stream) ∧ W.cell? ((a.add (i * 4)).add 3) = some q.2) ∧
        BytesA W q.2 q.1.body ∧ q.1.body.length ≤ 4194304 := by
      intro i hi
      obtain ⟨cs, hc1, hc2⟩ := hel i (by omega)
      obtain ⟨_, hlen, hcell⟩ := World.cells?_some hc1
      obtain ⟨y0, y1, y2, y3, n', hD, _, h0, h1, h2, h3⟩ := Joins.trod_struct4 hu hc2
      have hDb : Rows.uptoBulk (D i) ≤ 1048576 := by
        have hm1 : D i ∈ (List.range len).map D := List.mem_map.2 ⟨i, by simpa using hi, rfl⟩
        have := bulk_mem hm1
        simp only [Rows.uptoBulk] at hb
        omega
      have hD1 : D i = .agg [y0.1, y1.1, y2.1, y3.1] := congrArg Prod.fst hD
      rw [hD1] at hDb
      simp only [Rows.uptoBulk, Rows.uptoBulkAll] at hDb
      match cs, hlen with
      | [c0, c1, c2, c3], _ =>
        rw [t0, o0, cellsInt] at h0
        rw [t1, o1, cellsInt] at h1
        rw [t2, o2, cellsInt] at h2
        rw [t3, o3, cellsBytes] at h3
        obtain ⟨k0, e0, _, w0⟩ := DataW.trod_int Tryz.underlying3 h0
        obtain ⟨k1, e1, _, w1⟩ := DataW.trod_int Tryz.underlying3 h1
        obtain ⟨k2, e2, _, w2⟩ := DataW.trod_int Tryz.underlying3 h2
        simp at e0 e1 e2 h3
        subst e0 e1 e2
        obtain ⟨body, hbody, hbl⟩ := open_bytes h3
        have d0 := hcell 0 (by omega)
        have d1 := hcell 1 (by omega)
        have d2 := hcell 2 (by omega)
        have d3 := hcell 3 (by omega)
        refine ⟨(⟨k0, k1, k2, body⟩, c3), ⟨?_, d1, d2, d3⟩, hbody, ?_⟩
        · simpa [Addr.add] using d0
        · show body.length ≤ _
          omega
    obtain ⟨f, hf⟩ := @Deep.choose_lt (Fr × Value) ⟨(⟨0, 0, 0, []⟩, .bool false)⟩ _ _ hone
    have hlenb : len ≤ 1048576 := by
      have := slice_bulk ((List.range len).map D) ((List.range (m - len)).map fun j => D (len + j))
      simp only [List.length_map, List.length_range] at this
      simp only at hb
      omega
    refine ⟨(List.range len).map f, by simp, hlenb, ⟨fun k hk => ?_, fun q hq => ?_, fun q hq => ?_⟩⟩
    · simp at hk
      obtain ⟨⟨e0, e1, e2, e3⟩, _⟩ := hf k hk
      obtain ⟨b, off, spot⟩ := a
      have hspot : spot = none := by
        obtain ⟨⟨g0, _⟩, _⟩ := hf 0 (by omega)
        simpa [Addr.add] using World.cell?_spot g0
      subst hspot
      have ad : ∀ j, (⟨b, off, none⟩ : Addr).add j = ⟨b, off + j, none⟩ := fun j => by unfold Addr.add; split <;> simp_all
      have ad2 : ∀ i j, ((⟨b, i, none⟩ : Addr)).add j = ⟨b, i + j, none⟩ := fun i j => by unfold Addr.add; split <;> simp_all
      rw [ad] at e0 e1 e2 e3
      rw [ad2] at e1 e2 e3
      refine ⟨b, off, rfl, World.block_lt_of_cell? W _ e0, ?_, ?_, ?_, ?_⟩
      · simpa using e0
      · simpa using e1
      · simpa using e2
      · simpa using e3
    · obtain ⟨i, hi, rfl⟩ := List.mem_map.1 hq
      exact (hf i (by simpa using hi)).2.1
    · obtain ⟨i, hi, rfl⟩ := List.mem_map.1 hq
      exact (hf i (by simpa using hi)).2.2

theorem trod_struct5 {P : Program} {base : Nat} {spare : Nat → Bool} {held : Bool} {t : TypeId} {f0 f1 f2 f3 f4 : Field} {fuel : Nat} {cs : List Value} {x : DataW H × List MemPlace} (ht : P.underlying t = some (.struct #[f0, f1, f2, f3, f4])) (h : DataW.trod enc P W base spare held fuel t cs = some x) :
    ∃ y0 y1 y2 y3 y4 n, x.1 = .agg [y0.1, y1.1, y2.1, y3.1, y4.1] ∧ DataW.trod enc P W base spare held n f0.type ((cs.drop f0.offset).take (P.cellsOf f0.type)) = some y0 ∧
      DataW.trod enc P W base spare held n f1.type ((cs.drop f1.offset).take (P.cellsOf f1.type)) = some y1 ∧ DataW.trod enc P W base spare held n f2.type ((cs.drop f2.offset).take (P.cellsOf f2.type)) = some y2 ∧
      DataW.trod enc P W base spare held n f3.type ((cs.drop f3.offset).take (P.cellsOf f3.type)) = some y3 ∧ DataW.trod enc P W base spare held n f4.type ((cs.drop f4.offset).take (P.cellsOf f4.type)) = some y4 := by
  obtain ⟨xs, n, _, rfl, hl, hlen, hf⟩ := DataW.trod_struct ht h
  match xs, hlen with
  | [y0, y1, y2, y3, y4], _ => exact ⟨y0, y1, y2, y3, y4, n, by simp, by simpa using hf 0 f0 rfl, by simpa using hf 1 f1 rfl, by simpa using hf 2 f2 rfl, by simpa using hf 3 f3 rfl, by simpa using hf 4 f4 rfl⟩

theorem wt_bulk {f : Nat → OpV} {D : Nat → DataW H} {L : List Nat} (h : ∀ i ∈ L, 1 + (f i).s.size ≤ Rows.uptoBulk (D i)) : wt (L.map f) ≤ Rows.uptoBulkAll (L.map D) := by
  induction L with
  | nil => simp [wt, Rows.uptoBulkAll]
  | cons i r ih =>
    have h1 := h i (by simp)
    have h2 := ih (fun j hj => h j (by simp [hj]))
    simp only [List.map_cons, wt, Rows.uptoBulkAll]
    omega

set_option maxRecDepth 100000 in
/-- A script, as it reads. -/
theorem open_ops {fuel : Nat} {sa : Option Addr} {len cap : Nat} {x : DataW H × List MemPlace} (h : DataW.trod enc Tryz.prog W 0 (fun _ => true) true fuel 28 [.slice sa len cap] = some x) (hb : Rows.uptoBulk x.1 ≤ 1048576) :
    ∃ ops : List OpV, ops.length = len ∧ len ≤ 1048576 ∧ wt ops ≤ 1048576 ∧ OpsIn W sa ops := by
  rcases Deep.open_slice Tryz.underlying28 h with ⟨hcs, _⟩ | ⟨a, len', cap', m, n, D, Pl, hcs, _, hl, hmx, hm, hx, hel⟩
  · simp at hcs
    obtain ⟨rfl, rfl, rfl⟩ := hcs
    exact ⟨[], rfl, by omega, by simp [wt], ⟨fun k hk => by simp at hk, by simp⟩⟩
  · simp at hcs
    obtain ⟨rfl, rfl, rfl⟩ := hcs
    simp only [if_true] at hm
    rw [cellsOp] at hel
    obtain ⟨n0, n1, n2, n3, n4, hu, t0, t1, t2, t3, t4, o0, o1, o2, o3, o4⟩ := undOp
    rw [hx] at hb
    have hone : ∀ i, i < len → ∃ o : OpV, (W.cell? (a.add (i * 5)) = some (.int .i64 o.k) ∧ W.cell? ((a.add (i * 5)).add 1) = some (.int .i64 o.a) ∧ W.cell? ((a.add (i * 5)).add 2) = some (.int .i64 o.b) ∧ W.cell? ((a.add (i * 5)).add 3) = some (.int .i64 o.c) ∧ W.cell? ((a.add (i * 5)).add 4) = some (.string o.s)) ∧ o.ok ∧ 1 + o.s.size ≤ Rows.uptoBulk (D i) := by
      intro i hi
      obtain ⟨cs, hc1, hc2⟩ := hel i (by omega)
      obtain ⟨_, hlen, hcell⟩ := World.cells?_some hc1
      obtain ⟨y0, y1, y2, y3, y4, n', hD1, h0, h1, h2, h3, h4⟩ := trod_struct5 hu hc2
      have hDb : Rows.uptoBulk (D i) ≤ 1048576 := by
        have hm1 : D i ∈ (List.range len).map D := List.mem_map.2 ⟨i, by simpa using hi, rfl⟩
        have := bulk_mem hm1
        simp only [Rows.uptoBulk] at hb
        omega
      simp only at hD1
      rw [hD1] at hDb
      simp only [Rows.uptoBulk, Rows.uptoBulkAll] at hDb
      match cs, hlen with
      | [c0, c1, c2, c3, c4], _ =>
        rw [t0, o0, cellsInt] at h0
        rw [t1, o1, cellsInt] at h1
        rw [t2, o2, cellsInt] at h2
        rw [t3, o3, cellsInt] at h3
        rw [t4, o4, cellsString] at h4
        obtain ⟨k0, e0, _, w0⟩ := DataW.trod_int Tryz.underlying3 h0
        obtain ⟨k1, e1, _, w1⟩ := DataW.trod_int Tryz.underlying3 h1
        obtain ⟨k2, e2, _, w2⟩ := DataW.trod_int Tryz.underlying3 h2
        obtain ⟨k3, e3, _, w3⟩ := DataW.trod_int Tryz.underlying3 h3
        obtain ⟨s, e4, hx4, _⟩ := DataW.trod_string Tryz.underlying9 h4
        simp at e0 e1 e2 e3 e4
        subst e0 e1 e2 e3 e4
        have d0 := hcell 0 (by omega)
        have d1 := hcell 1 (by omega)
        have d2 := hcell 2 (by omega)
        have d3 := hcell 3 (by omega)
        have d4 := hcell 4 (by omega)
        have e : s.data.toList.length = s.size := by rw [Array.length_toList]; rfl
        rw [hx4] at hDb hD1
        refine ⟨⟨k0, k1, k2, k3, s⟩, ⟨?_, d1, d2, d3, d4⟩, ⟨wf_i64 w0, wf_i64 w1, wf_i64 w2, wf_i64 w3, ?_⟩, ?_⟩
        · simpa [Addr.add] using d0
        · show s.size ≤ _
          simp only [Rows.uptoBulk] at hDb
          omega
        · show 1 + s.size ≤ _
          rw [hD1]
          simp only [Rows.uptoBulk, Rows.uptoBulkAll]
          omega
    obtain ⟨f, hf⟩ := @Deep.choose_lt OpV ⟨⟨0, 0, 0, 0, .empty⟩⟩ _ _ hone
    have hlenb : len ≤ 1048576 := by
      have := slice_bulk ((List.range len).map D) ((List.range (m - len)).map fun j => D (len + j))
      simp only [List.length_map, List.length_range] at this
      simp only at hb
      omega
    have hwt : wt ((List.range len).map f) ≤ 1048576 := by
      have h1 := wt_bulk (f := f) (D := D) (L := List.range len) (fun i hi => (hf i (by simpa using hi)).2.2)
      simp only [Rows.uptoBulk] at hb
      omega
    refine ⟨(List.range len).map f, by simp, hlenb, hwt, ⟨fun k hk => ?_, fun q hq => ?_⟩⟩
    · simp at hk
      obtain ⟨⟨e0, e1, e2, e3, e4⟩, _⟩ := hf k hk
      obtain ⟨b, off, spot⟩ := a
      have hspot : spot = none := by
        obtain ⟨⟨g0, _⟩, _⟩ := hf 0 (by omega)
        simpa [Addr.add] using World.cell?_spot g0
      subst hspot
      have ad : ∀ j, (⟨b, off, none⟩ : Addr).add j = ⟨b, off + j, none⟩ := fun j => by unfold Addr.add; split <;> simp_all
      have ad2 : ∀ i j, ((⟨b, i, none⟩ : Addr)).add j = ⟨b, i + j, none⟩ := fun i j => by unfold Addr.add; split <;> simp_all
      rw [ad] at e0 e1 e2 e3 e4
      rw [ad2] at e1 e2 e3 e4
      refine ⟨b, off, rfl, World.block_lt_of_cell? W _ e0, ?_, ?_, ?_, ?_, ?_⟩
      · simpa using e0
      · simpa using e1
      · simpa using e2
      · simpa using e3
      · simpa using e4
    · obtain ⟨i, hi, rfl⟩ := List.mem_map.1 hq
      exact (hf i (by simpa using hi)).2.1
end
end Go.Proofs.YtghongdbohjaaaaGreatDoor
/-
  sluicelaw: plays.
-/
namespace Go.Proofs.YtghongdbohjaaaaGreatDoor
open Go.RowKit

set_option maxRecDepth 100000 in
set_option maxHeartbeats 6400000 in
theorem plays_true {lo hi : Int} {K : World → Prop} {G : World → Value → Value → Prop} {I : World → World → World → Nat → Value → Value → Value → Value → Nat → Prop} (P : Played lo hi K G I) (sF sH sC sS : Option Addr) (nF cF nH cH nC cC nS cS : Nat) (so : Option Addr) (co : Nat) (ops : List OpV) (W : World)
    (hK : K W) (hG : G W (.slice sF nF cF) (.slice sH nH cH)) (hO : OpsIn W so ops) (hn : ops.length ≤ 1048576) (hwt : wt ops ≤ 16777216) :
    Calls Tryz.prog 5 #[.agg #[.slice sF nF cF, .slice sH nH cH, .slice sC nC cC, .slice sS nS cS], .slice so ops.length co, .int .i64 lo, .int .i64 hi] W fun e w' => e = .returned (.bool true) ∧ Below W.heap.size W w' := by
  have HP := hide P
  have HG := hide hG
  have HO := hide hO
  have HKW := hide hK
  clear P hG hO hK
  go_enter Tryz.func5, Tryz.ntmps5
  go_wp2_with fail
  refine (known_any _).mono ?_
  rintro e w1 ⟨rfl, hb1, hk6, hk2, hk8, hk7⟩
  have hg1 := told_kept (heap_alloc_new W (.cells #[.slice sF nF cF, .slice sH nH cH, .slice sC nC cC, .slice sS nS cS] 27)) hb1
  have HG1 := hide hg1
  have hBW : Below W.heap.size W w1 := ((Below.refl _ W).alloc (Nat.le_refl _) _).trans (hb1.mono (by simp))
  have hsz1 := lt_of_block hg1
  have HBW := hide hBW
  clear hb1 hg1 hBW
  generalize (W.alloc (.cells #[.slice sF nF cF, .slice sH nH cH, .slice sC nC cC, .slice sS nS cS] 27)).heap.size = nk at hk6 hk2 hk8 hk7 ⊢
  have HK := hide (HP.out.known w1 _ hk6 hk2 hk8 hk7)
  have HK1 := hide (HP.out.kb _ _ HKW.out HBW.out)
  clear hk6 hk2 hk8 hk7
  go_wp2_with fail
  refine (opening_any _).mono ?_
  rintro e w2 ⟨rfl, hw2⟩
  have hv2 : w2.heap[w1.heap.size]? = some (.cells (lw (.slice (some ⟨nk + 6, 0, none⟩) 1 1) (.slice (some ⟨nk + 8, 0, none⟩) 1 1) (.slice (some ⟨nk + 9, 0, none⟩) 1 1) (.slice (some ⟨nk + 10, 0, none⟩) 1 1) (.slice none 0 0) (.slice none 0 0) (.slice none 0 0)) 46 (0, 0)) := by
    rw [hw2]; exact heap_in (by simp) (heap_at rfl)
  have hb2 : Below w1.heap.size w1 w2 := by
    rw [hw2]; exact ((Below.refl _ _).alloc (Nat.le_refl _) _).alloc (by simp) _
  have ho2 : OpsIn w2 (some ⟨w1.heap.size + 1, 0, none⟩) openOps := by
    refine opsIn_of_block (t := 49) (fr := (0, 0)) ?_ openOps_ok
    rw [hw2]; exact heap_at (by simp)
  have hI2 := HP.out.new w1 w2 w1.heap.size _ _ _ _ hv2 (Nat.le_refl _) hb2
  have HI2 := hide hI2
  have HO2 := hide ho2
  have hadr : ∀ o : Obj, (w1.alloc o).heap.size = w1.heap.size + 1 := fun o => by simp
  rw [hadr]
  clear hw2 hv2 hb2 ho2 hI2 hadr
  go_wp2
  have HWT := hide hwt
  go_loopw [11] (fun i wr => ∃ k : Nat, k ≤ 14 ∧ i = .int .i64 k ∧ I w1 w2 wr w1.heap.size (.slice (some ⟨nk + 6, 0, none⟩) 1 1) (.slice (some ⟨nk + 8, 0, none⟩) 1 1) (.slice (some ⟨nk + 9, 0, none⟩) 1 1) (.slice (some ⟨nk + 10, 0, none⟩) 1 1) (wt (openOps.take k))) (fun i _ => 14 - (intOf i).toNat)
  case atStart => exact ⟨0, by omega, rfl, HI2.out⟩
  case round =>
    obtain ⟨k, hk, rfl, hI⟩ := hrel
    by_cases hlt : k < 14
    · obtain ⟨ob, off, hso, hob, c0, c1, c2, c3, c4⟩ := (HO2.out.chg (HP.out.bel _ _ _ _ _ _ _ _ _ hI).2 (fun ob off he => by simp at he; omega)).cell k hlt
      simp only [Option.some.injEq, Addr.mk.injEq, and_true] at hso
      obtain ⟨rfl, rfl⟩ := hso
      simp only [Nat.zero_add] at c0 c1 c2 c3 c4
      have hok := HO2.out.ok openOps[k] (List.getElem_mem _)
      have hnx := wt_next (ops := openOps) hlt
      have htl := Nat.le_trans (wt_take openOps (k + 1)) wt_open
      generalize openOps[k] = o at c0 c1 c2 c3 c4 hok hnx
      obtain ⟨ok, oa, ob, oc, os⟩ := o
      simp only at c0 c1 c2 c3 c4
      have HI := hide hI
      have HOK := hide hok
      rw [hnx] at htl
      simp only at hnx htl
      have HNX := hide hnx
      have HTL := hide htl
      clear hI hok HI2 hnx htl
      by_cases hin : lo ≤ ok ∧ ok ≤ hi
      · obtain ⟨h1, h2⟩ := hin
        go_wp2_with fail
        refine (HP.out.step w1 w2 _ w1.heap.size _ _ _ _ (wt (openOps.take k)) ⟨ok, oa, ob, oc, os⟩ h1 h2 HOK.out HK1.out HK.out HTL.out HI.out).mono ?_
        rintro e w' ⟨rfl, hI'⟩
        clear c0 c1 c2 c3 c4
        go_wp2
        go_roundw
        case rel => exact ⟨k + 1, by omega, by go_num, by rw [HNX.out]; exact hI'⟩
        case measure => simp [intOf]; omega
      · by_cases h1 : lo ≤ ok
        · have h2 : ¬ ok ≤ hi := fun h => hin ⟨h1, h⟩
          clear hin
          go_wp2
          go_roundw
          case rel => exact ⟨k + 1, by omega, by go_num, HP.out.mono _ _ _ _ _ _ _ _ _ _ (by rw [HNX.out]; omega) HI.out⟩
          case measure => simp [intOf]; omega
        · clear hin
          go_wp2
          go_roundw
          case rel => exact ⟨k + 1, by omega, by go_num, HP.out.mono _ _ _ _ _ _ _ _ _ _ (by rw [HNX.out]; omega) HI.out⟩
          case measure => simp [intOf]; omega
    · have hbr := (HP.out.bel _ _ _ _ _ _ _ _ _ hI).1
      have hgr : wr.heap[W.heap.size]? = some (.cells #[.slice sF nF cF, .slice sH nH cH, .slice sC nC cC, .slice sS nS cS] 27 (0, 0)) := by
        rw [hbr.block _ hsz1]; exact HG1.out
      obtain ⟨g0, g1, g2, g3, -⟩ := frame_blockT hgr
      have HBR := hide (HBW.out.trans (hbr.mono HBW.out.size))
      clear hI hbr hgr HI2 HK
      obtain ⟨wq, hwq⟩ : ∃ wq, wq = wr := ⟨wr, rfl⟩
      subst hwq
      go_wp2
      obtain ⟨V2, hV2⟩ : ∃ V2, V2 = wq.alloc (.cells (lw (.slice sF nF cF) (.slice sH nH cH) (.slice sC nC cC) (.slice sS nS cS) (.slice none 0 0) (.slice none 0 0) (.slice none 0 0)) 46) := ⟨_, rfl⟩
      have hbV : Below W.heap.size W V2 := by rw [hV2]; exact HBR.out.alloc HBR.out.size _
      have hvV : V2.heap[wq.heap.size]? = some (.cells (lw (.slice sF nF cF) (.slice sH nH cH) (.slice sC nC cC) (.slice sS nS cS) (.slice none 0 0) (.slice none 0 0) (.slice none 0 0)) 46 (0, 0)) := by rw [hV2]; exact heap_at rfl
      have HIV := hide (HP.out.new W V2 wq.heap.size _ _ _ _ hvV HBR.out.size hbV)
      rw [← hV2]
      clear hV2 hbV hvV g0 g1 g2 g3 HG1
      go_loopw [14] (fun i wr => ∃ k : Nat, k ≤ ops.length ∧ i = .int .i64 k ∧ I W V2 wr wq.heap.size (.slice sF nF cF) (.slice sH nH cH) (.slice sC nC cC) (.slice sS nS cS) (wt (ops.take k))) (fun i _ => ops.length - (intOf i).toNat)
      case atStart => exact ⟨0, by omega, rfl, HIV.out⟩
      case round =>
        obtain ⟨k, hk, rfl, hI⟩ := hrel
        by_cases hlt : k < ops.length
        · obtain ⟨ob, off, hso, hob, c0, c1, c2, c3, c4⟩ := (HO.out.below (HP.out.bel _ _ _ _ _ _ _ _ _ hI).1).cell k hlt
          subst hso
          have hok := HO.out.ok ops[k] (List.getElem_mem _)
          have hnx := wt_next (ops := ops) hlt
          have htl := Nat.le_trans (wt_take ops (k + 1)) hwt
          generalize ops[k] = o at c0 c1 c2 c3 c4 hok hnx
          obtain ⟨ok, oa, ob', oc, os⟩ := o
          simp only at c0 c1 c2 c3 c4
          have HI := hide hI
          have HOK := hide hok
          rw [hnx] at htl
          simp only at hnx htl
          have HNX := hide hnx
          have HTL := hide htl
          clear hI hok HIV hnx htl
          by_cases h1 : ok < lo
          · go_wp2
            go_roundw
            case rel => exact ⟨k + 1, by omega, by go_num, HP.out.mono _ _ _ _ _ _ _ _ _ _ (by rw [HNX.out]; omega) HI.out⟩
            case measure => simp [intOf]; omega
          · by_cases h2 : hi < ok
            · go_wp2
              go_roundw
              case rel => exact ⟨k + 1, by omega, by go_num, HP.out.mono _ _ _ _ _ _ _ _ _ _ (by rw [HNX.out]; omega) HI.out⟩
              case measure => simp [intOf]; omega
            · go_wp2_with fail
              refine (HP.out.step W V2 _ wq.heap.size _ _ _ _ (wt (ops.take k)) ⟨ok, oa, ob', oc, os⟩ (by show lo ≤ ok; omega) (by show ok ≤ hi; omega) HOK.out HKW.out HG.out HTL.out HI.out).mono ?_
              rintro e w5 ⟨rfl, hI5⟩
              have HBK := hide (HP.out.bks _ _ _ _ _ _ _ _ _ hI5 (by have := HTL.out; simp only at this ⊢; omega))
              have HI5 := hide hI5
              clear c0 c1 c2 c3 c4 hI5
              go_wp2_with fail
              refine HBK.out.mono ?_
              rintro e w6 ⟨rfl, hb6⟩
              have HI6 := hide (HP.out.below _ _ _ _ _ _ _ _ _ _ HI5.out hb6)
              clear hb6
              go_wp2
              go_roundw
              case rel => exact ⟨k + 1, by omega, by go_num, by rw [HNX.out]; exact HI6.out⟩
              case measure => simp [intOf]; omega
        · have hbe := (HP.out.bel _ _ _ _ _ _ _ _ _ hI).1
          go_wp2
          go_ret
          exact ⟨rfl, hbe⟩
end Go.Proofs.YtghongdbohjaaaaGreatDoor
/-
  Things in memory that lie apart from one another.
-/
namespace Go.Proofs.YtghongdbohjaaaaGreatDoor
set_option linter.unusedVariables false
set_option linter.unusedSimpArgs false
open Go.RowKit

/-- A thing in memory: what holds of it, and which blocks are its own. -/
structure Ob where
  P : World → Prop
  F : Nat → Prop
  lt : ∀ w j, P w → F j → j < w.heap.size
  chg : ∀ (S : Nat → Prop) w w', P w → Chg S w w' → (∀ j, F j → ¬ S j) → P w'

/-- Things that lie apart, from block lo on. -/
structure Sep (w : World) (lo : Nat) (l : List Ob) : Prop where
  P : ∀ o ∈ l, o.P w
  lo : ∀ o ∈ l, ∀ j, o.F j → lo ≤ j
  ap : l.Pairwise fun a b => ∀ j, a.F j → ¬ b.F j

theorem Sep.nil (w : World) (lo : Nat) : Sep w lo [] := ⟨by simp, by simp, List.Pairwise.nil⟩
theorem Sep.perm {w : World} {lo : Nat} {l l' : List Ob} (h : Sep w lo l) (hp : l.Perm l') : Sep w lo l' :=
  ⟨fun o ho => h.P o (hp.mem_iff.2 ho), fun o ho => h.lo o (hp.mem_iff.2 ho), (hp.pairwise_iff (fun {a b} hab j hb ha => hab j ha hb)).1 h.ap⟩
theorem Sep.lt {w : World} {lo : Nat} {l : List Ob} (h : Sep w lo l) {o : Ob} (ho : o ∈ l) {j : Nat} (hj : o.F j) : j < w.heap.size := o.lt w j (h.P o ho) hj
theorem Sep.below {w w' : World} {lo : Nat} {l : List Ob} (h : Sep w lo l) (hb : Below w.heap.size w w') : Sep w' lo l :=
  ⟨fun o ho => o.chg _ w w' (h.P o ho) (Chg.of_below (S := fun _ => False) hb) (fun _ _ => id), h.lo, h.ap⟩
theorem Sep.left {w : World} {lo : Nat} {a b : List Ob} (h : Sep w lo (a ++ b)) : Sep w lo a :=
  ⟨fun o ho => h.P o (by simp [ho]), fun o ho => h.lo o (by simp [ho]), (List.pairwise_append.1 h.ap).1⟩
theorem Sep.right {w : World} {lo : Nat} {a b : List Ob} (h : Sep w lo (a ++ b)) : Sep w lo b :=
  ⟨fun o ho => h.P o (by simp [ho]), fun o ho => h.lo o (by simp [ho]), (List.pairwise_append.1 h.ap).2.1⟩
theorem Sep.apart {w : World} {lo : Nat} {a b : List Ob} (h : Sep w lo (a ++ b)) {x y : Ob} (hx : x ∈ a) (hy : y ∈ b) {j : Nat} (hj : x.F j) : ¬ y.F j :=
  (List.pairwise_append.1 h.ap).2.2 x hx y hy j hj
theorem Sep.two {w : World} {lo : Nat} {x y : Ob} {l : List Ob} (h : Sep w lo (x :: y :: l)) {j : Nat} (hj : x.F j) : ¬ y.F j :=
  (List.pairwise_cons.1 h.ap).1 y (by simp) j hj
/-- Some of them become others; the rest stays. -/
theorem Sep.turn {S : Nat → Prop} {w w' : World} {lo : Nat} {os os' l : List Ob} (h : Sep w lo (os ++ l)) (hc : Chg S w w') (hS : ∀ j, S j → (∃ o ∈ os, o.F j) ∨ j < lo)
    (hP : ∀ o ∈ os', o.P w') (hap : os'.Pairwise fun a b => ∀ j, a.F j → ¬ b.F j) (hF : ∀ o ∈ os', ∀ j, o.F j → (∃ q ∈ os, q.F j) ∨ w.heap.size ≤ j) (hlo : lo ≤ w.heap.size) : Sep w' lo (os' ++ l) := by
  refine ⟨fun o ho => ?_, fun o ho j hj => ?_, List.pairwise_append.2 ⟨hap, h.right.ap, fun a ha b hb j hj hbj => ?_⟩⟩
  · rcases List.mem_append.1 ho with ho | ho
    · exact hP o ho
    · refine o.chg S w w' (h.P o (by simp [ho])) hc fun j hj hs => ?_
      rcases hS j hs with ⟨q, hq, hqj⟩ | hlt
      · exact h.apart hq ho hqj hj
      · have := h.lo o (by simp [ho]) j hj; omega
  · rcases List.mem_append.1 ho with ho | ho
    · rcases hF o ho j hj with ⟨q, hq, hqj⟩ | hle
      · exact h.lo q (by simp [hq]) j hqj
      · omega
    · exact h.lo o (by simp [ho]) j hj
  · rcases hF a ha j hj with ⟨q, hq, hqj⟩ | hle
    · exact h.apart hq hb hqj hbj
    · have := h.lt (o := b) (by simp [hb]) hbj; omega
/-- .. new ones. -/
theorem Sep.more {w w' : World} {lo : Nat} {os' l : List Ob} (h : Sep w lo l) (hb : Below w.heap.size w w')
    (hP : ∀ o ∈ os', o.P w') (hap : os'.Pairwise fun a b => ∀ j, a.F j → ¬ b.F j) (hF : ∀ o ∈ os', ∀ j, o.F j → w.heap.size ≤ j) (hlo : lo ≤ w.heap.size) : Sep w' lo (os' ++ l) :=
  Sep.turn (os := []) (S := fun _ => False) h (Chg.of_below hb) (fun _ e => e.elim) hP hap (fun o ho j hj => Or.inr (hF o ho j hj)) hlo

/-- A row. -/
def rowOb (t : TypeId) (s : Nat) (v : Value) (n : Nat) (xs : List Value) : Ob where
  P := fun w => w.ownsRow 0 t s v n xs
  F := fun j => v.ownBlock = some j
  lt := fun w j h hj => owns_lt h hj
  chg := fun S w w' h hc hs => owns_chg h hc hs

/-- One of many, taken out. -/
theorem flat_get {α : Type} (f : α → List Ob) (l : List α) (k : Nat) (h : k < l.length) : (l.flatMap f).Perm (f l[k] ++ (l.eraseIdx k).flatMap f) := by
  induction l generalizing k with
  | nil => simp at h
  | cons a r ih =>
    cases k with
    | zero => simp
    | succ k =>
      simp only [List.flatMap_cons, List.getElem_cons_succ, List.eraseIdx_cons_succ]
      refine ((ih k (by simpa using h)).append_left (f a)).trans ?_
      rw [← List.append_assoc, ← List.append_assoc]
      exact List.perm_append_comm.append_right _
theorem flat_set {α : Type} (f : α → List Ob) (l : List α) (k : Nat) (h : k < l.length) (x : α) : ((l.set k x).flatMap f).Perm (f x ++ (l.eraseIdx k).flatMap f) := by
  have := flat_get f (l.set k x) k (by simpa using h)
  simpa [List.eraseIdx_set_eq] using this
end Go.Proofs.YtghongdbohjaaaaGreatDoor
/-
  General facts: rows, bytes that are handed in.
-/
namespace Go.Proofs.YtghongdbohjaaaaGreatDoor
open Go.RowKit

theorem owns_row {w : World} {b g : Nat} {xs : List Value} (h : w.heap[g]? = some (.cells xs.toArray 5 (0, 0))) (hm : xs.length ≤ maxLen) (hb : b ≤ g) : w.ownsRow b 5 1 (.slice (some ⟨g, 0, none⟩) xs.length xs.length) xs.length xs :=
  ⟨by simp, Or.inr ⟨g, xs.length, _, rfl, hb, h, Nat.le_refl _, hm, by simp, by simp⟩⟩



theorem BytesA.cell {w : World} {sa : Option Addr} {n cap : Nat} {l : List UInt8} (h : BytesA w (.slice sa n cap) l) {i : Nat} (hi : i < l.length) :
    ∃ bb off, sa = some ⟨bb, off, none⟩ ∧ bb < w.heap.size ∧ n ≤ cap ∧ w.cell? ⟨bb, off + i, none⟩ = some (.int .u8 (l.getD i 0).toNat) := by
  rcases h with (⟨h0, rfl⟩ | ⟨bb, off, cap', he, h1, h2, h3⟩) | ⟨ad, he, rfl⟩
  · simp at hi
  · simp only [Value.slice.injEq] at he
    obtain ⟨rfl, rfl, rfl⟩ := he
    exact ⟨bb, off, rfl, h1, h2, h3 i hi⟩
  · simp at hi

theorem app_keep {w w1 w2 : World} {base e size n n' : Nat} {v v' : Value} {xs ys : List Value} (hbel : Below base w w1) (hsz : base ≤ w1.heap.size) (hown : w1.ownsRow base e size v n xs) (hown2 : w2.ownsRow 0 e size v' n' ys) (hg : w1.grownBy w2 v.ownBlock)
    (hfr : v'.ownBlock = v.ownBlock ∨ v'.ownBlock = some w1.heap.size) : w2.ownsRow base e size v' n' ys ∧ Below base w w2 :=
  ⟨owns_base hown2 (fun j hj => by
    rcases hfr with e | e
    · rw [e] at hj; exact (hown.lt j hj).1
    · rw [e] at hj; simp at hj; omega), hbel.grown hg hsz (fun j hj => (hown.lt j hj).1)⟩

theorem kept_told' {w w' : World} {b : Nat} {cs : Array Value} {t : TypeId} {fr : Nat × Nat} (h : w.heap[b]? = some (.cells cs t fr)) (hb : Below w.heap.size w w') : w'.heap[b]? = some (.cells cs t fr) := by
  rw [hb.block b (lt_of_block h)]; exact h

theorem kept_told {w w' : World} {b : Nat} {cs : Array Value} {t : TypeId} {fr : Nat × Nat} (h : w.heap[b]? = some (.cells cs t fr)) (hb : Below w.heap.size w w') : w'.heap[b]? = some (.cells cs t fr) := by
  rw [hb.block b (lt_of_block h)]; exact h
end Go.Proofs.YtghongdbohjaaaaGreatDoor
/-
  Blocks as the program makes them, without the program: bytes, tables as queues. Nothing of the translation is imported.
-/
namespace Go.Proofs.YtghongdbohjaaaaGreatDoor
set_option linter.unusedVariables false
set_option linter.unusedSimpArgs false

/-- A pair of texts. -/
structure HP where
  n : ByteArray
  v : ByteArray
def tk (h : HP) : Nat := h.n.size + h.v.size + 8
/-- The same pair. -/
def hpEq (x h : HP) : Bool := decide (x.n.toList = h.n.toList ∧ x.v.toList = h.v.toList)
/-- The least number of this very pair. -/
def pnF (l : List HP) (h : HP) : Option Nat := l.findIdx? (fun x => decide (x.n.toList = h.n.toList ∧ x.v.toList = h.v.toList))

/-- A number in k bits, the highest first. -/
def natBits : Nat → Nat → List Bool
  | 0, _ => []
  | k + 1, v => natBits k (v / 2) ++ [v % 2 == 1]
theorem natBits_length (k v : Nat) : (natBits k v).length = k := by
  induction k generalizing v with
  | zero => rfl
  | succ k ih => simp [natBits, ih]
theorem natBits_high (k v : Nat) : natBits (k + 1) v = (v / 2 ^ k % 2 == 1) :: natBits k v := by
  induction k generalizing v with
  | zero => simp [natBits]
  | succ k ih =>
    have e : v / 2 / 2 ^ k = v / 2 ^ (k + 1) := by rw [Nat.div_div_eq_div_mul, Nat.pow_succ, Nat.mul_comm]
    have h1 : natBits (k + 1 + 1) v = natBits (k + 1) (v / 2) ++ [v % 2 == 1] := rfl
    have h2 : natBits (k + 1) v = natBits k (v / 2) ++ [v % 2 == 1] := rfl
    rw [h1, ih, h2, e]
    rfl

def valB (l : List Bool) : Nat := l.foldl (fun v b => 2 * v + b.toNat) 0
theorem valB_next (l : List Bool) (b : Bool) : valB (l ++ [b]) = 2 * valB l + b.toNat := by simp [valB]
theorem foldB_lt (l : List Bool) (v : Nat) : l.foldl (fun v b => 2 * v + b.toNat) v < (v + 1) * 2 ^ l.length := by
  induction l generalizing v with
  | nil => simp
  | cons b r ih =>
    have h := ih (2 * v + b.toNat)
    simp only [List.foldl_cons, List.length_cons]
    have hb : b.toNat ≤ 1 := by cases b <;> simp
    have h2 : (2 * v + b.toNat + 1) * 2 ^ r.length ≤ (v + 1) * 2 ^ (r.length + 1) := by
      rw [Nat.pow_succ, Nat.mul_comm (2 ^ r.length) 2, ← Nat.mul_assoc]
      exact Nat.mul_le_mul_right _ (by omega)
    omega
theorem valB_lt (l : List Bool) : valB l < 2 ^ l.length := by
  have := foldB_lt l 0
  simpa [valB] using this

/-- The place of a byte in a text. -/
def pl (l : List UInt8) (c : UInt8) : Option Nat := l.findIdx? (fun x => x == c)
def oft : List UInt8 := [101, 116, 97, 111, 105, 110, 115, 114]
def sel : List UInt8 := [98, 99, 100, 102, 103, 104, 107, 108, 109, 112, 117, 119, 121, 45, 47, 46]
/-- The bits of a byte. -/
def codeB (c : UInt8) : List Bool := match pl oft c with
  | some k => [false] ++ natBits 3 k
  | none => match pl sel c with
    | some k => [true, false] ++ natBits 4 k
    | none => [true, true] ++ natBits 8 c.toNat
theorem pl_lt {l : List UInt8} {c : UInt8} {k : Nat} (h : pl l c = some k) : k < l.length := (List.findIdx?_eq_some_iff_getElem.1 h).1
theorem codeB_length (c : UInt8) : (codeB c).length ≤ 10 := by
  unfold codeB
  split
  · simp [natBits_length]
  · split <;> simp [natBits_length]

/-- The bytes of bits, eight by eight. -/
def bytesB (l : List Bool) : List UInt8 := (List.range (l.length / 8)).map fun i => UInt8.ofNat (valB ((l.drop (8 * i)).take 8))
theorem bytesB_length (l : List Bool) : (bytesB l).length = l.length / 8 := by simp [bytesB]
def rawB (t : List UInt8) : List Bool := t.flatMap codeB
/-- What the bits of a text are filled with. -/
def padN (n : Nat) : Nat := (8 - n % 8) % 8
/-- Packed bits. -/
def packB (t : List UInt8) : List Bool := rawB t ++ List.replicate (padN (rawB t).length) true
theorem rawB_length (t : List UInt8) : (rawB t).length ≤ 10 * t.length := by
  induction t with
  | nil => simp [rawB]
  | cons c r ih =>
    have h1 := codeB_length c
    simp only [rawB, List.flatMap_cons, List.length_append, List.length_cons] at ih ⊢
    omega
theorem rawB_next {t : List UInt8} {k : Nat} (h : k < t.length) : rawB (t.take (k + 1)) = rawB (t.take k) ++ codeB t[k] := by
  rw [List.take_succ_eq_append_getElem h]
  unfold rawB
  rw [List.flatMap_append, List.flatMap_cons, List.flatMap_nil, List.append_nil]
def bitsB (l : List UInt8) : List Bool := l.flatMap fun c => natBits 8 c.toNat
theorem bitsB_length (l : List UInt8) : (bitsB l).length = 8 * l.length := by
  induction l with
  | nil => rfl
  | cons c r ih =>
    simp only [bitsB, List.flatMap_cons, List.length_append, natBits_length, List.length_cons] at ih ⊢
    omega
theorem bitsB_next {l : List UInt8} {k : Nat} (h : k < l.length) : bitsB (l.take (k + 1)) = bitsB (l.take k) ++ natBits 8 l[k].toNat := by
  rw [List.take_succ_eq_append_getElem h]
  unfold bitsB
  rw [List.flatMap_append, List.flatMap_cons, List.flatMap_nil, List.append_nil]

def prB (h : HP) : Bool := !h.n.toList.isEmpty && decide (h.n.size ≤ 40) && decide (h.v.size ≤ 40)

def listB (hs : List HP) : Bool := decide (hs.length ≤ 8) && hs.all prB

/-- Bytes of a count behind its first. -/
def tail7F : Nat → Nat → List UInt8
  | 0, n => [UInt8.ofNat n]
  | k + 1, n => if 127 < n then UInt8.ofNat (128 + n % 128) :: tail7F k (n / 128) else [UInt8.ofNat n]
def tail7 (n : Nat) : List UInt8 := tail7F n n
theorem tail7F_eq : ∀ (k j n : Nat), n ≤ k → n ≤ j → tail7F k n = tail7F j n
  | 0, 0, _, _, _ => rfl
  | 0, j + 1, n, h, _ => by
    have e : n = 0 := by omega
    subst e
    rfl
  | k + 1, 0, n, _, h => by
    have e : n = 0 := by omega
    subst e
    rfl
  | k + 1, j + 1, n, h1, h2 => by
    unfold tail7F
    by_cases h : 127 < n
    · rw [if_pos h, if_pos h, tail7F_eq k j (n / 128) (by omega) (by omega)]
    · rw [if_neg h, if_neg h]
theorem tail7_more {n : Nat} (h : 127 < n) : tail7 n = UInt8.ofNat (128 + n % 128) :: tail7 (n / 128) := by
  obtain ⟨k, e⟩ : ∃ k, n = k + 1 := ⟨n - 1, by omega⟩
  subst e
  show tail7F (k + 1) (k + 1) = _
  rw [tail7F, if_pos h, tail7F_eq k ((k + 1) / 128) ((k + 1) / 128) (by omega) (Nat.le_refl _)]
  rfl
theorem tail7_last {n : Nat} (h : ¬ 127 < n) : tail7 n = [UInt8.ofNat n] := by
  unfold tail7
  cases n with
  | zero => rfl
  | succ k => rw [tail7F, if_neg h]
/-- A count in k bits, behind the first bits f. -/
def cnt (f k n : Nat) : List UInt8 := if n < 2 ^ k - 1 then [UInt8.ofNat (f + n)] else UInt8.ofNat (f + (2 ^ k - 1)) :: tail7 (n - (2 ^ k - 1))

/-- A table, the oldest pair first. -/
def szT (l : List HP) : Nat := (l.map tk).sum
theorem szT_cons (h : HP) (r : List HP) : szT (h :: r) = tk h + szT r := by simp [szT]
theorem szT_append (a b : List HP) : szT (a ++ b) = szT a + szT b := by simp [szT]
theorem szT_len (l : List HP) : 8 * l.length ≤ szT l := by
  induction l with
  | nil => simp [szT]
  | cons h r ih => rw [szT_cons]; simp [tk]; omega
/-- How many of the oldest pairs go. -/
def goneN : List HP → Int → Nat
  | [], _ => 0
  | h :: r, most => if most < (szT (h :: r) : Int) then goneN r most + 1 else 0
theorem goneN_le (l : List HP) (most : Int) : goneN l most ≤ l.length := by
  induction l with
  | nil => simp [goneN]
  | cons h r ih => simp only [goneN]; split <;> simp <;> omega
def shr (l : List HP) (most : Int) : List HP := l.drop (goneN l most)
def addT (l : List HP) (lim : Nat) (h : HP) : List HP := if tk h ≤ lim then shr l ((lim : Int) - tk h) ++ [h] else shr l ((lim : Int) - tk h)

theorem goneN_fits {l : List HP} {most : Int} (h : (szT l : Int) ≤ most) : goneN l most = 0 := by
  cases l with
  | nil => rfl
  | cons x r => simp only [goneN]; rw [if_neg (by omega)]
theorem shr_fits {l : List HP} {most : Int} (h : (szT l : Int) ≤ most) : shr l most = l := by unfold shr; rw [goneN_fits h]; rfl
theorem shr_size (l : List HP) (most : Int) (h0 : 0 ≤ most) : (szT (shr l most) : Int) ≤ most := by
  unfold shr
  induction l with
  | nil => simpa [goneN, szT] using h0
  | cons x r ih =>
    simp only [goneN]
    split
    · simpa using ih
    · simp only [List.drop_zero]; omega
theorem addT_size (l : List HP) (lim : Nat) (h : HP) (hl : szT l ≤ lim) : szT (addT l lim h) ≤ lim := by
  unfold addT
  split
  · next ht =>
    have := shr_size l ((lim : Int) - tk h) (by omega)
    rw [szT_append, szT_cons]
    simp [szT] at this ⊢
    omega
  · next ht =>
    have h1 : szT (shr l ((lim : Int) - tk h)) ≤ szT l := by
      unfold shr
      generalize goneN l ((lim : Int) - tk h) = k
      have h2 := congrArg szT (List.take_append_drop k l)
      rw [szT_append] at h2
      omega
    omega
/-- .. one that alone takes up more than the limit makes all others go. -/
theorem goneN_all (l : List HP) (most : Int) (h : most < 0) : goneN l most = l.length := by
  induction l with
  | nil => rfl
  | cons x r ih => simp only [goneN, ih, List.length_cons]; rw [if_pos (by omega)]

/-- The pairs that have numbers for ever. -/
def hp (n v : List UInt8) : HP := ⟨⟨n.toArray⟩, ⟨v.toArray⟩⟩
def fixed8 : List HP := [hp [112, 97, 116, 104] [47], hp [112, 97, 116, 104] [47, 105, 110, 100, 101, 120], hp [118, 101, 114, 98] [103, 101, 116], hp [118, 101, 114, 98] [112, 117, 116],
  hp [107, 105, 110, 100] [116, 101, 120, 116], hp [107, 105, 110, 100] [98, 121, 116, 101, 115], hp [104, 111, 115, 116] [], hp [108, 101, 110, 103, 116, 104] [48]]
def numd (l : List HP) : List HP := fixed8 ++ l.reverse
theorem numd_length (l : List HP) : (numd l).length = 8 + l.length := by simp [numd, fixed8]; omega
/-- The least number of a pair with this name; 0: none. -/
def nmF (l : List HP) (n : ByteArray) : Nat := match l.findIdx? (fun x => x.n.toList == n.toList) with
  | some i => i + 1
  | none => 0
theorem nmF_le (l : List HP) (n : ByteArray) : nmF l n ≤ l.length := by
  unfold nmF
  split
  · next i hi => have := (List.findIdx?_eq_some_iff_getElem.1 hi).1; omega
  · omega
/-- .. as a number: 0 is none. -/
def pnN (l : List HP) (h : HP) : Nat := match pnF l h with
  | some i => i + 1
  | none => 0
end Go.Proofs.YtghongdbohjaaaaGreatDoor
/-
  A list, packed, without the program; how long a block is.
-/
namespace Go.Proofs.YtghongdbohjaaaaGreatDoor
set_option linter.unusedVariables false
set_option linter.unusedSimpArgs false

/-- A text. -/
def txt (t : List UInt8) : List UInt8 := if (bytesB (packB t)).length < t.length then cnt 128 7 (bytesB (packB t)).length ++ bytesB (packB t) else cnt 0 7 t.length ++ t
/-- Name and value. -/
def txs (l : List HP) (f k : Nat) (h : HP) : List UInt8 := cnt f k (nmF (numd l) h.n) ++ ((if nmF (numd l) h.n = 0 then txt h.n.data.toList else []) ++ txt h.v.data.toList)
/-- A pair; the table behind it. -/
def pairK (l : List HP) (lim : Nat) (h : HP) : List UInt8 × List HP :=
  if pnN (numd l) h = 0 then (if lim < tk h then (txs l 0 4 h, l) else (txs l 64 6 h, addT l lim h)) else (cnt 128 7 (pnN (numd l) h), l)
def pairsK : List HP → List HP → Nat → List UInt8 × List HP
  | [], l, _ => ([], l)
  | h :: r, l, lim => ((pairK l lim h).1 ++ (pairsK r (pairK l lim h).2 lim).1, (pairsK r (pairK l lim h).2 lim).2)
theorem pairsK_next {hs : List HP} {k : Nat} (h : k < hs.length) (l : List HP) (lim : Nat) :
    pairsK (hs.take (k + 1)) l lim = ((pairsK (hs.take k) l lim).1 ++ (pairK (pairsK (hs.take k) l lim).2 lim hs[k]).1, (pairK (pairsK (hs.take k) l lim).2 lim hs[k]).2) := by
  rw [List.take_succ_eq_append_getElem h]
  generalize hs.take k = a
  generalize hs[k] = x
  induction a generalizing l with
  | nil => simp [pairsK]
  | cons y r ih => simp only [List.cons_append, pairsK, ih, List.append_assoc]
/-- A packer: the limit, the table, the limits that wait. -/
structure Pk where
  lim : Nat
  tab : List HP
  wait : List Nat
def limsK : List Nat → Nat → List HP → List UInt8 × Nat × List HP
  | [], lim, l => ([], lim, l)
  | x :: r, _, l => (cnt 32 5 x ++ (limsK r x (shr l x)).1, (limsK r x (shr l x)).2)
theorem limsK_next {ls : List Nat} {k : Nat} (h : k < ls.length) (lim : Nat) (l : List HP) :
    limsK (ls.take (k + 1)) lim l = ((limsK (ls.take k) lim l).1 ++ cnt 32 5 ls[k], ls[k], shr (limsK (ls.take k) lim l).2.2 ls[k]) := by
  rw [List.take_succ_eq_append_getElem h]
  generalize ls.take k = a
  generalize ls[k] = x
  induction a generalizing lim l with
  | nil => simp [limsK]
  | cons y r ih => simp only [List.cons_append, limsK, ih, List.append_assoc]
def Pk.pack (p : Pk) (hs : List HP) : List UInt8 × Pk :=
  let a := limsK p.wait p.lim p.tab
  let b := pairsK hs a.2.2 a.2.1
  (a.1 ++ b.1, ⟨a.2.1, b.2, []⟩)
/-- What waits behind a Resize. -/
def Pk.resize (p : Pk) (n : Nat) : Pk :=
  { p with wait := if (match p.wait with | [] => n | x :: _ => min x n) < n then [(match p.wait with | [] => n | x :: _ => min x n), n] else [n] }

/-- Lists that may be. -/
def okH (h : HP) : Prop := 1 ≤ h.n.size ∧ h.n.size ≤ 40 ∧ h.v.size ≤ 40
theorem ba_len' (b : ByteArray) : b.data.toList.length = b.size := rfl

theorem cnt_one {f k n : Nat} (h : n < 2 ^ k - 1) : (cnt f k n).length = 1 := by unfold cnt; rw [if_pos h]; rfl
theorem cnt_pos (f k n : Nat) : 1 ≤ (cnt f k n).length := by unfold cnt; split <;> simp
theorem txt_len {t : List UInt8} (h : t.length ≤ 40) : 1 ≤ (txt t).length ∧ (txt t).length ≤ 1 + t.length := by
  unfold txt
  split
  · next hp =>
    rw [List.length_append, cnt_one (by omega)]
    omega
  · rw [List.length_append, cnt_one (by omega)]; omega
theorem txs_len {l : List HP} {f k : Nat} {h : HP} (hl : 8 + l.length < 2 ^ k - 1) (hh : okH h) : 1 ≤ (txs l f k h).length ∧ (txs l f k h).length ≤ 3 + h.n.size + h.v.size := by
  have h1 := nmF_le (numd l) h.n
  rw [numd_length] at h1
  have h2 := txt_len (t := h.n.data.toList) (by rw [ba_len']; exact hh.2.1)
  have h3 := txt_len (t := h.v.data.toList) (by rw [ba_len']; exact hh.2.2)
  rw [ba_len'] at h2 h3
  unfold txs
  simp only [List.length_append]
  rw [cnt_one (by omega)]
  split
  · omega
  · simp; omega
theorem pnN_le (l : List HP) (h : HP) : pnN l h ≤ l.length := by
  unfold pnN
  split
  · next i hi => have := (List.findIdx?_eq_some_iff_getElem.1 hi).1; omega
  · omega
theorem addT_length (l : List HP) (lim : Nat) (h : HP) : (addT l lim h).length ≤ l.length + 1 := by
  unfold addT shr
  split <;> simp <;> omega
theorem pairK_len {l : List HP} {h : HP} (hl : l.length ≤ 50) (hh : okH h) : 1 ≤ (pairK l 256 h).1.length ∧ (pairK l 256 h).1.length ≤ 3 + h.n.size + h.v.size ∧ (pairK l 256 h).2.length ≤ l.length + 1 := by
  obtain ⟨h1, h2, h3⟩ := hh
  unfold pairK
  split
  · rw [if_neg (by unfold tk; omega)]
    obtain ⟨a, b⟩ := txs_len (l := l) (f := 64) (k := 6) (by omega) ⟨h1, h2, h3⟩
    exact ⟨a, b, addT_length _ _ _⟩
  · have := pnN_le (numd l) h
    rw [numd_length] at this
    have h9 : (cnt 128 7 (pnN (numd l) h), l).2.length ≤ l.length + 1 := Nat.le_succ _
    have h8 := cnt_one (f := 128) (k := 7) (n := pnN (numd l) h) (by omega)
    exact ⟨by show 1 ≤ (cnt 128 7 (pnN (numd l) h)).length; omega, by show (cnt 128 7 (pnN (numd l) h)).length ≤ _; omega, h9⟩
/-- What a block has at most. -/
def mostK (hs : List HP) : Nat := (hs.map fun h => 3 + h.n.size + h.v.size).sum
theorem pairsK_len {hs : List HP} {l : List HP} (hl : l.length + hs.length ≤ 50) (hh : ∀ h ∈ hs, okH h) : hs.length ≤ (pairsK hs l 256).1.length ∧ (pairsK hs l 256).1.length ≤ mostK hs := by
  induction hs generalizing l with
  | nil => simp [pairsK, mostK]
  | cons h r ih =>
    simp only [List.length_cons] at hl
    obtain ⟨a, b, c⟩ := pairK_len (l := l) (by omega) (hh h (by simp))
    obtain ⟨d, e⟩ := ih (l := (pairK l 256 h).2) (by omega) (fun x hx => hh x (by simp [hx]))
    simp only [pairsK, List.length_append, List.length_cons, mostK, List.map_cons, List.sum_cons] at e ⊢
    omega

/-- Is the pair there? -/
def There (l : List HP) (h : HP) : Prop := pnN (numd l) h ≠ 0
theorem there_iff (l : List HP) (h : HP) : There l h ↔ ∃ x ∈ numd l, x.n.toList = h.n.toList ∧ x.v.toList = h.v.toList := by
  unfold There pnN pnF
  constructor
  · intro a
    split at a
    · next i hi =>
      obtain ⟨q, hx, _⟩ := List.findIdx?_eq_some_iff_getElem.1 hi
      exact ⟨_, List.getElem_mem q, by simpa using hx⟩
    · omega
  · rintro ⟨x, hx, hq⟩
    split
    · omega
    · next hi =>
      have := List.findIdx?_eq_none_iff.1 hi x hx
      simp [hq] at this
theorem There.more {l : List HP} {h : HP} (a : There l h) (b : List HP) : There (l ++ b) h := by
  obtain ⟨x, hx, e⟩ := (there_iff l h).1 a
  refine (there_iff _ h).2 ⟨x, ?_, e⟩
  unfold numd at hx ⊢
  simp only [List.reverse_append, List.mem_append] at hx ⊢
  exact hx.imp_right Or.inr
/-- What there is room for stays. -/
theorem pairK_there {l : List HP} {h : HP} (hf : szT l + tk h ≤ 256) : ∃ b, (pairK l 256 h).2 = l ++ b ∧ szT (l ++ b) ≤ szT l + tk h ∧ There (l ++ b) h := by
  unfold pairK
  split
  · rw [if_neg (by omega)]
    refine ⟨[h], ?_, by rw [szT_append, szT_cons]; simp [szT], ?_⟩
    · show addT l 256 h = _
      unfold addT
      rw [if_pos (by omega), shr_fits (by omega)]
    · exact (there_iff _ h).2 ⟨h, by simp [numd], rfl, rfl⟩
  · next hne => exact ⟨[], by simp, by simp, by simpa [There] using hne⟩
theorem pairsK_there {hs : List HP} {l : List HP} (hf : szT l + (hs.map tk).sum ≤ 256) : ∃ b, (pairsK hs l 256).2 = l ++ b ∧ ∀ h ∈ hs, There (l ++ b) h := by
  induction hs generalizing l with
  | nil => exact ⟨[], by simp [pairsK], by simp⟩
  | cons h r ih =>
    simp only [List.map_cons, List.sum_cons] at hf
    obtain ⟨b, e1, e2, e3⟩ := pairK_there (l := l) (h := h) (by omega)
    obtain ⟨c, f1, f2⟩ := ih (l := l ++ b) (by omega)
    refine ⟨b ++ c, by simp only [pairsK]; rw [e1, f1, List.append_assoc], fun x hx => ?_⟩
    rw [← List.append_assoc]
    rcases List.mem_cons.1 hx with rfl | hx
    · exact e3.more c
    · exact f2 x hx
theorem pairsK_again {hs : List HP} {l : List HP} (hl : l.length ≤ 50) (hh : ∀ h ∈ hs, There l h) : (pairsK hs l 256).1.length = hs.length ∧ (pairsK hs l 256).2 = l := by
  induction hs with
  | nil => simp [pairsK]
  | cons h r ih =>
    obtain ⟨a, b⟩ := ih (fun x hx => hh x (by simp [hx]))
    have ht := hh h (by simp)
    have hk : pairK l 256 h = (cnt 128 7 (pnN (numd l) h), l) := by unfold pairK; rw [if_neg ht]
    have hn := pnN_le (numd l) h
    rw [numd_length] at hn
    simp only [pairsK, hk, List.length_append, List.length_cons]
    rw [cnt_one (by omega)]
    exact ⟨by omega, b⟩
theorem pairsK_table {hs : List HP} {l : List HP} (h : szT l ≤ 256) : szT (pairsK hs l 256).2 ≤ 256 := by
  induction hs generalizing l with
  | nil => exact h
  | cons x r ih =>
    simp only [pairsK]
    refine ih ?_
    unfold pairK
    split
    · split
      · exact h
      · exact addT_size _ _ _ h
    · exact h
end Go.Proofs.YtghongdbohjaaaaGreatDoor
/-
  Blocks as the document makes them, without the program: bits, tables as logs. Nothing of the translation is imported.
-/
namespace Go.Proofs.YtghongdbohjaaaaGreatDoor
set_option linter.unusedVariables false
set_option linter.unusedSimpArgs false

/-- What happened to a table. -/
structure Ch where
  h : HP
  lim : Int

/-- Does a pair live, from its change on? -/
def grow (c : Ch) (s : Nat) : Nat := if c.h.n.toList.isEmpty then s else s + tk c.h
def aliveF : List Ch → Nat → Bool
  | [], _ => true
  | c :: r, s => if c.lim < (grow c s : Int) then false else aliveF r (grow c s)
def livesB (log : List Ch) (i : Nat) : Bool := match log[i]? with
  | none => false
  | some c => if c.h.n.toList.isEmpty then false else aliveF (log.drop i) 0

def tkAt (log : List Ch) (i : Nat) : Nat := match log[i]? with
  | none => 0
  | some c => tk c.h
def sizeK (log : List Ch) : Nat → Nat
  | 0 => 0
  | i + 1 => sizeK log i + (if livesB log i then tkAt log i else 0)
/-- What the pairs of a table take up. -/
def sizeB (log : List Ch) : Nat := sizeK log log.length

/-- The eight pairs that have numbers for ever. -/
def fixedP : List HP := [⟨⟨#[112, 97, 116, 104]⟩, ⟨#[47]⟩⟩, ⟨⟨#[112, 97, 116, 104]⟩, ⟨#[47, 105, 110, 100, 101, 120]⟩⟩, ⟨⟨#[118, 101, 114, 98]⟩, ⟨#[103, 101, 116]⟩⟩, ⟨⟨#[118, 101, 114, 98]⟩, ⟨#[112, 117, 116]⟩⟩,
  ⟨⟨#[107, 105, 110, 100]⟩, ⟨#[116, 101, 120, 116]⟩⟩, ⟨⟨#[107, 105, 110, 100]⟩, ⟨#[98, 121, 116, 101, 115]⟩⟩, ⟨⟨#[104, 111, 115, 116]⟩, ⟨#[]⟩⟩, ⟨⟨#[108, 101, 110, 103, 116, 104]⟩, ⟨#[48]⟩⟩]
def hAt (log : List Ch) (i : Nat) : HP := match log[i]? with
  | none => ⟨⟨#[]⟩, ⟨#[]⟩⟩
  | some c => c.h
/-- The pairs from change k on that live, the last first, d of them to go. -/
def numK (log : List Ch) : Nat → List HP
  | 0 => fixedP
  | d + 1 => numK log d ++ (if livesB log (log.length - 1 - d) then [hAt log (log.length - 1 - d)] else [])
/-- All pairs that have numbers. -/
def numB (log : List Ch) : List HP := numK log log.length

/-- What follows a count's first byte: seven bits a byte, the lowest first. -/
def tailBF : Nat → Nat → List Bool
  | 0, n => natBits 8 n
  | k + 1, n => if 128 ≤ n then [true] ++ natBits 7 (n % 128) ++ tailBF k (n / 128) else natBits 8 n
def tailB (n : Nat) : List Bool := tailBF n n
theorem tailBF_eq : ∀ (k j n : Nat), n ≤ k → n ≤ j → tailBF k n = tailBF j n
  | 0, 0, _, _, _ => rfl
  | 0, j + 1, n, h, _ => by
    have e : n = 0 := by omega
    subst e
    rfl
  | k + 1, 0, n, _, h => by
    have e : n = 0 := by omega
    subst e
    rfl
  | k + 1, j + 1, n, h1, h2 => by
    unfold tailBF
    by_cases h : 128 ≤ n
    · rw [if_pos h, if_pos h, tailBF_eq k j (n / 128) (by omega) (by omega)]
    · rw [if_neg h, if_neg h]
theorem tailB_more {n : Nat} (h : 128 ≤ n) : tailB n = [true] ++ natBits 7 (n % 128) ++ tailB (n / 128) := by
  obtain ⟨k, e⟩ : ∃ k, n = k + 1 := ⟨n - 1, by omega⟩
  subst e
  show tailBF (k + 1) (k + 1) = _
  rw [tailBF, if_pos h, tailBF_eq k ((k + 1) / 128) ((k + 1) / 128) (by omega) (Nat.le_refl _)]
  rfl
theorem tailB_last {n : Nat} (h : ¬ 128 ≤ n) : tailB n = natBits 8 n := by
  unfold tailB
  cases n with
  | zero => rfl
  | succ k => rw [tailBF, if_neg h]
/-- A count behind the bits 'first'. -/
def countB (first : List Bool) (n : Nat) : List Bool :=
  if n < 2 ^ (8 - first.length) - 1 then first ++ natBits (8 - first.length) n
  else first ++ natBits (8 - first.length) (2 ^ (8 - first.length) - 1) ++ tailB (n - (2 ^ (8 - first.length) - 1))

/-- The bits of a text. -/
def textB (s : List UInt8) : List Bool :=
  if (bytesB (packB s)).length < s.length then countB [true] (bytesB (packB s)).length ++ bitsB (bytesB (packB s)) else countB [false] s.length ++ bitsB s

/-- The least number of a pair with this name, from place k on; 0: none. -/
def nmS (l : List HP) (n : ByteArray) (k : Nat) : Nat := match (l.drop k).findIdx? (fun x => x.n.toList == n.toList) with
  | some i => k + i + 1
  | none => 0

/-- The bits of a pair, and the table behind it. -/
def pairB (log : List Ch) (lim : Int) (h : HP) : List Bool × List Ch := match pnF (numB log) h with
  | some i => (countB [true] (i + 1), log)
  | none => ((if (tk h : Int) ≤ lim then countB [false, true] (nmS (numB log) h.n 0) else countB [false, false, false, false] (nmS (numB log) h.n 0)) ++ (if nmS (numB log) h.n 0 = 0 then textB h.n.data.toList else []) ++ textB h.v.data.toList,
      if (tk h : Int) ≤ lim then log ++ [⟨h, lim⟩] else log)

/-- The least of numbers, and of m. -/
def leastN : List Nat → Nat → Nat
  | [], m => m
  | x :: r, m => leastN r (if x < m then x else m)

/-- A limit that is told. -/
def limC (n : Nat) : Ch := ⟨⟨⟨#[]⟩, ⟨#[]⟩⟩, n⟩
/-- The limits ahead of a block; the table behind them; the limit. -/
def limsB (told : List Nat) (log : List Ch) (lim : Int) : List Bool × List Ch × Int := match told.getLast? with
  | none => ([], log, lim)
  | some last =>
    if leastN told last < last then (countB [false, false, true] (leastN told last) ++ countB [false, false, true] last, log ++ [limC (leastN told last)] ++ [limC last], last)
    else (countB [false, false, true] last, log ++ [limC last], last)
/-- The bits of pairs, one after another. -/
def pairsB : List HP → List Ch → Int → List Bool × List Ch
  | [], log, _ => ([], log)
  | h :: r, log, lim => ((pairB log lim h).1 ++ (pairsB r (pairB log lim h).2 lim).1, (pairsB r (pairB log lim h).2 lim).2)

/-- A block. -/
def blockB (told : List Nat) (log : List Ch) (lim : Int) (hs : List HP) : List Bool := (limsB told log lim).1 ++ (pairsB hs (limsB told log lim).2.1 (limsB told log lim).2.2).1
def noHP : HP := ⟨⟨#[]⟩, ⟨#[]⟩⟩
end Go.Proofs.YtghongdbohjaaaaGreatDoor
