/-
  Goods and scripts, as they are read from a caller's memory.
-/
import Derived.Test.YtckeblkadiehbaaGreatPlaysRel
import Derived.ProofKit
import Derived.OpenShut
import Derived.ShutString
import Derived.ChangeOld
import Derived.JoinedCond
import Derived.Deep.Slices
import Derived.Lib.SmallJoins
namespace Go.Proofs.YtckeblkadiehbaaGreat
open Go.ChangeShapes Go.WideShapes Go.ChangeAt Go.RowKit
open Go.ChangeMaps (open_string shut_string)

theorem own : ownKnob Tryz.prog.godebug = none := by kernel_rfl
theorem laidOut : laidOutB Tryz.prog = true := by kernel_rfl
theorem cellsU8 : Tryz.prog.cellsOf 5 = 1 := by kernel_rfl
theorem cellsInt : Tryz.prog.cellsOf 3 = 1 := by kernel_rfl
theorem cellsBytes : Tryz.prog.cellsOf 54 = 1 := by kernel_rfl
theorem cellsString : Tryz.prog.cellsOf 9 = 1 := by kernel_rfl
theorem cellsFrame : Tryz.prog.cellsOf 56 = 4 := by kernel_rfl
theorem cellsOp : Tryz.prog.cellsOf 49 = 5 := by kernel_rfl
theorem cellsGoods : Tryz.prog.cellsOf 27 = 4 := by kernel_rfl
theorem undFrame : ∃ n0 n1 n2 n3 : Field, Tryz.prog.underlying 56 = some (.struct #[n0, n1, n2, n3]) ∧ n0.type = 3 ∧ n1.type = 3 ∧ n2.type = 3 ∧ n3.type = 54 ∧ n0.offset = 0 ∧ n1.offset = 1 ∧ n2.offset = 2 ∧ n3.offset = 3 :=
  ⟨_, _, _, _, Tryz.underlying56, rfl, rfl, rfl, rfl, rfl, rfl, rfl, rfl⟩
theorem undOp : ∃ n0 n1 n2 n3 n4 : Field, Tryz.prog.underlying 49 = some (.struct #[n0, n1, n2, n3, n4]) ∧ n0.type = 3 ∧ n1.type = 3 ∧ n2.type = 3 ∧ n3.type = 3 ∧ n4.type = 9 ∧ n0.offset = 0 ∧ n1.offset = 1 ∧ n2.offset = 2 ∧ n3.offset = 3 ∧ n4.offset = 4 :=
  ⟨_, _, _, _, _, Tryz.underlying49, rfl, rfl, rfl, rfl, rfl, rfl, rfl, rfl, rfl, rfl⟩
theorem undGoods : ∃ n0 n1 n2 n3 : Field, Tryz.prog.underlying 27 = some (.struct #[n0, n1, n2, n3]) ∧ n0.type = 22 ∧ n1.type = 23 ∧ n2.type = 24 ∧ n3.type = 25 ∧ Deep.oneCellFields Tryz.prog #[n0, n1, n2, n3] = true :=
  ⟨_, _, _, _, Tryz.underlying27, rfl, rfl, rfl, rfl, by kernel_rfl⟩

theorem wf_i64 {n : Int} (h : (Lit.int .i64 n).wf = true) : I64 n := bounds_i64 h
theorem wf_u8 {n : Int} (h : (Lit.int .u8 n).wf = true) : 0 ≤ n ∧ n ≤ 255 := bounds_u8 h

section
variable {H : Type}
theorem bulk_one (d : DataW H) : 1 ≤ Rows.uptoBulk d := by
  cases d with
  | lit l => cases l <;> simp [Rows.uptoBulk]
  | nil => simp [Rows.uptoBulk]
  | ptr d => simp [Rows.uptoBulk]
  | slice elems spare => simp [Rows.uptoBulk]
  | agg parts => simp [Rows.uptoBulk]
  | iface t d => simp [Rows.uptoBulk]
  | map entries => simp [Rows.uptoBulk]
  | held h => simp [Rows.uptoBulk]
theorem bulk_length (l : List (DataW H)) : l.length ≤ Rows.uptoBulkAll l := by
  induction l with
  | nil => simp [Rows.uptoBulkAll]
  | cons x r ih => have := bulk_one x; simp only [Rows.uptoBulkAll, List.length_cons]; omega
theorem bulk_mem {l : List (DataW H)} {d : DataW H} (h : d ∈ l) : Rows.uptoBulk d ≤ Rows.uptoBulkAll l := by
  induction l with
  | nil => simp at h
  | cons x r ih =>
    simp only [Rows.uptoBulkAll]
    rcases List.mem_cons.1 h with rfl | h
    · omega
    · have := ih h; omega
theorem slice_bulk (elems spare : List (DataW H)) : elems.length + spare.length + 1 ≤ Rows.uptoBulk (.slice elems spare) := by
  have h1 := bulk_length elems
  have h2 := bulk_length spare
  simp only [Rows.uptoBulk]
  omega
end

section
variable {H : Type} {enc : TypeId × Value → H} {W : World}

/-- A slice of bytes, as it reads. -/
theorem open_bytes {fuel : Nat} {v : Value} {x : DataW H × List MemPlace} (h : DataW.trod enc Tryz.prog W 0 (fun _ => true) true fuel 54 [v] = some x) : ∃ body, BytesA W v body ∧ body.length ≤ Rows.uptoBulk x.1 := by
  rcases open_ints Tryz.underlying54 Tryz.underlying5 cellsU8 h with ⟨hcs, _⟩ | ⟨a, len, cap, zs, hcs, _, hl, hm, hz, hx, hcell, hwz⟩
  · simp at hcs
    exact ⟨[], Or.inl (Or.inl ⟨hcs, rfl⟩), by simp⟩
  · simp at hcs
    subst hcs
    simp only [if_true] at hz
    by_cases h0 : cap = 0
    · have hl0 : len = 0 := by omega
      subst hl0
      subst h0
      exact ⟨[], Or.inr ⟨a, rfl, rfl⟩, by simp⟩
    · have hc0 := hcell 0 (by omega)
      obtain ⟨b, off, spot⟩ := a
      have hspot : spot = none := by simpa [Addr.add] using World.cell?_spot hc0
      subst hspot
      have hb : b < W.heap.size := by
        have := World.block_lt_of_cell? W _ hc0
        simpa [Addr.add] using this
      refine ⟨(zs.take len).map ofI, Or.inl (Or.inr ⟨b, off, cap, by simp; omega, hb, by simp; omega, fun i hi => ?_⟩), ?_⟩
      · simp at hi
        have hc := hcell i (by omega)
        have e : (⟨b, off, none⟩ : Addr).add i = ⟨b, off + i, none⟩ := by unfold Addr.add; split <;> simp_all
        rw [e] at hc
        rw [hc]
        have hi2 : i < zs.length := by omega
        have hi1 : i < len := by omega
        obtain ⟨h1, h2⟩ := wf_u8 (hwz (zs.getD i 0) (by rw [getD_lt _ _ _ hi2]; exact List.getElem_mem _))
        have e2 : ((zs.take len).map ofI).getD i 0 = ofI (zs.getD i 0) := by simp [List.getD, hi1, hi2]
        rw [e2, ofI_toNat h1 h2]
      · rw [hx]
        have hsb := slice_bulk (H := H) (lits .u8 (zs.take len)) (lits .u8 (zs.drop len))
        have hl1 : (lits (H := H) .u8 (zs.take len)).length = (zs.take len).length := by simp [lits]
        rw [hl1] at hsb
        simp only [List.length_map]
        omega

set_option maxRecDepth 100000 in
/-- A list of frames, as it reads. -/
theorem open_frames {fuel : Nat} {sa : Option Addr} {len cap : Nat} {x : DataW H × List MemPlace} (h : DataW.trod enc Tryz.prog W 0 (fun _ => true) true fuel 22 [.slice sa len cap] = some x) (hb : Rows.uptoBulk x.1 ≤ 1048576) :
    ∃ qs : List (Fr × Value), qs.length = len ∧ len ≤ 1048576 ∧ FsIn W sa qs := by
  rcases Deep.open_slice Tryz.underlying22 h with ⟨hcs, _⟩ | ⟨a, len', cap', m, n, D, Pl, hcs, _, hl, hmx, hm, hx, hel⟩
  · simp at hcs
    obtain ⟨rfl, rfl, rfl⟩ := hcs
    exact ⟨[], rfl, by omega, ⟨fun k hk => by simp at hk, by simp, by simp⟩⟩
  · simp at hcs
    obtain ⟨rfl, rfl, rfl⟩ := hcs
    simp only [if_true] at hm
    rw [cellsFrame] at hel
    obtain ⟨n0, n1, n2, n3, hu, t0, t1, t2, t3, o0, o1, o2, o3⟩ := undFrame
    rw [hx] at hb
    have hone : ∀ i, i < len → ∃ q : Fr × Value, (W.cell? (a.add (i * 4)) = some (.int .i64 q.1.kind) ∧ W.cell? ((a.add (i * 4)).add 1) = some (.int .i64 q.1.flags) ∧ W.cell? ((a.add (i * 4)).add 2) = some (.int .i64 q.1.stream) ∧ W.cell? ((a.add (i * 4)).add 3) = some q.2) ∧
        BytesA W q.2 q.1.body ∧ q.1.body.length ≤ 4194304 := by
      intro i hi
      obtain ⟨cs, hc1, hc2⟩ := hel i (by omega)
      obtain ⟨_, hlen, hcell⟩ := World.cells?_some hc1
      obtain ⟨y0, y1, y2, y3, n', hD, _, h0, h1, h2, h3⟩ := Joins.trod_struct4 hu hc2
      have hDb : Rows.uptoBulk (D i) ≤ 1048576 := by
        have hm1 : D i ∈ (List.range len).map D := List.mem_map.2 ⟨i, by simpa using hi, rfl⟩
        have := bulk_mem hm1
        simp only [Rows.uptoBulk] at hb
        omega
      have hD1 : D i = .agg [y0.1, y1.1, y2.1, y3.1] := congrArg Prod.fst hD
      rw [hD1] at hDb
      simp only [Rows.uptoBulk, Rows.uptoBulkAll] at hDb
      match cs, hlen with
      | [c0, c1, c2, c3], _ =>
        rw [t0, o0, cellsInt] at h0
        rw [t1, o1, cellsInt] at h1
        rw [t2, o2, cellsInt] at h2
        rw [t3, o3, cellsBytes] at h3
        obtain ⟨k0, e0, _, w0⟩ := DataW.trod_int Tryz.underlying3 h0
        obtain ⟨k1, e1, _, w1⟩ := DataW.trod_int Tryz.underlying3 h1
        obtain ⟨k2, e2, _, w2⟩ := DataW.trod_int Tryz.underlying3 h2
        simp at e0 e1 e2 h3
        subst e0 e1 e2
        obtain ⟨body, hbody, hbl⟩ := open_bytes h3
        have d0 := hcell 0 (by omega)
        have d1 := hcell 1 (by omega)
        have d2 := hcell 2 (by omega)
        have d3 := hcell 3 (by omega)
        refine ⟨(⟨k0, k1, k2, body⟩, c3), ⟨?_, d1, d2, d3⟩, hbody, ?_⟩
        · simpa [Addr.add] using d0
        · show body.length ≤ _
          omega
    obtain ⟨f, hf⟩ := @Deep.choose_lt (Fr × Value) ⟨(⟨0, 0, 0, []⟩, .bool false)⟩ _ _ hone
    have hlenb : len ≤ 1048576 := by
      have := slice_bulk ((List.range len).map D) ((List.range (m - len)).map fun j => D (len + j))
      simp only [List.length_map, List.length_range] at this
      simp only at hb
      omega
    refine ⟨(List.range len).map f, by simp, hlenb, ⟨fun k hk => ?_, fun q hq => ?_, fun q hq => ?_⟩⟩
    · simp at hk
      obtain ⟨⟨e0, e1, e2, e3⟩, _⟩ := hf k hk
      obtain ⟨b, off, spot⟩ := a
      have hspot : spot = none := by
        obtain ⟨⟨g0, _⟩, _⟩ := hf 0 (by omega)
        simpa [Addr.add] using World.cell?_spot g0
      subst hspot
      have ad : ∀ j, (⟨b, off, none⟩ : Addr).add j = ⟨b, off + j, none⟩ := fun j => by unfold Addr.add; split <;> simp_all
      have ad2 : ∀ i j, ((⟨b, i, none⟩ : Addr)).add j = ⟨b, i + j, none⟩ := fun i j => by unfold Addr.add; split <;> simp_all
      rw [ad] at e0 e1 e2 e3
      rw [ad2] at e1 e2 e3
      refine ⟨b, off, rfl, World.block_lt_of_cell? W _ e0, ?_, ?_, ?_, ?_⟩
      · simpa using e0
      · simpa using e1
      · simpa using e2
      · simpa using e3
    · obtain ⟨i, hi, rfl⟩ := List.mem_map.1 hq
      exact (hf i (by simpa using hi)).2.1
    · obtain ⟨i, hi, rfl⟩ := List.mem_map.1 hq
      exact (hf i (by simpa using hi)).2.2

theorem trod_struct5 {P : Program} {base : Nat} {spare : Nat → Bool} {held : Bool} {t : TypeId} {f0 f1 f2 f3 f4 : Field} {fuel : Nat} {cs : List Value} {x : DataW H × List MemPlace} (ht : P.underlying t = some (.struct #[f0, f1, f2, f3, f4])) (h : DataW.trod enc P W base spare held fuel t cs = some x) :
    ∃ y0 y1 y2 y3 y4 n, x.1 = .agg [y0.1, y1.1, y2.1, y3.1, y4.1] ∧ DataW.trod enc P W base spare held n f0.type ((cs.drop f0.offset).take (P.cellsOf f0.type)) = some y0 ∧
      DataW.trod enc P W base spare held n f1.type ((cs.drop f1.offset).take (P.cellsOf f1.type)) = some y1 ∧ DataW.trod enc P W base spare held n f2.type ((cs.drop f2.offset).take (P.cellsOf f2.type)) = some y2 ∧
      DataW.trod enc P W base spare held n f3.type ((cs.drop f3.offset).take (P.cellsOf f3.type)) = some y3 ∧ DataW.trod enc P W base spare held n f4.type ((cs.drop f4.offset).take (P.cellsOf f4.type)) = some y4 := by
  obtain ⟨xs, n, _, rfl, hl, hlen, hf⟩ := DataW.trod_struct ht h
  match xs, hlen with
  | [y0, y1, y2, y3, y4], _ => exact ⟨y0, y1, y2, y3, y4, n, by simp, by simpa using hf 0 f0 rfl, by simpa using hf 1 f1 rfl, by simpa using hf 2 f2 rfl, by simpa using hf 3 f3 rfl, by simpa using hf 4 f4 rfl⟩

theorem wt_bulk {f : Nat → OpV} {D : Nat → DataW H} {L : List Nat} (h : ∀ i ∈ L, 1 + (f i).s.size ≤ Rows.uptoBulk (D i)) : wt (L.map f) ≤ Rows.uptoBulkAll (L.map D) := by
  induction L with
  | nil => simp [wt, Rows.uptoBulkAll]
  | cons i r ih =>
    have h1 := h i (by simp)
    have h2 := ih (fun j hj => h j (by simp [hj]))
    simp only [List.map_cons, wt, Rows.uptoBulkAll]
    omega

set_option maxRecDepth 100000 in
/-- A script, as it reads. -/
theorem open_ops {fuel : Nat} {sa : Option Addr} {len cap : Nat} {x : DataW H × List MemPlace} (h : DataW.trod enc Tryz.prog W 0 (fun _ => true) true fuel 28 [.slice sa len cap] = some x) (hb : Rows.uptoBulk x.1 ≤ 1048576) :
    ∃ ops : List OpV, ops.length = len ∧ len ≤ 1048576 ∧ wt ops ≤ 1048576 ∧ OpsIn W sa ops := by
  rcases Deep.open_slice Tryz.underlying28 h with ⟨hcs, _⟩ | ⟨a, len', cap', m, n, D, Pl, hcs, _, hl, hmx, hm, hx, hel⟩
  · simp at hcs
    obtain ⟨rfl, rfl, rfl⟩ := hcs
    exact ⟨[], rfl, by omega, by simp [wt], ⟨fun k hk => by simp at hk, by simp⟩⟩
  · simp at hcs
    obtain ⟨rfl, rfl, rfl⟩ := hcs
    simp only [if_true] at hm
    rw [cellsOp] at hel
    obtain ⟨n0, n1, n2, n3, n4, hu, t0, t1, t2, t3, t4, o0, o1, o2, o3, o4⟩ := undOp
    rw [hx] at hb
    have hone : ∀ i, i < len → ∃ o : OpV, (W.cell? (a.add (i * 5)) = some (.int .i64 o.k) ∧ W.cell? ((a.add (i * 5)).add 1) = some (.int .i64 o.a) ∧ W.cell? ((a.add (i * 5)).add 2) = some (.int .i64 o.b) ∧ W.cell? ((a.add (i * 5)).add 3) = some (.int .i64 o.c) ∧ W.cell? ((a.add (i * 5)).add 4) = some (.string o.s)) ∧ o.ok ∧ 1 + o.s.size ≤ Rows.uptoBulk (D i) := by
      intro i hi
      obtain ⟨cs, hc1, hc2⟩ := hel i (by omega)
      obtain ⟨_, hlen, hcell⟩ := World.cells?_some hc1
      obtain ⟨y0, y1, y2, y3, y4, n', hD1, h0, h1, h2, h3, h4⟩ := trod_struct5 hu hc2
      have hDb : Rows.uptoBulk (D i) ≤ 1048576 := by
        have hm1 : D i ∈ (List.range len).map D := List.mem_map.2 ⟨i, by simpa using hi, rfl⟩
        have := bulk_mem hm1
        simp only [Rows.uptoBulk] at hb
        omega
      simp only at hD1
      rw [hD1] at hDb
      simp only [Rows.uptoBulk, Rows.uptoBulkAll] at hDb
      match cs, hlen with
      | [c0, c1, c2, c3, c4], _ =>
        rw [t0, o0, cellsInt] at h0
        rw [t1, o1, cellsInt] at h1
        rw [t2, o2, cellsInt] at h2
        rw [t3, o3, cellsInt] at h3
        rw [t4, o4, cellsString] at h4
        obtain ⟨k0, e0, _, w0⟩ := DataW.trod_int Tryz.underlying3 h0
        obtain ⟨k1, e1, _, w1⟩ := DataW.trod_int Tryz.underlying3 h1
        obtain ⟨k2, e2, _, w2⟩ := DataW.trod_int Tryz.underlying3 h2
        obtain ⟨k3, e3, _, w3⟩ := DataW.trod_int Tryz.underlying3 h3
        obtain ⟨s, e4, hx4, _⟩ := DataW.trod_string Tryz.underlying9 h4
        simp at e0 e1 e2 e3 e4
        subst e0 e1 e2 e3 e4
        have d0 := hcell 0 (by omega)
        have d1 := hcell 1 (by omega)
        have d2 := hcell 2 (by omega)
        have d3 := hcell 3 (by omega)
        have d4 := hcell 4 (by omega)
        have e : s.data.toList.length = s.size := by rw [Array.length_toList]; rfl
        rw [hx4] at hDb hD1
        refine ⟨⟨k0, k1, k2, k3, s⟩, ⟨?_, d1, d2, d3, d4⟩, ⟨wf_i64 w0, wf_i64 w1, wf_i64 w2, wf_i64 w3, ?_⟩, ?_⟩
        · simpa [Addr.add] using d0
        · show s.size ≤ _
          simp only [Rows.uptoBulk] at hDb
          omega
        · show 1 + s.size ≤ _
          rw [hD1]
          simp only [Rows.uptoBulk, Rows.uptoBulkAll]
          omega
    obtain ⟨f, hf⟩ := @Deep.choose_lt OpV ⟨⟨0, 0, 0, 0, .empty⟩⟩ _ _ hone
    have hlenb : len ≤ 1048576 := by
      have := slice_bulk ((List.range len).map D) ((List.range (m - len)).map fun j => D (len + j))
      simp only [List.length_map, List.length_range] at this
      simp only at hb
      omega
    have hwt : wt ((List.range len).map f) ≤ 1048576 := by
      have h1 := wt_bulk (f := f) (D := D) (L := List.range len) (fun i hi => (hf i (by simpa using hi)).2.2)
      simp only [Rows.uptoBulk] at hb
      omega
    refine ⟨(List.range len).map f, by simp, hlenb, hwt, ⟨fun k hk => ?_, fun q hq => ?_⟩⟩
    · simp at hk
      obtain ⟨⟨e0, e1, e2, e3, e4⟩, _⟩ := hf k hk
      obtain ⟨b, off, spot⟩ := a
      have hspot : spot = none := by
        obtain ⟨⟨g0, _⟩, _⟩ := hf 0 (by omega)
        simpa [Addr.add] using World.cell?_spot g0
      subst hspot
      have ad : ∀ j, (⟨b, off, none⟩ : Addr).add j = ⟨b, off + j, none⟩ := fun j => by unfold Addr.add; split <;> simp_all
      have ad2 : ∀ i j, ((⟨b, i, none⟩ : Addr)).add j = ⟨b, i + j, none⟩ := fun i j => by unfold Addr.add; split <;> simp_all
      rw [ad] at e0 e1 e2 e3 e4
      rw [ad2] at e1 e2 e3 e4
      refine ⟨b, off, rfl, World.block_lt_of_cell? W _ e0, ?_, ?_, ?_, ?_, ?_⟩
      · simpa using e0
      · simpa using e1
      · simpa using e2
      · simpa using e3
      · simpa using e4
    · obtain ⟨i, hi, rfl⟩ := List.mem_map.1 hq
      exact (hf i (by simpa using hi)).2.1
end
end Go.Proofs.YtckeblkadiehbaaGreat
