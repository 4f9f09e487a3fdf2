import Derived.Test.YtdccldbefdfppaaGreatDoorPPcWalk
import Derived.Test.YtdccldbefdfppaaGreatDoorPGbk
import Derived.Test.YtdccldbefdfppaaGreatDoorCards
import Derived.Test.YtdccldbefdfppaaGreatDoorTie
import Derived.SevenTiedAt
import Derived.SizedLaws
import Derived.Stop.Joined
import Derived.LaidLaws
import Derived.Deep.DeepHandedRow
import Derived.ShutString
import Derived.ChangeMaps5
import Derived.Lib.SmallJoins
import Derived.OpenShut
import Derived.Deep.Slices
set_option linter.unusedVariables false
set_option linter.unusedSimpArgs false
namespace Go.Proofs.YtdccldbefdfppaaGreatDoor
open Go.ChangeShapes Go.WideShapes Go.ChangeAt Go.RowKit Go.ChangeMaps
theorem own : ownKnob Tryz.prog.godebug = none := by kernel_rfl
theorem laid_plain : (Rows.piecesUptoRow.laid.all fun x => x.2.handleName?.isNone) = true := by kernel_rfl
theorem gl_row {W : World} (h : laidMetH Tryz.prog Rows.piecesUptoRow.laid W) : Gl W := by
 rw [MakeChecks.laidMetH_plain _ _ _ laid_plain] at h
 exact gl_of_laid h (by simp [Rows.piecesUptoRow]) (by simp [Rows.piecesUptoRow]) (by simp [Rows.piecesUptoRow]) (by simp [Rows.piecesUptoRow]) (by simp [Rows.piecesUptoRow]) (by simp [Rows.piecesUptoRow]) (by simp [Rows.piecesUptoRow])
theorem door_met (os : Os) (args : Array Value) : laidMetH Tryz.prog Rows.piecesUptoRow.laid ((World.doorLaid Tryz.prog 400 os).forCall (fun _ _ => 0) ⟨#[], args, []⟩).memory :=
 laidMetH_of_parts3 (fuel := 8) (laidMet_of_run' 8 (by kernel_rfl) (by kernel_rfl)) (by kernel_rfl) (by kernel_rfl)
theorem undConfig : ∃ n0 n1 n2 n3 : Field, Tryz.prog.underlying 23 = some (.struct #[n0, n1, n2, n3]) ∧ n0.type = 3 ∧ n1.type = 3 ∧ n2.type = 3 ∧ n3.type = 3 ∧ Deep.oneCellFields Tryz.prog #[n0, n1, n2, n3] = true :=
 ⟨_, _, _, _, Tryz.underlying23, rfl, rfl, rfl, rfl, by kernel_rfl⟩
theorem cellsConfig : Tryz.prog.cellsOf 23 = 4 := by kernel_rfl
theorem laidOut : laidOutB Tryz.prog = true := piecesUptoRow_laid
theorem int_of {H : Type} {enc : TypeId × Value → H} {W : World} {n : Nat} {v : Value} {y : DataW H × List MemPlace} (h : DataW.trod enc Tryz.prog W 0 (fun _ => true) true n 3 [v] = some y) : ∃ k, v = .int .i64 k ∧ I64 k := by
 obtain ⟨k0, e0, _, w0⟩ := DataW.trod_int Tryz.underlying3 h
 simp only [List.cons.injEq, and_true] at e0
 exact ⟨k0, e0, bounds_i64 w0⟩
theorem cells5 : Tryz.prog.cellsOf 5 = 1 := by kernel_rfl
theorem cells3 : Tryz.prog.cellsOf 3 = 1 := by kernel_rfl
theorem cells24 : Tryz.prog.cellsOf 44 = 1 := by kernel_rfl
theorem cells26 : Tryz.prog.cellsOf 48 = 4 := by kernel_rfl
theorem und26 : ∃ n0 n1 n2 n3 : Field, Tryz.prog.underlying 48 = some (.struct #[n0, n1, n2, n3]) ∧ n0.type = 3 ∧ n1.type = 3 ∧ n2.type = 3 ∧ n3.type = 44 ∧ n0.offset = 0 ∧ n1.offset = 1 ∧ n2.offset = 2 ∧ n3.offset = 3 :=
 ⟨_, _, _, _, Tryz.underlying48, rfl, rfl, rfl, rfl, rfl, rfl, rfl, rfl⟩
theorem wf_i64 {n : Int} (h : (Lit.int .i64 n).wf = true) : I64 n := by
 have := bounds_i64 h
 exact this
section
variable {H : Type}
theorem bulk_one (d : DataW H) : 1 ≤ Rows.uptoBulk d := by
 cases d with
 | lit l => cases l <;> simp [Rows.uptoBulk]
 | nil => simp [Rows.uptoBulk]
 | ptr d => simp [Rows.uptoBulk]
 | slice elems spare => simp [Rows.uptoBulk]
 | agg parts => simp [Rows.uptoBulk]
 | iface t d => simp [Rows.uptoBulk]
 | map entries => simp [Rows.uptoBulk]
 | held h => simp [Rows.uptoBulk]
theorem bulk_length (l : List (DataW H)) : l.length ≤ Rows.uptoBulkAll l := by
 induction l with
 | nil => simp [Rows.uptoBulkAll]
 | cons x r ih => have := bulk_one x; simp only [Rows.uptoBulkAll, List.length_cons]; omega
theorem slice_bulk (elems spare : List (DataW H)) : elems.length + spare.length + 1 ≤ Rows.uptoBulk (.slice elems spare) := by
 have h1 := bulk_length elems
 have h2 := bulk_length spare
 simp only [Rows.uptoBulk]
 omega
end
section
variable {H : Type} {enc : TypeId × Value → H} {W : World}
theorem wf_u8 {n : Int} (h : (Lit.int .u8 n).wf = true) : 0 ≤ n ∧ n ≤ 255 := bounds_u8 h
theorem open_bytes {fuel : Nat} {v : Value} {x : DataW H × List MemPlace} (h : DataW.trod enc Tryz.prog W 0 (fun _ => true) true fuel 44 [v] = some x) : ∃ body, BytesA W v body := by
 rcases open_ints Tryz.underlying44 Tryz.underlying5 cells5 h with ⟨hcs, _⟩ | ⟨a, len, cap, zs, hcs, _, hl, hm, hz, _, hcell, hwz⟩
 ·simp at hcs
  exact ⟨[], Or.inl (Or.inl ⟨hcs, rfl⟩)⟩
 ·simp at hcs
  subst hcs
  simp only [if_true] at hz
  by_cases h0 : cap = 0
  ·have hl0 : len = 0 := by omega
   subst hl0
   subst h0
   exact ⟨[], Or.inr ⟨a, rfl, rfl⟩⟩
  ·have hc0 := hcell 0 (by omega)
   obtain ⟨b, off, spot⟩ := a
   have hspot : spot = none := by simpa [Addr.add] using World.cell?_spot hc0
   subst hspot
   have hb : b < W.heap.size := by
    have := World.block_lt_of_cell? W _ hc0
    simpa [Addr.add] using this
   refine ⟨(zs.take len).map ofI, Or.inl (Or.inr ⟨b, off, cap, by simp; omega, hb, by simp; omega, fun i hi => ?_⟩)⟩
   simp at hi
   have hc := hcell i (by omega)
   have e : (⟨b, off, none⟩ : Addr).add i = ⟨b, off + i, none⟩ := by unfold Addr.add; split <;> simp_all
   rw [e] at hc
   rw [hc]
   have hi2 : i < zs.length := by omega
   have hi1 : i < len := by omega
   obtain ⟨h1, h2⟩ := wf_u8 (hwz (zs.getD i 0) (by rw [getD_lt _ _ _ hi2]; exact List.getElem_mem _))
   have e2 : ((zs.take len).map ofI).getD i 0 = ofI (zs.getD i 0) := by simp [List.getD, hi1, hi2]
   rw [e2, ofI_toNat h1 h2]
theorem open_cuts {fuel : Nat} {sa : Option Addr} {len cap : Nat} {x : DataW H × List MemPlace} (h : DataW.trod enc Tryz.prog W 0 (fun _ => true) true fuel 40 [.slice sa len cap] = some x) (hb : Rows.uptoBulk x.1 ≤ 1048576) :
  (∀ i, i < len → ∃ cb coff z, sa = some ⟨cb, coff, none⟩ ∧ cb < W.heap.size ∧ W.cell? ⟨cb, coff + i, none⟩ = some (.int .i64 z) ∧ I64 z) ∧ len ≤ 1048576 := by
 rcases open_ints Tryz.underlying40 Tryz.underlying3 cells3 h with ⟨hcs, _⟩ | ⟨a, len', cap', zs, hcs, _, hl, hm, hz, hx, hcell, hwz⟩
 ·simp at hcs
  obtain ⟨rfl, rfl, rfl⟩ := hcs
  exact ⟨fun i hi => by omega, by omega⟩
 ·simp at hcs
  obtain ⟨rfl, rfl, rfl⟩ := hcs
  simp only [if_true] at hz
  by_cases h0 : len = 0
  ·subst h0
   exact ⟨fun i hi => by omega, by omega⟩
  ·have hc0 := hcell 0 (by omega)
   obtain ⟨b, off, spot⟩ := a
   have hspot : spot = none := by simpa [Addr.add] using World.cell?_spot hc0
   subst hspot
   have hbl : b < W.heap.size := by
    have := World.block_lt_of_cell? W _ hc0
    simpa [Addr.add] using this
   refine ⟨fun i hi => ⟨b, off, zs.getD i 0, rfl, hbl, ?_⟩, ?_⟩
   ·have hc := hcell i (by omega)
    have e : (⟨b, off, none⟩ : Addr).add i = ⟨b, off + i, none⟩ := by unfold Addr.add; split <;> simp_all
    rw [e] at hc
    have hi2 : i < zs.length := by omega
    exact ⟨hc, wf_i64 (hwz (zs.getD i 0) (by rw [getD_lt _ _ _ hi2]; exact List.getElem_mem _))⟩
   ·rw [hx] at hb
    have hsb := slice_bulk (H := H) (lits .i64 (zs.take len)) (lits .i64 (zs.drop len))
    have hl1 : (lits (H := H) .i64 (zs.take len)).length = len := by simp [lits]; omega
    rw [hl1] at hsb
    simp only at hb
    omega
theorem list_four {α : Type} : ∀ {l : List α}, l.length = 4 → ∃ a b c d, l = [a, b, c, d]
 | [a, b, c, d], _ => ⟨a, b, c, d, rfl⟩
theorem open_frames {fuel : Nat} {sa : Option Addr} {len cap : Nat} {x : DataW H × List MemPlace} (h : DataW.trod enc Tryz.prog W 0 (fun _ => true) true fuel 39 [.slice sa len cap] = some x) (hb : Rows.uptoBulk x.1 ≤ 1048576) :
  ∃ qs : List (Fr × Value), qs.length = len ∧ len ≤ 1048576 ∧ FsArg W sa qs := by
 rcases Deep.open_slice Tryz.underlying39 h with ⟨hcs, _⟩ | ⟨a, len', cap', m, n, D, Pl, hcs, _, hl, hmx, hm, hx, hel⟩
 ·simp at hcs
  obtain ⟨rfl, rfl, rfl⟩ := hcs
  exact ⟨[], rfl, by omega, ⟨fun k hk => by simp at hk, by simp, by simp⟩⟩
 ·simp at hcs
  obtain ⟨rfl, rfl, rfl⟩ := hcs
  simp only [if_true] at hm
  rw [cells26] at hel
  obtain ⟨n0, n1, n2, n3, hu, t0, t1, t2, t3, o0, o1, o2, o3⟩ := und26
  have hone : ∀ i, i < len → ∃ q : Fr × Value, (W.cell? (a.add (i * 4)) = some (.int .i64 q.1.kind) ∧ W.cell? ((a.add (i * 4)).add 1) = some (.int .i64 q.1.flags) ∧ W.cell? ((a.add (i * 4)).add 2) = some (.int .i64 q.1.stream) ∧ W.cell? ((a.add (i * 4)).add 3) = some q.2) ∧
    BytesA W q.2 q.1.body ∧ I64 q.1.kind ∧ I64 q.1.flags ∧ I64 q.1.stream := by
   intro i hi
   obtain ⟨cs, hc1, hc2⟩ := hel i (by omega)
   obtain ⟨_, hlen, hcell⟩ := World.cells?_some hc1
   obtain ⟨y0, y1, y2, y3, n', _, _, h0, h1, h2, h3⟩ := Joins.trod_struct4 hu hc2
   obtain ⟨c0, c1, c2, c3, rfl⟩ := list_four hlen
   ·skip
    rw [t0, o0, cells3] at h0
    rw [t1, o1, cells3] at h1
    rw [t2, o2, cells3] at h2
    rw [t3, o3, cells24] at h3
    obtain ⟨k0, e0, _, w0⟩ := DataW.trod_int Tryz.underlying3 h0
    obtain ⟨k1, e1, _, w1⟩ := DataW.trod_int Tryz.underlying3 h1
    obtain ⟨k2, e2, _, w2⟩ := DataW.trod_int Tryz.underlying3 h2
    simp at e0 e1 e2 h3
    subst e0 e1 e2
    obtain ⟨body, hbody⟩ := open_bytes h3
    have d0 := hcell 0 (by omega)
    have d1 := hcell 1 (by omega)
    have d2 := hcell 2 (by omega)
    have d3 := hcell 3 (by omega)
    refine ⟨(⟨k0, k1, k2, body⟩, c3), ⟨?_, d1, d2, d3⟩, hbody, wf_i64 w0, wf_i64 w1, wf_i64 w2⟩
    simpa [Addr.add] using d0
  obtain ⟨f, hf⟩ := @Deep.choose_lt (Fr × Value) ⟨(⟨0, 0, 0, []⟩, .bool false)⟩ _ _ hone
  have hlenb : len ≤ 1048576 := by
   rw [hx] at hb
   have := slice_bulk ((List.range len).map D) ((List.range (m - len)).map fun j => D (len + j))
   simp only [List.length_map, List.length_range] at this
   simp only at hb
   omega
  refine ⟨(List.range len).map f, by simp, hlenb, ⟨fun k hk => ?_, fun q hq => ?_, fun q hq => ?_⟩⟩
  ·simp at hk
   obtain ⟨⟨e0, e1, e2, e3⟩, _⟩ := hf k hk
   obtain ⟨b, off, spot⟩ := a
   have hspot : spot = none := by
    obtain ⟨⟨g0, _⟩, _⟩ := hf 0 (by omega)
    simpa [Addr.add] using World.cell?_spot g0
   subst hspot
   have ad : ∀ j, (⟨b, off, none⟩ : Addr).add j = ⟨b, off + j, none⟩ := fun j => by unfold Addr.add; split <;> simp_all
   have ad2 : ∀ i j, ((⟨b, i, none⟩ : Addr)).add j = ⟨b, i + j, none⟩ := fun i j => by unfold Addr.add; split <;> simp_all
   rw [ad] at e0 e1 e2 e3
   rw [ad2] at e1 e2 e3
   refine ⟨b, off, rfl, World.block_lt_of_cell? W _ e0, ?_, ?_, ?_, ?_⟩
   ·simpa using e0
   ·simpa using e1
   ·simpa using e2
   ·simpa using e3
  ·obtain ⟨i, hi, rfl⟩ := List.mem_map.1 hq
   exact (hf i (by simpa using hi)).2.1
  ·obtain ⟨i, hi, rfl⟩ := List.mem_map.1 hq
   exact (hf i (by simpa using hi)).2.2
end
set_option maxRecDepth 100000 in
theorem lifted (os : Os) (started : os.Started) (H : Type) (enc : TypeId × Value → H) (F : Stop.Interp) :
  ReturnsInHanded {} Tryz.checked os 4 .any ((Rows.OpenSpec.upto Rows.piecesSpec).preRow enc Tryz.prog Tryz.f4 Rows.piecesUptoRow.domain false Rows.piecesUptoRow.laid) (((Rows.OpenSpec.upto Rows.piecesSpec).at F).post enc Tryz.prog Tryz.f4 false true false false) := by
 refine returnsInHanded_of_row (C := Tryz.checked) (s := Rows.OpenSpec.upto Rows.piecesSpec) own started (by kernel_rfl) Tryz.func4 ?_ ?_
 ·have hsh : ((World.doorLaid Tryz.prog 400 os).forCall (fun _ _ => 0) ⟨#[], #[.bool false, .agg #[.int .i64 0, .int .i64 0, .int .i64 0, .int .i64 0], .slice none 0 0, .string .empty, .slice none 0 0], []⟩).Shaped Tryz.prog := World.shaped_of_RefB (by kernel_rfl) (by kernel_rfl)
  have hok : Input.okWideB Tryz.prog ((World.doorLaid Tryz.prog 400 os).forCall (fun _ _ => 0) ⟨#[], #[.bool false, .agg #[.int .i64 0, .int .i64 0, .int .i64 0, .int .i64 0], .slice none 0 0, .string .empty, .slice none 0 0], []⟩) 4 ⟨#[], #[.bool false, .agg #[.int .i64 0, .int .i64 0, .int .i64 0, .int .i64 0], .slice none 0 0, .string .empty, .slice none 0 0], []⟩ = true := by kernel_rfl
  have hx : DataW.whole enc Tryz.prog ((World.doorLaid Tryz.prog 400 os).forCall (fun _ _ => 0) ⟨#[], #[.bool false, .agg #[.int .i64 0, .int .i64 0, .int .i64 0, .int .i64 0], .slice none 0 0, .string .empty, .slice none 0 0], []⟩).memory Tryz.f4.params.toList (Rows.OpenSpec.upto Rows.piecesSpec).vars false [.bool false, .agg #[.int .i64 0, .int .i64 0, .int .i64 0, .int .i64 0], .slice none 0 0, .string .empty, .slice none 0 0] 8 = some ([.lit (.bool false), .agg [.lit (.int .i64 0), .lit (.int .i64 0), .lit (.int .i64 0), .lit (.int .i64 0)], .nil, .lit (.string []), .nil], [], []) := by kernel_rfl
  refine ⟨World.doorLaid Tryz.prog 400 os, fun _ _ => 0, ⟨#[], #[.bool false, .agg #[.int .i64 0, .int .i64 0, .int .i64 0, .int .i64 0], .slice none 0 0, .string .empty, .slice none 0 0], []⟩, rfl, hsh, (Input.okWide_of_okWideB (base := 0) hok).1, (Input.okWide_of_okWideB hok).2, ⟨⟨(OpenSpec.pre_some (k := Rows.uptoSmall) rfl _ _ _ _).2 ⟨_, _, _, DataW.Whole_of_whole hx, rfl, by kernel_rfl⟩, door_met os _⟩, sizedMet_of_sizedB (fuel := 8) (by kernel_rfl)⟩, ?_⟩
  simp only [Assume.holds]
  exact ⟨by simp, by simp, fun _ => Modest.zero, by simp, by simp⟩
 ·intro W base args ds gs before hval0 hW _ hk _ hL _ _
  have hval : ∀ (j : Nat) t v, Tryz.f4.params[j]? = some t → args[j]? = some v → Value.okWide Tryz.prog W .any base t v := hval0
  have hW' := hW
  obtain ⟨p, q, hA0, hV, rfl, hfz, hnd⟩ := hW
  have hA : DataW.TrodAll enc Tryz.prog W 0 (fun _ => true) true Tryz.f4.params.toList args.toList ds p := hA0
  rw [Tryz.params4] at hA hval
  obtain ⟨v0, vs0, d0, ds0, p0, q0, hargs, rfl, rfl, h0, r0⟩ := trodAll_cons hA
  obtain ⟨v1, vs1, d1, ds1, p1, q1, rfl, rfl, rfl, h1, r1⟩ := trodAll_cons r0
  obtain ⟨v2, vs2, d2, ds2, p2, q2, rfl, rfl, rfl, h2, r2⟩ := trodAll_cons r1
  obtain ⟨v3, vs3, d3, ds3, p3, q3, rfl, rfl, rfl, h3, r3⟩ := trodAll_cons r2
  obtain ⟨v4, vs4, d4, ds4, p4, q4, rfl, rfl, rfl, h4, r4⟩ := trodAll_cons r3
  obtain ⟨rfl, rfl, rfl⟩ := trodAll_nil r4
  obtain rfl : args = #[v0, v1, v2, v3, v4] := by cases args; simp_all
  obtain ⟨rfl, rfl⟩ := trodVars_none hV
  have hbulk : Rows.uptoBulkAll [d0, d1, d2, d3, d4] ≤ 1048576 := by
   have h : Rows.uptoBulkAll ([d0, d1, d2, d3, d4] ++ []) ≤ 1048576 := of_decide_eq_true (hk _ rfl)
   exact h
  simp only [Rows.uptoBulkAll] at hbulk
  have k0 := h0
  have k1 := h1
  have k2 := h2
  have k3 := h3
  have k4 := h4
  have lt0 : ∀ x ∈ p0, x.block < W.heap.size := by obtain ⟨m, hm⟩ := k0; exact DataW.trod_lt m _ _ _ hm
  have lt1 : ∀ x ∈ p1, x.block < W.heap.size := by obtain ⟨m, hm⟩ := k1; exact DataW.trod_lt m _ _ _ hm
  have lt2 : ∀ x ∈ p2, x.block < W.heap.size := by obtain ⟨m, hm⟩ := k2; exact DataW.trod_lt m _ _ _ hm
  have lt3 : ∀ x ∈ p3, x.block < W.heap.size := by obtain ⟨m, hm⟩ := k3; exact DataW.trod_lt m _ _ _ hm
  have lt4 : ∀ x ∈ p4, x.block < W.heap.size := by obtain ⟨m, hm⟩ := k4; exact DataW.trod_lt m _ _ _ hm
  obtain ⟨fi, rfl, -, -⟩ := open_bool Tryz.underlying4 (hval 0 4 v0 rfl rfl) h0
  obtain ⟨n0, n1, n2, n3, hu, t0, t1, t2, t3, hone⟩ := undConfig
  obtain ⟨u0, u1, u2, u3, y0, y1, y2, y3, fu, rfl, -, -, e0, e1, e2, e3⟩ := Joins.open_agg4 hu hone cellsConfig (hval 1 23 v1 rfl rfl) h1
  rw [t0] at e0
  rw [t1] at e1
  rw [t2] at e2
  rw [t3] at e3
  obtain ⟨x0, rfl, b0⟩ := int_of e0
  obtain ⟨x1, rfl, b1⟩ := int_of e1
  obtain ⟨x2, rfl, b2⟩ := int_of e2
  obtain ⟨x3, rfl, b3⟩ := int_of e3
  obtain ⟨a2, len2, cap2, rfl⟩ := okWide_slice Tryz.underlying39 (hval 2 39 v2 rfl rfl)
  obtain ⟨s3, rfl, hd3, -, -⟩ := open_string Tryz.underlying9 (hval 3 9 v3 rfl rfl) h3
  obtain ⟨a4, len4, cap4, rfl⟩ := okWide_slice Tryz.underlying40 (hval 4 40 v4 rfl rfl)
  obtain ⟨fuel2, hf2⟩ := h2
  obtain ⟨fuel4, hf4⟩ := h4
  simp only [Value.cells] at hf2 hf4
  obtain ⟨qs, hql, hqn, hfs⟩ := open_frames hf2 (by show Rows.uptoBulk d2 ≤ _; omega)
  obtain ⟨hcuts, hnc⟩ := open_cuts hf4 (by show Rows.uptoBulk d4 ≤ _; omega)
  have hm3 : s3.size ≤ 1048576 := by
   rw [hd3] at hbulk
   simp only [Rows.uptoBulk] at hbulk
   have e : s3.data.toList.length = s3.size := by simp [← ByteArray.size_data]
   omega
  subst hql
  clear hA0 hval0
  refine (pieces_walk fi x0 x1 x2 x3 a2 cap2 qs s3 a4 len4 cap4 W b0 b1 b2 b3 hfs hqn hm3 hcuts (by omega) (gl_row hL) (gl_row hL).lt).mono fun e W' ⟨he, bel⟩ => ?_
  subst he
  exact ⟨_, rfl, _, _, _, [], _, [], hW', trodAll_mk1 (shut_bool Tryz.underlying4 _), trodAll_cons_mk (Below.trod laidOut (by kernel_rfl) (of_decide_eq_true (by kernel_rfl)) k0 bel lt0) (trodAll_cons_mk (Below.trod laidOut (by kernel_rfl) (of_decide_eq_true (by kernel_rfl)) k1 bel lt1) (trodAll_cons_mk (Below.trod laidOut (by kernel_rfl) (of_decide_eq_true (by kernel_rfl)) k2 bel lt2) (trodAll_cons_mk (Below.trod laidOut (by kernel_rfl) (of_decide_eq_true (by kernel_rfl)) k3 bel lt3) (trodAll_cons_mk (Below.trod laidOut (by kernel_rfl) (of_decide_eq_true (by kernel_rfl)) k4 bel lt4) trodAll_mk0)))), rfl, bel.frame _, fun h => by cases h⟩
theorem pieces_upto : Rows.PiecesUptoSaid :=
 OpenClaim.holds_of_cond 4 Tryz.f4 rfl rfl rfl rfl rfl rfl rfl ⟨rfl, rfl, rfl, rfl, rfl⟩ rfl rfl rfl rfl rfl (by kernel_rfl) Tryz.func4 piecesUptoRow_closed
  (of_decide_eq_true (by kernel_rfl)) (by unfold Func.isWrapper; first | (rw [if_pos (by decide +kernel)]; kernel_rfl) | (rw [if_neg (by decide +kernel)]; exact ⟨rfl, rfl⟩))
  (fun os started H enc _ F => by rw [OpenClaim.pre_eq_preRow]; exact lifted os started H enc F)
theorem pieces_holds : Rows.PiecesUptoCardSaid :=
 Claim7.holds_tied_plain_at .later [] [.wider, .wider, .data, .wider, .data, .wider, .data] true Rows.piecesUptoCard.stood.harness true
  pieces_upto (fun _ h => by cases h) piecesUptoRow_wfT (fun _ h => by cases h) piecesUpto_row_tie rfl ⟨rfl, rfl⟩ (by kernel_rfl) rfl
  (fun f fn hf hfn => by
   obtain rfl : f = 4 := Option.some.inj ((show Tryz.prog.funcNamed "sluice/sluicekeep.Pieces" = some 4 by kernel_rfl).symm.trans hf) |>.symm
   obtain rfl : fn = Tryz.f4 := (Option.some.inj (Tryz.func4.symm.trans hfn)).symm
   exact ⟨piecesUptoRow_looks, fun j t ht => by
    rw [Tryz.params4] at ht
    have hm : t ∈ [4, 23, 39, 9, 40] := by simpa using Array.mem_of_getElem? ht
    have hall : ([4, 23, 39, 9, 40].all fun u => !Tryz.prog.wantsStandIn u) = true := by kernel_rfl
    exact (show Tryz.prog.wantsStandIn t = false by simpa using List.all_eq_true.1 hall t hm)⟩)
  piecesUptoRow_goes
#print axioms pieces_holds
end Go.Proofs.YtdccldbefdfppaaGreatDoor
