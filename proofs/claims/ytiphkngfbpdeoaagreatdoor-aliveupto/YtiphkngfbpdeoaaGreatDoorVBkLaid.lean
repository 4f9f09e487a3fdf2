import Derived.Test.YtiphkngfbpdeoaaGreatDoorVGab
import Derived.ProofKit
import Derived.LaidMore
import Derived.OpenShut
import Derived.ChangeOld
import Derived.Deep.Slices
set_option linter.unusedVariables false
set_option linter.unusedSimpArgs false
namespace Go.Proofs.YtiphkngfbpdeoaaGreatDoor
set_option linter.unusedVariables false
set_option linter.unusedSimpArgs false
open Go.ChangeShapes Go.WideShapes Go.ChangeAt Go.RowKit
theorem bcellsU8 : Tryz.prog.cellsOf 5 = 1 := by kernel_rfl
theorem bcellsInt : Tryz.prog.cellsOf 3 = 1 := by kernel_rfl
theorem cellsStr : Tryz.prog.cellsOf 9 = 1 := by kernel_rfl
theorem cellsForm : Tryz.prog.cellsOf 221 = 2 := by kernel_rfl
theorem cellsHdr : Tryz.prog.cellsOf 147 = 2 := by kernel_rfl
theorem undForm : ∃ n0 n1 : Field, Tryz.prog.underlying 221 = some (.struct #[n0, n1]) ∧ n0.type = 5 ∧ n1.type = 3 ∧ n0.offset = 0 ∧ n1.offset = 1 := ⟨_, _, Tryz.underlying221, rfl, rfl, rfl, rfl⟩
theorem undHdr : ∃ n0 n1 : Field, Tryz.prog.underlying 147 = some (.struct #[n0, n1]) ∧ n0.type = 9 ∧ n1.type = 9 ∧ n0.offset = 0 ∧ n1.offset = 1 := ⟨_, _, Tryz.underlying147, rfl, rfl, rfl, rfl⟩
theorem laid_mem {P : Program} {w : World} {laid : List (String × DataW Unit)} {ps : List MemPlace} (h : DataW.LaidVars P w laid ps) {n : String} {d : DataW Unit} (hm : (n, d) ∈ laid) :
    ∃ g t cs fuel p, P.globalNamed n = some g ∧ (P.globals[g]?).map (·.type) = some t ∧ w.var? P n = some cs ∧ DataW.trod (fun _ => ()) P w 0 (fun _ => true) false fuel t cs.toList = some (d, p) := by
  induction laid generalizing ps with
  | nil => simp at hm
  | cons x r ih =>
    obtain ⟨n', d'⟩ := x
    obtain ⟨g, t, cs, fuel, p, q, h1, h2, h3, h4, h5, _⟩ := h
    rcases List.mem_cons.1 hm with e | e
    · simp only [Prod.mk.injEq] at e
      obtain ⟨rfl, rfl⟩ := e
      exact ⟨g, t, cs, fuel, p, h1, h2, h3, h4⟩
    · exact ih h5 e
section
variable {H : Type} {enc : TypeId × Value → H} {W : World} {spare : Nat → Bool} {held : Bool}
set_option maxRecDepth 100000 in
theorem form_cells {nm : String} {g : Nat} {cs : Array Value} {fuel : Nat} {p : List MemPlace} {a k : Int} (hg : Tryz.prog.globalNamed nm = some g) (hv : W.var? Tryz.prog nm = some cs)
    (hd : DataW.trod enc Tryz.prog W 0 spare held fuel 221 cs.toList = some (.agg [.lit (.int .u8 a), .lit (.int .i64 k)], p)) : W.cell? ⟨g, 0, none⟩ = some (.int .u8 a) ∧ W.cell? ⟨g, 1, none⟩ = some (.int .i64 k) := by
  obtain ⟨f0, f1, hu, t0, t1, o0, o1⟩ := undForm
  obtain ⟨y0, y1, n, hx, hl, h0, h1⟩ := trod_struct2 hu hd
  rw [cellsForm] at hl
  have v0 := World.var?_cell hg hv 0
  have v1 := World.var?_cell hg hv 1
  obtain ⟨l⟩ := cs
  match l, hl with
  | [c0, c1], _ =>
    rw [t0, o0, bcellsU8] at h0
    rw [t1, o1, bcellsInt] at h1
    obtain ⟨k0, e0, x0, _⟩ := DataW.trod_int Tryz.underlying5 h0
    obtain ⟨k1, e1, x1, _⟩ := DataW.trod_int Tryz.underlying3 h1
    simp at e0 e1
    rw [x0, x1] at hx
    simp at hx
    rw [v0, v1]
    simp [e0, e1, hx]
set_option maxRecDepth 100000 in
theorem hdr_reads {fuel : Nat} {c0 c1 : Value} {x : DataW H × List MemPlace} (hd : DataW.trod enc Tryz.prog W 0 spare held fuel 147 [c0, c1] = some x) : ∃ h : HP, c0 = .string h.n ∧ c1 = .string h.v ∧ x.1 = .agg [.lit (.string h.n.data.toList), .lit (.string h.v.data.toList)] ∧ h.n.size ≤ maxLen ∧ h.v.size ≤ maxLen := by
  obtain ⟨f0, f1, hu, t0, t1, o0, o1⟩ := undHdr
  obtain ⟨y0, y1, n, hx, hl, h0, h1⟩ := trod_struct2 hu hd
  rw [t0, o0, cellsStr] at h0
  rw [t1, o1, cellsStr] at h1
  obtain ⟨s0, e0, x0, m0⟩ := DataW.trod_string Tryz.underlying9 h0
  obtain ⟨s1, e1, x1, m1⟩ := DataW.trod_string Tryz.underlying9 h1
  simp at e0 e1
  refine ⟨⟨s0, s1⟩, e0, e1, ?_, m0, m1⟩
  rw [hx, x0, x1]
set_option maxRecDepth 100000 in
theorem fixed_cells {nm : String} {g : Nat} {cs : Array Value} {fuel : Nat} {p : List MemPlace} (hg : Tryz.prog.globalNamed nm = some g) (hv : W.var? Tryz.prog nm = some cs)
    (hd : DataW.trod enc Tryz.prog W 0 spare held fuel 263 cs.toList = some (.agg (fixed8.map fun h => .agg [.lit (.string h.n.data.toList), .lit (.string h.v.data.toList)]), p)) :
    ∀ i (h : i < fixed8.length), W.cell? ⟨g, 2 * i, none⟩ = some (.string fixed8[i].n) ∧ W.cell? ⟨g, 2 * i + 1, none⟩ = some (.string fixed8[i].v) := by
  intro i hi
  obtain ⟨xs, m, _, hx, hl, hn, hel⟩ := DataW.trod_array Tryz.underlying263 hd
  have h8 : fixed8.length = 8 := rfl
  have hi8 : i < 8 := by omega
  have he := hel i hi8
  rw [cellsHdr] at he
  have c16 : Tryz.prog.cellsOf 263 = 16 := by kernel_rfl
  rw [c16] at hl
  have hxi : i < xs.length := by omega
  rw [List.getElem?_eq_getElem hxi] at he
  have hlen2 : ((cs.toList.drop (i * 2)).take 2).length = 2 := by rw [List.length_take, List.length_drop]; omega
  have g0 : ((cs.toList.drop (i * 2)).take 2)[0]? = cs.toList[i * 2]? := by simp [List.getElem?_take, List.getElem?_drop]
  have g1 : ((cs.toList.drop (i * 2)).take 2)[1]? = cs.toList[i * 2 + 1]? := by simp [List.getElem?_take, List.getElem?_drop]
  have v0 := World.var?_cell hg hv (2 * i)
  have v1 := World.var?_cell hg hv (2 * i + 1)
  have e0 : 2 * i = i * 2 := by omega
  rw [e0] at v0 v1
  match hq : (cs.toList.drop (i * 2)).take 2, hlen2 with
  | [c0, c1], _ =>
    rw [hq] at he g0 g1
    obtain ⟨h, rfl, rfl, hx1, _, _⟩ := hdr_reads he
    simp only [Prod.mk.injEq, DataW.agg.injEq] at hx
    have h9 := congrArg (fun l => l[i]?) hx.1
    simp only [List.getElem?_map, List.getElem?_eq_getElem hi, List.getElem?_eq_getElem hxi, Option.map_some, Option.some.injEq] at h9
    rw [hx1] at h9
    simp only [DataW.agg.injEq, List.cons.injEq, DataW.lit.injEq, Lit.string.injEq, and_true] at h9
    have b0 := bytes_inj h9.1
    have b1 := bytes_inj h9.2
    rw [e0, v0, v1, ← Array.getElem?_toList, ← Array.getElem?_toList, ← g0, ← g1, b0, b1]
    exact ⟨rfl, rfl⟩
end
set_option maxRecDepth 100000 in
theorem gl_of_laid {W : World} {laid : List (String × DataW Unit)} (h : laidMet Tryz.prog laid W)
    (m0 : ("sluice/blocks.byNumber", Rows.laid_sluice_blocks_byNumber) ∈ laid) (m1 : ("sluice/blocks.toAdd", Rows.laid_sluice_blocks_toAdd) ∈ laid) (m2 : ("sluice/blocks.toLimit", Rows.laid_sluice_blocks_toLimit) ∈ laid) (m3 : ("sluice/blocks.notToAdd", Rows.laid_sluice_blocks_notToAdd) ∈ laid)
    (m4 : ("sluice/blocks.plain", Rows.laid_sluice_blocks_plain) ∈ laid) (m5 : ("sluice/blocks.packed", Rows.laid_sluice_blocks_packed) ∈ laid) (m6 : ("sluice/blocks.fixed", Rows.laid_sluice_blocks_fixed) ∈ laid) : Gl W := by
  obtain ⟨ps, hL, _, _⟩ := h
  have fm : ∀ (nm : String) (gi : Nat) (d : DataW Unit) (a k : Int), (nm, d) ∈ laid → d = .agg [.lit (.int .u8 a), .lit (.int .i64 k)] → Tryz.prog.globalNamed nm = some gi → (Tryz.prog.globals[gi]?).map (·.type) = some 221 → W.cell? ⟨gi, 0, none⟩ = some (.int .u8 a) ∧ W.cell? ⟨gi, 1, none⟩ = some (.int .i64 k) := by
    intro nm gi d a k hm hd hg ht
    obtain ⟨g, t, cs, fuel, p, hg', ht', hv, hr⟩ := laid_mem hL hm
    obtain rfl := Option.some.inj (hg.symm.trans hg')
    obtain rfl := Option.some.inj (ht.symm.trans ht')
    rw [hd] at hr
    exact form_cells hg hv hr
  have q0 := fm _ 1 _ 128 7 m0 rfl (by kernel_rfl) (by kernel_rfl)
  have q1 := fm _ 2 _ 64 6 m1 rfl (by kernel_rfl) (by kernel_rfl)
  have q2 := fm _ 0 _ 32 5 m2 rfl (by kernel_rfl) (by kernel_rfl)
  have q3 := fm _ 3 _ 0 4 m3 rfl (by kernel_rfl) (by kernel_rfl)
  have q4 := fm _ 6 _ 0 7 m4 rfl (by kernel_rfl) (by kernel_rfl)
  have q5 := fm _ 5 _ 128 7 m5 rfl (by kernel_rfl) (by kernel_rfl)
  have q6 : ∀ i (h : i < fixed8.length), W.cell? ⟨4, 2 * i, none⟩ = some (.string fixed8[i].n) ∧ W.cell? ⟨4, 2 * i + 1, none⟩ = some (.string fixed8[i].v) := by
    obtain ⟨g, t, cs, fuel, p, hg', ht', hv, hr⟩ := laid_mem hL m6
    obtain rfl := Option.some.inj ((show Tryz.prog.globalNamed "sluice/blocks.fixed" = some 4 by kernel_rfl).symm.trans hg')
    obtain rfl := Option.some.inj ((show (Tryz.prog.globals[4]?).map (·.type) = some 263 by kernel_rfl).symm.trans ht')
    exact fixed_cells hg' hv hr
  have b0 := World.block_lt_of_cell? W _ q0.1
  have b1 := World.block_lt_of_cell? W _ q1.1
  have b2 := World.block_lt_of_cell? W _ q2.1
  have b3 := World.block_lt_of_cell? W _ q3.1
  have b4 := World.block_lt_of_cell? W _ q4.1
  have b5 := World.block_lt_of_cell? W _ q5.1
  have b6 := World.block_lt_of_cell? W _ (q6 0 (by decide)).1
  simp only at b0 b1 b2 b3 b4 b5 b6
  exact ⟨q2, q0, q3, q1, q5, q4, q6, by omega⟩
end Go.Proofs.YtiphkngfbpdeoaaGreatDoor
