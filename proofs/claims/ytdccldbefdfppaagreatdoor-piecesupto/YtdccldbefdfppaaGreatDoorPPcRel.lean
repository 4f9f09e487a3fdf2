import Derived.Test.YtdccldbefdfppaaGreatDoorPGbc
import Derived.Test.YtdccldbefdfppaaGreatDoorPGbe
import Derived.Test.YtdccldbefdfppaaGreatDoorPTmTame
set_option linter.unusedVariables false
set_option linter.unusedSimpArgs false
namespace Go.Proofs.YtdccldbefdfppaaGreatDoor
open Go.RowKit
structure Tail (w : World) (ab off cap : Nat) (rest : List UInt8) : Prop where
 lt : ab < w.heap.size
 cap : rest.length ≤ cap
 cell : ∀ i, i < rest.length → w.cell? ⟨ab, off + i, none⟩ = some (.int .u8 (rest.getD i 0).toNat)
theorem Tail.bytes {w wr : World} {ab off cap : Nat} {rest : List UInt8} (h : Tail w ab off cap rest) (hb : Below w.heap.size w wr) : BytesIn wr (.slice (some ⟨ab, off, none⟩) rest.length cap) rest :=
 Or.inr ⟨ab, off, cap, rfl, Nat.lt_of_lt_of_le h.lt hb.size, h.cap, fun i hi => (hb.cell (p := ⟨ab, off + i, none⟩) h.lt).trans (h.cell i hi)⟩
theorem Tail.take {w : World} {ab off cap n : Nat} {rest : List UInt8} (h : Tail w ab off cap rest) (hn : n ≤ rest.length) : Tail w ab off cap (rest.take n) :=
 ⟨h.lt, by have := h.cap; simp; omega, fun i hi => by
  simp at hi
  rw [h.cell i (by omega)]
  have hi1 : i < n := by omega
  simp [List.getD, hi1]⟩
theorem Tail.drop {w : World} {ab off cap n : Nat} {rest : List UInt8} (h : Tail w ab off cap rest) (hn : n ≤ rest.length) : Tail w ab (off + n) (cap - n) (rest.drop n) :=
 ⟨h.lt, by have := h.cap; simp; omega, fun i hi => by
  simp at hi
  rw [Nat.add_assoc, h.cell (n + i) (by omega)]
  simp [List.getD]⟩
theorem Tail.dropAll {w : World} {ab off n : Nat} {rest : List UInt8} (h : Tail w ab off n rest) (hn : n ≤ rest.length) : Tail w ab off 0 (rest.drop n) :=
 ⟨h.lt, by have := h.cap; simp; omega, fun i hi => by have := h.cap; simp at hi; omega⟩
structure FsArg (w : World) (sa : Option Addr) (qs : List (Fr × Value)) : Prop where
 cell : ∀ k (h : k < qs.length), ∃ fb off, sa = some ⟨fb, off, none⟩ ∧ fb < w.heap.size ∧ w.cell? ⟨fb, off + k * 4, none⟩ = some (.int .i64 qs[k].1.kind) ∧ w.cell? ⟨fb, off + k * 4 + 1, none⟩ = some (.int .i64 qs[k].1.flags) ∧
  w.cell? ⟨fb, off + k * 4 + 2, none⟩ = some (.int .i64 qs[k].1.stream) ∧ w.cell? ⟨fb, off + k * 4 + 3, none⟩ = some qs[k].2
 body : ∀ q ∈ qs, BytesA w q.2 q.1.body
 ok : ∀ q ∈ qs, I64 q.1.kind ∧ I64 q.1.flags ∧ I64 q.1.stream
theorem owns_ge {w : World} {base e size n : Nat} {v : Value} {xs : List Value} (h : w.ownsRow base e size v n xs) {j : Nat} (hj : v.ownBlock = some j) : base ≤ j := by
 rcases h.2 with ⟨rfl, -⟩ | ⟨g, cap, cur, rfl, h2, _⟩
 ·simp [Value.ownBlock] at hj
 ·simp [Value.ownBlock] at hj; omega
theorem grown_bel {W0 w w' : World} {row : Option Nat} (h : Below W0.heap.size W0 w) (hg : w.grownBy w' row) (hr : ∀ j, row = some j → W0.heap.size ≤ j) : Below W0.heap.size W0 w' := below_of_chg (S := fun j => row = some j) h (Chg.of_grown hg (fun _ e => e)) hr
def RowB (Bw w : World) (v : Value) (l : List UInt8) : Prop := w.ownsRow Bw.heap.size 5 1 v l.length (l.map B)
theorem one_bytes (l : List UInt8) : ∀ u ∈ l.map B, u.oneCell' = true := fun u hu => by
 obtain ⟨x, -, rfl⟩ := List.mem_map.1 hu
 rfl
theorem bytes_bel {w w' : World} {v : Value} {l : List UInt8} (h : BytesIn w v l) (hb : Below w.heap.size w w') : BytesIn w' v l := h.chg (Chg.of_below (S := fun _ => False) hb) (fun _ _ => id)
theorem rowB_app {Bw w w' : World} {v v' : Value} {l r : List UInt8} (h : RowB Bw w v l) (hb : Below Bw.heap.size Bw w) (hown : w'.ownsRow 0 5 1 v' (l.length + r.length) (l.map B ++ r.map B)) (hg : w.grownBy w' v.ownBlock) (ho : v'.ownBlock = v.ownBlock ∨ v'.ownBlock = some w.heap.size) : RowB Bw w' v' (l ++ r) ∧ Below Bw.heap.size Bw w' := by
 refine ⟨?_, grown_bel hb hg (fun j hj => owns_ge h hj)⟩
 unfold RowB
 rw [List.map_append, List.length_append]
 refine owns_base hown (fun j hj => ?_)
 rcases ho with e | e
 ·rw [e] at hj; exact owns_ge h hj
 ·rw [e] at hj; injection hj with hj; rw [← hj]; exact hb.size
def l0 (fi : Bool) : List UInt8 := (if fi then [] else greetB) ++ lay 3 0 0 (four4 100)
theorem l0_len (fi : Bool) : 10 ≤ (l0 fi).length ∧ (l0 fi).length ≤ 17 := by cases fi <;> exact ⟨by decide, by decide⟩
theorem well_new {fi : Bool} {i c b k : Int} (h : CfgOk i c b k) : WellX (pNewX fi i c b k) := ⟨sound_new h, meek_ok (ok_new h), fun n => by show ([] : List HP).length ≤ 9; simp, by show Got []; exact got_nil⟩
theorem first_ok (fi : Bool) (i c b k : Int) : ((pNewX fi i c b k).fed (l0 fi)).g.m.fault = 0 := by cases fi <;> kernel_rfl
theorem ok_open {g : GEnd} (h : OkG g) : OpenOk g := ⟨h.calm.next, h.calm.their, h.good.cls, h.good.rise, h.good.few⟩
section
variable {w w' w'' : World} {eb : Nat} {F F' : Nat → Prop} {P P' : GX}
theorem GoF.trans (hc : Chg F w w') (g : ∀ j, F' j → F j ∨ w.heap.size ≤ j) (h : GoF w' w'' eb F' P') : GoF w w'' eb F P' := by
 obtain ⟨G, h1, h2, h3⟩ := h
 refine ⟨G, h1, hc.trans (h2.mono fun j _ e => (g j e).symm), fun j hj => ?_⟩
 rcases h3 j hj with a | a
 ·exact g j a
 ·exact Or.inr (Nat.le_trans hc.size a)
theorem cx_open (h : StX w eb F P) (ho : P.g.m.fault = 0 → OpenOk P.g) : Calls Tryz.prog 18 #[.pointer (some ⟨eb, 0, none⟩), .slice none 0 0, .bool false] w fun e w' => (∃ n : Int, e = .returned (.tuple #[.int .i64 n, .int .i64 (if P.g.m.fault = 0 then 0 else 7)]) ∧ (P.g.m.fault = 0 → 0 < n)) ∧ Chg F w w' := by
 obtain ⟨mb, X, hi, rfl, hF⟩ := h
 by_cases hf : X.g.m.fault = 0
 ·have hf' : X.bare.g.m.fault = 0 := hf
  have ho := ho hf'
  have hk : (X.bare.g.K.map fun s => s.st.number) = X.g.K.map fun s => s.st.number := bareK_num X
  have ho2 : OpenOk X.g := ho.same rfl rfl hk.symm rfl
  have h0 := ho2.none
  have hnx := ho2.next
  have hfew := ho2.few
  have he := eOpen_ok eb mb X.g w hi.inv hf (by omega) (by omega) (fun x hx e => by
   have := ho2.their x hx
   rw [e, hnx.2.2] at this
   cases this) ho2.rise (by omega)
  have hc := xOpen_of (R := fun a c w' => (a = .int .i64 X.g.m.next ∧ c = .int .i64 0) ∧ Chg F w w') eb (.slice none 0 0) (.bool false) w (he.mono fun e w' h => by
   obtain ⟨h1, a, g', -, h2⟩ := h
   exact ⟨_, _, h1, ⟨rfl, rfl⟩, h2.chg.mono fun j _ e => (hF j).2 (Or.inl e)⟩)
  refine hc.mono ?_
  rintro e w' ⟨a, c, rfl, ⟨rfl, rfl⟩, hcg⟩
  exact ⟨⟨X.g.m.next, by rw [if_pos hf'], fun _ => by omega⟩, hcg⟩
 ·refine (xOpen_dead eb X.g.m (.slice none 0 0) false w hi.inv.en hf).mono ?_
  rintro e w' ⟨rfl, rfl⟩
  exact ⟨⟨0, by rw [if_neg (show ¬ X.bare.g.m.fault = 0 from hf)], fun e => absurd e hf⟩, Chg.refl _ _⟩
end
end Go.Proofs.YtdccldbefdfppaaGreatDoor
