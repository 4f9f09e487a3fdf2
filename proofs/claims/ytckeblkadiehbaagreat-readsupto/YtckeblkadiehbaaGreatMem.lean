/-
  What memory holds: rows of bytes, a reader's block; what a call may change.
-/
import Derived.Test.YtckeblkadiehbaaGreatRows
import Derived.Test.YtckeblkadiehbaaGreatPure
import Derived.WalkKit
import Derived.WalkSpells
import Derived.WalkLawsBesides
namespace Go.Proofs.YtckeblkadiehbaaGreat
open Go.RowKit

theorem hide {p : Prop} (h : p) : Hid p := h

/-- A byte in a cell. -/
abbrev B (c : UInt8) : Value := .int .u8 (c.toNat : Int)

/-- Of the blocks that were there those outside S are as they were. -/
structure Chg (S : Nat → Prop) (w w' : World) : Prop where
  os : w'.os = w.os
  tape : w'.tape = w.tape
  output : w'.output = w.output
  size : w.heap.size ≤ w'.heap.size
  block : ∀ k, k < w.heap.size → ¬ S k → w'.heap[k]? = w.heap[k]?

theorem Chg.refl (S : Nat → Prop) (w : World) : Chg S w w := ⟨rfl, rfl, rfl, Nat.le_refl _, fun _ _ _ => rfl⟩
theorem Chg.mono {S T : Nat → Prop} {w w' : World} (h : Chg S w w') (hs : ∀ k, k < w.heap.size → S k → T k) : Chg T w w' :=
  ⟨h.os, h.tape, h.output, h.size, fun k hk ht => h.block k hk fun s => ht (hs k hk s)⟩
theorem Chg.trans {S : Nat → Prop} {a b c : World} (h : Chg S a b) (k : Chg (fun i => a.heap.size ≤ i ∨ S i) b c) : Chg S a c :=
  ⟨k.os.trans h.os, k.tape.trans h.tape, k.output.trans h.output, Nat.le_trans h.size k.size,
    fun i hi hs => (k.block i (Nat.lt_of_lt_of_le hi h.size) (by rintro (x | x); · omega
                                                                 · exact hs x)).trans (h.block i hi hs)⟩
theorem Chg.of_below {S : Nat → Prop} {w w' : World} (h : Below w.heap.size w w') : Chg S w w' := ⟨h.os, h.tape, h.output, h.size, fun k hk _ => h.block k hk⟩
theorem Chg.below {w w' : World} (h : Chg (fun _ => False) w w') : Below w.heap.size w w' := ⟨h.os, h.tape, h.output, h.size, fun k hk => h.block k hk id⟩
theorem Chg.of_grown {S : Nat → Prop} {w w' : World} {row : Option Nat} (h : w.grownBy w' row) (hs : ∀ k, row = some k → S k) : Chg S w w' :=
  ⟨h.os, h.tape, h.output, h.size, fun k hk hn => h.block k hk fun e => hn (hs k e.symm)⟩
theorem Chg.setCell {S : Nat → Prop} {a w : World} (h : Chg S a w) {p : Addr} (hp : a.heap.size ≤ p.block ∨ S p.block) (u : Value) : Chg S a (w.setCell p u) :=
  h.trans ⟨rfl, rfl, rfl, by simp [World.setCell], fun k _ hn => Below.heap_setCell _ _ _ _ (fun e => hn (by rw [e]; exact hp))⟩
theorem Chg.alloc {S : Nat → Prop} {a w : World} (h : Chg S a w) (o : Obj) : Chg S a (w.alloc o) :=
  h.trans ⟨rfl, rfl, rfl, by simp, fun k hk _ => Below.heap_alloc _ _ _ hk⟩
theorem Chg.drew {S : Nat → Prop} {a w : World} (h : Chg S a w) : Chg S a w.drew := ⟨h.os, h.tape, h.output, h.size, h.block⟩
theorem Chg.drewN {S : Nat → Prop} {a w : World} (h : Chg S a w) (n : Nat) : Chg S a (w.drewN n) := h.trans ⟨rfl, rfl, rfl, Nat.le_refl _, fun _ _ _ => rfl⟩
/-- Behind a change that touches none of S: a step that is 'Below' the later world. -/
theorem Chg.then_below {S : Nat → Prop} {a b c : World} (h : Chg S a b) (k : Below b.heap.size b c) : Chg S a c := h.trans (Chg.of_below k)

theorem Chg.cell {S : Nat → Prop} {w w' : World} (h : Chg S w w') {p : Addr} (hp : p.block < w.heap.size) (hs : ¬ S p.block) : w'.cell? p = w.cell? p := World.cell?_of_block (w := w) (h.block p.block hp hs)
theorem Chg.frozen {S : Nat → Prop} {w w' : World} (h : Chg S w w') {p : Addr} (hp : p.block < w.heap.size) (hs : ¬ S p.block) : w'.frozen? p = w.frozen? p := World.frozen?_of_block (w := w) (h.block p.block hp hs)

/-- What is owned stays owned where its block is not touched. -/
theorem owns_chg {S : Nat → Prop} {w w' : World} {base e size n : Nat} {v : Value} {xs : List Value} (h : w.ownsRow base e size v n xs) (hc : Chg S w w') (hs : ∀ k, v.ownBlock = some k → ¬ S k) : w'.ownsRow base e size v n xs := by
  refine ⟨h.1, ?_⟩
  rcases h.2 with hn | ⟨g, cap, cur, rfl, hb, hgg, rest⟩
  · exact .inl hn
  · refine .inr ⟨g, cap, cur, rfl, hb, ?_, rest⟩
    rw [hc.block g (Array.getElem?_eq_some_iff.1 hgg).1 (hs g rfl)]
    exact hgg
theorem owns_base {w : World} {base base' e size n : Nat} {v : Value} {xs : List Value} (h : w.ownsRow base e size v n xs) (hb : ∀ k, v.ownBlock = some k → base' ≤ k) : w.ownsRow base' e size v n xs := by
  refine ⟨h.1, ?_⟩
  rcases h.2 with hn | ⟨g, cap, cur, rfl, _, rest⟩
  · exact .inl hn
  · exact .inr ⟨g, cap, cur, rfl, hb g rfl, rest⟩
theorem owns_lt {w : World} {base e size n : Nat} {v : Value} {xs : List Value} (h : w.ownsRow base e size v n xs) {k : Nat} (hk : v.ownBlock = some k) : k < w.heap.size := (h.lt k hk).2
/-- A row of one element type is no block of another. -/
theorem owns_ne {w : World} {base e e' size n : Nat} {v : Value} {xs : List Value} {b : Nat} {cs : Array Value} {fr : Nat × Nat} (h : w.ownsRow base e size v n xs) (hb : w.heap[b]? = some (.cells cs e' fr)) (hne : e ≠ e') : v.ownBlock ≠ some b := by
  intro hk
  rcases h.2 with ⟨rfl, _⟩ | ⟨g, cap, cur, rfl, _, hgg, _⟩
  · simp [Value.ownBlock] at hk
  · simp [Value.ownBlock] at hk
    subst hk
    rw [hgg] at hb
    simp at hb
    exact hne hb.2.1

theorem block_setCell {w : World} {b i : Nat} {cs : Array Value} {t : TypeId} {fr : Nat × Nat} {u : Value} (h : w.heap[b]? = some (.cells cs t fr)) : (w.setCell ⟨b, i, none⟩ u).heap[b]? = some (.cells (cs.setIfInBounds i u) t fr) := by
  simp only [World.setCell, Array.getElem?_modify, ↓reduceIte, h, Option.map_some]
  rfl

/-- A reader's block: what is gathered, the head, the fault. -/
def RdB (w : World) (rb : Nat) (gv : Value) (L K F S c : Int) : Prop :=
  w.heap[rb]? = some (.cells #[gv, .int .i64 L, .int .i64 K, .int .i64 F, .int .i64 S, .int .i64 c] 163 (0, 0))

theorem RdB.lt {w : World} {rb : Nat} {gv : Value} {L K F S c : Int} (h : RdB w rb gv L K F S c) : rb < w.heap.size := (Array.getElem?_eq_some_iff.1 h).1
theorem RdB.cells {w : World} {rb : Nat} {gv : Value} {L K F S c : Int} (h : RdB w rb gv L K F S c) :
    w.cell? ⟨rb, 0, none⟩ = some gv ∧ w.cell? ⟨rb, 1, none⟩ = some (.int .i64 L) ∧ w.cell? ⟨rb, 2, none⟩ = some (.int .i64 K) ∧ w.cell? ⟨rb, 3, none⟩ = some (.int .i64 F) ∧
    w.cell? ⟨rb, 4, none⟩ = some (.int .i64 S) ∧ w.cell? ⟨rb, 5, none⟩ = some (.int .i64 c) := by
  unfold RdB at h
  refine ⟨?_, ?_, ?_, ?_, ?_, ?_⟩ <;> rw [cell_of_row w rb _ _ _ _ h] <;> rfl
theorem RdB.free {w : World} {rb : Nat} {gv : Value} {L K F S c : Int} (h : RdB w rb gv L K F S c) (o : Nat) : w.frozen? ⟨rb, o, none⟩ = false := by
  unfold RdB at h
  simp [World.frozen?, h]
theorem RdB.chg {T : Nat → Prop} {w w' : World} {rb : Nat} {gv : Value} {L K F S c : Int} (h : RdB w rb gv L K F S c) (hc : Chg T w w') (hs : ¬ T rb) : RdB w' rb gv L K F S c := by
  unfold RdB at h ⊢
  rw [hc.block rb (Array.getElem?_eq_some_iff.1 h).1 hs]; exact h
theorem RdB.set0 {w : World} {rb : Nat} {gv : Value} {L K F S c : Int} (h : RdB w rb gv L K F S c) (u : Value) : RdB (w.setCell ⟨rb, 0, none⟩ u) rb u L K F S c := by
  have := block_setCell (i := 0) (u := u) h
  exact this
theorem RdB.set14 {w : World} {rb : Nat} {gv : Value} {L K F S c : Int} (h : RdB w rb gv L K F S c) (l k f s : Int) :
    RdB ((((w.setCell ⟨rb, 1, none⟩ (.int .i64 l)).setCell ⟨rb, 2, none⟩ (.int .i64 k)).setCell ⟨rb, 3, none⟩ (.int .i64 f)).setCell ⟨rb, 4, none⟩ (.int .i64 s)) rb gv l k f s c := by
  have h1 := block_setCell (i := 1) (u := .int .i64 l) h
  have h2 := block_setCell (i := 2) (u := .int .i64 k) h1
  have h3 := block_setCell (i := 3) (u := .int .i64 f) h2
  have h4 := block_setCell (i := 4) (u := .int .i64 s) h3
  exact h4

theorem take_bytes (l : List UInt8) (c : UInt8) : (l ++ [c]).map B = l.map B ++ [B c] := by simp
end Go.Proofs.YtckeblkadiehbaaGreat
