import Derived.Test.YtjccnikmcoidhaaTakeAny
set_option linter.unusedVariables false
set_option linter.unusedSimpArgs false
/-
  (*frames.Reader).Take of a sluice.Reader.
-/
namespace Go.Proofs.Ytjccnikmcoidhaa
open Go.RowKit

/-- A reader without a fault, and what it has gathered. -/
def RdS (w : World) (rb : Nat) (gv : Value) (got : List UInt8) : Prop :=
  Got got ∧ w.ownsRow 0 5 1 gv got.length (got.map B) ∧ ∃ L K F S, RdB w rb gv L K F S 0 ∧ (6 ≤ got.length → hdOf got = ⟨L, K, F, S⟩)

/-- What a call leaves of the reader. -/
structure Left (w w' : World) (rb : Nat) (gv gv' : Value) (got : List UInt8) : Prop where
  st : RdS w' rb gv' got
  chg : Chg (Touch rb gv) w w'
  fresh : ∀ k, gv'.ownBlock = some k → gv.ownBlock = some k ∨ w.heap.size ≤ k

/-- The end of a call that gives up. -/
def Gave (w w' : World) (rb : Nat) (gv : Value) : Prop := ∃ gv' L K F S, RdB w' rb gv' L K F S 0 ∧ Chg (Touch rb gv) w w'

theorem RdB.gen {w : World} {rb : Nat} {gv : Value} {L K F S c : Int} (h : RdB w rb gv L K F S c) : RdG w rb 0 56 #[gv, .int .i64 L, .int .i64 K, .int .i64 F, .int .i64 S, .int .i64 c] gv L K F S := ⟨h, by decide, rfl, rfl, rfl, rfl, rfl⟩
theorem RdG.back {w : World} {rb : Nat} {cs cs' : Array Value} {gv : Value} {L K F S c : Int} (h : RdG w rb 0 56 cs' gv L K F S) (ha : Alike 0 cs cs') (hc : cs.size = 6) (h5 : cs[5]? = some (.int .i64 c)) : RdB w rb gv L K F S c := by
  have e5 : cs'[5]? = some (.int .i64 c) := by rw [ha.2 5 (by omega)]; exact h5
  have e : cs' = #[gv, .int .i64 L, .int .i64 K, .int .i64 F, .int .i64 S, .int .i64 c] := by
    apply Array.ext_getElem?
    intro i
    have hsz : cs'.size = 6 := ha.1.trans hc
    match i with
    | 0 => exact h.c0
    | 1 => exact h.c1
    | 2 => exact h.c2
    | 3 => exact h.c3
    | 4 => exact h.c4
    | 5 => exact e5
    | i + 6 => rw [Array.getElem?_eq_none (by omega), Array.getElem?_eq_none (by simp)]
  unfold RdB
  rw [← e]
  exact h.blk
theorem RdS.gen {w : World} {rb : Nat} {gv : Value} {got : List UInt8} (h : RdS w rb gv got) : ∃ cs, RdSG w rb 0 56 cs gv got ∧ cs.size = 6 ∧ cs[5]? = some (.int .i64 0) := by
  obtain ⟨a, b, L, K, F, S, c, d⟩ := h
  exact ⟨_, ⟨a, b, L, K, F, S, c.gen, d⟩, rfl, rfl⟩
theorem LeftG.back {w w' : World} {rb : Nat} {cs cs' : Array Value} {gv gv' : Value} {got : List UInt8} (h : LeftG w w' rb 0 56 cs cs' gv gv' got) (hc : cs.size = 6) (h5 : cs[5]? = some (.int .i64 0)) : Left w w' rb gv gv' got := by
  obtain ⟨a, b, L, K, F, S, c, d⟩ := h.st
  exact ⟨⟨a, b, L, K, F, S, c.back h.alike hc h5, d⟩, h.chg, h.fresh⟩

theorem take_more_any (rb : Nat) (gv : Value) (got g' : List UInt8) (c : UInt8) (w : World) (hr : RdS w rb gv got) (hs : step got c = .more g') :
    Calls Try.prog 22 #[.pointer (some ⟨rb, 0, none⟩), .int .u8 c.toNat] w fun e w' => e = .returned (.tuple #[.nilIface, .bool false]) ∧ ∃ gv', Left w w' rb gv gv' g' := by
  obtain ⟨cs, h1, h2, h3⟩ := hr.gen
  refine (take_any rb 0 56 cs gv got c w h1).mono ?_
  rintro e w' (⟨g2, cs', gv', e1, e2, e3⟩ | ⟨code, e1, _⟩ | ⟨f, _, _, _, _, e1, _⟩)
  · rw [hs] at e1
    simp only [Sum.inl.injEq] at e1
    subst e1
    exact ⟨e2, gv', e3.back h2 h3⟩
  · rw [hs] at e1; cases e1
  · rw [hs] at e1; cases e1

theorem take_fault_any (rb : Nat) (gv : Value) (got : List UInt8) (c : UInt8) (code : Int) (w : World) (hr : RdS w rb gv got) (hs : step got c = .fault code) :
    Calls Try.prog 22 #[.pointer (some ⟨rb, 0, none⟩), .int .u8 c.toNat] w fun e w' => e = .panicked [{ v := .iface 32 (.int .i64 code), recovered := false }] ∧ Gave w w' rb gv := by
  obtain ⟨cs, h1, h2, h3⟩ := hr.gen
  refine (take_any rb 0 56 cs gv got c w h1).mono ?_
  rintro e w' (⟨g2, cs', gv', e1, e2, e3⟩ | ⟨code', e1, e2, cs', gv', L, K, F, S, e3, e4, e5⟩ | ⟨f, _, _, _, _, e1, _⟩)
  · rw [hs] at e1; cases e1
  · rw [hs] at e1
    simp only [Sum.inr.injEq] at e1
    subst e1
    exact ⟨e2, gv', L, K, F, S, e3.back e4 h2 h3, e5⟩
  · rw [hs] at e1; cases e1

theorem take_frame_any (rb : Nat) (gv : Value) (got : List UInt8) (c : UInt8) (f : Fr) (w : World) (hr : RdS w rb gv got) (hs : step got c = .frame f) :
    Calls Try.prog 22 #[.pointer (some ⟨rb, 0, none⟩), .int .u8 c.toNat] w fun e w' => ∃ bv cv gv', e = .returned (.tuple #[frV f.kind f.flags f.stream bv cv f.body, .bool true]) ∧
      w'.ownsRow 0 5 1 bv f.body.length (f.body.map B) ∧ (∀ k, bv.ownBlock = some k → w.heap.size ≤ k) ∧ Left w w' rb gv gv' [] ∧ (∀ k, bv.ownBlock = some k → gv'.ownBlock ≠ some k) := by
  obtain ⟨cs, h1, h2, h3⟩ := hr.gen
  refine (take_any rb 0 56 cs gv got c w h1).mono ?_
  rintro e w' (⟨g2, cs', gv', e1, e2, e3⟩ | ⟨code', e1, _⟩ | ⟨f', bv, cv, cs', gv', e1, e2, e3, e4, e5, e6, e7⟩)
  · rw [hs] at e1; cases e1
  · rw [hs] at e1; cases e1
  · rw [hs] at e1
    simp only [Sum.inl.injEq, Sum.inr.injEq] at e1
    subst e1
    exact ⟨bv, cv, gv', e2, e4, e5, e6.back h2 h3, e7⟩

end Go.Proofs.Ytjccnikmcoidhaa
