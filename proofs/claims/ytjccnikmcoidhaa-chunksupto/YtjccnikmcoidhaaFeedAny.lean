import Derived.Test.YtjccnikmcoidhaaFeed
set_option linter.unusedVariables false
set_option linter.unusedSimpArgs false
/-
  (*sluice.Reader).Feed, whatever the reader and whatever it is fed.
-/
namespace Go.Proofs.Ytjccnikmcoidhaa
open Go.RowKit

theorem fed_nothing {w : World} {rb : Nat} {gv : Value} {got : List UInt8} (hr : RdS w rb gv got) :
    Fed w ((w.alloc (.cells #[.pointer (some ⟨rb, 0, none⟩)] 41)).alloc (.cells #[.int .i64 0] 32)) rb gv ⟨got, 0⟩ [] (.returned (.tuple #[.slice none 0 0, .int .i64 0])) := by
  have ha : Chg (fun _ => False) w ((w.alloc (.cells #[.pointer (some ⟨rb, 0, none⟩)] 41)).alloc (.cells #[.int .i64 0] 32)) := ((Chg.refl _ _).alloc _).alloc _
  exact ⟨_, [], gv, rfl, rfl, FrsOwn.nil _ _, Or.inl ⟨rfl, hr.chg ha id (fun _ _ => id)⟩, ((Chg.refl _ _).alloc _).alloc _, fun j hj => Or.inl hj, by simp [bodyBlocks]⟩

theorem fed_dead {w : World} {rb : Nat} {c : Int} {l : List UInt8} (hr : RdB w rb (.slice none 0 0) 0 0 0 0 c) (hc : c ≠ 0) :
    Fed w ((w.alloc (.cells #[.pointer (some ⟨rb, 0, none⟩)] 41)).alloc (.cells #[.int .i64 c] 32)).drew rb (.slice none 0 0) ⟨[], c⟩ l (.returned (.tuple #[.slice none 0 0, .int .i64 c])) := by
  have ha : Chg (fun _ => False) w ((w.alloc (.cells #[.pointer (some ⟨rb, 0, none⟩)] 41)).alloc (.cells #[.int .i64 c] 32)).drew := (((Chg.refl _ _).alloc _).alloc _).drew
  have he : (Rd.mk [] c).feed l = ([], ⟨[], c⟩) := by show (if c = 0 then _ else _) = _; rw [if_neg hc]
  refine ⟨_, [], .slice none 0 0, by rw [he], by rw [he]; rfl, FrsOwn.nil _ _, by rw [he]; exact Or.inr ⟨hc, rfl, rfl, hr.chg ha id⟩, (((Chg.refl _ _).alloc _).alloc _).drew, fun j hj => Or.inl hj, by simp [bodyBlocks]⟩

set_option maxRecDepth 100000 in
set_option maxHeartbeats 1600000 in
theorem feed_nil (rb : Nat) (gv : Value) (got : List UInt8) (w : World) (hr : RdS w rb gv got) :
    Calls Try.prog 18 #[.pointer (some ⟨rb, 0, none⟩), .slice none 0 0] w fun e w' => Fed w w' rb gv ⟨got, 0⟩ [] e := by
  have hmf : ∀ (fn : Fn) (first cap : Array Value) (w : World), (Instr.makeFunc fn first cap).run Try.prog w = .ok (.func fn first cap) w := fun _ _ _ _ => rfl
  obtain ⟨L, K, F, S, hrd⟩ := hr.rd
  obtain ⟨-, -, -, -, -, c5⟩ := hrd.cells
  have hrb := hrd.lt
  go_enter_defers Try.func18, Try.ntmps18
  go_wp2
  refine wp_loop_rounds 1 ?_
  rw [rounds_succ]
  go_wp2
  refine leaves_cons (f := 20) (args := #[.pointer (some ⟨w.heap.size + 1, 0, none⟩), .pointer (some ⟨w.heap.size, 0, none⟩)]) (by simp) (by simp [go_sem]) ?_
  refine (clos_idle (w.heap.size + 1) w.heap.size _).mono ?_
  rintro e u' w'' ⟨rfl, rfl, rfl⟩
  refine ⟨.tuple #[.slice none 0 0, .int .i64 0], ?_, ?_⟩
  · simp [results, Try.results18, go_sem]
  · exact fed_nothing hr

set_option maxRecDepth 100000 in
set_option maxHeartbeats 1600000 in
theorem feed_dead (rb : Nat) (bv : Value) (c : Int) (l : List UInt8) (w : World) (hrd : RdB w rb (.slice none 0 0) 0 0 0 0 c) (hcode : (c != 0) = true) :
    Calls Try.prog 18 #[.pointer (some ⟨rb, 0, none⟩), bv] w fun e w' => Fed w w' rb (.slice none 0 0) ⟨[], c⟩ l e := by
  obtain ⟨-, -, -, -, -, c5⟩ := hrd.cells
  have hrb := hrd.lt
  go_enter_defers Try.func18, Try.ntmps18
  go_wp2
  go_region
  go_wp2
  refine ⟨.tuple #[.slice none 0 0, .int .i64 c], ?_, ?_⟩
  · simp [results, Try.results18, go_sem]
  · exact fed_dead hrd (by simpa using hcode)

/-- P5's call: whatever the reader, whatever is fed. -/
theorem feed_any (rb : Nat) (gv bv : Value) (r : Rd) (l : List UInt8) (w : World) (hr : RdT w rb gv r) (hb : BytesIn w bv l) (hl : l.length ≤ 268435456) (hne : ∀ k, bv.ownBlock = some k → k ≠ rb ∧ gv.ownBlock ≠ some k) :
    Calls Try.prog 18 #[.pointer (some ⟨rb, 0, none⟩), bv] w fun e w' => Fed w w' rb gv r l e := by
  obtain ⟨got, code⟩ := r
  rcases hr with ⟨h0, hr⟩ | ⟨h0, rfl, h2, hr⟩
  · simp only at h0 hr
    subst h0
    rcases hb with ⟨rfl, rfl⟩ | ⟨bb, off, cap, rfl, h1, h2, h3⟩
    · exact feed_nil rb gv got w hr
    · exact feed_walk rb bb off cap gv got l w hr hl h1 (hne bb rfl).1 (hne bb rfl).2 h3
  · simp only at h0 h2 hr
    subst h2
    exact feed_dead rb bv code l w hr (by simpa using h0)
end Go.Proofs.Ytjccnikmcoidhaa
