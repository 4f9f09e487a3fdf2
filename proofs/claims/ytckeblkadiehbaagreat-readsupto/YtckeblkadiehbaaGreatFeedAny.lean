/-
  (*sluice.Reader).Feed, whatever the reader and whatever it is fed.
-/
import Derived.Test.YtckeblkadiehbaaGreatFeed
namespace Go.Proofs.YtckeblkadiehbaaGreat
open Go.RowKit

/-- A value that reads as these bytes. -/
def BytesIn (w : World) (bv : Value) (l : List UInt8) : Prop :=
  (bv = .slice none 0 0 ∧ l = []) ∨ ∃ bb off cap, bv = .slice (some ⟨bb, off, none⟩) l.length cap ∧ bb < w.heap.size ∧ l.length ≤ cap ∧ ∀ i, i < l.length → w.cell? ⟨bb, off + i, none⟩ = some (.int .u8 (l.getD i 0).toNat)

theorem bytesIn_of_owns {w : World} {b n : Nat} {v : Value} {l : List UInt8} (h : w.ownsRow b 5 1 v n (l.map B)) (hn : n = l.length) : BytesIn w v l := by
  subst hn
  rcases h.2 with ⟨rfl, h0⟩ | ⟨g, cap, cur, rfl, _, hgg, hle, _⟩
  · exact Or.inl ⟨rfl, List.eq_nil_of_length_eq_zero h0⟩
  · refine Or.inr ⟨g, 0, cap, rfl, (Array.getElem?_eq_some_iff.1 hgg).1, hle, fun i hi => ?_⟩
    have := h.cells (g := g) rfl i (B (l.getD i 0)) (by simp [List.getD, hi])
    rw [Nat.zero_add, ← this]
    congr 1
    unfold Addr.add; split <;> simp_all

theorem BytesIn.chg {S : Nat → Prop} {w w' : World} {bv : Value} {l : List UInt8} (h : BytesIn w bv l) (hc : Chg S w w') (hs : ∀ k, bv.ownBlock = some k → ¬ S k) : BytesIn w' bv l := by
  rcases h with h | ⟨bb, off, cap, rfl, h1, h2, h3⟩
  · exact Or.inl h
  · exact Or.inr ⟨bb, off, cap, rfl, Nat.lt_of_lt_of_le h1 hc.size, h2, fun i hi => (hc.cell (p := ⟨bb, off + i, none⟩) h1 (hs bb rfl)).trans (h3 i hi)⟩

/-- .. or an empty slice without room, of whose address nothing is known. -/
def BytesA (w : World) (bv : Value) (l : List UInt8) : Prop := BytesIn w bv l ∨ ∃ ad, bv = .slice (some ad) 0 0 ∧ l = []

theorem BytesA.chg {w w' : World} {bv : Value} {l : List UInt8} (h : BytesA w bv l) (hc : Chg (fun _ => False) w w') : BytesA w' bv l := by
  rcases h with h | h
  · exact Or.inl (h.chg hc (fun _ _ => id))
  · exact Or.inr h
theorem bytesA_len {w : World} {bv : Value} {l : List UInt8} (h : BytesA w bv l) : ∃ sa cap, bv = .slice sa l.length cap := by
  rcases h with (⟨rfl, rfl⟩ | ⟨bb, off, cap, rfl, _⟩) | ⟨ad, rfl, rfl⟩
  · exact ⟨_, _, rfl⟩
  · exact ⟨_, _, rfl⟩
  · exact ⟨_, _, rfl⟩

theorem BytesIn.lt {w : World} {bv : Value} {l : List UInt8} (h : BytesIn w bv l) {k : Nat} (hk : bv.ownBlock = some k) : k < w.heap.size := by
  rcases h with ⟨rfl, _⟩ | ⟨bb, off, cap, rfl, h1, _⟩
  · simp [Value.ownBlock] at hk
  · simp [Value.ownBlock] at hk; omega

theorem fed_nothing {w : World} {rb : Nat} {gv : Value} {got : List UInt8} (hr : RdS w rb gv got) :
    Fed w ((w.alloc (.cells #[.pointer (some ⟨rb, 0, none⟩)] 92)).alloc (.cells #[.int .i64 0] 83)) rb gv ⟨got, 0⟩ [] (.returned (.tuple #[.slice none 0 0, .int .i64 0])) := by
  have ha : Chg (fun _ => False) w ((w.alloc (.cells #[.pointer (some ⟨rb, 0, none⟩)] 92)).alloc (.cells #[.int .i64 0] 83)) := ((Chg.refl _ _).alloc _).alloc _
  exact ⟨_, [], gv, rfl, rfl, FrsOwn.nil _ _, Or.inl ⟨rfl, hr.chg ha id (fun _ _ => id)⟩, ((Chg.refl _ _).alloc _).alloc _, fun j hj => Or.inl hj, by simp [bodyBlocks]⟩

theorem fed_dead {w : World} {rb : Nat} {c : Int} {l : List UInt8} (hr : RdB w rb (.slice none 0 0) 0 0 0 0 c) (hc : c ≠ 0) :
    Fed w ((w.alloc (.cells #[.pointer (some ⟨rb, 0, none⟩)] 92)).alloc (.cells #[.int .i64 c] 83)).drew rb (.slice none 0 0) ⟨[], c⟩ l (.returned (.tuple #[.slice none 0 0, .int .i64 c])) := by
  have ha : Chg (fun _ => False) w ((w.alloc (.cells #[.pointer (some ⟨rb, 0, none⟩)] 92)).alloc (.cells #[.int .i64 c] 83)).drew := (((Chg.refl _ _).alloc _).alloc _).drew
  have he : (Rd.mk [] c).feed l = ([], ⟨[], c⟩) := by show (if c = 0 then _ else _) = _; rw [if_neg hc]
  refine ⟨_, [], .slice none 0 0, by rw [he], by rw [he]; rfl, FrsOwn.nil _ _, by rw [he]; exact Or.inr ⟨hc, rfl, rfl, hr.chg ha id⟩, (((Chg.refl _ _).alloc _).alloc _).drew, fun j hj => Or.inl hj, by simp [bodyBlocks]⟩

set_option maxRecDepth 100000 in
set_option maxHeartbeats 1600000 in
theorem feed_nil (rb : Nat) (gv : Value) (got : List UInt8) (w : World) (hr : RdS w rb gv got) :
    Calls Tryz.prog 29 #[.pointer (some ⟨rb, 0, none⟩), .slice none 0 0] w fun e w' => Fed w w' rb gv ⟨got, 0⟩ [] e := by
  have hmf : ∀ (fn : Fn) (first cap : Array Value) (w : World), (Instr.makeFunc fn first cap).run Tryz.prog w = .ok (.func fn first cap) w := fun _ _ _ _ => rfl
  obtain ⟨L, K, F, S, hrd⟩ := hr.rd
  obtain ⟨-, -, -, -, -, c5⟩ := hrd.cells
  have hrb := hrd.lt
  go_enter_defers Tryz.func29, Tryz.ntmps29
  go_wp2
  refine wp_loop_rounds 1 ?_
  rw [rounds_succ]
  go_wp2
  refine leaves_cons (f := 68) (args := #[.pointer (some ⟨w.heap.size + 1, 0, none⟩), .pointer (some ⟨w.heap.size, 0, none⟩)]) (by simp) (by simp [go_sem]) ?_
  refine (clos_idle (w.heap.size + 1) w.heap.size _).mono ?_
  rintro e u' w'' ⟨rfl, rfl, rfl⟩
  refine ⟨.tuple #[.slice none 0 0, .int .i64 0], ?_, ?_⟩
  · simp [results, Tryz.results29, go_sem]
  · exact fed_nothing hr

set_option maxRecDepth 100000 in
set_option maxHeartbeats 1600000 in
theorem feed_dead (rb : Nat) (bv : Value) (c : Int) (l : List UInt8) (w : World) (hrd : RdB w rb (.slice none 0 0) 0 0 0 0 c) (hcode : (c != 0) = true) :
    Calls Tryz.prog 29 #[.pointer (some ⟨rb, 0, none⟩), bv] w fun e w' => Fed w w' rb (.slice none 0 0) ⟨[], c⟩ l e := by
  obtain ⟨-, -, -, -, -, c5⟩ := hrd.cells
  have hrb := hrd.lt
  go_enter_defers Tryz.func29, Tryz.ntmps29
  go_wp2
  go_region
  go_wp2
  refine ⟨.tuple #[.slice none 0 0, .int .i64 c], ?_, ?_⟩
  · simp [results, Tryz.results29, go_sem]
  · exact fed_dead hrd (by simpa using hcode)

/-- P5's call: whatever the reader, whatever is fed. -/
theorem feed_any (rb : Nat) (gv bv : Value) (r : Rd) (l : List UInt8) (w : World) (hr : RdT w rb gv r) (hb : BytesIn w bv l) (hl : l.length ≤ 268435456) (hne : ∀ k, bv.ownBlock = some k → k ≠ rb ∧ gv.ownBlock ≠ some k) :
    Calls Tryz.prog 29 #[.pointer (some ⟨rb, 0, none⟩), bv] w fun e w' => Fed w w' rb gv r l e := by
  obtain ⟨got, code⟩ := r
  rcases hr with ⟨h0, hr⟩ | ⟨h0, rfl, h2, hr⟩
  · simp only at h0 hr
    subst h0
    rcases hb with ⟨rfl, rfl⟩ | ⟨bb, off, cap, rfl, h1, h2, h3⟩
    · exact feed_nil rb gv got w hr
    · exact feed_walk rb bb off cap gv got l w hr hl h1 (hne bb rfl).1 (hne bb rfl).2 h3
  · simp only at h0 h2 hr
    subst h2
    exact feed_dead rb bv code l w hr (by simpa using h0)
end Go.Proofs.YtckeblkadiehbaaGreat
