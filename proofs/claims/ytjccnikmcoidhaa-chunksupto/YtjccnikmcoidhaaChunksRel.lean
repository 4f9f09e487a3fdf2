import Derived.Test.YtjccnikmcoidhaaSliced
import Derived.Test.YtjccnikmcoidhaaTame
import Derived.Test.YtjccnikmcoidhaaSame
set_option linter.unusedVariables false
set_option linter.unusedSimpArgs false
/-
  sluicekeep.Chunks: what holds in its loops.
-/
namespace Go.Proofs.Ytjccnikmcoidhaa
open Go.RowKit

/-- A list of frames, as an argument. -/
structure FsIn (w : World) (sa : Option Addr) (qs : List (Fr × Value)) : Prop where
  cell : ∀ k (h : k < qs.length), ∃ fb off, sa = some ⟨fb, off, none⟩ ∧ fb < w.heap.size ∧ w.cell? ⟨fb, off + k * 4, none⟩ = some (.int .i64 qs[k].1.kind) ∧ w.cell? ⟨fb, off + k * 4 + 1, none⟩ = some (.int .i64 qs[k].1.flags) ∧
    w.cell? ⟨fb, off + k * 4 + 2, none⟩ = some (.int .i64 qs[k].1.stream) ∧ w.cell? ⟨fb, off + k * 4 + 3, none⟩ = some qs[k].2
  body : ∀ q ∈ qs, BytesA w q.2 q.1.body
  ok : ∀ q ∈ qs, I64 q.1.kind ∧ I64 q.1.flags ∧ I64 q.1.stream

/-- The world behind the first statement. -/
abbrev ch1 (w : World) : World := ((w.alloc (.cells #[.int .u8 104, .int .u8 105] 5 (2, 3))).alloc (.cells #[.int .i64 0, .int .i64 0, .int .i64 1, .slice (some ⟨w.heap.size, 0, none⟩) 2 2] 26))

/-- The frames so far. -/
structure L1 (w wr : World) (k : Nat) (lv : Value) (ps : List (Fr × Value)) : Prop where
  has : FrsHas wr lv ps
  right : ∀ p ∈ ps, FrRight p.1
  len : ps.length = k + 1
  bel : Below w.heap.size w wr
  apart : ∀ p ∈ ps, ∀ j, p.2.ownBlock = some j → lv.ownBlock ≠ some j
  own : ∀ j, lv.ownBlock = some j → w.heap.size ≤ j

theorem hi_right : FrRight ⟨0, 0, 1, [104, 105]⟩ := ⟨by decide, by decide, by decide, by decide, by decide, by decide, by decide, by decide, by decide, by decide⟩

theorem L1.start (w : World) : L1 w (ch1 w) 0 (.slice (some ⟨w.heap.size + 1, 0, none⟩) 1 1) [(⟨0, 0, 1, [104, 105]⟩, .slice (some ⟨w.heap.size, 0, none⟩) 2 2)] := by
  refine ⟨⟨?_, ?_⟩, ?_, rfl, ((Below.refl _ _).alloc (Nat.le_refl _) _).alloc (by simp) _, ?_, ?_⟩
  · have h := World.ownsRow_lit (base := 0) (e := 26) (size := 4) (w.alloc (.cells #[.int .u8 104, .int .u8 105] 5 (2, 3))) #[.int .i64 0, .int .i64 0, .int .i64 1, .slice (some ⟨w.heap.size, 0, none⟩) 2 2] 1 (Nat.zero_le _) (by decide) rfl
    simpa [cellsOf] using h
  · intro p hp
    simp at hp
    subst hp
    refine Or.inr ⟨w.heap.size, 0, 2, rfl, by simp; omega, by simp, fun i hi => ?_⟩
    have hb : (ch1 w).heap[w.heap.size]? = some (.cells #[.int .u8 104, .int .u8 105] 5 (2, 3)) := by
      rw [Below.heap_alloc _ _ _ (by simp)]; exact heap_alloc_new w _
    rw [cell_of_row _ _ _ _ _ _ hb]
    have : i = 0 ∨ i = 1 := by simp at hi; omega
    rcases this with rfl | rfl <;> rfl
  · intro p hp
    simp at hp
    subst hp
    exact hi_right
  · intro p hp j hj
    simp at hp
    subst hp
    simp [Value.ownBlock] at hj ⊢
    omega
  · intro j hj
    simp [Value.ownBlock] at hj
    omega

theorem L1.next {w wr w1 w2 : World} {k : Nat} {lv v' : Value} {ps : List (Fr × Value)} {fr : Fr} {bv : Value} {o1 o2 : Obj} (h : L1 w wr k lv ps) (hr : FrRight fr) (hb1 : Below wr.heap.size wr w1)
    (hbo : w1.ownsRow wr.heap.size 5 1 bv fr.body.length (fr.body.map B)) (hown : w2.ownsRow 0 26 4 v' (ps.length + 1) (cellsOf ps ++ cellsOf [(fr, bv)])) (hg : ((w1.alloc o1).alloc o2).grownBy w2 lv.ownBlock)
    (hfr : v'.ownBlock = lv.ownBlock ∨ v'.ownBlock = some (w1.heap.size + 1 + 1)) : L1 w w2 (k + 1) v' (ps ++ [(fr, bv)]) := by
  have hsz := h.bel.size
  have hsz1 := hb1.size
  have hsz2 := hg.size
  simp only [World.size_alloc] at hsz2
  have hc : Chg (fun j => lv.ownBlock = some j) w1 w2 := Chg.trans (((Chg.refl _ _).alloc o1).alloc o2) (Chg.of_grown hg (fun j hj => Or.inr hj))
  have hhas1 := h.has.below hb1
  have hbv : ∀ j, bv.ownBlock = some j → lv.ownBlock ≠ some j := fun j hj e => rows_ne hhas1.row hbo (by decide) e hj
  refine ⟨⟨?_, ?_⟩, ?_, by simp [h.len], ?_, ?_, ?_⟩
  · rw [cellsOf_append, List.length_append]; exact hown
  · intro p hp
    rcases List.mem_append.1 hp with hp | hp
    · exact (hhas1.body p hp).chg hc (fun j hj e => h.apart p hp j hj e)
    · simp at hp; subst hp
      exact bytesIn_of_owns (owns_chg hbo hc (fun j hj e => hbv j hj e)) rfl
  · intro p hp
    rcases List.mem_append.1 hp with hp | hp
    · exact h.right p hp
    · simp at hp; subst hp; exact hr
  · exact (h.bel.trans (hb1.mono hsz)).trans ⟨hc.os, hc.tape, hc.output, hc.size, fun j hj => hc.block j (by omega) (fun e => by have := h.own j e; omega)⟩
  · intro p hp j hj e
    rcases List.mem_append.1 hp with hp | hp
    · rcases hfr with a | a
      · rw [a] at e; exact h.apart p hp j hj e
      · rw [a] at e; simp at e
        have := (hhas1.body p hp).lt hj; omega
    · simp at hp; subst hp
      rcases hfr with a | a
      · rw [a] at e; exact hbv j hj e
      · rw [a] at e; simp at e
        have := owns_lt hbo hj; omega
  · intro j hj
    rcases hfr with a | a
    · rw [a] at hj; exact h.own j hj
    · rw [a] at hj; simp at hj; omega

/-- Frames that are right, and anything behind them. -/
theorem feed_layAll (fs : List Fr) (h : ∀ f ∈ fs, FrRight f) (t : List UInt8) : (Rd.mk [] 0).feed (layAll fs ++ t) = (fs ++ ((Rd.mk [] 0).feed t).1, ((Rd.mk [] 0).feed t).2) := by
  induction fs with
  | nil => simp [layAll]
  | cons f r ih =>
    have e : layAll (f :: r) ++ t = lay f.kind f.flags f.stream f.body ++ (layAll r ++ t) := by simp [layAll]
    have h1 : (Rd.mk [] 0).feed (lay f.kind f.flags f.stream f.body) = ([f], ⟨[], 0⟩) := by
      show (if (0 : Int) = 0 then _ else _) = _
      rw [if_pos rfl]
      exact feed_right (h f (List.mem_cons_self ..))
    rw [e, Rd.feed_append, h1, ih (fun g hg => h g (List.mem_cons_of_mem _ hg))]
    simp

/-- What a list that was told reads as. -/
theorem TdS.has {w : World} {tb rb : Nat} {tv gv : Value} {ps : List (Fr × Value)} {r : Rd} (h : TdS w tb rb tv gv ps r) : FrsHas w tv ps :=
  ⟨h.row, fun p hp => bytesIn_of_owns (h.body p hp) rfl⟩
theorem told_below {w w' : World} {b : Nat} {cs : Array Value} {t : TypeId} {fr : Nat × Nat} (h : w.heap[b]? = some (.cells cs t fr)) (hb : Below w.heap.size w w') : w'.heap[b]? = some (.cells cs t fr) := by
  rw [hb.block b (lt_of_block h)]; exact h

theorem fst_eq {xs ys : List (Fr × Value)} (h : xs.map Prod.fst = ys.map Prod.fst) {k : Nat} (ha : k < xs.length) (hb : k < ys.length) : xs[k].1 = ys[k].1 := by
  have h1 : (xs.map Prod.fst)[k]? = (ys.map Prod.fst)[k]? := by rw [h]
  simpa [ha, hb] using h1
theorem fst_pre {xs ps : List (Fr × Value)} {r : List Fr} (h : xs.map Prod.fst = ps.map Prod.fst ++ r) {k : Nat} (ha : k < xs.length) (hb : k < ps.length) : xs[k].1 = ps[k].1 := by
  have h1 : (xs.map Prod.fst)[k]? = (ps.map Prod.fst ++ r)[k]? := by rw [h]
  rw [List.getElem?_append_left (by simpa using hb)] at h1
  simpa [ha, hb] using h1

theorem layAll_ge (fs : List Fr) : 6 * fs.length ≤ (layAll fs).length := by
  induction fs with
  | nil => simp [layAll]
  | cons f r ih =>
    have e : layAll (f :: r) = lay f.kind f.flags f.stream f.body ++ layAll r := by simp [layAll]
    rw [e, List.length_append, lay_length, List.length_cons]
    omega

/-- All that is known behind the two readings. -/
structure Both (w4 : World) (ta tb : Nat) (lv : Value) (ps psa psb : List (Fr × Value)) (ga ca gb cb : Nat) (code : Int) (tail : List UInt8) : Prop where
  a : w4.heap[ta]? = some (.cells #[.slice (some ⟨ga, 0, none⟩) psa.length ca, .int .i64 code, .bool true] 34 (0, 0))
  b : w4.heap[tb]? = some (.cells #[.slice (some ⟨gb, 0, none⟩) psa.length cb, .int .i64 code, .bool true] 34 (0, 0))
  ha : FrsHas w4 (.slice (some ⟨ga, 0, none⟩) psa.length ca) psa
  hb : FrsHas w4 (.slice (some ⟨gb, 0, none⟩) psa.length cb) psb
  hl : FrsHas w4 lv ps
  len : psb.length = psa.length
  same : psa.map Prod.fst = psb.map Prod.fst
  pre : ∃ r, psa.map Prod.fst = ps.map Prod.fst ++ r
  le : ps.length ≤ psa.length
  none : tail = [] → code = 0 ∧ psa.length = ps.length

theorem both_of {w2 w3 w4 : World} {lv : Value} {ps : List (Fr × Value)} {all tail : List UInt8} {tva gva tvb gvb : Value} {psa psb : List (Fr × Value)} (hl : FrsHas w2 lv ps) (hr : ∀ p ∈ ps, FrRight p.1) (hpos : 0 < ps.length) (hall : all = layAll (ps.map Prod.fst) ++ tail)
    (ha : TdS w3 w2.heap.size (w2.heap.size + 1) tva gva psa ((Rd.mk [] 0).feed all).2) (hpa : psa.map Prod.fst = ((Rd.mk [] 0).feed all).1) (hb3 : Below w2.heap.size w2 w3)
    (hb : TdS w4 w3.heap.size (w3.heap.size + 1) tvb gvb psb ((Rd.mk [] 0).feed all).2) (hpb : psb.map Prod.fst = ((Rd.mk [] 0).feed all).1) (hb4 : Below w3.heap.size w3 w4) :
    ∃ ga ca gb cb, Both w4 w2.heap.size w3.heap.size lv ps psa psb ga ca gb cb ((Rd.mk [] 0).feed all).2.code tail := by
  have hx := feed_layAll (ps.map Prod.fst) (fun f hf => by
    obtain ⟨p, hp, rfl⟩ := List.mem_map.1 hf
    exact hr p hp) tail
  rw [← hall] at hx
  have hlen : psb.length = psa.length := by
    have h1 := congrArg List.length hpa
    have h2 := congrArg List.length hpb
    rw [List.length_map] at h1 h2
    omega
  have hle : ps.length ≤ psa.length := by
    have h1 := congrArg List.length hpa
    rw [hx] at h1
    simp at h1
    omega
  obtain ⟨ga, ca, rfl, _⟩ := owned_slice ha.row (by omega)
  obtain ⟨gb, cb, hvb, _⟩ := owned_slice hb.row (by omega)
  rw [hlen] at hvb
  subst hvb
  refine ⟨ga, ca, gb, cb, told_below ha.td hb4, hb.td, ha.has.below hb4, hb.has, (hl.below hb3).below hb4, hlen, by rw [hpa, hpb], ⟨_, by rw [hpa, hx]⟩, hle, fun ht => ?_⟩
  subst ht
  have h0 : (Rd.mk [] 0).feed [] = ([], ⟨[], 0⟩) := Rd.feed_nil _
  rw [h0] at hx
  refine ⟨by rw [hx], ?_⟩
  have h1 := congrArg List.length hpa
  rw [hx] at h1
  simpa using h1
end Go.Proofs.Ytjccnikmcoidhaa
