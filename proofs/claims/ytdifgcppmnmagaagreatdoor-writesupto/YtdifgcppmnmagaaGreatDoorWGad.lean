import Derived.Test.YtdifgcppmnmagaaGreatDoorWGac
import Derived.Test.YtdifgcppmnmagaaGreatDoorWGaa
import Derived.Test.YtdifgcppmnmagaaGreatDoorWGab
set_option linter.unusedVariables false
set_option linter.unusedSimpArgs false
/-
  What holds at every round of Feed's loop, and what a round does to it.
-/
namespace Go.Proofs.YtdifgcppmnmagaaGreatDoor
open Go.RowKit
set_option linter.unusedVariables false

/-- The two variables that Feed lays down. -/
structure Vars (w0 : Nat) (wr : World) (rb : Nat) : Prop where
  r : wr.heap[w0]? = some (.cells #[.pointer (some ⟨rb, 0, none⟩)] 92 (0, 0))
  f : wr.heap[w0 + 1]? = some (.cells #[.int .i64 0] 83 (0, 0))

theorem Vars.chg {S : Nat → Prop} {w0 : Nat} {w w' : World} {rb : Nat} (h : Vars w0 w rb) (hc : Chg S w w') (h1 : ¬ S w0) (h2 : ¬ S (w0 + 1)) : Vars w0 w' rb :=
  ⟨by rw [hc.block w0 (lt_of_block h.r) h1]; exact h.r, by rw [hc.block (w0 + 1) (lt_of_block h.f) h2]; exact h.f⟩

structure FeedRel (w : World) (rb : Nat) (gv : Value) (got l : List UInt8) (k : Nat) (v : Value) (wr : World) (ps : List (Fr × Value)) (gv' : Value) (got' : List UInt8) : Prop where
  le : k ≤ l.length
  st : RdS wr rb gv' got'
  frs : FrsOwn wr w.heap.size v ps
  eq : feed got l = (ps.map Prod.fst ++ (feed got' (l.drop k)).1, (feed got' (l.drop k)).2)
  chg : Chg (Touch rb gv) w wr
  fresh : ∀ j, gv'.ownBlock = some j → gv.ownBlock = some j ∨ w.heap.size ≤ j
  apart : ∀ j ∈ bodyBlocks ps, gv'.ownBlock ≠ some j
  vars : Vars w.heap.size wr rb
  few : ps.length ≤ k

theorem RdS.own {w : World} {rb : Nat} {gv : Value} {got : List UInt8} (h : RdS w rb gv got) : w.ownsRow 0 5 1 gv got.length (got.map B) := h.2.1
theorem RdS.chg {S : Nat → Prop} {w w' : World} {rb : Nat} {gv : Value} {got : List UInt8} (h : RdS w rb gv got) (hc : Chg S w w') (h1 : ¬ S rb) (h2 : ∀ k, gv.ownBlock = some k → ¬ S k) : RdS w' rb gv got := by
  obtain ⟨a, b, L, K, F, S', d, e⟩ := h
  exact ⟨a, owns_chg b hc h2, L, K, F, S', d.chg hc h1, e⟩
theorem RdS.rd {w : World} {rb : Nat} {gv : Value} {got : List UInt8} (h : RdS w rb gv got) : ∃ L K F S, RdB w rb gv L K F S 0 := by
  obtain ⟨_, _, L, K, F, S', d, _⟩ := h
  exact ⟨L, K, F, S', d⟩

section
variable {w : World} {rb : Nat} {gv : Value} {got l : List UInt8} {k : Nat} {v : Value} {wr : World} {ps : List (Fr × Value)} {gv' : Value} {got' : List UInt8}

theorem FeedRel.rlt (h : FeedRel w rb gv got l k v wr ps gv' got') (hrb : rb < w.heap.size) (hv : gv.ownBlock ≠ some w.heap.size) : w.heap.size + 1 < wr.heap.size := lt_of_block h.vars.f

/-- What was told is not touched by a call on the reader. -/
theorem FeedRel.touch (h : FeedRel w rb gv got l k v wr ps gv' got') (hrb : rb < w.heap.size) {w1 : World} (hc : Chg (Touch rb gv') wr w1) : FrsOwn w1 w.heap.size v ps ∧ Vars w.heap.size w1 rb ∧ Chg (Touch rb gv) w w1 := by
  refine ⟨h.frs.chg' hc ?_ ?_, h.vars.chg hc ?_ ?_, h.chg.trans (hc.mono ?_)⟩
  · rintro j hj (rfl | e)
    · have := (h.frs.row.lt _ hj).1; omega
    · exact rows_ne h.frs.row h.st.own (by decide) hj e
  · rintro j hj (rfl | e)
    · have := (h.frs.blocks hj).1; omega
    · exact h.apart j hj e
  · rintro (e | e)
    · omega
    · exact owns_ne h.st.own h.vars.r (by decide) e
  · rintro (e | e)
    · omega
    · exact owns_ne h.st.own h.vars.f (by decide) e
  · rintro j _ (rfl | e)
    · exact Or.inr (Or.inl rfl)
    · rcases h.fresh j e with a | a
      · exact Or.inr (Or.inr a)
      · exact Or.inl a

theorem FeedRel.more (h : FeedRel w rb gv got l k v wr ps gv' got') (hrb : rb < w.heap.size) (hk : k < l.length) {g' : List UInt8} (hs : step got' (l.getD k 0) = .more g') {w1 : World} {gv'' : Value} (hl : Left wr w1 rb gv' gv'' g') :
    FeedRel w rb gv got l (k + 1) v w1 ps gv'' g' := by
  obtain ⟨h1, h2, h3⟩ := h.touch hrb hl.chg
  refine ⟨hk, hl.st, h1, ?_, h3, ?_, ?_, h2, ?_⟩
  · rw [h.eq, drop_cons hk]; simp only [feed, hs]
  · intro j hj
    rcases hl.fresh j hj with a | a
    · exact h.fresh j a
    · exact Or.inr (by have := h.chg.size; omega)
  · intro j hj e
    rcases hl.fresh j e with a | a
    · exact h.apart j hj a
    · have := (h.frs.blocks hj).2; omega
  · have := h.few; omega

theorem FeedRel.frame (h : FeedRel w rb gv got l k v wr ps gv' got') (hrb : rb < w.heap.size) (hk : k < l.length) {f : Fr} (hs : step got' (l.getD k 0) = .frame f) {w1 w2 : World} {bv gv'' v' : Value} (hl : Left wr w1 rb gv' gv'' [])
    (hb : w1.ownsRow 0 5 1 bv f.body.length (f.body.map B)) (hbf : ∀ j, bv.ownBlock = some j → wr.heap.size ≤ j) (hne : ∀ j, bv.ownBlock = some j → gv''.ownBlock ≠ some j) {o2 : Obj} {wp : World} (hbp : Below w1.heap.size w1 wp)
    (hown : w2.ownsRow 0 56 4 v' (ps.length + 1) (cellsOf ps ++ cellsOf [(f, bv)])) (hg : (wp.alloc o2).grownBy w2 v.ownBlock) (hfr : v'.ownBlock = v.ownBlock ∨ v'.ownBlock = some (wp.heap.size + 1)) :
    FeedRel w rb gv got l (k + 1) v' w2 (ps ++ [(f, bv)]) gv'' [] := by
  obtain ⟨h1, h2, h3⟩ := h.touch hrb hl.chg
  have hsz := hl.chg.size
  have hsz0 := h.chg.size
  have hsz2 := hg.size
  simp only [World.size_alloc] at hsz2
  have hszp := hbp.size
  have hc : Chg (fun j => v.ownBlock = some j) w1 w2 := Chg.trans ((Chg.of_below hbp).alloc o2) (Chg.of_grown hg (fun j hj => Or.inr hj))
  have hv : ∀ j, v.ownBlock = some j → w.heap.size ≤ j := fun j hj => (h1.row.lt j hj).1
  have hb1 : ∀ j, bv.ownBlock = some j → v.ownBlock ≠ some j := fun j hj e => rows_ne h1.row hb (by decide) e hj
  have hg1 : ∀ j, gv''.ownBlock = some j → v.ownBlock ≠ some j := fun j hj e => rows_ne h1.row hl.st.own (by decide) e hj
  have hps : ∀ p ∈ ps, w2.ownsRow w.heap.size 5 1 p.2 p.1.body.length (p.1.body.map B) := fun p hp => owns_chg (h1.body p hp) hc (fun j hj e => rows_ne h1.row (h1.body p hp) (by decide) e hj)
  refine ⟨hk, hl.st.chg hc (fun e => by have := hv rb e; omega) hg1, ⟨?_, ?_, ?_⟩, ?_, h3.trans (hc.mono (fun j _ hj => Or.inl (hv j hj))), ?_, ?_, h2.chg hc ?_ ?_, ?_⟩
  · rw [cellsOf_append]
    simp only [List.length_append, List.length_cons, List.length_nil, Nat.zero_add]
    refine owns_base hown (fun j hj => ?_)
    rcases hfr with e | e
    · rw [e] at hj; exact hv j hj
    · rw [e] at hj; simp at hj; omega
  · intro p hp
    rcases List.mem_append.1 hp with hp | hp
    · exact hps p hp
    · simp at hp; subst hp
      exact owns_base (owns_chg hb hc hb1) (fun j hj => by have := hbf j hj; omega)
  · rw [bodyBlocks_append, List.nodup_append]
    refine ⟨h.frs.nodup, ?_, ?_⟩
    · unfold bodyBlocks
      cases e : bv.ownBlock <;> simp [e]
    · intro a ha b hb' e
      subst e
      obtain ⟨p, hp, e⟩ := mem_bodyBlocks.1 hb'
      simp at hp; subst hp
      have := hbf a e
      have := (h.frs.blocks ha).2
      omega
  · rw [h.eq, drop_cons hk]
    simp only [feed, hs, List.map_append, List.map_cons, List.map_nil, List.append_assoc, List.cons_append, List.nil_append]
  · intro j hj
    rcases hl.fresh j hj with a | a
    · exact h.fresh j a
    · exact Or.inr (by omega)
  · intro j hj e
    rw [bodyBlocks_append] at hj
    rcases List.mem_append.1 hj with hj | hj
    · rcases hl.fresh j e with a | a
      · exact h.apart j hj a
      · have := (h.frs.blocks hj).2; omega
    · obtain ⟨p, hp, e'⟩ := mem_bodyBlocks.1 hj
      simp at hp; subst hp
      exact hne j e' e
  · exact fun e => owns_ne h1.row h2.r (by decide) e
  · exact fun e => owns_ne h1.row h2.f (by decide) e
  · have := h.few; simp; omega
end
end Go.Proofs.YtdifgcppmnmagaaGreatDoor
/-
  (*sluice.Reader).Feed.
-/
namespace Go.Proofs.YtdifgcppmnmagaaGreatDoor
open Go.RowKit
set_option linter.unusedVariables false

/-- The end of Feed. -/
def Fed (w w' : World) (rb : Nat) (gv : Value) (r : Rd) (l : List UInt8) (e : Ending) : Prop :=
  ∃ v ps gv', e = .returned (.tuple #[v, .int .i64 (r.feed l).2.code]) ∧ ps.map Prod.fst = (r.feed l).1 ∧ FrsOwn w' w.heap.size v ps ∧ RdT w' rb gv' (r.feed l).2 ∧ Chg (Touch rb gv) w w' ∧
    (∀ j, gv'.ownBlock = some j → gv.ownBlock = some j ∨ w.heap.size ≤ j) ∧ (∀ j ∈ bodyBlocks ps, gv'.ownBlock ≠ some j)

theorem feed_start {w : World} {rb : Nat} {gv : Value} {got l : List UInt8} (hr : RdS w rb gv got) (hrb : rb < w.heap.size) :
    FeedRel w rb gv got l 0 (.slice none 0 0) ((w.alloc (.cells #[.pointer (some ⟨rb, 0, none⟩)] 92)).alloc (.cells #[.int .i64 0] 83)) [] gv got := by
  have ha : Chg (fun _ => False) w ((w.alloc (.cells #[.pointer (some ⟨rb, 0, none⟩)] 92)).alloc (.cells #[.int .i64 0] 83)) := ((Chg.refl _ _).alloc _).alloc _
  refine ⟨Nat.zero_le _, hr.chg ha id (fun _ _ => id), FrsOwn.nil _ _, by simp, ((Chg.refl _ _).alloc _).alloc _, fun j hj => Or.inl hj, by simp [bodyBlocks], ⟨?_, ?_⟩, Nat.le_refl _⟩
  · rw [Below.heap_alloc _ _ _ (by simp)]; exact heap_alloc_new w _
  · have := heap_alloc_new (w.alloc (.cells #[.pointer (some ⟨rb, 0, none⟩)] 92)) (.cells #[.int .i64 0] 83)
    simpa using this

theorem frame_one (f : Fr) (sa : Option Addr) (n c : Nat) : ∀ u ∈ cellsOf [(f, .slice sa n c)], u.oneCell' = true := by
  intro u hu
  simp [cellsOf] at hu
  rcases hu with rfl | rfl | rfl | rfl <;> rfl

theorem lies_frame1 (w1 : World) (f : Fr) (sa : Option Addr) (n c : Nat) :
    Lies (w1.alloc (.cells #[.int .i64 f.kind, .int .i64 f.flags, .int .i64 f.stream, .slice sa n c] 56)) (.slice (some ⟨w1.heap.size, 0, none⟩) 1 1) 1 (cellsOf [(f, .slice sa n c)]) := by
  refine Or.inr ⟨_, _, rfl, fun j u hu => ?_⟩
  have hh := heap_alloc_new w1 (.cells #[.int .i64 f.kind, .int .i64 f.flags, .int .i64 f.stream, .slice sa n c] 56)
  have e : (⟨w1.heap.size, 0, none⟩ : Addr).add j = ⟨w1.heap.size, j, none⟩ := by unfold Addr.add; split <;> simp_all
  rw [e, cell_of_row _ _ _ _ _ _ hh, ← hu]
  simp [cellsOf]

theorem lies_frame (w1 : World) (o : Obj) (f : Fr) (sa : Option Addr) (n c : Nat) :
    Lies ((w1.alloc o).alloc (.cells #[.int .i64 f.kind, .int .i64 f.flags, .int .i64 f.stream, .slice sa n c] 56)) (.slice (some ⟨w1.heap.size + 1, 0, none⟩) 1 1) 1 (cellsOf [(f, .slice sa n c)]) := by
  have h := lies_frame1 (w1.alloc o) f sa n c
  rw [World.size_alloc] at h
  exact h

set_option maxRecDepth 100000 in
set_option maxHeartbeats 400000 in
theorem plain_any (k f s : Int) (sa : Option Addr) (n c : Nat) (w : World) :
    Calls Tryz.prog 445 #[.agg #[.int .i64 k, .int .i64 f, .int .i64 s, .slice sa n c]] w fun e w' => e = .returned (.agg #[.int .i64 k, .int .i64 f, .int .i64 s, .slice sa n c]) ∧ Below w.heap.size w w' := by
  have HB := hide (below_two w (.cells #[.int .i64 k, .int .i64 f, .int .i64 s, .slice sa n c] 340) (.cells #[.int .i64 k, .int .i64 f, .int .i64 s, .slice sa n c] 56))
  go_enter Tryz.func445, Tryz.ntmps445
  go_wp2
  all_goals first
    | exact ⟨rfl, HB.out⟩
    | (refine bodyPost_ret (v := .agg #[.int .i64 k, .int .i64 f, .int .i64 s, .slice sa n c]) ?_ rfl ⟨rfl, HB.out⟩; simp [results, Tryz.results445, go_sem])

/-- Which method a frame's Plain is: that of the whole in it. -/
theorem frV_plain (k f s : Int) (sa : Option Addr) (n c : Nat) (cv : Value) (l : List UInt8) : ∃ t v, frV k f s (.slice sa n c) cv l = .iface t v ∧ ∀ w, (method 630 t v "Plain").run Tryz.prog w = .ok (445, .agg #[.int .i64 k, .int .i64 f, .int .i64 s, .slice sa n c]) w := by
  unfold frV
  split
  · exact ⟨_, _, rfl, fun w => by kernel_rfl⟩
  split
  · exact ⟨_, _, rfl, fun w => by kernel_rfl⟩
  split
  · exact ⟨_, _, rfl, fun w => by kernel_rfl⟩
  split
  · exact ⟨_, _, rfl, fun w => by kernel_rfl⟩
  split
  · exact ⟨_, _, rfl, fun w => by kernel_rfl⟩
  split
  · exact ⟨_, _, rfl, fun w => by kernel_rfl⟩
  split
  · exact ⟨_, _, rfl, fun w => by kernel_rfl⟩
  split
  · exact ⟨_, _, rfl, fun w => by kernel_rfl⟩
  · exact ⟨_, _, rfl, fun w => by kernel_rfl⟩

section
variable {w : World} {rb : Nat} {gv : Value} {got l : List UInt8} {k : Nat} {v : Value} {wr : World} {ps : List (Fr × Value)} {gv' : Value} {got' : List UInt8}

theorem feed_end (h : FeedRel w rb gv got l k v wr ps gv' got') (hrb : rb < w.heap.size) (hk : l.length ≤ k) :
    Fed w (wr.setCell ⟨w.heap.size + 1, 0, none⟩ (.int .i64 0)) rb gv ⟨got, 0⟩ l (.returned (.tuple #[v, .int .i64 0])) := by
  have hc : Chg (fun j => j = w.heap.size + 1) wr (wr.setCell ⟨w.heap.size + 1, 0, none⟩ (.int .i64 0)) := (Chg.refl (fun j => j = w.heap.size + 1) wr).setCell (p := ⟨w.heap.size + 1, 0, none⟩) (Or.inr rfl) _
  have he : (Rd.mk got 0).feed l = (ps.map Prod.fst, ⟨got', 0⟩) := by
    show (if (0 : Int) = 0 then feed got l else _) = _
    rw [if_pos rfl, h.eq, List.drop_of_length_le hk]
    simp [feed]
  have hf := h.vars.f
  have hst := h.st.chg hc (by omega) (fun j hj => by rintro rfl; exact owns_ne h.st.own hf (by decide) hj)
  refine ⟨v, ps, gv', by rw [he], by rw [he], h.frs.chg' hc ?_ ?_, by rw [he]; exact Or.inl ⟨rfl, hst⟩, h.chg.trans (hc.mono (fun j _ hj => Or.inl (by omega))), h.fresh, h.apart⟩
  · rintro j hj rfl; exact owns_ne h.frs.row hf (by decide) hj
  · rintro j hj rfl
    obtain ⟨p, hp, e⟩ := mem_bodyBlocks.1 hj
    exact owns_ne (h.frs.body p hp) hf (by decide) e

theorem feed_fault (h : FeedRel w rb gv got l k v wr ps gv' got') (hrb : rb < w.heap.size) (hk : k < l.length) {code : Int} (hs : step got' (l.getD k 0) = .fault code) {w1 : World} {gv'' : Value} {L K F S : Int}
    (hfr : FrsOwn w1 w.heap.size v ps) (hv : Vars w.heap.size w1 rb) (hrd : RdB w1 rb gv'' L K F S 0) (hch : Chg (Touch rb gv) w w1) :
    Fed w (wiped w1 (w.heap.size + 1) rb code) rb gv ⟨got, 0⟩ l (.returned (.tuple #[v, .int .i64 code])) := by
  have hc := wiped_chg w1 (w.heap.size + 1) rb code
  have he : (Rd.mk got 0).feed l = (ps.map Prod.fst, ⟨[], code⟩) := by
    show (if (0 : Int) = 0 then feed got l else _) = _
    rw [if_pos rfl, h.eq, drop_cons hk]
    simp only [feed, hs, List.append_nil]
  have hcode : code ≠ 0 := by
    rcases step_fault hs with ⟨_, a, rfl⟩ | ⟨_, _, _, a, rfl⟩
    · exact a
    · exact a
  refine ⟨v, ps, .slice none 0 0, by rw [he], by rw [he], hfr.chg' hc ?_ ?_, by rw [he]; exact Or.inr ⟨hcode, rfl, rfl, wiped_rd hrd (by omega)⟩, hch.trans (hc.mono ?_), fun j hj => by simp [Value.ownBlock] at hj, fun j _ => by simp [Value.ownBlock]⟩
  · rintro j hj (rfl | rfl)
    · exact owns_ne hfr.row hv.f (by decide) hj
    · exact owns_ne hfr.row hrd (by decide) hj
  · intro j hj hh
    obtain ⟨p, hp, e⟩ := mem_bodyBlocks.1 hj
    rcases hh with rfl | rfl
    · exact owns_ne (hfr.body p hp) hv.f (by decide) e
    · exact owns_ne (hfr.body p hp) hrd (by decide) e
  · rintro j _ (rfl | rfl)
    · exact Or.inl (by omega)
    · exact Or.inr (Or.inl rfl)
end

set_option maxRecDepth 100000 in
set_option maxHeartbeats 3200000 in
theorem feed_walk (rb bb off cap : Nat) (gv : Value) (got l : List UInt8) (w : World) (hr : RdS w rb gv got) (hl : l.length ≤ 268435456) (hbb : bb < w.heap.size) (hb1 : bb ≠ rb) (hb2 : gv.ownBlock ≠ some bb)
    (hc : ∀ i, i < l.length → w.cell? ⟨bb, off + i, none⟩ = some (.int .u8 (l.getD i 0).toNat)) :
    Calls Tryz.prog 29 #[.pointer (some ⟨rb, 0, none⟩), .slice (some ⟨bb, off, none⟩) l.length cap] w fun e w' => Fed w w' rb gv ⟨got, 0⟩ l e := by
  have hmf : ∀ (fn : Fn) (first cap : Array Value) (w : World), (Instr.makeFunc fn first cap).run Tryz.prog w = .ok (.func fn first cap) w := fun _ _ _ _ => rfl
  obtain ⟨i0, hi, hz0, hz1, hz2⟩ := info_parts Tryz.info56
  obtain ⟨L, K, F, S, hrd⟩ := hr.rd
  obtain ⟨-, -, -, -, -, c5⟩ := hrd.cells
  have hrb := hrd.lt
  go_enter_defers Tryz.func29, Tryz.ntmps29
  go_wp2
  go_loopw [4, 22] (fun v i wr => ∃ k ps gv' got', i = .int .i64 (k : Nat) ∧ FeedRel w rb gv got l k v wr ps gv' got') (fun _ i _ => l.length - (intOf i).toNat)
  case atStart => exact ⟨0, [], gv, got, rfl, feed_start hr hrb⟩
  case round =>
    obtain ⟨k, ps, gv', got', rfl, hrel⟩ := hrel
    have hkl := hrel.le
    have v0 := cell_of_one hrel.vars.r
    have v1 := cell_of_one hrel.vars.f
    have v2 := free_of_one hrel.vars.f
    have hlt1 := lt_of_block hrel.vars.f
    by_cases hk : k < l.length
    · have hx : wr.cell? ⟨bb, off + k, none⟩ = some (.int .u8 (l.getD k 0).toNat) := (hrel.chg.cell (p := ⟨bb, off + k, none⟩) hbb (by rintro (e | e); exact hb1 e; exact hb2 e)).trans (hc k hk)
      obtain ⟨x, hxd⟩ : ∃ x, x = l.getD k 0 := ⟨_, rfl⟩
      rw [← hxd] at hx
      have HX : Hid (x = l.getD k 0) := hxd
      clear hxd hc
      rcases hs : step got' x with (g' | f) | code
      · have HS : Hid (step got' (l.getD k 0) = .more g') := by rw [← HX.out]; exact hs
        have HS' : Hid (step got' x = .more g') := hs
        clear hs
        go_wp2_with fail
        refine (take_more_any rb gv' got' g' x wr hrel.st HS'.out).mono ?_
        rintro e w1 ⟨rfl, gv'', hleft⟩
        go_wp2
        refine ⟨⟨k + 1, ps, gv'', g', by go_num, hrel.more hrb hk HS.out hleft⟩, by simp [intOf]; omega⟩
      · have HS : Hid (step got' (l.getD k 0) = .frame f) := by rw [← HX.out]; exact hs
        have HS' : Hid (step got' x = .frame f) := hs
        clear hs
        have hfew := hrel.few
        go_wp2_with fail
        refine (take_frame_any rb gv' got' x f wr hrel.st HS'.out).mono ?_
        rintro e w1 ⟨bv, cv, gv'', rfl, hbo, hbf, hleft, hne⟩
        obtain ⟨sa, nb, cb, rfl⟩ := slice_of_owns hbo
        obtain ⟨hfr1, -, -⟩ := hrel.touch hrb hleft.chg
        obtain ⟨tf, vf, hfv, hmth⟩ := frV_plain f.kind f.flags f.stream sa nb cb cv f.body
        rw [hfv]
        clear hfv
        go_wp2_with fail
        refine (plain_any f.kind f.flags f.stream sa nb cb w1).mono ?_
        rintro e wp ⟨rfl, hbp⟩
        clear hmth
        have HOWN := hide (((owns_base hfr1.row (fun _ _ => Nat.zero_le _)) : w1.ownsRow 0 _ _ _ _ _))
        have HOWP := hide (owns_chg HOWN.out (Chg.of_below (S := fun _ => False) hbp) (fun _ _ => id))
        go_wp2_with (at_builtin; refine wpList_app _ rfl (.tmp 35) (.tmp 38) 22 rfl 56 i0 (.agg #[.int .i64 0, .int .i64 0, .int .i64 0, .slice none 0 0]) 4 48 Tryz.underlying22 hi hz0 hz1 hz2 rfl (by decide) _ _ _ rfl (HOWP.out.alloc _) (.slice (some ⟨wp.heap.size, 0, none⟩) 1 1) 1 (cellsOf [(f, .slice sa nb cb)]) rfl rfl ?c1 ?c2 ?c3 ?c4 ?_)
        case c1 => exact lies_frame1 _ _ _ _ _
        case c2 => exact frame_one _ _ _ _
        case c3 => unfold maxLen; omega
        case c4 => omega
        intro v' w2 hown2 hgrow2 hfr2
        go_wp2
        refine ⟨⟨k + 1, ps ++ [(f, .slice sa nb cb)], gv'', [], by go_num, hrel.frame hrb hk HS.out hleft hbo hbf hne hbp hown2 hgrow2 (by simpa using hfr2)⟩, by simp [intOf]; omega⟩
      · have HS : Hid (step got' (l.getD k 0) = .fault code) := by rw [← HX.out]; exact hs
        have HS' : Hid (step got' x = .fault code) := hs
        clear hs
        go_wp2_with fail
        refine (take_fault_any rb gv' got' x code wr hrel.st HS'.out).mono ?_
        rintro e w1 ⟨rfl, gv'', L1, K1, F1, S1, hrd1, hchg1⟩
        obtain ⟨hfr1, hvars1, hch1⟩ := hrel.touch hrb hchg1
        refine leaves_cons (f := 68) (args := #[.pointer (some ⟨w.heap.size + 1, 0, none⟩), .pointer (some ⟨w.heap.size, 0, none⟩)]) (by simp) (by simp [go_sem]) ?_
        refine (clos_panic (w.heap.size + 1) w.heap.size rb code [] w1 hvars1.f (cell_of_one hvars1.r) gv'' L1 K1 F1 S1 0 hrd1 (by omega) (by omega)).mono ?_
        rintro e u' w'' ⟨rfl, rfl, rfl⟩
        have hfc := wiped_fa (c := code) hvars1.f (show w.heap.size + 1 ≠ rb by omega)
        refine ⟨.tuple #[u4, .int .i64 code], ?_, ?_⟩
        · simp [results, Tryz.results29, go_sem, hfc]
        · exact feed_fault hrel hrb hk HS.out hfr1 hvars1 hrd1 hch1
    · clear hc
      go_wp2
      refine leaves_cons (f := 68) (args := #[.pointer (some ⟨w.heap.size + 1, 0, none⟩), .pointer (some ⟨w.heap.size, 0, none⟩)]) (by simp) (by simp [go_sem]) ?_
      refine (clos_idle (w.heap.size + 1) w.heap.size _).mono ?_
      rintro e u' w'' ⟨rfl, rfl, rfl⟩
      refine ⟨.tuple #[u4, .int .i64 0], ?_, ?_⟩
      · simp [results, Tryz.results29, go_sem, v1]
      · exact feed_end hrel hrb (by omega)
end Go.Proofs.YtdifgcppmnmagaaGreatDoor
/-
  (*sluice.Reader).Feed, whatever the reader and whatever it is fed.
-/
namespace Go.Proofs.YtdifgcppmnmagaaGreatDoor
open Go.RowKit

theorem fed_nothing {w : World} {rb : Nat} {gv : Value} {got : List UInt8} (hr : RdS w rb gv got) :
    Fed w ((w.alloc (.cells #[.pointer (some ⟨rb, 0, none⟩)] 92)).alloc (.cells #[.int .i64 0] 83)) rb gv ⟨got, 0⟩ [] (.returned (.tuple #[.slice none 0 0, .int .i64 0])) := by
  have ha : Chg (fun _ => False) w ((w.alloc (.cells #[.pointer (some ⟨rb, 0, none⟩)] 92)).alloc (.cells #[.int .i64 0] 83)) := ((Chg.refl _ _).alloc _).alloc _
  exact ⟨_, [], gv, rfl, rfl, FrsOwn.nil _ _, Or.inl ⟨rfl, hr.chg ha id (fun _ _ => id)⟩, ((Chg.refl _ _).alloc _).alloc _, fun j hj => Or.inl hj, by simp [bodyBlocks]⟩

theorem fed_dead {w : World} {rb : Nat} {c : Int} {l : List UInt8} (hr : RdB w rb (.slice none 0 0) 0 0 0 0 c) (hc : c ≠ 0) :
    Fed w ((w.alloc (.cells #[.pointer (some ⟨rb, 0, none⟩)] 92)).alloc (.cells #[.int .i64 c] 83)).drew rb (.slice none 0 0) ⟨[], c⟩ l (.returned (.tuple #[.slice none 0 0, .int .i64 c])) := by
  have ha : Chg (fun _ => False) w ((w.alloc (.cells #[.pointer (some ⟨rb, 0, none⟩)] 92)).alloc (.cells #[.int .i64 c] 83)).drew := (((Chg.refl _ _).alloc _).alloc _).drew
  have he : (Rd.mk [] c).feed l = ([], ⟨[], c⟩) := by show (if c = 0 then _ else _) = _; rw [if_neg hc]
  refine ⟨_, [], .slice none 0 0, by rw [he], by rw [he]; rfl, FrsOwn.nil _ _, by rw [he]; exact Or.inr ⟨hc, rfl, rfl, hr.chg ha id⟩, (((Chg.refl _ _).alloc _).alloc _).drew, fun j hj => Or.inl hj, by simp [bodyBlocks]⟩

set_option maxRecDepth 100000 in
set_option maxHeartbeats 1600000 in
theorem feed_nil (rb : Nat) (gv : Value) (got : List UInt8) (w : World) (hr : RdS w rb gv got) :
    Calls Tryz.prog 29 #[.pointer (some ⟨rb, 0, none⟩), .slice none 0 0] w fun e w' => Fed w w' rb gv ⟨got, 0⟩ [] e := by
  have hmf : ∀ (fn : Fn) (first cap : Array Value) (w : World), (Instr.makeFunc fn first cap).run Tryz.prog w = .ok (.func fn first cap) w := fun _ _ _ _ => rfl
  obtain ⟨L, K, F, S, hrd⟩ := hr.rd
  obtain ⟨-, -, -, -, -, c5⟩ := hrd.cells
  have hrb := hrd.lt
  go_enter_defers Tryz.func29, Tryz.ntmps29
  go_wp2
  refine wp_loop_rounds 1 ?_
  rw [rounds_succ]
  go_wp2
  refine leaves_cons (f := 68) (args := #[.pointer (some ⟨w.heap.size + 1, 0, none⟩), .pointer (some ⟨w.heap.size, 0, none⟩)]) (by simp) (by simp [go_sem]) ?_
  refine (clos_idle (w.heap.size + 1) w.heap.size _).mono ?_
  rintro e u' w'' ⟨rfl, rfl, rfl⟩
  refine ⟨.tuple #[.slice none 0 0, .int .i64 0], ?_, ?_⟩
  · simp [results, Tryz.results29, go_sem]
  · exact fed_nothing hr

set_option maxRecDepth 100000 in
set_option maxHeartbeats 1600000 in
theorem feed_dead (rb : Nat) (bv : Value) (c : Int) (l : List UInt8) (w : World) (hrd : RdB w rb (.slice none 0 0) 0 0 0 0 c) (hcode : (c != 0) = true) :
    Calls Tryz.prog 29 #[.pointer (some ⟨rb, 0, none⟩), bv] w fun e w' => Fed w w' rb (.slice none 0 0) ⟨[], c⟩ l e := by
  obtain ⟨-, -, -, -, -, c5⟩ := hrd.cells
  have hrb := hrd.lt
  go_enter_defers Tryz.func29, Tryz.ntmps29
  go_wp2
  go_region
  go_wp2
  refine ⟨.tuple #[.slice none 0 0, .int .i64 c], ?_, ?_⟩
  · simp [results, Tryz.results29, go_sem]
  · exact fed_dead hrd (by simpa using hcode)

/-- P5's call: whatever the reader, whatever is fed. -/
theorem feed_any (rb : Nat) (gv bv : Value) (r : Rd) (l : List UInt8) (w : World) (hr : RdT w rb gv r) (hb : BytesIn w bv l) (hl : l.length ≤ 268435456) (hne : ∀ k, bv.ownBlock = some k → k ≠ rb ∧ gv.ownBlock ≠ some k) :
    Calls Tryz.prog 29 #[.pointer (some ⟨rb, 0, none⟩), bv] w fun e w' => Fed w w' rb gv r l e := by
  obtain ⟨got, code⟩ := r
  rcases hr with ⟨h0, hr⟩ | ⟨h0, rfl, h2, hr⟩
  · simp only at h0 hr
    subst h0
    rcases hb with ⟨rfl, rfl⟩ | ⟨bb, off, cap, rfl, h1, h2, h3⟩
    · exact feed_nil rb gv got w hr
    · exact feed_walk rb bb off cap gv got l w hr hl h1 (hne bb rfl).1 (hne bb rfl).2 h3
  · simp only at h0 h2 hr
    subst h2
    exact feed_dead rb bv code l w hr (by simpa using h0)
end Go.Proofs.YtdifgcppmnmagaaGreatDoor
/-
  frames.Fits, frames.Bytes, sluice.NewReader.
-/
namespace Go.Proofs.YtdifgcppmnmagaaGreatDoor
open Go.RowKit

def inB (n : Int) : Bool := decide (0 ≤ n) && decide (n ≤ 255)
def fitsB (k f s : Int) (n : Nat) : Bool := inB k && inB f && decide (0 ≤ s) && decide (s ≤ 32767) && decide (n ≤ 64)

set_option maxRecDepth 100000 in
set_option maxHeartbeats 400000 in
theorem inByte_any (n : Int) (w : World) : Calls Tryz.prog 125 #[.int .i64 n] w fun e w' => e = .returned (.bool (inB n)) ∧ w' = w := by
  go_enter Tryz.func125, Tryz.ntmps125
  go_wp2
  all_goals go_ret
  all_goals refine ⟨ret_bool ?_, rfl⟩
  all_goals simp [inB, *]
  omega

set_option maxRecDepth 100000 in
set_option maxHeartbeats 400000 in
theorem newReader_any (w : World) : Calls Tryz.prog 28 #[] w fun e w' => e = .returned (.pointer (some ⟨w.heap.size, 0, none⟩)) ∧ w' = w.alloc (.cells #[.slice none 0 0, .int .i64 0, .int .i64 0, .int .i64 0, .int .i64 0, .int .i64 0] 163) := by
  go_enter Tryz.func28, Tryz.ntmps28
  go_wp2
  go_ret
  exact ⟨rfl, rfl⟩

set_option maxRecDepth 100000 in
set_option maxHeartbeats 800000 in
theorem fits_any (k f s : Int) (sa : Option Addr) (n cap : Nat) (w : World) : Calls Tryz.prog 64 #[.agg #[.int .i64 k, .int .i64 f, .int .i64 s, .slice sa n cap]] w fun e w' => e = .returned (.bool (fitsB k f s n)) ∧ Below w.heap.size w w' := by
  go_enter Tryz.func64, Tryz.ntmps64
  go_wp2_with (go_at_call 125; refine (inByte_any _ _).mono ?_; rintro e w' ⟨rfl, rfl⟩)
  all_goals go_ret
  all_goals refine ⟨ret_bool ?_, (Below.refl _ _).alloc (Nat.le_refl _) _⟩
  all_goals simp [fitsB, *]
  all_goals omega

theorem B_ofI {x : Int} (h0 : 0 ≤ x) (h1 : x ≤ 255) : B (ofI x) = .int .u8 x := by unfold B; rw [ofI_toNat h0 h1]

theorem lies_six (w : World) (a b c d e f : Value) : Lies (w.alloc (.cells #[a, b, c, d, e, f] 5)) (.slice (some ⟨w.heap.size, 0, none⟩) 6 6) 6 [a, b, c, d, e, f] := by
  refine Or.inr ⟨_, _, rfl, fun j u hu => ?_⟩
  have hh := heap_alloc_new w (.cells #[a, b, c, d, e, f] 5)
  have e : (⟨w.heap.size, 0, none⟩ : Addr).add j = ⟨w.heap.size, j, none⟩ := by unfold Addr.add; split <;> simp_all
  rw [e, cell_of_row _ _ _ _ _ _ hh, ← hu]
  simp

set_option maxRecDepth 100000 in
set_option maxHeartbeats 1600000 in
theorem bytes_any (k f s : Int) (sa : Option Addr) (body : List UInt8) (cap : Nat) (w : World) (hk0 : 0 ≤ k) (hk1 : k ≤ 255) (hf0 : 0 ≤ f) (hf1 : f ≤ 255) (hs0 : 0 ≤ s) (hs1 : s ≤ 32767) (hn : body.length ≤ 64)
    (hb : BytesIn w (.slice sa body.length cap) body) :
    Calls Tryz.prog 65 #[.agg #[.int .i64 k, .int .i64 f, .int .i64 s, .slice sa body.length cap]] w fun e w' => ∃ v, e = .returned v ∧ w'.ownsRow w.heap.size 5 1 v (lay k f s body).length ((lay k f s body).map B) ∧ Below w.heap.size w w' := by
  obtain ⟨i0, hi, hz0, hz1, hz2⟩ := info_parts Tryz.info5
  have HB : Hid (BytesIn w (.slice sa body.length cap) body) := hb
  clear hb
  go_enter Tryz.func65, Tryz.ntmps65
  go_wp2_with (at_make; refine wpList_make_own _ rfl _ _ 54 rfl w.heap.size 5 i0 (.int .u8 0) 1 Tryz.underlying54 hi hz0 hz1 _ _ _ (6 + body.length) rfl rfl ?m1 ?m2 ?m3 ?m4 ?_)
  case m1 => omega
  case m2 => rw [hz2]; omega
  case m3 => unfold maxLen; omega
  case m4 => simp
  intro w1 hown1 hg1
  have hfb : w1.heap[w.heap.size]? = some (.cells #[.int .i64 k, .int .i64 f, .int .i64 s, .slice sa body.length cap] 56 (0, 0)) := by
    rw [hg1.block w.heap.size (by simp) (by simp)]; exact heap_alloc_new w _
  have hbel1 : Below w.heap.size w w1 := ((Below.refl _ _).alloc (Nat.le_refl _) _).grown hg1 (by simp) (fun k h => by cases h)
  obtain ⟨z0, z1, z2, z3, -⟩ := frame_block hfb
  have hsz1 := lt_of_block hfb
  have hb2 : ((s / 256) % 256) = s / 256 := by omega
  have hown1' := owns_base hown1 (base' := 0) (fun _ _ => Nat.zero_le _)
  clear hg1
  go_wp2_with (at_builtin; refine wpList_app _ rfl (.tmp 11) (.tmp 30) 54 rfl 5 i0 (.int .u8 0) 1 1 Tryz.underlying54 hi hz0 hz1 hz2 rfl (by decide) _ _ _ rfl (hown1'.alloc _) (.slice (some ⟨w1.heap.size, 0, none⟩) 6 6) 6 [.int .u8 ((body.length : Int) / 256), .int .u8 (body.length : Int), .int .u8 k, .int .u8 f, .int .u8 (s / 256), .int .u8 (s % 256)] rfl rfl ?c1 ?c2 ?c3 ?c4 ?_)
  case c1 => exact lies_six _ _ _ _ _ _ _
  case c2 =>
    intro u hu
    simp at hu
    rcases hu with rfl | rfl | rfl | rfl | rfl | rfl <;> rfl
  case c3 => unfold maxLen; omega
  case c4 => omega
  intro v2 w2 hown2 hg2 hfr2
  have hbel2 : Below w.heap.size w w2 := (hbel1.alloc (by omega) _).grown hg2 (by simp; omega) (fun k h => by simp [Value.ownBlock] at h; omega)
  have hfb2 : w2.heap[w.heap.size]? = some (.cells #[.int .i64 k, .int .i64 f, .int .i64 s, .slice sa body.length cap] 56 (0, 0)) := by
    rw [hg2.block w.heap.size (by simp; omega) (by simp [Value.ownBlock]), Below.heap_alloc _ _ _ hsz1]; exact hfb
  have hv2 : ∀ j, v2.ownBlock = some j → w.heap.size ≤ j := fun j hj => by
    rcases hfr2 with e | e
    · rw [e] at hj; simp [Value.ownBlock] at hj; omega
    · rw [e] at hj; simp at hj; omega
  obtain ⟨y0, y1, y2, y3, -⟩ := frame_block hfb2
  clear hfr2 hg2 z0 z1 z2 z3 hown1 hown1' hfb hfb2
  go_wp2_with (at_builtin; refine wpList_app _ rfl (.tmp 32) (.tmp 34) 54 rfl 5 i0 (.int .u8 0) 1 1 Tryz.underlying54 hi hz0 hz1 hz2 rfl (by decide) _ _ _ rfl hown2 (.slice sa body.length cap) body.length (body.map B) rfl ?d0 ?d1 ?d2 ?d3 ?d4 ?_)
  case d0 => simp
  case d1 => exact lies_of_bytesIn (HB.out.chg (Chg.of_below (S := fun _ => False) hbel2) (fun _ _ => id))
  case d2 => exact bytes_one _
  case d3 => unfold maxLen; omega
  case d4 => omega
  intro v3 w3 hown3 hg3 hfr3
  go_wp2
  go_ret
  have hsz2 := hbel2.size
  refine ⟨v3, rfl, ?_, hbel2.grown hg3 hsz2 (fun j hj => hv2 j hj)⟩
  have h4 := owns_base hown3 (base' := w.heap.size) (fun j hj => by
    rcases hfr3 with e | e
    · rw [e] at hj; exact hv2 j hj
    · rw [e] at hj; simp at hj; omega)
  have e1 : (lay k f s body).length = 6 + body.length := by simp [lay]; omega
  rw [e1]
  have e2 : (lay k f s body).map B = [.int .u8 ((body.length : Int) / 256), .int .u8 (body.length : Int), .int .u8 k, .int .u8 f, .int .u8 (s / 256), .int .u8 (s % 256)] ++ body.map B := by
    unfold lay
    rw [List.map_append]
    simp only [List.map_cons, List.map_nil]
    rw [B_ofI (by omega) (by omega), B_ofI (by omega) (by omega), B_ofI hk0 hk1, B_ofI hf0 hf1, B_ofI (by omega) (by omega), B_ofI (by omega) (by omega)]
  rw [e2]
  simpa using h4
end Go.Proofs.YtdifgcppmnmagaaGreatDoor
/-
  sluice.Write.
-/
namespace Go.Proofs.YtdifgcppmnmagaaGreatDoor
open Go.RowKit

/-- Is the frame right? -/
def wOk (k f s : Int) (body : List UInt8) : Bool := fitsB k f s body.length && decide ((feed [] (lay k f s body)).2.code = 0)

theorem fits_bounds {k f s : Int} {n : Nat} (h : fitsB k f s n = true) : 0 ≤ k ∧ k ≤ 255 ∧ 0 ≤ f ∧ f ≤ 255 ∧ 0 ≤ s ∧ s ≤ 32767 ∧ n ≤ 64 := by
  simp only [fitsB, inB, Bool.and_eq_true, decide_eq_true_eq] at h
  omega

/-- A new reader. -/
theorem rd_new (w : World) : RdT (w.alloc (.cells #[.slice none 0 0, .int .i64 0, .int .i64 0, .int .i64 0, .int .i64 0, .int .i64 0] 163)) w.heap.size (.slice none 0 0) ⟨[], 0⟩ :=
  Or.inl ⟨rfl, got_nil, World.ownsRow_nil _ _ _ _, 0, 0, 0, 0, heap_alloc_new w _, fun h => by simp at h⟩

/-- The end of Write. -/
def Wrote (w w' : World) (k f s : Int) (body : List UInt8) (e : Ending) : Prop :=
  ∃ v, e = .returned (.tuple #[v, .int .i64 (if wOk k f s body then 0 else 1)]) ∧ w'.ownsRow w.heap.size 5 1 v (if wOk k f s body then lay k f s body else []).length ((if wOk k f s body then lay k f s body else []).map B) ∧
    (wOk k f s body = false → v = .slice none 0 0) ∧ Below w.heap.size w w'

theorem wrote_bad {w w' : World} {k f s : Int} {body : List UInt8} (h : wOk k f s body = false) (hb : Below w.heap.size w w') : Wrote w w' k f s body (.returned (.tuple #[.slice none 0 0, .int .i64 1])) := by
  refine ⟨.slice none 0 0, by rw [h]; rfl, ?_, fun _ => rfl, hb⟩
  rw [h]
  exact World.ownsRow_nil _ _ _ _

set_option maxRecDepth 100000 in
set_option maxHeartbeats 800000 in
theorem write_unfit (k f s : Int) (sa : Option Addr) (body : List UInt8) (cap : Nat) (w : World) (hfit : fitsB k f s body.length = false) :
    Calls Tryz.prog 22 #[.agg #[.int .i64 k, .int .i64 f, .int .i64 s, .slice sa body.length cap]] w fun e w' => Wrote w w' k f s body e := by
  have hno : Hid (wOk k f s body = false) := by show _ = _; simp [wOk, hfit]
  have HF : Hid (fitsB k f s body.length = false) := hfit
  clear hfit
  go_enter Tryz.func22, Tryz.ntmps22
  go_wp2_with (go_at_call 64; refine (fits_any k f s sa body.length cap _).mono ?_; rintro e w1 ⟨he, hb1⟩; rw [HF.out] at he; subst he)
  go_ret2
  exact wrote_bad hno.out (((Below.refl _ _).alloc (Nat.le_refl _) _).trans (hb1.mono (by simp)))

set_option maxRecDepth 100000 in
set_option maxHeartbeats 1600000 in
theorem write_fit (k f s : Int) (sa : Option Addr) (body : List UInt8) (cap : Nat) (w : World) (hfit : fitsB k f s body.length = true) (hb : BytesIn w (.slice sa body.length cap) body) :
    Calls Tryz.prog 22 #[.agg #[.int .i64 k, .int .i64 f, .int .i64 s, .slice sa body.length cap]] w fun e w' => Wrote w w' k f s body e := by
  obtain ⟨hk0, hk1, hf0, hf1, hs0, hs1, hn⟩ := fits_bounds hfit
  have HF : Hid (fitsB k f s body.length = true) := hfit
  have HB : Hid (BytesIn w (.slice sa body.length cap) body) := hb
  clear hfit hb
  go_enter Tryz.func22, Tryz.ntmps22
  go_wp2_with (go_at_call 64; refine (fits_any k f s sa body.length cap _).mono ?_; rintro e w1 ⟨he, hb1⟩; rw [HF.out] at he; subst he; obtain ⟨hc1, hf1'⟩ := bcell hb1)
  have hbw : Below w.heap.size w w1 := ((Below.refl _ _).alloc (Nat.le_refl _) _).trans (hb1.mono (by simp))
  refine (bytes_any k f s sa body cap w1 hk0 hk1 hf0 hf1 hs0 hs1 hn (HB.out.chg (Chg.of_below (S := fun _ => False) hbw) (fun _ _ => id))).mono ?_
  rintro e w2 ⟨bv, rfl, hown2, hb2⟩
  have hbw2 : Below w.heap.size w w2 := hbw.trans (hb2.mono hbw.size)
  go_wp2_with (go_at_call 28; refine (newReader_any _).mono ?_; rintro e w3 ⟨rfl, hw3⟩; subst hw3)
  have hown3 := hown2.alloc (.cells #[.slice none 0 0, .int .i64 0, .int .i64 0, .int .i64 0, .int .i64 0, .int .i64 0] 163)
  have hlen : (lay k f s body).length ≤ 268435456 := by simp [lay]; omega
  refine (feed_any w2.heap.size (.slice none 0 0) bv ⟨[], 0⟩ (lay k f s body) _ (rd_new w2) (bytesIn_of_owns hown3 rfl) hlen (fun j hj => ⟨by have := owns_lt hown2 hj; omega, by simp [Value.ownBlock]⟩)).mono ?_
  rintro e w4 ⟨v, ps, gv', rfl, hps, hfrs, hrt, hch, hfr, hap⟩
  have hfe : (Rd.mk [] 0).feed (lay k f s body) = feed [] (lay k f s body) := by
    show (if (0 : Int) = 0 then _ else _) = _
    rw [if_pos rfl]
  rw [hfe]
  have hown4 := owns_chg hown3 hch (fun j hj => by
    rintro (e | e)
    · have := owns_lt hown2 hj; omega
    · simp [Value.ownBlock] at e)
  have hb4 : Below w.heap.size w w4 := (hbw2.alloc hbw2.size _).trans ⟨hch.os, hch.tape, hch.output, hch.size, fun j hj => hch.block j (by have := hbw2.size; simp; omega) (by
    rintro (e | e)
    · have := hbw2.size; omega
    · simp [Value.ownBlock] at e)⟩
  clear hc1 hf1' hfe hps hfrs hrt hch hfr hap hown3 hown2
  by_cases hz : (feed [] (lay k f s body)).2.code = 0
  · have hok : wOk k f s body = true := by simp [wOk, HF.out, hz]
    have HO : Hid (wOk k f s body = true) := hok
    have hz' : ((feed [] (lay k f s body)).2.code != 0) = false := by simp [hz]
    clear hz hok
    go_wp2
    go_ret2
    refine ⟨bv, by rw [HO.out]; rfl, ?_, (fun h => by rw [HO.out] at h; cases h), hb4⟩
    rw [HO.out]
    exact owns_base hown4 (fun j hj => by have := (hown4.lt j hj).1; have := hbw.size; omega)
  · have hok : wOk k f s body = false := by simp [wOk, hz]
    have HO : Hid (wOk k f s body = false) := hok
    have hz' : ((feed [] (lay k f s body)).2.code != 0) = true := by simp [hz]
    clear hz hok
    go_wp2
    go_ret2
    exact wrote_bad HO.out hb4

theorem write_any (k f s : Int) (sa : Option Addr) (body : List UInt8) (cap : Nat) (w : World) (hb : BytesIn w (.slice sa body.length cap) body) :
    Calls Tryz.prog 22 #[.agg #[.int .i64 k, .int .i64 f, .int .i64 s, .slice sa body.length cap]] w fun e w' => Wrote w w' k f s body e := by
  cases h : fitsB k f s body.length with
  | true => exact write_fit k f s sa body cap w h hb
  | false => exact write_unfit k f s sa body cap w h
end Go.Proofs.YtdifgcppmnmagaaGreatDoor
/-
  General facts: rows, bytes that are handed in.
-/
namespace Go.Proofs.YtdifgcppmnmagaaGreatDoor
open Go.RowKit

theorem owns_row {w : World} {b g : Nat} {xs : List Value} (h : w.heap[g]? = some (.cells xs.toArray 5 (0, 0))) (hm : xs.length ≤ maxLen) (hb : b ≤ g) : w.ownsRow b 5 1 (.slice (some ⟨g, 0, none⟩) xs.length xs.length) xs.length xs :=
  ⟨by simp, Or.inr ⟨g, xs.length, _, rfl, hb, h, Nat.le_refl _, hm, by simp, by simp⟩⟩



theorem BytesA.cell {w : World} {sa : Option Addr} {n cap : Nat} {l : List UInt8} (h : BytesA w (.slice sa n cap) l) {i : Nat} (hi : i < l.length) :
    ∃ bb off, sa = some ⟨bb, off, none⟩ ∧ bb < w.heap.size ∧ n ≤ cap ∧ w.cell? ⟨bb, off + i, none⟩ = some (.int .u8 (l.getD i 0).toNat) := by
  rcases h with (⟨h0, rfl⟩ | ⟨bb, off, cap', he, h1, h2, h3⟩) | ⟨ad, he, rfl⟩
  · simp at hi
  · simp only [Value.slice.injEq] at he
    obtain ⟨rfl, rfl, rfl⟩ := he
    exact ⟨bb, off, rfl, h1, h2, h3 i hi⟩
  · simp at hi

theorem app_keep {w w1 w2 : World} {base e size n n' : Nat} {v v' : Value} {xs ys : List Value} (hbel : Below base w w1) (hsz : base ≤ w1.heap.size) (hown : w1.ownsRow base e size v n xs) (hown2 : w2.ownsRow 0 e size v' n' ys) (hg : w1.grownBy w2 v.ownBlock)
    (hfr : v'.ownBlock = v.ownBlock ∨ v'.ownBlock = some w1.heap.size) : w2.ownsRow base e size v' n' ys ∧ Below base w w2 :=
  ⟨owns_base hown2 (fun j hj => by
    rcases hfr with e | e
    · rw [e] at hj; exact (hown.lt j hj).1
    · rw [e] at hj; simp at hj; omega), hbel.grown hg hsz (fun j hj => (hown.lt j hj).1)⟩

theorem kept_told' {w w' : World} {b : Nat} {cs : Array Value} {t : TypeId} {fr : Nat × Nat} (h : w.heap[b]? = some (.cells cs t fr)) (hb : Below w.heap.size w w') : w'.heap[b]? = some (.cells cs t fr) := by
  rw [hb.block b (lt_of_block h)]; exact h

theorem kept_told {w w' : World} {b : Nat} {cs : Array Value} {t : TypeId} {fr : Nat × Nat} (h : w.heap[b]? = some (.cells cs t fr)) (hb : Below w.heap.size w w') : w'.heap[b]? = some (.cells cs t fr) := by
  rw [hb.block b (lt_of_block h)]; exact h
end Go.Proofs.YtdifgcppmnmagaaGreatDoor
/-
  sluiceref: flag, number, bytesOf, streamRight, lengthRight.
-/
namespace Go.Proofs.YtdifgcppmnmagaaGreatDoor
open Go.RowKit

set_option maxRecDepth 100000 in
set_option maxHeartbeats 400000 in
theorem rflag_any (k f s b : Int) (sa : Option Addr) (n cap : Nat) (w : World) (h0 : 0 ≤ f) (h1 : f < 256) (hb : b = 1 ∨ b = 8) :
    Calls Tryz.prog 201 #[.agg #[.int .i64 k, .int .i64 f, .int .i64 s, .slice sa n cap], .int .i64 b] w fun e w' => e = .returned (.bool (hasB f b)) ∧ Below w.heap.size w w' := by
  rcases hb with rfl | rfl
  all_goals go_enter Tryz.func201, Tryz.ntmps201
  all_goals go_wp2
  all_goals go_ret
  all_goals refine ⟨ret_bool ?_, (Below.refl _ _).alloc (Nat.le_refl _) _⟩
  all_goals simp only [hasB, Int.ediv_one]
  all_goals (rw [Bool.eq_iff_iff]; simp)

/-- The number that bytes are. -/
def nOf (l : List UInt8) : Nat := l.foldl (fun v b => 256 * v + b.toNat) 0
theorem nOf_next (l : List UInt8) (b : UInt8) : nOf (l ++ [b]) = 256 * nOf l + b.toNat := by simp [nOf]
theorem fold_lt (l : List UInt8) (v : Nat) : l.foldl (fun v b => 256 * v + b.toNat) v < (v + 1) * 256 ^ l.length := by
  induction l generalizing v with
  | nil => simp
  | cons b r ih =>
    have hb : b.toNat < 256 := b.toNat_lt
    have h := ih (256 * v + b.toNat)
    have h2 : (256 * v + b.toNat + 1) * 256 ^ r.length ≤ ((v + 1) * 256) * 256 ^ r.length := Nat.mul_le_mul_right _ (by omega)
    simp only [List.foldl_cons, List.length_cons, Nat.pow_succ]
    rw [Nat.mul_comm (256 ^ r.length) 256, ← Nat.mul_assoc]
    omega
theorem nOf_lt (l : List UInt8) : nOf l < 256 ^ l.length := by
  have := fold_lt l 0
  rw [Nat.zero_add, Nat.one_mul] at this
  exact this

theorem part_next {l : List UInt8} {at_ k : Nat} (h : at_ + k < l.length) : (l.drop at_).take (k + 1) = (l.drop at_).take k ++ [l.getD (at_ + k) 0] := by
  rw [List.take_succ_eq_append_getElem (by simp; omega), getD_lt _ _ _ h]
  simp

set_option maxRecDepth 100000 in
set_option maxHeartbeats 1600000 in
theorem number_any (sa : Option Addr) (cap : Nat) (l : List UInt8) (at_ n : Nat) (w : World) (h : BytesA w (.slice sa l.length cap) l) (hn : at_ + n ≤ l.length) (h4 : n ≤ 4) (hl : l.length ≤ 4294967296) :
    Calls Tryz.prog 133 #[.slice sa l.length cap, .int .i64 at_, .int .i64 n] w fun e w' => e = .returned (.int .i64 (nOf ((l.drop at_).take n))) ∧ w' = w := by
  have H := hide h
  clear h
  go_enter Tryz.func133, Tryz.ntmps133
  go_wp2
  go_loop [7, 8] (fun v i => ∃ k : Nat, k ≤ n ∧ i = .int .i64 k ∧ v = .int .i64 (nOf ((l.drop at_).take k))) (fun _ i => n - (intOf i).toNat)
  case atStart => exact ⟨0, Nat.zero_le _, rfl, by simp [nOf]⟩
  case round =>
    obtain ⟨k, hk, rfl, rfl⟩ := hrel
    by_cases hlt : k < n
    · obtain ⟨bb, off, hsa, hbb, hcp, hc⟩ := H.out.cell (i := at_ + k) (by omega)
      subst hsa
      have hnx := part_next (l := l) (at_ := at_) (k := k) (by omega)
      have hb := nOf_lt ((l.drop at_).take k)
      have hle : ((l.drop at_).take k).length ≤ 3 := by simp; omega
      have hb2 : nOf ((l.drop at_).take k) ≤ 16777215 := by
        have : 256 ^ ((l.drop at_).take k).length ≤ 256 ^ 3 := Nat.pow_le_pow_right (by omega) hle
        omega
      obtain ⟨x, hx⟩ : ∃ x, x = l.getD (at_ + k) 0 := ⟨_, rfl⟩
      rw [← hx] at hc hnx
      have hx8 : x.toNat < 256 := x.toNat_lt
      have hq := nOf_next ((l.drop at_).take k) x
      rw [← hnx] at hq
      obtain ⟨q, hqq⟩ : ∃ q, q = nOf ((l.drop at_).take k) := ⟨_, rfl⟩
      rw [← hqq] at hb2 hq
      rw [← hqq]
      have HQ := hide hq
      clear hb hle hnx hx hq hqq H
      go_wp2
      go_round
      case rel => exact ⟨k + 1, by omega, by go_num, by rw [HQ.out]; go_num⟩
      case measure => simp [intOf]; omega
    · have hkn : k = n := by omega
      subst hkn
      go_wp2
      go_ret
      exact ⟨rfl, rfl⟩

/-- May a frame of this kind have this stream? -/
def stR (k s : Int) : Bool := decide (0 ≤ s) && decide (s ≤ 32767) && sFits k s
def leR (n k f : Int) : Bool := decide (n ≤ 64) && lFits n k f

set_option maxRecDepth 100000 in
set_option maxHeartbeats 1600000 in
theorem streamRight_more (s : Int) (w : World) (h0 : 0 ≤ s) (h1 : s ≤ 32767) (k : Int) (hk : k = 0 ∨ k = 1 ∨ k = 2 ∨ k = 7) : Calls Tryz.prog 126 #[.int .i64 k, .int .i64 s] w fun e w' => e = .returned (.bool (sFits k s)) ∧ w' = w := by
  have e : sFits k s = decide (0 < s) := by
    unfold sFits
    rw [if_pos hk]
    by_cases h : s = 0
    · simp [h]
    · have : 0 < s := by omega
      simp [h, this]
  rw [e]
  clear e
  rcases hk with rfl | rfl | rfl | rfl
  all_goals go_enter Tryz.func126, Tryz.ntmps126
  all_goals go_wp2
  all_goals go_ret
  all_goals exact ⟨rfl, rfl⟩

set_option maxRecDepth 100000 in
set_option maxHeartbeats 1600000 in
theorem streamRight_none (s : Int) (w : World) (h0 : 0 ≤ s) (h1 : s ≤ 32767) (k : Int) (hk : k = 3 ∨ k = 4 ∨ k = 5) : Calls Tryz.prog 126 #[.int .i64 k, .int .i64 s] w fun e w' => e = .returned (.bool (sFits k s)) ∧ w' = w := by
  have e : sFits k s = (s == 0) := by
    unfold sFits
    rw [if_neg (by omega), if_pos hk]
  rw [e]
  clear e
  rcases hk with rfl | rfl | rfl
  all_goals go_enter Tryz.func126, Tryz.ntmps126
  all_goals go_wp2
  all_goals go_ret
  all_goals exact ⟨rfl, rfl⟩

set_option maxRecDepth 100000 in
set_option maxHeartbeats 1600000 in
theorem streamRight_any (k s : Int) (w : World) (hk : 0 ≤ k) : Calls Tryz.prog 126 #[.int .i64 k, .int .i64 s] w fun e w' => e = .returned (.bool (stR k s)) ∧ w' = w := by
  by_cases hs : s < 0 ∨ 32767 < s
  · have hf : stR k s = false := by
      simp only [stR, Bool.and_eq_false_iff, decide_eq_false_iff_not]
      rcases hs with h | h
      · exact Or.inl (Or.inl (by omega))
      · exact Or.inl (Or.inr (by omega))
    rw [hf]
    clear hf
    go_enter Tryz.func126, Tryz.ntmps126
    go_wp2
    all_goals first | (go_ret; exact ⟨rfl, rfl⟩) | (exfalso; omega)
  · have h0 : 0 ≤ s := by omega
    have h1 : s ≤ 32767 := by omega
    have e : stR k s = sFits k s := by simp [stR, h0, h1]
    rw [e]
    clear e hs
    have hk' : k = 0 ∨ k = 1 ∨ k = 2 ∨ k = 7 ∨ k = 3 ∨ k = 4 ∨ k = 5 ∨ k = 6 ∨ 7 < k := by omega
    rcases hk' with rfl | rfl | rfl | rfl | rfl | rfl | rfl | rfl | h7
    · exact streamRight_more s w h0 h1 0 (by simp)
    · exact streamRight_more s w h0 h1 1 (by simp)
    · exact streamRight_more s w h0 h1 2 (by simp)
    · exact streamRight_more s w h0 h1 7 (by simp)
    · exact streamRight_none s w h0 h1 3 (by simp)
    · exact streamRight_none s w h0 h1 4 (by simp)
    · exact streamRight_none s w h0 h1 5 (by simp)
    · go_enter Tryz.func126, Tryz.ntmps126
      go_wp2
      all_goals go_ret
      all_goals exact ⟨rfl, rfl⟩
    · have e : sFits k s = true := by unfold sFits; rw [if_neg (by omega), if_neg (by omega)]
      rw [e]
      have b3 : (k == 3) = false := by simp; omega
      have b4 : (k == 4) = false := by simp; omega
      have b5 : (k == 5) = false := by simp; omega
      have b6 : (k == 6) = false := by simp; omega
      clear e
      go_enter Tryz.func126, Tryz.ntmps126
      go_wp2
      all_goals go_ret
      all_goals exact ⟨rfl, rfl⟩

set_option maxRecDepth 100000 in
set_option maxHeartbeats 1600000 in
theorem lengthRight_any (k f s : Int) (m : Int) (sa : Option Addr) (n cap : Nat) (w : World) (h0 : 0 ≤ f) (h1 : f < 256) :
    Calls Tryz.prog 127 #[.agg #[.int .i64 k, .int .i64 f, .int .i64 s, .slice sa n cap], .int .i64 m] w fun e w' => e = .returned (.bool (leR m k f)) ∧ Below w.heap.size w w' := by
  have hk : k = 2 ∨ k = 5 ∨ k = 3 ∨ k = 4 ∨ k = 6 ∨ ((k == 2) = false ∧ (k == 5) = false ∧ (k == 3) = false ∧ (k == 4) = false ∧ (k == 6) = false) := by
    simp only [beq_eq_false_iff_ne]
    omega
  rcases hk with rfl | rfl | rfl | rfl | rfl | ⟨b2, b5, b3, b4, b6⟩
  rotate_left 2
  · cases hh : hasB f 1 with
    | true =>
      have e : leR m 3 f = (decide (m ≤ 64) && (m == 0)) := by simp [leR, lFits, hh]
      rw [e]
      clear e
      go_enter Tryz.func127, Tryz.ntmps127
      go_wp2_with (go_at_call 201; refine (rflag_any 3 f s 1 sa n cap _ h0 h1 (Or.inl rfl)).mono ?_; rintro e w1 ⟨rfl, hb1⟩; rw [hh])
      all_goals go_ret
      all_goals refine ⟨ret_bool ?_, ((Below.refl _ _).alloc (Nat.le_refl _) _).trans (hb1.mono (by simp))⟩
      all_goals simp [*]
      all_goals omega
    | false =>
      have e : leR m 3 f = (decide (m ≤ 64) && (m == 4)) := by simp [leR, lFits, hh]
      rw [e]
      clear e
      go_enter Tryz.func127, Tryz.ntmps127
      go_wp2_with (go_at_call 201; refine (rflag_any 3 f s 1 sa n cap _ h0 h1 (Or.inl rfl)).mono ?_; rintro e w1 ⟨rfl, hb1⟩; rw [hh])
      all_goals go_ret
      all_goals refine ⟨ret_bool ?_, ((Below.refl _ _).alloc (Nat.le_refl _) _).trans (hb1.mono (by simp))⟩
      all_goals simp [*]
      all_goals omega
  · go_enter Tryz.func127, Tryz.ntmps127
    go_wp2
    all_goals go_ret
    all_goals refine ⟨ret_bool ?_, (Below.refl _ _).alloc (Nat.le_refl _) _⟩
    all_goals simp [leR, lFits, *]
    all_goals omega
  · go_enter Tryz.func127, Tryz.ntmps127
    go_wp2
    all_goals go_ret
    all_goals refine ⟨ret_bool ?_, (Below.refl _ _).alloc (Nat.le_refl _) _⟩
    all_goals simp [leR, lFits, *]
    all_goals omega
  · have e : leR m k f = decide (m ≤ 64) := by
      simp only [beq_eq_false_iff_ne] at b2 b3 b4 b5 b6
      simp [leR, lFits, b2, b3, b4, b5, b6]
    rw [e]
    clear e
    go_enter Tryz.func127, Tryz.ntmps127
    go_wp2
    all_goals go_ret
    all_goals refine ⟨ret_bool ?_, (Below.refl _ _).alloc (Nat.le_refl _) _⟩
    all_goals simp [*]
    all_goals omega
  · go_enter Tryz.func127, Tryz.ntmps127
    go_wp2
    all_goals go_ret
    all_goals refine ⟨ret_bool ?_, (Below.refl _ _).alloc (Nat.le_refl _) _⟩
    all_goals simp [leR, lFits, *]
    all_goals omega
  · go_enter Tryz.func127, Tryz.ntmps127
    go_wp2
    all_goals go_ret
    all_goals refine ⟨ret_bool ?_, (Below.refl _ _).alloc (Nat.le_refl _) _⟩
    all_goals simp [leR, lFits, *]
    all_goals omega
end Go.Proofs.YtdifgcppmnmagaaGreatDoor
/-
  Frames that are right are read as they were written; bytes in pieces tell what they tell as a whole.
-/
namespace Go.Proofs.YtdifgcppmnmagaaGreatDoor

theorem feed_code (got l : List UInt8) : (feed got l).2.code ≠ 0 → (feed got l).2.got = [] := by
  induction l generalizing got with
  | nil => intro h; exact absurd rfl h
  | cons c r ih =>
    simp only [feed]
    split
    · exact ih _
    · exact ih _
    · intro _; rfl

theorem feed_append (got a b : List UInt8) : feed got (a ++ b) = ((feed got a).1 ++ ((feed got a).2.feed b).1, ((feed got a).2.feed b).2) := by
  induction a generalizing got with
  | nil =>
    have : (Rd.mk got 0).feed b = feed got b := by show (if (0 : Int) = 0 then _ else _) = _; rw [if_pos rfl]
    simp [feed, this]
  | cons c r ih =>
    simp only [List.cons_append, feed]
    split
    · exact ih _
    · simp [ih]
    · rename_i code hs
      have hc : code ≠ 0 := by
        unfold step at hs
        simp only at hs
        split at hs
        · rename_i h; simp only [Sum.inr.injEq] at hs; rw [← hs]; exact h.2
        · split at hs
          · cases hs
          · split at hs
            · rename_i h; simp only [Sum.inr.injEq] at hs; rw [← hs]; exact h
            · cases hs
      have : (Rd.mk [] code).feed b = ([], ⟨[], code⟩) := by show (if code = 0 then _ else _) = _; rw [if_neg hc]
      simp [this]

theorem Rd.feed_append (r : Rd) (a b : List UInt8) : r.feed (a ++ b) = ((r.feed a).1 ++ ((r.feed a).2.feed b).1, ((r.feed a).2.feed b).2) := by
  unfold Rd.feed
  by_cases h : r.code = 0
  · simp only [h, if_true]
    exact Go.Proofs.YtdifgcppmnmagaaGreatDoor.feed_append _ _ _
  · simp [h]

theorem Rd.feed_nil (r : Rd) : r.feed [] = ([], r) := by
  unfold Rd.feed
  by_cases h : r.code = 0
  · rw [if_pos h]
    show ([], Rd.mk r.got 0) = ([], r)
    rw [← h]
  · rw [if_neg h]

theorem Rd.feed_dead {r : Rd} (h : r.code ≠ 0) (l : List UInt8) : r.feed l = ([], r) := by unfold Rd.feed; rw [if_neg h]

/-- Is the frame right, by the table? -/
structure Right (k f s : Int) (body : List UInt8) : Prop where
  k0 : 0 ≤ k
  k1 : k ≤ 255
  f0 : 0 ≤ f
  f1 : f ≤ 255
  s0 : 0 ≤ s
  s1 : s ≤ 32767
  st : sFits k s = true
  n : body.length ≤ 64
  ln : lFits body.length k f = true
  bd : bodyCode k f body = 0

theorem lay_length (k f s : Int) (body : List UInt8) : (lay k f s body).length = 6 + body.length := by simp [lay]; omega
theorem lay_drop (k f s : Int) (body : List UInt8) : (lay k f s body).drop 6 = body := rfl

theorem hdOf_lay {k f s : Int} {body r : List UInt8} (hk0 : 0 ≤ k) (hk1 : k ≤ 255) (hf0 : 0 ≤ f) (hf1 : f ≤ 255) (hs0 : 0 ≤ s) (hs1 : s ≤ 32767) (hn : body.length ≤ 64) :
    hdOf ([ofI ((body.length : Int) / 256), ofI (body.length : Int), ofI k, ofI f, ofI (s / 256), ofI (s % 256)] ++ r) = ⟨body.length, k, f, s⟩ := by
  simp only [hdOf, List.cons_append, be2]
  rw [ofI_toNat (by omega) (by omega), ofI_toNat (by omega) (by omega), ofI_toNat hk0 hk1, ofI_toNat hf0 hf1, ofI_toNat (by omega) (by omega), ofI_toNat (by omega) (by omega)]
  congr 1 <;> omega

theorem feed_short (got l : List UInt8) (h : got.length + l.length < 6) : feed got l = ([], ⟨got ++ l, 0⟩) := by
  induction l generalizing got with
  | nil => simp [feed]
  | cons c r ih =>
    have hs : step got c = .more (got ++ [c]) := by
      unfold step
      simp only [List.length_append, List.length_cons, List.length_nil] at h ⊢
      rw [if_neg (by omega), if_pos (by omega)]
    simp only [feed, hs]
    rw [ih _ (by simp at h ⊢; omega)]
    simp

/-- Behind a head that is right: the body is gathered, and then looked at. -/
theorem feed_body (got l : List UInt8) (n : Nat) (h6 : 6 ≤ got.length) (hc : (hdOf got).length = (n : Int)) (hl : got.length + l.length = 6 + n) (hlt : got.length < 6 + n) :
    feed got l = if bodyCode (hdOf got).kind (hdOf got).flags ((got ++ l).drop 6) = 0 then ([⟨(hdOf got).kind, (hdOf got).flags, (hdOf got).stream, (got ++ l).drop 6⟩], ⟨[], 0⟩) else ([], ⟨[], bodyCode (hdOf got).kind (hdOf got).flags ((got ++ l).drop 6)⟩) := by
  induction l generalizing got with
  | nil => simp at hl; omega
  | cons c r ih =>
    have hh : hdOf (got ++ [c]) = hdOf got := by
      match got, h6 with
      | a :: b :: d :: e :: f :: g :: r, _ => rfl
    by_cases hr : r = []
    · subst hr
      simp only [List.length_cons, List.length_nil] at hl
      by_cases hb : bodyCode (hdOf got).kind (hdOf got).flags ((got ++ [c]).drop 6) = 0
      · have hs : step got c = .frame ⟨(hdOf got).kind, (hdOf got).flags, (hdOf got).stream, (got ++ [c]).drop 6⟩ := by
          unfold step
          simp only [hh]
          simp only [List.length_append, List.length_cons, List.length_nil]
          rw [if_neg (by omega), if_neg (by omega), if_neg (by simpa using hb)]
        simp only [feed, hs]
        rw [if_pos hb]
      · have hs : step got c = .fault (bodyCode (hdOf got).kind (hdOf got).flags ((got ++ [c]).drop 6)) := by
          unfold step
          simp only [hh]
          simp only [List.length_append, List.length_cons, List.length_nil]
          rw [if_neg (by omega), if_neg (by omega), if_pos hb]
        simp only [feed, hs]
        rw [if_neg hb]
    · have hrl : 0 < r.length := List.length_pos_iff.2 hr
      simp only [List.length_cons] at hl
      have hs : step got c = .more (got ++ [c]) := by
        unfold step
        simp only [hh]
        simp only [List.length_append, List.length_cons, List.length_nil]
        rw [if_neg (by omega), if_pos (by omega)]
      simp only [feed, hs]
      have := ih (got ++ [c]) (by simp; omega) (by rw [hh]; exact hc) (by simp; omega) (by simp; omega)
      rw [this, hh]
      simp only [List.append_assoc, List.cons_append, List.nil_append]

/-- What a reader makes of the bytes of a frame that fits. -/
theorem feed_lay {k f s : Int} {body : List UInt8} (hk0 : 0 ≤ k) (hk1 : k ≤ 255) (hf0 : 0 ≤ f) (hf1 : f ≤ 255) (hs0 : 0 ≤ s) (hs1 : s ≤ 32767) (hn : body.length ≤ 64) :
    feed [] (lay k f s body) = if headCode body.length k f s ≠ 0 then ([], ⟨[], headCode body.length k f s⟩) else if bodyCode k f body = 0 then ([⟨k, f, s, body⟩], ⟨[], 0⟩) else ([], ⟨[], bodyCode k f body⟩) := by
  obtain ⟨x0, hx0⟩ : ∃ x, x = ofI ((body.length : Int) / 256) := ⟨_, rfl⟩
  have hd : ∀ r, hdOf ([ofI ((body.length : Int) / 256), ofI (body.length : Int), ofI k, ofI f, ofI (s / 256), ofI (s % 256)] ++ r) = ⟨body.length, k, f, s⟩ := fun r => hdOf_lay hk0 hk1 hf0 hf1 hs0 hs1 hn
  have e : lay k f s body = [ofI ((body.length : Int) / 256), ofI (body.length : Int), ofI k, ofI f, ofI (s / 256)] ++ (ofI (s % 256) :: body) := rfl
  rw [e, feed_append, feed_short [] _ (by simp)]
  have h1 : (Rd.mk ([] ++ [ofI ((body.length : Int) / 256), ofI (body.length : Int), ofI k, ofI f, ofI (s / 256)]) 0).feed (ofI (s % 256) :: body) =
      feed [ofI ((body.length : Int) / 256), ofI (body.length : Int), ofI k, ofI f, ofI (s / 256)] (ofI (s % 256) :: body) := by
    show (if (0 : Int) = 0 then _ else _) = _
    rw [if_pos rfl]; rfl
  rw [h1]
  have hd0 : hdOf ([ofI ((body.length : Int) / 256), ofI (body.length : Int), ofI k, ofI f, ofI (s / 256)] ++ [ofI (s % 256)]) = ⟨body.length, k, f, s⟩ := by
    have := hd []; simpa using this
  have hcode : Hd.code ⟨body.length, k, f, s⟩ = headCode body.length k f s := rfl
  simp only [List.nil_append, feed]
  by_cases hh : headCode body.length k f s ≠ 0
  · have hs : step [ofI ((body.length : Int) / 256), ofI (body.length : Int), ofI k, ofI f, ofI (s / 256)] (ofI (s % 256)) = .fault (headCode body.length k f s) := by
      unfold step
      simp only [hd0, hcode]
      rw [if_pos ⟨rfl, hh⟩]
    rw [hs, if_pos hh]
  · rw [if_neg hh]
    by_cases hb : body = []
    · subst hb
      simp only [List.length_nil] at *
      have hs : step [ofI (((0 : Nat) : Int) / 256), ofI ((0 : Nat) : Int), ofI k, ofI f, ofI (s / 256)] (ofI (s % 256)) =
          if bodyCode k f [] = 0 then .frame ⟨k, f, s, []⟩ else .fault (bodyCode k f []) := by
        unfold step
        simp only [hd0, hcode]
        rw [if_neg (fun h => hh h.2), if_neg (by simp)]
        by_cases hz : bodyCode k f [] = 0
        · rw [if_neg (by simpa using hz), if_pos hz]; rfl
        · rw [if_pos (by simpa using hz), if_neg hz]; rfl
      rw [hs]
      by_cases hz : bodyCode k f [] = 0
      · simp [hz, feed]
      · simp [hz]
    · have hbl : 0 < body.length := List.length_pos_iff.2 hb
      have hs : step [ofI ((body.length : Int) / 256), ofI (body.length : Int), ofI k, ofI f, ofI (s / 256)] (ofI (s % 256)) = .more ([ofI ((body.length : Int) / 256), ofI (body.length : Int), ofI k, ofI f, ofI (s / 256)] ++ [ofI (s % 256)]) := by
        unfold step
        simp only [hd0, hcode]
        rw [if_neg (fun h => hh h.2), if_pos (Or.inr (by simp; omega))]
      rw [hs]
      simp only
      rw [feed_body _ body body.length (by simp) (by rw [hd0]) (by simp) (by simp; omega), hd0]
      simp only [List.cons_append, List.nil_append, List.drop_succ_cons, List.drop_zero]

theorem headCode_of {l k f s : Int} (h1 : s ≤ 32767) (h2 : sFits k s = true) (h3 : l ≤ 64) (h4 : lFits l k f = true) : headCode l k f s = 0 := by
  have a1 : ¬ (32767 < s ∨ sFits k s = false) := by
    rintro (a | a)
    · omega
    · rw [h2] at a; cases a
  have a2 : ¬ (64 < l ∨ lFits l k f = false) := by
    rintro (a | a)
    · omega
    · rw [h4] at a; cases a
  unfold headCode
  rw [if_neg a1, if_neg a2]

theorem feed_right {k f s : Int} {body : List UInt8} (h : Right k f s body) : feed [] (lay k f s body) = ([⟨k, f, s, body⟩], ⟨[], 0⟩) := by
  rw [feed_lay h.k0 h.k1 h.f0 h.f1 h.s0 h.s1 h.n, if_neg (by simpa using headCode_of h.s1 h.st (by have := h.n; omega) h.ln), if_pos h.bd]
end Go.Proofs.YtdifgcppmnmagaaGreatDoor
/-
  sluiceref: content, bodyRight, Right.
-/
namespace Go.Proofs.YtdifgcppmnmagaaGreatDoor
open Go.RowKit

/-- Is the content right? -/
def contB (f : Int) (body : List UInt8) : Bool := if hasB f 8 then decide (padCode body = 0) else true

theorem padCode_bad {p : UInt8} {r : List UInt8} {k : Nat} (hs : ¬ r.length < p.toNat) (hk : k < p.toNat) (hx : (p :: r).getD (r.length + 1 - p.toNat + k) 0 ≠ 0) : decide (padCode (p :: r) = 0) = false := by
  have : padCode (p :: r) = 9 := by
    simp only [padCode]
    rw [if_neg hs, if_neg]
    intro h
    rw [List.all_eq_true] at h
    have hm : (p :: r).getD (r.length + 1 - p.toNat + k) 0 ∈ (p :: r).drop (r.length + 1 - p.toNat) := by
      rw [getD_lt _ _ _ (by simp; omega)]
      rw [List.mem_drop_iff_getElem]
      exact ⟨k, by simp; omega, rfl⟩
    have := h _ hm
    simp at this
    exact hx (by simpa using this)
  rw [this]; rfl
theorem padCode_good {p : UInt8} {r : List UInt8} (hs : ¬ r.length < p.toNat) (hz : ∀ j, j < p.toNat → (p :: r).getD (r.length + 1 - p.toNat + j) 0 = 0) : decide (padCode (p :: r) = 0) = true := by
  have : padCode (p :: r) = 0 := by
    simp only [padCode]
    rw [if_neg hs, if_pos]
    rw [List.all_eq_true]
    intro x hx
    rw [List.mem_drop_iff_getElem] at hx
    obtain ⟨j, hj, rfl⟩ := hx
    have h1 := hz j (by simp at hj; omega)
    rw [getD_lt _ _ _ (by simp at hj ⊢; omega)] at h1
    simpa using h1
  rw [this]; rfl

set_option maxRecDepth 100000 in
set_option maxHeartbeats 1600000 in
theorem content_any (k f s : Int) (sa : Option Addr) (body : List UInt8) (cap : Nat) (w : World) (h0 : 0 ≤ f) (h1 : f < 256) (hl : body.length ≤ 4294967296) (hb : BytesA w (.slice sa body.length cap) body) :
    Calls Tryz.prog 202 #[.agg #[.int .i64 k, .int .i64 f, .int .i64 s, .slice sa body.length cap]] w fun e w' => (∃ v, e = .returned (.tuple #[v, .bool (contB f body)])) ∧ Below w.heap.size w w' := by
  have HB := hide hb
  clear hb
  cases hh : hasB f 8 with
  | false =>
    have e : contB f body = true := by simp [contB, hh]
    rw [e]
    clear e
    go_enter Tryz.func202, Tryz.ntmps202
    go_wp2_with (go_at_call 201; refine (rflag_any k f s 8 sa body.length cap _ h0 h1 (Or.inr rfl)).mono ?_; rintro e w1 ⟨rfl, hb1⟩; rw [hh]; obtain ⟨hc1, hf1⟩ := bcell hb1)
    go_ret2
    exact ⟨⟨_, rfl⟩, ((Below.refl _ _).alloc (Nat.le_refl _) _).trans (hb1.mono (by simp))⟩
  | true =>
    have e : contB f body = decide (padCode body = 0) := by simp [contB, hh]
    rw [e]
    clear e
    cases body with
    | nil =>
      have e : decide (padCode [] = 0) = false := by decide
      rw [e]
      clear e
      simp only [List.length_nil] at *
      go_enter Tryz.func202, Tryz.ntmps202
      go_wp2_with (go_at_call 201; refine (rflag_any k f s 8 sa 0 cap _ h0 h1 (Or.inr rfl)).mono ?_; rintro e w1 ⟨rfl, hb1⟩; rw [hh]; obtain ⟨hc1, hf1⟩ := bcell hb1)
      go_ret2
      exact ⟨⟨_, rfl⟩, ((Below.refl _ _).alloc (Nat.le_refl _) _).trans (hb1.mono (by simp))⟩
    | cons p r =>
      obtain ⟨bb, off, hsa, hbb, hcp, hc0⟩ := HB.out.cell (i := 0) (by simp)
      subst hsa
      simp only [List.getD_cons_zero, Nat.add_zero] at hc0
      have hp : p.toNat < 256 := p.toNat_lt
      simp only [List.length_cons] at hl hcp ⊢
      by_cases hs : r.length < p.toNat
      · have e : decide (padCode (p :: r) = 0) = false := by simp [padCode, hs]
        rw [e]
        clear e
        go_enter Tryz.func202, Tryz.ntmps202
        go_wp2_with (go_at_call 201; refine (rflag_any k f s 8 _ (r.length + 1) cap _ h0 h1 (Or.inr rfl)).mono ?_; rintro e w1 ⟨rfl, hb1⟩; rw [hh]; obtain ⟨hc1, hf1⟩ := bcell hb1)
        go_quiet (fail)
        go_wp2
        go_ret2
        exact ⟨⟨_, rfl⟩, bel_drewN (((Below.refl _ _).alloc (Nat.le_refl _) _).trans (hb1.mono (by simp)))⟩
      · obtain ⟨a, ha⟩ : ∃ a, a = r.length + 1 - p.toNat := ⟨_, rfl⟩
        have hap : a + p.toNat = r.length + 1 := by omega
        have ha1 : 1 ≤ a := by omega
        have HA := hide ha
        clear ha
        go_enter Tryz.func202, Tryz.ntmps202
        go_wp2_with (go_at_call 201; refine (rflag_any k f s 8 _ (r.length + 1) cap _ h0 h1 (Or.inr rfl)).mono ?_; rintro e w1 ⟨rfl, hb1⟩; rw [hh]; obtain ⟨hc1, hf1⟩ := bcell hb1)
        go_quiet (fail)
        go_wp2
        go_loop [6] (fun i => ∃ k : Nat, k ≤ p.toNat ∧ i = .int .i64 ((a : Int) + (k : Int)) ∧ ∀ j, j < k → (p :: r).getD (r.length + 1 - p.toNat + j) 0 = 0) (fun i => r.length + 1 - (intOf i).toNat)
        case atStart => exact ⟨0, Nat.zero_le _, by go_num, fun j hj => by omega⟩
        case round =>
          obtain ⟨k, hk, rfl, hz⟩ := hrel
          have HZ := hide hz
          clear hz
          by_cases hlt : k < p.toNat
          · obtain ⟨bb', off', hsa', _, _, hck⟩ := HB.out.cell (i := a + k) (by simp; omega)
            simp only [Option.some.injEq, Addr.mk.injEq, and_true] at hsa'
            obtain ⟨rfl, rfl⟩ := hsa'
            obtain ⟨x, hx⟩ : ∃ x, x = (p :: r).getD (a + k) 0 := ⟨_, rfl⟩
            rw [← hx] at hck
            have HX := hide hx
            clear hx
            by_cases h0x : x.toNat = 0
            · have hck0 : w.cell? ⟨bb, off + (a + k), none⟩ = some (.int .u8 0) := by rw [hck, h0x]; rfl
              clear hck
              go_wp2
              go_round
              case rel =>
                refine ⟨k + 1, by omega, by go_num, fun j hj => ?_⟩
                by_cases e : j < k
                · exact HZ.out j e
                · have : j = k := by omega
                  subst this
                  have := HX.out
                  rw [HA.out] at this
                  rw [← this]; exact UInt8.toNat_inj.1 h0x
              case measure => simp [intOf]; omega
            · have hpos : decide ((0 : Int) < (x.toNat : Int)) = true := by simp; omega
              have e : decide (padCode (p :: r) = 0) = false := padCode_bad hs hlt (by
                have := HX.out
                rw [HA.out] at this
                rw [← this]; intro e; exact h0x (by rw [e]; rfl))
              have HE := hide e
              clear e
              go_wp2
              go_ret2
              rw [HE.out]
              exact ⟨⟨_, rfl⟩, bel_drewN (((Below.refl _ _).alloc (Nat.le_refl _) _).trans (hb1.mono (by simp)))⟩
          · have e : decide (padCode (p :: r) = 0) = true := padCode_good hs (fun j hj => HZ.out j (by omega))
            have HE := hide e
            clear e
            go_wp2
            all_goals go_ret2
            all_goals rw [HE.out]
            all_goals exact ⟨⟨_, rfl⟩, bel_drewN (((Below.refl _ _).alloc (Nat.le_refl _) _).trans (hb1.mono (by simp)))⟩

theorem num4_nOf {l : List UInt8} (h : l.length = 4) : (nOf ((l.drop 0).take 4) : Int) = num4 l := by
  match l, h with
  | [a, b, c, d], _ => simp [nOf, num4, be4]; omega

set_option maxRecDepth 100000 in
set_option maxHeartbeats 1600000 in
theorem bodyRight_any (k f s : Int) (sa : Option Addr) (body : List UInt8) (cap : Nat) (w : World) (h0 : 0 ≤ f) (h1 : f < 256) (hl : body.length ≤ 64) (hlf : lFits body.length k f = true) (hb : BytesA w (.slice sa body.length cap) body) :
    Calls Tryz.prog 128 #[.agg #[.int .i64 k, .int .i64 f, .int .i64 s, .slice sa body.length cap]] w fun e w' => e = .returned (.bool (decide (bodyCode k f body = 0))) ∧ Below w.heap.size w w' := by
  have hch : ∀ o, BytesA (w.alloc o) (.slice sa body.length cap) body := fun o => hb.chg ((Chg.refl _ _).alloc _)
  have hl2 : body.length ≤ 4294967296 := by omega
  by_cases hk0 : k = 0
  · subst hk0
    have e : decide (bodyCode 0 f body = 0) = contB f body := by
      unfold bodyCode contB
      rw [if_pos rfl]
      split
      · rfl
      · rfl
    rw [e]
    clear e
    have HC := hide hch
    clear hch hb
    go_enter Tryz.func128, Tryz.ntmps128
    go_wp2_with (first
      | (go_at_call 201; refine (rflag_any 0 f s 1 sa body.length cap _ h0 h1 (Or.inl rfl)).mono ?_; rintro e w1 ⟨rfl, hb1⟩; obtain ⟨hc1, hf1⟩ := bcell hb1)
      | (go_at_call 202; refine (content_any 0 f s sa body cap _ h0 h1 hl2 ((HC.out _).chg (Chg.of_below hb1))).mono ?_; rintro e w2 ⟨⟨v, rfl⟩, hb2⟩))
    go_ret
    have hb1' : Below w.heap.size w w1 := ((Below.refl _ _).alloc (Nat.le_refl _) _).trans (hb1.mono (by simp))
    exact ⟨rfl, hb1'.trans (hb2.mono hb1'.size)⟩
  · have b0 : (k == 0) = false := by simp [hk0]
    by_cases hk3 : k = 3
    · subst hk3
      cases hh : hasB f 1 with
      | true =>
        have e : decide (bodyCode 3 f body = 0) = true := by simp [bodyCode, hh]
        rw [e]
        clear e hch hb
        go_enter Tryz.func128, Tryz.ntmps128
        go_wp2_with (go_at_call 201; refine (rflag_any 3 f s 1 sa body.length cap _ h0 h1 (Or.inl rfl)).mono ?_; rintro e w1 ⟨rfl, hb1⟩; rw [hh]; obtain ⟨hc1, hf1⟩ := bcell hb1)
        go_ret
        exact ⟨rfl, ((Below.refl _ _).alloc (Nat.le_refl _) _).trans (hb1.mono (by simp))⟩
      | false =>
        have hl4 : body.length = 4 := by simp [lFits, hh] at hlf; omega
        have e : decide (bodyCode 3 f body = 0) = decide (num4 body ≤ 2147483647) := by
          have h4 : 0 ≤ num4 body := by rw [← num4_nOf hl4]; omega
          simp only [bodyCode, hh, numCode, nCode]
          simp
          omega
        rw [e, ← num4_nOf hl4]
        clear e
        have HC := hide hch
        have H4 := hide hl4
        clear hch hb hlf hl4
        go_enter Tryz.func128, Tryz.ntmps128
        go_wp2_with (first
          | (go_at_call 201; refine (rflag_any 3 f s 1 sa body.length cap _ h0 h1 (Or.inl rfl)).mono ?_; rintro e w1 ⟨rfl, hb1⟩; rw [hh]; obtain ⟨hc1, hf1⟩ := bcell hb1)
          | (go_at_call 133; refine (number_any sa cap body 0 4 _ ((HC.out _).chg (Chg.of_below hb1)) (by rw [H4.out]; exact Nat.le_refl _) (by omega) hl2).mono ?_; rintro e w2 ⟨rfl, rfl⟩))
        go_ret
        exact ⟨rfl, ((Below.refl _ _).alloc (Nat.le_refl _) _).trans (hb1.mono (by simp))⟩
    · have b3 : (k == 3) = false := by simp [hk3]
      by_cases hk6 : k = 6
      · subst hk6
        have hl4 : body.length = 4 := by simp [lFits] at hlf; omega
        have e : decide (bodyCode 6 f body = 0) = (decide (1 ≤ num4 body) && decide (num4 body ≤ 2147483647)) := by
          simp only [bodyCode, numCode, nCode]
          rw [Bool.eq_iff_iff]
          simp
        rw [e, ← num4_nOf hl4]
        clear e
        have HC := hide hch
        have H4 := hide hl4
        clear hch hb hlf hl4
        go_enter Tryz.func128, Tryz.ntmps128
        go_wp2_with (first
          | (go_at_call 201; refine (rflag_any 6 f s 1 sa body.length cap _ h0 h1 (Or.inl rfl)).mono ?_; rintro e w1 ⟨rfl, hb1⟩; obtain ⟨hc1, hf1⟩ := bcell hb1)
          | (go_at_call 133; refine (number_any sa cap body 0 4 _ ((HC.out _).chg (Chg.of_below hb1)) (by rw [H4.out]; exact Nat.le_refl _) (by omega) hl2).mono ?_; rintro e w2 ⟨rfl, rfl⟩))
        all_goals go_ret
        all_goals refine ⟨ret_bool ?_, ((Below.refl _ _).alloc (Nat.le_refl _) _).trans (hb1.mono (by simp))⟩
        all_goals simp [*]
        all_goals omega
      · have b6 : (k == 6) = false := by simp [hk6]
        have e : decide (bodyCode k f body = 0) = true := by simp [bodyCode, hk0, hk3, hk6]
        rw [e]
        clear e hch hb hk0 hk3 hk6
        go_enter Tryz.func128, Tryz.ntmps128
        go_wp2_with (go_at_call 201; refine (rflag_any k f s 1 sa body.length cap _ h0 h1 (Or.inl rfl)).mono ?_; rintro e w1 ⟨rfl, hb1⟩; obtain ⟨hc1, hf1⟩ := bcell hb1)
        go_ret
        exact ⟨rfl, ((Below.refl _ _).alloc (Nat.le_refl _) _).trans (hb1.mono (by simp))⟩
end Go.Proofs.YtdifgcppmnmagaaGreatDoor
/-
  sluiceref: Right, bytesOf, Lay, Write.
-/
namespace Go.Proofs.YtdifgcppmnmagaaGreatDoor
open Go.RowKit

/-- Is the frame right, as the document's own answer has it? -/
def rightB (k f s : Int) (body : List UInt8) : Bool := inB k && inB f && stR k s && leR body.length k f && decide (bodyCode k f body = 0)

theorem rightB_wOk (k f s : Int) (body : List UInt8) : rightB k f s body = wOk k f s body := by
  unfold wOk
  by_cases hf : fitsB k f s body.length = true
  · obtain ⟨hk0, hk1, hf0, hf1, hs0, hs1, hn⟩ := fits_bounds hf
    rw [hf, feed_lay hk0 hk1 hf0 hf1 hs0 hs1 hn]
    have e1 : inB k = true := by simp [inB, hk0, hk1]
    have e2 : inB f = true := by simp [inB, hf0, hf1]
    have e3 : stR k s = sFits k s := by simp [stR, hs0, hs1]
    have e4 : leR body.length k f = lFits body.length k f := by
      have : (body.length : Int) ≤ 64 := by omega
      simp [leR, this]
    unfold rightB
    rw [e1, e2, e3, e4]
    have hh : headCode body.length k f s = if sFits k s = false then 9 else if lFits body.length k f = false then 10 else 0 := by
      unfold headCode
      have a1 : (32767 < s ∨ sFits k s = false) ↔ sFits k s = false := ⟨fun h => h.resolve_left (by omega), Or.inr⟩
      have a2 : (64 < (body.length : Int) ∨ lFits body.length k f = false) ↔ lFits body.length k f = false := ⟨fun h => h.resolve_left (by omega), Or.inr⟩
      simp only [a1, a2]
    rw [hh]
    cases sFits k s with
    | false => simp
    | true =>
      cases lFits body.length k f with
      | false => simp
      | true =>
        by_cases hb : bodyCode k f body = 0
        · simp [hb]
        · simp [hb]
  · have hf' : fitsB k f s body.length = false := by simpa using hf
    rw [hf', Bool.false_and]
    cases hr : rightB k f s body with
    | false => rfl
    | true =>
      exfalso
      apply hf
      simp only [rightB, stR, leR, Bool.and_eq_true, decide_eq_true_eq] at hr
      simp only [fitsB, Bool.and_eq_true, decide_eq_true_eq]
      obtain ⟨⟨⟨⟨a, b⟩, ⟨c, d⟩, _⟩, g, _⟩, _⟩ := hr
      exact ⟨⟨⟨⟨a, b⟩, c⟩, d⟩, by omega⟩

set_option maxRecDepth 100000 in
set_option maxHeartbeats 1600000 in
theorem rRight_any (k f s : Int) (sa : Option Addr) (body : List UInt8) (cap : Nat) (w : World) (hl : body.length ≤ 4294967296) (hb : BytesA w (.slice sa body.length cap) body) :
    Calls Tryz.prog 66 #[.agg #[.int .i64 k, .int .i64 f, .int .i64 s, .slice sa body.length cap]] w fun e w' => e = .returned (.bool (rightB k f s body)) ∧ Below w.heap.size w w' := by
  have hch : ∀ o, BytesA (w.alloc o) (.slice sa body.length cap) body := fun o => hb.chg ((Chg.refl _ _).alloc _)
  have HC := hide hch
  clear hb hch
  by_cases hkf : 0 ≤ k ∧ k ≤ 255 ∧ 0 ≤ f ∧ f ≤ 255
  · obtain ⟨hk0, hk1, hf0, hf1⟩ := hkf
    have e1 : inB k = true := by simp [inB, hk0, hk1]
    have e2 : inB f = true := by simp [inB, hf0, hf1]
    unfold rightB
    rw [e1, e2]
    clear e1 e2
    have hf2 : f < 256 := by omega
    cases hst : stR k s with
    | false =>
      simp only [Bool.and_false, Bool.false_and]
      go_enter Tryz.func66, Tryz.ntmps66
      go_wp2_with (go_at_call 126; refine (streamRight_any k s _ hk0).mono ?_; rintro e w1 ⟨rfl, rfl⟩; rw [hst])
      go_ret
      exact ⟨rfl, (Below.refl _ _).alloc (Nat.le_refl _) _⟩
    | true =>
      cases hle : leR body.length k f with
      | false =>
        simp only [Bool.and_false, Bool.false_and]
        go_enter Tryz.func66, Tryz.ntmps66
        go_wp2_with (first
          | (go_at_call 126; refine (streamRight_any k s _ hk0).mono ?_; rintro e w1 ⟨rfl, rfl⟩; rw [hst])
          | (go_at_call 127; refine (lengthRight_any k f s _ sa body.length cap _ hf0 hf2).mono ?_; rintro e w2 ⟨rfl, hb2⟩; rw [hle]; obtain ⟨hc2, hf2'⟩ := bcell hb2))
        go_ret
        exact ⟨rfl, ((Below.refl _ _).alloc (Nat.le_refl _) _).trans (hb2.mono (by simp))⟩
      | true =>
        have hlb : body.length ≤ 64 ∧ lFits body.length k f = true := by
          simp only [leR, Bool.and_eq_true, decide_eq_true_eq] at hle
          exact ⟨by omega, hle.2⟩
        have HLF := hide hlb.2
        have hl64 := hlb.1
        clear hlb
        simp only [Bool.and_true, Bool.true_and]
        go_enter Tryz.func66, Tryz.ntmps66
        go_wp2_with (first
          | (go_at_call 126; refine (streamRight_any k s _ hk0).mono ?_; rintro e w1 ⟨rfl, rfl⟩; rw [hst])
          | (go_at_call 127; refine (lengthRight_any k f s _ sa body.length cap _ hf0 hf2).mono ?_; rintro e w2 ⟨rfl, hb2⟩; rw [hle]; obtain ⟨hc2, hf2'⟩ := bcell hb2)
          | (go_at_call 128; refine (bodyRight_any k f s sa body cap _ hf0 hf2 hl64 HLF.out ((HC.out _).chg (Chg.of_below hb2))).mono ?_; rintro e w3 ⟨rfl, hb3⟩))
        go_ret
        have hb2' : Below w.heap.size w w2 := ((Below.refl _ _).alloc (Nat.le_refl _) _).trans (hb2.mono (by simp))
        exact ⟨rfl, hb2'.trans (hb3.mono hb2'.size)⟩
  · have e : rightB k f s body = false := by
      cases hr : rightB k f s body with
      | false => rfl
      | true =>
        exfalso
        apply hkf
        simp only [rightB, inB, Bool.and_eq_true, decide_eq_true_eq] at hr
        omega
    rw [e]
    clear e
    go_enter Tryz.func66, Tryz.ntmps66
    go_wp2_with fail
    all_goals first | (go_ret; exact ⟨rfl, (Below.refl _ _).alloc (Nat.le_refl _) _⟩) | (exfalso; omega)
end Go.Proofs.YtdifgcppmnmagaaGreatDoor
/-
  sluiceref: bytesOf, Lay, Write.
-/
namespace Go.Proofs.YtdifgcppmnmagaaGreatDoor
open Go.RowKit

set_option maxRecDepth 100000 in
set_option maxHeartbeats 1600000 in
theorem bytesOf_two (v : Int) (w : World) (h0 : 0 ≤ v) (h1 : v ≤ 65535) :
    Calls Tryz.prog 129 #[.int .i64 v, .int .i64 2] w fun e w' => e = .returned (.slice (some ⟨w.heap.size, 0, none⟩) 2 2) ∧ w'.ownsRow w.heap.size 5 1 (.slice (some ⟨w.heap.size, 0, none⟩) 2 2) 2 [.int .u8 (v / 256), .int .u8 (v % 256)] ∧ Below w.heap.size w w' := by
  obtain ⟨i0, hi, hz0, hz1, hz2⟩ := info_parts Tryz.info5
  go_enter Tryz.func129, Tryz.ntmps129
  go_wp2_with (at_make; refine wpList_make_full _ rfl _ _ 54 rfl w.heap.size 5 i0 (.int .u8 0) 1 Tryz.underlying54 hi hz0 hz1 _ _ _ _ 2 rfl rfl ?m1 ?m2 ?m3 ?m4 ?m5 ?_)
  case m1 => rfl
  case m2 => rfl
  case m3 => rw [hz2]; omega
  case m4 => unfold maxLen; omega
  case m5 => simp
  intro w1 hown1 hg1
  have hbel1 : Below w.heap.size w w1 := (Below.refl _ _).grown hg1 (Nat.le_refl _) (fun k h => by cases h)
  have hh := made_list hown1
  clear hown1 hg1
  go_wp2
  go_loopw [0, 6] (fun x i wr => Below w.heap.size w wr ∧ ((x = .int .i64 v ∧ i = .int .i64 1 ∧ wr.heap[w.heap.size]? = some (.cells [Value.int .u8 0, .int .u8 0].toArray 5 (0, 0))) ∨
      (x = .int .i64 (v / 256) ∧ i = .int .i64 0 ∧ wr.heap[w.heap.size]? = some (.cells [Value.int .u8 0, .int .u8 (v % 256)].toArray 5 (0, 0))) ∨
      (i = .int .i64 (-1) ∧ wr.heap[w.heap.size]? = some (.cells [Value.int .u8 (v / 256), .int .u8 (v % 256)].toArray 5 (0, 0))))) (fun _ i _ => (intOf i + 1).toNat)
  case atStart => exact ⟨hbel1, Or.inl ⟨rfl, rfl, hh⟩⟩
  case round =>
    obtain ⟨hbel, ⟨rfl, rfl, hrow⟩ | ⟨rfl, rfl, hrow⟩ | ⟨rfl, hrow⟩⟩ := hrel
    · have hc : wr.cell? ⟨w.heap.size, 1, none⟩ = some (.int .u8 0) := by rw [row_cell hrow]; rfl
      have hfz := row_free (i := 1) hrow
      have HR := hide (row_set (i := 1) (u := .int .u8 (v % 256)) hrow)
      clear hrow
      go_wp2
      go_roundw
      case rel => exact ⟨hbel.setCell (Nat.le_refl _) _, Or.inr (Or.inl ⟨rfl, rfl, HR.out⟩)⟩
      case measure => simp [intOf]
    · have hc : wr.cell? ⟨w.heap.size, 0, none⟩ = some (.int .u8 0) := by rw [row_cell hrow]; rfl
      have hfz := row_free (i := 0) hrow
      have hv : v / 256 % 256 = v / 256 := by omega
      have HR := hide (row_set (i := 0) (u := .int .u8 (v / 256)) hrow)
      clear hrow
      go_wp2
      go_roundw
      case rel => exact ⟨hbel.setCell (Nat.le_refl _) _, Or.inr (Or.inr ⟨rfl, HR.out⟩)⟩
      case measure => simp [intOf]
    · have HR := hide (owns_row (b := w.heap.size) hrow (by unfold maxLen; simp) (Nat.le_refl _))
      clear hrow
      go_wp2
      go_ret
      exact ⟨rfl, HR.out, hbel⟩

theorem lies_of_bytesA {w : World} {x : Value} {l : List UInt8} (h : BytesA w x l) : Lies w x l.length (l.map B) := by
  rcases h with h | ⟨ad, rfl, rfl⟩
  · exact lies_of_bytesIn h
  · exact Or.inr ⟨_, _, rfl, fun j u hu => by simp at hu⟩

theorem lies_owned {w : World} {b e s n : Nat} {v : Value} {xs : List Value} (h : w.ownsRow b e s v n xs) : Lies w v n xs := by
  rcases h.2 with ⟨rfl, h0⟩ | ⟨g, cap, cur, rfl, _, hgg, _⟩
  · have hx : xs = [] := List.eq_nil_of_length_eq_zero (by rw [h.1, h0]; simp)
    exact Or.inl ⟨rfl, h0, hx⟩
  · exact Or.inr ⟨_, _, rfl, h.cells (g := g) rfl⟩

set_option maxRecDepth 100000 in
set_option maxHeartbeats 3200000 in
theorem rLay_any (k f s : Int) (sa : Option Addr) (body : List UInt8) (cap : Nat) (w : World) (hk0 : 0 ≤ k) (hk1 : k ≤ 255) (hf0 : 0 ≤ f) (hf1 : f ≤ 255) (hs0 : 0 ≤ s) (hs1 : s ≤ 32767) (hn : body.length ≤ 64) (hb : BytesA w (.slice sa body.length cap) body) :
    Calls Tryz.prog 67 #[.agg #[.int .i64 k, .int .i64 f, .int .i64 s, .slice sa body.length cap]] w fun e w' => ∃ v, e = .returned v ∧ w'.ownsRow w.heap.size 5 1 v (lay k f s body).length ((lay k f s body).map B) ∧ Below w.heap.size w w' := by
  obtain ⟨i0, hi, hz0, hz1, hz2⟩ := info_parts Tryz.info5
  have HB := hide hb
  clear hb
  go_enter Tryz.func67, Tryz.ntmps67
  go_wp2_with fail
  refine (bytesOf_two _ _ (by omega) (by omega)).mono ?_
  rintro e w1 ⟨rfl, hown1, hb1⟩
  simp only [World.size_alloc] at hown1 ⊢
  have hfb : w1.heap[w.heap.size]? = some (.cells #[.int .i64 k, .int .i64 f, .int .i64 s, .slice sa body.length cap] 56 (0, 0)) := by
    rw [hb1.block w.heap.size (by simp)]; exact heap_alloc_new w _
  have hbel1 : Below w.heap.size w w1 := ((Below.refl _ _).alloc (Nat.le_refl _) _).trans (hb1.mono (by simp))
  have hown1' := owns_base hown1 (base' := w.heap.size) (fun j hj => by have := (hown1.lt j hj).1; omega)
  have hsz1 := lt_of_block hfb
  obtain ⟨z0, z1, z2, z3, -⟩ := frame_block hfb
  clear hb1 hown1
  go_wp2_with (at_builtin; refine wpList_app _ rfl (.tmp 9) (.tmp 13) 54 rfl 5 i0 (.int .u8 0) 1 1 Tryz.underlying54 hi hz0 hz1 hz2 rfl (by decide) _ _ _ rfl ((owns_base hown1' (fun _ _ => Nat.zero_le _)).alloc _) (.slice (some ⟨w1.heap.size, 0, none⟩) 1 1) 1 [.int .u8 k] rfl rfl (lies_one (one_alloc _ _ _)) ?c1 ?c2 ?c3 ?_)
  case c1 => intro u hu; simp at hu; subst hu; rfl
  case c2 => unfold maxLen; omega
  case c3 => omega
  intro v2 w2 hown2 hg2 hfr2
  obtain ⟨hown2', hbel2⟩ := app_keep (hbel1.alloc (by omega) _) (by simp; omega) (hown1'.alloc _) hown2 hg2 (by simpa using hfr2)
  have hfb2 := kept_block (hown1'.alloc _) hg2 (alloc_block hfb _) (by decide)
  obtain ⟨y0, y1, y2, y3, -⟩ := frame_block hfb2
  have hsz2 := lt_of_block hfb2
  clear z0 z1 z2 z3 hg2 hfr2 hown2 hown1' hfb hbel1 hsz1
  go_wp2_with (at_builtin; refine wpList_app _ rfl (.tmp 15) (.tmp 19) 54 rfl 5 i0 (.int .u8 0) 1 1 Tryz.underlying54 hi hz0 hz1 hz2 rfl (by decide) _ _ _ rfl ((owns_base hown2' (fun _ _ => Nat.zero_le _)).alloc _) (.slice (some ⟨w2.heap.size, 0, none⟩) 1 1) 1 [.int .u8 f] rfl rfl (lies_one (one_alloc _ _ _)) ?d1 ?d2 ?d3 ?_)
  case d1 => intro u hu; simp at hu; subst hu; rfl
  case d2 => unfold maxLen; omega
  case d3 => omega
  intro v3 w3 hown3 hg3 hfr3
  obtain ⟨hown3', hbel3⟩ := app_keep (hbel2.alloc (by omega) _) (by simp; omega) (hown2'.alloc _) hown3 hg3 (by simpa using hfr3)
  have hfb3 := kept_block (hown2'.alloc _) hg3 (alloc_block hfb2 _) (by decide)
  obtain ⟨x0, x1, x2, x3, -⟩ := frame_block hfb3
  have hsz3 := lt_of_block hfb3
  clear y0 y1 y2 y3 hg3 hfr3 hown3 hown2' hfb2 hbel2 hsz2
  go_wp2_with fail
  refine (bytesOf_two _ _ (by omega) (by omega)).mono ?_
  rintro e w4 ⟨rfl, hown4, hb4⟩
  have hbel4 : Below w.heap.size w w4 := hbel3.trans (hb4.mono (by omega))
  have hown3k := owns_chg hown3' (Chg.of_below (S := fun _ => False) hb4) (fun _ _ => id)
  have hfb4 : w4.heap[w.heap.size]? = some (.cells #[.int .i64 k, .int .i64 f, .int .i64 s, .slice sa body.length cap] 56 (0, 0)) := by
    rw [hb4.block w.heap.size hsz3]; exact hfb3
  have hsz4 := lt_of_block hfb4
  obtain ⟨u0, u1, u2, u3, -⟩ := frame_block hfb4
  have hlies4 := lies_owned hown4
  have HL4 := hide hlies4
  clear hlies4 hown4 hb4 x0 x1 x2 x3 hfb3 hown3' hbel3
  go_wp2_with (at_builtin; refine wpList_app _ rfl (.tmp 24) (.tmp 25) 54 rfl 5 i0 (.int .u8 0) 1 1 Tryz.underlying54 hi hz0 hz1 hz2 rfl (by decide) _ _ _ rfl (owns_base hown3k (fun _ _ => Nat.zero_le _)) (.slice (some ⟨w3.heap.size, 0, none⟩) 2 2) 2 [.int .u8 (s / 256), .int .u8 (s % 256)] rfl rfl HL4.out ?e1 ?e2 ?e3 ?_)
  case e1 =>
    intro u hu; simp at hu
    rcases hu with rfl | rfl <;> rfl
  case e2 => unfold maxLen; omega
  case e3 => omega
  intro v5 w5 hown5 hg5 hfr5
  obtain ⟨hown5', hbel5⟩ := app_keep hbel4 (by omega) hown3k hown5 hg5 hfr5
  have hfb5 := kept_block hown3k hg5 hfb4 (by decide)
  obtain ⟨t0, t1, t2, t3, -⟩ := frame_block hfb5
  have hsz5 := lt_of_block hfb5
  clear u0 u1 u2 u3 hg5 hfr5 hown5 hown3k hfb4 hbel4 HL4
  have HL5 := hide (lies_of_bytesA (HB.out.chg (Chg.of_below (S := fun _ => False) hbel5)))
  go_wp2_with (at_builtin; refine wpList_app _ rfl (.tmp 27) (.tmp 29) 54 rfl 5 i0 (.int .u8 0) 1 1 Tryz.underlying54 hi hz0 hz1 hz2 rfl (by decide) _ _ _ rfl (owns_base hown5' (fun _ _ => Nat.zero_le _)) (.slice sa body.length cap) body.length (body.map B) rfl ?g0 HL5.out ?g1 ?g2 ?g3 ?_)
  case g0 => simp
  case g1 => exact bytes_one _
  case g2 => unfold maxLen; omega
  case g3 => omega
  intro v6 w6 hown6 hg6 hfr6
  obtain ⟨hown6', hbel6⟩ := app_keep hbel5 (by omega) hown5' hown6 hg6 hfr6
  have HO := hide hown6'
  clear hown6 hg6 hfr6 hown6' HL5 t0 t1 t2 t3 hfb5 hown5'
  go_wp2
  go_ret
  refine ⟨v6, rfl, ?_, hbel6⟩
  have e1 : (lay k f s body).length = 6 + body.length := by simp [lay]; omega
  rw [e1]
  have e2 : (lay k f s body).map B = [.int .u8 ((body.length : Int) / 256), .int .u8 ((body.length : Int) % 256), .int .u8 k, .int .u8 f, .int .u8 (s / 256), .int .u8 (s % 256)] ++ body.map B := by
    unfold lay
    rw [List.map_append]
    simp only [List.map_cons, List.map_nil]
    rw [B_ofI (by omega) (by omega), B_ofI (by omega) (by omega), B_ofI hk0 hk1, B_ofI hf0 hf1, B_ofI (by omega) (by omega), B_ofI (by omega) (by omega)]
    have e3 : (body.length : Int) % 256 = body.length := by omega
    rw [e3]
  rw [e2]
  have := HO.out
  simpa using this

/-- The end of the document's Write. -/
def RWrote (w w' : World) (k f s : Int) (body : List UInt8) (e : Ending) : Prop :=
  ∃ v, e = .returned (.tuple #[v, .int .i64 (if wOk k f s body then 0 else 1)]) ∧ w'.ownsRow w.heap.size 5 1 v (if wOk k f s body then lay k f s body else []).length ((if wOk k f s body then lay k f s body else []).map B) ∧ Below w.heap.size w w'

set_option maxRecDepth 100000 in
set_option maxHeartbeats 1600000 in
theorem rWrite_any (k f s : Int) (sa : Option Addr) (body : List UInt8) (cap : Nat) (w : World) (hl : body.length ≤ 4294967296) (hb : BytesA w (.slice sa body.length cap) body) :
    Calls Tryz.prog 23 #[.agg #[.int .i64 k, .int .i64 f, .int .i64 s, .slice sa body.length cap]] w fun e w' => RWrote w w' k f s body e := by
  have hch : ∀ o, BytesA (w.alloc o) (.slice sa body.length cap) body := fun o => hb.chg ((Chg.refl _ _).alloc _)
  have HC := hide hch
  clear hch hb
  cases hok : wOk k f s body with
  | false =>
    have HO := hide hok
    have HR := hide ((rightB_wOk k f s body).trans hok)
    clear hok
    go_enter Tryz.func23, Tryz.ntmps23
    go_wp2_with (go_at_call 66; refine (rRight_any k f s sa body cap _ hl (HC.out _)).mono ?_; rintro e w1 ⟨rfl, hb1⟩; rw [HR.out])
    go_ret2
    refine ⟨.slice none 0 0, by rw [HO.out]; rfl, ?_, ((Below.refl _ _).alloc (Nat.le_refl _) _).trans (hb1.mono (by simp))⟩
    rw [HO.out]
    exact World.ownsRow_nil _ _ _ _
  | true =>
    have hfit : fitsB k f s body.length = true := by simp only [wOk, Bool.and_eq_true] at hok; exact hok.1
    obtain ⟨hk0, hk1, hf0, hf1, hs0, hs1, hn⟩ := fits_bounds hfit
    have HO := hide hok
    have HR := hide ((rightB_wOk k f s body).trans hok)
    clear hok hfit
    go_enter Tryz.func23, Tryz.ntmps23
    go_wp2_with (first
      | (go_at_call 66; refine (rRight_any k f s sa body cap _ hl (HC.out _)).mono ?_; rintro e w1 ⟨rfl, hb1⟩; rw [HR.out]; obtain ⟨hc1, hf1'⟩ := bcell hb1)
      | (go_at_call 67; refine (rLay_any k f s sa body cap _ hk0 hk1 hf0 hf1 hs0 hs1 hn ((HC.out _).chg (Chg.of_below hb1))).mono ?_; rintro e w2 ⟨v, rfl, hown, hb2⟩))
    go_ret2
    have hb1' : Below w.heap.size w w1 := ((Below.refl _ _).alloc (Nat.le_refl _) _).trans (hb1.mono (by simp))
    refine ⟨v, by rw [HO.out]; rfl, ?_, hb1'.trans (hb2.mono hb1'.size)⟩
    rw [HO.out]
    exact owns_base hown (fun j hj => by have := (hown.lt j hj).1; have := hb1'.size; omega)
end Go.Proofs.YtdifgcppmnmagaaGreatDoor
