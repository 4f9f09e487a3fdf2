import Derived.Test.YtjccnikmcoidhaaFeedRel
set_option linter.unusedVariables false
set_option linter.unusedSimpArgs false
/-
  (*sluice.Reader).Feed.
-/
namespace Go.Proofs.Ytjccnikmcoidhaa
open Go.RowKit
set_option linter.unusedVariables false

/-- The end of Feed. -/
def Fed (w w' : World) (rb : Nat) (gv : Value) (r : Rd) (l : List UInt8) (e : Ending) : Prop :=
  ∃ v ps gv', e = .returned (.tuple #[v, .int .i64 (r.feed l).2.code]) ∧ ps.map Prod.fst = (r.feed l).1 ∧ FrsOwn w' w.heap.size v ps ∧ RdT w' rb gv' (r.feed l).2 ∧ Chg (Touch rb gv) w w' ∧
    (∀ j, gv'.ownBlock = some j → gv.ownBlock = some j ∨ w.heap.size ≤ j) ∧ (∀ j ∈ bodyBlocks ps, gv'.ownBlock ≠ some j)

theorem feed_start {w : World} {rb : Nat} {gv : Value} {got l : List UInt8} (hr : RdS w rb gv got) (hrb : rb < w.heap.size) :
    FeedRel w rb gv got l 0 (.slice none 0 0) ((w.alloc (.cells #[.pointer (some ⟨rb, 0, none⟩)] 41)).alloc (.cells #[.int .i64 0] 32)) [] gv got := by
  have ha : Chg (fun _ => False) w ((w.alloc (.cells #[.pointer (some ⟨rb, 0, none⟩)] 41)).alloc (.cells #[.int .i64 0] 32)) := ((Chg.refl _ _).alloc _).alloc _
  refine ⟨Nat.zero_le _, hr.chg ha id (fun _ _ => id), FrsOwn.nil _ _, by simp, ((Chg.refl _ _).alloc _).alloc _, fun j hj => Or.inl hj, by simp [bodyBlocks], ⟨?_, ?_⟩, Nat.le_refl _⟩
  · rw [Below.heap_alloc _ _ _ (by simp)]; exact heap_alloc_new w _
  · have := heap_alloc_new (w.alloc (.cells #[.pointer (some ⟨rb, 0, none⟩)] 41)) (.cells #[.int .i64 0] 32)
    simpa using this

theorem frame_one (f : Fr) (sa : Option Addr) (n c : Nat) : ∀ u ∈ cellsOf [(f, .slice sa n c)], u.oneCell' = true := by
  intro u hu
  simp [cellsOf] at hu
  rcases hu with rfl | rfl | rfl | rfl <;> rfl

theorem lies_frame1 (w1 : World) (f : Fr) (sa : Option Addr) (n c : Nat) :
    Lies (w1.alloc (.cells #[.int .i64 f.kind, .int .i64 f.flags, .int .i64 f.stream, .slice sa n c] 26)) (.slice (some ⟨w1.heap.size, 0, none⟩) 1 1) 1 (cellsOf [(f, .slice sa n c)]) := by
  refine Or.inr ⟨_, _, rfl, fun j u hu => ?_⟩
  have hh := heap_alloc_new w1 (.cells #[.int .i64 f.kind, .int .i64 f.flags, .int .i64 f.stream, .slice sa n c] 26)
  have e : (⟨w1.heap.size, 0, none⟩ : Addr).add j = ⟨w1.heap.size, j, none⟩ := by unfold Addr.add; split <;> simp_all
  rw [e, cell_of_row _ _ _ _ _ _ hh, ← hu]
  simp [cellsOf]

theorem lies_frame (w1 : World) (o : Obj) (f : Fr) (sa : Option Addr) (n c : Nat) :
    Lies ((w1.alloc o).alloc (.cells #[.int .i64 f.kind, .int .i64 f.flags, .int .i64 f.stream, .slice sa n c] 26)) (.slice (some ⟨w1.heap.size + 1, 0, none⟩) 1 1) 1 (cellsOf [(f, .slice sa n c)]) := by
  have h := lies_frame1 (w1.alloc o) f sa n c
  rw [World.size_alloc] at h
  exact h

set_option maxRecDepth 100000 in
set_option maxHeartbeats 400000 in
theorem plain_any (k f s : Int) (sa : Option Addr) (n c : Nat) (w : World) :
    Calls Try.prog 48 #[.agg #[.int .i64 k, .int .i64 f, .int .i64 s, .slice sa n c]] w fun e w' => e = .returned (.agg #[.int .i64 k, .int .i64 f, .int .i64 s, .slice sa n c]) ∧ Below w.heap.size w w' := by
  have HB := hide (below_two w (.cells #[.int .i64 k, .int .i64 f, .int .i64 s, .slice sa n c] 71) (.cells #[.int .i64 k, .int .i64 f, .int .i64 s, .slice sa n c] 26))
  go_enter Try.func48, Try.ntmps48
  go_wp2
  all_goals first
    | exact ⟨rfl, HB.out⟩
    | (refine bodyPost_ret (v := .agg #[.int .i64 k, .int .i64 f, .int .i64 s, .slice sa n c]) ?_ rfl ⟨rfl, HB.out⟩; simp [results, Try.results48, go_sem])

/-- Which method a frame's Plain is: that of the whole in it. -/
theorem frV_plain (k f s : Int) (sa : Option Addr) (n c : Nat) (cv : Value) (l : List UInt8) : ∃ t v, frV k f s (.slice sa n c) cv l = .iface t v ∧ ∀ w, (method 207 t v "Plain").run Try.prog w = .ok (48, .agg #[.int .i64 k, .int .i64 f, .int .i64 s, .slice sa n c]) w := by
  unfold frV
  split
  · exact ⟨_, _, rfl, fun w => by kernel_rfl⟩
  split
  · exact ⟨_, _, rfl, fun w => by kernel_rfl⟩
  split
  · exact ⟨_, _, rfl, fun w => by kernel_rfl⟩
  split
  · exact ⟨_, _, rfl, fun w => by kernel_rfl⟩
  split
  · exact ⟨_, _, rfl, fun w => by kernel_rfl⟩
  split
  · exact ⟨_, _, rfl, fun w => by kernel_rfl⟩
  split
  · exact ⟨_, _, rfl, fun w => by kernel_rfl⟩
  split
  · exact ⟨_, _, rfl, fun w => by kernel_rfl⟩
  · exact ⟨_, _, rfl, fun w => by kernel_rfl⟩

section
variable {w : World} {rb : Nat} {gv : Value} {got l : List UInt8} {k : Nat} {v : Value} {wr : World} {ps : List (Fr × Value)} {gv' : Value} {got' : List UInt8}

theorem feed_end (h : FeedRel w rb gv got l k v wr ps gv' got') (hrb : rb < w.heap.size) (hk : l.length ≤ k) :
    Fed w (wr.setCell ⟨w.heap.size + 1, 0, none⟩ (.int .i64 0)) rb gv ⟨got, 0⟩ l (.returned (.tuple #[v, .int .i64 0])) := by
  have hc : Chg (fun j => j = w.heap.size + 1) wr (wr.setCell ⟨w.heap.size + 1, 0, none⟩ (.int .i64 0)) := (Chg.refl (fun j => j = w.heap.size + 1) wr).setCell (p := ⟨w.heap.size + 1, 0, none⟩) (Or.inr rfl) _
  have he : (Rd.mk got 0).feed l = (ps.map Prod.fst, ⟨got', 0⟩) := by
    show (if (0 : Int) = 0 then feed got l else _) = _
    rw [if_pos rfl, h.eq, List.drop_of_length_le hk]
    simp [feed]
  have hf := h.vars.f
  have hst := h.st.chg hc (by omega) (fun j hj => by rintro rfl; exact owns_ne h.st.own hf (by decide) hj)
  refine ⟨v, ps, gv', by rw [he], by rw [he], h.frs.chg' hc ?_ ?_, by rw [he]; exact Or.inl ⟨rfl, hst⟩, h.chg.trans (hc.mono (fun j _ hj => Or.inl (by omega))), h.fresh, h.apart⟩
  · rintro j hj rfl; exact owns_ne h.frs.row hf (by decide) hj
  · rintro j hj rfl
    obtain ⟨p, hp, e⟩ := mem_bodyBlocks.1 hj
    exact owns_ne (h.frs.body p hp) hf (by decide) e

theorem feed_fault (h : FeedRel w rb gv got l k v wr ps gv' got') (hrb : rb < w.heap.size) (hk : k < l.length) {code : Int} (hs : step got' (l.getD k 0) = .fault code) {w1 : World} {gv'' : Value} {L K F S : Int}
    (hfr : FrsOwn w1 w.heap.size v ps) (hv : Vars w.heap.size w1 rb) (hrd : RdB w1 rb gv'' L K F S 0) (hch : Chg (Touch rb gv) w w1) :
    Fed w (wiped w1 (w.heap.size + 1) rb code) rb gv ⟨got, 0⟩ l (.returned (.tuple #[v, .int .i64 code])) := by
  have hc := wiped_chg w1 (w.heap.size + 1) rb code
  have he : (Rd.mk got 0).feed l = (ps.map Prod.fst, ⟨[], code⟩) := by
    show (if (0 : Int) = 0 then feed got l else _) = _
    rw [if_pos rfl, h.eq, drop_cons hk]
    simp only [feed, hs, List.append_nil]
  have hcode : code ≠ 0 := by
    rcases step_fault hs with ⟨_, a, rfl⟩ | ⟨_, _, _, a, rfl⟩
    · exact a
    · exact a
  refine ⟨v, ps, .slice none 0 0, by rw [he], by rw [he], hfr.chg' hc ?_ ?_, by rw [he]; exact Or.inr ⟨hcode, rfl, rfl, wiped_rd hrd (by omega)⟩, hch.trans (hc.mono ?_), fun j hj => by simp [Value.ownBlock] at hj, fun j _ => by simp [Value.ownBlock]⟩
  · rintro j hj (rfl | rfl)
    · exact owns_ne hfr.row hv.f (by decide) hj
    · exact owns_ne hfr.row hrd (by decide) hj
  · intro j hj hh
    obtain ⟨p, hp, e⟩ := mem_bodyBlocks.1 hj
    rcases hh with rfl | rfl
    · exact owns_ne (hfr.body p hp) hv.f (by decide) e
    · exact owns_ne (hfr.body p hp) hrd (by decide) e
  · rintro j _ (rfl | rfl)
    · exact Or.inl (by omega)
    · exact Or.inr (Or.inl rfl)
end

set_option maxRecDepth 100000 in
set_option maxHeartbeats 3200000 in
theorem feed_walk (rb bb off cap : Nat) (gv : Value) (got l : List UInt8) (w : World) (hr : RdS w rb gv got) (hl : l.length ≤ 268435456) (hbb : bb < w.heap.size) (hb1 : bb ≠ rb) (hb2 : gv.ownBlock ≠ some bb)
    (hc : ∀ i, i < l.length → w.cell? ⟨bb, off + i, none⟩ = some (.int .u8 (l.getD i 0).toNat)) :
    Calls Try.prog 18 #[.pointer (some ⟨rb, 0, none⟩), .slice (some ⟨bb, off, none⟩) l.length cap] w fun e w' => Fed w w' rb gv ⟨got, 0⟩ l e := by
  have hmf : ∀ (fn : Fn) (first cap : Array Value) (w : World), (Instr.makeFunc fn first cap).run Try.prog w = .ok (.func fn first cap) w := fun _ _ _ _ => rfl
  obtain ⟨i0, hi, hz0, hz1, hz2⟩ := info_parts Try.info26
  obtain ⟨L, K, F, S, hrd⟩ := hr.rd
  obtain ⟨-, -, -, -, -, c5⟩ := hrd.cells
  have hrb := hrd.lt
  go_enter_defers Try.func18, Try.ntmps18
  go_wp2
  go_loopw [4, 22] (fun v i wr => ∃ k ps gv' got', i = .int .i64 (k : Nat) ∧ FeedRel w rb gv got l k v wr ps gv' got') (fun _ i _ => l.length - (intOf i).toNat)
  case atStart => exact ⟨0, [], gv, got, rfl, feed_start hr hrb⟩
  case round =>
    obtain ⟨k, ps, gv', got', rfl, hrel⟩ := hrel
    have hkl := hrel.le
    have v0 := cell_of_one hrel.vars.r
    have v1 := cell_of_one hrel.vars.f
    have v2 := free_of_one hrel.vars.f
    have hlt1 := lt_of_block hrel.vars.f
    by_cases hk : k < l.length
    · have hx : wr.cell? ⟨bb, off + k, none⟩ = some (.int .u8 (l.getD k 0).toNat) := (hrel.chg.cell (p := ⟨bb, off + k, none⟩) hbb (by rintro (e | e); exact hb1 e; exact hb2 e)).trans (hc k hk)
      obtain ⟨x, hxd⟩ : ∃ x, x = l.getD k 0 := ⟨_, rfl⟩
      rw [← hxd] at hx
      have HX : Hid (x = l.getD k 0) := hxd
      clear hxd hc
      rcases hs : step got' x with (g' | f) | code
      · have HS : Hid (step got' (l.getD k 0) = .more g') := by rw [← HX.out]; exact hs
        have HS' : Hid (step got' x = .more g') := hs
        clear hs
        go_wp2_with fail
        refine (take_more_any rb gv' got' g' x wr hrel.st HS'.out).mono ?_
        rintro e w1 ⟨rfl, gv'', hleft⟩
        go_wp2
        refine ⟨⟨k + 1, ps, gv'', g', by go_num, hrel.more hrb hk HS.out hleft⟩, by simp [intOf]; omega⟩
      · have HS : Hid (step got' (l.getD k 0) = .frame f) := by rw [← HX.out]; exact hs
        have HS' : Hid (step got' x = .frame f) := hs
        clear hs
        have hfew := hrel.few
        go_wp2_with fail
        refine (take_frame_any rb gv' got' x f wr hrel.st HS'.out).mono ?_
        rintro e w1 ⟨bv, cv, gv'', rfl, hbo, hbf, hleft, hne⟩
        obtain ⟨sa, nb, cb, rfl⟩ := slice_of_owns hbo
        obtain ⟨hfr1, -, -⟩ := hrel.touch hrb hleft.chg
        obtain ⟨tf, vf, hfv, hmth⟩ := frV_plain f.kind f.flags f.stream sa nb cb cv f.body
        rw [hfv]
        clear hfv
        go_wp2_with fail
        refine (plain_any f.kind f.flags f.stream sa nb cb w1).mono ?_
        rintro e wp ⟨rfl, hbp⟩
        clear hmth
        have HOWN := hide (((owns_base hfr1.row (fun _ _ => Nat.zero_le _)) : w1.ownsRow 0 _ _ _ _ _))
        have HOWP := hide (owns_chg HOWN.out (Chg.of_below (S := fun _ => False) hbp) (fun _ _ => id))
        go_wp2_with (at_builtin; refine wpList_app _ rfl (.tmp 35) (.tmp 38) 22 rfl 26 i0 (.agg #[.int .i64 0, .int .i64 0, .int .i64 0, .slice none 0 0]) 4 48 Try.underlying22 hi hz0 hz1 hz2 rfl (by decide) _ _ _ rfl (HOWP.out.alloc _) (.slice (some ⟨wp.heap.size, 0, none⟩) 1 1) 1 (cellsOf [(f, .slice sa nb cb)]) rfl rfl ?c1 ?c2 ?c3 ?c4 ?_)
        case c1 => exact lies_frame1 _ _ _ _ _
        case c2 => exact frame_one _ _ _ _
        case c3 => unfold maxLen; omega
        case c4 => omega
        intro v' w2 hown2 hgrow2 hfr2
        go_wp2
        refine ⟨⟨k + 1, ps ++ [(f, .slice sa nb cb)], gv'', [], by go_num, hrel.frame hrb hk HS.out hleft hbo hbf hne hbp hown2 hgrow2 (by simpa using hfr2)⟩, by simp [intOf]; omega⟩
      · have HS : Hid (step got' (l.getD k 0) = .fault code) := by rw [← HX.out]; exact hs
        have HS' : Hid (step got' x = .fault code) := hs
        clear hs
        go_wp2_with fail
        refine (take_fault_any rb gv' got' x code wr hrel.st HS'.out).mono ?_
        rintro e w1 ⟨rfl, gv'', L1, K1, F1, S1, hrd1, hchg1⟩
        obtain ⟨hfr1, hvars1, hch1⟩ := hrel.touch hrb hchg1
        refine leaves_cons (f := 20) (args := #[.pointer (some ⟨w.heap.size + 1, 0, none⟩), .pointer (some ⟨w.heap.size, 0, none⟩)]) (by simp) (by simp [go_sem]) ?_
        refine (clos_panic (w.heap.size + 1) w.heap.size rb code [] w1 hvars1.f (cell_of_one hvars1.r) gv'' L1 K1 F1 S1 0 hrd1 (by omega) (by omega)).mono ?_
        rintro e u' w'' ⟨rfl, rfl, rfl⟩
        have hfc := wiped_fa (c := code) hvars1.f (show w.heap.size + 1 ≠ rb by omega)
        refine ⟨.tuple #[u4, .int .i64 code], ?_, ?_⟩
        · simp [results, Try.results18, go_sem, hfc]
        · exact feed_fault hrel hrb hk HS.out hfr1 hvars1 hrd1 hch1
    · clear hc
      go_wp2
      refine leaves_cons (f := 20) (args := #[.pointer (some ⟨w.heap.size + 1, 0, none⟩), .pointer (some ⟨w.heap.size, 0, none⟩)]) (by simp) (by simp [go_sem]) ?_
      refine (clos_idle (w.heap.size + 1) w.heap.size _).mono ?_
      rintro e u' w'' ⟨rfl, rfl, rfl⟩
      refine ⟨.tuple #[u4, .int .i64 0], ?_, ?_⟩
      · simp [results, Try.results18, go_sem, v1]
      · exact feed_end hrel hrb (by omega)
end Go.Proofs.Ytjccnikmcoidhaa
