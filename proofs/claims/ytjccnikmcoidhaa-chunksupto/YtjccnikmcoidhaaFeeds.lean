import Derived.Test.YtjccnikmcoidhaaWrote
set_option linter.unusedVariables false
set_option linter.unusedSimpArgs false
/-
  (*sluicekeep.Told).feeds: a reader is fed a piece more, what it tells is gathered.
-/
namespace Go.Proofs.Ytjccnikmcoidhaa
open Go.RowKit

theorem RdT.block {w : World} {rb : Nat} {gv : Value} {r : Rd} (h : RdT w rb gv r) : ∃ L K F S, RdB w rb gv L K F S r.code := by
  rcases h with ⟨h0, h1⟩ | ⟨_, rfl, _, h1⟩
  · obtain ⟨L, K, F, S, h2⟩ := h1.rd
    rw [h0]; exact ⟨L, K, F, S, h2⟩
  · exact ⟨_, _, _, _, h1⟩
theorem RdT.own {w : World} {rb : Nat} {gv : Value} {r : Rd} (h : RdT w rb gv r) : w.ownsRow 0 5 1 gv r.got.length (r.got.map B) := by
  rcases h with ⟨h0, h1⟩ | ⟨_, rfl, h2, h1⟩
  · exact h1.own
  · rw [h2]; exact World.ownsRow_nil _ _ _ _
theorem RdT.chg {S : Nat → Prop} {w w' : World} {rb : Nat} {gv : Value} {r : Rd} (h : RdT w rb gv r) (hc : Chg S w w') (h1 : ¬ S rb) (h2 : ∀ k, gv.ownBlock = some k → ¬ S k) : RdT w' rb gv r := by
  rcases h with ⟨a, b⟩ | ⟨a, b, c, d⟩
  · exact Or.inl ⟨a, b.chg hc h1 h2⟩
  · exact Or.inr ⟨a, b, c, d.chg hc h1⟩

/-- What was told, and the reader. -/
structure TdS (w : World) (tb rb : Nat) (tv gv : Value) (ps : List (Fr × Value)) (r : Rd) : Prop where
  td : w.heap[tb]? = some (.cells #[tv, .int .i64 r.code, .bool true] 34 (0, 0))
  row : w.ownsRow 0 26 4 tv ps.length (cellsOf ps)
  body : ∀ p ∈ ps, w.ownsRow 0 5 1 p.2 p.1.body.length (p.1.body.map B)
  rd : RdT w rb gv r
  apart : ∀ p ∈ ps, ∀ k, p.2.ownBlock = some k → gv.ownBlock ≠ some k

theorem told_block {w : World} {b : Nat} {v0 v1 v2 : Value} (h : w.heap[b]? = some (.cells #[v0, v1, v2] 34 (0, 0))) :
    w.cell? ⟨b, 0, none⟩ = some v0 ∧ w.cell? ⟨b, 1, none⟩ = some v1 ∧ w.cell? ⟨b, 2, none⟩ = some v2 ∧ ∀ o, w.frozen? ⟨b, o, none⟩ = false := by
  refine ⟨?_, ?_, ?_, fun o => by simp [World.frozen?, h]⟩ <;> rw [cell_of_row w b _ _ _ _ h] <;> rfl

theorem feed_few (got l : List UInt8) : (feed got l).1.length ≤ l.length := by
  induction l generalizing got with
  | nil => simp [feed]
  | cons c r ih =>
    simp only [feed]
    split
    · have := ih ‹_›; simp only [List.length_cons]; omega
    · have := ih []; simp only [List.length_cons]; omega
    · simp
theorem Rd.feed_few (r : Rd) (l : List UInt8) : (r.feed l).1.length ≤ l.length := by
  unfold Rd.feed
  split
  · exact Go.Proofs.Ytjccnikmcoidhaa.feed_few _ _
  · simp

theorem oneCell_cells (ps : List (Fr × Value)) (h : ∀ p ∈ ps, ∃ sa n c, p.2 = .slice sa n c) : ∀ u ∈ cellsOf ps, u.oneCell' = true := by
  induction ps with
  | nil => intro u hu; cases hu
  | cons p r ih =>
    intro u hu
    simp only [cellsOf, List.mem_cons] at hu
    rcases hu with rfl | rfl | rfl | rfl | hu
    · rfl
    · rfl
    · rfl
    · obtain ⟨sa, n, c, e⟩ := h p (List.mem_cons_self ..)
      rw [e]; rfl
    · exact ih (fun q hq => h q (List.mem_cons_of_mem _ hq)) u hu

theorem lies_of_owns {w : World} {b e s n : Nat} {v : Value} {xs : List Value} (h : w.ownsRow b e s v n xs) : Lies w v n xs := by
  rcases h.2 with ⟨rfl, h0⟩ | ⟨g, cap, cur, rfl, _, hgg, _⟩
  · have hx : xs = [] := List.eq_nil_of_length_eq_zero (by rw [h.1, h0]; simp)
    exact Or.inl ⟨rfl, h0, hx⟩
  · exact Or.inr ⟨_, _, rfl, h.cells (g := g) rfl⟩

/-- What feeds may touch. -/
abbrev TouchT (tb rb : Nat) (tv gv : Value) : Nat → Prop := fun k => k = tb ∨ tv.ownBlock = some k ∨ Touch rb gv k

/-- The end of feeds. -/
def Fds (w w' : World) (tb rb : Nat) (tv gv : Value) (ps : List (Fr × Value)) (r : Rd) (l : List UInt8) : Prop :=
  ∃ tv' gv' ps', TdS w' tb rb tv' gv' (ps ++ ps') (r.feed l).2 ∧ ps'.map Prod.fst = (r.feed l).1 ∧ Chg (TouchT tb rb tv gv) w w' ∧ (∀ j, tv'.ownBlock = some j → tv.ownBlock = some j ∨ w.heap.size ≤ j) ∧ (∀ j, gv'.ownBlock = some j → gv.ownBlock = some j ∨ w.heap.size ≤ j)

theorem fds_end {w w1 w2 : World} {tb rb : Nat} {tv gv tv' gv' v : Value} {ps ps' : List (Fr × Value)} {r : Rd} {l : List UInt8} (h : TdS w tb rb tv gv ps r) (hps : ps'.map Prod.fst = (r.feed l).1)
    (hfrs : FrsOwn w1 w.heap.size v ps') (hrd : RdT w1 rb gv' (r.feed l).2) (hch : Chg (Touch rb gv) w w1) (hfr : ∀ j, gv'.ownBlock = some j → gv.ownBlock = some j ∨ w.heap.size ≤ j) (hap : ∀ j ∈ bodyBlocks ps', gv'.ownBlock ≠ some j)
    (htd1 : w1.heap[tb]? = some (.cells #[tv, .int .i64 r.code, .bool true] 34 (0, 0))) (hrow1 : w1.ownsRow 0 26 4 tv ps.length (cellsOf ps)) (hbod1 : ∀ p ∈ ps, w1.ownsRow 0 5 1 p.2 p.1.body.length (p.1.body.map B))
    (hown2 : w2.ownsRow 0 26 4 tv' (ps.length + ps'.length) (cellsOf ps ++ cellsOf ps')) (hg : w1.grownBy w2 tv.ownBlock) (hfr2 : tv'.ownBlock = tv.ownBlock ∨ tv'.ownBlock = some w1.heap.size) :
    Fds w ((w2.setCell ⟨tb, 0, none⟩ tv').setCell ⟨tb, 1, none⟩ (.int .i64 (r.feed l).2.code)) tb rb tv gv ps r l := by
  have hc2 : Chg (fun j => tv.ownBlock = some j) w1 w2 := Chg.of_grown hg (fun j hj => hj)
  have htb : tv.ownBlock ≠ some tb := owns_ne hrow1 htd1 (by decide)
  have htd2 : w2.heap[tb]? = some (.cells #[tv, .int .i64 r.code, .bool true] 34 (0, 0)) := by rw [hc2.block tb (lt_of_block htd1) htb]; exact htd1
  have h3 := block_setCell (i := 0) (u := tv') htd2
  have h4 := block_setCell (i := 1) (u := .int .i64 (r.feed l).2.code) h3
  have hc3 : Chg (fun j => j = tb) w2 ((w2.setCell ⟨tb, 0, none⟩ tv').setCell ⟨tb, 1, none⟩ (.int .i64 (r.feed l).2.code)) :=
    ((Chg.refl (fun j => j = tb) w2).setCell (p := ⟨tb, 0, none⟩) (Or.inr rfl) _).setCell (p := ⟨tb, 1, none⟩) (Or.inr rfl) _
  have hc4 : Chg (fun j => j = tb ∨ tv.ownBlock = some j) w1 ((w2.setCell ⟨tb, 0, none⟩ tv').setCell ⟨tb, 1, none⟩ (.int .i64 (r.feed l).2.code)) :=
    Chg.trans (hc2.mono (fun j _ hj => Or.inr hj)) (hc3.mono (fun j _ hj => Or.inr (Or.inl hj)))
  obtain ⟨L, K, F, S, hrb⟩ := hrd.block
  have hsz := hch.size
  refine ⟨tv', gv', ps', ⟨h4, ?_, ?_, hrd.chg hc4 ?_ ?_, ?_⟩, hps, Chg.trans (hch.mono (fun j _ hj => Or.inr (Or.inr hj))) (hc4.mono ?_), ?_, hfr⟩
  · rw [List.length_append, cellsOf_append]
    exact owns_chg hown2 hc3 (fun j hj => by rintro rfl; exact owns_ne hown2 htd2 (by decide) hj)
  · intro p hp
    rcases List.mem_append.1 hp with hp | hp
    · exact owns_chg (hbod1 p hp) hc4 (fun j hj => by
        rintro (rfl | e)
        · exact owns_ne (hbod1 p hp) htd1 (by decide) hj
        · exact rows_ne hrow1 (hbod1 p hp) (by decide) e hj)
    · exact owns_base (owns_chg (hfrs.body p hp) hc4 (fun j hj => by
        rintro (rfl | e)
        · exact owns_ne (hfrs.body p hp) htd1 (by decide) hj
        · exact rows_ne hrow1 (hfrs.body p hp) (by decide) e hj)) (fun _ _ => Nat.zero_le _)
  · rintro (e | e)
    · subst e
      unfold RdB at hrb
      rw [htd1] at hrb
      simp at hrb
    · exact owns_ne hrow1 hrb (by decide) e
  · rintro j hj (rfl | e)
    · exact owns_ne hrd.own htd1 (by decide) hj
    · exact rows_ne hrow1 hrd.own (by decide) e hj
  · intro p hp j hj e
    rcases List.mem_append.1 hp with hp | hp
    · rcases hfr j e with a | a
      · exact h.apart p hp j hj a
      · have := owns_lt (h.body p hp) hj; omega
    · exact hap j (mem_bodyBlocks.2 ⟨p, hp, hj⟩) e
  · rintro j _ (e | e)
    · exact Or.inr (Or.inl e)
    · exact Or.inr (Or.inr (Or.inl e))
  · intro j hj
    rcases hfr2 with e | e
    · rw [e] at hj; exact Or.inl hj
    · rw [e] at hj; simp at hj; exact Or.inr (by omega)

set_option maxHeartbeats 1600000 in
theorem feeds_any (tb rb : Nat) (tv gv bv : Value) (ps : List (Fr × Value)) (r : Rd) (l : List UInt8) (w : World) (h : TdS w tb rb tv gv ps r) (hb : BytesIn w bv l) (hl : l.length ≤ 268435456) (hpl : ps.length ≤ 268435456)
    (hne : ∀ k, bv.ownBlock = some k → k ≠ rb ∧ gv.ownBlock ≠ some k) :
    Calls Try.prog 12 #[.pointer (some ⟨tb, 0, none⟩), .pointer (some ⟨rb, 0, none⟩), bv] w fun e w' => e = .returned (.tuple #[]) ∧ Fds w w' tb rb tv gv ps r l := by
  obtain ⟨i0, hi, hz0, hz1, hz2⟩ := info_parts Try.info26
  go_enter Try.func12, Try.ntmps12
  go_wp2_with fail
  refine (feed_any rb gv bv r l w h.rd hb hl hne).mono ?_
  rintro e w1 ⟨v, ps', gv', rfl, hps, hfrs, hrd, hch, hfr, hap⟩
  obtain ⟨L, K, F, S, hrb⟩ := h.rd.block
  have htd1 : w1.heap[tb]? = some (.cells #[tv, .int .i64 r.code, .bool true] 34 (0, 0)) := by
    rw [hch.block tb (lt_of_block h.td)]
    · exact h.td
    · rintro (e | e)
      · subst e; unfold RdB at hrb; rw [h.td] at hrb; simp at hrb
      · exact owns_ne h.rd.own h.td (by decide) e
  have hrow1 := owns_chg h.row hch (fun j hj => by
    rintro (e | e)
    · subst e; exact owns_ne h.row hrb (by decide) hj
    · exact rows_ne h.row h.rd.own (by decide) hj e)
  have hbod1 : ∀ p ∈ ps, w1.ownsRow 0 5 1 p.2 p.1.body.length (p.1.body.map B) := fun p hp => owns_chg (h.body p hp) hch (fun j hj => by
    rintro (e | e)
    · subst e; exact owns_ne (h.body p hp) hrb (by decide) hj
    · exact h.apart p hp j hj e)
  obtain ⟨t0, t1, t2, tf⟩ := told_block htd1
  have tf0 := tf 0
  have tf1 := tf 1
  have htlt := lt_of_block htd1
  have hpl' : ps'.length ≤ l.length := by
    have := congrArg List.length hps
    rw [List.length_map] at this
    rw [this]; exact r.feed_few l
  obtain ⟨sv, nv, cv, hv⟩ := slice_of_owns hfrs.row
  subst hv
  have hnv : nv = ps'.length := by
    rcases hfrs.row.2 with ⟨hh, h0⟩ | ⟨_, _, _, hh, _⟩
    · simp only [Value.slice.injEq] at hh; omega
    · simp only [Value.slice.injEq] at hh; exact hh.2.1
  have fin : ∀ {tv' : Value} {w2 : World}, w2.ownsRow 0 26 4 tv' (ps.length + ps'.length) (cellsOf ps ++ cellsOf ps') → w1.grownBy w2 tv.ownBlock → (tv'.ownBlock = tv.ownBlock ∨ tv'.ownBlock = some w1.heap.size) →
      Fds w ((w2.setCell ⟨tb, 0, none⟩ tv').setCell ⟨tb, 1, none⟩ (.int .i64 (r.feed l).2.code)) tb rb tv gv ps r l := fun a b c => fds_end h hps hfrs hrd hch hfr hap htd1 hrow1 hbod1 a b c
  have hlies : Lies w1 (.slice sv nv cv) ps'.length (cellsOf ps') := lies_of_owns hfrs.row
  have hone : ∀ u ∈ cellsOf ps', u.oneCell' = true := oneCell_cells ps' (fun p hp => slice_of_owns (hfrs.body p hp))
  have htb : tv.ownBlock ≠ some tb := owns_ne hrow1 htd1 (by decide)
  have hdead : ((r.code != 0) = false) ∨ ((r.code != 0) = true ∧ nv = 0 ∧ ((r.feed l).2.code != r.code) = false) := by
    by_cases hz : r.code = 0
    · exact Or.inl (by simp [hz])
    · refine Or.inr ⟨by simp [hz], ?_, by rw [Rd.feed_dead hz]; simp⟩
      rw [Rd.feed_dead hz] at hps
      have := congrArg List.length hps
      simp at this
      rw [hnv, this]; rfl
  have HF : Hid (∀ {tv' : Value} {w2 : World}, w2.ownsRow 0 26 4 tv' (ps.length + ps'.length) (cellsOf ps ++ cellsOf ps') → w1.grownBy w2 tv.ownBlock → (tv'.ownBlock = tv.ownBlock ∨ tv'.ownBlock = some w1.heap.size) →
      Fds w ((w2.setCell ⟨tb, 0, none⟩ tv').setCell ⟨tb, 1, none⟩ (.int .i64 (r.feed l).2.code)) tb rb tv gv ps r l) := fin
  have HL := hide hlies
  have HO := hide hone
  have HT := hide htb
  have HV := hide hnv
  have HTD := hide htd1
  clear fin hlies hone htb hnv tf hps hfrs hrd hch hfr hap hbod1 htd1 hrb hne hb h
  rcases hdead with hd1 | ⟨hd1, hd2, hd3⟩
  · go_wp2_with (at_builtin; refine wpList_app _ rfl (.tmp 39) (.tmp 40) 22 rfl 26 i0 (.agg #[.int .i64 0, .int .i64 0, .int .i64 0, .slice none 0 0]) 4 48 Try.underlying22 hi hz0 hz1 hz2 rfl (by decide) _ _ _ rfl hrow1 (.slice sv nv cv) ps'.length (cellsOf ps') rfl (cellsOf_length _) HL.out HO.out ?c1 ?c2 ?_)
    case c1 => unfold maxLen; omega
    case c2 => omega
    intro v' w2 hown2 hg2 hfr2
    obtain ⟨a2, n2, c2, rfl⟩ := slice_of_owns hown2
    have htd2 : w2.heap[tb]? = some (.cells #[tv, .int .i64 r.code, .bool true] 34 (0, 0)) := by rw [hg2.block tb htlt (fun e => HT.out e.symm)]; exact HTD.out
    have HF2 := hide (HF.out hown2 hg2 hfr2)
    obtain ⟨s0, s1, s2, sf⟩ := told_block htd2
    have sf0 := sf 0
    have sf1 := sf 1
    clear t0 t1 t2 tf0 tf1 sf htd2 hown2 hg2 hfr2
    go_wp2
    exact bodyPost_end (results_none rfl _ _ _) rfl ⟨rfl, HF2.out⟩
  · subst hd2
    go_wp2_with (at_builtin; refine wpList_app _ rfl (.tmp 39) (.tmp 40) 22 rfl 26 i0 (.agg #[.int .i64 0, .int .i64 0, .int .i64 0, .slice none 0 0]) 4 48 Try.underlying22 hi hz0 hz1 hz2 rfl (by decide) _ _ _ rfl hrow1 (.slice sv 0 cv) ps'.length (cellsOf ps') rfl (cellsOf_length _) HL.out HO.out ?c3 ?c4 ?_)
    case c3 => unfold maxLen; omega
    case c4 => omega
    intro v' w2 hown2 hg2 hfr2
    obtain ⟨a2, n2, c2, rfl⟩ := slice_of_owns hown2
    have htd2 : w2.heap[tb]? = some (.cells #[tv, .int .i64 r.code, .bool true] 34 (0, 0)) := by rw [hg2.block tb htlt (fun e => HT.out e.symm)]; exact HTD.out
    have HF2 := hide (HF.out hown2 hg2 hfr2)
    obtain ⟨s0, s1, s2, sf⟩ := told_block htd2
    have sf0 := sf 0
    have sf1 := sf 1
    clear t0 t1 t2 tf0 tf1 sf htd2 hown2 hg2 hfr2
    go_wp2
    exact bodyPost_end (results_none rfl _ _ _) rfl ⟨rfl, HF2.out⟩
end Go.Proofs.Ytjccnikmcoidhaa
