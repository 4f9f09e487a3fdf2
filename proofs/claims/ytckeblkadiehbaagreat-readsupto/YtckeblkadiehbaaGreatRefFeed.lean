/-
  (*sluiceref.Reader).Feed.
-/
import Derived.Test.YtckeblkadiehbaaGreatRefFrames
namespace Go.Proofs.YtckeblkadiehbaaGreat
open Go.RowKit

/-- Frames that can be read, from wherever they lie on. -/
structure FrsR (w : World) (v : Value) (ps : List (Fr × Value)) : Prop where
  form : ∃ sv cv, v = .slice sv ps.length cv
  cell : ∀ k (_ : k < ps.length), ∃ g off cv, v = .slice (some ⟨g, off, none⟩) ps.length cv ∧ g < w.heap.size ∧ w.cell? ⟨g, off + k * 4, none⟩ = some (.int .i64 ps[k].1.kind) ∧ w.cell? ⟨g, off + k * 4 + 1, none⟩ = some (.int .i64 ps[k].1.flags) ∧
    w.cell? ⟨g, off + k * 4 + 2, none⟩ = some (.int .i64 ps[k].1.stream) ∧ w.cell? ⟨g, off + k * 4 + 3, none⟩ = some ps[k].2
  body : ∀ p ∈ ps, BytesIn w p.2 p.1.body

theorem FrsR.below {w w' : World} {v : Value} {ps : List (Fr × Value)} (h : FrsR w v ps) (hb : Below w.heap.size w w') : FrsR w' v ps := by
  refine ⟨h.form, fun k hk => ?_, fun p hp => (h.body p hp).chg (Chg.of_below (S := fun _ => False) hb) (fun _ _ => id)⟩
  obtain ⟨g, off, cv, he, hl, a, b, c, d⟩ := h.cell k hk
  exact ⟨g, off, cv, he, Nat.lt_of_lt_of_le hl hb.size, (hb.cell (p := ⟨g, off + k * 4, none⟩) hl).trans a, (hb.cell (p := ⟨g, off + k * 4 + 1, none⟩) hl).trans b, (hb.cell (p := ⟨g, off + k * 4 + 2, none⟩) hl).trans c, (hb.cell (p := ⟨g, off + k * 4 + 3, none⟩) hl).trans d⟩

theorem cellsOf_get {ps : List (Fr × Value)} {k : Nat} (h : k < ps.length) : (cellsOf ps)[k * 4]? = some (.int .i64 ps[k].1.kind) ∧ (cellsOf ps)[k * 4 + 1]? = some (.int .i64 ps[k].1.flags) ∧ (cellsOf ps)[k * 4 + 2]? = some (.int .i64 ps[k].1.stream) ∧ (cellsOf ps)[k * 4 + 3]? = some ps[k].2 := by
  induction ps generalizing k with
  | nil => simp at h
  | cons p r ih =>
    cases k with
    | zero => simp [cellsOf]
    | succ k =>
      simp only [List.length_cons] at h
      have := ih (k := k) (by omega)
      rw [Nat.succ_mul]
      simpa [cellsOf, Nat.add_assoc] using this

/-- .. the part of a list from some place on. -/
theorem frsR_from {w : World} {lo : Nat} {v : Value} {ps : List (Fr × Value)} (h : FrsL w lo v ps) {j cap : Nat} {sv : Option Addr} (hv : v = .slice sv ps.length cap) (hj : j ≤ ps.length) {off : Nat} {su : Option Addr}
    (hs : j < ps.length → ∀ g, sv = some ⟨g, 0, none⟩ → su = some ⟨g, off, none⟩) (ho : j < ps.length → off = j * 4) {cu : Nat} : FrsR w (.slice su (ps.length - j) cu) (ps.drop j) := by
  refine ⟨⟨su, cu, by simp⟩, fun k hk => ?_, fun p hp => bytesIn_of_owns (h.body p (List.mem_of_mem_drop hp)) rfl⟩
  simp only [List.length_drop] at hk
  have hrow := h.row
  rw [hv] at hrow
  obtain ⟨g, hg, _⟩ := slice_some hrow (by omega)
  subst hg
  have hjl : j < ps.length := by omega
  have hl : g < w.heap.size := owns_lt hrow rfl
  obtain ⟨e0, e1, e2, e3⟩ := cellsOf_get (ps := ps) (k := j + k) (by omega)
  have hx := cellsOf_length ps
  have hgk : (ps.drop j)[k]'(by simp; omega) = ps[j + k]'(by omega) := by simp
  refine ⟨g, off, cu, by rw [hs hjl g rfl]; simp, hl, ?_, ?_, ?_, ?_⟩
  · rw [ho hjl, hgk, show j * 4 + k * 4 = (j + k) * 4 by omega, hrow.cellAt _ (by omega)]; exact e0
  · rw [ho hjl, hgk, show j * 4 + k * 4 + 1 = (j + k) * 4 + 1 by omega, hrow.cellAt _ (by omega)]; exact e1
  · rw [ho hjl, hgk, show j * 4 + k * 4 + 2 = (j + k) * 4 + 2 by omega, hrow.cellAt _ (by omega)]; exact e2
  · rw [ho hjl, hgk, show j * 4 + k * 4 + 3 = (j + k) * 4 + 3 by omega, hrow.cellAt _ (by omega)]; exact e3
theorem frsR_all {w : World} {lo : Nat} {v : Value} {ps : List (Fr × Value)} (h : FrsL w lo v ps) : FrsR w v ps := by
  obtain ⟨sv, cv, rfl⟩ := slice_len h.row
  have := frsR_from h rfl (Nat.zero_le _) (off := 0) (su := sv) (fun _ g hg => hg) (fun _ => by simp) (cu := cv)
  simpa using this

/-- The document's reader. -/
structure RfS (w : World) (pb : Nat) (av : Value) (all : List UInt8) : Prop where
  blk : w.heap[pb]? = some (.cells #[av, .int .i64 (feed [] all).1.length, .int .i64 (feed [] all).2.code] 96 (0, 0))
  row : w.ownsRow 0 5 1 av all.length (all.map B)

theorem RfS.chg {S : Nat → Prop} {w w' : World} {pb : Nat} {av : Value} {all : List UInt8} (h : RfS w pb av all) (hc : Chg S w w') (h1 : ¬ S pb) (h2 : ∀ k, av.ownBlock = some k → ¬ S k) : RfS w' pb av all :=
  ⟨by rw [hc.block pb (lt_of_block h.blk) h1]; exact h.blk, owns_chg h.row hc h2⟩

/-- The end of the document's Feed. -/
def RFed (w w' : World) (pb : Nat) (av : Value) (all l : List UInt8) (e : Ending) : Prop :=
  ∃ mv ps av' all', e = .returned (.tuple #[mv, .int .i64 ((feed [] all).2.feed l).2.code]) ∧ ps.map Prod.fst = ((feed [] all).2.feed l).1 ∧ FrsR w' mv ps ∧ RfS w' pb av' all' ∧ (feed [] all').2 = ((feed [] all).2.feed l).2 ∧ all'.length ≤ all.length + l.length ∧
    Chg (fun j => j = pb ∨ av.ownBlock = some j) w w' ∧ (∀ j, av'.ownBlock = some j → av.ownBlock = some j ∨ w.heap.size ≤ j)

theorem read_block {w : World} {b : Nat} {v0 v1 v2 : Value} {t : TypeId} (h : w.heap[b]? = some (.cells #[v0, v1, v2] t (0, 0))) :
    w.cell? ⟨b, 0, none⟩ = some v0 ∧ w.cell? ⟨b, 1, none⟩ = some v1 ∧ w.cell? ⟨b, 2, none⟩ = some v2 ∧ ∀ o, w.frozen? ⟨b, o, none⟩ = false := by
  refine ⟨?_, ?_, ?_, fun o => by simp [World.frozen?, h]⟩ <;> rw [cell_of_row w b _ _ _ _ h] <;> rfl

theorem rfed_dead {w w' : World} {pb : Nat} {av : Value} {all l : List UInt8} (h : RfS w pb av all) (hc : (feed [] all).2.code ≠ 0) (hb : Chg (fun _ => False) w w') : RFed w w' pb av all l (.returned (.tuple #[.slice none 0 0, .int .i64 (feed [] all).2.code])) := by
  have hd := Rd.feed_dead hc l
  refine ⟨.slice none 0 0, [], av, all, by rw [hd], by rw [hd]; rfl, ⟨⟨none, 0, rfl⟩, fun k hk => by simp at hk, by simp⟩, h.chg hb id (fun _ _ => id), by rw [hd], by omega, hb.mono (fun _ _ => False.elim), fun j hj => Or.inl hj⟩

set_option maxRecDepth 100000 in
set_option maxHeartbeats 6400000 in
theorem rFeed_dead (pb : Nat) (av bv : Value) (all l : List UInt8) (w : World) (h : RfS w pb av all) (hc : (feed [] all).2.code ≠ 0) :
    Calls Tryz.prog 30 #[.pointer (some ⟨pb, 0, none⟩), bv] w fun e w' => RFed w w' pb av all l e := by
  obtain ⟨c0, c1, c2, -⟩ := read_block h.blk
  have HE := fun (w' : World) => rfed_dead (w' := w') (l := l) h hc
  have HH := hide HE
  generalize (feed [] all).2.code = code at c2 hc HH
  have hcode : (code != 0) = true := by simpa using hc
  clear HE h hc
  go_enter Tryz.func30, Tryz.ntmps30
  go_wp2
  go_region
  all_goals go_wp2
  all_goals go_ret2
  all_goals exact HH.out _ ((Chg.refl _ _).drew)

set_option maxRecDepth 100000 in
set_option maxHeartbeats 6400000 in
theorem rFeed_live (pb : Nat) (av : Value) (sb : Option Addr) (nb cb : Nat) (all l : List UInt8) (w : World) (h : RfS w pb av all) (hc : (feed [] all).2.code = 0) (hl : Lies w (.slice sb nb cb) l.length (l.map B)) (hn : all.length + l.length ≤ 4294967296) :
    Calls Tryz.prog 30 #[.pointer (some ⟨pb, 0, none⟩), .slice sb nb cb] w fun e w' => RFed w w' pb av all l e := by
  obtain ⟨i0, hi, hz0, hz1, hz2⟩ := info_parts Tryz.info5
  have hblk := h.blk
  rw [hc] at hblk
  have hrow := h.row
  obtain ⟨sa, ca, rfl⟩ := slice_len hrow
  have HH := hide h
  have HC := hide hc
  have HL := hide hl
  obtain ⟨told, htold⟩ : ∃ t, t = (feed [] all).1.length := ⟨_, rfl⟩
  rw [← htold] at hblk
  have HT := hide htold
  have HBLK := hide hblk
  have HROW := hide hrow
  obtain ⟨c0, c1, c2, cf⟩ := read_block hblk
  have hpb := lt_of_block hblk
  clear h hc hl htold hblk hrow cf
  go_enter Tryz.func30, Tryz.ntmps30
  go_wp2_with (at_builtin; refine wpList_app _ rfl (.tmp 22) (.tmp 23) 54 rfl 5 i0 (.int .u8 0) 1 1 Tryz.underlying54 hi hz0 hz1 hz2 rfl (by decide) _ _ _ rfl HROW.out _ l.length (l.map B) rfl ?d1 HL.out ?d2 ?d3 ?d4 ?_)
  case d1 => simp
  case d2 =>
    intro v hv
    obtain ⟨x, _, rfl⟩ := List.mem_map.1 hv
    rfl
  case d3 => unfold maxLen; omega
  case d4 => omega
  intro v1 w1 hown1 hg1 hfr1
  obtain ⟨s1, k1, rfl⟩ := slice_len hown1
  have hb1 := kept_block HROW.out hg1 HBLK.out (by decide)
  obtain ⟨e0, e1, e2, ef⟩ := read_block hb1
  have ef0 := ef 0
  have ef1 := ef 1
  have ef2 := ef 2
  have hch1 : Chg (fun j => (Value.slice sa all.length ca).ownBlock = some j) w w1 := Chg.of_grown hg1 (fun j hj => hj)
  rw [← List.map_append] at hown1
  have HOWN := hide hown1
  have HB1 := hide hb1
  have HCH1 := hide hch1
  have HFR1 := hide hfr1
  clear hown1 hg1 hb1 hch1 hfr1 ef c0 c1 c2
  go_wp2_with fail
  obtain ⟨w2, hw2⟩ : ∃ w2, w2 = w1.setCell ⟨pb, 0, none⟩ (.slice s1 (all.length + l.length) k1) := ⟨_, rfl⟩
  rw [← hw2]
  have hset : Chg (fun j => j = pb) w1 w2 := by rw [hw2]; exact (Chg.refl (fun j => j = pb) w1).setCell (p := ⟨pb, 0, none⟩) (Or.inr rfl) _
  have hb2 : w2.heap[pb]? = some (.cells #[.slice s1 (all.length + l.length) k1, .int .i64 told, .int .i64 0] 96 (0, 0)) := by rw [hw2]; exact block_setCell HB1.out
  have hown2 : w2.ownsRow 0 5 1 (.slice s1 (all.length + l.length) k1) (all.length + l.length) ((all ++ l).map B) := owns_chg HOWN.out hset (fun j hj e => by subst e; exact owns_ne HOWN.out HB1.out (by decide) hj)
  have HSET := hide hset
  have HB2 := hide hb2
  have HOWN2 := hide hown2
  clear hw2 hset hb2 hown2 e0 e1 e2 ef0 ef1 ef2
  have hfa := rFrames_any s1 k1 (all ++ l) w2 (by have h := bytesIn_of_owns HOWN2.out (by simp); simpa using h) (by simp; omega)
  have eln : (all ++ l).length = all.length + l.length := by simp
  rw [eln] at hfa
  clear eln
  refine hfa.mono ?_
  rintro e w3 ⟨fv, ps, rfl, hps, hfl, hpl, hb3⟩
  clear hfa
  have HB3 := hide hb3
  have hblk3 := told_kept' HB2.out hb3
  obtain ⟨sf, cf, rfl⟩ := slice_len hfl.row
  have hcap : ps.length ≤ cf ∨ (sf = none ∧ ps.length = 0 ∧ cf = 0) := by
    rcases hfl.row.2 with ⟨h0, h1⟩ | ⟨g, cap, cur, h0, _, _, hle, _⟩
    · simp only [Value.slice.injEq] at h0
      exact Or.inr ⟨h0.1, h0.2.1, h0.2.2⟩
    · simp only [Value.slice.injEq] at h0
      exact Or.inl (by omega)
  have hfe : feed [] (all ++ l) = ((feed [] all).1 ++ ((feed [] all).2.feed l).1, ((feed [] all).2.feed l).2) := feed_append [] all l
  have htp : told ≤ ps.length := by
    have h1 : (ps.map Prod.fst).length = told + ((feed [] all).2.feed l).1.length := by rw [hps, hfe, HT.out]; simp
    rw [List.length_map] at h1
    omega
  have hcf : told ≤ cf := by omega
  obtain ⟨code, hcode⟩ : ∃ c, c = (feed [] (all ++ l)).2.code := ⟨_, rfl⟩
  rw [← hcode]
  obtain ⟨g0, g1, g2, gf⟩ := read_block hblk3
  have gf1 := gf 1
  have gf2 := gf 2
  have HBLK3 := hide hblk3
  have HFL := hide hfl
  have HPS := hide hps
  have HFE := hide hfe
  have HCODE := hide hcode
  have HCAP := hide hcap
  clear hblk3 hfl hps hfe hcode hcap gf hb3
  have HEND : Hid (∀ (su : Option Addr) (cu : Nat), (told < ps.length → ∀ g, sf = some ⟨g, 0, none⟩ → su = some ⟨g, told * 4, none⟩) → RFed w ((w3.setCell ⟨pb, 1, none⟩ (.int .i64 ps.length)).setCell ⟨pb, 2, none⟩ (.int .i64 code)) pb (.slice sa all.length ca) all l (.returned (.tuple #[.slice su (ps.length - told) cu, .int .i64 code]))) := by
    intro su cu hsu
    have hc4 : Chg (fun j => j = pb) w3 ((w3.setCell ⟨pb, 1, none⟩ (.int .i64 ps.length)).setCell ⟨pb, 2, none⟩ (.int .i64 code)) :=
      ((Chg.refl (fun j => j = pb) w3).setCell (p := ⟨pb, 1, none⟩) (Or.inr rfl) _).setCell (p := ⟨pb, 2, none⟩) (Or.inr rfl) _
    have hbk : ((w3.setCell ⟨pb, 1, none⟩ (.int .i64 ps.length)).setCell ⟨pb, 2, none⟩ (.int .i64 code)).heap[pb]? = some (.cells #[.slice s1 (all.length + l.length) k1, .int .i64 ps.length, .int .i64 code] 96 (0, 0)) := block_setCell (block_setCell HBLK3.out)
    have hfl' : FrsL ((w3.setCell ⟨pb, 1, none⟩ (.int .i64 ps.length)).setCell ⟨pb, 2, none⟩ (.int .i64 code)) w2.heap.size (.slice sf ps.length cf) ps :=
      ⟨owns_chg HFL.out.row hc4 (fun j hj e => by subst e; exact owns_ne HFL.out.row HBLK3.out (by decide) hj), fun p hp => owns_chg (HFL.out.body p hp) hc4 (fun j hj e => by subst e; exact owns_ne (HFL.out.body p hp) HBLK3.out (by decide) hj)⟩
    have hown3 := owns_chg HOWN2.out (Chg.of_below (S := fun _ => False) HB3.out) (fun _ _ => id)
    have hown4 := owns_chg hown3 hc4 (fun j hj e => by subst e; exact owns_ne hown3 HBLK3.out (by decide) hj)
    have hnew : (ps.drop told).map Prod.fst = ((feed [] all).2.feed l).1 := by
      rw [List.map_drop, HPS.out, HFE.out, HT.out]
      simp
    refine ⟨.slice su (ps.length - told) cu, ps.drop told, .slice s1 (all.length + l.length) k1, all ++ l, ?_, hnew, frsR_from hfl' rfl htp (off := told * 4) hsu (fun _ => rfl), ⟨?_, ?_⟩, ?_, by simp, ?_, ?_⟩
    · rw [HCODE.out, HFE.out]
    · have hl1 : (feed [] (all ++ l)).1.length = ps.length := by rw [← HPS.out]; simp
      rw [hl1, ← HCODE.out]
      exact hbk
    · have e1 : (all ++ l).length = all.length + l.length := by simp
      rw [e1]
      exact hown4
    · rw [HFE.out]
    · have t1 : Chg (fun j => j = pb ∨ (Value.slice sa all.length ca).ownBlock = some j) w w1 := HCH1.out.mono (fun j _ hj => Or.inr hj)
      have t2 := t1.trans (HSET.out.mono (fun j _ hj => Or.inr (Or.inl hj)))
      exact (t2.then_below HB3.out).trans (hc4.mono (fun j _ hj => Or.inr (Or.inl hj)))
    · intro j hj
      rcases HFR1.out with e | e
      · rw [e] at hj; exact Or.inl hj
      · rw [e] at hj; simp at hj; exact Or.inr (by omega)
  clear HFL HPS HFE HCODE HB3 HOWN2 HSET HCH1 HFR1
  go_wp2
  all_goals go_ret2
  · refine HEND.out _ _ fun hlt => ?_
    exact absurd HCAP.out (by omega)
  · refine HEND.out _ _ fun _ g hg => ?_
    subst hg
    show some ((⟨g, 0, none⟩ : Addr).add (told * 4)) = _
    rw [addr_add, Nat.zero_add]

/-- P5's call of the document. -/
theorem rFeed_any (pb : Nat) (av : Value) (sb : Option Addr) (nb cb : Nat) (all l : List UInt8) (w : World) (h : RfS w pb av all) (hl : Lies w (.slice sb nb cb) l.length (l.map B)) (hn : all.length + l.length ≤ 4294967296) :
    Calls Tryz.prog 30 #[.pointer (some ⟨pb, 0, none⟩), .slice sb nb cb] w fun e w' => RFed w w' pb av all l e := by
  by_cases hc : (feed [] all).2.code = 0
  · exact rFeed_live pb av sb nb cb all l w h hc hl hn
  · exact rFeed_dead pb av _ all l w h hc
end Go.Proofs.YtckeblkadiehbaaGreat
