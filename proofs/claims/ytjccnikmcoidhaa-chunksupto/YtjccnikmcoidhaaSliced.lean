import Derived.Test.YtjccnikmcoidhaaFeeds
import Derived.Test.YtjccnikmcoidhaaKeepLeaf
set_option linter.unusedVariables false
set_option linter.unusedSimpArgs false
/-
  sluicekeep.sliced: a reader that is fed in pieces.
-/
namespace Go.Proofs.Ytjccnikmcoidhaa
open Go.RowKit

/-- What holds at every round: what is told so far, and what is left. -/
structure SlRel (w wr : World) (all rest : List UInt8) (tv gv : Value) (ps : List (Fr × Value)) (r : Rd) : Prop where
  st : TdS wr w.heap.size (w.heap.size + 1) tv gv ps r
  eq : (Rd.mk [] 0).feed all = (ps.map Prod.fst ++ (r.feed rest).1, (r.feed rest).2)
  bel : Below w.heap.size w wr
  tvf : ∀ j, tv.ownBlock = some j → w.heap.size ≤ j
  gvf : ∀ j, gv.ownBlock = some j → w.heap.size ≤ j
  few : ps.length + rest.length ≤ all.length

theorem SlRel.start (w : World) (all : List UInt8) : SlRel w ((w.alloc (.cells #[.slice none 0 0, .int .i64 0, .bool true] 34)).alloc (.cells #[.slice none 0 0, .int .i64 0, .int .i64 0, .int .i64 0, .int .i64 0, .int .i64 0] 56)) all all (.slice none 0 0) (.slice none 0 0) [] ⟨[], 0⟩ := by
  refine ⟨⟨?_, World.ownsRow_nil _ _ _ _, by simp, ?_, by simp⟩, by simp, ((Below.refl _ _).alloc (Nat.le_refl _) _).alloc (by simp) _, fun j hj => by simp [Value.ownBlock] at hj, fun j hj => by simp [Value.ownBlock] at hj, by simp⟩
  · rw [Below.heap_alloc _ _ _ (by simp)]; exact heap_alloc_new w _
  · have := rd_new (w.alloc (.cells #[.slice none 0 0, .int .i64 0, .bool true] 34))
    simpa using this

theorem SlRel.step {w wr w2 : World} {all a b : List UInt8} {tv gv : Value} {ps : List (Fr × Value)} {r : Rd} (h : SlRel w wr all (a ++ b) tv gv ps r) (hf : Fds wr w2 w.heap.size (w.heap.size + 1) tv gv ps r a) :
    ∃ tv' gv' ps' r', SlRel w w2 all b tv' gv' ps' r' := by
  obtain ⟨tv', gv', ps', h1, h2, h3, h4, h5⟩ := hf
  refine ⟨tv', gv', ps ++ ps', (r.feed a).2, h1, ?_, ?_, ?_, ?_, ?_⟩
  · rw [h.eq, Rd.feed_append, List.map_append, h2, List.append_assoc]
  · refine h.bel.trans ⟨h3.os, h3.tape, h3.output, h3.size, fun j hj => h3.block j (by have := h.bel.size; omega) ?_⟩
    rintro (e | e | e | e)
    · omega
    · have := h.tvf j e; omega
    · omega
    · have := h.gvf j e; omega
  · intro j hj
    rcases h4 j hj with e | e
    · exact h.tvf j e
    · have := h.bel.size; omega
  · intro j hj
    rcases h5 j hj with e | e
    · exact h.gvf j e
    · have := h.bel.size; omega
  · have hl := congrArg List.length h2
    rw [List.length_map] at hl
    have h6 := r.feed_few a
    have h7 := h.few
    rw [List.length_append] at h7 ⊢
    omega

/-- The end of sliced. -/
def Slc (w w' : World) (all : List UInt8) (e : Ending) : Prop :=
  ∃ tv gv ps, e = .returned (.pointer (some ⟨w.heap.size, 0, none⟩)) ∧ TdS w' w.heap.size (w.heap.size + 1) tv gv ps ((Rd.mk [] 0).feed all).2 ∧ ps.map Prod.fst = ((Rd.mk [] 0).feed all).1 ∧ Below w.heap.size w w'

theorem SlRel.done {w wr : World} {all : List UInt8} {tv gv : Value} {ps : List (Fr × Value)} {r : Rd} (h : SlRel w wr all [] tv gv ps r) : Slc w wr all (.returned (.pointer (some ⟨w.heap.size, 0, none⟩))) := by
  have he := h.eq
  rw [Rd.feed_nil, List.append_nil] at he
  exact ⟨tv, gv, ps, rfl, by rw [he]; exact h.st, by rw [he], h.bel⟩

set_option maxHeartbeats 1600000 in
theorem sliced_none (sc : Option Addr) (cc : Nat) (ab off cap : Nat) (all : List UInt8) (w : World) (hb : BytesIn w (.slice (some ⟨ab, off, none⟩) all.length cap) all) (hl : all.length ≤ 268435456) (hab : ab < w.heap.size) :
    Calls Try.prog 6 #[.slice (some ⟨ab, off, none⟩) all.length cap, .slice sc 0 cc] w fun e w' => Slc w w' all e := by
  have H0 := hide (SlRel.start w all)
  have HB := hide hb
  clear hb
  go_enter Try.func6, Try.ntmps6
  go_wp2_with (go_at_call 11; refine (newReader_any _).mono ?_; rintro e w3 ⟨rfl, hw3⟩; subst hw3)
  refine wp_loop_rounds 1 ?_
  rw [rounds_succ]
  go_wp2_with fail
  have hr := H0.out
  refine (feeds_any w.heap.size (w.heap.size + 1) (.slice none 0 0) (.slice none 0 0) _ [] ⟨[], 0⟩ all _ hr.st (HB.out.chg (Chg.of_below (S := fun _ => False) hr.bel) (fun _ _ => id)) hl (by simp) (fun j hj => ⟨by simp [Value.ownBlock] at hj; omega, by simp [Value.ownBlock]⟩)).mono ?_
  rintro e w2 ⟨rfl, hf⟩
  have HR := hide hr
  have HFD := hide hf
  clear hr hf H0 HB
  go_wp2
  go_ret
  obtain ⟨tv', gv', ps', r', h2⟩ := SlRel.step (a := all) (b := []) (by rw [List.append_nil]; exact HR.out) HFD.out
  exact h2.done

/-- Numbers that can be read. -/
def IntsIn (w : World) (cb coff nc : Nat) (z : Nat → Int) : Prop := cb < w.heap.size ∧ ∀ i, i < nc → w.cell? ⟨cb, coff + i, none⟩ = some (.int .i64 (z i)) ∧ (-9223372036854775808 ≤ z i ∧ z i ≤ 9223372036854775807)

/-- A slice of what is left. -/
structure Tail (w : World) (ab off cap : Nat) (rest : List UInt8) : Prop where
  lt : ab < w.heap.size
  cap : rest.length ≤ cap
  cell : ∀ i, i < rest.length → w.cell? ⟨ab, off + i, none⟩ = some (.int .u8 (rest.getD i 0).toNat)

theorem Tail.bytes {w wr : World} {ab off cap : Nat} {rest : List UInt8} (h : Tail w ab off cap rest) (hb : Below w.heap.size w wr) : BytesIn wr (.slice (some ⟨ab, off, none⟩) rest.length cap) rest :=
  Or.inr ⟨ab, off, cap, rfl, Nat.lt_of_lt_of_le h.lt hb.size, h.cap, fun i hi => (hb.cell (p := ⟨ab, off + i, none⟩) h.lt).trans (h.cell i hi)⟩
theorem Tail.take {w : World} {ab off cap n : Nat} {rest : List UInt8} (h : Tail w ab off cap rest) (hn : n ≤ rest.length) : Tail w ab off cap (rest.take n) :=
  ⟨h.lt, by have := h.cap; simp; omega, fun i hi => by
    simp at hi
    rw [h.cell i (by omega)]
    have hi1 : i < n := by omega
    simp [List.getD, hi1]⟩
theorem Tail.drop {w : World} {ab off cap n : Nat} {rest : List UInt8} (h : Tail w ab off cap rest) (hn : n ≤ rest.length) : Tail w ab (off + n) (cap - n) (rest.drop n) :=
  ⟨h.lt, by have := h.cap; simp; omega, fun i hi => by
    simp at hi
    rw [Nat.add_assoc, h.cell (n + i) (by omega)]
    simp [List.getD]⟩
theorem Tail.dropAll {w : World} {ab off n : Nat} {rest : List UInt8} (h : Tail w ab off n rest) (hn : n ≤ rest.length) : Tail w ab off 0 (rest.drop n) :=
  ⟨h.lt, by have := h.cap; simp; omega, fun i hi => by have := h.cap; simp at hi; omega⟩

set_option maxHeartbeats 1600000 in
theorem sliced_cuts (ab off cap cb coff nc cc : Nat) (z : Nat → Int) (all : List UInt8) (w : World) (ht : Tail w ab off cap all) (hl : all.length ≤ 268435456) (hc : IntsIn w cb coff nc z) (hnc : nc ≤ 1073741824) :
    Calls Try.prog 6 #[.slice (some ⟨ab, off, none⟩) all.length cap, .slice (some ⟨cb, coff, none⟩) nc cc] w fun e w' => Slc w w' all e := by
  have H0 := hide (SlRel.start w all)
  have HT := hide ht
  have HC := hide hc
  clear ht hc
  go_enter Try.func6, Try.ntmps6
  go_wp2_with (go_at_call 11; refine (newReader_any _).mono ?_; rintro e w3 ⟨rfl, hw3⟩; subst hw3)
  go_loopw [0, 7] (fun bv i wr => ∃ (k : Nat) (rest : List UInt8) (off' cap' : Nat) (tv gv : Value) (ps : List (Fr × Value)) (r : Rd), k ≤ nc ∧ i = .int .i64 k ∧ bv = .slice (some ⟨ab, off', none⟩) rest.length cap' ∧ Tail w ab off' cap' rest ∧ SlRel w wr all rest tv gv ps r) (fun _ i _ => nc - (intOf i).toNat)
  case atStart => exact ⟨0, all, off, cap, _, _, _, _, Nat.zero_le _, rfl, rfl, HT.out, H0.out⟩
  case round =>
    obtain ⟨k, rest, off', cap', tv, gv, ps, r, hk, rfl, rfl, htl, hsl⟩ := hrel
    have hfew := hsl.few
    have hcapr := htl.cap
    have hal := htl.lt
    by_cases hlt : k < nc ∧ 0 < rest.length
    · obtain ⟨hlt1, hlt2⟩ := hlt
      obtain ⟨hcb, hcc⟩ := HC.out
      obtain ⟨hck, hzk⟩ := hcc k hlt1
      have hck' := (hsl.bel.cell (p := ⟨cb, coff + k, none⟩) hcb).trans hck
      obtain ⟨zk, hzz⟩ : ∃ zk, zk = z k := ⟨_, rfl⟩
      rw [← hzz] at hck' hzk
      have HZ := hide hzk
      have HT' := hide htl
      have HS := hide hsl
      clear hck hcc hzz hzk htl hsl HC
      go_wp2_with fail
      refine (pick_fun zk ((rest.length : Int) + 1) _ (by omega) HZ.out).mono ?_
      rintro e w' ⟨rfl, hw'⟩
      subst hw'
      obtain ⟨b0, b1⟩ := pkI_bounds zk (n := (rest.length : Int) + 1) (by omega)
      obtain ⟨n, hn⟩ := Int.eq_ofNat_of_zero_le b0
      rw [hn] at b1 ⊢
      have hn2 : n ≤ rest.length := by omega
      clear hn b0 b1
      go_wp2_with fail
      have hsl := HS.out
      have htl := HT'.out
      have hbyt := (htl.take hn2).bytes hsl.bel
      have htn : (rest.take n).length = n := by simp; omega
      rw [htn] at hbyt
      have hps : ps.length ≤ 268435456 := by omega
      refine (feeds_any w.heap.size (w.heap.size + 1) tv gv (.slice (some ⟨ab, off', none⟩) n cap') ps r (rest.take n) _ hsl.st hbyt (by omega) hps (fun j hj => ⟨by simp [Value.ownBlock] at hj; omega, fun e => by simp [Value.ownBlock] at hj; have := hsl.gvf j e; omega⟩)).mono ?_
      rintro e w2 ⟨rfl, hf⟩
      obtain ⟨tv', gv', ps', r', h2⟩ := SlRel.step (a := rest.take n) (b := rest.drop n) (by rw [List.take_append_drop]; exact hsl) hf
      have H2 := hide h2
      have HTL := hide htl
      clear hf h2 hsl htl hbyt htn hps HS HT' hck'
      go_wp2
      refine ⟨?_, by simp [intOf]; omega⟩
      have hdl : (rest.drop n).length = rest.length - n := by simp
      by_cases hcn : cap' = n
      · rw [if_pos hcn]
        refine ⟨k + 1, rest.drop n, off', cap' - n, tv', gv', ps', r', by omega, by go_num, by rw [hdl], ?_, H2.out⟩
        have h9 := HTL.out
        rw [hcn] at h9
        rw [hcn, Nat.sub_self]
        exact h9.dropAll hn2
      · rw [if_neg hcn]
        exact ⟨k + 1, rest.drop n, off' + n, cap' - n, tv', gv', ps', r', by omega, by go_num, by rw [hdl], HTL.out.drop hn2, H2.out⟩
    · have HT' := hide htl
      have HS := hide hsl
      clear htl hsl HC
      by_cases hlt1 : k < nc
      · have hz : rest.length = 0 := by omega
        have hz1 : rest.length ≤ 0 := by omega
        clear hz hlt
        go_wp2_with fail
        have hsl := HS.out
        have htl := HT'.out
        have hps : ps.length ≤ 268435456 := by omega
        refine (feeds_any w.heap.size (w.heap.size + 1) tv gv (.slice (some ⟨ab, off', none⟩) rest.length cap') ps r rest _ hsl.st (htl.bytes hsl.bel) (by omega) hps (fun j hj => ⟨by simp [Value.ownBlock] at hj; omega, fun e => by simp [Value.ownBlock] at hj; have := hsl.gvf j e; omega⟩)).mono ?_
        rintro e w2 ⟨rfl, hf⟩
        obtain ⟨tv', gv', ps', r', h2⟩ := SlRel.step (a := rest) (b := []) (by rw [List.append_nil]; exact hsl) hf
        have H2 := hide h2
        clear hf h2 hsl htl hps HS HT'
        go_wp2
        go_ret
        exact H2.out.done
      · clear hlt
        go_wp2_with fail
        have hsl := HS.out
        have htl := HT'.out
        have hps : ps.length ≤ 268435456 := by omega
        refine (feeds_any w.heap.size (w.heap.size + 1) tv gv (.slice (some ⟨ab, off', none⟩) rest.length cap') ps r rest _ hsl.st (htl.bytes hsl.bel) (by omega) hps (fun j hj => ⟨by simp [Value.ownBlock] at hj; omega, fun e => by simp [Value.ownBlock] at hj; have := hsl.gvf j e; omega⟩)).mono ?_
        rintro e w2 ⟨rfl, hf⟩
        obtain ⟨tv', gv', ps', r', h2⟩ := SlRel.step (a := rest) (b := []) (by rw [List.append_nil]; exact hsl) hf
        have H2 := hide h2
        clear hf h2 hsl htl hps HS HT'
        go_wp2
        go_ret
        exact H2.out.done

/-- A list of numbers, as an argument. -/
def IntsArg (w : World) (v : Value) : Prop := (∃ sc cc, v = .slice sc 0 cc) ∨ ∃ cb coff nc cc z, v = .slice (some ⟨cb, coff, none⟩) nc cc ∧ IntsIn w cb coff nc z ∧ nc ≤ 1073741824

theorem IntsArg.below {w w' : World} {v : Value} (h : IntsArg w v) (hb : Below w.heap.size w w') : IntsArg w' v := by
  rcases h with h | ⟨cb, coff, nc, cc, z, rfl, ⟨h1, h2⟩, h3⟩
  · exact Or.inl h
  · exact Or.inr ⟨cb, coff, nc, cc, z, rfl, ⟨Nat.lt_of_lt_of_le h1 hb.size, fun i hi => ⟨(hb.cell (p := ⟨cb, coff + i, none⟩) h1).trans (h2 i hi).1, (h2 i hi).2⟩⟩, h3⟩

theorem sliced_any (ab off cap : Nat) (cv : Value) (all : List UInt8) (w : World) (ht : Tail w ab off cap all) (hl : all.length ≤ 268435456) (hc : IntsArg w cv) :
    Calls Try.prog 6 #[.slice (some ⟨ab, off, none⟩) all.length cap, cv] w fun e w' => Slc w w' all e := by
  rcases hc with ⟨sc, cc, rfl⟩ | ⟨cb, coff, nc, cc, z, rfl, h1, h2⟩
  · exact sliced_none sc cc ab off cap all w (ht.bytes (Below.refl _ _)) hl ht.lt
  · exact sliced_cuts ab off cap cb coff nc cc z all w ht hl h1 h2
end Go.Proofs.Ytjccnikmcoidhaa
