import Derived.Test.YtdccldbefdfppaaGreatDoorPGai
import Derived.Test.YtdccldbefdfppaaGreatDoorPGaf
import Derived.Test.YtdccldbefdfppaaGreatDoorPGah
set_option linter.unusedVariables false
set_option linter.unusedSimpArgs false
namespace Go.Proofs.YtdccldbefdfppaaGreatDoor
open Go.RowKit
section
structure FRec where
 l : Value
 a : Value
 b : Value
 c : Value
 m : Int
 len : Nat
structure FamF (w : World) (r : FRec) : Prop where
 l : w.ownsRow 0 48 4 r.l r.len (fillF r.m r.len)
 a : w.ownsRow 0 48 4 r.a (r.len + 1) (fillF r.m (r.len + 1))
 b : w.ownsRow 0 48 4 r.b (r.len + 2) (fillF r.m (r.len + 2))
 c : w.ownsRow 0 48 4 r.c (r.len + 3) (fillF r.m (r.len + 3))
theorem FamF.chg {S : Nat → Prop} {w w' : World} {r : FRec} (h : FamF w r) (hc : Chg S w w') (hs : ∀ v ∈ [r.l, r.a, r.b, r.c], ∀ k, v.ownBlock = some k → ¬ S k) : FamF w' r :=
 ⟨owns_chg h.l hc (hs _ (by simp)), owns_chg h.a hc (hs _ (by simp)), owns_chg h.b hc (hs _ (by simp)), owns_chg h.c hc (hs _ (by simp))⟩
end
section
theorem below_of_chg {S : Nat → Prop} {W0 w w' : World} (h : Below W0.heap.size W0 w) (hc : Chg S w w') (hs : ∀ j, S j → W0.heap.size ≤ j) : Below W0.heap.size W0 w' :=
 ⟨hc.os.trans h.os, hc.tape.trans h.tape, hc.output.trans h.output, Nat.le_trans h.size hc.size, fun k hk => by
  rw [hc.block k (Nat.lt_of_lt_of_le hk h.size) (fun e => absurd (hs k e) (Nat.not_le.2 hk))]; exact h.block k hk⟩
end
section
def cutN (n : Int) (len : Nat) : Nat := (max 0 (min n len)).toNat
theorem cutN_le (n : Int) (len : Nat) : cutN n len ≤ len := by unfold cutN; omega
structure CutOff (w w' : World) (pb po : Nat) (v v' : Value) (l : List UInt8) (k : Nat) (e : Ending) : Prop where
 eq : ∃ s, e = .returned (.slice s k k) ∧ BytesIn w' (.slice s k k) (l.take k) ∧ ∀ j, (Value.slice s k k).ownBlock = some j → v.ownBlock = some j
 step : ∃ w2, w' = w2.setCell ⟨pb, po, none⟩ v' ∧ Below w.heap.size w w2 ∧ w2.ownsRow w.heap.size 5 1 v' (l.length - k) ((l.drop k).map B)
theorem cut_first {w : World} {bb off cr pb po k : Nat} {l : List UInt8} {u : Value} (hbx : BytesIn w (.slice (some ⟨bb, off, none⟩) l.length cr) l) (hne : (Value.slice (some ⟨bb, off, none⟩) l.length cr).ownBlock ≠ some pb) (hkl : k ≤ l.length) : BytesIn (w.setCell ⟨pb, po, none⟩ u) (.slice (some ⟨bb, off, none⟩) k k) (l.take k) := by
 have hset : Chg (fun j => j = pb) w (w.setCell ⟨pb, po, none⟩ u) := chg_set (Chg.refl _ _) rfl
 have hby := hbx.chg hset (fun j hj e => hne (by rw [hj, e]))
 rcases hby with ⟨e1, _⟩ | ⟨b1, o1, c1, e1, e2, e3, e4⟩
 ·simp at e1
 ·simp only [Value.slice.injEq, Option.some.injEq, Addr.mk.injEq] at e1
  obtain ⟨⟨rfl, rfl, -⟩, -, rfl⟩ := e1
  refine Or.inr ⟨bb, off, k, by rw [List.length_take, Nat.min_eq_left hkl], e2, by rw [List.length_take]; omega, fun i hi => ?_⟩
  rw [List.length_take] at hi
  rw [e4 i (by omega)]
  simp [List.getD, List.getElem?_take, show i < k by omega]
set_option maxRecDepth 100000 in
set_option maxHeartbeats 1600000 in
theorem ecut_any (pb po : Nat) (v : Value) (l : List UInt8) (n : Int) (w : World) (hc : w.cell? ⟨pb, po, none⟩ = some v) (hf : w.frozen? ⟨pb, po, none⟩ = false) (hpb : pb < w.heap.size) (hrow : w.ownsRow 0 5 1 v l.length (l.map B)) (hne : v.ownBlock ≠ some pb) (hl : l.length ≤ 1073741824) :
  Calls Tryz.prog 64 #[.pointer (some ⟨pb, po, none⟩), .int .i64 n] w fun e w' => ∃ v', CutOff w w' pb po v v' l (cutN n l.length) e := by
 obtain ⟨i0, hi, hz0, hz1, hz2⟩ := info_parts Tryz.info5
 obtain ⟨sr, cr, hv⟩ := slice_len hrow
 subst hv
 obtain ⟨k, hk⟩ : ∃ k, k = cutN n l.length := ⟨_, rfl⟩
 have hkl : k ≤ l.length := by rw [hk]; exact cutN_le _ _
 have hki : max 0 (min n (l.length : Int)) = (k : Int) := by rw [hk]; unfold cutN; omega
 rw [← hk]
 have hby := bytesIn_of_owns hrow rfl
 clear hk
 rcases hby with ⟨h1, h2⟩ | ⟨bb, off, cap, h1, h2, h3, h4⟩
 ·simp only [Value.slice.injEq] at h1
  obtain ⟨rfl, _, rfl⟩ := h1
  subst h2
  simp at hkl
  subst hkl
  have HKI : Hid (max 0 (min n 0) = 0) := by show _ = _; omega
  have HNE := hide hne
  clear hrow hki hne
  simp only [List.length_nil] at *
  go_enter Tryz.func64, Tryz.ntmps64
  go_upto_region 2 with fail
  rw [HKI.out]
  go_wp2_with (at_builtin; refine wpList_app _ rfl (.const (.slice none 0 0)) (.tmp 24) 44 rfl 5 i0 (.int .u8 0) 1 1 Tryz.underlying44 hi hz0 hz1 hz2 rfl (by decide) (.slice none 0 0) 0 [] rfl (World.ownsRow_nil _ _ _ _) _ 0 [] rfl rfl (Or.inl ⟨rfl, rfl, rfl⟩) (by simp) (by decide) (by decide) ?_)
  intro v' w2 hown2 hg2 hfr2
  obtain ⟨s2, c2, rfl⟩ := slice_len hown2
  have hb2 : Below w.heap.size w w2 := below_of_chg (Below.refl _ _) (Chg.of_grown (S := fun _ => False) hg2 (fun j hj => by simp [Value.ownBlock] at hj)) (fun _ e => e.elim)
  have c2' : w2.cell? ⟨pb, po, none⟩ = some (.slice none 0 0) := by rw [Below.cell hb2 (p := ⟨pb, po, none⟩) hpb]; exact hc
  have f2' : w2.frozen? ⟨pb, po, none⟩ = false := by rw [Below.frozen hb2 (p := ⟨pb, po, none⟩) hpb]; exact hf
  have HO2 := hide hown2
  have HB2 := hide hb2
  have HF2 := hide hfr2
  clear hown2 hg2 hfr2 hb2
  go_wp2
  go_ret
  refine ⟨_, ⟨⟨none, rfl, Or.inl ⟨rfl, rfl⟩, fun j hj => by simp [Value.ownBlock] at hj⟩, _, rfl, HB2.out, ?_⟩⟩
  exact owns_base HO2.out (fun j hj => by
   rcases HF2.out with e | e
   ·rw [e] at hj; simp [Value.ownBlock] at hj
   ·rw [e] at hj; simp at hj; omega)
 ·simp only [Value.slice.injEq] at h1
  obtain ⟨rfl, _, rfl⟩ := h1
  have HROW := hide hrow
  have HNE := hide hne
  have HKI := hide hki
  have H4 := hide h4
  clear hrow hne hki h4
  by_cases hck : cr = k
  ·obtain rfl : k = l.length := by omega
   subst hck
   have HLI : Hid (Lies w (.slice (some ⟨bb, off, none⟩) 0 0) 0 []) := Or.inr ⟨_, _, rfl, fun j u hu => by simp at hu⟩
   go_enter Tryz.func64, Tryz.ntmps64
   go_upto_region 2 with fail
   rw [HKI.out]
   go_upto_region 3 with fail
   go_wp2_with (at_builtin; refine wpList_app _ rfl (.const (.slice none 0 0)) (.tmp 24) 44 rfl 5 i0 (.int .u8 0) 1 1 Tryz.underlying44 hi hz0 hz1 hz2 rfl (by decide) (.slice none 0 0) 0 [] rfl (World.ownsRow_nil _ _ _ _) _ 0 [] rfl ?c1 HLI.out ?c3 ?c4 ?c5 ?_)
   case c1 => simp
   case c3 => intro u hu; first | (simp at hu; done) | (obtain ⟨x, -, rfl⟩ := List.mem_map.1 hu; rfl)
   case c4 => unfold maxLen; omega
   case c5 => omega
   intro v' w2 hown2 hg2 hfr2
   obtain ⟨s2, c2, rfl⟩ := slice_len hown2
   have hb2 : Below w.heap.size w w2 := below_of_chg (Below.refl _ _) (Chg.of_grown (S := fun _ => False) hg2 (fun j hj => by simp [Value.ownBlock] at hj)) (fun _ e => e.elim)
   have c2' : w2.cell? ⟨pb, po, none⟩ = some (.slice (some ⟨bb, off, none⟩) l.length l.length) := by rw [Below.cell hb2 (p := ⟨pb, po, none⟩) hpb]; exact hc
   have f2' : w2.frozen? ⟨pb, po, none⟩ = false := by rw [Below.frozen hb2 (p := ⟨pb, po, none⟩) hpb]; exact hf
   have HO2 := hide hown2
   have HB2 := hide hb2
   have HF2 := hide hfr2
   clear hown2 hg2 hfr2 hb2
   go_wp2
   go_ret
   refine ⟨_, ⟨⟨some ⟨bb, off, none⟩, rfl, ?_, fun j hj => hj⟩, _, rfl, HB2.out, ?_⟩⟩
   ·have hbx : BytesIn w2 (.slice (some ⟨bb, off, none⟩) l.length l.length) l := (bytesIn_of_owns HROW.out rfl).chg (Chg.of_below (S := fun _ => False) HB2.out) (fun _ _ => id)
    exact cut_first hbx HNE.out (by omega)
   ·have := owns_base (base' := w.heap.size) HO2.out (fun j hj => by
     rcases HF2.out with e | e
     ·rw [e] at hj; simp [Value.ownBlock] at hj
     ·rw [e] at hj; simp at hj; omega)
    simpa using this
  ·skip
   have HLI : Hid (Lies w (.slice (some ⟨bb, off + k, none⟩) (l.length - k) (cr - k)) (l.length - k) ((l.drop k).map B)) := by
    have hb : BytesIn w (.slice (some ⟨bb, off + k, none⟩) (l.length - k) (cr - k)) (l.drop k) := by
     refine Or.inr ⟨bb, off + k, cr - k, by rw [List.length_drop], h2, by rw [List.length_drop]; omega, fun i hi => ?_⟩
     rw [List.length_drop] at hi
     rw [Nat.add_assoc, H4.out (k + i) (by omega)]
     simp [List.getD, List.getElem?_drop]
    have := lies_of_bytesIn hb
    rw [List.length_drop] at this
    exact this
   go_enter Tryz.func64, Tryz.ntmps64
   go_upto_region 2 with fail
   rw [HKI.out]
   go_upto_region 3 with fail
   go_wp2_with (at_builtin; refine wpList_app _ rfl (.const (.slice none 0 0)) (.tmp 24) 44 rfl 5 i0 (.int .u8 0) 1 1 Tryz.underlying44 hi hz0 hz1 hz2 rfl (by decide) (.slice none 0 0) 0 [] rfl (World.ownsRow_nil _ _ _ _) _ (l.length - k) ((l.drop k).map B) rfl ?c1 HLI.out ?c3 ?c4 ?c5 ?_)
   case c1 => simp
   case c3 => intro u hu; first | (simp at hu; done) | (obtain ⟨x, -, rfl⟩ := List.mem_map.1 hu; rfl)
   case c4 => unfold maxLen; omega
   case c5 => omega
   intro v' w2 hown2 hg2 hfr2
   obtain ⟨s2, c2, rfl⟩ := slice_len hown2
   have hb2 : Below w.heap.size w w2 := below_of_chg (Below.refl _ _) (Chg.of_grown (S := fun _ => False) hg2 (fun j hj => by simp [Value.ownBlock] at hj)) (fun _ e => e.elim)
   have c2' : w2.cell? ⟨pb, po, none⟩ = some (.slice (some ⟨bb, off, none⟩) l.length cr) := by rw [Below.cell hb2 (p := ⟨pb, po, none⟩) hpb]; exact hc
   have f2' : w2.frozen? ⟨pb, po, none⟩ = false := by rw [Below.frozen hb2 (p := ⟨pb, po, none⟩) hpb]; exact hf
   have HO2 := hide hown2
   have HB2 := hide hb2
   have HF2 := hide hfr2
   clear hown2 hg2 hfr2 hb2
   go_wp2
   go_ret
   refine ⟨_, ⟨⟨some ⟨bb, off, none⟩, rfl, ?_, fun j hj => hj⟩, _, rfl, HB2.out, ?_⟩⟩
   ·have hbx : BytesIn w2 (.slice (some ⟨bb, off, none⟩) l.length cr) l := (bytesIn_of_owns HROW.out rfl).chg (Chg.of_below (S := fun _ => False) HB2.out) (fun _ _ => id)
    exact cut_first hbx HNE.out (by omega)
   ·have := owns_base (base' := w.heap.size) HO2.out (fun j hj => by
     rcases HF2.out with e | e
     ·rw [e] at hj; simp [Value.ownBlock] at hj
     ·rw [e] at hj; simp at hj; omega)
    simpa using this
end
section
set_option maxRecDepth 100000 in
set_option maxHeartbeats 1600000 in
theorem eRead_reset (eb mb : Nat) (m : EndM) (K : List Str) (s n : Int) (p : Str) (w : World) (h : EnB w eb m) (hm : m.known = .map (some mb)) (hK : KnownS w mb K) (hn : 0 ≤ n) (hf : findK K s = some p) (hr : p.2.reset ≠ 0) :
  Calls Tryz.prog 58 #[.pointer (some ⟨eb, 0, none⟩), .int .i64 s, .int .i64 n] w fun e w' => e = .returned (.tuple #[.slice none 0 0, .bool false, .int .i64 6]) ∧ w' = w := by
 have c22 := h.c22
 rw [hm] at c22
 have hlk := hK.lookup s
 rw [hf] at hlk
 simp only [Option.map_some, ptrO] at hlk
 have hR := isReset_any p.1 p.2 w (hK.st p (findK_mem hf).1)
 have hrb : (p.2.reset == 0) = false := by rw [beq_eq_false_iff_ne]; exact hr
 rw [hrb] at hR
 have HR := hide hR
 obtain ⟨pb, st⟩ := p
 simp only at hlk HR
 clear h hm hK hf hr hR hrb
 go_enter Tryz.func58, Tryz.ntmps58
 go_wp2_with fail
 refine HR.out.mono ?_
 rintro e w' ⟨rfl, hw'⟩
 rw [hw']
 clear hw' w'
 go_wp2
 refine bodyPost_ret (v := .tuple #[.slice none 0 0, .bool false, .int .i64 6]) ?_ rfl ⟨rfl, rfl⟩
 simp [results, Tryz.results58, go_sem]
def StM.taken (s : StM) (k : Nat) (v : Value) : StM := { s with owed := s.owed + k, unread := v }
def EndM.owes (m : EndM) (k : Nat) : EndM := { m with owed := m.owed + k }
structure ReadS (w w' : World) (eb : Nat) (m : EndM) (p : Str) (u : List UInt8) (k : Nat) (v : Value) (e : Ending) : Prop where
 eq : ∃ s, e = .returned (.tuple #[.slice s k k, .bool (p.2.hasAll && (u.length - k == 0)), .int .i64 0]) ∧ BytesIn w' (.slice s k k) (u.take k) ∧ ∀ j, (Value.slice s k k).ownBlock = some j → p.2.unread.ownBlock = some j
 en : EnB w' eb (m.owes k)
 st : StB w' p.1 (p.2.taken k v)
 row : w'.ownsRow w.heap.size 5 1 v (u.length - k) ((u.drop k).map B)
 chg : Chg (fun j => j = eb ∨ j = p.1) w w'
theorem read_end {w w1 : World} {eb pb k nq : Nat} {m : EndM} {st : StM} {u : List UInt8} {v : Value} {s1 : Option Addr} (he : EnB w1 eb m) (hs : StB w1 pb { st with unread := v }) (hc : Chg (fun j => j = pb) w w1) (hby : BytesIn w1 (.slice s1 k k) (u.take k)) (hown : ∀ j, (Value.slice s1 k k).ownBlock = some j → st.unread.ownBlock = some j) (hrow : w1.ownsRow w.heap.size 5 1 v (u.length - k) ((u.drop k).map B)) (hun : ∀ j, st.unread.ownBlock = some j → j ≠ eb ∧ j ≠ pb) (hne : eb ≠ pb) :
  ReadS w ((((w1.setCell ⟨pb, 2, none⟩ (.int .i64 (st.owed + k))).setCell ⟨eb, 6, none⟩ (.int .i64 (m.owed + k)))).drewN nq) eb m (pb, st) u k v (.returned (.tuple #[.slice s1 k k, .bool (st.hasAll && (u.length - k == 0)), .int .i64 0])) := by
 have ca : Chg (fun j => j = pb) w1 (w1.setCell ⟨pb, 2, none⟩ (.int .i64 (st.owed + k))) := chg_set (Chg.refl _ _) rfl
 have cb : Chg (fun j => j = eb) (w1.setCell ⟨pb, 2, none⟩ (.int .i64 (st.owed + k))) ((w1.setCell ⟨pb, 2, none⟩ (.int .i64 (st.owed + k))).setCell ⟨eb, 6, none⟩ (.int .i64 (m.owed + k))) := chg_set (Chg.refl _ _) rfl
 have hd : Below ((w1.setCell ⟨pb, 2, none⟩ (.int .i64 (st.owed + k))).setCell ⟨eb, 6, none⟩ (.int .i64 (m.owed + k))).heap.size ((w1.setCell ⟨pb, 2, none⟩ (.int .i64 (st.owed + k))).setCell ⟨eb, 6, none⟩ (.int .i64 (m.owed + k))) (((w1.setCell ⟨pb, 2, none⟩ (.int .i64 (st.owed + k))).setCell ⟨eb, 6, none⟩ (.int .i64 (m.owed + k))).drewN nq) := bel_drewN (Below.refl _ _)
 have cc : Chg (fun j => j = eb ∨ j = pb) w1 (((w1.setCell ⟨pb, 2, none⟩ (.int .i64 (st.owed + k))).setCell ⟨eb, 6, none⟩ (.int .i64 (m.owed + k))).drewN nq) := ((ca.mono fun j _ e => Or.inr e).trans (cb.mono fun j _ e => Or.inr (Or.inl e))).then_below hd
 have hrl : ∀ j, v.ownBlock = some j → ¬ (j = eb ∨ j = pb) := fun j hj e => by
  have h1 := owns_ne hrow he.blk (by decide)
  have h2 := owns_ne hrow hs.blk (by decide)
  rcases e with e | e
  ·subst e; exact h1 hj
  ·subst e; exact h2 hj
 refine ⟨⟨s1, rfl, hby.chg cc (fun j hj e => ?_), hown⟩, ?_, ?_, owns_chg hrow cc hrl, (hc.mono fun j _ e => Or.inr e).trans (cc.mono fun j _ e => Or.inr e)⟩
 ·have := hun j (hown j hj)
  rcases e with e | e
  ·exact this.1 e
  ·exact this.2 e
 ·have h1 : EnB (w1.setCell ⟨pb, 2, none⟩ (.int .i64 (st.owed + k))) eb m := he.chg ca (fun e => hne e)
  exact (EnB.of (blk_set h1.blk) rfl : EnB ((w1.setCell ⟨pb, 2, none⟩ (.int .i64 (st.owed + k))).setCell ⟨eb, 6, none⟩ (.int .i64 (m.owed + k))) eb (m.owes k)).below hd
 ·have h1 : StB (w1.setCell ⟨pb, 2, none⟩ (.int .i64 (st.owed + k))) pb (st.taken k v) := StB.of (blk_set hs.blk) rfl
  exact (h1.chg cb (fun e => hne e.symm)).below hd
set_option maxRecDepth 100000 in
set_option maxHeartbeats 3200000 in
theorem eRead_ok (eb mb : Nat) (m : EndM) (K : List Str) (s n : Int) (p : Str) (u : List UInt8) (w : World) (h : EnB w eb m) (hm : m.known = .map (some mb)) (hK : KnownS w mb K) (hn : 0 ≤ n) (hf : findK K s = some p) (hr : p.2.reset = 0) (hd : m.fault = 0 ∨ p.2.hasAll = true ∨ 0 < u.length) (hrow : w.ownsRow 0 5 1 p.2.unread u.length (u.map B)) (hu : u.length ≤ 1048576)
  (b1 : -1152921504606846976 ≤ m.owed) (b2 : m.owed ≤ 1152921504606846976) (b3 : -1152921504606846976 ≤ p.2.owed) (b4 : p.2.owed ≤ 1152921504606846976) :
  Calls Tryz.prog 58 #[.pointer (some ⟨eb, 0, none⟩), .int .i64 s, .int .i64 n] w fun e w' => ∃ v, ReadS w w' eb m p u (cutN n u.length) v e := by
 have c22 := h.c22
 rw [hm] at c22
 have hlk := hK.lookup s
 rw [hf] at hlk
 simp only [Option.map_some, ptrO] at hlk
 have hs := hK.st p (findK_mem hf).1
 have hR := isReset_any p.1 p.2 w hs
 have hrb : (p.2.reset == 0) = true := by simp [hr]
 rw [hrb] at hR
 have HR := hide hR
 have HD := hide (isDead_any eb m w h)
 have hne : eb ≠ p.1 := fun e => by
  have h1 := h.blk
  have h2 := hs.blk
  rw [← e, h1] at h2
  simp only [Option.some.injEq, Obj.cells.injEq] at h2
  exact absurd h2.2.1 (by decide)
 have hun : p.2.unread.ownBlock ≠ some p.1 := fun e => owns_ne hrow hs.blk (by decide) e
 have HUN : Hid (∀ j, p.2.unread.ownBlock = some j → j ≠ eb ∧ j ≠ p.1) := fun j hj => ⟨fun e => owns_ne hrow h.blk (by decide) (e ▸ hj), fun e => hun (e ▸ hj)⟩
 have HC := hide (ecut_any p.1 11 p.2.unread u n w hs.c11 (hs.fr 11) hs.lt hrow hun (by omega))
 obtain ⟨sw, cw, hwv⟩ := slice_len hrow
 have s9 := hs.c9
 have s11 := hs.c11
 rw [hwv] at s11
 have H := hide h
 have HS := hide hs
 have hlt := h.lt
 have hslt := hs.lt
 have HNE := hide hne
 have HHD := hide hd
 obtain ⟨pb, st⟩ := p
 simp only at *
 obtain ⟨k, hk⟩ : ∃ k, k = cutN n u.length := ⟨_, rfl⟩
 have hkl : k ≤ u.length := by rw [hk]; exact cutN_le _ _
 rw [← hk] at HC ⊢
 clear h hm hK hf hr hd hR hrb hs hrow hun hwv hk hne
 obtain ⟨fb, hfb⟩ : ∃ fb, fb = (m.fault == 0) := ⟨_, rfl⟩
 rw [← hfb] at HD
 have hd3 : fb = true ∨ (fb = false ∧ st.hasAll = true) ∨ (fb = false ∧ st.hasAll = false ∧ 0 < u.length) := by
  cases hx : fb with
  | true => exact Or.inl rfl
  | false =>
   have hm0 : m.fault ≠ 0 := by rw [hx] at hfb; exact beq_eq_false_iff_ne.1 hfb.symm
   cases hy : st.hasAll with
   | true => exact Or.inr (Or.inl ⟨rfl, rfl⟩)
   | false =>
    rcases HHD.out with e | e | e
    ·exact absurd e hm0
    ·rw [hy] at e; cases e
    ·exact Or.inr (Or.inr ⟨rfl, rfl, e⟩)
 clear hfb HHD
 rcases hd3 with rfl | ⟨rfl, ha⟩ | ⟨rfl, ha, hpos⟩
 ·skip
  go_enter Tryz.func58, Tryz.ntmps58
  go_wp2_with fail
  refine HR.out.mono ?_
  rintro e w' ⟨rfl, hw'⟩
  rw [hw']
  clear hw' w'
  go_wp2_with fail
  refine HD.out.mono ?_
  rintro e w' ⟨rfl, hw'⟩
  rw [hw']
  clear hw' w'
  go_wp2_with fail
  refine HC.out.mono ?_
  rintro e w1 ⟨v, hC⟩
  obtain ⟨s1, rfl, hby, hown⟩ := hC.eq
  obtain ⟨w2, hw1, hb2, hr2⟩ := hC.step
  obtain ⟨sv, cv, hvv⟩ := slice_len hr2
  subst hvv
  have hst1 : StB w1 pb { st with unread := .slice sv (u.length - k) cv } := by rw [hw1]; exact StB.of (blk_set (HS.out.below hb2).blk) rfl
  have hc1 : Chg (fun j => j = pb) w w1 := by rw [hw1]; exact chg_set (Chg.of_below hb2) rfl
  have hen1 : EnB w1 eb m := H.out.chg hc1 HNE.out
  have hrow1 : w1.ownsRow w.heap.size 5 1 (.slice sv (u.length - k) cv) (u.length - k) ((u.drop k).map B) := by
   rw [hw1]
   exact owns_chg hr2 (chg_set (S := fun j => j = pb) (Chg.refl _ _) rfl) (fun j hj e => by have := (hr2.lt j hj).1; omega)
  have t2 := hst1.c2
  have t9 : w1.cell? ⟨pb, 9, none⟩ = some (.bool st.hasAll) := hst1.c9
  have t11 : w1.cell? ⟨pb, 11, none⟩ = some (.slice sv (u.length - k) cv) := hst1.c11
  have g2 := hst1.fr 2
  have t6 := hen1.c6
  have g6 := hen1.fr 6
  have hne1 := HNE.out
  have hne2 : pb ≠ eb := fun e => HNE.out e.symm
  have HST1 := hide hst1
  have HEN1 := hide hen1
  have HC1 := hide hc1
  have HBY := hide hby
  have HOW := hide hown
  have HRW := hide hrow1
  clear hC hw1 hb2 hr2 hst1 hc1 hen1 hrow1 hby hown s9 s11 c22 hlk
  go_wp2_with fail
  have HEND : Hid (∀ nq bb, bb = (st.hasAll && (u.length - k == 0)) → ReadS w ((((w1.setCell ⟨pb, 2, none⟩ (.int .i64 (st.owed + k))).setCell ⟨eb, 6, none⟩ (.int .i64 (m.owed + k)))).drewN nq) eb m (pb, st) u k (.slice sv (u.length - k) cv) (.returned (.tuple #[.slice s1 k k, .bool bb, .int .i64 0]))) := fun nq bb hbb => by
   rw [hbb]; exact read_end HEN1.out HST1.out HC1.out HBY.out HOW.out HRW.out HUN.out HNE.out
  cases hha : st.hasAll <;> rw [hha] at t9
  ·go_quiet (fail)
   go_wp2
   refine bodyPost_ret (v := .tuple #[.slice s1 k k, .bool false, .int .i64 0]) ?_ rfl ⟨_, HEND.out _ _ (by rw [hha]; rfl)⟩
   simp [results, Tryz.results58, go_sem]
  ·go_quiet (fail)
   go_wp2
   refine bodyPost_ret (v := .tuple #[.slice s1 k k, .bool (((u.length - k : Nat) : Int) == 0), .int .i64 0]) ?_ rfl ⟨_, HEND.out _ _ (by rw [hha]; simp only [Bool.true_and]; rw [Bool.eq_iff_iff]; simp)⟩
   simp [results, Tryz.results58, go_sem]
 ·rw [ha] at s9
  go_enter Tryz.func58, Tryz.ntmps58
  go_wp2_with fail
  refine HR.out.mono ?_
  rintro e w' ⟨rfl, hw'⟩
  rw [hw']
  clear hw' w'
  go_wp2_with fail
  refine HD.out.mono ?_
  rintro e w' ⟨rfl, hw'⟩
  rw [hw']
  clear hw' w'
  go_wp2_with fail
  refine HC.out.mono ?_
  rintro e w1 ⟨v, hC⟩
  obtain ⟨s1, rfl, hby, hown⟩ := hC.eq
  obtain ⟨w2, hw1, hb2, hr2⟩ := hC.step
  obtain ⟨sv, cv, hvv⟩ := slice_len hr2
  subst hvv
  have hst1 : StB w1 pb { st with unread := .slice sv (u.length - k) cv } := by rw [hw1]; exact StB.of (blk_set (HS.out.below hb2).blk) rfl
  have hc1 : Chg (fun j => j = pb) w w1 := by rw [hw1]; exact chg_set (Chg.of_below hb2) rfl
  have hen1 : EnB w1 eb m := H.out.chg hc1 HNE.out
  have hrow1 : w1.ownsRow w.heap.size 5 1 (.slice sv (u.length - k) cv) (u.length - k) ((u.drop k).map B) := by
   rw [hw1]
   exact owns_chg hr2 (chg_set (S := fun j => j = pb) (Chg.refl _ _) rfl) (fun j hj e => by have := (hr2.lt j hj).1; omega)
  have t2 := hst1.c2
  have t9 : w1.cell? ⟨pb, 9, none⟩ = some (.bool st.hasAll) := hst1.c9
  have t11 : w1.cell? ⟨pb, 11, none⟩ = some (.slice sv (u.length - k) cv) := hst1.c11
  have g2 := hst1.fr 2
  have t6 := hen1.c6
  have g6 := hen1.fr 6
  have hne1 := HNE.out
  have hne2 : pb ≠ eb := fun e => HNE.out e.symm
  have HST1 := hide hst1
  have HEN1 := hide hen1
  have HC1 := hide hc1
  have HBY := hide hby
  have HOW := hide hown
  have HRW := hide hrow1
  clear hC hw1 hb2 hr2 hst1 hc1 hen1 hrow1 hby hown s9 s11 c22 hlk
  go_wp2_with fail
  have HEND : Hid (∀ nq bb, bb = (st.hasAll && (u.length - k == 0)) → ReadS w ((((w1.setCell ⟨pb, 2, none⟩ (.int .i64 (st.owed + k))).setCell ⟨eb, 6, none⟩ (.int .i64 (m.owed + k)))).drewN nq) eb m (pb, st) u k (.slice sv (u.length - k) cv) (.returned (.tuple #[.slice s1 k k, .bool bb, .int .i64 0]))) := fun nq bb hbb => by
   rw [hbb]; exact read_end HEN1.out HST1.out HC1.out HBY.out HOW.out HRW.out HUN.out HNE.out
  cases hha : st.hasAll <;> rw [hha] at t9
  ·go_quiet (fail)
   go_wp2
   refine bodyPost_ret (v := .tuple #[.slice s1 k k, .bool false, .int .i64 0]) ?_ rfl ⟨_, HEND.out _ _ (by rw [hha]; rfl)⟩
   simp [results, Tryz.results58, go_sem]
  ·go_quiet (fail)
   go_wp2
   refine bodyPost_ret (v := .tuple #[.slice s1 k k, .bool (((u.length - k : Nat) : Int) == 0), .int .i64 0]) ?_ rfl ⟨_, HEND.out _ _ (by rw [hha]; simp only [Bool.true_and]; rw [Bool.eq_iff_iff]; simp)⟩
   simp [results, Tryz.results58, go_sem]
 ·rw [ha] at s9
  have hz0 : ((u.length : Int) == 0) = false := by rw [beq_eq_false_iff_ne]; omega
  go_enter Tryz.func58, Tryz.ntmps58
  go_wp2_with fail
  refine HR.out.mono ?_
  rintro e w' ⟨rfl, hw'⟩
  rw [hw']
  clear hw' w'
  go_wp2_with fail
  refine HD.out.mono ?_
  rintro e w' ⟨rfl, hw'⟩
  rw [hw']
  clear hw' w'
  go_wp2_with fail
  refine HC.out.mono ?_
  rintro e w1 ⟨v, hC⟩
  obtain ⟨s1, rfl, hby, hown⟩ := hC.eq
  obtain ⟨w2, hw1, hb2, hr2⟩ := hC.step
  obtain ⟨sv, cv, hvv⟩ := slice_len hr2
  subst hvv
  have hst1 : StB w1 pb { st with unread := .slice sv (u.length - k) cv } := by rw [hw1]; exact StB.of (blk_set (HS.out.below hb2).blk) rfl
  have hc1 : Chg (fun j => j = pb) w w1 := by rw [hw1]; exact chg_set (Chg.of_below hb2) rfl
  have hen1 : EnB w1 eb m := H.out.chg hc1 HNE.out
  have hrow1 : w1.ownsRow w.heap.size 5 1 (.slice sv (u.length - k) cv) (u.length - k) ((u.drop k).map B) := by
   rw [hw1]
   exact owns_chg hr2 (chg_set (S := fun j => j = pb) (Chg.refl _ _) rfl) (fun j hj e => by have := (hr2.lt j hj).1; omega)
  have t2 := hst1.c2
  have t9 : w1.cell? ⟨pb, 9, none⟩ = some (.bool st.hasAll) := hst1.c9
  have t11 : w1.cell? ⟨pb, 11, none⟩ = some (.slice sv (u.length - k) cv) := hst1.c11
  have g2 := hst1.fr 2
  have t6 := hen1.c6
  have g6 := hen1.fr 6
  have hne1 := HNE.out
  have hne2 : pb ≠ eb := fun e => HNE.out e.symm
  have HST1 := hide hst1
  have HEN1 := hide hen1
  have HC1 := hide hc1
  have HBY := hide hby
  have HOW := hide hown
  have HRW := hide hrow1
  clear hC hw1 hb2 hr2 hst1 hc1 hen1 hrow1 hby hown s9 s11 c22 hlk
  go_wp2_with fail
  have HEND : Hid (∀ nq bb, bb = (st.hasAll && (u.length - k == 0)) → ReadS w ((((w1.setCell ⟨pb, 2, none⟩ (.int .i64 (st.owed + k))).setCell ⟨eb, 6, none⟩ (.int .i64 (m.owed + k)))).drewN nq) eb m (pb, st) u k (.slice sv (u.length - k) cv) (.returned (.tuple #[.slice s1 k k, .bool bb, .int .i64 0]))) := fun nq bb hbb => by
   rw [hbb]; exact read_end HEN1.out HST1.out HC1.out HBY.out HOW.out HRW.out HUN.out HNE.out
  cases hha : st.hasAll <;> rw [hha] at t9
  ·go_quiet (fail)
   go_wp2
   refine bodyPost_ret (v := .tuple #[.slice s1 k k, .bool false, .int .i64 0]) ?_ rfl ⟨_, HEND.out _ _ (by rw [hha]; rfl)⟩
   simp [results, Tryz.results58, go_sem]
  ·go_quiet (fail)
   go_wp2
   refine bodyPost_ret (v := .tuple #[.slice s1 k k, .bool (((u.length - k : Nat) : Int) == 0), .int .i64 0]) ?_ rfl ⟨_, HEND.out _ _ (by rw [hha]; simp only [Bool.true_and]; rw [Bool.eq_iff_iff]; simp)⟩
   simp [results, Tryz.results58, go_sem]
end
section
def StM.dropped (s : StM) (by_ : Int) : StM := { s with reset := by_, unread := .slice none 0 0, waiting := .slice none 0 0 }
structure Dropd (w w' : World) (eb : Nat) (m : EndM) (L : List Str) (k u : Nat) (hk : k < L.length) (by_ : Int) (v : Value) : Prop where
 en : EnB w' eb ((m.owes u).opens v)
 st : StB w' L[k].1 (L[k].2.dropped by_)
 row : w'.ownsRow 0 124 1 v (L.length - 1) (opnCells (L.eraseIdx k))
 same : v.ownBlock = m.opn.ownBlock
 chg : Chg (fun j => j = eb ∨ j = L[k].1 ∨ m.opn.ownBlock = some j) w w'
set_option maxRecDepth 100000 in
set_option maxHeartbeats 1600000 in
theorem ereset_any (eb : Nat) (m : EndM) (L : List Str) (k u : Nat) (by_ : Int) (su : Option Addr) (cu : Nat) (w : World) (h : EnB w eb m) (ho : OpenS w m.opn L) (hL : L.length ≤ 1048576) (hk : k < L.length) (hb : by_ ≠ 0) (hu : L[k].2.unread = .slice su u cu) (hul : u ≤ 1048576) (hnd : ∀ j (h : j < L.length), j ≠ k → L[j].1 ≠ L[k].1) (b1 : -1152921504606846976 ≤ m.owed) (b2 : m.owed ≤ 1152921504606846976) :
  Calls Tryz.prog 134 #[.pointer (some ⟨eb, 0, none⟩), .pointer (some ⟨L[k].1, 0, none⟩), .int .i64 by_] w fun e w' => e = .returned (.tuple #[]) ∧ ∃ v, Dropd w w' eb m L k u hk by_ v := by
 have hs := ho.st _ (List.getElem_mem hk)
 have hne : eb ≠ L[k].1 := fun e => by
  have h1 := h.blk
  have h2 := hs.blk
  rw [← e, h1] at h2
  simp only [Option.some.injEq, Obj.cells.injEq] at h2
  exact absurd h2.2.1 (by decide)
 have hlt := h.lt
 have c6 := h.c6
 have f6 := h.fr 6
 have s10 := hs.c10
 have s11 := hs.c11
 have s12 := hs.c12
 have g10 := hs.fr 10
 have g11 := hs.fr 11
 have g12 := hs.fr 12
 rw [hu] at s11
 have hne1 := hne
 have hne2 : L[k].1 ≠ eb := fun e => hne e.symm
 -- the world in which settle is called
 have HSET : Hid (∀ W, W = ((((w.setCell ⟨L[k].1, 10, none⟩ (.int .i64 by_)).drew).setCell ⟨eb, 6, none⟩ (.int .i64 (m.owed + u))).setCell ⟨L[k].1, 11, none⟩ (.slice none 0 0)).setCell ⟨L[k].1, 12, none⟩ (.slice none 0 0) →
   Calls Tryz.prog 119 #[.pointer (some ⟨eb, 22, none⟩), .pointer (some ⟨L[k].1, 0, none⟩)] W fun e w' => e = .returned (.tuple #[]) ∧ ∃ v, Dropd w w' eb m L k u hk by_ v) := fun W hW => by
  have c1 : Chg (fun j => j = L[k].1) w (w.setCell ⟨L[k].1, 10, none⟩ (.int .i64 by_)) := chg_set (Chg.refl _ _) rfl
  have c2 : Chg (fun j => j = L[k].1) w ((w.setCell ⟨L[k].1, 10, none⟩ (.int .i64 by_)).drew) := c1.then_below ⟨rfl, rfl, rfl, Nat.le_refl _, fun _ _ => rfl⟩
  have e2 : EnB ((w.setCell ⟨L[k].1, 10, none⟩ (.int .i64 by_)).drew) eb m := h.chg c2 hne
  have s2 : StB ((w.setCell ⟨L[k].1, 10, none⟩ (.int .i64 by_)).drew) L[k].1 { L[k].2 with reset := by_ } := (StB.of (blk_set hs.blk) rfl : StB (w.setCell ⟨L[k].1, 10, none⟩ (.int .i64 by_)) L[k].1 { L[k].2 with reset := by_ }).below ⟨rfl, rfl, rfl, Nat.le_refl _, fun _ _ => rfl⟩
  have e3 : EnB (((w.setCell ⟨L[k].1, 10, none⟩ (.int .i64 by_)).drew).setCell ⟨eb, 6, none⟩ (.int .i64 (m.owed + u))) eb (m.owes u) := EnB.of (blk_set e2.blk) rfl
  have c3 : Chg (fun j => j = eb) ((w.setCell ⟨L[k].1, 10, none⟩ (.int .i64 by_)).drew) (((w.setCell ⟨L[k].1, 10, none⟩ (.int .i64 by_)).drew).setCell ⟨eb, 6, none⟩ (.int .i64 (m.owed + u))) := chg_set (Chg.refl _ _) rfl
  have s3 := s2.chg c3 hne2
  have c4 : Chg (fun j => j = L[k].1) (((w.setCell ⟨L[k].1, 10, none⟩ (.int .i64 by_)).drew).setCell ⟨eb, 6, none⟩ (.int .i64 (m.owed + u))) W := by rw [hW]; exact chg_set (chg_set (Chg.refl _ _) rfl) rfl
  have s4 : StB W L[k].1 (L[k].2.dropped by_) := by rw [hW]; exact StB.of (blk_set (blk_set s3.blk)) rfl
  have e4 : EnB W eb (m.owes u) := e3.chg c4 hne
  have cW : Chg (fun j => j = eb ∨ j = L[k].1) w W := ((c2.mono fun j _ e => Or.inr e).trans (c3.mono fun j _ e => Or.inr (Or.inl e))).trans (c4.mono fun j _ e => Or.inr (Or.inr e))
  have hcells : opnCells (L.set k (L[k].1, L[k].2.dropped by_)) = opnCells L := by
   unfold opnCells
   rw [List.map_set]
   have : (L.map fun p => Value.pointer (some ⟨p.1, 0, none⟩))[k]? = some (.pointer (some ⟨L[k].1, 0, none⟩)) := by simp [hk]
   obtain ⟨q1, q2⟩ := List.getElem?_eq_some_iff.1 this
   rw [← q2, List.set_getElem_self]
  have hrowne : ∀ j, m.opn.ownBlock = some j → ¬ (j = eb ∨ j = L[k].1) := fun j hj e => by
   rcases e with e | e
   ·subst e; exact owns_ne ho.row h.blk (by decide) hj
   ·rw [e] at hj; exact owns_ne ho.row hs.blk (by decide) hj
  have oW : OpenS W (m.owes u).opn (L.set k (L[k].1, L[k].2.dropped by_)) := by
   refine ⟨by rw [hcells, List.length_set]; exact owns_chg ho.row cW hrowne, fun p hp => ?_⟩
   obtain ⟨j, hj, hpj⟩ := List.mem_iff_getElem.1 hp
   rw [List.length_set] at hj
   rw [List.getElem_set] at hpj
   split at hpj
   ·rw [← hpj]; exact s4
   ·next hkj =>
    rw [← hpj]
    have hmj := List.getElem_mem hj
    have hjne := hnd j hj (fun e => hkj e.symm)
    have hsj := ho.st _ hmj
    refine hsj.chg cW ?_
    rintro (e | e)
    ·have h1 := h.blk
     have h2 := hsj.blk
     rw [e, h1] at h2
     simp only [Option.some.injEq, Obj.cells.injEq] at h2
     exact absurd h2.2.1 (by decide)
    ·exact hjne e
  have hk' : k < (L.set k (L[k].1, L[k].2.dropped by_)).length := by rw [List.length_set]; exact hk
  have hgk : (L.set k (L[k].1, L[k].2.dropped by_))[k] = (L[k].1, L[k].2.dropped by_) := by simp
  have hset := settle_yes eb (m.owes u) (L.set k (L[k].1, L[k].2.dropped by_)) k W e4 oW (by rw [List.length_set]; exact hL) hk' (by rw [hgk]; simp [StM.closed, StM.dropped, hb]) (fun j hj hjk => by
   rw [hgk, List.getElem_set, if_neg (fun e => hjk e.symm)]
   rw [List.length_set] at hj
   exact hnd j hj hjk)
  rw [hgk] at hset
  refine hset.mono ?_
  rintro e w' ⟨rfl, v, hS⟩
  refine ⟨rfl, v, ⟨hS.en, ?_, ?_, hS.same, ?_⟩⟩
  ·refine s4.chg hS.chg ?_
   rintro (e | e)
   ·exact hne2 e
   ·exact hrowne _ e (Or.inr rfl)
  ·have := hS.row
   rw [List.length_set, List.eraseIdx_set_eq] at this
   exact this
  ·exact (cW.mono fun j _ e => by
    rcases e with e | e
    ·exact Or.inl e
    ·exact Or.inr (Or.inl e)).trans (hS.chg.mono fun j _ e => by
    rcases e with e | e
    ·exact Or.inr (Or.inl e)
    ·exact Or.inr (Or.inr (Or.inr e)))
 have q11 : (w.setCell ⟨L[k].1, 10, none⟩ (.int .i64 by_)).cell? ⟨L[k].1, 11, none⟩ = some (.slice su u cu) := by
  have q := (StB.of (blk_set hs.blk) rfl : StB (w.setCell ⟨L[k].1, 10, none⟩ (.int .i64 by_)) L[k].1 { L[k].2 with reset := by_ }).c11
  rw [q]
  exact congrArg some hu
 generalize hsbq : L[k].1 = sb at *
 clear h ho hs hnd hb hu
 go_enter Tryz.func134, Tryz.ntmps134
 go_upto_region 1 with fail
 have q6 : (w.setCell ⟨sb, 10, none⟩ (.int .i64 by_)).cell? ⟨eb, 6, none⟩ = some (.int .i64 m.owed) := by
  have cq : Chg (fun j => j = sb) w (w.setCell ⟨sb, 10, none⟩ (.int .i64 by_)) := chg_set (Chg.refl _ _) rfl
  rw [cq.cell (p := ⟨eb, 6, none⟩) hlt hne1]
  exact c6
 go_region_law (fail)
 all_goals go_wp2_with fail
 all_goals refine (HSET.out _ rfl).mono ?_
 all_goals rintro e w' ⟨rfl, v, hD⟩
 all_goals have HD := hide hD
 all_goals clear hD
 all_goals go_wp2
 all_goals exact bodyPost_end (results_none rfl _ _ _) rfl ⟨rfl, v, HD.out⟩
end
section
set_option maxRecDepth 100000 in
set_option maxHeartbeats 800000 in
theorem makeData_no (eb : Nat) (m : EndM) (L : List Str) (nw : Str → Nat) (w : World) (h : EnB w eb m) (ho : OpenS w m.opn L) (hL : L.length ≤ 1048576) (hnw : ∀ p ∈ L, p.2.some? (nw p)) (h1 : -1152921504606846976 ≤ m.other) (h2 : m.other ≤ 1152921504606846976) (h3 : ∀ p ∈ L, -1152921504606846976 ≤ p.2.send ∧ p.2.send ≤ 1152921504606846976) (hno : nextS m.lastData (fun p => m.hasD p.2 (nw p)) L none = none) :
  Calls Tryz.prog 90 #[.pointer (some ⟨eb, 0, none⟩)] w fun e w' => e = .returned (.bool false) ∧ Below w.heap.size w w' := by
 have hn := nextToSend_any eb m L nw w h ho hL hnw h1 h2 h3
 rw [hno] at hn
 have HN := hide hn
 clear h ho hnw h3 hno hn
 go_enter Tryz.func90, Tryz.ntmps90
 go_wp2_with fail
 refine HN.out.mono ?_
 rintro e w1 ⟨rfl, hb⟩
 have HB := hide hb
 clear hb
 simp only [ptrO, Option.map_none]
 go_wp2
 go_ret
 exact ⟨rfl, HB.out⟩
def EndM.dueS (m : EndM) (s : StM) : Bool := !s.hasAll && dueB s.owed (m.own + s.receive) m.batch
def StM.granted (s : StM) : StM := { s with receive := s.receive + s.owed, owed := 0 }
def firstDue (m : EndM) : List Str → Option Str
 | [] => none
 | p :: r => if m.dueS p.2 then some p else firstDue m r
def SCred (w w' : World) (eb : Nat) (m : EndM) (l : List UInt8) (o : Option Str) (e : Ending) : Prop := match o with
 | none => e = .returned (.bool false) ∧ Below w.heap.size w w'
 | some p => e = .returned (.bool true) ∧ ∃ v, EnB w' eb { m with out := v } ∧ StB w' p.1 p.2.granted ∧ w'.ownsRow 0 5 1 v (l ++ lay 6 0 p.2.number (four4 p.2.owed.toNat)).length ((l ++ lay 6 0 p.2.number (four4 p.2.owed.toNat)).map B) ∧ Chg (fun j => j = eb ∨ j = p.1 ∨ m.out.ownBlock = some j) w w' ∧ ∀ j, v.ownBlock = some j → m.out.ownBlock = some j ∨ w.heap.size ≤ j
set_option maxRecDepth 100000 in
set_option maxHeartbeats 1600000 in
theorem makeStreamCredit_any (eb : Nat) (m : EndM) (L : List Str) (l : List UInt8) (w : World) (h : EnB w eb m) (hg : m.greets = false) (ho : OpenS w m.opn L) (hL : L.length ≤ 1048576) (hrow : w.ownsRow 0 5 1 m.out l.length (l.map B)) (hl : l.length ≤ 1073741824) (h1 : -1152921504606846976 ≤ m.own) (h2 : m.own ≤ 1152921504606846976)
  (h3 : ∀ p ∈ L, -1152921504606846976 ≤ p.2.receive ∧ p.2.receive ≤ 1152921504606846976 ∧ 0 ≤ p.2.owed ∧ p.2.owed ≤ 4294967295 ∧ 0 ≤ p.2.number ∧ p.2.number ≤ 32767) :
  Calls Tryz.prog 87 #[.pointer (some ⟨eb, 0, none⟩)] w fun e w' => SCred w w' eb m l (firstDue m L) e := by
 obtain ⟨sr, cr, hv⟩ := slice_len ho.row
 have c23 := h.c23
 rw [hv] at c23
 rw [hv] at ho
 have HO := hide ho
 have H := hide h
 have hlt := h.lt
 have HRW : Hid (∀ wx, Below w.heap.size w wx → ∀ p ∈ L, Calls Tryz.prog 67 #[.pointer (some ⟨eb, 0, none⟩), .pointer (some ⟨p.1, 0, none⟩)] wx fun e w' => e = .returned (.int .i64 (m.own + p.2.receive)) ∧ Below wx.heap.size wx w') := fun wx hb p hp => receiveWindow_any eb p.1 m p.2 wx (h.below hb) ((ho.st p hp).below hb) h1 h2 (h3 p hp).1 (h3 p hp).2.1
 -- the credit itself
 have HPC : Hid (∀ wx, Below w.heap.size w wx → ∀ p ∈ L, Calls Tryz.prog 116 #[.pointer (some ⟨eb, 0, none⟩), .int .i64 p.2.number, .pointer (some ⟨p.1, 0, none⟩)] wx fun e w' => e = .returned (.tuple #[]) ∧ SCred w w' eb m l (some p) (.returned (.bool true))) := fun wx hb p hp => by
  obtain ⟨q1, q2, q3, q4, q5, q6⟩ := h3 p hp
  have hs := (ho.st p hp).below hb
  have he := h.below hb
  obtain ⟨n, hn⟩ : ∃ n : Nat, p.2.owed = n := ⟨p.2.owed.toNat, by omega⟩
  have hne : eb ≠ p.1 := fun e => by
   have h1 := he.blk
   have h2 := hs.blk
   rw [← e, h1] at h2
   simp only [Option.some.injEq, Obj.cells.injEq] at h2
   exact absurd h2.2.1 (by decide)
  have hrx := owns_chg hrow (Chg.of_below (S := fun _ => False) hb) (fun _ _ => id)
  have hos : m.out.ownBlock ≠ some p.1 := fun e => owns_ne hrx hs.blk (by decide) e
  have hc : Chg (fun j => j = p.1) wx ((wx.setCell ⟨p.1, 0 + 1, none⟩ (.int .i64 (p.2.receive + n))).setCell ⟨p.1, 0 + 2, none⟩ (.int .i64 0)) := chg_set (chg_set (Chg.refl _ _) rfl) rfl
  have hs1 : StB ((wx.setCell ⟨p.1, 0 + 1, none⟩ (.int .i64 (p.2.receive + n))).setCell ⟨p.1, 0 + 2, none⟩ (.int .i64 0)) p.1 p.2.granted := by
   refine StB.of (blk_set (blk_set hs.blk)) ?_
   unfold StM.granted; rw [← hn]; rfl
  refine (putCredit_any eb l wx p.1 0 p.2.number p.2.receive n m _ rfl (he.chg hc hne) hg hs.c1 (by rw [hs.c2, hn]) hs.fr q1 q2 (by omega) q5 q6 (owns_chg hrx hc (fun j hj e => hos (by rw [hj, e]))) hl).mono ?_
  rintro e w' ⟨rfl, v, hp'⟩
  have hch := (Chg.of_below (S := fun j => j = eb ∨ j = p.1 ∨ m.out.ownBlock = some j) hb).trans (hc.mono fun j _ e => Or.inr (Or.inr (Or.inl e)))
  refine ⟨rfl, rfl, v, hp'.b, hs1.chg hp'.chg (by rintro (e | e); exact hne e.symm; exact hos e), by rw [hn]; exact hp'.row, hch.trans (hp'.chg.mono fun j _ e => by
    rcases e with e | e
    ·exact Or.inr (Or.inl e)
    ·exact Or.inr (Or.inr (Or.inr e))), fun j hj => (hp'.fresh j hj).imp_right fun e => Nat.le_trans hch.size e⟩
 clear h ho hv hrow h3
 generalize hR : firstDue m L = R
 have HR := hide hR
 clear hR
 go_enter Tryz.func87, Tryz.ntmps87
 go_wp2
 go_loopw [11] (fun i wr => ∃ (k : Nat) (wv : World), wv = wr ∧ i = .int .i64 (k : Int) ∧ k ≤ L.length ∧ Below w.heap.size w wv ∧ firstDue m (L.drop k) = R) (fun i _ => L.length - (intOf i).toNat)
 case atStart => exact ⟨0, _, rfl, rfl, Nat.zero_le _, Below.refl _ _, HR.out⟩
 case round =>
  obtain ⟨k, wv, hwv, rfl, hk, hbel, hnx⟩ := hrel
  subst hwv
  by_cases hlk : k < L.length
  ·obtain ⟨g, c, hv, hcell, hcap⟩ := (HO.out.below hbel).at hlk
   simp only [Value.slice.injEq] at hv
   obtain ⟨rfl, _, rfl⟩ := hv
   have hm := List.getElem_mem hlk
   rw [List.drop_eq_getElem_cons hlk, firstDue] at hnx
   have HRX : Hid (∀ wx, Below wv.heap.size wv wx → Calls Tryz.prog 67 #[.pointer (some ⟨eb, 0, none⟩), .pointer (some ⟨L[k].1, 0, none⟩)] wx fun e w' => e = .returned (.int .i64 (m.own + L[k].2.receive)) ∧ Below wx.heap.size wx w') := fun wx hb => HRW.out wx (hbel.trans (hb.mono hbel.size)) _ hm
   have HPX : Hid (∀ wx, Below wv.heap.size wv wx → Calls Tryz.prog 116 #[.pointer (some ⟨eb, 0, none⟩), .int .i64 L[k].2.number, .pointer (some ⟨L[k].1, 0, none⟩)] wx fun e w' => e = .returned (.tuple #[]) ∧ SCred w w' eb m l (some L[k]) (.returned (.bool true))) := fun wx hb => HPC.out wx (hbel.trans (hb.mono hbel.size)) _ hm
   have HST := hide ((HO.out.st _ hm).below hbel)
   have HE := hide (H.out.below hbel)
   generalize L[k] = p at hnx HRX HPX HST hcell
   obtain ⟨sb, st⟩ := p
   simp only at hnx HRX HPX HST hcell
   have s2 := HST.out.c2
   have s3 := HST.out.c3
   have s9 := HST.out.c9
   have b3 := HE.out.c3
   have hslt := HST.out.lt
   have helt := HE.out.lt
   have HNX := hide hnx
   have HBE := hide hbel
   clear hnx hbel hm
   obtain ⟨D, hD⟩ : ∃ D, D = m.dueS st := ⟨_, rfl⟩
   have HD := hide hD
   clear hD
   go_upto_region 4 with fail
   go_cut [34] (fun s34 wx => s34 = .bool D ∧ Below wv.heap.size wv wx)
   case first =>
    cases hh : st.hasAll with
    | true =>
     rw [hh] at s9
     have hd : D = false := by rw [HD.out]; simp [EndM.dueS, hh]
     subst hd
     go_quiet (fail)
     go_wp2_with fail
     go_meet
     exact ⟨rfl, bel_drewN (Below.refl _ _)⟩
    | false =>
     rw [hh] at s9
     have hd : D = dueB st.owed (m.own + st.receive) m.batch := by rw [HD.out]; simp [EndM.dueS, hh]
     have HDU := hide (isDue_any st.owed (m.own + st.receive) m.batch)
     rw [← hd] at HDU
     clear HPX HNX HD hd
     go_region_held3 (fun w' => w'.cell? ⟨sb, 9, none⟩ = some (.bool false) ∧ w'.cell? ⟨sb, 2, none⟩ = some (.int .i64 st.owed) ∧ w'.cell? ⟨eb, 3, none⟩ = some (.int .i64 m.batch)) (go_keep)
      (first
       | (go_at_call 67; refine (HRX.out wv.drew ⟨rfl, rfl, rfl, Nat.le_refl _, fun _ _ => rfl⟩).mono ?_; rintro e w1 ⟨rfl, hb1⟩; have hB1 : Below wv.heap.size wv w1 := ⟨hb1.os, hb1.tape, hb1.output, hb1.size, hb1.block⟩; have t9 : w1.cell? ⟨sb, 9, none⟩ = some (.bool false) := (by rw [(HST.out.below hB1).c9, hh]); have t2 := (HST.out.below hB1).c2; have t3 := (HE.out.below hB1).c3)
       | (go_at_call 115; refine (HDU.out _).mono ?_; rintro e w2 ⟨rfl, rfl⟩))
     all_goals (go_wp2_with fail; go_meet; exact ⟨rfl, hB1⟩)
   case rest =>
    obtain ⟨rfl, hbx⟩ := hcut
    obtain ⟨w4, hw4⟩ : ∃ w4, w4 = wc := ⟨wc, rfl⟩
    subst hw4
    have HX := hide hbx
    have s3' : w4.cell? ⟨sb, 3, none⟩ = some (.int .i64 st.number) := (HST.out.below hbx).c3
    clear hbx s2 s3 s9 b3
    cases D with
    | false =>
     have hn2 := HNX.out
     rw [← HD.out] at hn2
     have HN2 := hide hn2
     clear hn2
     go_wp2
     all_goals go_roundw
     case rel => exact ⟨k + 1, _, rfl, by go_num, by omega, HBE.out.trans (HX.out.mono HBE.out.size), by simpa using HN2.out⟩
     case measure => simp [intOf]; omega
    | true =>
     have hn2 := HNX.out
     rw [← HD.out] at hn2
     simp only [if_true] at hn2
     have HN2 := hide hn2
     clear hn2
     go_upto_region 5 with fail
     go_cut [] (fun wx => SCred w wx eb m l (some (sb, st)) (.returned (.bool true)))
     case first =>
      go_region_held3 (fun w' => w'.cell? ⟨sb, 3, none⟩ = some (.int .i64 st.number)) (go_keep)
       (first | (go_at_call 116; refine (HPX.out w4.drew (HX.out.trans ⟨rfl, rfl, rfl, Nat.le_refl _, fun _ _ => rfl⟩)).mono ?_; rintro e w' ⟨rfl, hsc⟩; have q3 : w'.cell? ⟨sb, 3, none⟩ = some (.int .i64 st.number) := (by obtain ⟨-, v, -, hst, -⟩ := hsc; exact hst.c3)))
      all_goals (go_wp2_with fail; go_meet; exact hsc)
     case rest =>
      have HC := hide hcut
      clear hcut
      go_wp2
      go_ret
      rw [← HN2.out]
      exact HC.out
  ·have hke : k = L.length := by omega
   rw [List.drop_of_length_le (by omega), firstDue] at hnx
   have HNX := hide hnx
   have HBE := hide hbel
   clear hnx hbel
   go_wp2
   go_ret
   rw [← HNX.out]
   exact ⟨rfl, HBE.out⟩
end
end Go.Proofs.YtdccldbefdfppaaGreatDoor
