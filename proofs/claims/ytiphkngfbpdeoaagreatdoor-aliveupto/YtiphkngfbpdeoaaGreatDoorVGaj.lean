import Derived.Test.YtiphkngfbpdeoaaGreatDoorVGaf
import Derived.Test.YtiphkngfbpdeoaaGreatDoorVGai
import Derived.Test.YtiphkngfbpdeoaaGreatDoorVGah
set_option linter.unusedVariables false
set_option linter.unusedSimpArgs false
namespace Go.Proofs.YtiphkngfbpdeoaaGreatDoor
set_option linter.unusedVariables false
set_option linter.unusedSimpArgs false
open Go.RowKit
def cutN (n : Int) (len : Nat) : Nat := (max 0 (min n len)).toNat
theorem cutN_le (n : Int) (len : Nat) : cutN n len ≤ len := by unfold cutN; omega
structure CutOff (w w' : World) (pb po : Nat) (v v' : Value) (l : List UInt8) (k : Nat) (e : Ending) : Prop where
  eq : ∃ s, e = .returned (.slice s k k) ∧ BytesIn w' (.slice s k k) (l.take k) ∧ ∀ j, (Value.slice s k k).ownBlock = some j → v.ownBlock = some j
  step : ∃ w2, w' = w2.setCell ⟨pb, po, none⟩ v' ∧ Below w.heap.size w w2 ∧ w2.ownsRow w.heap.size 5 1 v' (l.length - k) ((l.drop k).map B)
theorem cut_first {w : World} {bb off cr pb po k : Nat} {l : List UInt8} {u : Value} (hbx : BytesIn w (.slice (some ⟨bb, off, none⟩) l.length cr) l) (hne : (Value.slice (some ⟨bb, off, none⟩) l.length cr).ownBlock ≠ some pb) (hkl : k ≤ l.length) : BytesIn (w.setCell ⟨pb, po, none⟩ u) (.slice (some ⟨bb, off, none⟩) k k) (l.take k) := by
  have hset : Chg (fun j => j = pb) w (w.setCell ⟨pb, po, none⟩ u) := chg_set (Chg.refl _ _) rfl
  have hby := hbx.chg hset (fun j hj e => hne (by rw [hj, e]))
  rcases hby with ⟨e1, _⟩ | ⟨b1, o1, c1, e1, e2, e3, e4⟩
  · simp at e1
  · simp only [Value.slice.injEq, Option.some.injEq, Addr.mk.injEq] at e1
    obtain ⟨⟨rfl, rfl, -⟩, -, rfl⟩ := e1
    refine Or.inr ⟨bb, off, k, by rw [List.length_take, Nat.min_eq_left hkl], e2, by rw [List.length_take]; omega, fun i hi => ?_⟩
    rw [List.length_take] at hi
    rw [e4 i (by omega)]
    simp [List.getD, List.getElem?_take, show i < k by omega]
set_option maxRecDepth 100000 in
set_option maxHeartbeats 1600000 in
theorem ecut_any (pb po : Nat) (v : Value) (l : List UInt8) (n : Int) (w : World) (hc : w.cell? ⟨pb, po, none⟩ = some v) (hf : w.frozen? ⟨pb, po, none⟩ = false) (hpb : pb < w.heap.size) (hrow : w.ownsRow 0 5 1 v l.length (l.map B)) (hne : v.ownBlock ≠ some pb) (hl : l.length ≤ 1073741824) :
    Calls Tryz.prog 49 #[.pointer (some ⟨pb, po, none⟩), .int .i64 n] w fun e w' => ∃ v', CutOff w w' pb po v v' l (cutN n l.length) e := by
  obtain ⟨i0, hi, hz0, hz1, hz2⟩ := info_parts Tryz.info5
  obtain ⟨sr, cr, hv⟩ := slice_len hrow
  subst hv
  obtain ⟨k, hk⟩ : ∃ k, k = cutN n l.length := ⟨_, rfl⟩
  have hkl : k ≤ l.length := by rw [hk]; exact cutN_le _ _
  have hki : max 0 (min n (l.length : Int)) = (k : Int) := by rw [hk]; unfold cutN; omega
  rw [← hk]
  have hby := bytesIn_of_owns hrow rfl
  clear hk
  rcases hby with ⟨h1, h2⟩ | ⟨bb, off, cap, h1, h2, h3, h4⟩
  · simp only [Value.slice.injEq] at h1
    obtain ⟨rfl, _, rfl⟩ := h1
    subst h2
    simp at hkl
    subst hkl
    have HKI : Hid (max 0 (min n 0) = 0) := by show _ = _; omega
    have HNE := hide hne
    clear hrow hki hne
    simp only [List.length_nil] at *
    go_enter Tryz.func49, Tryz.ntmps49
    go_upto_region 2 with fail
    rw [HKI.out]
    go_wp2_with (at_builtin; refine wpList_app _ rfl (.const (.slice none 0 0)) (.tmp 24) 38 rfl 5 i0 (.int .u8 0) 1 1 Tryz.underlying38 hi hz0 hz1 hz2 rfl (by decide) (.slice none 0 0) 0 [] rfl (World.ownsRow_nil _ _ _ _) _ 0 [] rfl rfl (Or.inl ⟨rfl, rfl, rfl⟩) (by simp) (by decide) (by decide) ?_)
    intro v' w2 hown2 hg2 hfr2
    obtain ⟨s2, c2, rfl⟩ := slice_len hown2
    have hb2 : Below w.heap.size w w2 := below_of_chg (Below.refl _ _) (Chg.of_grown (S := fun _ => False) hg2 (fun j hj => by simp [Value.ownBlock] at hj)) (fun _ e => e.elim)
    have c2' : w2.cell? ⟨pb, po, none⟩ = some (.slice none 0 0) := by rw [Below.cell hb2 (p := ⟨pb, po, none⟩) hpb]; exact hc
    have f2' : w2.frozen? ⟨pb, po, none⟩ = false := by rw [Below.frozen hb2 (p := ⟨pb, po, none⟩) hpb]; exact hf
    have HO2 := hide hown2
    have HB2 := hide hb2
    have HF2 := hide hfr2
    clear hown2 hg2 hfr2 hb2
    go_wp2
    go_ret
    refine ⟨_, ⟨⟨none, rfl, Or.inl ⟨rfl, rfl⟩, fun j hj => by simp [Value.ownBlock] at hj⟩, _, rfl, HB2.out, ?_⟩⟩
    exact owns_base HO2.out (fun j hj => by
      rcases HF2.out with e | e
      · rw [e] at hj; simp [Value.ownBlock] at hj
      · rw [e] at hj; simp at hj; omega)
  · simp only [Value.slice.injEq] at h1
    obtain ⟨rfl, _, rfl⟩ := h1
    have HROW := hide hrow
    have HNE := hide hne
    have HKI := hide hki
    have H4 := hide h4
    clear hrow hne hki h4
    by_cases hck : cr = k
    · obtain rfl : k = l.length := by omega
      subst hck
      have HLI : Hid (Lies w (.slice (some ⟨bb, off, none⟩) 0 0) 0 []) := Or.inr ⟨_, _, rfl, fun j u hu => by simp at hu⟩
      go_enter Tryz.func49, Tryz.ntmps49
      go_upto_region 2 with fail
      rw [HKI.out]
      go_upto_region 3 with fail
      go_wp2_with (at_builtin; refine wpList_app _ rfl (.const (.slice none 0 0)) (.tmp 24) 38 rfl 5 i0 (.int .u8 0) 1 1 Tryz.underlying38 hi hz0 hz1 hz2 rfl (by decide) (.slice none 0 0) 0 [] rfl (World.ownsRow_nil _ _ _ _) _ 0 [] rfl ?c1 HLI.out ?c3 ?c4 ?c5 ?_)
      case c1 => simp
      case c3 => intro u hu; first | (simp at hu; done) | (obtain ⟨x, -, rfl⟩ := List.mem_map.1 hu; rfl)
      case c4 => unfold maxLen; omega
      case c5 => omega
      intro v' w2 hown2 hg2 hfr2
      obtain ⟨s2, c2, rfl⟩ := slice_len hown2
      have hb2 : Below w.heap.size w w2 := below_of_chg (Below.refl _ _) (Chg.of_grown (S := fun _ => False) hg2 (fun j hj => by simp [Value.ownBlock] at hj)) (fun _ e => e.elim)
      have c2' : w2.cell? ⟨pb, po, none⟩ = some (.slice (some ⟨bb, off, none⟩) l.length l.length) := by rw [Below.cell hb2 (p := ⟨pb, po, none⟩) hpb]; exact hc
      have f2' : w2.frozen? ⟨pb, po, none⟩ = false := by rw [Below.frozen hb2 (p := ⟨pb, po, none⟩) hpb]; exact hf
      have HO2 := hide hown2
      have HB2 := hide hb2
      have HF2 := hide hfr2
      clear hown2 hg2 hfr2 hb2
      go_wp2
      go_ret
      refine ⟨_, ⟨⟨some ⟨bb, off, none⟩, rfl, ?_, fun j hj => hj⟩, _, rfl, HB2.out, ?_⟩⟩
      · have hbx : BytesIn w2 (.slice (some ⟨bb, off, none⟩) l.length l.length) l := (bytesIn_of_owns HROW.out rfl).chg (Chg.of_below (S := fun _ => False) HB2.out) (fun _ _ => id)
        exact cut_first hbx HNE.out (by omega)
      · have := owns_base (base' := w.heap.size) HO2.out (fun j hj => by
          rcases HF2.out with e | e
          · rw [e] at hj; simp [Value.ownBlock] at hj
          · rw [e] at hj; simp at hj; omega)
        simpa using this
    · skip
      have HLI : Hid (Lies w (.slice (some ⟨bb, off + k, none⟩) (l.length - k) (cr - k)) (l.length - k) ((l.drop k).map B)) := by
        have hb : BytesIn w (.slice (some ⟨bb, off + k, none⟩) (l.length - k) (cr - k)) (l.drop k) := by
          refine Or.inr ⟨bb, off + k, cr - k, by rw [List.length_drop], h2, by rw [List.length_drop]; omega, fun i hi => ?_⟩
          rw [List.length_drop] at hi
          rw [Nat.add_assoc, H4.out (k + i) (by omega)]
          simp [List.getD, List.getElem?_drop]
        have := lies_of_bytesIn hb
        rw [List.length_drop] at this
        exact this
      go_enter Tryz.func49, Tryz.ntmps49
      go_upto_region 2 with fail
      rw [HKI.out]
      go_upto_region 3 with fail
      go_wp2_with (at_builtin; refine wpList_app _ rfl (.const (.slice none 0 0)) (.tmp 24) 38 rfl 5 i0 (.int .u8 0) 1 1 Tryz.underlying38 hi hz0 hz1 hz2 rfl (by decide) (.slice none 0 0) 0 [] rfl (World.ownsRow_nil _ _ _ _) _ (l.length - k) ((l.drop k).map B) rfl ?c1 HLI.out ?c3 ?c4 ?c5 ?_)
      case c1 => simp
      case c3 => intro u hu; first | (simp at hu; done) | (obtain ⟨x, -, rfl⟩ := List.mem_map.1 hu; rfl)
      case c4 => unfold maxLen; omega
      case c5 => omega
      intro v' w2 hown2 hg2 hfr2
      obtain ⟨s2, c2, rfl⟩ := slice_len hown2
      have hb2 : Below w.heap.size w w2 := below_of_chg (Below.refl _ _) (Chg.of_grown (S := fun _ => False) hg2 (fun j hj => by simp [Value.ownBlock] at hj)) (fun _ e => e.elim)
      have c2' : w2.cell? ⟨pb, po, none⟩ = some (.slice (some ⟨bb, off, none⟩) l.length cr) := by rw [Below.cell hb2 (p := ⟨pb, po, none⟩) hpb]; exact hc
      have f2' : w2.frozen? ⟨pb, po, none⟩ = false := by rw [Below.frozen hb2 (p := ⟨pb, po, none⟩) hpb]; exact hf
      have HO2 := hide hown2
      have HB2 := hide hb2
      have HF2 := hide hfr2
      clear hown2 hg2 hfr2 hb2
      go_wp2
      go_ret
      refine ⟨_, ⟨⟨some ⟨bb, off, none⟩, rfl, ?_, fun j hj => hj⟩, _, rfl, HB2.out, ?_⟩⟩
      · have hbx : BytesIn w2 (.slice (some ⟨bb, off, none⟩) l.length cr) l := (bytesIn_of_owns HROW.out rfl).chg (Chg.of_below (S := fun _ => False) HB2.out) (fun _ _ => id)
        exact cut_first hbx HNE.out (by omega)
      · have := owns_base (base' := w.heap.size) HO2.out (fun j hj => by
          rcases HF2.out with e | e
          · rw [e] at hj; simp [Value.ownBlock] at hj
          · rw [e] at hj; simp at hj; omega)
        simpa using this
end Go.Proofs.YtiphkngfbpdeoaaGreatDoor
namespace Go.Proofs.YtiphkngfbpdeoaaGreatDoor
set_option linter.unusedVariables false
set_option linter.unusedSimpArgs false
open Go.RowKit
set_option maxRecDepth 100000 in
set_option maxHeartbeats 1600000 in
theorem eRead_reset (eb mb : Nat) (m : EndM) (K : List Str) (s n : Int) (p : Str) (w : World) (h : EnB w eb m) (hm : m.known = .map (some mb)) (hK : KnownS w mb K) (hn : 0 ≤ n) (hf : findK K s = some p) (hr : p.2.reset ≠ 0) :
    Calls Tryz.prog 28 #[.pointer (some ⟨eb, 0, none⟩), .int .i64 s, .int .i64 n] w fun e w' => e = .returned (.tuple #[.slice none 0 0, .bool false, .int .i64 6]) ∧ w' = w := by
  have c22 := h.c22
  rw [hm] at c22
  have hlk := hK.lookup s
  rw [hf] at hlk
  simp only [Option.map_some, ptrO] at hlk
  have hR := isReset_any p.1 p.2 w (hK.st p (findK_mem hf).1)
  have hrb : (p.2.reset == 0) = false := by rw [beq_eq_false_iff_ne]; exact hr
  rw [hrb] at hR
  have HR := hide hR
  obtain ⟨pb, st⟩ := p
  simp only at hlk HR
  clear h hm hK hf hr hR hrb
  go_enter Tryz.func28, Tryz.ntmps28
  go_wp2_with fail
  refine HR.out.mono ?_
  rintro e w' ⟨rfl, hw'⟩
  rw [hw']
  clear hw' w'
  go_wp2
  refine bodyPost_ret (v := .tuple #[.slice none 0 0, .bool false, .int .i64 6]) ?_ rfl ⟨rfl, rfl⟩
  simp [results, Tryz.results28, go_sem]
def StM.taken (s : StM) (k : Nat) (v : Value) : StM := { s with owed := s.owed + k, unread := v }
def EndM.owes (m : EndM) (k : Nat) : EndM := { m with owed := m.owed + k }
structure ReadS (w w' : World) (eb : Nat) (m : EndM) (p : Str) (u : List UInt8) (k : Nat) (v : Value) (e : Ending) : Prop where
  eq : ∃ s, e = .returned (.tuple #[.slice s k k, .bool (p.2.hasAll && (u.length - k == 0)), .int .i64 0]) ∧ BytesIn w' (.slice s k k) (u.take k) ∧ ∀ j, (Value.slice s k k).ownBlock = some j → p.2.unread.ownBlock = some j
  en : EnB w' eb (m.owes k)
  st : StB w' p.1 (p.2.taken k v)
  row : w'.ownsRow w.heap.size 5 1 v (u.length - k) ((u.drop k).map B)
  chg : Chg (fun j => j = eb ∨ j = p.1) w w'
theorem read_end {w w1 : World} {eb pb k nq : Nat} {m : EndM} {st : StM} {u : List UInt8} {v : Value} {s1 : Option Addr} (he : EnB w1 eb m) (hs : StB w1 pb { st with unread := v }) (hc : Chg (fun j => j = pb) w w1) (hby : BytesIn w1 (.slice s1 k k) (u.take k)) (hown : ∀ j, (Value.slice s1 k k).ownBlock = some j → st.unread.ownBlock = some j) (hrow : w1.ownsRow w.heap.size 5 1 v (u.length - k) ((u.drop k).map B)) (hun : ∀ j, st.unread.ownBlock = some j → j ≠ eb ∧ j ≠ pb) (hne : eb ≠ pb) :
    ReadS w ((((w1.setCell ⟨pb, 2, none⟩ (.int .i64 (st.owed + k))).setCell ⟨eb, 6, none⟩ (.int .i64 (m.owed + k)))).drewN nq) eb m (pb, st) u k v (.returned (.tuple #[.slice s1 k k, .bool (st.hasAll && (u.length - k == 0)), .int .i64 0])) := by
  have ca : Chg (fun j => j = pb) w1 (w1.setCell ⟨pb, 2, none⟩ (.int .i64 (st.owed + k))) := chg_set (Chg.refl _ _) rfl
  have cb : Chg (fun j => j = eb) (w1.setCell ⟨pb, 2, none⟩ (.int .i64 (st.owed + k))) ((w1.setCell ⟨pb, 2, none⟩ (.int .i64 (st.owed + k))).setCell ⟨eb, 6, none⟩ (.int .i64 (m.owed + k))) := chg_set (Chg.refl _ _) rfl
  have hd : Below ((w1.setCell ⟨pb, 2, none⟩ (.int .i64 (st.owed + k))).setCell ⟨eb, 6, none⟩ (.int .i64 (m.owed + k))).heap.size ((w1.setCell ⟨pb, 2, none⟩ (.int .i64 (st.owed + k))).setCell ⟨eb, 6, none⟩ (.int .i64 (m.owed + k))) (((w1.setCell ⟨pb, 2, none⟩ (.int .i64 (st.owed + k))).setCell ⟨eb, 6, none⟩ (.int .i64 (m.owed + k))).drewN nq) := bel_drewN (Below.refl _ _)
  have cc : Chg (fun j => j = eb ∨ j = pb) w1 (((w1.setCell ⟨pb, 2, none⟩ (.int .i64 (st.owed + k))).setCell ⟨eb, 6, none⟩ (.int .i64 (m.owed + k))).drewN nq) := ((ca.mono fun j _ e => Or.inr e).trans (cb.mono fun j _ e => Or.inr (Or.inl e))).then_below hd
  have hrl : ∀ j, v.ownBlock = some j → ¬ (j = eb ∨ j = pb) := fun j hj e => by
    have h1 := owns_ne hrow he.blk (by decide)
    have h2 := owns_ne hrow hs.blk (by decide)
    rcases e with e | e
    · subst e; exact h1 hj
    · subst e; exact h2 hj
  refine ⟨⟨s1, rfl, hby.chg cc (fun j hj e => ?_), hown⟩, ?_, ?_, owns_chg hrow cc hrl, (hc.mono fun j _ e => Or.inr e).trans (cc.mono fun j _ e => Or.inr e)⟩
  · have := hun j (hown j hj)
    rcases e with e | e
    · exact this.1 e
    · exact this.2 e
  · have h1 : EnB (w1.setCell ⟨pb, 2, none⟩ (.int .i64 (st.owed + k))) eb m := he.chg ca (fun e => hne e)
    exact (EnB.of (blk_set h1.blk) rfl : EnB ((w1.setCell ⟨pb, 2, none⟩ (.int .i64 (st.owed + k))).setCell ⟨eb, 6, none⟩ (.int .i64 (m.owed + k))) eb (m.owes k)).below hd
  · have h1 : StB (w1.setCell ⟨pb, 2, none⟩ (.int .i64 (st.owed + k))) pb (st.taken k v) := StB.of (blk_set hs.blk) rfl
    exact (h1.chg cb (fun e => hne e.symm)).below hd
set_option maxRecDepth 100000 in
set_option maxHeartbeats 3200000 in
theorem eRead_ok (eb mb : Nat) (m : EndM) (K : List Str) (s n : Int) (p : Str) (u : List UInt8) (w : World) (h : EnB w eb m) (hm : m.known = .map (some mb)) (hK : KnownS w mb K) (hn : 0 ≤ n) (hf : findK K s = some p) (hr : p.2.reset = 0) (hd : m.fault = 0 ∨ p.2.hasAll = true ∨ 0 < u.length) (hrow : w.ownsRow 0 5 1 p.2.unread u.length (u.map B)) (hu : u.length ≤ 1048576)
    (b1 : -1152921504606846976 ≤ m.owed) (b2 : m.owed ≤ 1152921504606846976) (b3 : -1152921504606846976 ≤ p.2.owed) (b4 : p.2.owed ≤ 1152921504606846976) :
    Calls Tryz.prog 28 #[.pointer (some ⟨eb, 0, none⟩), .int .i64 s, .int .i64 n] w fun e w' => ∃ v, ReadS w w' eb m p u (cutN n u.length) v e := by
  have c22 := h.c22
  rw [hm] at c22
  have hlk := hK.lookup s
  rw [hf] at hlk
  simp only [Option.map_some, ptrO] at hlk
  have hs := hK.st p (findK_mem hf).1
  have hR := isReset_any p.1 p.2 w hs
  have hrb : (p.2.reset == 0) = true := by simp [hr]
  rw [hrb] at hR
  have HR := hide hR
  have HD := hide (isDead_any eb m w h)
  have hne : eb ≠ p.1 := fun e => by
    have h1 := h.blk
    have h2 := hs.blk
    rw [← e, h1] at h2
    simp only [Option.some.injEq, Obj.cells.injEq] at h2
    exact absurd h2.2.1 (by decide)
  have hun : p.2.unread.ownBlock ≠ some p.1 := fun e => owns_ne hrow hs.blk (by decide) e
  have HUN : Hid (∀ j, p.2.unread.ownBlock = some j → j ≠ eb ∧ j ≠ p.1) := fun j hj => ⟨fun e => owns_ne hrow h.blk (by decide) (e ▸ hj), fun e => hun (e ▸ hj)⟩
  have HC := hide (ecut_any p.1 11 p.2.unread u n w hs.c11 (hs.fr 11) hs.lt hrow hun (by omega))
  obtain ⟨sw, cw, hwv⟩ := slice_len hrow
  have s9 := hs.c9
  have s11 := hs.c11
  rw [hwv] at s11
  have H := hide h
  have HS := hide hs
  have hlt := h.lt
  have hslt := hs.lt
  have HNE := hide hne
  have HHD := hide hd
  obtain ⟨pb, st⟩ := p
  simp only at *
  obtain ⟨k, hk⟩ : ∃ k, k = cutN n u.length := ⟨_, rfl⟩
  have hkl : k ≤ u.length := by rw [hk]; exact cutN_le _ _
  rw [← hk] at HC ⊢
  clear h hm hK hf hr hd hR hrb hs hrow hun hwv hk hne
  obtain ⟨fb, hfb⟩ : ∃ fb, fb = (m.fault == 0) := ⟨_, rfl⟩
  rw [← hfb] at HD
  have hd3 : fb = true ∨ (fb = false ∧ st.hasAll = true) ∨ (fb = false ∧ st.hasAll = false ∧ 0 < u.length) := by
    cases hx : fb with
    | true => exact Or.inl rfl
    | false =>
      have hm0 : m.fault ≠ 0 := by rw [hx] at hfb; exact beq_eq_false_iff_ne.1 hfb.symm
      cases hy : st.hasAll with
      | true => exact Or.inr (Or.inl ⟨rfl, rfl⟩)
      | false =>
        rcases HHD.out with e | e | e
        · exact absurd e hm0
        · rw [hy] at e; cases e
        · exact Or.inr (Or.inr ⟨rfl, rfl, e⟩)
  clear hfb HHD
  rcases hd3 with rfl | ⟨rfl, ha⟩ | ⟨rfl, ha, hpos⟩
  · skip
    go_enter Tryz.func28, Tryz.ntmps28
    go_wp2_with fail
    refine HR.out.mono ?_
    rintro e w' ⟨rfl, hw'⟩
    rw [hw']
    clear hw' w'
    go_wp2_with fail
    refine HD.out.mono ?_
    rintro e w' ⟨rfl, hw'⟩
    rw [hw']
    clear hw' w'
    go_wp2_with fail
    refine HC.out.mono ?_
    rintro e w1 ⟨v, hC⟩
    obtain ⟨s1, rfl, hby, hown⟩ := hC.eq
    obtain ⟨w2, hw1, hb2, hr2⟩ := hC.step
    obtain ⟨sv, cv, hvv⟩ := slice_len hr2
    subst hvv
    have hst1 : StB w1 pb { st with unread := .slice sv (u.length - k) cv } := by rw [hw1]; exact StB.of (blk_set (HS.out.below hb2).blk) rfl
    have hc1 : Chg (fun j => j = pb) w w1 := by rw [hw1]; exact chg_set (Chg.of_below hb2) rfl
    have hen1 : EnB w1 eb m := H.out.chg hc1 HNE.out
    have hrow1 : w1.ownsRow w.heap.size 5 1 (.slice sv (u.length - k) cv) (u.length - k) ((u.drop k).map B) := by
      rw [hw1]
      exact owns_chg hr2 (chg_set (S := fun j => j = pb) (Chg.refl _ _) rfl) (fun j hj e => by have := (hr2.lt j hj).1; omega)
    have t2 := hst1.c2
    have t9 : w1.cell? ⟨pb, 9, none⟩ = some (.bool st.hasAll) := hst1.c9
    have t11 : w1.cell? ⟨pb, 11, none⟩ = some (.slice sv (u.length - k) cv) := hst1.c11
    have g2 := hst1.fr 2
    have t6 := hen1.c6
    have g6 := hen1.fr 6
    have hne1 := HNE.out
    have hne2 : pb ≠ eb := fun e => HNE.out e.symm
    have HST1 := hide hst1
    have HEN1 := hide hen1
    have HC1 := hide hc1
    have HBY := hide hby
    have HOW := hide hown
    have HRW := hide hrow1
    clear hC hw1 hb2 hr2 hst1 hc1 hen1 hrow1 hby hown s9 s11 c22 hlk
    go_wp2_with fail
    have HEND : Hid (∀ nq bb, bb = (st.hasAll && (u.length - k == 0)) → ReadS w ((((w1.setCell ⟨pb, 2, none⟩ (.int .i64 (st.owed + k))).setCell ⟨eb, 6, none⟩ (.int .i64 (m.owed + k)))).drewN nq) eb m (pb, st) u k (.slice sv (u.length - k) cv) (.returned (.tuple #[.slice s1 k k, .bool bb, .int .i64 0]))) := fun nq bb hbb => by
      rw [hbb]; exact read_end HEN1.out HST1.out HC1.out HBY.out HOW.out HRW.out HUN.out HNE.out
    cases hha : st.hasAll <;> rw [hha] at t9
    · go_quiet (fail)
      go_wp2
      refine bodyPost_ret (v := .tuple #[.slice s1 k k, .bool false, .int .i64 0]) ?_ rfl ⟨_, HEND.out _ _ (by rw [hha]; rfl)⟩
      simp [results, Tryz.results28, go_sem]
    · go_quiet (fail)
      go_wp2
      refine bodyPost_ret (v := .tuple #[.slice s1 k k, .bool (((u.length - k : Nat) : Int) == 0), .int .i64 0]) ?_ rfl ⟨_, HEND.out _ _ (by rw [hha]; simp only [Bool.true_and]; rw [Bool.eq_iff_iff]; simp)⟩
      simp [results, Tryz.results28, go_sem]
  · rw [ha] at s9
    go_enter Tryz.func28, Tryz.ntmps28
    go_wp2_with fail
    refine HR.out.mono ?_
    rintro e w' ⟨rfl, hw'⟩
    rw [hw']
    clear hw' w'
    go_wp2_with fail
    refine HD.out.mono ?_
    rintro e w' ⟨rfl, hw'⟩
    rw [hw']
    clear hw' w'
    go_wp2_with fail
    refine HC.out.mono ?_
    rintro e w1 ⟨v, hC⟩
    obtain ⟨s1, rfl, hby, hown⟩ := hC.eq
    obtain ⟨w2, hw1, hb2, hr2⟩ := hC.step
    obtain ⟨sv, cv, hvv⟩ := slice_len hr2
    subst hvv
    have hst1 : StB w1 pb { st with unread := .slice sv (u.length - k) cv } := by rw [hw1]; exact StB.of (blk_set (HS.out.below hb2).blk) rfl
    have hc1 : Chg (fun j => j = pb) w w1 := by rw [hw1]; exact chg_set (Chg.of_below hb2) rfl
    have hen1 : EnB w1 eb m := H.out.chg hc1 HNE.out
    have hrow1 : w1.ownsRow w.heap.size 5 1 (.slice sv (u.length - k) cv) (u.length - k) ((u.drop k).map B) := by
      rw [hw1]
      exact owns_chg hr2 (chg_set (S := fun j => j = pb) (Chg.refl _ _) rfl) (fun j hj e => by have := (hr2.lt j hj).1; omega)
    have t2 := hst1.c2
    have t9 : w1.cell? ⟨pb, 9, none⟩ = some (.bool st.hasAll) := hst1.c9
    have t11 : w1.cell? ⟨pb, 11, none⟩ = some (.slice sv (u.length - k) cv) := hst1.c11
    have g2 := hst1.fr 2
    have t6 := hen1.c6
    have g6 := hen1.fr 6
    have hne1 := HNE.out
    have hne2 : pb ≠ eb := fun e => HNE.out e.symm
    have HST1 := hide hst1
    have HEN1 := hide hen1
    have HC1 := hide hc1
    have HBY := hide hby
    have HOW := hide hown
    have HRW := hide hrow1
    clear hC hw1 hb2 hr2 hst1 hc1 hen1 hrow1 hby hown s9 s11 c22 hlk
    go_wp2_with fail
    have HEND : Hid (∀ nq bb, bb = (st.hasAll && (u.length - k == 0)) → ReadS w ((((w1.setCell ⟨pb, 2, none⟩ (.int .i64 (st.owed + k))).setCell ⟨eb, 6, none⟩ (.int .i64 (m.owed + k)))).drewN nq) eb m (pb, st) u k (.slice sv (u.length - k) cv) (.returned (.tuple #[.slice s1 k k, .bool bb, .int .i64 0]))) := fun nq bb hbb => by
      rw [hbb]; exact read_end HEN1.out HST1.out HC1.out HBY.out HOW.out HRW.out HUN.out HNE.out
    cases hha : st.hasAll <;> rw [hha] at t9
    · go_quiet (fail)
      go_wp2
      refine bodyPost_ret (v := .tuple #[.slice s1 k k, .bool false, .int .i64 0]) ?_ rfl ⟨_, HEND.out _ _ (by rw [hha]; rfl)⟩
      simp [results, Tryz.results28, go_sem]
    · go_quiet (fail)
      go_wp2
      refine bodyPost_ret (v := .tuple #[.slice s1 k k, .bool (((u.length - k : Nat) : Int) == 0), .int .i64 0]) ?_ rfl ⟨_, HEND.out _ _ (by rw [hha]; simp only [Bool.true_and]; rw [Bool.eq_iff_iff]; simp)⟩
      simp [results, Tryz.results28, go_sem]
  · rw [ha] at s9
    have hz0 : ((u.length : Int) == 0) = false := by rw [beq_eq_false_iff_ne]; omega
    go_enter Tryz.func28, Tryz.ntmps28
    go_wp2_with fail
    refine HR.out.mono ?_
    rintro e w' ⟨rfl, hw'⟩
    rw [hw']
    clear hw' w'
    go_wp2_with fail
    refine HD.out.mono ?_
    rintro e w' ⟨rfl, hw'⟩
    rw [hw']
    clear hw' w'
    go_wp2_with fail
    refine HC.out.mono ?_
    rintro e w1 ⟨v, hC⟩
    obtain ⟨s1, rfl, hby, hown⟩ := hC.eq
    obtain ⟨w2, hw1, hb2, hr2⟩ := hC.step
    obtain ⟨sv, cv, hvv⟩ := slice_len hr2
    subst hvv
    have hst1 : StB w1 pb { st with unread := .slice sv (u.length - k) cv } := by rw [hw1]; exact StB.of (blk_set (HS.out.below hb2).blk) rfl
    have hc1 : Chg (fun j => j = pb) w w1 := by rw [hw1]; exact chg_set (Chg.of_below hb2) rfl
    have hen1 : EnB w1 eb m := H.out.chg hc1 HNE.out
    have hrow1 : w1.ownsRow w.heap.size 5 1 (.slice sv (u.length - k) cv) (u.length - k) ((u.drop k).map B) := by
      rw [hw1]
      exact owns_chg hr2 (chg_set (S := fun j => j = pb) (Chg.refl _ _) rfl) (fun j hj e => by have := (hr2.lt j hj).1; omega)
    have t2 := hst1.c2
    have t9 : w1.cell? ⟨pb, 9, none⟩ = some (.bool st.hasAll) := hst1.c9
    have t11 : w1.cell? ⟨pb, 11, none⟩ = some (.slice sv (u.length - k) cv) := hst1.c11
    have g2 := hst1.fr 2
    have t6 := hen1.c6
    have g6 := hen1.fr 6
    have hne1 := HNE.out
    have hne2 : pb ≠ eb := fun e => HNE.out e.symm
    have HST1 := hide hst1
    have HEN1 := hide hen1
    have HC1 := hide hc1
    have HBY := hide hby
    have HOW := hide hown
    have HRW := hide hrow1
    clear hC hw1 hb2 hr2 hst1 hc1 hen1 hrow1 hby hown s9 s11 c22 hlk
    go_wp2_with fail
    have HEND : Hid (∀ nq bb, bb = (st.hasAll && (u.length - k == 0)) → ReadS w ((((w1.setCell ⟨pb, 2, none⟩ (.int .i64 (st.owed + k))).setCell ⟨eb, 6, none⟩ (.int .i64 (m.owed + k)))).drewN nq) eb m (pb, st) u k (.slice sv (u.length - k) cv) (.returned (.tuple #[.slice s1 k k, .bool bb, .int .i64 0]))) := fun nq bb hbb => by
      rw [hbb]; exact read_end HEN1.out HST1.out HC1.out HBY.out HOW.out HRW.out HUN.out HNE.out
    cases hha : st.hasAll <;> rw [hha] at t9
    · go_quiet (fail)
      go_wp2
      refine bodyPost_ret (v := .tuple #[.slice s1 k k, .bool false, .int .i64 0]) ?_ rfl ⟨_, HEND.out _ _ (by rw [hha]; rfl)⟩
      simp [results, Tryz.results28, go_sem]
    · go_quiet (fail)
      go_wp2
      refine bodyPost_ret (v := .tuple #[.slice s1 k k, .bool (((u.length - k : Nat) : Int) == 0), .int .i64 0]) ?_ rfl ⟨_, HEND.out _ _ (by rw [hha]; simp only [Bool.true_and]; rw [Bool.eq_iff_iff]; simp)⟩
      simp [results, Tryz.results28, go_sem]
end Go.Proofs.YtiphkngfbpdeoaaGreatDoor
namespace Go.Proofs.YtiphkngfbpdeoaaGreatDoor
set_option linter.unusedVariables false
set_option linter.unusedSimpArgs false
open Go.RowKit
def StM.dropped (s : StM) (by_ : Int) : StM := { s with reset := by_, unread := .slice none 0 0, waiting := .slice none 0 0 }
structure Dropd (w w' : World) (eb : Nat) (m : EndM) (L : List Str) (k u : Nat) (hk : k < L.length) (by_ : Int) (v : Value) : Prop where
  en : EnB w' eb ((m.owes u).opens v)
  st : StB w' L[k].1 (L[k].2.dropped by_)
  row : w'.ownsRow 0 118 1 v (L.length - 1) (opnCells (L.eraseIdx k))
  same : v.ownBlock = m.opn.ownBlock
  chg : Chg (fun j => j = eb ∨ j = L[k].1 ∨ m.opn.ownBlock = some j) w w'
set_option maxRecDepth 100000 in
set_option maxHeartbeats 1600000 in
theorem ereset_any (eb : Nat) (m : EndM) (L : List Str) (k u : Nat) (by_ : Int) (su : Option Addr) (cu : Nat) (w : World) (h : EnB w eb m) (ho : OpenS w m.opn L) (hL : L.length ≤ 1048576) (hk : k < L.length) (hb : by_ ≠ 0) (hu : L[k].2.unread = .slice su u cu) (hul : u ≤ 1048576) (hnd : ∀ j (h : j < L.length), j ≠ k → L[j].1 ≠ L[k].1) (b1 : -1152921504606846976 ≤ m.owed) (b2 : m.owed ≤ 1152921504606846976) :
    Calls Tryz.prog 64 #[.pointer (some ⟨eb, 0, none⟩), .pointer (some ⟨L[k].1, 0, none⟩), .int .i64 by_] w fun e w' => e = .returned (.tuple #[]) ∧ ∃ v, Dropd w w' eb m L k u hk by_ v := by
  have hs := ho.st _ (List.getElem_mem hk)
  have hne : eb ≠ L[k].1 := fun e => by
    have h1 := h.blk
    have h2 := hs.blk
    rw [← e, h1] at h2
    simp only [Option.some.injEq, Obj.cells.injEq] at h2
    exact absurd h2.2.1 (by decide)
  have hlt := h.lt
  have c6 := h.c6
  have f6 := h.fr 6
  have s10 := hs.c10
  have s11 := hs.c11
  have s12 := hs.c12
  have g10 := hs.fr 10
  have g11 := hs.fr 11
  have g12 := hs.fr 12
  rw [hu] at s11
  have hne1 := hne
  have hne2 : L[k].1 ≠ eb := fun e => hne e.symm
  have HSET : Hid (∀ W, W = ((((w.setCell ⟨L[k].1, 10, none⟩ (.int .i64 by_)).drew).setCell ⟨eb, 6, none⟩ (.int .i64 (m.owed + u))).setCell ⟨L[k].1, 11, none⟩ (.slice none 0 0)).setCell ⟨L[k].1, 12, none⟩ (.slice none 0 0) →
      Calls Tryz.prog 75 #[.pointer (some ⟨eb, 22, none⟩), .pointer (some ⟨L[k].1, 0, none⟩)] W fun e w' => e = .returned (.tuple #[]) ∧ ∃ v, Dropd w w' eb m L k u hk by_ v) := fun W hW => by
    have c1 : Chg (fun j => j = L[k].1) w (w.setCell ⟨L[k].1, 10, none⟩ (.int .i64 by_)) := chg_set (Chg.refl _ _) rfl
    have c2 : Chg (fun j => j = L[k].1) w ((w.setCell ⟨L[k].1, 10, none⟩ (.int .i64 by_)).drew) := c1.then_below ⟨rfl, rfl, rfl, Nat.le_refl _, fun _ _ => rfl⟩
    have e2 : EnB ((w.setCell ⟨L[k].1, 10, none⟩ (.int .i64 by_)).drew) eb m := h.chg c2 hne
    have s2 : StB ((w.setCell ⟨L[k].1, 10, none⟩ (.int .i64 by_)).drew) L[k].1 { L[k].2 with reset := by_ } := (StB.of (blk_set hs.blk) rfl : StB (w.setCell ⟨L[k].1, 10, none⟩ (.int .i64 by_)) L[k].1 { L[k].2 with reset := by_ }).below ⟨rfl, rfl, rfl, Nat.le_refl _, fun _ _ => rfl⟩
    have e3 : EnB (((w.setCell ⟨L[k].1, 10, none⟩ (.int .i64 by_)).drew).setCell ⟨eb, 6, none⟩ (.int .i64 (m.owed + u))) eb (m.owes u) := EnB.of (blk_set e2.blk) rfl
    have c3 : Chg (fun j => j = eb) ((w.setCell ⟨L[k].1, 10, none⟩ (.int .i64 by_)).drew) (((w.setCell ⟨L[k].1, 10, none⟩ (.int .i64 by_)).drew).setCell ⟨eb, 6, none⟩ (.int .i64 (m.owed + u))) := chg_set (Chg.refl _ _) rfl
    have s3 := s2.chg c3 hne2
    have c4 : Chg (fun j => j = L[k].1) (((w.setCell ⟨L[k].1, 10, none⟩ (.int .i64 by_)).drew).setCell ⟨eb, 6, none⟩ (.int .i64 (m.owed + u))) W := by rw [hW]; exact chg_set (chg_set (Chg.refl _ _) rfl) rfl
    have s4 : StB W L[k].1 (L[k].2.dropped by_) := by rw [hW]; exact StB.of (blk_set (blk_set s3.blk)) rfl
    have e4 : EnB W eb (m.owes u) := e3.chg c4 hne
    have cW : Chg (fun j => j = eb ∨ j = L[k].1) w W := ((c2.mono fun j _ e => Or.inr e).trans (c3.mono fun j _ e => Or.inr (Or.inl e))).trans (c4.mono fun j _ e => Or.inr (Or.inr e))
    have hcells : opnCells (L.set k (L[k].1, L[k].2.dropped by_)) = opnCells L := by
      unfold opnCells
      rw [List.map_set]
      have : (L.map fun p => Value.pointer (some ⟨p.1, 0, none⟩))[k]? = some (.pointer (some ⟨L[k].1, 0, none⟩)) := by simp [hk]
      obtain ⟨q1, q2⟩ := List.getElem?_eq_some_iff.1 this
      rw [← q2, List.set_getElem_self]
    have hrowne : ∀ j, m.opn.ownBlock = some j → ¬ (j = eb ∨ j = L[k].1) := fun j hj e => by
      rcases e with e | e
      · subst e; exact owns_ne ho.row h.blk (by decide) hj
      · rw [e] at hj; exact owns_ne ho.row hs.blk (by decide) hj
    have oW : OpenS W (m.owes u).opn (L.set k (L[k].1, L[k].2.dropped by_)) := by
      refine ⟨by rw [hcells, List.length_set]; exact owns_chg ho.row cW hrowne, fun p hp => ?_⟩
      obtain ⟨j, hj, hpj⟩ := List.mem_iff_getElem.1 hp
      rw [List.length_set] at hj
      rw [List.getElem_set] at hpj
      split at hpj
      · rw [← hpj]; exact s4
      · next hkj =>
        rw [← hpj]
        have hmj := List.getElem_mem hj
        have hjne := hnd j hj (fun e => hkj e.symm)
        have hsj := ho.st _ hmj
        refine hsj.chg cW ?_
        rintro (e | e)
        · have h1 := h.blk
          have h2 := hsj.blk
          rw [e, h1] at h2
          simp only [Option.some.injEq, Obj.cells.injEq] at h2
          exact absurd h2.2.1 (by decide)
        · exact hjne e
    have hk' : k < (L.set k (L[k].1, L[k].2.dropped by_)).length := by rw [List.length_set]; exact hk
    have hgk : (L.set k (L[k].1, L[k].2.dropped by_))[k] = (L[k].1, L[k].2.dropped by_) := by simp
    have hset := settle_yes eb (m.owes u) (L.set k (L[k].1, L[k].2.dropped by_)) k W e4 oW (by rw [List.length_set]; exact hL) hk' (by rw [hgk]; simp [StM.closed, StM.dropped, hb]) (fun j hj hjk => by
      rw [hgk, List.getElem_set, if_neg (fun e => hjk e.symm)]
      rw [List.length_set] at hj
      exact hnd j hj hjk)
    rw [hgk] at hset
    refine hset.mono ?_
    rintro e w' ⟨rfl, v, hS⟩
    refine ⟨rfl, v, ⟨hS.en, ?_, ?_, hS.same, ?_⟩⟩
    · refine s4.chg hS.chg ?_
      rintro (e | e)
      · exact hne2 e
      · exact hrowne _ e (Or.inr rfl)
    · have := hS.row
      rw [List.length_set, List.eraseIdx_set_eq] at this
      exact this
    · exact (cW.mono fun j _ e => by
        rcases e with e | e
        · exact Or.inl e
        · exact Or.inr (Or.inl e)).trans (hS.chg.mono fun j _ e => by
        rcases e with e | e
        · exact Or.inr (Or.inl e)
        · exact Or.inr (Or.inr (Or.inr e)))
  have q11 : (w.setCell ⟨L[k].1, 10, none⟩ (.int .i64 by_)).cell? ⟨L[k].1, 11, none⟩ = some (.slice su u cu) := by
    have q := (StB.of (blk_set hs.blk) rfl : StB (w.setCell ⟨L[k].1, 10, none⟩ (.int .i64 by_)) L[k].1 { L[k].2 with reset := by_ }).c11
    rw [q]
    exact congrArg some hu
  generalize hsbq : L[k].1 = sb at *
  clear h ho hs hnd hb hu
  go_enter Tryz.func64, Tryz.ntmps64
  go_upto_region 1 with fail
  have q6 : (w.setCell ⟨sb, 10, none⟩ (.int .i64 by_)).cell? ⟨eb, 6, none⟩ = some (.int .i64 m.owed) := by
    have cq : Chg (fun j => j = sb) w (w.setCell ⟨sb, 10, none⟩ (.int .i64 by_)) := chg_set (Chg.refl _ _) rfl
    rw [cq.cell (p := ⟨eb, 6, none⟩) hlt hne1]
    exact c6
  go_region_law (fail)
  all_goals go_wp2_with fail
  all_goals refine (HSET.out _ rfl).mono ?_
  all_goals rintro e w' ⟨rfl, v, hD⟩
  all_goals have HD := hide hD
  all_goals clear hD
  all_goals go_wp2
  all_goals exact bodyPost_end (results_none rfl _ _ _) rfl ⟨rfl, v, HD.out⟩
end Go.Proofs.YtiphkngfbpdeoaaGreatDoor
namespace Go.Proofs.YtiphkngfbpdeoaaGreatDoor
set_option linter.unusedVariables false
set_option linter.unusedSimpArgs false
open Go.RowKit
def EndM.xcode (m : EndM) (o : Option Str) : Int := if m.fault ≠ 0 then 7 else match o with
  | none => 4
  | some p => if p.2.reset ≠ 0 then 6 else if p.2.closed then 5 else 0
set_option maxRecDepth 100000 in
set_option maxHeartbeats 1600000 in
theorem eReset_no (eb mb : Nat) (m : EndM) (K : List Str) (n : Int) (w : World) (h : EnB w eb m) (hm : m.known = .map (some mb)) (hK : KnownS w mb K) (hx : m.xcode (findK K n) ≠ 0) :
    Calls Tryz.prog 45 #[.pointer (some ⟨eb, 0, none⟩), .int .i64 n] w fun e w' => e = .returned (.int .i64 (m.xcode (findK K n))) ∧ w' = w := by
  have c22 := h.c22
  rw [hm] at c22
  have hlk := hK.lookup n
  have HD := hide (isDead_any eb m w h)
  have HC : Hid (∀ p, findK K n = some p → (Calls Tryz.prog 48 #[.pointer (some ⟨p.1, 0, none⟩)] w fun e w' => e = .returned (.bool (!(p.2.reset == 0))) ∧ w' = w) ∧ (Calls Tryz.prog 63 #[.pointer (some ⟨p.1, 0, none⟩)] w fun e w' => e = .returned (.bool p.2.closed) ∧ w' = w)) := fun p hp => ⟨isReset_any p.1 p.2 w (hK.st p (findK_mem hp).1), isClosed_any p.1 p.2 w (hK.st p (findK_mem hp).1)⟩
  clear h hm hK
  unfold EndM.xcode at hx ⊢
  by_cases hf : m.fault = 0
  · have hb : (m.fault == 0) = true := by simp [hf]
    rw [hb] at HD
    cases hq : findK K n with
    | none =>
      rw [hq] at hlk
      simp only [Option.map_none, ptrO] at hlk
      clear HC hx
      go_enter Tryz.func45, Tryz.ntmps45
      go_wp2_with fail
      refine HD.out.mono ?_
      rintro e w' ⟨rfl, hw'⟩
      rw [hw']
      clear hw' w'
      go_wp2
      go_ret
      exact ⟨by simp [hf], rfl⟩
    | some p =>
      rw [hq] at hlk hx
      simp only [Option.map_some, ptrO] at hlk
      have HR := hide (HC.out p hq).1
      have HL := hide (HC.out p hq).2
      clear HC hq
      obtain ⟨sb, st⟩ := p
      simp only at hlk HR HL hx
      obtain ⟨rb, hrb⟩ : ∃ rb, rb = (st.reset == 0) := ⟨_, rfl⟩
      rw [← hrb] at HR
      have hr0 : (st.reset = 0) = (rb = true) := by rw [hrb]; simp
      clear hrb
      cases rb with
      | false =>
        clear hx HL
        go_enter Tryz.func45, Tryz.ntmps45
        go_wp2_with fail
        refine HD.out.mono ?_
        rintro e w' ⟨rfl, hw'⟩
        rw [hw']
        clear hw' w'
        go_wp2_with fail
        refine HR.out.mono ?_
        rintro e w' ⟨rfl, hw'⟩
        rw [hw']
        clear hw' w'
        go_wp2
        go_ret
        exact ⟨by simp [hf, hr0], rfl⟩
      | true =>
        have hcl : st.closed = true := by
          cases hcl : st.closed with
          | true => rfl
          | false => simp [hf, hr0, hcl] at hx
        rw [hcl] at HL
        clear hx
        go_enter Tryz.func45, Tryz.ntmps45
        go_wp2_with fail
        refine HD.out.mono ?_
        rintro e w' ⟨rfl, hw'⟩
        rw [hw']
        clear hw' w'
        go_wp2_with fail
        refine HR.out.mono ?_
        rintro e w' ⟨rfl, hw'⟩
        rw [hw']
        clear hw' w'
        go_wp2_with fail
        refine HL.out.mono ?_
        rintro e w' ⟨rfl, hw'⟩
        rw [hw']
        clear hw' w'
        go_wp2
        go_ret
        exact ⟨by simp [hf, hr0, hcl], rfl⟩
  · have hb : (m.fault == 0) = false := by rw [beq_eq_false_iff_ne]; exact hf
    rw [hb] at HD
    generalize ptrO ((findK K n).map (·.1)) = pv at hlk
    clear HC hx
    go_enter Tryz.func45, Tryz.ntmps45
    go_wp2_with fail
    refine HD.out.mono ?_
    rintro e w' ⟨rfl, hw'⟩
    rw [hw']
    clear hw' w'
    go_wp2
    go_ret
    exact ⟨by simp [hf], rfl⟩
end Go.Proofs.YtiphkngfbpdeoaaGreatDoor
namespace Go.Proofs.YtiphkngfbpdeoaaGreatDoor
set_option linter.unusedVariables false
set_option linter.unusedSimpArgs false
open Go.RowKit
set_option maxRecDepth 100000 in
set_option maxHeartbeats 800000 in
theorem makeData_no (eb : Nat) (m : EndM) (L : List Str) (nw : Str → Nat) (w : World) (h : EnB w eb m) (ho : OpenS w m.opn L) (hL : L.length ≤ 1048576) (hnw : ∀ p ∈ L, p.2.some? (nw p)) (h1 : -1152921504606846976 ≤ m.other) (h2 : m.other ≤ 1152921504606846976) (h3 : ∀ p ∈ L, -1152921504606846976 ≤ p.2.send ∧ p.2.send ≤ 1152921504606846976) (hno : nextS m.lastData (fun p => m.hasD p.2 (nw p)) L none = none) :
    Calls Tryz.prog 97 #[.pointer (some ⟨eb, 0, none⟩)] w fun e w' => e = .returned (.bool false) ∧ Below w.heap.size w w' := by
  have hn := nextToSend_any eb m L nw w h ho hL hnw h1 h2 h3
  rw [hno] at hn
  have HN := hide hn
  clear h ho hnw h3 hno hn
  go_enter Tryz.func97, Tryz.ntmps97
  go_wp2_with fail
  refine HN.out.mono ?_
  rintro e w1 ⟨rfl, hb⟩
  have HB := hide hb
  clear hb
  simp only [ptrO, Option.map_none]
  go_wp2
  go_ret
  exact ⟨rfl, HB.out⟩
def EndM.dueS (m : EndM) (s : StM) : Bool := !s.hasAll && dueB s.owed (m.own + s.receive) m.batch
def StM.granted (s : StM) : StM := { s with receive := s.receive + s.owed, owed := 0 }
def firstDue (m : EndM) : List Str → Option Str
  | [] => none
  | p :: r => if m.dueS p.2 then some p else firstDue m r
def SCred (w w' : World) (eb : Nat) (m : EndM) (l : List UInt8) (o : Option Str) (e : Ending) : Prop := match o with
  | none => e = .returned (.bool false) ∧ Below w.heap.size w w'
  | some p => e = .returned (.bool true) ∧ ∃ v, EnB w' eb { m with out := v } ∧ StB w' p.1 p.2.granted ∧ w'.ownsRow 0 5 1 v (l ++ lay 6 0 p.2.number (four4 p.2.owed.toNat)).length ((l ++ lay 6 0 p.2.number (four4 p.2.owed.toNat)).map B) ∧ Chg (fun j => j = eb ∨ j = p.1 ∨ m.out.ownBlock = some j) w w' ∧ ∀ j, v.ownBlock = some j → m.out.ownBlock = some j ∨ w.heap.size ≤ j
set_option maxRecDepth 100000 in
set_option maxHeartbeats 1600000 in
theorem makeStreamCredit_any (eb : Nat) (m : EndM) (L : List Str) (l : List UInt8) (w : World) (h : EnB w eb m) (hg : m.greets = false) (ho : OpenS w m.opn L) (hL : L.length ≤ 1048576) (hrow : w.ownsRow 0 5 1 m.out l.length (l.map B)) (hl : l.length ≤ 1073741824) (h1 : -1152921504606846976 ≤ m.own) (h2 : m.own ≤ 1152921504606846976)
    (h3 : ∀ p ∈ L, -1152921504606846976 ≤ p.2.receive ∧ p.2.receive ≤ 1152921504606846976 ∧ 0 ≤ p.2.owed ∧ p.2.owed ≤ 4294967295 ∧ 0 ≤ p.2.number ∧ p.2.number ≤ 32767) :
    Calls Tryz.prog 94 #[.pointer (some ⟨eb, 0, none⟩)] w fun e w' => SCred w w' eb m l (firstDue m L) e := by
  obtain ⟨sr, cr, hv⟩ := slice_len ho.row
  have c23 := h.c23
  rw [hv] at c23
  rw [hv] at ho
  have HO := hide ho
  have H := hide h
  have hlt := h.lt
  have HRW : Hid (∀ wx, Below w.heap.size w wx → ∀ p ∈ L, Calls Tryz.prog 119 #[.pointer (some ⟨eb, 0, none⟩), .pointer (some ⟨p.1, 0, none⟩)] wx fun e w' => e = .returned (.int .i64 (m.own + p.2.receive)) ∧ Below wx.heap.size wx w') := fun wx hb p hp => receiveWindow_any eb p.1 m p.2 wx (h.below hb) ((ho.st p hp).below hb) h1 h2 (h3 p hp).1 (h3 p hp).2.1
  have HPC : Hid (∀ wx, Below w.heap.size w wx → ∀ p ∈ L, Calls Tryz.prog 134 #[.pointer (some ⟨eb, 0, none⟩), .int .i64 p.2.number, .pointer (some ⟨p.1, 0, none⟩)] wx fun e w' => e = .returned (.tuple #[]) ∧ SCred w w' eb m l (some p) (.returned (.bool true))) := fun wx hb p hp => by
    obtain ⟨q1, q2, q3, q4, q5, q6⟩ := h3 p hp
    have hs := (ho.st p hp).below hb
    have he := h.below hb
    obtain ⟨n, hn⟩ : ∃ n : Nat, p.2.owed = n := ⟨p.2.owed.toNat, by omega⟩
    have hne : eb ≠ p.1 := fun e => by
      have h1 := he.blk
      have h2 := hs.blk
      rw [← e, h1] at h2
      simp only [Option.some.injEq, Obj.cells.injEq] at h2
      exact absurd h2.2.1 (by decide)
    have hrx := owns_chg hrow (Chg.of_below (S := fun _ => False) hb) (fun _ _ => id)
    have hos : m.out.ownBlock ≠ some p.1 := fun e => owns_ne hrx hs.blk (by decide) e
    have hc : Chg (fun j => j = p.1) wx ((wx.setCell ⟨p.1, 0 + 1, none⟩ (.int .i64 (p.2.receive + n))).setCell ⟨p.1, 0 + 2, none⟩ (.int .i64 0)) := chg_set (chg_set (Chg.refl _ _) rfl) rfl
    have hs1 : StB ((wx.setCell ⟨p.1, 0 + 1, none⟩ (.int .i64 (p.2.receive + n))).setCell ⟨p.1, 0 + 2, none⟩ (.int .i64 0)) p.1 p.2.granted := by
      refine StB.of (blk_set (blk_set hs.blk)) ?_
      unfold StM.granted; rw [← hn]; rfl
    refine (putCredit_any eb l wx p.1 0 p.2.number p.2.receive n m _ rfl (he.chg hc hne) hg hs.c1 (by rw [hs.c2, hn]) hs.fr q1 q2 (by omega) q5 q6 (owns_chg hrx hc (fun j hj e => hos (by rw [hj, e]))) hl).mono ?_
    rintro e w' ⟨rfl, v, hp'⟩
    have hch := (Chg.of_below (S := fun j => j = eb ∨ j = p.1 ∨ m.out.ownBlock = some j) hb).trans (hc.mono fun j _ e => Or.inr (Or.inr (Or.inl e)))
    refine ⟨rfl, rfl, v, hp'.b, hs1.chg hp'.chg (by rintro (e | e); exact hne e.symm; exact hos e), by rw [hn]; exact hp'.row, hch.trans (hp'.chg.mono fun j _ e => by
        rcases e with e | e
        · exact Or.inr (Or.inl e)
        · exact Or.inr (Or.inr (Or.inr e))), fun j hj => (hp'.fresh j hj).imp_right fun e => Nat.le_trans hch.size e⟩
  clear h ho hv hrow h3
  generalize hR : firstDue m L = R
  have HR := hide hR
  clear hR
  go_enter Tryz.func94, Tryz.ntmps94
  go_wp2
  go_loopw [11] (fun i wr => ∃ (k : Nat) (wv : World), wv = wr ∧ i = .int .i64 (k : Int) ∧ k ≤ L.length ∧ Below w.heap.size w wv ∧ firstDue m (L.drop k) = R) (fun i _ => L.length - (intOf i).toNat)
  case atStart => exact ⟨0, _, rfl, rfl, Nat.zero_le _, Below.refl _ _, HR.out⟩
  case round =>
    obtain ⟨k, wv, hwv, rfl, hk, hbel, hnx⟩ := hrel
    subst hwv
    by_cases hlk : k < L.length
    · obtain ⟨g, c, hv, hcell, hcap⟩ := (HO.out.below hbel).at hlk
      simp only [Value.slice.injEq] at hv
      obtain ⟨rfl, _, rfl⟩ := hv
      have hm := List.getElem_mem hlk
      rw [List.drop_eq_getElem_cons hlk, firstDue] at hnx
      have HRX : Hid (∀ wx, Below wv.heap.size wv wx → Calls Tryz.prog 119 #[.pointer (some ⟨eb, 0, none⟩), .pointer (some ⟨L[k].1, 0, none⟩)] wx fun e w' => e = .returned (.int .i64 (m.own + L[k].2.receive)) ∧ Below wx.heap.size wx w') := fun wx hb => HRW.out wx (hbel.trans (hb.mono hbel.size)) _ hm
      have HPX : Hid (∀ wx, Below wv.heap.size wv wx → Calls Tryz.prog 134 #[.pointer (some ⟨eb, 0, none⟩), .int .i64 L[k].2.number, .pointer (some ⟨L[k].1, 0, none⟩)] wx fun e w' => e = .returned (.tuple #[]) ∧ SCred w w' eb m l (some L[k]) (.returned (.bool true))) := fun wx hb => HPC.out wx (hbel.trans (hb.mono hbel.size)) _ hm
      have HST := hide ((HO.out.st _ hm).below hbel)
      have HE := hide (H.out.below hbel)
      generalize L[k] = p at hnx HRX HPX HST hcell
      obtain ⟨sb, st⟩ := p
      simp only at hnx HRX HPX HST hcell
      have s2 := HST.out.c2
      have s3 := HST.out.c3
      have s9 := HST.out.c9
      have b3 := HE.out.c3
      have hslt := HST.out.lt
      have helt := HE.out.lt
      have HNX := hide hnx
      have HBE := hide hbel
      clear hnx hbel hm
      obtain ⟨D, hD⟩ : ∃ D, D = m.dueS st := ⟨_, rfl⟩
      have HD := hide hD
      clear hD
      go_upto_region 4 with fail
      go_cut [34] (fun s34 wx => s34 = .bool D ∧ Below wv.heap.size wv wx)
      case first =>
        cases hh : st.hasAll with
        | true =>
          rw [hh] at s9
          have hd : D = false := by rw [HD.out]; simp [EndM.dueS, hh]
          subst hd
          go_quiet (fail)
          go_wp2_with fail
          go_meet
          exact ⟨rfl, bel_drewN (Below.refl _ _)⟩
        | false =>
          rw [hh] at s9
          have hd : D = dueB st.owed (m.own + st.receive) m.batch := by rw [HD.out]; simp [EndM.dueS, hh]
          have HDU := hide (isDue_any st.owed (m.own + st.receive) m.batch)
          rw [← hd] at HDU
          clear HPX HNX HD hd
          go_region_held3 (fun w' => w'.cell? ⟨sb, 9, none⟩ = some (.bool false) ∧ w'.cell? ⟨sb, 2, none⟩ = some (.int .i64 st.owed) ∧ w'.cell? ⟨eb, 3, none⟩ = some (.int .i64 m.batch)) (go_keep)
            (first
              | (go_at_call 119; refine (HRX.out wv.drew ⟨rfl, rfl, rfl, Nat.le_refl _, fun _ _ => rfl⟩).mono ?_; rintro e w1 ⟨rfl, hb1⟩; have hB1 : Below wv.heap.size wv w1 := ⟨hb1.os, hb1.tape, hb1.output, hb1.size, hb1.block⟩; have t9 : w1.cell? ⟨sb, 9, none⟩ = some (.bool false) := (by rw [(HST.out.below hB1).c9, hh]); have t2 := (HST.out.below hB1).c2; have t3 := (HE.out.below hB1).c3)
              | (go_at_call 133; refine (HDU.out _).mono ?_; rintro e w2 ⟨rfl, rfl⟩))
          all_goals (go_wp2_with fail; go_meet; exact ⟨rfl, hB1⟩)
      case rest =>
        obtain ⟨rfl, hbx⟩ := hcut
        obtain ⟨w4, hw4⟩ : ∃ w4, w4 = wc := ⟨wc, rfl⟩
        subst hw4
        have HX := hide hbx
        have s3' : w4.cell? ⟨sb, 3, none⟩ = some (.int .i64 st.number) := (HST.out.below hbx).c3
        clear hbx s2 s3 s9 b3
        cases D with
        | false =>
          have hn2 := HNX.out
          rw [← HD.out] at hn2
          have HN2 := hide hn2
          clear hn2
          go_wp2
          all_goals go_roundw
          case rel => exact ⟨k + 1, _, rfl, by go_num, by omega, HBE.out.trans (HX.out.mono HBE.out.size), by simpa using HN2.out⟩
          case measure => simp [intOf]; omega
        | true =>
          have hn2 := HNX.out
          rw [← HD.out] at hn2
          simp only [if_true] at hn2
          have HN2 := hide hn2
          clear hn2
          go_upto_region 5 with fail
          go_cut [] (fun wx => SCred w wx eb m l (some (sb, st)) (.returned (.bool true)))
          case first =>
            go_region_held3 (fun w' => w'.cell? ⟨sb, 3, none⟩ = some (.int .i64 st.number)) (go_keep)
              (first | (go_at_call 134; refine (HPX.out w4.drew (HX.out.trans ⟨rfl, rfl, rfl, Nat.le_refl _, fun _ _ => rfl⟩)).mono ?_; rintro e w' ⟨rfl, hsc⟩; have q3 : w'.cell? ⟨sb, 3, none⟩ = some (.int .i64 st.number) := (by obtain ⟨-, v, -, hst, -⟩ := hsc; exact hst.c3)))
            all_goals (go_wp2_with fail; go_meet; exact hsc)
          case rest =>
            have HC := hide hcut
            clear hcut
            go_wp2
            go_ret
            rw [← HN2.out]
            exact HC.out
    · have hke : k = L.length := by omega
      rw [List.drop_of_length_le (by omega), firstDue] at hnx
      have HNX := hide hnx
      have HBE := hide hbel
      clear hnx hbel
      go_wp2
      go_ret
      rw [← HNX.out]
      exact ⟨rfl, HBE.out⟩
end Go.Proofs.YtiphkngfbpdeoaaGreatDoor
namespace Go.Proofs.YtiphkngfbpdeoaaGreatDoor
set_option linter.unusedVariables false
set_option linter.unusedSimpArgs false
open Go.RowKit
def RowAt (w : World) (e : TypeId) (size : Nat) (v : Value) (n : Nat) (xs : List Value) : Prop :=
  xs.length = n * size ∧ ((v = .slice none 0 0 ∧ n = 0) ∨ ∃ g o cap cur, v = .slice (some ⟨g, o, none⟩) n cap ∧ w.heap[g]? = some (.cells cur e (0, 0)) ∧ n ≤ cap ∧ cap ≤ maxLen ∧ o + cap * size ≤ cur.size ∧ (cur.toList.drop o).take (n * size) = xs)
theorem RowAt.of_owns {w : World} {e : TypeId} {size n : Nat} {v : Value} {xs : List Value} (h : w.ownsRow 0 e size v n xs) : RowAt w e size v n xs := by
  refine ⟨h.1, ?_⟩
  rcases h.2 with h1 | ⟨g, cap, cur, h1, h2, h3, h4, h5, h6, h7⟩
  · exact Or.inl h1
  · exact Or.inr ⟨g, 0, cap, cur, h1, h3, h4, h5, by rw [h6, Nat.zero_add]; exact Nat.le_refl _, by rw [List.drop_zero]; exact h7⟩
theorem RowAt.lt {w : World} {e : TypeId} {size n : Nat} {v : Value} {xs : List Value} (h : RowAt w e size v n xs) {j : Nat} (hj : v.ownBlock = some j) : j < w.heap.size := by
  rcases h.2 with ⟨h1, -⟩ | ⟨g, o, cap, cur, h1, h3, -⟩
  · subst h1; simp [Value.ownBlock] at hj
  · subst h1; simp [Value.ownBlock] at hj; subst hj; exact lt_of_block h3
theorem RowAt.chg {S : Nat → Prop} {w w' : World} {e : TypeId} {size n : Nat} {v : Value} {xs : List Value} (h : RowAt w e size v n xs) (hc : Chg S w w') (hs : ∀ j, v.ownBlock = some j → ¬ S j) : RowAt w' e size v n xs := by
  refine ⟨h.1, ?_⟩
  rcases h.2 with h1 | ⟨g, o, cap, cur, h1, h3, h4⟩
  · exact Or.inl h1
  · exact Or.inr ⟨g, o, cap, cur, h1, by rw [hc.block g (lt_of_block h3) (hs g (by subst h1; rfl))]; exact h3, h4⟩
theorem RowAt.ne {w : World} {e e' : TypeId} {size n b : Nat} {v : Value} {xs : List Value} {cs : Array Value} {fr : Nat × Nat} (h : RowAt w e size v n xs) (hb : w.heap[b]? = some (.cells cs e' fr)) (hne : e ≠ e') : v.ownBlock ≠ some b := by
  intro hj
  rcases h.2 with ⟨h1, -⟩ | ⟨g, o, cap, cur, h1, h3, -⟩
  · subst h1; simp [Value.ownBlock] at hj
  · subst h1; simp [Value.ownBlock] at hj; subst hj; rw [hb] at h3; simp only [Option.some.injEq, Obj.cells.injEq] at h3; exact hne h3.2.1.symm
structure GSt where
  sb : Nat
  st : StM
  un : List UInt8
  wa : List UInt8
def noSt : GSt := ⟨0, ⟨0, 0, 0, 0, .slice none 0 0, false, false, false, false, false, 0, .slice none 0 0, .slice none 0 0⟩, [], []⟩
def GSt.str (s : GSt) : Str := (s.sb, s.st)
def atN (K : List GSt) (n : Int) : GSt := (K.find? fun s => s.st.number == n).getD noSt
def openS (K : List GSt) (L : List Int) : List Str := L.map fun n => (atN K n).str
structure Ans where
  kind : Int
  flags : Int
  body : List UInt8
  bv : Value
def Ans.cells (a : Ans) : List Value := [.int .i64 a.kind, .int .i64 a.flags, .int .i64 0, a.bv]
structure GEnd where
  m : EndM
  K : List GSt
  L : List Int
  out : List UInt8
  got : List UInt8
  ans : List Ans
  res : List Int
structure ApartE (T : Nat → Nat) (m : EndM) (K : List GSt) (A : List Ans) : Prop where
  out : ∀ j, m.out.ownBlock = some j → T j = 0
  got : ∀ j, m.got.ownBlock = some j → T j = 1
  un : ∀ p ∈ K, ∀ j, p.st.unread.ownBlock = some j → T j = 3 + 2 * p.sb
  wa : ∀ p ∈ K, ∀ j, p.st.waiting.ownBlock = some j → T j = 4 + 2 * p.sb
  an : ∀ a ∈ A, ∀ j, a.bv.ownBlock = some j → T j = 2
structure Inv (w : World) (eb mb : Nat) (g : GEnd) : Prop where
  en : EnB w eb g.m
  kn : KnownS w mb (g.K.map GSt.str)
  km : g.m.known = .map (some mb)
  nd : (g.K.map GSt.sb).Nodup
  nn : (g.K.map fun s => s.st.number).Nodup
  ln : g.L.Nodup
  has : ∀ n ∈ g.L, ∃ s ∈ g.K, s.st.number = n
  row : w.ownsRow 0 118 1 g.m.opn g.L.length (opnCells (openS g.K g.L))
  out : w.ownsRow 0 5 1 g.m.out g.out.length (g.out.map B)
  got : w.ownsRow 0 5 1 g.m.got g.got.length (g.got.map B)
  un : ∀ p ∈ g.K, w.ownsRow 0 5 1 p.st.unread p.un.length (p.un.map B)
  wa : ∀ p ∈ g.K, w.ownsRow 0 5 1 p.st.waiting p.wa.length (p.wa.map B)
  ans : RowAt w 105 4 g.m.answers g.ans.length (g.ans.flatMap Ans.cells)
  anb : ∀ a ∈ g.ans, w.ownsRow 0 5 1 a.bv a.body.length (a.body.map B)
  res : RowAt w 3 1 g.m.resets g.res.length (g.res.map fun i => .int .i64 i)
  ap : ∃ T, ApartE T g.m g.K g.ans
def Foot (eb mb : Nat) (g : GEnd) (j : Nat) : Prop := j = eb ∨ j = mb ∨ g.m.out.ownBlock = some j ∨ g.m.got.ownBlock = some j ∨ g.m.opn.ownBlock = some j ∨ g.m.answers.ownBlock = some j ∨ g.m.resets.ownBlock = some j ∨ (∃ a ∈ g.ans, a.bv.ownBlock = some j) ∨ ∃ p ∈ g.K, j = p.sb ∨ p.st.unread.ownBlock = some j ∨ p.st.waiting.ownBlock = some j
structure Next (w w' : World) (eb mb : Nat) (g g' : GEnd) : Prop where
  inv : Inv w' eb mb g'
  chg : Chg (Foot eb mb g) w w'
  grow : ∀ j, Foot eb mb g' j → Foot eb mb g j ∨ w.heap.size ≤ j
theorem find_nd {α : Type} (f : α → Int) : ∀ {K : List α}, (K.map f).Nodup → ∀ {s : α}, s ∈ K → K.find? (fun x => f x == f s) = some s
  | [], _, _, h => by cases h
  | x :: r, hn, s, hs => by
    rw [List.map_cons, List.nodup_cons] at hn
    rw [List.find?_cons]
    rcases List.mem_cons.1 hs with rfl | h
    · simp
    · have : f x ≠ f s := fun e => hn.1 (by rw [e]; exact List.mem_map.2 ⟨s, h, rfl⟩)
      simp only [beq_eq_false_iff_ne.2 this]
      exact find_nd f hn.2 h
theorem atN_mem {K : List GSt} (hn : (K.map fun s => s.st.number).Nodup) {s : GSt} (h : s ∈ K) : atN K s.st.number = s := by
  unfold atN
  rw [find_nd (fun s : GSt => s.st.number) hn h]
  rfl
theorem findK_str (K : List GSt) (n : Int) : findK (K.map GSt.str) n = (K.find? fun s => s.st.number == n).map GSt.str := by
  unfold findK
  induction K with
  | nil => rfl
  | cons x r ih =>
    rw [List.map_cons, List.find?_cons, List.find?_cons]
    show (match x.st.number == n with | true => _ | false => _) = _
    cases x.st.number == n
    · exact ih
    · rfl
theorem openS_length (K : List GSt) (L : List Int) : (openS K L).length = L.length := by simp [openS]
section
variable {w w' w'' : World} {eb mb : Nat} {g g' g'' : GEnd}
theorem Inv.st (h : Inv w eb mb g) {p : GSt} (hp : p ∈ g.K) : StB w p.sb p.st := h.kn.st p.str (List.mem_map.2 ⟨p, hp, rfl⟩)
theorem Inv.at (h : Inv w eb mb g) {n : Int} (hn : n ∈ g.L) : atN g.K n ∈ g.K ∧ (atN g.K n).st.number = n := by
  obtain ⟨s, hs, rfl⟩ := h.has n hn
  rw [atN_mem h.nn hs]
  exact ⟨hs, rfl⟩
theorem Inv.open (h : Inv w eb mb g) : OpenS w g.m.opn (openS g.K g.L) := ⟨by rw [openS_length]; exact h.row, fun p hp => by
  obtain ⟨n, hn, rfl⟩ := List.mem_map.1 hp
  exact h.st (h.at hn).1⟩
theorem block_ne {w : World} {a b : Nat} {cs cs' : Array Value} {t t' : TypeId} {f f' : Nat × Nat} (h : w.heap[a]? = some (.cells cs t f)) (h' : w.heap[b]? = some (.cells cs' t' f')) (hne : t ≠ t') : a ≠ b := fun e => by
  rw [e, h'] at h
  simp only [Option.some.injEq, Obj.cells.injEq] at h
  exact hne h.2.1.symm
theorem map_ne {w : World} {a b : Nat} {es : Array MapEntry} {c : Nat} {cs' : Array Value} {t' : TypeId} {f' : Nat × Nat} (h : w.heap[a]? = some (.map es c)) (h' : w.heap[b]? = some (.cells cs' t' f')) : a ≠ b := fun e => by
  rw [e, h'] at h
  cases h
theorem KnownS.ne_cells {mb b : Nat} {K : List Str} {cs : Array Value} {t : TypeId} {f : Nat × Nat} (h : KnownS w mb K) (h' : w.heap[b]? = some (.cells cs t f)) : mb ≠ b := by
  obtain ⟨es, c, hb, -⟩ := h.blk
  exact map_ne hb h'
theorem owns_mb {mb n e sz : Nat} {K : List Str} {v : Value} {xs : List Value} (h : KnownS w mb K) (h' : w.ownsRow 0 e sz v n xs) : v.ownBlock ≠ some mb := by
  intro hj
  rcases h'.2 with ⟨h1, -⟩ | ⟨g, cap, cur, h1, h2, h3, -⟩
  · subst h1; simp [Value.ownBlock] at hj
  · subst h1; simp [Value.ownBlock] at hj; exact h.ne_cells h3 hj.symm
theorem rowAt_mb {mb n e sz : Nat} {K : List Str} {v : Value} {xs : List Value} (h : KnownS w mb K) (h' : RowAt w e sz v n xs) : v.ownBlock ≠ some mb := by
  intro hj
  rcases h'.2 with ⟨h1, -⟩ | ⟨g, o, cap, cur, h1, h3, -⟩
  · subst h1; simp [Value.ownBlock] at hj
  · subst h1; simp [Value.ownBlock] at hj; exact h.ne_cells h3 hj.symm
theorem Inv.eb_mb (h : Inv w eb mb g) : mb ≠ eb := h.kn.ne_cells h.en.blk
theorem Inv.st_eb (h : Inv w eb mb g) {p : GSt} (hp : p ∈ g.K) : p.sb ≠ eb := block_ne (h.st hp).blk h.en.blk (by decide)
theorem Inv.st_mb (h : Inv w eb mb g) {p : GSt} (hp : p ∈ g.K) : mb ≠ p.sb := h.kn.ne_cells (h.st hp).blk
theorem rows_ne2 {e e' sz sz' n n' : Nat} {v v' : Value} {xs xs' : List Value} (h : w.ownsRow 0 e sz v n xs) (h' : RowAt w e' sz' v' n' xs') (hne : e ≠ e') {k : Nat} (hk : v.ownBlock = some k) : v'.ownBlock ≠ some k := by
  intro hk'
  rcases h.2 with ⟨h1, -⟩ | ⟨g, cap, cur, h1, h2, h3, -⟩
  · subst h1; simp [Value.ownBlock] at hk
  · subst h1; simp [Value.ownBlock] at hk; subst hk; exact h'.ne h3 (fun e => hne e.symm) hk'
theorem rows_ne3 {e e' sz sz' n n' : Nat} {v v' : Value} {xs xs' : List Value} (h : RowAt w e sz v n xs) (h' : RowAt w e' sz' v' n' xs') (hne : e ≠ e') {k : Nat} (hk : v.ownBlock = some k) : v'.ownBlock ≠ some k := by
  intro hk'
  rcases h.2 with ⟨h1, -⟩ | ⟨g, o, cap, cur, h1, h3, -⟩
  · subst h1; simp [Value.ownBlock] at hk
  · subst h1; simp [Value.ownBlock] at hk; subst hk; exact h'.ne h3 (fun e => hne e.symm) hk'
theorem Inv.chg {S : Nat → Prop} (h : Inv w eb mb g) (hc : Chg S w w') (hs : ∀ j, Foot eb mb g j → ¬ S j) : Inv w' eb mb g where
  en := h.en.chg hc (hs _ (Or.inl rfl))
  kn := h.kn.chg hc (hs _ (Or.inr (Or.inl rfl))) (fun p hp => by
    obtain ⟨q, hq, rfl⟩ := List.mem_map.1 hp
    exact hs _ (Or.inr (Or.inr (Or.inr (Or.inr (Or.inr (Or.inr (Or.inr (Or.inr ⟨q, hq, Or.inl rfl⟩)))))))))
  km := h.km
  nd := h.nd
  nn := h.nn
  ln := h.ln
  has := h.has
  row := owns_chg h.row hc (fun j hj => hs j (by unfold Foot; simp [hj]))
  out := owns_chg h.out hc (fun j hj => hs j (by unfold Foot; simp [hj]))
  got := owns_chg h.got hc (fun j hj => hs j (by unfold Foot; simp [hj]))
  un := fun p hp => owns_chg (h.un p hp) hc (fun j hj => hs j (by unfold Foot; exact Or.inr (Or.inr (Or.inr (Or.inr (Or.inr (Or.inr (Or.inr (Or.inr ⟨p, hp, Or.inr (Or.inl hj)⟩)))))))))
  wa := fun p hp => owns_chg (h.wa p hp) hc (fun j hj => hs j (by unfold Foot; exact Or.inr (Or.inr (Or.inr (Or.inr (Or.inr (Or.inr (Or.inr (Or.inr ⟨p, hp, Or.inr (Or.inr hj)⟩)))))))))
  ans := h.ans.chg hc (fun j hj => hs j (by unfold Foot; simp [hj]))
  anb := fun a ha => owns_chg (h.anb a ha) hc (fun j hj => hs j (Or.inr (Or.inr (Or.inr (Or.inr (Or.inr (Or.inr (Or.inr (Or.inl ⟨a, ha, hj⟩)))))))))
  res := h.res.chg hc (fun j hj => hs j (by unfold Foot; simp [hj]))
  ap := h.ap
theorem Inv.below (h : Inv w eb mb g) (hb : Below w.heap.size w w') : Inv w' eb mb g := h.chg (Chg.of_below (S := fun _ => False) hb) (fun _ _ => id)
theorem Foot.lt (h : Inv w eb mb g) {j : Nat} (hj : Foot eb mb g j) : j < w.heap.size := by
  rcases hj with e | e | e | e | e | e | e | ⟨a, ha, e⟩ | ⟨p, hp, e | e | e⟩
  · rw [e]; exact h.en.lt
  · rw [e]; exact h.kn.lt
  · exact owns_lt h.out e
  · exact owns_lt h.got e
  · exact owns_lt h.row e
  · exact h.ans.lt e
  · exact h.res.lt e
  · exact owns_lt (h.anb a ha) e
  · rw [e]; exact (h.st hp).lt
  · exact owns_lt (h.un p hp) e
  · exact owns_lt (h.wa p hp) e
theorem Next.refl (h : Inv w eb mb g) : Next w w eb mb g g := ⟨h, Chg.refl _ _, fun _ hj => Or.inl hj⟩
theorem Next.of_below (h : Inv w eb mb g) (hb : Below w.heap.size w w') : Next w w' eb mb g g := ⟨h.below hb, Chg.of_below hb, fun _ hj => Or.inl hj⟩
theorem Next.trans (h : Next w w' eb mb g g') (h' : Next w' w'' eb mb g' g'') : Next w w'' eb mb g g'' where
  inv := h'.inv
  chg := h.chg.trans (h'.chg.mono fun j _ hj => (h.grow j hj).symm)
  grow := fun j hj => by
    rcases h'.grow j hj with a | a
    · exact h.grow j a
    · exact Or.inr (Nat.le_trans h.chg.size a)
theorem Next.pre (h : Next w' w'' eb mb g g') (hb : Below w.heap.size w w') : Next w w'' eb mb g g' where
  inv := h.inv
  chg := (Chg.of_below hb).trans (h.chg.mono fun j _ hj => Or.inr hj)
  grow := fun j hj => (h.grow j hj).imp_right fun a => Nat.le_trans hb.size a
theorem Next.then_below (h : Next w w' eb mb g g') (hb : Below w'.heap.size w' w'') : Next w w'' eb mb g g' := h.trans (Next.of_below h.inv hb)
theorem Next.bytes (h : Next w w' eb mb g g') {bv : Value} {l : List UInt8} (hb : BytesIn w bv l) (hn : ∀ j, bv.ownBlock = some j → ¬ Foot eb mb g j) : BytesIn w' bv l ∧ ∀ j, bv.ownBlock = some j → ¬ Foot eb mb g' j := by
  refine ⟨hb.chg h.chg hn, fun j hj hf => ?_⟩
  rcases h.grow j hf with a | a
  · exact hn j hj a
  · have := hb.lt hj; omega
theorem Inv.apart (h : Inv w eb mb g) (tg : Nat → Nat) (m' : EndM) (K' : List GSt) (A' : List Ans) (ho : ∀ j, m'.out.ownBlock = some j → g.m.out.ownBlock = some j ∨ (w.heap.size ≤ j ∧ tg j = 0)) (hg : ∀ j, m'.got.ownBlock = some j → g.m.got.ownBlock = some j ∨ (w.heap.size ≤ j ∧ tg j = 1))
    (hu : ∀ p ∈ K', ∀ j, p.st.unread.ownBlock = some j → (∃ q ∈ g.K, q.sb = p.sb ∧ q.st.unread.ownBlock = some j) ∨ (w.heap.size ≤ j ∧ tg j = 3 + 2 * p.sb))
    (hw : ∀ p ∈ K', ∀ j, p.st.waiting.ownBlock = some j → (∃ q ∈ g.K, q.sb = p.sb ∧ q.st.waiting.ownBlock = some j) ∨ (w.heap.size ≤ j ∧ tg j = 4 + 2 * p.sb))
    (ha : ∀ a ∈ A', ∀ j, a.bv.ownBlock = some j → (∃ b ∈ g.ans, b.bv.ownBlock = some j) ∨ (w.heap.size ≤ j ∧ tg j = 2)) : ∃ T, ApartE T m' K' A' := by
  obtain ⟨T, hT⟩ := h.ap
  refine ⟨fun j => if j < w.heap.size then T j else tg j, ⟨?_, ?_, ?_, ?_, ?_⟩⟩
  · intro j hj
    rcases ho j hj with a | ⟨a, b⟩
    · simp only [owns_lt h.out a, if_true]; exact hT.out j a
    · simp only [Nat.not_lt.2 a, if_false]; exact b
  · intro j hj
    rcases hg j hj with a | ⟨a, b⟩
    · simp only [owns_lt h.got a, if_true]; exact hT.got j a
    · simp only [Nat.not_lt.2 a, if_false]; exact b
  · intro p hp j hj
    rcases hu p hp j hj with ⟨q, hq, e, a⟩ | ⟨a, b⟩
    · simp only [owns_lt (h.un q hq) a, if_true]; rw [← e]; exact hT.un q hq j a
    · simp only [Nat.not_lt.2 a, if_false]; exact b
  · intro p hp j hj
    rcases hw p hp j hj with ⟨q, hq, e, a⟩ | ⟨a, b⟩
    · simp only [owns_lt (h.wa q hq) a, if_true]; rw [← e]; exact hT.wa q hq j a
    · simp only [Nat.not_lt.2 a, if_false]; exact b
  · intro c hc j hj
    rcases ha c hc j hj with ⟨q, hq, a⟩ | ⟨a, b⟩
    · simp only [owns_lt (h.anb q hq) a, if_true]; exact hT.an q hq j a
    · simp only [Nat.not_lt.2 a, if_false]; exact b
theorem Inv.out_got (h : Inv w eb mb g) {j : Nat} (hj : g.m.out.ownBlock = some j) : g.m.got.ownBlock ≠ some j := fun e => by
  obtain ⟨T, hT⟩ := h.ap
  have := hT.out j hj; have := hT.got j e; omega
theorem Inv.out_un (h : Inv w eb mb g) {p : GSt} (hp : p ∈ g.K) {j : Nat} (hj : p.st.unread.ownBlock = some j) : g.m.out.ownBlock ≠ some j := fun e => by
  obtain ⟨T, hT⟩ := h.ap
  have := hT.out j e; have := hT.un p hp j hj; omega
theorem Inv.out_wa (h : Inv w eb mb g) {p : GSt} (hp : p ∈ g.K) {j : Nat} (hj : p.st.waiting.ownBlock = some j) : g.m.out.ownBlock ≠ some j := fun e => by
  obtain ⟨T, hT⟩ := h.ap
  have := hT.out j e; have := hT.wa p hp j hj; omega
theorem Inv.got_un (h : Inv w eb mb g) {p : GSt} (hp : p ∈ g.K) {j : Nat} (hj : p.st.unread.ownBlock = some j) : g.m.got.ownBlock ≠ some j := fun e => by
  obtain ⟨T, hT⟩ := h.ap
  have := hT.got j e; have := hT.un p hp j hj; omega
theorem Inv.got_wa (h : Inv w eb mb g) {p : GSt} (hp : p ∈ g.K) {j : Nat} (hj : p.st.waiting.ownBlock = some j) : g.m.got.ownBlock ≠ some j := fun e => by
  obtain ⟨T, hT⟩ := h.ap
  have := hT.got j e; have := hT.wa p hp j hj; omega
theorem Inv.un_wa (h : Inv w eb mb g) {p q : GSt} (hp : p ∈ g.K) (hq : q ∈ g.K) {j : Nat} (hj : p.st.unread.ownBlock = some j) : q.st.waiting.ownBlock ≠ some j := fun e => by
  obtain ⟨T, hT⟩ := h.ap
  have := hT.un p hp j hj; have := hT.wa q hq j e; omega
theorem Inv.un_un (h : Inv w eb mb g) {p q : GSt} (hp : p ∈ g.K) (hq : q ∈ g.K) (hne : p.sb ≠ q.sb) {j : Nat} (hj : p.st.unread.ownBlock = some j) : q.st.unread.ownBlock ≠ some j := fun e => by
  obtain ⟨T, hT⟩ := h.ap
  have := hT.un p hp j hj; have := hT.un q hq j e; omega
theorem Inv.wa_wa (h : Inv w eb mb g) {p q : GSt} (hp : p ∈ g.K) (hq : q ∈ g.K) (hne : p.sb ≠ q.sb) {j : Nat} (hj : p.st.waiting.ownBlock = some j) : q.st.waiting.ownBlock ≠ some j := fun e => by
  obtain ⟨T, hT⟩ := h.ap
  have := hT.wa p hp j hj; have := hT.wa q hq j e; omega
theorem Inv.out_an (h : Inv w eb mb g) {a : Ans} (ha : a ∈ g.ans) {j : Nat} (hj : a.bv.ownBlock = some j) : g.m.out.ownBlock ≠ some j := fun e => by
  obtain ⟨T, hT⟩ := h.ap
  have := hT.out j e; have := hT.an a ha j hj; omega
theorem Inv.got_an (h : Inv w eb mb g) {a : Ans} (ha : a ∈ g.ans) {j : Nat} (hj : a.bv.ownBlock = some j) : g.m.got.ownBlock ≠ some j := fun e => by
  obtain ⟨T, hT⟩ := h.ap
  have := hT.got j e; have := hT.an a ha j hj; omega
theorem Inv.un_an (h : Inv w eb mb g) {a : Ans} (ha : a ∈ g.ans) {j : Nat} (hj : a.bv.ownBlock = some j) {p : GSt} (hp : p ∈ g.K) : p.st.unread.ownBlock ≠ some j := fun e => by
  obtain ⟨T, hT⟩ := h.ap
  have := hT.un p hp j e; have := hT.an a ha j hj; omega
theorem Inv.wa_an (h : Inv w eb mb g) {a : Ans} (ha : a ∈ g.ans) {j : Nat} (hj : a.bv.ownBlock = some j) {p : GSt} (hp : p ∈ g.K) : p.st.waiting.ownBlock ≠ some j := fun e => by
  obtain ⟨T, hT⟩ := h.ap
  have := hT.wa p hp j e; have := hT.an a ha j hj; omega
theorem inj_nd {α β : Type} (f : α → β) : ∀ {K : List α}, (K.map f).Nodup → ∀ {s t : α}, s ∈ K → t ∈ K → f s = f t → s = t
  | [], _, _, _, h, _, _ => by cases h
  | x :: r, hn, s, t, hs, ht, e => by
    rw [List.map_cons, List.nodup_cons] at hn
    rcases List.mem_cons.1 hs with rfl | h1
    · rcases List.mem_cons.1 ht with rfl | h2
      · rfl
      · exact absurd (List.mem_map.2 ⟨t, h2, e.symm⟩) hn.1
    · rcases List.mem_cons.1 ht with rfl | h2
      · exact absurd (List.mem_map.2 ⟨s, h1, e⟩) hn.1
      · exact inj_nd f hn.2 h1 h2 e
theorem Inv.same (h : Inv w eb mb g) {p q : GSt} (hp : p ∈ g.K) (hq : q ∈ g.K) (he : p.sb = q.sb) : p = q := inj_nd GSt.sb h.nd hp hq he
theorem Inv.foot_st (h : Inv w eb mb g) {p : GSt} (hp : p ∈ g.K) : Foot eb mb g p.sb := Or.inr (Or.inr (Or.inr (Or.inr (Or.inr (Or.inr (Or.inr (Or.inr ⟨p, hp, Or.inl rfl⟩)))))))
theorem foot_un {p : GSt} (hp : p ∈ g.K) {j : Nat} (hj : p.st.unread.ownBlock = some j) : Foot eb mb g j := Or.inr (Or.inr (Or.inr (Or.inr (Or.inr (Or.inr (Or.inr (Or.inr ⟨p, hp, Or.inr (Or.inl hj)⟩)))))))
theorem foot_wa {p : GSt} (hp : p ∈ g.K) {j : Nat} (hj : p.st.waiting.ownBlock = some j) : Foot eb mb g j := Or.inr (Or.inr (Or.inr (Or.inr (Or.inr (Or.inr (Or.inr (Or.inr ⟨p, hp, Or.inr (Or.inr hj)⟩)))))))
theorem Inv.onEnd {S : Nat → Prop} {m' : EndM} {o' : List UInt8} {A' : List Ans} {R' : List Int} (h : Inv w eb mb g) (hc : Chg S w w') (hs : ∀ j, S j → j = eb ∨ g.m.out.ownBlock = some j) (hen : EnB w' eb m') (hk : m'.known = g.m.known) (hp : m'.opn = g.m.opn) (hg : m'.got = g.m.got) (ho : w'.ownsRow 0 5 1 m'.out o'.length (o'.map B)) (hfr : ∀ j, m'.out.ownBlock = some j → g.m.out.ownBlock = some j ∨ w.heap.size ≤ j)
    (ha : RowAt w 105 4 m'.answers A'.length (A'.flatMap Ans.cells)) (haa : ∀ a ∈ A', a ∈ g.ans) (hab : ∀ j, m'.answers.ownBlock = some j → g.m.answers.ownBlock = some j) (hr : RowAt w 3 1 m'.resets R'.length (R'.map fun i => .int .i64 i)) (hrb : ∀ j, m'.resets.ownBlock = some j → g.m.resets.ownBlock = some j) :
    Next w w' eb mb g { g with m := m', out := o', ans := A', res := R' } where
  inv := {
    en := hen
    kn := h.kn.chg hc (fun e => by
      rcases hs _ e with a | a
      · exact h.eb_mb a
      · exact owns_mb h.kn h.out a) (fun p hp' e => by
      obtain ⟨q, hq, rfl⟩ := List.mem_map.1 hp'
      rcases hs _ e with a | a
      · exact h.st_eb hq a
      · exact owns_ne h.out (h.st hq).blk (by decide) a)
    km := by rw [hk]; exact h.km
    nd := h.nd
    nn := h.nn
    ln := h.ln
    has := h.has
    row := by
      rw [hp]
      refine owns_chg h.row hc (fun j hj e => ?_)
      rcases hs _ e with a | a
      · rw [a] at hj; exact owns_ne h.row h.en.blk (by decide) hj
      · exact rows_ne h.out h.row (by decide) a hj
    out := ho
    got := by
      rw [hg]
      refine owns_chg h.got hc (fun j hj e => ?_)
      rcases hs _ e with a | a
      · rw [a] at hj; exact owns_ne h.got h.en.blk (by decide) hj
      · exact h.out_got a hj
    un := fun p hp' => owns_chg (h.un p hp') hc (fun j hj e => by
      rcases hs _ e with a | a
      · rw [a] at hj; exact owns_ne (h.un p hp') h.en.blk (by decide) hj
      · exact h.out_un hp' hj a)
    wa := fun p hp' => owns_chg (h.wa p hp') hc (fun j hj e => by
      rcases hs _ e with a | a
      · rw [a] at hj; exact owns_ne (h.wa p hp') h.en.blk (by decide) hj
      · exact h.out_wa hp' hj a)
    ans := ha.chg hc (fun j hj e => by
      rcases hs _ e with a | a
      · rw [a] at hj; exact ha.ne h.en.blk (by decide) hj
      · exact rows_ne2 h.out ha (by decide) a hj)
    anb := fun a ha' => owns_chg (h.anb a (haa a ha')) hc (fun j hj e => by
      rcases hs _ e with b | b
      · rw [b] at hj; exact owns_ne (h.anb a (haa a ha')) h.en.blk (by decide) hj
      · exact h.out_an (haa a ha') hj b)
    res := hr.chg hc (fun j hj e => by
      rcases hs _ e with a | a
      · rw [a] at hj; exact hr.ne h.en.blk (by decide) hj
      · exact rows_ne2 h.out hr (by decide) a hj)
    ap := h.apart (fun _ => 0) m' g.K A' (fun j hj => (hfr j hj).imp_right fun a => ⟨a, rfl⟩) (fun j hj => Or.inl (by rw [← hg]; exact hj)) (fun p hp' j hj => Or.inl ⟨p, hp', rfl, hj⟩) (fun p hp' j hj => Or.inl ⟨p, hp', rfl, hj⟩) (fun a ha' j hj => Or.inl ⟨a, haa a ha', hj⟩) }
  chg := hc.mono fun j _ e => by
    rcases hs _ e with a | a
    · exact Or.inl a
    · exact Or.inr (Or.inr (Or.inl a))
  grow := fun j hj => by
    unfold Foot at hj ⊢
    rcases hj with e | e | e | e | e | e | e | ⟨a, ha', e⟩ | e
    · simp [e]
    · simp [e]
    · rcases hfr j e with a | a
      · simp [a]
      · exact Or.inr a
    · simp only [hg] at e; simp [e]
    · simp only [hp] at e; simp [e]
    · simp [hab j e]
    · simp [hrb j e]
    · exact Or.inl (Or.inr (Or.inr (Or.inr (Or.inr (Or.inr (Or.inr (Or.inr (Or.inl ⟨a, haa a ha', e⟩))))))))
    · exact Or.inl (Or.inr (Or.inr (Or.inr (Or.inr (Or.inr (Or.inr (Or.inr (Or.inr e))))))))
end
end Go.Proofs.YtiphkngfbpdeoaaGreatDoor
namespace Go.Proofs.YtiphkngfbpdeoaaGreatDoor
set_option linter.unusedVariables false
set_option linter.unusedSimpArgs false
open Go.RowKit
def nilV (v : Value) : Value := match v with
  | .slice none _ _ => .slice none 0 0
  | _ => .tuple #[]
def nilU (v : Value) : Value := match v with
  | .slice none 0 0 => .slice none 0 0
  | _ => .tuple #[]
theorem nilU_nil {v : Value} (h : nilU v = .slice none 0 0) : v = .slice none 0 0 := by
  unfold nilU at h
  split at h
  · rfl
  · cases h
def EndM.bare (m : EndM) : EndM := { m with known := .slice none 0 0, opn := .slice none 0 0, got := .slice none 0 0, hlen := 0, hkind := 0, hflags := 0, hstream := 0, bbytes := .slice none 0 0, utab := nilU m.utab, out := .slice none 0 0, answers := nilV m.answers, resets := nilV m.resets, ptab := .slice none 0 0, pwait := .slice none 0 0 }
def StM.bare (s : StM) : StM := { s with heads := nilU s.heads, unread := .slice none 0 0, waiting := .slice none 0 0 }
def GSt.bare (s : GSt) : GSt := ⟨0, s.st.bare, s.un, s.wa⟩
def Ans.bare (a : Ans) : Ans := { a with bv := .slice none 0 0 }
def GEnd.bare (g : GEnd) : GEnd := ⟨g.m.bare, g.K.map GSt.bare, g.L, g.out, g.got, g.ans.map Ans.bare, g.res⟩
def updN (n : Int) (f : GSt → GSt) (K : List GSt) : List GSt := K.map fun s => if s.st.number = n then f s else s
theorem atN_bare (K : List GSt) (n : Int) : atN (K.map GSt.bare) n = (atN K n).bare := by
  unfold atN
  induction K with
  | nil => rfl
  | cons s r ih =>
    rw [List.map_cons, List.find?_cons, List.find?_cons]
    show ((match s.st.number == n with | true => some s.bare | false => _).getD noSt) = _
    cases s.st.number == n
    · exact ih
    · rfl
theorem updN_bare (n : Int) (f : GSt → GSt) (hf : ∀ s, (f s).bare = f s.bare) (K : List GSt) : (updN n f K).map GSt.bare = updN n f (K.map GSt.bare) := by
  unfold updN
  rw [List.map_map, List.map_map]
  apply List.map_congr_left
  intro s _
  show (if s.st.number = n then f s else s).bare = if s.st.number = n then f s.bare else s.bare
  split
  · exact hf s
  · rfl
def firstDueN (m : EndM) (K : List GSt) : List Int → Option Int
  | [] => none
  | n :: r => if m.dueS (atN K n).st then some n else firstDueN m K r
theorem firstDue_openS (m : EndM) (K : List GSt) : ∀ L : List Int, firstDue m (openS K L) = (firstDueN m K L).map fun n => (atN K n).str
  | [] => rfl
  | n :: r => by
    show (if m.dueS (atN K n).st then some (atN K n).str else firstDue m (openS K r)) = _
    rw [firstDue_openS m K r, firstDueN]
    split <;> rfl
theorem firstDueN_mem {m : EndM} {K : List GSt} : ∀ {L : List Int} {n : Int}, firstDueN m K L = some n → n ∈ L
  | [], _, h => by cases h
  | k :: r, n, h => by
    rw [firstDueN] at h
    split at h
    · injection h with h; rw [h]; exact List.mem_cons_self
    · exact List.mem_cons_of_mem _ (firstDueN_mem h)
theorem firstDueN_bare (m : EndM) (K : List GSt) : ∀ L : List Int, firstDueN m.bare (K.map GSt.bare) L = firstDueN m K L
  | [] => rfl
  | n :: r => by
    rw [firstDueN, firstDueN, atN_bare, firstDueN_bare m K r]
    rfl
def GSt.granted (s : GSt) : GSt := { s with st := s.st.granted }
def GEnd.oFirst (g : GEnd) : Option GEnd := if g.m.told then none else some { g with m := g.m.setd, out := g.out ++ lay 3 0 0 (four4 g.m.wanted.toNat) }
def GEnd.oAnswer (g : GEnd) : Option GEnd := match g.ans with
  | [] => none
  | a :: r => some { g with ans := r, out := g.out ++ lay a.kind a.flags 0 a.body }
def GEnd.oSettings (g : GEnd) : Option GEnd := if (g.m.waits || g.m.wanted == g.m.made) then none else some { g with m := g.m.setd, out := g.out ++ lay 3 0 0 (four4 g.m.wanted.toNat) }
def GEnd.oPing (g : GEnd) : Option GEnd := if (g.m.under && !g.m.pinged) then some { g with m := g.m.pingd, out := g.out ++ lay 4 0 0 (four4 g.m.pnum) } else none
def GEnd.oCredit (g : GEnd) : Option GEnd := if dueB g.m.owed g.m.receive g.m.batch then some { g with m := g.m.granted, out := g.out ++ lay 6 0 0 (four4 g.m.owed.toNat) } else none
def GEnd.oStream (g : GEnd) : Option GEnd := (firstDueN g.m g.K g.L).map fun n => { g with K := updN n GSt.granted g.K, out := g.out ++ lay 6 0 n (four4 (atN g.K n).st.owed.toNat) }
def GEnd.oReset (g : GEnd) : Option GEnd := match g.res with
  | [] => none
  | n :: r => some { g with res := r, out := g.out ++ lay 2 0 n [0] }
def GEnd.next (g : GEnd) : Option GEnd := g.oFirst.or (g.oAnswer.or (g.oSettings.or (g.oPing.or (g.oCredit.or (g.oStream.or g.oReset)))))
theorem or_map {α β : Type} (f : α → β) (a b : Option α) : (a.or b).map f = (a.map f).or (b.map f) := by cases a <;> rfl
theorem next_bare (g : GEnd) : g.next.map GEnd.bare = g.bare.next := by
  have h1 : g.oFirst.map GEnd.bare = g.bare.oFirst := by
    unfold GEnd.oFirst
    rw [show g.bare.m.told = g.m.told from rfl]
    cases g.m.told <;> rfl
  have h2 : g.oAnswer.map GEnd.bare = g.bare.oAnswer := by
    unfold GEnd.oAnswer
    rw [show g.bare.ans = g.ans.map Ans.bare from rfl]
    cases g.ans <;> rfl
  have h3 : g.oSettings.map GEnd.bare = g.bare.oSettings := by
    unfold GEnd.oSettings
    rw [show (g.bare.m.waits || g.bare.m.wanted == g.bare.m.made) = (g.m.waits || g.m.wanted == g.m.made) from rfl]
    cases (g.m.waits || g.m.wanted == g.m.made) <;> rfl
  have h4 : g.oPing.map GEnd.bare = g.bare.oPing := by
    unfold GEnd.oPing
    rw [show (g.bare.m.under && !g.bare.m.pinged) = (g.m.under && !g.m.pinged) from rfl]
    cases (g.m.under && !g.m.pinged) <;> rfl
  have h5 : g.oCredit.map GEnd.bare = g.bare.oCredit := by
    unfold GEnd.oCredit
    rw [show dueB g.bare.m.owed g.bare.m.receive g.bare.m.batch = dueB g.m.owed g.m.receive g.m.batch from rfl]
    cases dueB g.m.owed g.m.receive g.m.batch <;> rfl
  have h6 : g.oStream.map GEnd.bare = g.bare.oStream := by
    unfold GEnd.oStream
    rw [show firstDueN g.bare.m g.bare.K g.bare.L = firstDueN g.m g.K g.L from firstDueN_bare _ _ _]
    cases firstDueN g.m g.K g.L with
    | none => rfl
    | some n =>
      simp only [Option.map_some]
      unfold GEnd.bare
      simp only [atN_bare, updN_bare n GSt.granted (fun s => rfl)]
      rfl
  have h7 : g.oReset.map GEnd.bare = g.bare.oReset := by
    unfold GEnd.oReset
    rw [show g.bare.res = g.res from rfl]
    cases g.res <;> rfl
  unfold GEnd.next
  simp only [or_map, h1, h2, h3, h4, h5, h6, h7]
structure Fine (g : GEnd) : Prop where
  greets : g.m.greets = false
  wanted : 0 ≤ g.m.wanted ∧ g.m.wanted ≤ 1000
  owed : 0 ≤ g.m.owed ∧ g.m.owed ≤ 4294967295
  receive : -1099511627776 ≤ g.m.receive ∧ g.m.receive + g.m.owed ≤ 1099511627776
  pnum : g.m.pnum < 4294967296
  own : -1099511627776 ≤ g.m.own ∧ g.m.own ≤ 1099511627776
  other : -1099511627776 ≤ g.m.other ∧ g.m.other ≤ 1099511627776
  ans : ∀ a ∈ g.ans, 0 ≤ a.kind ∧ a.kind ≤ 255 ∧ 0 ≤ a.flags ∧ a.flags ≤ 255 ∧ a.body.length ≤ 64
  res : ∀ n ∈ g.res, 0 ≤ n ∧ n ≤ 32767
  st : ∀ s ∈ g.K, (-1099511627776 ≤ s.st.receive ∧ s.st.receive + s.st.owed ≤ 1099511627776) ∧ (0 ≤ s.st.owed ∧ s.st.owed ≤ 4294967295) ∧ (0 ≤ s.st.number ∧ s.st.number ≤ 32767) ∧ (-1099511627776 ≤ s.st.send ∧ s.st.send ≤ 1099511627776) ∧ s.st.announced = true ∧ g.m.hasD s.st s.wa.length = false
  few : g.L.length ≤ 1048576
theorem Fine.bare {g : GEnd} (h : Fine g) : Fine g.bare where
  greets := h.greets
  wanted := h.wanted
  owed := h.owed
  receive := h.receive
  pnum := h.pnum
  own := h.own
  other := h.other
  ans := fun a ha => by obtain ⟨b, hb, rfl⟩ := List.mem_map.1 ha; exact h.ans b hb
  res := h.res
  st := fun s hs => by obtain ⟨b, hb, rfl⟩ := List.mem_map.1 hs; exact h.st b hb
  few := h.few
theorem Fine.of_bare {g : GEnd} (h : Fine g.bare) : Fine g where
  greets := h.greets
  wanted := h.wanted
  owed := h.owed
  receive := h.receive
  pnum := h.pnum
  own := h.own
  other := h.other
  ans := fun a ha => h.ans a.bare (List.mem_map.2 ⟨a, ha, rfl⟩)
  res := h.res
  st := fun s hs => h.st s.bare (List.mem_map.2 ⟨s, hs, rfl⟩)
  few := h.few
theorem or_some {α : Type} {a b : Option α} {q : α} (h : a.or b = some q) : a = some q ∨ b = some q := by
  cases a with
  | none => exact Or.inr (by simpa using h)
  | some x => exact Or.inl (by simpa using h)
theorem Fine.next {g q : GEnd} (h : Fine g) (hn : g.next = some q) : Fine q := by
  rcases or_some hn with hn | hn
  · unfold GEnd.oFirst at hn
    split at hn
    · cases hn
    · injection hn with hn; subst hn
      exact ⟨h.greets, h.wanted, h.owed, h.receive, h.pnum, h.own, h.other, h.ans, h.res, h.st, h.few⟩
  rcases or_some hn with hn | hn
  · unfold GEnd.oAnswer at hn
    split at hn
    · cases hn
    · rename_i a r ha
      injection hn with hn; subst hn
      exact ⟨h.greets, h.wanted, h.owed, h.receive, h.pnum, h.own, h.other, fun b hb => h.ans b (by rw [ha]; exact List.mem_cons_of_mem _ hb), h.res, h.st, h.few⟩
  rcases or_some hn with hn | hn
  · unfold GEnd.oSettings at hn
    split at hn
    · cases hn
    · injection hn with hn; subst hn
      exact ⟨h.greets, h.wanted, h.owed, h.receive, h.pnum, h.own, h.other, h.ans, h.res, h.st, h.few⟩
  rcases or_some hn with hn | hn
  · unfold GEnd.oPing at hn
    split at hn
    · injection hn with hn; subst hn
      exact ⟨h.greets, h.wanted, h.owed, h.receive, h.pnum, h.own, h.other, h.ans, h.res, h.st, h.few⟩
    · cases hn
  rcases or_some hn with hn | hn
  · unfold GEnd.oCredit at hn
    split at hn
    · injection hn with hn; subst hn
      have h1 := h.owed; have h2 := h.receive
      exact ⟨h.greets, h.wanted, ⟨by show (0 : Int) ≤ 0; omega, by show (0 : Int) ≤ _; omega⟩, ⟨by show _ ≤ g.m.receive + g.m.owed; omega, by show g.m.receive + g.m.owed + 0 ≤ _; omega⟩, h.pnum, h.own, h.other, h.ans, h.res, h.st, h.few⟩
    · cases hn
  rcases or_some hn with hn | hn
  · unfold GEnd.oStream at hn
    cases hd : firstDueN g.m g.K g.L with
    | none => rw [hd] at hn; cases hn
    | some n =>
      rw [hd, Option.map_some] at hn
      injection hn with hn; subst hn
      refine ⟨h.greets, h.wanted, h.owed, h.receive, h.pnum, h.own, h.other, h.ans, h.res, ?_, h.few⟩
      intro s hs
      obtain ⟨b, hb, rfl⟩ := List.mem_map.1 hs
      have hq := h.st b hb
      by_cases e : b.st.number = n
      · simp only [e, if_true]
        obtain ⟨q1, q2, q3, q4, q5, q6⟩ := hq
        exact ⟨⟨by show _ ≤ b.st.receive + b.st.owed; omega, by show b.st.receive + b.st.owed + 0 ≤ _; omega⟩, ⟨by show (0 : Int) ≤ 0; omega, by show (0 : Int) ≤ _; omega⟩, q3, q4, q5, q6⟩
      · simp only [e, if_false]
        exact hq
  · unfold GEnd.oReset at hn
    split at hn
    · cases hn
    · rename_i n r hr
      injection hn with hn; subst hn
      exact ⟨h.greets, h.wanted, h.owed, h.receive, h.pnum, h.own, h.other, h.ans, fun b hb => h.res b (by rw [hr]; exact List.mem_cons_of_mem _ hb), h.st, h.few⟩
end Go.Proofs.YtiphkngfbpdeoaaGreatDoor
