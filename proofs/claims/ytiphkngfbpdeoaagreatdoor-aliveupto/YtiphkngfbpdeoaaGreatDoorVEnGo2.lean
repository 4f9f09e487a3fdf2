import Derived.Test.YtiphkngfbpdeoaaGreatDoorVGan
import Derived.Test.YtiphkngfbpdeoaaGreatDoorVGar
import Derived.Test.YtiphkngfbpdeoaaGreatDoorVGam
import Derived.Test.YtiphkngfbpdeoaaGreatDoorVGau
set_option linter.unusedVariables false
set_option linter.unusedSimpArgs false
namespace Go.Proofs.YtiphkngfbpdeoaaGreatDoor
set_option linter.unusedVariables false
set_option linter.unusedSimpArgs false
open Go.RowKit
section
variable (eb mb : Nat) (g : GEnd) (w : World)
set_option maxRecDepth 100000 in
set_option maxHeartbeats 800000 in
theorem come_goaway (f n : Int) (sv : Option Addr) (len cb : Nat) (h : Inv w eb mb g) (hb : g.m.bstream = 0) (hbg : g.m.begun = true) (hL : g.L.length ≤ 1048576) :
    Calls Tryz.prog 66 #[.pointer (some ⟨eb, 0, none⟩), .iface 172 (.agg #[.int .i64 5, .int .i64 f, .int .i64 n, .slice sv len cb])] w fun e w' => e = .returned (.tuple #[]) ∧ ∃ g', g'.bare = g.bare.died 7 ∧ RdOk g' ∧ Next w w' eb mb g g' := by
  have hta : ∀ (x : Value) (w : World), (Instr.typeAssert (.iface 172 x) 135 172 true).run Tryz.prog w = .ok (.tuple #[x, .bool true]) w := fun _ _ => by kernel_rfl
  have ht0 : ∀ (x : Value) (w : World), (Instr.typeAssert (.iface 172 x) 135 155 true).run Tryz.prog w = .ok (.tuple #[.agg #[.int .i64 0, .int .i64 0, .int .i64 0, .slice none 0 0, .slice none 0 0], .bool false]) w := fun _ _ => by kernel_rfl
  have ht1 : ∀ (x : Value) (w : World), (Instr.typeAssert (.iface 172 x) 135 158 true).run Tryz.prog w = .ok (.tuple #[.agg #[.int .i64 0, .int .i64 0, .int .i64 0, .slice none 0 0, .slice none 0 0], .bool false]) w := fun _ _ => by kernel_rfl
  have ht2 : ∀ (x : Value) (w : World), (Instr.typeAssert (.iface 172 x) 135 160 true).run Tryz.prog w = .ok (.tuple #[.agg #[.int .i64 0, .int .i64 0, .int .i64 0, .slice none 0 0, .slice none 0 0], .bool false]) w := fun _ _ => by kernel_rfl
  have ht3 : ∀ (x : Value) (w : World), (Instr.typeAssert (.iface 172 x) 135 164 true).run Tryz.prog w = .ok (.tuple #[.agg #[.int .i64 0, .int .i64 0, .int .i64 0, .slice none 0 0], .bool false]) w := fun _ _ => by kernel_rfl
  have ht4 : ∀ (x : Value) (w : World), (Instr.typeAssert (.iface 172 x) 135 167 true).run Tryz.prog w = .ok (.tuple #[.agg #[.int .i64 0, .int .i64 0, .int .i64 0, .slice none 0 0, .int .i64 0], .bool false]) w := fun _ _ => by kernel_rfl
  have ht5 : ∀ (x : Value) (w : World), (Instr.typeAssert (.iface 172 x) 135 170 true).run Tryz.prog w = .ok (.tuple #[.agg #[.int .i64 0, .int .i64 0, .int .i64 0, .slice none 0 0, .int .u32 0], .bool false]) w := fun _ _ => by kernel_rfl
  have HT := hide (checkTurn_ok eb g.m 172 (.agg #[.int .i64 5, .int .i64 f, .int .i64 n, .slice sv len cb]) w h.en (by simp) hb (Or.inl hbg))
  have HC : Hid (∀ w0 o, Below w.heap.size w w0 → Calls Tryz.prog 25 #[.pointer (some ⟨eb, 0, none⟩), .int .i64 7] ((w0.setCell ⟨eb, 30, none⟩ (.bool true)).alloc o) fun e w' => e = .returned (.tuple #[]) ∧ ∃ g', g'.bare = g.bare.died 7 ∧ RdOk g' ∧ Next w w' eb mb g g') := fun w0 o hb0 => by
    obtain ⟨g1, h1, h20⟩ := (h.below hb0).begins
    have h2 := h20.then_below ((Below.refl _ _).alloc (Nat.le_refl _) o)
    have hL1 : g1.L.length ≤ 1048576 := by
      have e5 : g1.bare.L = g.bare.L := by rw [h1]; rfl
      have e6 : g1.L = g.L := e5
      rw [e6]; exact hL
    refine (eDie_any w eb mb g g1 _ g1.m 7 _ ⟨h2.pre hb0, h2.inv.en, rfl, Chg.refl _ _, hL1⟩).mono ?_
    rintro e w' ⟨rfl, ⟨g', q1, q2, q3⟩, -⟩
    refine ⟨rfl, g', ?_, q2, q3⟩
    rw [q1, h1]
    rfl
  have HE : Hid (∀ w0, Below w.heap.size w w0 → w0.cell? ⟨eb, 30, none⟩ = some (.bool g.m.begun) ∧ w0.frozen? ⟨eb, 30, none⟩ = false ∧ eb < w0.heap.size) := fun w0 hb0 => ⟨(h.below hb0).en.c30, (h.below hb0).en.fr 30, (h.below hb0).en.lt⟩
  clear h hb hbg
  go_enter Tryz.func66, Tryz.ntmps66
  go_wp2_with fail
  refine HT.out.mono ?_
  rintro e w0 ⟨rfl, hb0⟩
  obtain ⟨k30, f30, hlt⟩ := HE.out w0 hb0
  have HB0 := hide hb0
  clear hb0
  go_wp2_with fail
  refine (HC.out w0 _ HB0.out).mono ?_
  rintro e w' ⟨rfl, hx⟩
  have HX := hide hx
  clear hx
  go_wp2
  exact bodyPost_end (results_none rfl _ _ _) rfl ⟨rfl, HX.out⟩
end
end Go.Proofs.YtiphkngfbpdeoaaGreatDoor
namespace Go.Proofs.YtiphkngfbpdeoaaGreatDoor
set_option linter.unusedVariables false
set_option linter.unusedSimpArgs false
open Go.RowKit
structure ByteG (p : GEnd) (c : UInt8) : Prop where
  hg : p.m.greeted = 7
  fr : ∃ fl b, step p.got c = .frame ⟨5, fl, 0, b⟩
  hb : p.m.bstream = 0
  bg : p.m.begun = true
def FeedG (z1 : GEnd) (z2 : List UInt8) (z3 : GEnd) : Prop := ∀ Z : GEnd → List UInt8 → GEnd → Prop, (∀ (p : GEnd) (c : UInt8) (r : List UInt8) (hf : p.m.fault = 0) (hb : ByteG p c), Z p (c :: r) (p.died 7)) → (∀ (p p1 q : GEnd) (c : UInt8) (r : List UInt8) (hf : p.m.fault = 0) (hb : ByteR p c p1) (h : Z p1 r q), Z p (c :: r) q) → Z z1 z2 z3
theorem FeedG.goes {p : GEnd} {c : UInt8} {r : List UInt8} (hf : p.m.fault = 0) (hb : ByteG p c) : FeedG p (c :: r) (p.died 7) := fun Z zk1 zk2 => zk1 p c r hf hb
theorem FeedG.step {p p1 q : GEnd} {c : UInt8} {r : List UInt8} (hf : p.m.fault = 0) (hb : ByteR p c p1) (h : FeedG p1 r q) : FeedG p (c :: r) q := fun Z zk1 zk2 => zk2 p p1 q c r hf hb (h Z zk1 zk2)
theorem FeedG.ind {motive : ∀ (z1 : GEnd) (z2 : List UInt8) (z3 : GEnd), FeedG z1 z2 z3 → Prop} (goes : ∀ {p : GEnd} {c : UInt8} {r : List UInt8} (hf : p.m.fault = 0) (hb : ByteG p c), motive p (c :: r) (p.died 7) (@FeedG.goes p c r hf hb)) (step : ∀ {p p1 q : GEnd} {c : UInt8} {r : List UInt8} (hf : p.m.fault = 0) (hb : ByteR p c p1) (h : FeedG p1 r q) (ih : motive p1 r q h), motive p (c :: r) q (@FeedG.step p p1 q c r hf hb h)) {z1 : GEnd} {z2 : List UInt8} {z3 : GEnd} (zt : FeedG z1 z2 z3) : motive z1 z2 z3 zt := (zt (fun z1 z2 z3 => ∃ zt : FeedG z1 z2 z3, motive z1 z2 z3 zt) (fun p c r hf hb => ⟨_, @goes p c r hf hb⟩) (fun p p1 q c r hf hb zy => zy.elim fun h zx => ⟨_, @step p p1 q c r hf hb h zx⟩)).elim fun _ zx => zx
theorem FeedR.goes {p p1 q : GEnd} {l r : List UInt8} (h : FeedR p l p1) (h2 : FeedG p1 r q) : FeedG p (l ++ r) q := by
  induction h using FeedR.ind with
  | nil => exact h2
  | greet hk hk7 hf hc _ ih => exact .step hf (.greet hk hk7 hc) (ih h2)
  | more hg hf hs _ ih => exact .step hf (.more hg hs) (ih h2)
  | frame hg hf hs hc _ ih => exact .step hf (.frame hg hs hc) (ih h2)
theorem FeedG.app {p q : GEnd} {l r : List UInt8} (h : FeedG p l q) : FeedG p (l ++ r) q := by
  induction h using FeedG.ind with
  | goes hf hb => exact .goes hf hb
  | step hf hb _ ih => exact .step hf hb ih
theorem feedG_of_feed {p : GEnd} {fl : Int} {b : List UInt8} (hg : p.m.greeted = 7) (hf : p.m.fault = 0) (hb : p.m.bstream = 0) (bg : p.m.begun = true) : ∀ (l got : List UInt8), feed got l = ([⟨5, fl, 0, b⟩], ⟨[], 0⟩) → FeedG { p with got := got } l (p.died 7) := by
  intro l
  induction l with
  | nil =>
    intro got h
    unfold feed at h
    simp at h
  | cons c r ih =>
    intro got h
    unfold feed at h
    cases hs : step got c with
    | inl x =>
      rw [hs] at h
      cases x with
      | inl g1 => exact .step hf (.more hg hs) (ih g1 h)
      | inr f1 =>
        simp only [Prod.mk.injEq, List.cons.injEq] at h
        obtain ⟨⟨h1, h2⟩, h3⟩ := h
        subst h1
        exact .goes hf ⟨hg, ⟨fl, b, hs⟩, hb, bg⟩
    | inr code =>
      rw [hs] at h
      simp at h
set_option maxRecDepth 100000 in
set_option maxHeartbeats 1200000 in
theorem i_byteG (eb mb : Nat) (g : GEnd) (c : UInt8) (w : World) (h : Inv w eb mb g) (hr : RdOk g) (hb : ByteG g.bare c) (hL : g.L.length ≤ 1048576) :
    Calls Tryz.prog 47 #[.pointer (some ⟨eb, 0, none⟩), .int .u8 c.toNat] w fun e w' => e = .returned (.tuple #[]) ∧ ∃ g', g'.bare = g.bare.died 7 ∧ RdOk g' ∧ Next w w' eb mb g g' := by
  have c24 := h.en.c24
  have hlt := h.en.lt
  have hT := take_any eb 25 98 g.m.cells g.m.got g.got c w (h.rdsg hr)
  obtain ⟨hg, ⟨fl, bo, hs⟩, hbs, hbg⟩ := hb
  rw [show g.m.greeted = 7 from hg] at c24
  have hs' : step g.got c = .frame ⟨5, fl, 0, bo⟩ := hs
  have HT : Hid (Calls Tryz.prog 65 #[.pointer (some ⟨eb, 25, none⟩), .int .u8 c.toNat] w fun e w' => ∃ sv len cb, e = .returned (.tuple #[.iface 172 (.agg #[.int .i64 5, .int .i64 fl, .int .i64 0, .slice sv len cb]), .bool true]) ∧ Calls Tryz.prog 66 #[.pointer (some ⟨eb, 0, none⟩), .iface 172 (.agg #[.int .i64 5, .int .i64 fl, .int .i64 0, .slice sv len cb])] w' fun e w'' => e = .returned (.tuple #[]) ∧ ∃ g', g'.bare = g.bare.died 7 ∧ RdOk g' ∧ Next w w'' eb mb g g') := by
    refine hT.mono ?_
    rintro e w' (⟨g1, cs', gv', h1, -⟩ | ⟨code, h1, -⟩ | ⟨f', bv, cv, cs', gv', h1, h2, h3, h4, h5, h6, h7⟩)
    · rw [hs'] at h1; cases h1
    · rw [hs'] at h1; cases h1
    · rw [hs'] at h1
      simp only [Sum.inl.injEq, Sum.inr.injEq] at h1
      subst h1
      obtain ⟨sv, cb, hsv⟩ := slice_len h4
      refine ⟨sv, bo.length, cb, ?_, ?_⟩
      · rw [h2]
        simp only at hsv
        unfold frV
        simp [hsv]
      · obtain ⟨g2, e1, e2, e3, e4⟩ := h.onGot h6
        have hL2 : g2.L.length ≤ 1048576 := by
          have e5 : g2.bare.L = ({ g with got := [] } : GEnd).bare.L := by rw [e1]
          have e6 : g2.L = g.L := e5
          rw [e6]; exact hL
        have m1 : g2.m.bstream = 0 := by
          have e5 : g2.bare.m = ({ g with got := [] } : GEnd).bare.m := by rw [e1]
          have e6 : g2.m.bstream = g.m.bstream := by have := congrArg (fun m : EndM => m.bstream) e5; exact this
          rw [e6]; exact hbs
        have m2 : g2.m.begun = true := by
          have e5 : g2.bare.m = ({ g with got := [] } : GEnd).bare.m := by rw [e1]
          have e6 : g2.m.begun = g.m.begun := by have := congrArg (fun m : EndM => m.begun) e5; exact this
          rw [e6]; exact hbg
        refine (come_goaway eb mb g2 w' fl 0 sv bo.length cb e3.inv m1 m2 hL2).mono ?_
        rintro e w'' ⟨rfl, g', q1, q2, q3⟩
        refine ⟨rfl, g', ?_, q2, e3.trans q3⟩
        rw [q1, e1]
        rfl
  clear h hr hT hs hs' hg hbs hbg
  go_enter Tryz.func47, Tryz.ntmps47
  go_wp2_with fail
  refine HT.out.mono ?_
  rintro e w' ⟨sv, len, cb, rfl, hx⟩
  have HX := hide hx
  clear hx
  go_wp2_with fail
  refine HX.out.mono ?_
  rintro e w'' ⟨rfl, hx⟩
  have HY := hide hx
  clear hx
  go_wp2
  exact bodyPost_end (results_none rfl _ _ _) rfl ⟨rfl, HY.out⟩
set_option maxRecDepth 100000 in
set_option maxHeartbeats 1200000 in
theorem i_feedG (eb mb : Nat) (g q : GEnd) (bv : Value) (l : List UInt8) (w : World) (h : Inv w eb mb g) (hr : RdOk g) (hf : FeedG g.bare l q) (hq : q.m.fault = 7) (hL : q.L.length ≤ 1048576) (hgl : Gl w) (hge : ∀ j, j < 7 → ¬ Foot eb mb g j) (hb : BytesIn w bv l) (hbn : ∀ j, bv.ownBlock = some j → ¬ Foot eb mb g j) (hl : l.length ≤ 268435456) :
    Calls Tryz.prog 26 #[.pointer (some ⟨eb, 0, none⟩), bv] w fun e w' => e = .returned (.tuple #[]) ∧ ∃ g', g'.bare = q ∧ RdOk g' ∧ Next w w' eb mb g g' := by
  obtain ⟨sv, cv, hv, -⟩ := bytesIn_len hb
  subst hv
  have H := hide h
  have HR := hide hr
  have HF := hide hf
  have HQ := hide hq
  have HGL := hide hgl
  have HGE := hide hge
  have HB := hide hb
  have HBN := hide hbn
  clear h hr hf hgl hge hb hbn hq
  go_enter Tryz.func26, Tryz.ntmps26
  go_wp2
  go_loopw [8] (fun i wr => ∃ (k : Nat) (wv : World) (c : GEnd), wv = wr ∧ i = .int .i64 (k : Int) ∧ k ≤ l.length ∧ Next w wv eb mb g c ∧ RdOk c ∧ (FeedG c.bare (l.drop k) q ∨ c.bare = q)) (fun i _ => l.length - (intOf i).toNat)
  case atStart => exact ⟨0, _, g, rfl, rfl, Nat.zero_le _, Next.refl H.out, HR.out, Or.inl HF.out⟩
  case round =>
    obtain ⟨k, wv, c, hwv, rfl, hk, hnx, hrd, hfe⟩ := hrel
    subst hwv
    obtain ⟨hbyt, hnf⟩ := hnx.bytes HB.out HBN.out
    by_cases hlk : k < l.length
    · rcases hbyt with ⟨-, h0⟩ | ⟨bb, off, cap, h1, h2, h3, h4⟩
      · rw [h0] at hlk; simp at hlk
      · simp only [Value.slice.injEq] at h1
        obtain ⟨rfl, _, rfl⟩ := h1
        have hcell := h4 k hlk
        rcases hfe with hfe | hfe
        · rw [drop_cons hlk] at hfe
          have hfa : c.bare.m.fault = 0 := by cases hfe using FeedG.ind <;> assumption
          have hgl1 := HGL.out.chg hnx.chg HGE.out
          have hge1 : ∀ j, j < 7 → ¬ Foot eb mb c j := fun j hj hf => by
            rcases hnx.grow j hf with a | a
            · exact HGE.out j hj a
            · have := HGL.out.lt; omega
          have hi : Calls Tryz.prog 47 #[.pointer (some ⟨eb, 0, none⟩), .int .u8 (l.getD k 0).toNat] wv fun e w' => e = .returned (.tuple #[]) ∧ ∃ c1, Next w w' eb mb g c1 ∧ RdOk c1 ∧ (FeedG c1.bare (l.drop (k + 1)) q ∨ c1.bare = q) := by
            cases hfe using FeedG.ind with
            | goes hf hby =>
              refine (i_byteG eb mb c (l.getD k 0) wv hnx.inv hrd hby hL).mono ?_
              rintro e w' ⟨rfl, c1, hc1, hr1, hn1⟩
              exact ⟨rfl, c1, hnx.trans hn1, hr1, Or.inr hc1⟩
            | step hf hby hfr =>
              refine (i_byte eb mb c c.bare _ (l.getD k 0) wv hnx.inv hrd rfl hby hgl1 hge1).mono ?_
              rintro e w' ⟨rfl, c1, hc1, hr1, hn1⟩
              exact ⟨rfl, c1, hnx.trans hn1, hr1, Or.inl (by rw [hc1]; exact hfr)⟩
          have hd := isDead_any eb c.m wv hnx.inv.en
          have hfa' : c.m.fault = 0 := hfa
          rw [show (!(c.m.fault == 0)) = false from by rw [hfa']; rfl] at hd
          have HI := hide hi
          have HD := hide hd
          generalize l.getD k 0 = cc at *
          clear hi hd hnx hfe hrd hgl1 hge1 h4 hfa hfa' hnf
          go_wp2_with fail
          refine HD.out.mono ?_
          rintro e w' ⟨rfl, hw'⟩
          rw [hw']
          clear hw' w'
          go_wp2_with fail
          refine HI.out.mono ?_
          rintro e w1 ⟨rfl, c1, hn1, hr1, hfr⟩
          have HR1 := hide hr1
          have HN1 := hide hn1
          have HFR := hide hfr
          clear hr1 hn1 hfr
          go_wp2
          all_goals go_roundw
          case rel => exact ⟨k + 1, _, c1, rfl, by go_num, by omega, HN1.out, HR1.out, HFR.out⟩
          case measure => simp [intOf]; omega
        · have hd := isDead_any eb c.m wv hnx.inv.en
          have hfa' : c.m.fault = 7 := by have e : c.bare.m.fault = q.m.fault := (by rw [hfe]); exact e.trans HQ.out
          rw [show (!(c.m.fault == 0)) = true from by rw [hfa']; rfl] at hd
          have HD := hide hd
          have HEND : Hid (∃ g', g'.bare = q ∧ RdOk g' ∧ Next w wv eb mb g g') := ⟨c, hfe, hrd, hnx⟩
          generalize l.getD k 0 = cc at *
          clear hd hnx hfe hrd h4 hfa' hnf
          go_wp2_with fail
          refine HD.out.mono ?_
          rintro e w' ⟨rfl, hw'⟩
          rw [hw']
          clear hw' w'
          go_wp2
          refine bodyPost_ret (v := .tuple #[]) ?_ rfl ⟨rfl, HEND.out⟩
          simp [results, Tryz.results26, go_sem]
    · have hke : k = l.length := by omega
      have hcq : c.bare = q := by
        rcases hfe with hfe | hfe
        · rw [List.drop_of_length_le (by omega)] at hfe
          cases hfe using FeedG.ind
        · exact hfe
      have HEND : Hid (∃ g', g'.bare = q ∧ RdOk g' ∧ Next w wv eb mb g g') := ⟨c, hcq, hrd, hnx⟩
      clear hnx hfe hrd hke hcq hbyt hnf
      go_wp2
      exact bodyPost_end (results_none rfl _ _ _) rfl ⟨rfl, HEND.out⟩
set_option maxRecDepth 100000 in
set_option maxHeartbeats 1200000 in
theorem x_feedG (eb mb : Nat) (g q : GEnd) (bv : Value) (l : List UInt8) (w : World) (h : Inv w eb mb g) (hr : RdOk g) (hf : FeedG g.bare l q) (hq : q.m.fault = 7) (hL : q.L.length ≤ 1048576) (hgl : Gl w) (hge : ∀ j, j < 7 → ¬ Foot eb mb g j) (hb : BytesIn w bv l) (hbn : ∀ j, bv.ownBlock = some j → ¬ Foot eb mb g j) (hl : l.length ≤ 268435456) :
    Calls Tryz.prog 8 #[.pointer (some ⟨eb, 0, none⟩), bv] w fun e w' => e = .returned (.int .i64 7) ∧ ∃ g', g'.bare = q ∧ RdOk g' ∧ Next w w' eb mb g g' := by
  have hmf : ∀ (fn : Fn) (first cap : Array Value) (w : World), (Instr.makeFunc fn first cap).run Tryz.prog w = .ok (.func fn first cap) w := fun _ _ _ _ => rfl
  obtain ⟨wA, hwA⟩ : ∃ wA, wA = (w.alloc (.cells #[.pointer (some ⟨eb, 0, none⟩)] 29)).alloc (.cells #[.int .i64 0] 36) := ⟨_, rfl⟩
  have hbA : Below w.heap.size w wA := by rw [hwA]; exact ((Below.refl _ _).alloc (Nat.le_refl _) _).alloc (by simp) _
  have hbx : wA.heap[w.heap.size]? = some (.cells #[.pointer (some ⟨eb, 0, none⟩)] 29 (0, 0)) := by
    rw [hwA, heap_alloc_old _ _ (by simp)]
    exact heap_alloc_new w _
  have hfc : wA.heap[w.heap.size + 1]? = some (.cells #[.int .i64 0] 36 (0, 0)) := by
    have := heap_alloc_new (w.alloc (.cells #[.pointer (some ⟨eb, 0, none⟩)] 29)) (.cells #[.int .i64 0] 36)
    rw [hwA]
    simpa using this
  have hA := h.below hbA
  have HFE := hide (i_feedG eb mb g q bv l wA hA hr hf hq hL (hgl.below hbA) hge (hb.chg (Chg.of_below (S := fun _ => False) hbA) (fun _ _ => id)) hbn hl)
  have hnf : ∀ j, w.heap.size ≤ j → ¬ Foot eb mb g j := fun j hj hf => by have := Foot.lt h hf; omega
  have hlA : w.heap.size + 1 < wA.heap.size := lt_of_block hfc
  have HMID : Hid (∀ w1 g', g'.bare = q → Next wA w1 eb mb g g' → w1.cell? ⟨w.heap.size, 0, none⟩ = some (.pointer (some ⟨eb, 0, none⟩)) ∧ w1.cell? ⟨w.heap.size + 1, 0, none⟩ = some (.int .i64 0) ∧ w1.frozen? ⟨w.heap.size + 1, 0, none⟩ = false ∧ (Calls Tryz.prog 27 #[.pointer (some ⟨eb, 0, none⟩)] w1 fun e w' => e = .returned (.int .i64 7) ∧ w' = w1) ∧ (∀ v, (w1.setCell ⟨w.heap.size + 1, 0, none⟩ v).cell? ⟨w.heap.size + 1, 0, none⟩ = some v) ∧ ∀ v, Next w (w1.setCell ⟨w.heap.size + 1, 0, none⟩ v) eb mb g g') := fun w1 g' hg hn => by
    have e1 : w1.heap[w.heap.size]? = some (.cells #[.pointer (some ⟨eb, 0, none⟩)] 29 (0, 0)) := by rw [hn.chg.block _ (lt_of_block hbx) (hnf _ (Nat.le_refl _))]; exact hbx
    have e2 : w1.heap[w.heap.size + 1]? = some (.cells #[.int .i64 0] 36 (0, 0)) := by rw [hn.chg.block _ hlA (hnf _ (Nat.le_succ _))]; exact hfc
    refine ⟨cell_of_one e1, cell_of_one e2, free_of_one e2, ?_, fun v => cell_of_one (show (w1.setCell ⟨w.heap.size + 1, 0, none⟩ v).heap[w.heap.size + 1]? = some (.cells #[v] 36 (0, 0)) from blk_set e2), fun v => ?_⟩
    · have := eFault_any eb g'.m w1 hn.inv.en
      rw [show g'.m.fault = 7 from by have e3 : g'.bare.m.fault = 7 := (by rw [hg]; exact hq); exact e3] at this
      exact this
    · refine (hn.pre hbA).out (S := fun j => j = w.heap.size + 1) (chg_set (Chg.refl _ _) rfl) (fun j e => ⟨by omega, fun hf => ?_⟩)
      rcases hn.grow j hf with a | a
      · exact hnf j (by omega) a
      · omega
  have HWA := hide hwA
  have hlt := h.en.lt
  obtain ⟨sv, cv, hv, -⟩ := bytesIn_len hb
  subst hv
  clear h hr hf hq hL hgl hge hb hbn hbA hbx hfc hA hnf
  go_enter_defers Tryz.func8, Tryz.ntmps8
  go_wp2_with fail
  rw [← HWA.out]
  clear hwA
  refine HFE.out.mono ?_
  rintro e w1 ⟨rfl, g', hg', hr', hn'⟩
  obtain ⟨k0, k1, f1, hef, hsame, hend⟩ := HMID.out w1 g' hg' hn'
  have HSAME := hide hsame
  have HEF := hide hef
  have HEND := hide hend
  have HG := hide hg'
  have HR' := hide hr'
  clear hef hend hg' hr' hn' HMID hsame
  go_wp2_with fail
  refine HEF.out.mono ?_
  rintro e w' ⟨rfl, hw'⟩
  rw [hw']
  clear hw' w'
  go_wp2
  refine leaves_cons (f := 23) (args := #[.pointer (some ⟨w.heap.size + 1, 0, none⟩), .pointer (some ⟨w.heap.size, 0, none⟩)]) (by simp) (by simp [go_sem]) ?_
  refine (xclos_idle (w.heap.size + 1) w.heap.size _).mono ?_
  rintro e u' w'' ⟨rfl, rfl, rfl⟩
  refine ⟨.int .i64 7, ?_, ?_⟩
  · have hs := HSAME.out (.int .i64 7)
    simp [results, Tryz.results8, go_sem, hs]
  · exact ⟨rfl, g', HG.out, HR'.out, HEND.out _⟩
end Go.Proofs.YtiphkngfbpdeoaaGreatDoor
