import Derived.Test.YtiphkngfbpdeoaaGreatDoorUGam
set_option linter.unusedVariables false
set_option linter.unusedSimpArgs false
/-
  Package ends: what bytes do that are a fault.
-/
namespace Go.Proofs.YtiphkngfbpdeoaaGreatDoor
set_option linter.unusedVariables false
set_option linter.unusedSimpArgs false
open Go.RowKit

/-- The value of a fault's panic. -/
def faultP (code : Int) : List PanicEntry := [{ v := .iface 36 (.int .i64 code), recovered := false }]
/-- A frame that is a fault. -/
def ComeF (p : GEnd) (z1 : Fr) (z2 : Int) : Prop := ∀ Z : Fr → Int → Prop, (∀ (fl : Int) (s : GSt) (b : List UInt8) (hs : s ∈ p.K) (hp : hasB fl 8 = false) (ha : s.st.announced = true) (hr : s.st.hasAll = true ∨ s.st.reset = 2) (hb : p.m.bstream = 0) (hg : p.m.begun = true), Z ⟨0, fl, s.st.number, b⟩ 11) → Z z1 z2
theorem ComeF.gone {p : GEnd} (fl : Int) (s : GSt) (b : List UInt8) (hs : s ∈ p.K) (hp : hasB fl 8 = false) (ha : s.st.announced = true) (hr : s.st.hasAll = true ∨ s.st.reset = 2) (hb : p.m.bstream = 0) (hg : p.m.begun = true) : ComeF p ⟨0, fl, s.st.number, b⟩ 11 := fun Z zk1 => zk1 fl s b hs hp ha hr hb hg
theorem ComeF.ind {p : GEnd} {motive : ∀ (z1 : Fr) (z2 : Int), ComeF p z1 z2 → Prop} (gone : ∀ (fl : Int) (s : GSt) (b : List UInt8) (hs : s ∈ p.K) (hp : hasB fl 8 = false) (ha : s.st.announced = true) (hr : s.st.hasAll = true ∨ s.st.reset = 2) (hb : p.m.bstream = 0) (hg : p.m.begun = true), motive ⟨0, fl, s.st.number, b⟩ 11 (@ComeF.gone p fl s b hs hp ha hr hb hg)) {z1 : Fr} {z2 : Int} (zt : ComeF p z1 z2) : motive z1 z2 zt := (zt (fun z1 z2 => ∃ zt : ComeF p z1 z2, motive z1 z2 zt) (fun fl s b hs hp ha hr hb hg => ⟨_, @gone fl s b hs hp ha hr hb hg⟩)).elim fun _ zx => zx
def Dies (W w : World) (eb mb : Nat) (g0 q : GEnd) (code : Int) : Prop := ∃ g wI m0, g.bare.died code = q ∧ GaveE W w eb mb g0 g wI m0 code
section
variable {W w w' w1 : World} {eb mb : Nat} {g0 g1 g q : GEnd} {code : Int}
theorem Dies.of (hn : Next W w eb mb g0 g) (hL : g.L.length ≤ 1048576) : Dies W w eb mb g0 (g.bare.died code) code := ⟨g, w, g.m, rfl, hn, hn.inv.en, rfl, Chg.refl _ _, hL⟩
theorem Dies.pre (h : Dies w1 w' eb mb g1 q code) (hn : Next W w1 eb mb g0 g1) : Dies W w' eb mb g0 q code := by
  obtain ⟨g, wI, m0, e, hg⟩ := h
  refine ⟨g, wI, m0, e, hn.trans hg.nx, hg.en, hg.same, hg.chg.mono fun j _ a => ?_, hg.few⟩
  rcases a with a | a | a
  · exact Or.inl a
  · exact Or.inr (Or.inl a)
  · exact Or.inr (Or.inr ⟨Nat.le_trans hn.chg.size a.1, a.2⟩)
theorem Dies.below (h : Dies w1 w' eb mb g0 q code) (hb : Below W.heap.size W w1) : Dies W w' eb mb g0 q code := by
  obtain ⟨g, wI, m0, e, hg⟩ := h
  refine ⟨g, wI, m0, e, hg.nx.pre hb, hg.en, hg.same, hg.chg.mono fun j _ a => ?_, hg.few⟩
  rcases a with a | a | a
  · exact Or.inl a
  · exact Or.inr (Or.inl a)
  · exact Or.inr (Or.inr ⟨Nat.le_trans hb.size a.1, a.2⟩)
/-- The head of a frame is a fault. -/
theorem Inv.onGave (h : Inv w eb mb g) (hL : g.L.length ≤ 1048576) (hg : GaveG w w' eb 25 98 g.m.cells g.m.got) : Dies w w' eb mb g (g.bare.died code) code := by
  obtain ⟨cs', gv', L, K, F, S, hrd, hal, hc⟩ := hg
  have hen : EnB w' eb (g.m.rd gv' L K F S) := ⟨by rw [hrd.blk, rd_cells hal hrd.c0 hrd.c1 hrd.c2 hrd.c3 hrd.c4]⟩
  refine ⟨g, w, g.m.rd gv' L K F S, rfl, Next.refl h, hen, rfl, hc.mono fun j _ e => ?_, hL⟩
  rcases e with e | e
  · exact Or.inl e
  · exact Or.inr (Or.inl e)
end
theorem i_comeF (eb mb : Nat) (g p : GEnd) (f : Fr) (code : Int) (bv cv : Value) (w : World) (h : Inv w eb mb g) (hp : g.bare = p) (hc : ComeF p f code) (hL : g.L.length ≤ 1048576) (hbv : w.ownsRow 0 5 1 bv f.body.length (f.body.map B)) (hcv : f.kind = 0 → ContV f.flags bv cv f.body) :
    Calls Tryz.prog 66 #[.pointer (some ⟨eb, 0, none⟩), frV f.kind f.flags f.stream bv cv f.body] w fun e w' => e = .panicked (faultP code) ∧ Dies w w' eb mb g (p.died code) code := by
  have hbs : g.m.bstream = p.m.bstream := by rw [← hp]; rfl
  have hbg : g.m.begun = p.m.begun := by rw [← hp]; rfl
  obtain ⟨sv, cb, hsv⟩ := slice_len hbv
  cases hc using ComeF.ind with
  | gone fl s b hs hpd ha hr hb hg =>
    have hcb : cv = bv := by
      have := hcv rfl
      unfold ContV at this
      rw [hpd] at this
      simpa using this
    rw [show frV (Fr.mk 0 fl s.st.number b).kind (Fr.mk 0 fl s.st.number b).flags (Fr.mk 0 fl s.st.number b).stream bv cv (Fr.mk 0 fl s.st.number b).body = .iface 155 (dataV fl s.st.number sv b.length cb) from by
      simp only at hsv
      unfold frV dataV
      simp [hcb, hsv]]
    refine come_data_p eb mb g w (fun w' => Dies w w' eb mb g (p.died 11) 11) fl s.st.number sv b.length cb h (by rw [hbs]; exact hb) (by rw [hbg]; exact hg) ?_
    intro w1 g1 hah1
    obtain ⟨e1, n1⟩ := hah1
    have e2 : g1.bare = p.begin := by rw [e1, ← hp]; rfl
    have hL1 : g1.L.length ≤ 1048576 := by
      have e3 : g1.bare.L = p.begin.L := by rw [e2]
      have e4 : g.bare.L = p.L := by rw [hp]
      have e5 : g1.L = g.L := e3.trans e4.symm
      rw [e5]; exact hL
    obtain ⟨x, hx, rfl⟩ := mem_bare (p := p.begin) e2 hs
    refine (comeData_gone eb mb g1 x fl sv b.length cb w1 n1.inv hx ha hr).mono ?_
    rintro e w' ⟨rfl, hb'⟩
    have hd := Dies.of (code := 11) (n1.then_below hb') hL1
    rw [e2] at hd
    exact ⟨rfl, hd⟩
/-- A byte that is a fault. -/
def ByteF (p : GEnd) (c : UInt8) (code : Int) : Prop := ∀ Z : Prop, (∀ (hg : p.m.greeted = 7) (hs : step p.got c = .fault code), Z) → (∀ (f : Fr) (hg : p.m.greeted = 7) (hs : step p.got c = .frame f) (hc : ComeF { p with got := [] } f code), Z) → Z
theorem ByteF.head {p : GEnd} {c : UInt8} {code : Int} (hg : p.m.greeted = 7) (hs : step p.got c = .fault code) : ByteF p c code := fun Z zk1 zk2 => zk1 hg hs
theorem ByteF.frame {p : GEnd} {c : UInt8} {code : Int} {f : Fr} (hg : p.m.greeted = 7) (hs : step p.got c = .frame f) (hc : ComeF { p with got := [] } f code) : ByteF p c code := fun Z zk1 zk2 => zk2 f hg hs hc
theorem ByteF.ind {p : GEnd} {c : UInt8} {code : Int} {motive : ByteF p c code → Prop} (head : ∀ (hg : p.m.greeted = 7) (hs : step p.got c = .fault code), motive (@ByteF.head p c code hg hs)) (frame : ∀ {f : Fr} (hg : p.m.greeted = 7) (hs : step p.got c = .frame f) (hc : ComeF { p with got := [] } f code), motive (@ByteF.frame p c code f hg hs hc)) (zt : ByteF p c code) : motive zt := (zt (∃ zt : ByteF p c code, motive zt) (fun hg hs => ⟨_, @head hg hs⟩) (fun f hg hs hc => ⟨_, @frame f hg hs hc⟩)).elim fun _ zx => zx

set_option maxRecDepth 100000 in
set_option maxHeartbeats 1200000 in
theorem i_byteF (eb mb : Nat) (g : GEnd) (c : UInt8) (code : Int) (w : World) (h : Inv w eb mb g) (hr : RdOk g) (hb : ByteF g.bare c code) (hL : g.L.length ≤ 1048576) :
    Calls Tryz.prog 47 #[.pointer (some ⟨eb, 0, none⟩), .int .u8 c.toNat] w fun e w' => e = .panicked (faultP code) ∧ Dies w w' eb mb g (g.bare.died code) code := by
  have c24 := h.en.c24
  have hlt := h.en.lt
  have hT := take_any eb 25 98 g.m.cells g.m.got g.got c w (h.rdsg hr)
  cases hb using ByteF.ind with
  | head hg hs =>
    rw [show g.m.greeted = 7 from hg] at c24
    have hs' : step g.got c = .fault code := hs
    have HT : Hid (Calls Tryz.prog 65 #[.pointer (some ⟨eb, 25, none⟩), .int .u8 c.toNat] w fun e w' => e = .panicked [{ v := .iface 36 (.int .i64 code), recovered := false }] ∧ Dies w w' eb mb g (g.bare.died code) code) := by
      refine hT.mono ?_
      rintro e w' (⟨g1, cs', gv', h1, -⟩ | ⟨code', h1, h2, h3⟩ | ⟨f, bv, cv, cs', gv', h1, -⟩)
      · rw [hs'] at h1; cases h1
      · rw [hs'] at h1
        simp only [Sum.inr.injEq] at h1
        subst h1
        exact ⟨h2, h.onGave hL h3⟩
      · rw [hs'] at h1; cases h1
    clear h hr hT hs hs' hg
    go_enter Tryz.func47, Tryz.ntmps47
    go_wp2_with fail
    refine HT.out.mono ?_
    rintro e w' ⟨rfl, hx⟩
    have HX := hide hx
    clear hx
    go_wp2
    exact ⟨rfl, rfl, HX.out⟩
  | @frame f hg hs hc =>
    rw [show g.m.greeted = 7 from hg] at c24
    have hs' : step g.got c = .frame f := hs
    have HT : Hid (Calls Tryz.prog 65 #[.pointer (some ⟨eb, 25, none⟩), .int .u8 c.toNat] w fun e w' => ∃ bv cv, e = .returned (.tuple #[frV f.kind f.flags f.stream bv cv f.body, .bool true]) ∧ Calls Tryz.prog 66 #[.pointer (some ⟨eb, 0, none⟩), frV f.kind f.flags f.stream bv cv f.body] w' fun e w'' => e = .panicked [{ v := .iface 36 (.int .i64 code), recovered := false }] ∧ Dies w w'' eb mb g (g.bare.died code) code) := by
      refine hT.mono ?_
      rintro e w' (⟨g1, cs', gv', h1, -⟩ | ⟨code, h1, -⟩ | ⟨f', bv, cv, cs', gv', h1, h2, h3, h4, h5, h6, h7⟩)
      · rw [hs'] at h1; cases h1
      · rw [hs'] at h1; cases h1
      · rw [hs'] at h1
        simp only [Sum.inl.injEq, Sum.inr.injEq] at h1
        subst h1
        refine ⟨bv, cv, h2, ?_⟩
        obtain ⟨g2, e1, e2, e3, e4⟩ := h.onGot h6
        have hL2 : g2.L.length ≤ 1048576 := by
          have e5 : g2.bare.L = ({ g with got := [] } : GEnd).bare.L := by rw [e1]
          have e6 : g2.L = g.L := e5
          rw [e6]; exact hL
        refine (i_comeF eb mb g2 { g.bare with got := [] } f code bv cv w' e3.inv (by rw [e1]; rfl) hc hL2 h4 h3).mono ?_
        rintro e w'' ⟨rfl, q1⟩
        exact ⟨rfl, q1.pre e3⟩
    clear h hr hT hs hs' hg
    go_enter Tryz.func47, Tryz.ntmps47
    go_wp2_with fail
    refine HT.out.mono ?_
    rintro e w' ⟨bv, cv, rfl, hx⟩
    have HX := hide hx
    clear hx
    obtain ⟨ty, x, hfv⟩ := frV_iface f.kind f.flags f.stream bv cv f.body
    rw [hfv] at HX ⊢
    go_wp2_with fail
    refine HX.out.mono ?_
    rintro e w'' ⟨rfl, hx⟩
    have HY := hide hx
    clear hx
    go_wp2
    exact ⟨rfl, rfl, HY.out⟩
/-- Bytes that are a fault. -/
def FeedF (z1 : GEnd) (z2 : List UInt8) (z3 : Int) (z4 : GEnd) : Prop := ∀ Z : GEnd → List UInt8 → Int → GEnd → Prop, (∀ (p : GEnd) (c : UInt8) (r : List UInt8) (code : Int) (hf : p.m.fault = 0) (hb : ByteF p c code), Z p (c :: r) code (p.died code)) → (∀ (p p1 q : GEnd) (c : UInt8) (r : List UInt8) (code : Int) (hf : p.m.fault = 0) (hb : ByteR p c p1) (h : Z p1 r code q), Z p (c :: r) code q) → Z z1 z2 z3 z4
theorem FeedF.fault {p : GEnd} {c : UInt8} {r : List UInt8} {code : Int} (hf : p.m.fault = 0) (hb : ByteF p c code) : FeedF p (c :: r) code (p.died code) := fun Z zk1 zk2 => zk1 p c r code hf hb
theorem FeedF.step {p p1 q : GEnd} {c : UInt8} {r : List UInt8} {code : Int} (hf : p.m.fault = 0) (hb : ByteR p c p1) (h : FeedF p1 r code q) : FeedF p (c :: r) code q := fun Z zk1 zk2 => zk2 p p1 q c r code hf hb (h Z zk1 zk2)
theorem FeedF.ind {motive : ∀ (z1 : GEnd) (z2 : List UInt8) (z3 : Int) (z4 : GEnd), FeedF z1 z2 z3 z4 → Prop} (fault : ∀ {p : GEnd} {c : UInt8} {r : List UInt8} {code : Int} (hf : p.m.fault = 0) (hb : ByteF p c code), motive p (c :: r) code (p.died code) (@FeedF.fault p c r code hf hb)) (step : ∀ {p p1 q : GEnd} {c : UInt8} {r : List UInt8} {code : Int} (hf : p.m.fault = 0) (hb : ByteR p c p1) (h : FeedF p1 r code q) (ih : motive p1 r code q h), motive p (c :: r) code q (@FeedF.step p p1 q c r code hf hb h)) {z1 : GEnd} {z2 : List UInt8} {z3 : Int} {z4 : GEnd} (zt : FeedF z1 z2 z3 z4) : motive z1 z2 z3 z4 zt := (zt (fun z1 z2 z3 z4 => ∃ zt : FeedF z1 z2 z3 z4, motive z1 z2 z3 z4 zt) (fun p c r code hf hb => ⟨_, @fault p c r code hf hb⟩) (fun p p1 q c r code hf hb zy => zy.elim fun h zx => ⟨_, @step p p1 q c r code hf hb h zx⟩)).elim fun _ zx => zx
theorem FeedR.fault {p p1 q : GEnd} {l r : List UInt8} {code : Int} (h : FeedR p l p1) (h2 : FeedF p1 r code q) : FeedF p (l ++ r) code q := by
  induction h using FeedR.ind with
  | nil => exact h2
  | greet hk hk7 hf hc _ ih => exact .step hf (.greet hk hk7 hc) (ih h2)
  | more hg hf hs _ ih => exact .step hf (.more hg hs) (ih h2)
  | frame hg hf hs hc _ ih => exact .step hf (.frame hg hs hc) (ih h2)

set_option maxRecDepth 100000 in
set_option maxHeartbeats 1200000 in
theorem i_feedF (eb mb : Nat) (g q : GEnd) (bv : Value) (l : List UInt8) (code : Int) (w : World) (h : Inv w eb mb g) (hr : RdOk g) (hf : FeedF g.bare l code q) (hL : q.L.length ≤ 1048576) (hgl : Gl w) (hge : ∀ j, j < 7 → ¬ Foot eb mb g j) (hb : BytesIn w bv l) (hbn : ∀ j, bv.ownBlock = some j → ¬ Foot eb mb g j) (hl : l.length ≤ 268435456) :
    Calls Tryz.prog 26 #[.pointer (some ⟨eb, 0, none⟩), bv] w fun e w' => e = .panicked (faultP code) ∧ Dies w w' eb mb g q code := by
  obtain ⟨sv, cv, hv, -⟩ := bytesIn_len hb
  subst hv
  have H := hide h
  have HR := hide hr
  have HF := hide hf
  have HGL := hide hgl
  have HGE := hide hge
  have HB := hide hb
  have HBN := hide hbn
  clear h hr hf hgl hge hb hbn
  go_enter Tryz.func26, Tryz.ntmps26
  go_wp2
  go_loopw [8] (fun i wr => ∃ (k : Nat) (wv : World) (c : GEnd), wv = wr ∧ i = .int .i64 (k : Int) ∧ k ≤ l.length ∧ Next w wv eb mb g c ∧ RdOk c ∧ FeedF c.bare (l.drop k) code q) (fun i _ => l.length - (intOf i).toNat)
  case atStart => exact ⟨0, _, g, rfl, rfl, Nat.zero_le _, Next.refl H.out, HR.out, HF.out⟩
  case round =>
    obtain ⟨k, wv, c, hwv, rfl, hk, hnx, hrd, hfe⟩ := hrel
    subst hwv
    have hlk : k < l.length := by
      rcases Nat.lt_or_ge k l.length with a | a
      · exact a
      · rw [List.drop_of_length_le a] at hfe
        cases hfe using FeedF.ind
    rw [drop_cons hlk] at hfe
    have hfa : c.bare.m.fault = 0 := by cases hfe using FeedF.ind <;> assumption
    obtain ⟨hbyt, hnf⟩ := hnx.bytes HB.out HBN.out
    have hgl1 := HGL.out.chg hnx.chg HGE.out
    have hge1 : ∀ j, j < 7 → ¬ Foot eb mb c j := fun j hj hf => by
      rcases hnx.grow j hf with a | a
      · exact HGE.out j hj a
      · have := HGL.out.lt; omega
    have hi : Calls Tryz.prog 47 #[.pointer (some ⟨eb, 0, none⟩), .int .u8 (l.getD k 0).toNat] wv fun e w' => (e = .returned (.tuple #[]) ∧ ∃ c1, Next w w' eb mb g c1 ∧ RdOk c1 ∧ FeedF c1.bare (l.drop (k + 1)) code q) ∨ (e = .panicked [{ v := .iface 36 (.int .i64 code), recovered := false }] ∧ Dies w w' eb mb g q code) := by
      cases hfe using FeedF.ind with
      | fault hf hby =>
        refine (i_byteF eb mb c (l.getD k 0) code wv hnx.inv hrd hby hL).mono ?_
        rintro e w' ⟨rfl, hd⟩
        exact Or.inr ⟨rfl, hd.pre hnx⟩
      | step hf hby hfr =>
        refine (i_byte eb mb c c.bare _ (l.getD k 0) wv hnx.inv hrd rfl hby hgl1 hge1).mono ?_
        rintro e w' ⟨rfl, c1, hc1, hr1, hn1⟩
        exact Or.inl ⟨rfl, c1, hnx.trans hn1, hr1, by rw [hc1]; exact hfr⟩
    have hd := isDead_any eb c.m wv hnx.inv.en
    have hfa' : c.m.fault = 0 := hfa
    rw [show (!(c.m.fault == 0)) = false from by rw [hfa']; rfl] at hd
    rcases hbyt with ⟨-, h0⟩ | ⟨bb, off, cap, h1, h2, h3, h4⟩
    · rw [h0] at hlk; simp at hlk
    · simp only [Value.slice.injEq] at h1
      obtain ⟨rfl, _, rfl⟩ := h1
      have hcell := h4 k hlk
      have HI := hide hi
      have HD := hide hd
      generalize l.getD k 0 = cc at *
      clear hi hd hnx hfe hrd hgl1 hge1 h4 hfa hfa' hnf
      go_wp2_with fail
      refine HD.out.mono ?_
      rintro e w' ⟨rfl, hw'⟩
      rw [hw']
      clear hw' w'
      go_wp2_with fail
      refine HI.out.mono ?_
      rintro e w1 (⟨rfl, hx⟩ | ⟨rfl, hx⟩)
      · obtain ⟨c1, hn1, hr1, hfr⟩ := hx
        have HR1 := hide hr1
        have HN1 := hide hn1
        have HFR := hide hfr
        clear hr1 hn1 hfr
        go_wp2
        all_goals go_roundw
        case rel => exact ⟨k + 1, _, c1, rfl, by go_num, by omega, HN1.out, HR1.out, HFR.out⟩
        case measure => simp [intOf]; omega
      · have HX := hide hx
        clear hx
        go_wp2
        exact ⟨rfl, rfl, HX.out⟩
end Go.Proofs.YtiphkngfbpdeoaaGreatDoor
/-
  Package sluice: Feed of an end, of bytes that are no fault.
-/
namespace Go.Proofs.YtiphkngfbpdeoaaGreatDoor
set_option linter.unusedVariables false
set_option linter.unusedSimpArgs false
open Go.RowKit

set_option maxRecDepth 100000 in
set_option maxHeartbeats 400000 in
theorem xclos_idle (fa ra : Nat) (w : World) :
    CallsD Tryz.prog 23 #[.pointer (some ⟨fa, 0, none⟩), .pointer (some ⟨ra, 0, none⟩)] .returning w fun e u' w' => e = .returned (.tuple #[]) ∧ u' = .returning ∧ w' = w := by
  refine callsD_of_wpS Tryz.func23 rfl fun c₀ cs hu => ?_
  apply wpS_seq
  apply wpS_region
  simp [wpOpsS, go_sem, recoverD, hu, Tryz.ntmps23, Exit.thenS]
  refine wpS_of_wp ?_
  change Code.wp Tryz.prog _ _ ⟨#[.pointer (some ⟨fa, 0, none⟩), .pointer (some ⟨ra, 0, none⟩), .nilIface, .nilIface, undef, undef, undef, undef, undef, undef, undef, undef, undef], []⟩ w
  go_wp2
  cases c₀
  simp_all [bodyPostS, results, Tryz.results23]

theorem Next.out {w w1 w2 : World} {eb mb : Nat} {g g' : GEnd} {S : Nat → Prop} (h : Next w w1 eb mb g g') (hc : Chg S w1 w2) (hs : ∀ j, S j → w.heap.size ≤ j ∧ ¬ Foot eb mb g' j) : Next w w2 eb mb g g' where
  inv := h.inv.chg hc (fun j hj e => (hs j e).2 hj)
  chg := h.chg.trans (hc.mono fun j _ e => Or.inl (hs j e).1)
  grow := h.grow

set_option maxRecDepth 100000 in
set_option maxHeartbeats 1200000 in
theorem x_feed (eb mb : Nat) (g q : GEnd) (bv : Value) (l : List UInt8) (w : World) (h : Inv w eb mb g) (hr : RdOk g) (hf : FeedR g.bare l q) (hq : q.m.fault = 0) (hgl : Gl w) (hge : ∀ j, j < 7 → ¬ Foot eb mb g j) (hb : BytesIn w bv l) (hbn : ∀ j, bv.ownBlock = some j → ¬ Foot eb mb g j) (hl : l.length ≤ 268435456) :
    Calls Tryz.prog 8 #[.pointer (some ⟨eb, 0, none⟩), bv] w fun e w' => e = .returned (.int .i64 0) ∧ ∃ g', g'.bare = q ∧ RdOk g' ∧ Next w w' eb mb g g' := by
  have hmf : ∀ (fn : Fn) (first cap : Array Value) (w : World), (Instr.makeFunc fn first cap).run Tryz.prog w = .ok (.func fn first cap) w := fun _ _ _ _ => rfl
  obtain ⟨wA, hwA⟩ : ∃ wA, wA = (w.alloc (.cells #[.pointer (some ⟨eb, 0, none⟩)] 29)).alloc (.cells #[.int .i64 0] 36) := ⟨_, rfl⟩
  have hbA : Below w.heap.size w wA := by rw [hwA]; exact ((Below.refl _ _).alloc (Nat.le_refl _) _).alloc (by simp) _
  have hbx : wA.heap[w.heap.size]? = some (.cells #[.pointer (some ⟨eb, 0, none⟩)] 29 (0, 0)) := by
    rw [hwA, heap_alloc_old _ _ (by simp)]
    exact heap_alloc_new w _
  have hfc : wA.heap[w.heap.size + 1]? = some (.cells #[.int .i64 0] 36 (0, 0)) := by
    have := heap_alloc_new (w.alloc (.cells #[.pointer (some ⟨eb, 0, none⟩)] 29)) (.cells #[.int .i64 0] 36)
    rw [hwA]
    simpa using this
  have hA := h.below hbA
  have HFE := hide (i_feed eb mb g q bv l wA hA hr hf (hgl.below hbA) hge (hb.chg (Chg.of_below (S := fun _ => False) hbA) (fun _ _ => id)) hbn hl)
  have hnf : ∀ j, w.heap.size ≤ j → ¬ Foot eb mb g j := fun j hj hf => by have := Foot.lt h hf; omega
  have hlA : w.heap.size + 1 < wA.heap.size := lt_of_block hfc
  -- behind the inner Feed
  have HMID : Hid (∀ w1 g', g'.bare = q → Next wA w1 eb mb g g' → w1.cell? ⟨w.heap.size, 0, none⟩ = some (.pointer (some ⟨eb, 0, none⟩)) ∧ w1.cell? ⟨w.heap.size + 1, 0, none⟩ = some (.int .i64 0) ∧ w1.frozen? ⟨w.heap.size + 1, 0, none⟩ = false ∧ (Calls Tryz.prog 27 #[.pointer (some ⟨eb, 0, none⟩)] w1 fun e w' => e = .returned (.int .i64 0) ∧ w' = w1) ∧ (∀ v, (w1.setCell ⟨w.heap.size + 1, 0, none⟩ v).cell? ⟨w.heap.size + 1, 0, none⟩ = some v) ∧ ∀ v, Next w (w1.setCell ⟨w.heap.size + 1, 0, none⟩ v) eb mb g g') := fun w1 g' hg hn => by
    have e1 : w1.heap[w.heap.size]? = some (.cells #[.pointer (some ⟨eb, 0, none⟩)] 29 (0, 0)) := by rw [hn.chg.block _ (lt_of_block hbx) (hnf _ (Nat.le_refl _))]; exact hbx
    have e2 : w1.heap[w.heap.size + 1]? = some (.cells #[.int .i64 0] 36 (0, 0)) := by rw [hn.chg.block _ hlA (hnf _ (Nat.le_succ _))]; exact hfc
    refine ⟨cell_of_one e1, cell_of_one e2, free_of_one e2, ?_, fun v => cell_of_one (show (w1.setCell ⟨w.heap.size + 1, 0, none⟩ v).heap[w.heap.size + 1]? = some (.cells #[v] 36 (0, 0)) from blk_set e2), fun v => ?_⟩
    · have := eFault_any eb g'.m w1 hn.inv.en
      rw [show g'.m.fault = 0 from by have e3 : g'.bare.m.fault = 0 := (by rw [hg]; exact hq); exact e3] at this
      exact this
    · refine (hn.pre hbA).out (S := fun j => j = w.heap.size + 1) (chg_set (Chg.refl _ _) rfl) (fun j e => ⟨by omega, fun hf => ?_⟩)
      rcases hn.grow j hf with a | a
      · exact hnf j (by omega) a
      · omega
  have HWA := hide hwA
  have hlt := h.en.lt
  obtain ⟨sv, cv, hv, -⟩ := bytesIn_len hb
  subst hv
  clear h hr hf hq hgl hge hb hbn hbA hbx hfc hA hnf
  go_enter_defers Tryz.func8, Tryz.ntmps8
  go_wp2_with fail
  rw [← HWA.out]
  clear hwA
  refine HFE.out.mono ?_
  rintro e w1 ⟨rfl, g', hg', hr', hn'⟩
  obtain ⟨k0, k1, f1, hef, hsame, hend⟩ := HMID.out w1 g' hg' hn'
  have HSAME := hide hsame
  have HEF := hide hef
  have HEND := hide hend
  have HG := hide hg'
  have HR' := hide hr'
  clear hef hend hg' hr' hn' HMID hsame
  go_wp2_with fail
  refine HEF.out.mono ?_
  rintro e w' ⟨rfl, hw'⟩
  rw [hw']
  clear hw' w'
  go_wp2
  refine leaves_cons (f := 23) (args := #[.pointer (some ⟨w.heap.size + 1, 0, none⟩), .pointer (some ⟨w.heap.size, 0, none⟩)]) (by simp) (by simp [go_sem]) ?_
  refine (xclos_idle (w.heap.size + 1) w.heap.size _).mono ?_
  rintro e u' w'' ⟨rfl, rfl, rfl⟩
  refine ⟨.int .i64 0, ?_, ?_⟩
  · have hs := HSAME.out (.int .i64 0)
    simp [results, Tryz.results8, go_sem, hs]
  · exact ⟨rfl, g', HG.out, HR'.out, HEND.out _⟩
end Go.Proofs.YtiphkngfbpdeoaaGreatDoor
/-
  Package sluice: Feed of an end, of bytes that are a fault.
-/
namespace Go.Proofs.YtiphkngfbpdeoaaGreatDoor
set_option linter.unusedVariables false
set_option linter.unusedSimpArgs false
open Go.RowKit

set_option maxRecDepth 100000 in
set_option maxHeartbeats 400000 in
theorem xclos_panic (fa ra eb : Nat) (code : Int) (older : List PanicEntry) (w : World) (R : World → Prop) (hf : w.heap[fa]? = some (.cells #[.int .i64 0] 36 (0, 0))) (hra : w.heap[ra]? = some (.cells #[.pointer (some ⟨eb, 0, none⟩)] 29 (0, 0))) (hne : fa ≠ ra)
    (hd : Calls Tryz.prog 25 #[.pointer (some ⟨eb, 0, none⟩), .int .i64 code] (w.setCell ⟨fa, 0, none⟩ (.int .i64 code)).drew fun e w' => e = .returned (.tuple #[]) ∧ R w') (hk : ∀ w', R w' → w'.cell? ⟨ra, 0, none⟩ = some (.pointer (some ⟨eb, 0, none⟩)) ∧ w'.cell? ⟨fa, 0, none⟩ = some (.int .i64 code)) :
    CallsD Tryz.prog 23 #[.pointer (some ⟨fa, 0, none⟩), .pointer (some ⟨ra, 0, none⟩)] (.panicking ({ v := .iface 36 (.int .i64 code), recovered := false } :: older)) w fun e u' w' =>
      e = .returned (.tuple #[]) ∧ u' = .panicking ({ v := .iface 36 (.int .i64 code), recovered := true } :: older) ∧ R w' := by
  have cf := cell_of_one hf
  have ff := free_of_one hf
  have c0 := cell_of_one hra
  have hlt := lt_of_block hra
  have k1 : (w.setCell ⟨fa, 0, none⟩ (.int .i64 code)).cell? ⟨fa, 0, none⟩ = some (.int .i64 code) := cell_of_one (show (w.setCell ⟨fa, 0, none⟩ (.int .i64 code)).heap[fa]? = some (.cells #[.int .i64 code] 36 (0, 0)) from blk_set hf)
  have k2 : (w.setCell ⟨fa, 0, none⟩ (.int .i64 code)).cell? ⟨ra, 0, none⟩ = some (.pointer (some ⟨eb, 0, none⟩)) := cell_of_one (by rw [heap_setCell_other w ⟨fa, 0, none⟩ ra _ (fun e => hne e.symm)]; exact hra)
  have HK : Hid ((w.setCell ⟨fa, 0, none⟩ (.int .i64 code)).drew.cell? ⟨ra, 0, none⟩ = some (.pointer (some ⟨eb, 0, none⟩)) ∧ (w.setCell ⟨fa, 0, none⟩ (.int .i64 code)).drew.cell? ⟨fa, 0, none⟩ = some (.int .i64 code)) := ⟨k2, k1⟩
  have HD := hide hd
  have HKP := hide hk
  clear hf hra hd hk
  refine callsD_of_wpS Tryz.func23 rfl fun c₀ cs hu => ?_
  apply wpS_seq
  apply wpS_region
  simp [wpOpsS, go_sem, recoverD, hu, Tryz.ntmps23, Exit.thenS]
  refine wpS_of_wp ?_
  change Code.wp Tryz.prog _ _ ⟨#[.pointer (some ⟨fa, 0, none⟩), .pointer (some ⟨ra, 0, none⟩), .iface 36 (.int .i64 code), .iface 36 (.int .i64 code), undef, undef, undef, undef, undef, undef, undef, undef, undef], []⟩ w
  go_wp2_with (go_at_call 24; refine (faultOf_any _ _).mono ?_; rintro e w' ⟨rfl, hw'⟩; rw [hw']; clear hw' w')
  go_region_held3 (fun wx => wx.cell? ⟨ra, 0, none⟩ = some (.pointer (some ⟨eb, 0, none⟩)) ∧ wx.cell? ⟨fa, 0, none⟩ = some (.int .i64 code)) (first | exact HK.out | exact HKP.out _ (by assumption)) (first | (go_at_call 25; refine HD.out.mono ?_; rintro e w' ⟨rfl, hx⟩))
  all_goals exact ⟨rfl, _, rfl, .tuple #[], by simp [results, Tryz.results23], rfl, rfl, by assumption⟩

set_option maxRecDepth 100000 in
set_option maxHeartbeats 1200000 in
theorem x_feedF (eb mb : Nat) (g q : GEnd) (bv : Value) (l : List UInt8) (code : Int) (w : World) (h : Inv w eb mb g) (hr : RdOk g) (hf : FeedF g.bare l code q) (hL : q.L.length ≤ 1048576) (hgl : Gl w) (hge : ∀ j, j < 7 → ¬ Foot eb mb g j) (hb : BytesIn w bv l) (hbn : ∀ j, bv.ownBlock = some j → ¬ Foot eb mb g j) (hl : l.length ≤ 268435456) :
    Calls Tryz.prog 8 #[.pointer (some ⟨eb, 0, none⟩), bv] w fun e w' => e = .returned (.int .i64 code) ∧ ∃ g', g'.bare = q ∧ RdOk g' ∧ Next w w' eb mb g g' := by
  have hmf : ∀ (fn : Fn) (first cap : Array Value) (w : World), (Instr.makeFunc fn first cap).run Tryz.prog w = .ok (.func fn first cap) w := fun _ _ _ _ => rfl
  obtain ⟨wA, hwA⟩ : ∃ wA, wA = (w.alloc (.cells #[.pointer (some ⟨eb, 0, none⟩)] 29)).alloc (.cells #[.int .i64 0] 36) := ⟨_, rfl⟩
  have hbA : Below w.heap.size w wA := by rw [hwA]; exact ((Below.refl _ _).alloc (Nat.le_refl _) _).alloc (by simp) _
  have hbx : wA.heap[w.heap.size]? = some (.cells #[.pointer (some ⟨eb, 0, none⟩)] 29 (0, 0)) := by
    rw [hwA, heap_alloc_old _ _ (by simp)]
    exact heap_alloc_new w _
  have hfc : wA.heap[w.heap.size + 1]? = some (.cells #[.int .i64 0] 36 (0, 0)) := by
    have := heap_alloc_new (w.alloc (.cells #[.pointer (some ⟨eb, 0, none⟩)] 29)) (.cells #[.int .i64 0] 36)
    rw [hwA]
    simpa using this
  have hA := h.below hbA
  have HFE := hide (i_feedF eb mb g q bv l code wA hA hr hf hL (hgl.below hbA) hge (hb.chg (Chg.of_below (S := fun _ => False) hbA) (fun _ _ => id)) hbn hl)
  have hnf : ∀ j, w.heap.size ≤ j → ¬ Foot eb mb g j := fun j hj hf => by have := Foot.lt h hf; omega
  have hlA : w.heap.size + 1 < wA.heap.size := lt_of_block hfc
  -- behind the inner Feed's panic
  have HMID : Hid (∀ w1, Dies wA w1 eb mb g q code → CallsD Tryz.prog 23 #[.pointer (some ⟨w.heap.size + 1, 0, none⟩), .pointer (some ⟨w.heap.size, 0, none⟩)] (.panicking [{ v := .iface 36 (.int .i64 code), recovered := false }]) w1 fun e u' w' => e = .returned (.tuple #[]) ∧ u' = .panicking [{ v := .iface 36 (.int .i64 code), recovered := true }] ∧ (w'.cell? ⟨w.heap.size, 0, none⟩ = some (.pointer (some ⟨eb, 0, none⟩)) ∧ w'.cell? ⟨w.heap.size + 1, 0, none⟩ = some (.int .i64 code)) ∧ ∃ g', g'.bare = q ∧ RdOk g' ∧ Next w w' eb mb g g') := fun w1 hd => by
    obtain ⟨g1, wI, m0, e, hg⟩ := hd
    have hnf1 : ∀ j, w.heap.size ≤ j → j < wA.heap.size → ¬ Foot eb mb g1 j := fun j h1 h2 hf => by
      rcases hg.nx.grow j hf with a | a
      · exact hnf j h1 a
      · omega
    have hkeep : ∀ j, w.heap.size ≤ j → j < wA.heap.size → w1.heap[j]? = wA.heap[j]? := fun j h1 h2 => by
      rw [hg.chg.block j (Nat.lt_of_lt_of_le h2 hg.nx.chg.size) (fun a => ?_), hg.nx.chg.block j h2 (hnf j h1)]
      rcases a with a | a | a
      · exact hnf1 j h1 h2 (Or.inl a)
      · exact hnf1 j h1 h2 (Or.inr (Or.inr (Or.inr (Or.inl a))))
      · omega
    have e1 : w1.heap[w.heap.size]? = some (.cells #[.pointer (some ⟨eb, 0, none⟩)] 29 (0, 0)) := by rw [hkeep _ (Nat.le_refl _) (by omega)]; exact hbx
    have e2 : w1.heap[w.heap.size + 1]? = some (.cells #[.int .i64 0] 36 (0, 0)) := by rw [hkeep _ (by omega) hlA]; exact hfc
    have hcs0 : Chg (fun j => j = w.heap.size + 1) w1 (w1.setCell ⟨w.heap.size + 1, 0, none⟩ (.int .i64 code)) := chg_set (Chg.refl _ _) rfl
    have hcs : Chg (fun j => j = w.heap.size + 1) w1 (w1.setCell ⟨w.heap.size + 1, 0, none⟩ (.int .i64 code)).drew := hcs0.drew
    have hfa := hnf1 (w.heap.size + 1) (by omega) hlA
    have hra := hnf1 w.heap.size (Nat.le_refl _) (by omega)
    have hg2 : GaveE w (w1.setCell ⟨w.heap.size + 1, 0, none⟩ (.int .i64 code)).drew eb mb g g1 wI m0 code := by
      refine ⟨hg.nx.pre hbA, hg.en.chg hcs (fun a => hfa (Or.inl a.symm)), hg.same, ?_, hg.few⟩
      refine (hg.chg.mono fun j _ a => ?_).trans (hcs.mono fun j _ a => Or.inr ?_)
      · rcases a with a | a | a
        · exact Or.inl a
        · exact Or.inr (Or.inl a)
        · exact Or.inr (Or.inr ⟨by omega, a.2⟩)
      · subst a
        exact Or.inr (Or.inr ⟨by omega, hfa⟩)
    have hb3 : (w1.setCell ⟨w.heap.size + 1, 0, none⟩ (.int .i64 code)).drew.heap[w.heap.size + 1]? = some (.cells #[.int .i64 code] 36 (0, 0)) := by
      show (w1.setCell ⟨w.heap.size + 1, 0, none⟩ (.int .i64 code)).heap[w.heap.size + 1]? = _
      rw [blk_set e2]
      rfl
    have hb4 : (w1.setCell ⟨w.heap.size + 1, 0, none⟩ (.int .i64 code)).drew.heap[w.heap.size]? = some (.cells #[.pointer (some ⟨eb, 0, none⟩)] 29 (0, 0)) := by
      rw [hcs.block _ (lt_of_block e1) (by omega)]
      exact e1
    refine (xclos_panic (w.heap.size + 1) w.heap.size eb code [] w1 (fun w' => (w'.cell? ⟨w.heap.size, 0, none⟩ = some (.pointer (some ⟨eb, 0, none⟩)) ∧ w'.cell? ⟨w.heap.size + 1, 0, none⟩ = some (.int .i64 code)) ∧ ∃ g', g'.bare = q ∧ RdOk g' ∧ Next w w' eb mb g g') e2 e1 (by omega) ?_ (fun w' h => h.1)).mono (fun e u' w' h => h)
    refine (eDie_any w eb mb g g1 wI m0 code _ hg2).mono ?_
    rintro e' w' ⟨rfl, ⟨g', q1, q2, q3⟩, hc⟩
    rw [e] at q1
    refine ⟨rfl, ⟨?_, ?_⟩, g', q1, q2, q3⟩
    · exact cell_of_one (by rw [hc.block _ (lt_of_block hb4) hra]; exact hb4)
    · exact cell_of_one (by rw [hc.block _ (lt_of_block hb3) hfa]; exact hb3)
  have HWA := hide hwA
  have hlt := h.en.lt
  obtain ⟨sv, cv, hv, -⟩ := bytesIn_len hb
  subst hv
  clear h hr hf hL hgl hge hb hbn hbA hfc hA hnf
  have k0 : wA.cell? ⟨w.heap.size, 0, none⟩ = some (.pointer (some ⟨eb, 0, none⟩)) := cell_of_one hbx
  clear hbx
  go_enter_defers Tryz.func8, Tryz.ntmps8
  go_wp2_with fail
  rw [← HWA.out]
  clear hwA
  refine HFE.out.mono ?_
  rintro e w1 ⟨rfl, hd⟩
  have HC := hide (HMID.out w1 hd)
  clear hd HMID HFE
  unfold faultP
  refine leaves_cons (f := 23) (args := #[.pointer (some ⟨w.heap.size + 1, 0, none⟩), .pointer (some ⟨w.heap.size, 0, none⟩)]) (by simp) (by simp [go_sem]) ?_
  refine HC.out.mono ?_
  rintro e u' w'' ⟨rfl, rfl, hk, hx⟩
  have hk2 := hk.2
  refine ⟨.int .i64 code, ?_, ?_⟩
  · simp [results, Tryz.results8, go_sem, hk2]
  · exact ⟨rfl, hx⟩
end Go.Proofs.YtiphkngfbpdeoaaGreatDoor
/-
  Package ends: Take, where nothing is to be announced or sent.
-/
namespace Go.Proofs.YtiphkngfbpdeoaaGreatDoor
set_option linter.unusedVariables false
set_option linter.unusedSimpArgs false
open Go.RowKit

/-- As many frames are made as are needed for n bytes. -/
def Runs (n : Int) (z1 : GEnd) (z2 : GEnd) : Prop := ∀ Z : GEnd → GEnd → Prop, (∀ (g : GEnd) (x1 : n ≤ g.out.length), Z g g) → (∀ (g : GEnd) (x1 : g.next = Option.none), Z g g) → (∀ (g q p : GEnd) (x1 : (g.out.length : Int) < n) (x2 : g.next = some q) (x3 : Z q p), Z g p) → Z z1 z2
theorem Runs.stop {n : Int} {g : GEnd} (x1 : n ≤ g.out.length) : Runs n g g := fun Z zk1 zk2 zk3 => zk1 g x1
theorem Runs.none {n : Int} {g : GEnd} (x1 : g.next = Option.none) : Runs n g g := fun Z zk1 zk2 zk3 => zk2 g x1
theorem Runs.step {n : Int} {g q p : GEnd} (x1 : (g.out.length : Int) < n) (x2 : g.next = some q) (x3 : Runs n q p) : Runs n g p := fun Z zk1 zk2 zk3 => zk3 g q p x1 x2 (x3 Z zk1 zk2 zk3)
theorem Runs.ind {n : Int} {motive : ∀ (z1 : GEnd) (z2 : GEnd), Runs n z1 z2 → Prop} (stop : ∀ {g : GEnd} (x1 : n ≤ g.out.length), motive g g (@Runs.stop n g x1)) (none : ∀ {g : GEnd} (x1 : g.next = Option.none), motive g g (@Runs.none n g x1)) (step : ∀ {g q p : GEnd} (x1 : (g.out.length : Int) < n) (x2 : g.next = some q) (x3 : Runs n q p) (ih : motive q p x3), motive g p (@Runs.step n g q p x1 x2 x3)) {z1 : GEnd} {z2 : GEnd} (zt : Runs n z1 z2) : motive z1 z2 zt := (zt (fun z1 z2 => ∃ zt : Runs n z1 z2, motive z1 z2 zt) (fun g x1 => ⟨_, @stop g x1⟩) (fun g x1 => ⟨_, @none g x1⟩) (fun g q p x1 x2 zy => zy.elim fun x3 zx => ⟨_, @step g q p x1 x2 x3 zx⟩)).elim fun _ zx => zx
theorem next_out {g q : GEnd} (hn : g.next = some q) : g.out.length < q.out.length := by
  have hk : ∀ l : List UInt8, ∀ k f s b, l.length < (l ++ lay k f s b).length := fun l k f s b => by rw [List.length_append, lay_length]; omega
  rcases or_some hn with hn | hn
  · unfold GEnd.oFirst at hn
    split at hn
    · cases hn
    · injection hn with hn; subst hn; exact hk _ _ _ _ _
  rcases or_some hn with hn | hn
  · unfold GEnd.oAnswer at hn
    split at hn
    · cases hn
    · injection hn with hn; subst hn; exact hk _ _ _ _ _
  rcases or_some hn with hn | hn
  · unfold GEnd.oSettings at hn
    split at hn
    · cases hn
    · injection hn with hn; subst hn; exact hk _ _ _ _ _
  rcases or_some hn with hn | hn
  · unfold GEnd.oPing at hn
    split at hn
    · injection hn with hn; subst hn; exact hk _ _ _ _ _
    · cases hn
  rcases or_some hn with hn | hn
  · unfold GEnd.oCredit at hn
    split at hn
    · injection hn with hn; subst hn; exact hk _ _ _ _ _
    · cases hn
  rcases or_some hn with hn | hn
  · unfold GEnd.oStream at hn
    cases hd : firstDueN g.m g.K g.L with
    | none => rw [hd] at hn; cases hn
    | some n => rw [hd, Option.map_some] at hn; injection hn with hn; subst hn; exact hk _ _ _ _ _
  · unfold GEnd.oReset at hn
    split at hn
    · cases hn
    · injection hn with hn; subst hn; exact hk _ _ _ _ _
theorem Runs.le {n : Int} {g p : GEnd} (h : Runs n g p) : g.out.length ≤ p.out.length := by
  induction h using Runs.ind with
  | stop _ => exact Nat.le_refl _
  | none _ => exact Nat.le_refl _
  | step _ h1 _ ih => have := next_out h1; omega
theorem next_fault {g q : GEnd} (hn : g.next = some q) : q.m.fault = g.m.fault := by
  rcases or_some hn with hn | hn
  · unfold GEnd.oFirst at hn
    split at hn
    · cases hn
    · injection hn with hn; subst hn; rfl
  rcases or_some hn with hn | hn
  · unfold GEnd.oAnswer at hn
    split at hn
    · cases hn
    · injection hn with hn; subst hn; rfl
  rcases or_some hn with hn | hn
  · unfold GEnd.oSettings at hn
    split at hn
    · cases hn
    · injection hn with hn; subst hn; rfl
  rcases or_some hn with hn | hn
  · unfold GEnd.oPing at hn
    split at hn
    · injection hn with hn; subst hn; rfl
    · cases hn
  rcases or_some hn with hn | hn
  · unfold GEnd.oCredit at hn
    split at hn
    · injection hn with hn; subst hn; rfl
    · cases hn
  rcases or_some hn with hn | hn
  · unfold GEnd.oStream at hn
    cases hd : firstDueN g.m g.K g.L with
    | none => rw [hd] at hn; cases hn
    | some n => rw [hd, Option.map_some] at hn; injection hn with hn; subst hn; rfl
  · unfold GEnd.oReset at hn
    split at hn
    · cases hn
    · injection hn with hn; subst hn; rfl

/-- How much has been made, as it lies. -/
def madeLen (w : World) (eb : Nat) : Nat := match w.cell? ⟨eb, 41, none⟩ with
  | some (.slice _ n _) => n
  | _ => 0
theorem Inv.madeLen {w : World} {eb mb : Nat} {g : GEnd} (h : Inv w eb mb g) : madeLen w eb = g.out.length := by
  obtain ⟨a, c, e⟩ := slice_len h.out
  unfold Go.Proofs.YtiphkngfbpdeoaaGreatDoor.madeLen
  rw [h.en.c41, e]
def oneIf (v : Value) : Nat := match v with
  | .bool true => 1
  | _ => 0
/-- How Take ends. -/
structure Taken (w w' : World) (eb mb : Nat) (g p : GEnd) (n : Int) (e : Ending) : Prop where
  eq : ∃ s, e = .returned (.slice s (cutN n p.out.length) (cutN n p.out.length)) ∧ BytesIn w' (.slice s (cutN n p.out.length) (cutN n p.out.length)) (p.out.take (cutN n p.out.length))
  next : ∃ g', g'.bare = { p with out := p.out.drop (cutN n p.out.length) } ∧ Next w w' eb mb g g'

theorem taken_of {w w1 w' : World} {eb mb : Nat} {g c : GEnd} {n : Int} {v' : Value} {e : Ending} (hn : Next w w1 eb mb g c) (hc : CutOff w1 w' eb 41 c.m.out v' c.out (cutN n c.out.length) e) : Taken w w' eb mb g c.bare n e := by
  obtain ⟨⟨s, he, hby, -⟩, w2, hw2, hb2, hrow⟩ := hc
  refine ⟨⟨s, he, hby⟩, ?_⟩
  subst hw2
  have hi := hn.inv.below hb2
  have hset : Chg (fun j => j = eb) w2 (w2.setCell ⟨eb, 41, none⟩ v') := chg_set (Chg.refl _ _) rfl
  have hr0 : w2.ownsRow 0 5 1 v' (c.out.drop (cutN n c.out.length)).length ((c.out.drop (cutN n c.out.length)).map B) := by
    rw [List.length_drop]
    exact owns_base hrow (fun _ _ => Nat.zero_le _)
  have hcc : Chg (fun j => j = eb) w1 (w2.setCell ⟨eb, 41, none⟩ v') := (Chg.of_below hb2).trans (hset.mono fun j _ e => Or.inr e)
  have hn2 := hn.inv.onEnd (S := fun j => j = eb) (w' := w2.setCell ⟨eb, 41, none⟩ v') (m' := { c.m with out := v' }) (A' := c.ans) (R' := c.res) (o' := c.out.drop (cutN n c.out.length)) hcc (fun j e => Or.inl e) (EnB.of (blk_set hi.en.blk) rfl) rfl rfl rfl
    (owns_chg hr0 hset (fun j hj e => by rw [e] at hj; exact owns_ne hr0 hi.en.blk (by decide) hj)) (fun j hj => Or.inr (hrow.lt j hj).1) hn.inv.ans (fun _ h => h) (fun _ h => h) hn.inv.res (fun _ h => h)
  refine ⟨_, ?_, hn.trans hn2⟩
  rfl

set_option maxRecDepth 100000 in
set_option maxHeartbeats 1600000 in
theorem i_take (eb mb : Nat) (g p : GEnd) (n : Int) (w : World) (h : Inv w eb mb g) (hf : Fine g) (hlive : g.m.fault = 0) (hr : Runs n g.bare p) (hl : p.out.length ≤ 1073741824) :
    Calls Tryz.prog 50 #[.pointer (some ⟨eb, 0, none⟩), .int .i64 n] w fun e w' => Taken w w' eb mb g p n e := by
  have H := hide h
  have HF := hide hf
  have HR := hide hr
  have HL := hide hlive
  clear h hf hr hlive
  go_enter Tryz.func50, Tryz.ntmps50
  go_wp2
  go_loopw [5] (fun i wr => ∃ (wv : World) (c : GEnd) (mo : Bool), wv = wr ∧ i = .bool mo ∧ Next w wv eb mb g c ∧ Fine c ∧ c.m.fault = 0 ∧ c.out.length ≤ p.out.length ∧ (if mo then Runs n c.bare p else c.bare = p)) (fun i wr => (p.out.length - madeLen wr eb) * 2 + oneIf i)
  case atStart => exact ⟨_, g, true, rfl, rfl, Next.refl H.out, HF.out, HL.out, HR.out.le, HR.out⟩
  case round =>
    obtain ⟨wv, c, mo, hwv, rfl, hnx, hfi, hfa, hle, hmo⟩ := hrel
    subst hwv
    have c41 := hnx.inv.en.c41
    obtain ⟨sa, ca, hsl⟩ := slice_len hnx.inv.out
    rw [hsl] at c41
    have hml := hnx.inv.madeLen
    have HNX := hide hnx
    have HFI := hide hfi
    have HFA := hide hfa
    have HML := hide hml
    have HSL := hide hsl
    have HMO := hide hmo
    clear hnx hfi hfa hml hsl hmo
    have HCUT : Hid (c.bare = p → ∀ wx, wx = wv → Calls Tryz.prog 49 #[.pointer (some ⟨eb, 41, none⟩), .int .i64 n] wx fun e w' => Taken w w' eb mb g p n e) := fun hcp wx hwx => by
      subst hwx
      have hlo : c.out.length ≤ 1073741824 := by omega
      refine (ecut_any eb 41 c.m.out c.out n _ HNX.out.inv.en.c41 (HNX.out.inv.en.fr 41) HNX.out.inv.en.lt HNX.out.inv.out (fun e => owns_ne HNX.out.inv.out HNX.out.inv.en.blk (by decide) e) hlo).mono ?_
      rintro e w' ⟨v', hc⟩
      have := taken_of HNX.out hc
      rw [hcp] at this
      exact this
    cases mo with
    | false =>
      have hcp := HMO.out
      simp only [Bool.false_eq_true, if_false] at hcp
      have HC := hide (HCUT.out hcp _ rfl)
      clear hcp HCUT
      go_wp2_with fail
      refine HC.out.mono ?_
      intro e w' ht
      obtain ⟨s, he, -⟩ := ht.eq
      have HT := hide ht
      clear ht
      subst he
      go_wp2
      go_ret
      exact HT.out
    | true =>
      have hru := HMO.out
      simp only [if_true] at hru
      have HRU := hide hru
      clear hru HMO
      by_cases hlt : (c.out.length : Int) < n
      · have hlo : c.out.length ≤ 1073741824 := by omega
        have hmk := i_makeNext eb mb c wv HNX.out.inv HFI.out hlo HFA.out
        have HMK := hide hmk
        clear hmk HCUT
        go_wp2_with fail
        refine HMK.out.mono ?_
        intro e w1 hm
        have hnb := next_bare c
        cases hcn : c.next with
        | none =>
          rw [hcn] at hm hnb
          obtain ⟨rfl, hb⟩ := hm
          have hcp : c.bare = p := by
            cases HRU.out using Runs.ind with
            | stop h1 => rfl
            | none h1 => rfl
            | step h1 h2 h3 => rw [← hnb] at h2; cases h2
          have hml1 : madeLen w1 eb = c.out.length := (HNX.out.then_below hb).inv.madeLen
          have HB := hide hb
          have HCP := hide hcp
          clear hb hcp hnb hcn
          go_wp2
          all_goals go_roundw
          case rel => exact ⟨_, c, false, rfl, rfl, HNX.out.then_below HB.out, HFI.out, HFA.out, hle, by simpa using HCP.out⟩
          case measure => rw [hml1, HML.out]; simp [oneIf]
        | some q =>
          rw [hcn] at hm hnb
          obtain ⟨rfl, g', hg', hn'⟩ := hm
          have hq := HFI.out.next hcn
          have hgo : g'.out = q.out := by have := congrArg GEnd.out hg'; exact this
          have hfi' : Fine g' := Fine.of_bare (by rw [hg']; exact hq.bare)
          have hfa' : g'.m.fault = 0 := by
            have e1 : g'.m.fault = g'.bare.m.fault := rfl
            rw [e1, hg']
            show q.m.fault = 0
            rw [next_fault hcn, HFA.out]
          have hru' : Runs n g'.bare p := by
            rw [hg']
            simp only [Option.map_some] at hnb
            cases HRU.out using Runs.ind with
            | stop h1 => exact absurd (show n ≤ (c.out.length : Int) from h1) (by omega)
            | none h1 => rw [← hnb] at h1; cases h1
            | step h1 h2 h3 =>
              rw [← hnb] at h2
              injection h2 with h2
              rw [h2]
              exact h3
          have hlt' := next_out hcn
          have hml1 : madeLen w1 eb = g'.out.length := hn'.inv.madeLen
          have hle' := hru'.le
          rw [show g'.bare.out = g'.out from rfl] at hle'
          rw [hgo] at hml1 hle'
          have HN' := hide hn'
          have HFI' := hide hfi'
          have HFA' := hide hfa'
          have HRU' := hide hru'
          have HGO := hide hgo
          clear hn' hfi' hfa' hru' hnb hcn hq hg' hgo
          go_wp2
          all_goals go_roundw
          case rel => exact ⟨_, g', true, rfl, rfl, HNX.out.trans HN'.out, HFI'.out, HFA'.out, by rw [HGO.out]; exact hle', by simpa using HRU'.out⟩
          case measure => rw [hml1, HML.out]; simp [oneIf]; omega
      · have hcp : c.bare = p := by
          cases HRU.out using Runs.ind with
          | stop h1 => rfl
          | none h1 => rfl
          | step h1 h2 h3 => exact absurd (show (c.out.length : Int) < n from h1) hlt
        have HC := hide (HCUT.out hcp _ rfl)
        clear hcp HCUT HRU
        go_wp2_with fail
        refine HC.out.mono ?_
        intro e w' ht
        obtain ⟨s, he, -⟩ := ht.eq
        have HT := hide ht
        clear ht
        subst he
        go_wp2
        go_ret
        exact HT.out
set_option maxHeartbeats 400000 in
theorem x_take (eb mb : Nat) (g p : GEnd) (n : Int) (w : World) (h : Inv w eb mb g) (hf : Fine g) (hlive : g.m.fault = 0) (hr : Runs n g.bare p) (hl : p.out.length ≤ 1073741824) :
    Calls Tryz.prog 29 #[.pointer (some ⟨eb, 0, none⟩), .int .i64 n] w fun e w' => Taken w w' eb mb g p n e := by
  have HC := hide (i_take eb mb g p n w h hf hlive hr hl)
  clear h hf hr hl hlive
  go_enter Tryz.func29, Tryz.ntmps29
  go_wp2_with fail
  refine HC.out.mono ?_
  intro e w' ht
  obtain ⟨s, he, -⟩ := ht.eq
  have HT := hide ht
  clear ht
  subst he
  go_wp2
  go_ret
  exact HT.out
end Go.Proofs.YtiphkngfbpdeoaaGreatDoor
/-
  Whole frames, fed.
-/
namespace Go.Proofs.YtiphkngfbpdeoaaGreatDoor
set_option linter.unusedVariables false
set_option linter.unusedSimpArgs false
open Go.RowKit

theorem step_fault_ne {got : List UInt8} {c : UInt8} {code : Int} (h : step got c = .fault code) : code ≠ 0 := by
  rcases step_fault h with ⟨-, h1, rfl⟩ | ⟨-, -, -, h1, rfl⟩
  · exact h1
  · exact h1
theorem feed_none {got l g' : List UInt8} (h : feed got l = ([], ⟨g', 0⟩)) : g' = got ++ l := by
  induction l generalizing got with
  | nil =>
    unfold feed at h
    simp only [Prod.mk.injEq, true_and, Rd.mk.injEq, and_true] at h
    rw [← h, List.append_nil]
  | cons c r ih =>
    unfold feed at h
    cases hs : step got c with
    | inl x =>
      rw [hs] at h
      cases x with
      | inl g1 =>
        simp only at h
        have h1 := ih h
        obtain ⟨h2, -⟩ := step_more hs
        rw [h1, h2]
        simp
      | inr f => simp at h
    | inr code =>
      rw [hs] at h
      simp only [Prod.mk.injEq, true_and, Rd.mk.injEq] at h
      exact absurd h.2 (step_fault_ne hs)

theorem feedR_of_feed {p q : GEnd} {f : Fr} (hg : p.m.greeted = 7) (hf : p.m.fault = 0) (hc : Come { p with got := [] } f q) : ∀ (l got : List UInt8), feed got l = ([f], ⟨[], 0⟩) → FeedR { p with got := got } l q := by
  intro l
  induction l with
  | nil =>
    intro got h
    unfold feed at h
    simp at h
  | cons c r ih =>
    intro got h
    unfold feed at h
    cases hs : step got c with
    | inl x =>
      rw [hs] at h
      cases x with
      | inl g1 => exact .more hg hf hs (ih g1 h)
      | inr f1 =>
        simp only [Prod.mk.injEq, List.cons.injEq] at h
        obtain ⟨⟨h1, h2⟩, h3⟩ := h
        subst h1
        have h4 : feed [] r = ([], ⟨[], 0⟩) := by rw [← h2, ← h3]
        have h5 := feed_none h4
        simp at h5
        subst h5
        exact .frame hg hf hs hc .nil
    | inr code =>
      rw [hs] at h
      simp at h
/-- One whole frame. -/
theorem feedR_lay {p q : GEnd} {k f s : Int} {body : List UInt8} (hr : Right k f s body) (hg : p.m.greeted = 7) (hf : p.m.fault = 0) (hgot : p.got = []) (hc : Come p ⟨k, f, s, body⟩ q) : FeedR p (lay k f s body) q := by
  have e : p = { p with got := [] } := by rw [← hgot]
  rw [e] at hc
  have := feedR_of_feed hg hf hc (lay k f s body) [] (feed_right hr)
  rw [e]
  exact this
/-- The greeting. -/
theorem feedR_greet {p : GEnd} (hg : p.m.greeted = 0) (hf : p.m.fault = 0) : FeedR p greetB { p with m := { p.m with greeted := 7 } } := by
  refine .greet (k := 0) hg (by omega) hf rfl ?_
  refine .greet (k := 1) rfl (by omega) hf rfl ?_
  refine .greet (k := 2) rfl (by omega) hf rfl ?_
  refine .greet (k := 3) rfl (by omega) hf rfl ?_
  refine .greet (k := 4) rfl (by omega) hf rfl ?_
  refine .greet (k := 5) rfl (by omega) hf rfl ?_
  refine .greet (k := 6) rfl (by omega) hf rfl ?_
  exact .nil
end Go.Proofs.YtiphkngfbpdeoaaGreatDoor
/-
  The law's own: lay, four.
-/
namespace Go.Proofs.YtiphkngfbpdeoaaGreatDoor
set_option linter.unusedVariables false
set_option linter.unusedSimpArgs false
open Go.RowKit

set_option maxRecDepth 100000 in
set_option maxHeartbeats 800000 in
theorem kfour_any (n : Nat) (w : World) (hn : n ≤ 4294967295) : Calls Tryz.prog 14 #[.int .i64 n] w fun e w' => e = .returned (.slice (some ⟨w.heap.size, 0, none⟩) 4 4) ∧ BytesIn w' (.slice (some ⟨w.heap.size, 0, none⟩) 4 4) (four4 n) ∧ Below w.heap.size w w' := by
  go_enter Tryz.func14, Tryz.ntmps14
  go_wp2
  go_ret
  have hh : (w.alloc (.cells #[.int .u8 (n / 16777216), .int .u8 (n / 65536 % 256), .int .u8 (n / 256 % 256), .int .u8 (n % 256)] 5)).heap[w.heap.size]? = some (.cells #[.int .u8 (n / 16777216), .int .u8 (n / 65536 % 256), .int .u8 (n / 256 % 256), .int .u8 (n % 256)] 5 (0, 0)) := heap_alloc_new w _
  refine ⟨rfl, Or.inr ⟨w.heap.size, 0, 4, rfl, lt_of_block hh, Nat.le_refl _, fun i hi => ?_⟩, (Below.refl _ _).alloc (Nat.le_refl _) _⟩
  rw [cell_of_row _ _ _ _ _ _ hh]
  have hi' : i < 4 := hi
  have e0 : (n / 16777216 : Nat) % 256 = n / 16777216 := Nat.mod_eq_of_lt (by omega)
  match i, hi' with
  | 0, _ => simp [four4, UInt8.toNat_ofNat', e0]
  | 1, _ => simp [four4, UInt8.toNat_ofNat']
  | 2, _ => simp [four4, UInt8.toNat_ofNat']
  | 3, _ => simp [four4, UInt8.toNat_ofNat']
set_option maxRecDepth 100000 in
set_option maxHeartbeats 1600000 in
theorem klay_any (k f s : Int) (sa : Option Addr) (body : List UInt8) (cap : Nat) (w : World) (hk0 : 0 ≤ k) (hk1 : k ≤ 255) (hf0 : 0 ≤ f) (hf1 : f ≤ 255) (hs0 : 0 ≤ s) (hs1 : s ≤ 32767) (hn : body.length ≤ 64) (hb : BytesIn w (.slice sa body.length cap) body) :
    Calls Tryz.prog 9 #[.int .i64 k, .int .i64 f, .int .i64 s, .slice sa body.length cap] w fun e w' => ∃ v, e = .returned v ∧ w'.ownsRow w.heap.size 5 1 v (lay k f s body).length ((lay k f s body).map B) ∧ Below w.heap.size w w' := by
  obtain ⟨i0, hi, hz0, hz1, hz2⟩ := info_parts Tryz.info5
  have HB := hide hb
  clear hb
  go_enter Tryz.func9, Tryz.ntmps9
  have hrow : (w.alloc (.cells #[.int .u8 ((body.length : Int) / 256), .int .u8 (body.length : Int), .int .u8 k, .int .u8 f, .int .u8 (s / 256), .int .u8 (s % 256)] 5)).ownsRow 0 5 1 (.slice (some ⟨w.heap.size, 0, none⟩) 6 6) 6 [.int .u8 ((body.length : Int) / 256), .int .u8 (body.length : Int), .int .u8 k, .int .u8 f, .int .u8 (s / 256), .int .u8 (s % 256)] := ⟨rfl, Or.inr ⟨w.heap.size, 6, _, rfl, Nat.zero_le _, heap_alloc_new w _, Nat.le_refl _, by decide, rfl, rfl⟩⟩
  have hlb : Lies (w.alloc (.cells #[.int .u8 ((body.length : Int) / 256), .int .u8 (body.length : Int), .int .u8 k, .int .u8 f, .int .u8 (s / 256), .int .u8 (s % 256)] 5)) (.slice sa body.length cap) body.length (body.map B) := lies_of_bytesIn (HB.out.chg (Chg.of_below (S := fun _ => False) ((Below.refl _ _).alloc (Nat.le_refl _) _)) (fun _ _ => id))
  have HROW := hide hrow
  have HLB := hide hlb
  clear hrow hlb
  go_wp2_with (at_builtin; refine wpList_app _ rfl (.tmp 28) (.tmp 29) 38 rfl 5 i0 (.int .u8 0) 1 1 Tryz.underlying38 hi hz0 hz1 hz2 rfl (by decide) _ 6 _ rfl HROW.out _ body.length (body.map B) rfl ?c1 HLB.out ?c3 ?c4 ?c5 ?_)
  case c1 => simp
  case c3 => intro u hu; obtain ⟨x, -, rfl⟩ := List.mem_map.1 hu; rfl
  case c4 => unfold maxLen; omega
  case c5 => omega
  intro v2 w2 hown2 hg2 hfr2
  obtain ⟨s2, c2, rfl⟩ := slice_len hown2
  have hb2 : Below w.heap.size w w2 := below_of_chg ((Below.refl _ _).alloc (Nat.le_refl _) _) (Chg.of_grown (S := fun j => j = w.heap.size) hg2 (fun j hj => by simp [Value.ownBlock] at hj; exact hj.symm)) (fun j e => by rw [e]; exact Nat.le_refl _)
  have hown3 := owns_base (base' := w.heap.size) hown2 (fun j hj => by
    rcases hfr2 with e | e
    · rw [e] at hj; simp [Value.ownBlock] at hj; omega
    · rw [e] at hj; simp at hj; omega)
  have HO := hide hown3
  have HB2 := hide hb2
  clear hown2 hg2 hfr2 hb2 hown3
  go_wp2
  go_ret
  refine ⟨_, rfl, ?_, HB2.out⟩
  have e1 : (lay k f s body).length = 6 + body.length := by simp [lay]; omega
  rw [e1]
  have e2 : (lay k f s body).map B = [.int .u8 ((body.length : Int) / 256), .int .u8 (body.length : Int), .int .u8 k, .int .u8 f, .int .u8 (s / 256), .int .u8 (s % 256)] ++ body.map B := by
    unfold lay
    rw [List.map_append]
    simp only [List.map_cons, List.map_nil]
    rw [B_ofI (by omega) (by omega), B_ofI (by omega) (by omega), B_ofI hk0 hk1, B_ofI hf0 hf1, B_ofI (by omega) (by omega), B_ofI (by omega) (by omega)]
  rw [e2]
  exact HO.out
end Go.Proofs.YtiphkngfbpdeoaaGreatDoor
/-
  The law's own: split.
-/
namespace Go.Proofs.YtiphkngfbpdeoaaGreatDoor
set_option linter.unusedVariables false
set_option linter.unusedSimpArgs false
open Go.RowKit

/-- Frames of which a head can tell all. -/
structure FrFits (f : Fr) : Prop where
  k0 : 0 ≤ f.kind
  k1 : f.kind ≤ 255
  f0 : 0 ≤ f.flags
  f1 : f.flags ≤ 255
  s0 : 0 ≤ f.stream
  s1 : f.stream ≤ 32767
  n : f.body.length ≤ 64
def layFs (fs : List Fr) : List UInt8 := fs.flatMap fun f => lay f.kind f.flags f.stream f.body
def spC (p : Fr × Value) : List Value := [.int .i64 p.1.kind, .int .i64 p.1.flags, .int .i64 p.1.stream, p.2]
/-- What split answers. -/
structure SplitS (w w' : World) (fs : List Fr) (v : Value) (ps : List (Fr × Value)) : Prop where
  fst : ps.map Prod.fst = fs
  row : w'.ownsRow w.heap.size 105 4 v ps.length (ps.flatMap spC)
  body : ∀ p ∈ ps, BytesIn w p.2 p.1.body
  bel : Below w.heap.size w w'
theorem spC_length (ps : List (Fr × Value)) : (ps.flatMap spC).length = ps.length * 4 := by
  induction ps with
  | nil => rfl
  | cons p r ih => rw [List.flatMap_cons, List.length_append, ih, List.length_cons]; simp [spC]; omega

theorem head_cells {w : World} {bb off : Nat} {f : Fr} {r : List UInt8} {l : List UInt8} (hl : l = lay f.kind f.flags f.stream f.body ++ r) (hf : FrFits f) (h4 : ∀ i, i < l.length → w.cell? ⟨bb, off + i, none⟩ = some (.int .u8 (l.getD i 0).toNat)) :
    w.cell? ⟨bb, off, none⟩ = some (.int .u8 0) ∧ w.cell? ⟨bb, off + 1, none⟩ = some (.int .u8 (f.body.length : Int)) ∧ w.cell? ⟨bb, off + 2, none⟩ = some (.int .u8 f.kind) ∧ w.cell? ⟨bb, off + 3, none⟩ = some (.int .u8 f.flags) ∧ w.cell? ⟨bb, off + 4, none⟩ = some (.int .u8 (f.stream / 256)) ∧ w.cell? ⟨bb, off + 5, none⟩ = some (.int .u8 (f.stream % 256)) := by
  have hlen : 6 ≤ l.length := by rw [hl, List.length_append, lay_length]; omega
  obtain ⟨k0, k1, f0, f1, s0, s1, n⟩ := hf
  have e : ∀ i x, l.getD i 0 = ofI x → 0 ≤ x → x ≤ 255 → i < l.length → w.cell? ⟨bb, off + i, none⟩ = some (.int .u8 x) := fun i x h1 h2 h3 hi => by
    rw [h4 i hi, h1, ofI_toNat h2 h3]
  refine ⟨?_, ?_, ?_, ?_, ?_, ?_⟩
  · have := e 0 ((f.body.length : Int) / 256) (by rw [hl]; rfl) (by omega) (by omega) (by omega)
    rw [Nat.add_zero] at this
    rw [this]
    congr 2
    omega
  · exact e 1 _ (by rw [hl]; rfl) (by omega) (by omega) (by omega)
  · exact e 2 _ (by rw [hl]; rfl) k0 k1 (by omega)
  · exact e 3 _ (by rw [hl]; rfl) f0 f1 (by omega)
  · exact e 4 _ (by rw [hl]; rfl) (by omega) (by omega) (by omega)
  · exact e 5 _ (by rw [hl]; rfl) (by omega) (by omega) (by omega)
theorem bytes_cut {w : World} {bb off cap : Nat} {l : List UInt8} (hb : bb < w.heap.size) (hl : l.length ≤ cap) (h4 : ∀ i, i < l.length → w.cell? ⟨bb, off + i, none⟩ = some (.int .u8 (l.getD i 0).toNat)) (a n : Nat) (h : a + n ≤ l.length) (c : Nat) (hc : n ≤ c) : BytesIn w (.slice (some ⟨bb, off + a, none⟩) n c) ((l.drop a).take n) := by
  have e : ((l.drop a).take n).length = n := by rw [List.length_take, List.length_drop]; omega
  refine Or.inr ⟨bb, off + a, c, by rw [e], hb, by rw [e]; exact hc, fun i hi => ?_⟩
  rw [e] at hi
  rw [Nat.add_assoc, h4 (a + i) (by omega)]
  simp [List.getD, List.getElem?_take, hi, List.getElem?_drop]

set_option maxRecDepth 100000 in
set_option maxHeartbeats 1200000 in
theorem ksplit_any (sv : Option Addr) (cap : Nat) (fs : List Fr) (w : World) (hf : ∀ f ∈ fs, FrFits f ∧ 1 ≤ f.body.length) (hfl : fs.length ≤ 1048576) (hb : BytesIn w (.slice sv (layFs fs).length cap) (layFs fs)) :
    Calls Tryz.prog 30 #[.slice sv (layFs fs).length cap] w fun e w' => ∃ v ps, e = .returned (.tuple #[v, .bool true]) ∧ SplitS w w' fs v ps := by
  obtain ⟨i0, hi, hz0, hz1, hz2⟩ := info_parts Tryz.info105
  have HFS := hide hf
  have HB := hide hb
  clear hf hb
  go_enter Tryz.func30, Tryz.ntmps30
  go_wp2
  go_loopw [0, 4] (fun b l wr => ∃ (wv : World) (ps : List (Fr × Value)) (todo : List Fr) (sv' : Option Addr) (cap' : Nat), wv = wr ∧ b = .slice sv' (layFs todo).length cap' ∧ BytesIn w (.slice sv' (layFs todo).length cap') (layFs todo) ∧ ps.map Prod.fst ++ todo = fs ∧ wv.ownsRow w.heap.size 105 4 l ps.length (ps.flatMap spC) ∧ (∀ p ∈ ps, BytesIn w p.2 p.1.body) ∧ Below w.heap.size w wv) (fun b _ _ => lenV b)
  case atStart => exact ⟨_, [], fs, sv, cap, rfl, rfl, HB.out, rfl, World.ownsRow_nil _ _ _ _, by simp, Below.refl _ _⟩
  case round =>
    obtain ⟨wv, ps, todo, sv', cap', hwv, rfl, hby, hfs, hrow, hbod, hbel⟩ := hrel
    subst hwv
    have hps : ps.length ≤ 1048576 := by
      have := congrArg List.length hfs
      simp at this
      omega
    obtain ⟨sl, cl, hsl⟩ := slice_len hrow
    subst hsl
    cases todo with
    | nil =>
      have hl0 : (layFs []).length = 0 := rfl
      rw [hl0]
      have HE : Hid (SplitS w wv fs (.slice sl ps.length cl) ps) := ⟨by rw [← hfs, List.append_nil], hrow, hbod, hbel⟩
      clear hrow hbod hbel hby hfs hl0
      go_wp2
      go_ret2
      exact ⟨_, ps, rfl, HE.out⟩
    | cons f r =>
      obtain ⟨hff, hf1⟩ := HFS.out f (by rw [← hfs]; simp)
      have hll : layFs (f :: r) = lay f.kind f.flags f.stream f.body ++ layFs r := rfl
      have hlen : (layFs (f :: r)).length = 6 + f.body.length + (layFs r).length := by rw [hll, List.length_append, lay_length]
      rcases hby with ⟨h1, h2⟩ | ⟨bb, off, cap2, h1, h2, h3, h4⟩
      · rw [h2] at hlen; simp at hlen; omega
      simp only [Value.slice.injEq, true_and] at h1
      obtain ⟨rfl, rfl⟩ := h1
      obtain ⟨q0, q1, q2, q3, q4, q5⟩ := head_cells hll hff h4
      have hw0 : ∀ o, wv.cell? ⟨bb, o, none⟩ = w.cell? ⟨bb, o, none⟩ := fun o => Below.cell hbel (p := ⟨bb, o, none⟩) h2
      rw [← hw0] at q0 q1 q2 q3 q4 q5
      obtain ⟨d0, d1, d2, d3, d4, d5, d6⟩ := hff
      -- the body and the rest
      have hbody : ∀ c, f.body.length ≤ c → BytesIn w (.slice (some ⟨bb, off + 6, none⟩) f.body.length c) f.body := fun c hc => by
        have := bytes_cut h2 h3 h4 6 f.body.length (by omega) c hc
        have e : ((layFs (f :: r)).drop 6).take f.body.length = f.body := by
          rw [hll]
          show (f.body ++ layFs r).take f.body.length = f.body
          rw [List.take_left' rfl]
        rw [e] at this
        exact this
      have hrest : ∀ c, (layFs r).length ≤ c → BytesIn w (.slice (some ⟨bb, off + (6 + f.body.length), none⟩) (layFs r).length c) (layFs r) := fun c hc => by
        have := bytes_cut h2 h3 h4 (6 + f.body.length) (layFs r).length (by omega) c hc
        have e : ((layFs (f :: r)).drop (6 + f.body.length)).take (layFs r).length = layFs r := by
          rw [hll, ← lay_length f.kind f.flags f.stream f.body, List.drop_left' rfl, List.take_of_length_le (Nat.le_refl _)]
        rw [e] at this
        exact this
      obtain ⟨n, hn⟩ : ∃ n, n = f.body.length := ⟨_, rfl⟩
      obtain ⟨m, hm⟩ : ∃ m, m = (layFs r).length := ⟨_, rfl⟩
      rw [← hn] at q1 d6 hbody hrest hlen hf1
      rw [← hm] at hrest hlen
      obtain ⟨T, hT⟩ : ∃ T, T = (layFs (f :: r)).length := ⟨_, rfl⟩
      rw [← hT] at h3 hlen ⊢
      have i0' : (0 : Int) < T := by omega
      have i1' : (1 : Int) < T := by omega
      have i2' : (2 : Int) < T := by omega
      have i3' : (3 : Int) < T := by omega
      have i4' : (4 : Int) < T := by omega
      have i5' : (5 : Int) < T := by omega
      have i6' : (6 : Int) ≤ T := by omega
      have i7' : ¬ ((T : Int) < 6 + (n : Int)) := by omega
      have i8' : 6 + (n : Int) ≤ (cap' : Int) := by omega
      have i9' : 6 + (n : Int) ≤ (T : Int) := by omega
      have ia' : 6 + n ≤ T := by omega
      have hTm : T - (6 + n) = m := by omega
      have HNEXT : Hid (∀ (w' : World) (v bv : Value) (sv2 : Option Addr) (c2 : Nat), w'.ownsRow w.heap.size 105 4 v (ps.length + 1) (ps.flatMap spC ++ [.int .i64 f.kind, .int .i64 f.flags, .int .i64 f.stream, bv]) → BytesIn w bv f.body → BytesIn w (.slice sv2 m c2) (layFs r) → Below w.heap.size w w' → ∃ (wv : World) (ps : List (Fr × Value)) (todo : List Fr) (sv' : Option Addr) (cap' : Nat), wv = w' ∧ (.slice sv2 m c2 : Value) = .slice sv' (layFs todo).length cap' ∧ BytesIn w (.slice sv' (layFs todo).length cap') (layFs todo) ∧ ps.map Prod.fst ++ todo = fs ∧ wv.ownsRow w.heap.size 105 4 v ps.length (ps.flatMap spC) ∧ (∀ p ∈ ps, BytesIn w p.2 p.1.body) ∧ Below w.heap.size w wv) := fun w' v bv sv2 c2 hr hbb hrr hbe => by
        refine ⟨w', ps ++ [(f, bv)], r, sv2, c2, rfl, by rw [hm], by rw [hm] at hrr; exact hrr, ?_, ?_, ?_, hbe⟩
        · rw [List.map_append, ← hfs]; simp
        · rw [List.length_append, List.flatMap_append]
          simpa [spC] using hr
        · intro p hp
          rcases List.mem_append.1 hp with a | a
          · exact hbod p a
          · rw [List.mem_singleton.1 a]; exact hbb
      have HROW := hide hrow
      have HBEL := hide hbel
      have HBD := hide hbody
      have HRS := hide hrest
      have hs256 : 256 * (f.stream / 256) + f.stream % 256 = f.stream := by omega
      have hbbv : bb < wv.heap.size := Nat.lt_of_lt_of_le h2 hbel.size
      generalize f.kind = kk at *
      generalize f.flags = ff at *
      generalize f.stream = ss at *
      have HTM := hide hTm
      have HLR : Hid ((layFs r).length = m) := hm.symm
      have HLB : Hid (f.body.length = n) := hn.symm
      have HLEN := hide hlen
      clear hfs hrow hbod hbel hw0 h4 hbody hrest hll hlen hm hn hTm hT
      go_upto_region 3 with fail
      go_quiet (fail)
      go_upto_region 6 with fail
      obtain ⟨w3, hw3⟩ : ∃ w3, w3 = wv.drewN nq := ⟨_, rfl⟩
      rw [← hw3]
      have hb3 : Below w.heap.size w w3 := by rw [hw3]; exact HBEL.out.trans (Below.mono (bel_drewN (Below.refl _ _)) HBEL.out.size)
      have hr3 : w3.ownsRow w.heap.size 105 4 (.slice sl ps.length cl) ps.length (ps.flatMap spC) := by rw [hw3]; exact owns_chg HROW.out (Chg.of_below (S := fun _ => False) (bel_drewN (Below.refl _ _))) (fun _ _ => id)
      have p2 : w3.cell? ⟨bb, off + 2, none⟩ = some (.int .u8 kk) := by rw [hw3]; exact q2
      have p3 : w3.cell? ⟨bb, off + 3, none⟩ = some (.int .u8 ff) := by rw [hw3]; exact q3
      have p4 : w3.cell? ⟨bb, off + 4, none⟩ = some (.int .u8 (ss / 256)) := by rw [hw3]; exact q4
      have p5 : w3.cell? ⟨bb, off + 5, none⟩ = some (.int .u8 (ss % 256)) := by rw [hw3]; exact q5
      have hbb3 : bb < w3.heap.size := by rw [hw3]; exact hbbv
      -- behind the append
      have HRA : Hid (∀ o, (w3.alloc o).drew.ownsRow 0 105 4 (.slice sl ps.length cl) ps.length (ps.flatMap spC)) := fun o => owns_base (owns_chg hr3 (((Chg.refl (fun _ => False) w3).alloc o).drew) (fun _ _ => id)) (fun _ _ => Nat.zero_le _)
      have HAPP : Hid (∀ (o : Obj) (v4 : Value) (w4 : World) (xs : List Value), w4.ownsRow 0 105 4 v4 (ps.length + 1) xs → (w3.alloc o).drew.grownBy w4 (Value.slice sl ps.length cl).ownBlock → (v4.ownBlock = (Value.slice sl ps.length cl).ownBlock ∨ v4.ownBlock = some (w3.alloc o).drew.heap.size) → Below w.heap.size w w4 ∧ w4.ownsRow w.heap.size 105 4 v4 (ps.length + 1) xs ∧ w4.cell? ⟨bb, off + 2, none⟩ = some (.int .u8 kk) ∧ w4.cell? ⟨bb, off + 3, none⟩ = some (.int .u8 ff) ∧ w4.cell? ⟨bb, off + 4, none⟩ = some (.int .u8 (ss / 256)) ∧ w4.cell? ⟨bb, off + 5, none⟩ = some (.int .u8 (ss % 256))) := fun o v4 w4 xs ho hg hfr => by
        have hb3a : Below w.heap.size w (w3.alloc o).drew := by
          have := hb3.alloc hb3.size o
          exact ⟨this.os, this.tape, this.output, this.size, this.block⟩
        have hb4 : Below w.heap.size w w4 := below_of_chg hb3a (Chg.of_grown (S := fun j => (Value.slice sl ps.length cl).ownBlock = some j) hg (fun j hj => hj)) (fun j hj => (hr3.lt j hj).1)
        have hcell : ∀ x u, w3.cell? ⟨bb, x, none⟩ = some u → w4.cell? ⟨bb, x, none⟩ = some u := fun x u hx => by
          rw [Below.cell hb4 (p := ⟨bb, x, none⟩) h2, ← Below.cell hb3 (p := ⟨bb, x, none⟩) h2]
          exact hx
        refine ⟨hb4, owns_base ho (fun j hj => ?_), hcell _ _ p2, hcell _ _ p3, hcell _ _ p4, hcell _ _ p5⟩
        rcases hfr with e | e
        · rw [e] at hj; exact (hr3.lt j hj).1
        · rw [e] at hj
          simp only [Option.some.injEq] at hj
          have := hb3a.size
          omega
      clear hw3 q0 q1 q2 q3 q4 q5 hr3 hb3 HROW HBEL
      have wr1 : IntKind.i64.wrap (6 + (n : Int)) = 6 + n := by rw [IntKind.wrap_i64]; omega
      have wr2 : IntKind.i64.wrap kk = kk := by rw [IntKind.wrap_i64]; omega
      have wr3 : IntKind.i64.wrap ff = ff := by rw [IntKind.wrap_i64]; omega
      have wr4 : IntKind.i64.wrap (ss / 256) = ss / 256 := by rw [IntKind.wrap_i64]; omega
      have wr5 : IntKind.i64.wrap (256 * (ss / 256)) = 256 * (ss / 256) := by rw [IntKind.wrap_i64]; omega
      have wr6 : IntKind.i64.wrap (ss % 256) = ss % 256 := by rw [IntKind.wrap_i64]; omega
      have wr7 : IntKind.i64.wrap (256 * (ss / 256) + ss % 256) = ss := by rw [IntKind.wrap_i64]; omega
      have wr8 : IntKind.i64.wrap ss = ss := by rw [IntKind.wrap_i64]; omega
      have mx1 : max (6 + (n : Int)) 0 = 6 + n := by omega
      have ge1 : (0 : Int) ≤ 6 + (n : Int) := by omega
      have ge2 : (6 : Int) ≤ 6 + (n : Int) := by omega
      have tn1 : (6 + (n : Int)).toNat = 6 + n := by omega
      have hc6 : 6 + n + m ≤ cap' := by have := HLEN.out; omega
      by_cases hcc : cap' = 6
      · exact absurd hcc (by omega)
      · have hcc' : ¬ 6 = cap' := fun e => hcc e.symm
        go_cut [4] (fun s4 wx => ∃ v, s4 = v ∧ Below w.heap.size w wx ∧ wx.ownsRow w.heap.size 105 4 v (ps.length + 1) (ps.flatMap spC ++ [.int .i64 kk, .int .i64 ff, .int .i64 ss, .slice (some ⟨bb, off + 6, none⟩) n (cap' - 6)]))
        case first =>
          go_region_held3 (fun w' => w'.cell? ⟨bb, off + 2, none⟩ = some (.int .u8 kk) ∧ w'.cell? ⟨bb, off + 3, none⟩ = some (.int .u8 ff) ∧ w'.cell? ⟨bb, off + 4, none⟩ = some (.int .u8 (ss / 256)) ∧ w'.cell? ⟨bb, off + 5, none⟩ = some (.int .u8 (ss % 256))) (go_keep)
            (first
              | (refine step_appd rfl (.tmp 25) (.tmp 49) 90 rfl 105 i0 (.agg #[.int .i64 0, .int .i64 0, .int .i64 0, .slice none 0 0]) 4 48 Tryz.underlying90 hi hz0 hz1 hz2 rfl (by decide) (.slice sl ps.length cl) ps.length (ps.flatMap spC) (by simp [Act.eval, Act.put]) (HRA.out _) (.slice (some ⟨w3.heap.size, 0, none⟩) 1 1) 1 [.int .i64 kk, .int .i64 ff, .int .i64 ss, .slice (some ⟨bb, off + 6, none⟩) n (cap' - 6)] (by simp [Act.eval, Act.put]) rfl (Or.inr ⟨_, _, rfl, fun j u hu => lies_row (w := w3) (xs := [.int .i64 kk, .int .i64 ff, .int .i64 ss, .slice (some ⟨bb, off + 6, none⟩) n (cap' - 6)]) (t := 105) j u hu⟩) (by intro u hu; simp only [List.mem_cons, List.not_mem_nil, or_false] at hu; rcases hu with rfl | rfl | rfl | rfl <;> rfl) (by unfold maxLen; omega) (by omega) ?_; intro v4 w4 ho4 hg4 hfr4; obtain ⟨s4, c4, hv4⟩ := slice_len ho4; subst hv4; obtain ⟨hb4, hr4, x2, x3, x4, x5⟩ := HAPP.out _ _ w4 _ ho4 hg4 hfr4; clear ho4 hg4 hfr4))
          all_goals (go_wp2_with fail; go_meet; exact ⟨_, rfl, hb4, hr4⟩)
        case rest =>
          obtain ⟨v, rfl, hbx, hrx⟩ := hcut
          obtain ⟨w5, hw5⟩ : ∃ w5, w5 = wc := ⟨wc, rfl⟩
          subst hw5
          obtain ⟨sx, cx, hsx⟩ := slice_len hrx
          subst hsx
          have HBX := hide hbx
          have HRX := hide hrx
          clear hbx hrx
          by_cases hc7 : cap' = 6 + n
          · have HM0 : Hid (m = 0) := by have := HLEN.out; show m = 0; omega
            have hc7' : ¬ (cap' ≠ 6 + n) := fun h => h hc7
            have HC7 := hide hc7
            have hTe : T = 6 + n := by have := HLEN.out; have := HM0.out; omega
            clear hc7'
            subst hTe
            subst hc7
            go_wp2
            all_goals go_roundw
            case rel =>
              have e0 := HM0.out
              subst e0
              exact HNEXT.out w5 _ (.slice (some ⟨bb, off + 6, none⟩) n (6 + n - 6)) (some ⟨bb, off, none⟩) 0 HRX.out (HBD.out _ (by omega)) (Or.inr ⟨bb, off, 0, by rw [HLR.out], h2, by rw [HLR.out]; exact Nat.le_refl _, fun i hi => by rw [HLR.out] at hi; omega⟩) HBX.out
            case measure => simp [lenV]; omega
          · have hc7' : ¬ 6 + n = cap' := fun e => hc7 e.symm
            go_wp2
            all_goals go_roundw
            case rel =>
              have := HNEXT.out w5 _ (.slice (some ⟨bb, off + 6, none⟩) n (cap' - 6)) (some ⟨bb, off + (6 + n), none⟩) (cap' - (6 + n)) HRX.out (HBD.out _ (by omega)) (HRS.out _ (by omega)) HBX.out
              rw [← HTM.out] at this
              exact this
            case measure => simp [lenV]; omega
end Go.Proofs.YtiphkngfbpdeoaaGreatDoor
/-
  An end, as its calls leave it, without where things lie.
-/
namespace Go.Proofs.YtiphkngfbpdeoaaGreatDoor
set_option linter.unusedVariables false
set_option linter.unusedSimpArgs false
open Go.RowKit

/-- An end at eb; F: its blocks; p: what it is. -/
def StE (w : World) (eb : Nat) (F : Nat → Prop) (p : GEnd) : Prop := ∃ mb g, Inv w eb mb g ∧ RdOk g ∧ g.bare = p ∧ ∀ j, F j ↔ Foot eb mb g j
/-- One call on. -/
def GoE (w w' : World) (eb : Nat) (F : Nat → Prop) (p : GEnd) : Prop := ∃ F', StE w' eb F' p ∧ Chg F w w' ∧ ∀ j, F' j → F j ∨ w.heap.size ≤ j
section
variable {w w' : World} {eb : Nat} {F : Nat → Prop} {p : GEnd}
theorem GoE.of {mb : Nat} {g g' : GEnd} {p' : GEnd} (hF : ∀ j, F j ↔ Foot eb mb g j) (hn : Next w w' eb mb g g') (hr : RdOk g') (hp : g'.bare = p') : GoE w w' eb F p' :=
  ⟨Foot eb mb g', ⟨mb, g', hn.inv, hr, hp, fun j => Iff.rfl⟩, hn.chg.mono fun j _ e => (hF j).2 e, fun j hj => (hn.grow j hj).imp_left (hF j).2⟩
theorem StE.lt (h : StE w eb F p) {j : Nat} (hj : F j) : j < w.heap.size := by
  obtain ⟨mb, g, hi, -, -, hF⟩ := h
  exact Foot.lt hi ((hF j).1 hj)
theorem StE.below (h : StE w eb F p) (hb : Below w.heap.size w w') : StE w' eb F p := by
  obtain ⟨mb, g, hi, hr, hp, hF⟩ := h
  exact ⟨mb, g, hi.below hb, hr, hp, hF⟩
theorem StE.chg {S : Nat → Prop} (h : StE w eb F p) (hc : Chg S w w') (hs : ∀ j, F j → ¬ S j) : StE w' eb F p := by
  obtain ⟨mb, g, hi, hr, hp, hF⟩ := h
  exact ⟨mb, g, hi.chg hc (fun j hj => hs j ((hF j).2 hj)), hr, hp, hF⟩
theorem bare_got {g : GEnd} (hp : g.bare = p) (h : p.got = []) : g.got = [] := by
  rw [← hp] at h
  exact h
theorem c_feed {q : GEnd} {bv : Value} {l : List UInt8} (h : StE w eb F p) (hf : FeedR p l q) (hq : q.m.fault = 0) (hgl : Gl w) (hge : ∀ j, j < 7 → ¬ F j) (hb : BytesIn w bv l) (hbn : ∀ j, bv.ownBlock = some j → ¬ F j) (hl : l.length ≤ 268435456) :
    Calls Tryz.prog 8 #[.pointer (some ⟨eb, 0, none⟩), bv] w fun e w' => e = .returned (.int .i64 0) ∧ GoE w w' eb F q := by
  obtain ⟨mb, g, hi, hr, hp, hF⟩ := h
  rw [← hp] at hf
  refine (x_feed eb mb g q bv l w hi hr hf hq hgl (fun j hj e => hge j hj ((hF j).2 e)) hb (fun j hj e => hbn j hj ((hF j).2 e)) hl).mono ?_
  rintro e w' ⟨rfl, g', h1, h2, h3⟩
  exact ⟨rfl, GoE.of hF h3 h2 h1⟩
theorem c_take {p' : GEnd} {n : Int} (h : StE w eb F p) (hf : Fine p) (hg : p.got = []) (hg' : p'.got = []) (hl : p.m.fault = 0) (hr : Runs n p p') (ho : p'.out.length ≤ 1073741824) :
    Calls Tryz.prog 29 #[.pointer (some ⟨eb, 0, none⟩), .int .i64 n] w fun e w' => (∃ s, e = .returned (.slice s (cutN n p'.out.length) (cutN n p'.out.length)) ∧ BytesIn w' (.slice s (cutN n p'.out.length) (cutN n p'.out.length)) (p'.out.take (cutN n p'.out.length))) ∧ GoE w w' eb F { p' with out := p'.out.drop (cutN n p'.out.length) } := by
  obtain ⟨mb, g, hi, hrd, hp, hF⟩ := h
  have hf' : Fine g := Fine.of_bare (by rw [hp]; exact hf)
  have hl' : g.m.fault = 0 := by rw [← hp] at hl; exact hl
  refine (x_take eb mb g p' n w hi hf' hl' (by rw [hp]; exact hr) ho).mono ?_
  rintro e w' ⟨h1, g', h2, h3⟩
  exact ⟨h1, GoE.of hF h3 (RdOk.nil (bare_got h2 hg')) h2⟩
/-- The stream of a number, as it lies. -/
theorem stE_at {mb : Nat} {g : GEnd} (hi : Inv w eb mb g) (hp : g.bare = p) {s : GSt} (hs : s ∈ p.K) : ∃ x ∈ g.K, x.bare = s ∧ findK (g.K.map GSt.str) s.st.number = some x.str := by
  obtain ⟨x, hx, rfl⟩ := mem_bare hp hs
  exact ⟨x, hx, rfl, hi.find hx⟩
theorem c_read_reset {s : GSt} {n : Int} (h : StE w eb F p) (hs : s ∈ p.K) (hr : s.st.reset ≠ 0) (hn : 0 ≤ n) :
    Calls Tryz.prog 10 #[.pointer (some ⟨eb, 0, none⟩), .int .i64 s.st.number, .int .i64 n] w fun e w' => e = .returned (.tuple #[.slice none 0 0, .bool false, .int .i64 6]) ∧ w' = w := by
  obtain ⟨mb, g, hi, hrd, hp, hF⟩ := h
  obtain ⟨x, hx, rfl, hfi⟩ := stE_at hi hp hs
  have hc := xRead_of (R := fun a b c w' => (a = .slice none 0 0 ∧ b = .bool false ∧ c = .int .i64 6) ∧ w' = w) eb x.st.number n w ((eRead_reset eb mb g.m _ x.st.number n x.str w hi.en hi.km hi.kn hn hfi hr).mono fun e w' h => ⟨_, _, _, h.1, ⟨rfl, rfl, rfl⟩, h.2⟩)
  refine hc.mono ?_
  rintro e w' ⟨a, b, c, rfl, ⟨rfl, rfl, rfl⟩, hw⟩
  exact ⟨rfl, hw⟩
theorem c_write_reset {s : GSt} {bv : Value} (h : StE w eb F p) (hs : s ∈ p.K) (hr : s.st.reset ≠ 0) (hl : p.m.fault = 0) :
    Calls Tryz.prog 21 #[.pointer (some ⟨eb, 0, none⟩), .int .i64 s.st.number, bv] w fun e w' => e = .returned (.tuple #[.int .i64 0, .int .i64 6]) ∧ w' = w := by
  obtain ⟨mb, g, hi, hrd, hp, hF⟩ := h
  obtain ⟨x, hx, rfl, hfi⟩ := stE_at hi hp hs
  have hl' : g.m.fault = 0 := by rw [← hp] at hl; exact hl
  have hr' : x.st.reset ≠ 0 := hr
  have hw6 : g.m.wcode (findK (g.K.map GSt.str) x.st.number) = 6 := by
    have hfi' : findK (g.K.map GSt.str) x.st.number = some x.str := hfi
    rw [hfi']
    simp [EndM.wcode, hl', GSt.str, hr']
  have he := eWrite_no eb mb g.m _ x.st.number bv w hi.en hi.km hi.kn (by rw [hw6]; omega)
  rw [hw6] at he
  have hc := xWrite_of (R := fun a c w' => (a = .int .i64 0 ∧ c = .int .i64 6) ∧ w' = w) eb x.st.number bv w (he.mono fun e w' h => ⟨_, _, h.1, ⟨rfl, rfl⟩, h.2⟩)
  refine hc.mono ?_
  rintro e w' ⟨a, c, rfl, ⟨rfl, rfl⟩, hw⟩
  exact ⟨rfl, hw⟩
theorem c_close_reset {s : GSt} (h : StE w eb F p) (hs : s ∈ p.K) (hr : s.st.reset ≠ 0) (hl : p.m.fault = 0) :
    Calls Tryz.prog 32 #[.pointer (some ⟨eb, 0, none⟩), .int .i64 s.st.number] w fun e w' => e = .returned (.int .i64 6) ∧ w' = w := by
  obtain ⟨mb, g, hi, hrd, hp, hF⟩ := h
  obtain ⟨x, hx, rfl, hfi⟩ := stE_at hi hp hs
  have hl' : g.m.fault = 0 := by rw [← hp] at hl; exact hl
  have hr' : x.st.reset ≠ 0 := hr
  have hfi' : findK (g.K.map GSt.str) x.st.number = some x.str := hfi
  have hw6 : g.m.wcode (some x.str) = 6 := by simp [EndM.wcode, hl', GSt.str, hr']
  have hc := xClose_any eb mb g.m _ x.st.number w hi.en hi.km hi.kn
  refine hc.mono ?_
  intro e w' hcl
  unfold Closed at hcl
  rw [hfi'] at hcl
  simp [hw6] at hcl
  exact hcl
end
end Go.Proofs.YtiphkngfbpdeoaaGreatDoor
/-
  Reset, Write and Read of an end that are done.
-/
namespace Go.Proofs.YtiphkngfbpdeoaaGreatDoor
set_option linter.unusedVariables false
set_option linter.unusedSimpArgs false
open Go.RowKit

set_option maxHeartbeats 400000 in
theorem xReset_of (eb : Nat) (n : Int) (w : World) {R : Int → World → Prop} (h : Calls Tryz.prog 45 #[.pointer (some ⟨eb, 0, none⟩), .int .i64 n] w fun e w' => ∃ a, e = .returned (.int .i64 a) ∧ R a w') :
    Calls Tryz.prog 22 #[.pointer (some ⟨eb, 0, none⟩), .int .i64 n] w fun e w' => ∃ a, e = .returned (.int .i64 a) ∧ R a w' := by
  have HC := hide h
  clear h
  go_enter Tryz.func22, Tryz.ntmps22
  go_wp2_with fail
  refine HC.out.mono ?_
  rintro e w' ⟨a, rfl, h⟩
  have H := hide h
  clear h
  go_wp2
  go_ret
  exact ⟨a, rfl, H.out⟩
section
variable {w w' : World} {eb : Nat} {F : Nat → Prop} {p : GEnd}
theorem c_reset_reset {s : GSt} (h : StE w eb F p) (hs : s ∈ p.K) (hr : s.st.reset ≠ 0) (hl : p.m.fault = 0) :
    Calls Tryz.prog 22 #[.pointer (some ⟨eb, 0, none⟩), .int .i64 s.st.number] w fun e w' => e = .returned (.int .i64 6) ∧ w' = w := by
  obtain ⟨mb, g, hi, hrd, hp, hF⟩ := h
  obtain ⟨x, hx, rfl, hfi⟩ := stE_at hi hp hs
  have hl' : g.m.fault = 0 := by rw [← hp] at hl; exact hl
  have hr' : x.st.reset ≠ 0 := hr
  have hw6 : g.m.xcode (findK (g.K.map GSt.str) x.st.number) = 6 := by
    have hfi' : findK (g.K.map GSt.str) x.st.number = some x.str := hfi
    rw [hfi']
    simp [EndM.xcode, hl', GSt.str, hr']
  have he := eReset_no eb mb g.m _ x.st.number w hi.en hi.km hi.kn (by rw [hw6]; omega)
  rw [hw6] at he
  have hc := xReset_of (R := fun a w' => a = 6 ∧ w' = w) eb x.st.number w (he.mono fun e w' h => ⟨_, h.1, rfl, h.2⟩)
  refine hc.mono ?_
  rintro e w' ⟨a, rfl, rfl, hw⟩
  exact ⟨rfl, hw⟩
theorem c_reset_first {k : Nat} (h : StE w eb F p) (hk : k < p.L.length) (hl : p.m.fault = 0) (hg : p.got = []) (ha : (atN p.K p.L[k]).st.announced = true) (hr : (atN p.K p.L[k]).st.reset = 0) (hcl : (atN p.K p.L[k]).st.closed = false) (hv : p.m.resets = .slice none 0 0) (hres : p.res = []) (hL : p.L.length ≤ 1048576) (hul : (atN p.K p.L[k]).un.length ≤ 1048576) (b : -1099511627776 ≤ p.m.owed ∧ p.m.owed ≤ 1099511627776) :
    Calls Tryz.prog 22 #[.pointer (some ⟨eb, 0, none⟩), .int .i64 p.L[k]] w fun e w' => e = .returned (.int .i64 0) ∧ GoE w w' eb F { p with m := { p.m.owes (atN p.K p.L[k]).un.length with resets := .tuple #[] }, K := updN p.L[k] (fun s => s.drop 1) p.K, L := p.L.eraseIdx k, res := [p.L[k]] } := by
  obtain ⟨mb, g, hi, hrd, hp, hF⟩ := h
  have hL1 : g.L = p.L := by have := congrArg GEnd.L hp; exact this
  have hk1 : k < g.L.length := by rw [hL1]; exact hk
  have hLk : g.L[k] = p.L[k] := by simp only [hL1]
  have hK1 : g.K.map GSt.bare = p.K := by have := congrArg GEnd.K hp; exact this
  have hat : (atN g.K p.L[k]).bare = atN p.K p.L[k] := by rw [← hK1, atN_bare]
  have q1 : (atN g.K p.L[k]).st.announced = true := by
    have : (atN g.K p.L[k]).bare.st.announced = true := by rw [hat]; exact ha
    exact this
  have q2 : (atN g.K p.L[k]).st.closed = false := by
    have : (atN g.K p.L[k]).bare.st.closed = false := by rw [hat]; exact hcl
    exact this
  have q3 : (atN g.K p.L[k]).un = (atN p.K p.L[k]).un := by
    have : (atN g.K p.L[k]).bare.un = (atN p.K p.L[k]).un := by rw [hat]
    exact this
  have q4 : (atN g.K p.L[k]).st.reset = 0 := by
    have : (atN g.K p.L[k]).bare.st.reset = 0 := by rw [hat]; exact hr
    exact this
  have m1 : g.m.fault = 0 := by have := congrArg (fun x : GEnd => x.m.fault) hp; exact this.trans hl
  have m2 : g.m.owed = p.m.owed := by have := congrArg (fun x : GEnd => x.m.owed) hp; exact this
  have m3 : g.m.resets = .slice none 0 0 := by
    have e2 : nilV g.m.resets = .slice none 0 0 := by have := congrArg (fun x : GEnd => x.m.resets) hp; exact this.trans hv
    rcases hi.res.2 with ⟨h1, -⟩ | ⟨a1, a2, a3, a4, h1, -⟩
    · exact h1
    · rw [h1] at e2; cases e2
  have m4 : g.res = [] := by have := congrArg GEnd.res hp; exact this.trans hres
  rw [← hLk] at q1 q2 q3 q4
  have he := eReset_first eb mb g k w hi hk1 m1 q1 q4 q2 m3 m4 (by rw [hL1]; exact hL) (by rw [q3, hLk]; exact hul) (by rw [m2]; exact b)
  rw [hLk] at he q3
  have hc := xReset_of (R := fun a w' => a = 0 ∧ GoE w w' eb F { p with m := { p.m.owes (atN p.K p.L[k]).un.length with resets := .tuple #[] }, K := updN p.L[k] (fun s => s.drop 1) p.K, L := p.L.eraseIdx k, res := [p.L[k]] }) eb p.L[k] w (he.mono fun e w' h => by
    obtain ⟨h1, g', h2, h3⟩ := h
    refine ⟨_, h1, rfl, ?_⟩
    have e3 : g'.bare = { p with m := { p.m.owes (atN p.K p.L[k]).un.length with resets := .tuple #[] }, K := updN p.L[k] (fun s => s.drop 1) p.K, L := p.L.eraseIdx k, res := [p.L[k]] } := by
      rw [h2, q3, hL1]
      have e4 : ({ g with m := { g.m.owes (atN p.K p.L[k]).un.length with resets := .tuple #[] }, K := updN p.L[k] (fun s => s.drop 1) g.K, L := p.L.eraseIdx k, res := [p.L[k]] } : GEnd).bare = { g.bare with m := { g.bare.m.owes (atN p.K p.L[k]).un.length with resets := .tuple #[] }, K := updN p.L[k] (fun s => s.drop 1) g.bare.K, L := p.L.eraseIdx k, res := [p.L[k]] } := by
        unfold GEnd.bare
        simp only [GEnd.mk.injEq, true_and, and_true]
        exact ⟨rfl, updN_bare _ (fun s => s.drop 1) (fun s => rfl) _⟩
      rw [e4, hp]
    exact GoE.of hF h3 (RdOk.nil (bare_got e3 hg)) e3)
  refine hc.mono ?_
  rintro e w' ⟨a, rfl, rfl, hgo⟩
  exact ⟨rfl, hgo⟩
def GSt.wrote (s : GSt) (b : List UInt8) : GSt := { s with wa := s.wa ++ b.take (roomN b.length s.wa.length) }
theorem c_write_ok {s : GSt} {sb : Option Addr} {cb : Nat} {b : List UInt8} (h : StE w eb F p) (hs : s ∈ p.K) (hl : p.m.fault = 0) (hg : p.got = []) (hr : s.st.reset = 0) (hla : s.st.last = false) (hsh : s.st.shut = false) (hwl : s.wa.length ≤ 100) (hb : BytesIn w (.slice sb b.length cb) b) (hbl : b.length ≤ 1073741824) :
    Calls Tryz.prog 21 #[.pointer (some ⟨eb, 0, none⟩), .int .i64 s.st.number, .slice sb b.length cb] w fun e w' => e = .returned (.tuple #[.int .i64 (roomN b.length s.wa.length), .int .i64 0]) ∧ GoE w w' eb F { p with K := updN s.st.number (fun s => s.wrote b) p.K } := by
  obtain ⟨mb, g, hi, hrd, hp, hF⟩ := h
  obtain ⟨x, hx, rfl, hfi⟩ := stE_at hi hp hs
  have hl' : g.m.fault = 0 := by rw [← hp] at hl; exact hl
  have hfi' : findK (g.K.map GSt.str) x.st.number = some x.str := hfi
  have q1 : x.st.reset = 0 := hr
  have q2 : x.st.last = false := hla
  have q3 : x.st.shut = false := hsh
  have hw0 : g.m.wcode (some x.str) = 0 := by simp [EndM.wcode, hl', GSt.str, q1, q2, q3]
  have he := eWrite_ok eb mb g.m _ x.st.number x.str sb cb x.wa b w hi.en hi.km hi.kn hfi' hw0 (hi.wa x hx) hwl hb hbl (fun e => owns_ne (hi.wa x hx) (hi.st hx).blk (by decide) e)
  have hc := xWrite_of (R := fun a c w' => (a = .int .i64 (roomN b.length x.wa.length) ∧ c = .int .i64 0) ∧ GoE w w' eb F { p with K := updN x.st.number (fun s => s.wrote b) p.K }) eb x.st.number (.slice sb b.length cb) w (he.mono fun e w' h => by
    obtain ⟨h1, v, hW⟩ := h
    refine ⟨_, _, h1, ⟨rfl, rfl⟩, ?_⟩
    have keep : ∀ {k : Nat} {v' : Value} {xs : List Value} {ty : TypeId}, w.ownsRow 0 ty 1 v' k xs → (∀ j, v'.ownBlock = some j → j ≠ x.sb ∧ x.st.waiting.ownBlock ≠ some j) → w'.ownsRow 0 ty 1 v' k xs := fun hr hj => owns_chg hr hW.chg (fun j hjj e => by
      obtain ⟨a, b⟩ := hj j hjj
      rcases e with e | e
      · exact a e
      · exact b e)
    have hn := hi.onSt (S := fun j => j = x.sb ∨ x.st.waiting.ownBlock = some j) (m' := g.m) (s := x) (s' := ⟨x.sb, { x.st with waiting := v }, x.un, x.wa ++ b.take (roomN b.length x.wa.length)⟩) (L' := g.L) (o' := g.out) (4 + 2 * x.sb) hx hW.chg (by
        rintro j (e | e)
        · exact Or.inr (Or.inl e)
        · exact Or.inr (Or.inr (Or.inr (Or.inr (Or.inr e))))) (hi.en.chg hW.chg (by
        rintro (e | e)
        · exact hi.st_eb hx e.symm
        · exact owns_ne (hi.wa x hx) hi.en.blk (by decide) e)) hW.st rfl rfl rfl rfl rfl rfl
      (keep hi.row (fun j hj => ⟨fun e => by rw [e] at hj; exact owns_ne hi.row (hi.st hx).blk (by decide) hj, fun e => rows_ne (hi.wa x hx) hi.row (by decide) e hj⟩)) (fun j hj => Or.inl hj) (List.Sublist.refl _)
      (keep hi.out (fun j hj => ⟨fun e => by rw [e] at hj; exact owns_ne hi.out (hi.st hx).blk (by decide) hj, fun e => hi.out_wa hx e hj⟩)) (fun j hj => Or.inl hj)
      (keep (hi.un x hx) (fun j hj => ⟨fun e => by rw [e] at hj; exact owns_ne (hi.un x hx) (hi.st hx).blk (by decide) hj, fun e => hi.un_wa hx hx hj e⟩)) (fun j hj => Or.inl hj)
      hW.row (fun j hj => (hW.fresh j hj).imp_right fun a => ⟨a, rfl⟩)
    refine GoE.of hF hn ?_ ?_
    · exact RdOk.nil (show g.got = [] from bare_got hp hg)
    · rw [← hp]
      unfold GEnd.bare
      simp only [GEnd.mk.injEq, true_and, and_true]
      rw [← updN_bare _ (fun s => s.wrote b) (fun s => rfl), ← updN_const (f := fun s => s.wrote b) hi.nn hx rfl]
      unfold updN
      rw [List.map_map, List.map_map]
      apply List.map_congr_left
      intro y hy
      show (if y.st.number = x.st.number then _ else y).bare = (if y.st.number = x.st.number then _ else y).bare
      split <;> rfl)
  refine hc.mono ?_
  rintro e w' ⟨a, c, rfl, ⟨rfl, rfl⟩, hgo⟩
  exact ⟨rfl, hgo⟩
def GSt.took (s : GSt) (k : Nat) : GSt := { s with st := { s.st with owed := s.st.owed + k }, un := s.un.drop k }
theorem c_read_ok {s : GSt} {n : Int} (h : StE w eb F p) (hs : s ∈ p.K) (hl : p.m.fault = 0) (hg : p.got = []) (hr : s.st.reset = 0) (hn : 0 ≤ n) (hu : s.un.length ≤ 1048576) (b1 : -1099511627776 ≤ p.m.owed ∧ p.m.owed ≤ 1099511627776) (b2 : -1099511627776 ≤ s.st.owed ∧ s.st.owed ≤ 1099511627776) :
    Calls Tryz.prog 10 #[.pointer (some ⟨eb, 0, none⟩), .int .i64 s.st.number, .int .i64 n] w fun e w' => (∃ a, e = .returned (.tuple #[.slice a (cutN n s.un.length) (cutN n s.un.length), .bool (s.st.hasAll && (s.un.length - cutN n s.un.length == 0)), .int .i64 0]) ∧ BytesIn w' (.slice a (cutN n s.un.length) (cutN n s.un.length)) (s.un.take (cutN n s.un.length))) ∧ GoE w w' eb F { p with m := p.m.owes (cutN n s.un.length), K := updN s.st.number (fun x => x.took (cutN n s.un.length)) p.K } := by
  obtain ⟨mb, g, hi, hrd, hp, hF⟩ := h
  obtain ⟨x, hx, rfl, hfi⟩ := stE_at hi hp hs
  have hl' : g.m.fault = 0 := by rw [← hp] at hl; exact hl
  have m2 : g.m.owed = p.m.owed := by have := congrArg (fun x : GEnd => x.m.owed) hp; exact this
  have q1 : x.st.owed = x.bare.st.owed := rfl
  have hfi' : findK (g.K.map GSt.str) x.st.number = some x.str := hfi
  have he := eRead_ok eb mb g.m _ x.st.number n x.str x.un w hi.en hi.km hi.kn hn hfi' hr (Or.inl hl') (hi.un x hx) hu (by omega) (by omega) (by rw [show x.str.2.owed = x.bare.st.owed from rfl]; omega) (by rw [show x.str.2.owed = x.bare.st.owed from rfl]; omega)
  have hc := xRead_of (R := fun a b c w' => (∃ s, a = .slice s (cutN n x.un.length) (cutN n x.un.length) ∧ b = .bool (x.st.hasAll && (x.un.length - cutN n x.un.length == 0)) ∧ c = .int .i64 0 ∧ BytesIn w' (.slice s (cutN n x.un.length) (cutN n x.un.length)) (x.un.take (cutN n x.un.length))) ∧ GoE w w' eb F { p with m := p.m.owes (cutN n x.un.length), K := updN x.st.number (fun y => y.took (cutN n x.un.length)) p.K }) eb x.st.number n w (he.mono fun e w' h => by
    obtain ⟨v, hR⟩ := h
    obtain ⟨s, h1, h2, -⟩ := hR.eq
    refine ⟨_, _, _, h1, ⟨s, rfl, rfl, rfl, h2⟩, ?_⟩
    have keep : ∀ {k : Nat} {v' : Value} {xs : List Value} {ty : TypeId}, w.ownsRow 0 ty 1 v' k xs → (∀ j, v'.ownBlock = some j → j ≠ eb ∧ j ≠ x.sb) → w'.ownsRow 0 ty 1 v' k xs := fun hr hj => owns_chg hr hR.chg (fun j hjj e => by
      obtain ⟨a, b⟩ := hj j hjj
      rcases e with e | e
      · exact a e
      · exact b e)
    have hrow : w'.ownsRow 0 5 1 v (x.un.drop (cutN n x.un.length)).length ((x.un.drop (cutN n x.un.length)).map B) := by
      rw [List.length_drop]
      exact owns_base hR.row (fun _ _ => Nat.zero_le _)
    have hn := hi.onSt (S := fun j => j = eb ∨ j = x.sb) (m' := g.m.owes (cutN n x.un.length)) (s := x) (s' := ⟨x.sb, x.st.taken (cutN n x.un.length) v, x.un.drop (cutN n x.un.length), x.wa⟩) (L' := g.L) (o' := g.out) (3 + 2 * x.sb) hx hR.chg (by
        rintro j (e | e)
        · exact Or.inl e
        · exact Or.inr (Or.inl e)) hR.en hR.st rfl rfl rfl rfl rfl rfl
      (keep hi.row (fun j hj => ⟨fun e => by rw [e] at hj; exact owns_ne hi.row hi.en.blk (by decide) hj, fun e => by rw [e] at hj; exact owns_ne hi.row (hi.st hx).blk (by decide) hj⟩)) (fun j hj => Or.inl hj) (List.Sublist.refl _)
      (keep hi.out (fun j hj => ⟨fun e => by rw [e] at hj; exact owns_ne hi.out hi.en.blk (by decide) hj, fun e => by rw [e] at hj; exact owns_ne hi.out (hi.st hx).blk (by decide) hj⟩)) (fun j hj => Or.inl hj)
      hrow (fun j hj => Or.inr ⟨(hR.row.lt j hj).1, rfl⟩)
      (keep (hi.wa x hx) (fun j hj => ⟨fun e => by rw [e] at hj; exact owns_ne (hi.wa x hx) hi.en.blk (by decide) hj, fun e => by rw [e] at hj; exact owns_ne (hi.wa x hx) (hi.st hx).blk (by decide) hj⟩)) (fun j hj => Or.inl hj)
    refine GoE.of hF hn ?_ ?_
    · exact RdOk.nil (show g.got = [] from bare_got hp hg)
    · rw [← hp]
      unfold GEnd.bare
      simp only [GEnd.mk.injEq, true_and, and_true]
      refine ⟨rfl, ?_⟩
      rw [← updN_bare _ (fun y => y.took (cutN n x.un.length)) (fun s => rfl), ← updN_const (f := fun y => y.took (cutN n x.un.length)) hi.nn hx rfl]
      unfold updN
      rw [List.map_map, List.map_map]
      apply List.map_congr_left
      intro y hy
      show (if y.st.number = x.st.number then _ else y).bare = (if y.st.number = x.st.number then _ else y).bare
      split <;> rfl)
  refine hc.mono ?_
  rintro e w' ⟨a, b, c, rfl, ⟨s, rfl, rfl, rfl, hby⟩, hgo⟩
  exact ⟨⟨s, rfl, hby⟩, hgo⟩
end
end Go.Proofs.YtiphkngfbpdeoaaGreatDoor
/-
  The law's own: given.
-/
namespace Go.Proofs.YtiphkngfbpdeoaaGreatDoor
set_option linter.unusedVariables false
set_option linter.unusedSimpArgs false
open Go.RowKit

/-- The credit for the connection in a frame, the resets of a stream. -/
def crOf (f : Fr) : Int := if f.kind = 6 ∧ f.stream = 0 ∧ f.body.length = 4 then num4 f.body else 0
def rsOf (s : Int) (f : Fr) : Int := if f.stream = s ∧ f.kind = 2 then 1 else 0
def crSum (fs : List Fr) : Int := (fs.map crOf).sum
def rsSum (s : Int) (fs : List Fr) : Int := (fs.map (rsOf s)).sum
theorem num4_le (l : List UInt8) : 0 ≤ num4 l ∧ num4 l ≤ 4294967295 := by
  match l with
  | [] => simp [num4]
  | [_] => simp [num4]
  | [_, _] => simp [num4]
  | [_, _, _] => simp [num4]
  | a :: b :: c :: d :: r =>
    have h0 := a.toNat_lt
    have h1 := b.toNat_lt
    have h2 := c.toNat_lt
    have h3 := d.toNat_lt
    simp only [num4, be4]
    omega

set_option maxHeartbeats 800000 in
theorem kvalue_any (g off n cap : Nat) (x0 x1 x2 x3 : UInt8) (w : World) (hn : 4 ≤ n)
    (c0 : w.cell? ⟨g, off, none⟩ = some (.int .u8 x0.toNat)) (c1 : w.cell? ⟨g, off + 1, none⟩ = some (.int .u8 x1.toNat)) (c2 : w.cell? ⟨g, off + 2, none⟩ = some (.int .u8 x2.toNat))
    (c3 : w.cell? ⟨g, off + 3, none⟩ = some (.int .u8 x3.toNat)) :
    Calls Tryz.prog 31 #[.slice (some ⟨g, off, none⟩) n cap] w fun e w' => e = .returned (.int .i64 (be4 x0 x1 x2 x3)) ∧ ∃ k, w' = w.drewN k := by
  have h0 : x0.toNat < 256 := x0.toNat_lt
  have h1 : x1.toNat < 256 := x1.toNat_lt
  have h2 : x2.toNat < 256 := x2.toNat_lt
  have h3 : x3.toNat < 256 := x3.toNat_lt
  go_enter Tryz.func31, Tryz.ntmps31
  go_wp2
  go_quiet (fail)
  go_wp2
  go_ret
  exact ⟨rfl, _, rfl⟩
theorem kvalue_of {w : World} {bv : Value} {b : List UInt8} (h : BytesIn w bv b) (h4 : b.length = 4) : Calls Tryz.prog 31 #[bv] w fun e w' => e = .returned (.int .i64 (num4 b)) ∧ Below w.heap.size w w' := by
  match b, h4 with
  | [x0, x1, x2, x3], _ =>
    rcases h with ⟨-, h⟩ | ⟨bb, off, cap, rfl, h2, h3, h5⟩
    · cases h
    · have c0 := h5 0 (by simp)
      have c1 := h5 1 (by simp)
      have c2 := h5 2 (by simp)
      have c3 := h5 3 (by simp)
      rw [Nat.add_zero] at c0
      refine (kvalue_any bb off 4 cap x0 x1 x2 x3 w (Nat.le_refl _) c0 c1 c2 c3).mono ?_
      rintro e w' ⟨rfl, k, rfl⟩
      exact ⟨rfl, bel_drewN (Below.refl _ _)⟩
theorem crSum_take {fs : List Fr} {i : Nat} (h : i < fs.length) : crSum (fs.take (i + 1)) = crSum (fs.take i) + crOf fs[i] := by
  unfold crSum
  rw [List.take_succ_eq_append_getElem h, List.map_append, List.sum_append]
  simp
theorem rsSum_take {s : Int} {fs : List Fr} {i : Nat} (h : i < fs.length) : rsSum s (fs.take (i + 1)) = rsSum s (fs.take i) + rsOf s fs[i] := by
  unfold rsSum
  rw [List.take_succ_eq_append_getElem h, List.map_append, List.sum_append]
  simp
theorem crSum_le (fs : List Fr) : 0 ≤ crSum fs ∧ crSum fs ≤ 4294967295 * fs.length := by
  induction fs with
  | nil => simp [crSum]
  | cons f r ih =>
    have e : crSum (f :: r) = crOf f + crSum r := by simp [crSum]
    have h1 : 0 ≤ crOf f ∧ crOf f ≤ 4294967295 := by
      unfold crOf
      split
      · exact num4_le _
      · omega
    rw [e, List.length_cons]
    omega
theorem rsSum_le (s : Int) (fs : List Fr) : 0 ≤ rsSum s fs ∧ rsSum s fs ≤ fs.length := by
  induction fs with
  | nil => simp [rsSum]
  | cons f r ih =>
    have e : rsSum s (f :: r) = rsOf s f + rsSum s r := by simp [rsSum]
    have h1 : 0 ≤ rsOf s f ∧ rsOf s f ≤ 1 := by
      unfold rsOf
      split <;> omega
    rw [e, List.length_cons]
    omega
end Go.Proofs.YtiphkngfbpdeoaaGreatDoor
