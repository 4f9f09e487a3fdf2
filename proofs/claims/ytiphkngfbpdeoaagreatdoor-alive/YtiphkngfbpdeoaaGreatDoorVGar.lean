import Derived.Test.YtiphkngfbpdeoaaGreatDoorVGao
import Derived.Test.YtiphkngfbpdeoaaGreatDoorVEnBlock2
import Derived.Test.YtiphkngfbpdeoaaGreatDoorVGam
import Derived.Test.YtiphkngfbpdeoaaGreatDoorVGan
import Derived.Test.YtiphkngfbpdeoaaGreatDoorVGaf
import Derived.Test.YtiphkngfbpdeoaaGreatDoorVGai
import Derived.Lib.SlBytesConst
set_option linter.unusedVariables false
set_option linter.unusedSimpArgs false
namespace Go.Proofs.YtiphkngfbpdeoaaGreatDoor
set_option linter.unusedVariables false
set_option linter.unusedSimpArgs false
open Go.RowKit
def faultP (code : Int) : List PanicEntry := [{ v := .iface 36 (.int .i64 code), recovered := false }]
def ComeF (p : GEnd) (z1 : Fr) (z2 : Int) : Prop := ∀ Z : Fr → Int → Prop, (∀ (fl : Int) (s : GSt) (b : List UInt8) (hs : s ∈ p.K) (hp : hasB fl 8 = false) (ha : s.st.announced = true) (hr : s.st.hasAll = true ∨ s.st.reset = 2) (hb : p.m.bstream = 0) (hg : p.m.begun = true), Z ⟨0, fl, s.st.number, b⟩ 11) → (∀ (fl n : Int) (b : List UInt8) (hn : ∀ s ∈ p.K, s.st.number ≠ n) (hp : hasB fl 8 = false) (hb : p.m.bstream = 0) (hg : p.m.begun = true), Z ⟨0, fl, n, b⟩ 11) → (∀ (fl : Int) (s : GSt) (b : List UInt8) (hs : s ∈ p.K) (hp : hasB fl 8 = false) (ha : s.st.announced = true) (hh : s.st.hasAll = false) (hr : s.st.reset = 0) (hl : 1 ≤ (b.length : Int) ∧ p.m.receive < (b.length : Int)) (hb : p.m.bstream = 0) (hg : p.m.begun = true), Z ⟨0, fl, s.st.number, b⟩ 12) → (∀ (fl n : Int) (b : List UInt8) (hop : p.m.opensN n = false) (hnw : n ≤ p.m.newest) (hb : p.m.bstream = 0) (hg : p.m.begun = true), Z ⟨1, fl, n, b⟩ 11) → (∀ (fl : Int) (b : List UInt8) (hf : 0 ≤ fl ∧ fl ≤ 255) (ha : hasB fl 1 = true) (hw : p.m.waits = false) (hb : p.m.bstream = 0) (hg : p.m.begun = true), Z ⟨3, fl, 0, b⟩ 11) → (∀ (fl : Int) (b : List UInt8) (h1 : 2147483647 < p.m.send + num4 b) (h2 : p.m.send ≤ 1099511627776) (h3 : num4 b ≤ 1099511627776) (hb : p.m.bstream = 0) (hg : p.m.begun = true), Z ⟨6, fl, 0, b⟩ 12) → (∀ (fl n : Int) (b : List UInt8) (hn : n ≠ 0) (hb : p.m.bstream = 0) (hg : p.m.begun = true), Z ⟨7, fl, n, b⟩ 11) → (∀ (fl : Int) (b : List UInt8) (hf : 0 ≤ fl ∧ fl ≤ 255) (ha : hasB fl 1 = false) (h8 : 8 ≤ p.ans.length) (hb : p.m.bstream = 0) (hg : p.m.begun = true), Z ⟨4, fl, 0, b⟩ 14) → (∀ (fl n : Int) (hf : 0 ≤ fl ∧ fl ≤ 255) (hla : hasB fl 4 = true) (hop : p.m.opensN n = false) (hnw : p.m.newest < n) (h4 : p.L.length < 4) (hu : p.m.utab = .slice Option.none 0 0) (hb : p.m.bstream = 0) (hg : p.m.begun = true), Z ⟨1, fl, n, [192]⟩ 13) → Z z1 z2
theorem ComeF.gone {p : GEnd} (fl : Int) (s : GSt) (b : List UInt8) (hs : s ∈ p.K) (hp : hasB fl 8 = false) (ha : s.st.announced = true) (hr : s.st.hasAll = true ∨ s.st.reset = 2) (hb : p.m.bstream = 0) (hg : p.m.begun = true) : ComeF p ⟨0, fl, s.st.number, b⟩ 11 := fun Z zk1 zk2 zk3 zk4 zk5 zk6 zk7 zk8 zk9 => zk1 fl s b hs hp ha hr hb hg
theorem ComeF.none {p : GEnd} (fl n : Int) (b : List UInt8) (hn : ∀ s ∈ p.K, s.st.number ≠ n) (hp : hasB fl 8 = false) (hb : p.m.bstream = 0) (hg : p.m.begun = true) : ComeF p ⟨0, fl, n, b⟩ 11 := fun Z zk1 zk2 zk3 zk4 zk5 zk6 zk7 zk8 zk9 => zk2 fl n b hn hp hb hg
theorem ComeF.flow {p : GEnd} (fl : Int) (s : GSt) (b : List UInt8) (hs : s ∈ p.K) (hp : hasB fl 8 = false) (ha : s.st.announced = true) (hh : s.st.hasAll = false) (hr : s.st.reset = 0) (hl : 1 ≤ (b.length : Int) ∧ p.m.receive < (b.length : Int)) (hb : p.m.bstream = 0) (hg : p.m.begun = true) : ComeF p ⟨0, fl, s.st.number, b⟩ 12 := fun Z zk1 zk2 zk3 zk4 zk5 zk6 zk7 zk8 zk9 => zk3 fl s b hs hp ha hh hr hl hb hg
theorem ComeF.again {p : GEnd} (fl n : Int) (b : List UInt8) (hop : p.m.opensN n = false) (hnw : n ≤ p.m.newest) (hb : p.m.bstream = 0) (hg : p.m.begun = true) : ComeF p ⟨1, fl, n, b⟩ 11 := fun Z zk1 zk2 zk3 zk4 zk5 zk6 zk7 zk8 zk9 => zk4 fl n b hop hnw hb hg
theorem ComeF.ack {p : GEnd} (fl : Int) (b : List UInt8) (hf : 0 ≤ fl ∧ fl ≤ 255) (ha : hasB fl 1 = true) (hw : p.m.waits = false) (hb : p.m.bstream = 0) (hg : p.m.begun = true) : ComeF p ⟨3, fl, 0, b⟩ 11 := fun Z zk1 zk2 zk3 zk4 zk5 zk6 zk7 zk8 zk9 => zk5 fl b hf ha hw hb hg
theorem ComeF.credit {p : GEnd} (fl : Int) (b : List UInt8) (h1 : 2147483647 < p.m.send + num4 b) (h2 : p.m.send ≤ 1099511627776) (h3 : num4 b ≤ 1099511627776) (hb : p.m.bstream = 0) (hg : p.m.begun = true) : ComeF p ⟨6, fl, 0, b⟩ 12 := fun Z zk1 zk2 zk3 zk4 zk5 zk6 zk7 zk8 zk9 => zk6 fl b h1 h2 h3 hb hg
theorem ComeF.cont {p : GEnd} (fl n : Int) (b : List UInt8) (hn : n ≠ 0) (hb : p.m.bstream = 0) (hg : p.m.begun = true) : ComeF p ⟨7, fl, n, b⟩ 11 := fun Z zk1 zk2 zk3 zk4 zk5 zk6 zk7 zk8 zk9 => zk7 fl n b hn hb hg
theorem ComeF.calm {p : GEnd} (fl : Int) (b : List UInt8) (hf : 0 ≤ fl ∧ fl ≤ 255) (ha : hasB fl 1 = false) (h8 : 8 ≤ p.ans.length) (hb : p.m.bstream = 0) (hg : p.m.begun = true) : ComeF p ⟨4, fl, 0, b⟩ 14 := fun Z zk1 zk2 zk3 zk4 zk5 zk6 zk7 zk8 zk9 => zk8 fl b hf ha h8 hb hg
theorem ComeF.block {p : GEnd} (fl n : Int) (hf : 0 ≤ fl ∧ fl ≤ 255) (hla : hasB fl 4 = true) (hop : p.m.opensN n = false) (hnw : p.m.newest < n) (h4 : p.L.length < 4) (hu : p.m.utab = .slice Option.none 0 0) (hb : p.m.bstream = 0) (hg : p.m.begun = true) : ComeF p ⟨1, fl, n, [192]⟩ 13 := fun Z zk1 zk2 zk3 zk4 zk5 zk6 zk7 zk8 zk9 => zk9 fl n hf hla hop hnw h4 hu hb hg
theorem ComeF.ind {p : GEnd} {motive : ∀ (z1 : Fr) (z2 : Int), ComeF p z1 z2 → Prop} (gone : ∀ (fl : Int) (s : GSt) (b : List UInt8) (hs : s ∈ p.K) (hp : hasB fl 8 = false) (ha : s.st.announced = true) (hr : s.st.hasAll = true ∨ s.st.reset = 2) (hb : p.m.bstream = 0) (hg : p.m.begun = true), motive ⟨0, fl, s.st.number, b⟩ 11 (@ComeF.gone p fl s b hs hp ha hr hb hg)) (none : ∀ (fl n : Int) (b : List UInt8) (hn : ∀ s ∈ p.K, s.st.number ≠ n) (hp : hasB fl 8 = false) (hb : p.m.bstream = 0) (hg : p.m.begun = true), motive ⟨0, fl, n, b⟩ 11 (@ComeF.none p fl n b hn hp hb hg)) (flow : ∀ (fl : Int) (s : GSt) (b : List UInt8) (hs : s ∈ p.K) (hp : hasB fl 8 = false) (ha : s.st.announced = true) (hh : s.st.hasAll = false) (hr : s.st.reset = 0) (hl : 1 ≤ (b.length : Int) ∧ p.m.receive < (b.length : Int)) (hb : p.m.bstream = 0) (hg : p.m.begun = true), motive ⟨0, fl, s.st.number, b⟩ 12 (@ComeF.flow p fl s b hs hp ha hh hr hl hb hg)) (again : ∀ (fl n : Int) (b : List UInt8) (hop : p.m.opensN n = false) (hnw : n ≤ p.m.newest) (hb : p.m.bstream = 0) (hg : p.m.begun = true), motive ⟨1, fl, n, b⟩ 11 (@ComeF.again p fl n b hop hnw hb hg)) (ack : ∀ (fl : Int) (b : List UInt8) (hf : 0 ≤ fl ∧ fl ≤ 255) (ha : hasB fl 1 = true) (hw : p.m.waits = false) (hb : p.m.bstream = 0) (hg : p.m.begun = true), motive ⟨3, fl, 0, b⟩ 11 (@ComeF.ack p fl b hf ha hw hb hg)) (credit : ∀ (fl : Int) (b : List UInt8) (h1 : 2147483647 < p.m.send + num4 b) (h2 : p.m.send ≤ 1099511627776) (h3 : num4 b ≤ 1099511627776) (hb : p.m.bstream = 0) (hg : p.m.begun = true), motive ⟨6, fl, 0, b⟩ 12 (@ComeF.credit p fl b h1 h2 h3 hb hg)) (cont : ∀ (fl n : Int) (b : List UInt8) (hn : n ≠ 0) (hb : p.m.bstream = 0) (hg : p.m.begun = true), motive ⟨7, fl, n, b⟩ 11 (@ComeF.cont p fl n b hn hb hg)) (calm : ∀ (fl : Int) (b : List UInt8) (hf : 0 ≤ fl ∧ fl ≤ 255) (ha : hasB fl 1 = false) (h8 : 8 ≤ p.ans.length) (hb : p.m.bstream = 0) (hg : p.m.begun = true), motive ⟨4, fl, 0, b⟩ 14 (@ComeF.calm p fl b hf ha h8 hb hg)) (block : ∀ (fl n : Int) (hf : 0 ≤ fl ∧ fl ≤ 255) (hla : hasB fl 4 = true) (hop : p.m.opensN n = false) (hnw : p.m.newest < n) (h4 : p.L.length < 4) (hu : p.m.utab = .slice Option.none 0 0) (hb : p.m.bstream = 0) (hg : p.m.begun = true), motive ⟨1, fl, n, [192]⟩ 13 (@ComeF.block p fl n hf hla hop hnw h4 hu hb hg)) {z1 : Fr} {z2 : Int} (zt : ComeF p z1 z2) : motive z1 z2 zt := (zt (fun z1 z2 => ∃ zt : ComeF p z1 z2, motive z1 z2 zt) (fun fl s b hs hp ha hr hb hg => ⟨_, @gone fl s b hs hp ha hr hb hg⟩) (fun fl n b hn hp hb hg => ⟨_, @none fl n b hn hp hb hg⟩) (fun fl s b hs hp ha hh hr hl hb hg => ⟨_, @flow fl s b hs hp ha hh hr hl hb hg⟩) (fun fl n b hop hnw hb hg => ⟨_, @again fl n b hop hnw hb hg⟩) (fun fl b hf ha hw hb hg => ⟨_, @ack fl b hf ha hw hb hg⟩) (fun fl b h1 h2 h3 hb hg => ⟨_, @credit fl b h1 h2 h3 hb hg⟩) (fun fl n b hn hb hg => ⟨_, @cont fl n b hn hb hg⟩) (fun fl b hf ha h8 hb hg => ⟨_, @calm fl b hf ha h8 hb hg⟩) (fun fl n hf hla hop hnw h4 hu hb hg => ⟨_, @block fl n hf hla hop hnw h4 hu hb hg⟩)).elim fun _ zx => zx
def Dies (W w : World) (eb mb : Nat) (g0 q : GEnd) (code : Int) : Prop := ∃ g wI m0, g.bare.died code = q ∧ GaveE W w eb mb g0 g wI m0 code
section
variable {W w w' w1 : World} {eb mb : Nat} {g0 g1 g q : GEnd} {code : Int}
theorem Dies.of (hn : Next W w eb mb g0 g) (hL : g.L.length ≤ 1048576) : Dies W w eb mb g0 (g.bare.died code) code := ⟨g, w, g.m, rfl, hn, hn.inv.en, rfl, Chg.refl _ _, hL⟩
theorem Dies.pre (h : Dies w1 w' eb mb g1 q code) (hn : Next W w1 eb mb g0 g1) : Dies W w' eb mb g0 q code := by
  obtain ⟨g, wI, m0, e, hg⟩ := h
  refine ⟨g, wI, m0, e, hn.trans hg.nx, hg.en, hg.same, hg.chg.mono fun j _ a => ?_, hg.few⟩
  rcases a with a | a | a
  · exact Or.inl a
  · exact Or.inr (Or.inl a)
  · exact Or.inr (Or.inr ⟨Nat.le_trans hn.chg.size a.1, a.2⟩)
theorem Dies.below (h : Dies w1 w' eb mb g0 q code) (hb : Below W.heap.size W w1) : Dies W w' eb mb g0 q code := by
  obtain ⟨g, wI, m0, e, hg⟩ := h
  refine ⟨g, wI, m0, e, hg.nx.pre hb, hg.en, hg.same, hg.chg.mono fun j _ a => ?_, hg.few⟩
  rcases a with a | a | a
  · exact Or.inl a
  · exact Or.inr (Or.inl a)
  · exact Or.inr (Or.inr ⟨Nat.le_trans hb.size a.1, a.2⟩)
theorem Inv.onGave (h : Inv w eb mb g) (hL : g.L.length ≤ 1048576) (hg : GaveG w w' eb 25 98 g.m.cells g.m.got) : Dies w w' eb mb g (g.bare.died code) code := by
  obtain ⟨cs', gv', L, K, F, S, hrd, hal, hc⟩ := hg
  have hen : EnB w' eb (g.m.rd gv' L K F S) := ⟨by rw [hrd.blk, rd_cells hal hrd.c0 hrd.c1 hrd.c2 hrd.c3 hrd.c4]⟩
  refine ⟨g, w, g.m.rd gv' L K F S, rfl, Next.refl h, hen, rfl, hc.mono fun j _ e => ?_, hL⟩
  rcases e with e | e
  · exact Or.inl e
  · exact Or.inr (Or.inl e)
end
theorem i_comeF (eb mb : Nat) (g p : GEnd) (f : Fr) (code : Int) (bv cv : Value) (w : World) (h : Inv w eb mb g) (hp : g.bare = p) (hc : ComeF p f code) (hL : g.L.length ≤ 1048576) (hgl : Gl w) (hge : ∀ j, j < 7 → ¬ Foot eb mb g j) (hbn : ∀ j, bv.ownBlock = some j → ¬ Foot eb mb g j) (hbv : w.ownsRow 0 5 1 bv f.body.length (f.body.map B)) (hcv : f.kind = 0 → ContV f.flags bv cv f.body) :
    Calls Tryz.prog 66 #[.pointer (some ⟨eb, 0, none⟩), frV f.kind f.flags f.stream bv cv f.body] w fun e w' => e = .panicked (faultP code) ∧ Dies w w' eb mb g (p.died code) code := by
  have hbs : g.m.bstream = p.m.bstream := by rw [← hp]; rfl
  have hbg : g.m.begun = p.m.begun := by rw [← hp]; rfl
  obtain ⟨sv, cb, hsv⟩ := slice_len hbv
  have hah : ∀ {w1 : World} {g1 : GEnd}, Ahead w w1 eb mb g g1 → g1.bare = p.begin ∧ g1.L.length ≤ 1048576 := fun {w1 g1} hah1 => by
    obtain ⟨e1, n1⟩ := hah1
    have e2 : g1.bare = p.begin := by rw [e1, ← hp]; rfl
    refine ⟨e2, ?_⟩
    have e3 : g1.bare.L = p.begin.L := by rw [e2]
    have e4 : g.bare.L = p.L := by rw [hp]
    have e5 : g1.L = g.L := e3.trans e4.symm
    rw [e5]; exact hL
  have hdone : ∀ {w1 w' : World} {g1 : GEnd} {code : Int}, Ahead w w1 eb mb g g1 → Below w1.heap.size w1 w' → Dies w w' eb mb g (p.died code) code := fun {w1 w' g1 code} hah1 hb' => by
    obtain ⟨e2, hL1⟩ := hah hah1
    have hd := Dies.of (code := code) (hah1.2.then_below hb') hL1
    rw [e2] at hd
    exact hd
  have hmm : ∀ {g1 : GEnd}, g1.bare = p.begin → g1.m.bare = p.begin.m := fun {g1} e => congrArg GEnd.m e
  cases hc using ComeF.ind with
  | gone fl s b hs hpd ha hr hb hg =>
    have hcb : cv = bv := by
      have := hcv rfl
      unfold ContV at this
      rw [hpd] at this
      simpa using this
    rw [show frV (Fr.mk 0 fl s.st.number b).kind (Fr.mk 0 fl s.st.number b).flags (Fr.mk 0 fl s.st.number b).stream bv cv (Fr.mk 0 fl s.st.number b).body = .iface 155 (dataV fl s.st.number sv b.length cb) from by
      simp only at hsv
      unfold frV dataV
      simp [hcb, hsv]]
    refine (come2_data eb mb g w (fun _ => False) (fun w' => Dies w w' eb mb g (p.died 11) 11) 11 fl s.st.number sv b.length cb h (by rw [hbs]; exact hb) (by rw [hbg]; exact hg) ?_).mono (fun e w' hx => by
      rcases hx with ⟨-, hx⟩ | hx
      · exact hx.elim
      · exact hx)
    intro w1 g1 hah1
    obtain ⟨e2, hL1⟩ := hah hah1
    obtain ⟨x, hx, rfl⟩ := mem_bare (p := p.begin) e2 hs
    refine (comeData_gone eb mb g1 x fl sv b.length cb w1 hah1.2.inv hx ha hr).mono ?_
    rintro e w' ⟨rfl, hb'⟩
    exact Or.inr ⟨rfl, hdone hah1 hb'⟩
  | none fl n b hn hpd hb hg =>
    have hcb : cv = bv := by
      have := hcv rfl
      unfold ContV at this
      rw [hpd] at this
      simpa using this
    rw [show frV (Fr.mk 0 fl n b).kind (Fr.mk 0 fl n b).flags (Fr.mk 0 fl n b).stream bv cv (Fr.mk 0 fl n b).body = .iface 155 (dataV fl n sv b.length cb) from by
      simp only at hsv
      unfold frV dataV
      simp [hcb, hsv]]
    refine (come2_data eb mb g w (fun _ => False) (fun w' => Dies w w' eb mb g (p.died 11) 11) 11 fl n sv b.length cb h (by rw [hbs]; exact hb) (by rw [hbg]; exact hg) ?_).mono (fun e w' hx => by
      rcases hx with ⟨-, hx⟩ | hx
      · exact hx.elim
      · exact hx)
    intro w1 g1 hah1
    obtain ⟨e2, hL1⟩ := hah hah1
    refine (comeData_none eb mb g1 fl n sv b.length cb w1 hah1.2.inv (fun s hs => ?_)).mono ?_
    · have hm : s.bare ∈ p.K := by
        have e3 : g1.bare.K = p.begin.K := by rw [e2]
        rw [← show g1.bare.K = p.K from e3]
        exact List.mem_map.2 ⟨s, hs, rfl⟩
      exact hn s.bare hm
    rintro e w' ⟨rfl, hb'⟩
    exact Or.inr ⟨rfl, hdone hah1 hb'⟩
  | flow fl s b hs hpd ha hh hr hl hb hg =>
    have hcb : cv = bv := by
      have := hcv rfl
      unfold ContV at this
      rw [hpd] at this
      simpa using this
    rw [show frV (Fr.mk 0 fl s.st.number b).kind (Fr.mk 0 fl s.st.number b).flags (Fr.mk 0 fl s.st.number b).stream bv cv (Fr.mk 0 fl s.st.number b).body = .iface 155 (dataV fl s.st.number sv b.length cb) from by
      simp only at hsv
      unfold frV dataV
      simp [hcb, hsv]]
    refine (come2_data eb mb g w (fun _ => False) (fun w' => Dies w w' eb mb g (p.died 12) 12) 12 fl s.st.number sv b.length cb h (by rw [hbs]; exact hb) (by rw [hbg]; exact hg) ?_).mono (fun e w' hx => by
      rcases hx with ⟨-, hx⟩ | hx
      · exact hx.elim
      · exact hx)
    intro w1 g1 hah1
    obtain ⟨e2, hL1⟩ := hah hah1
    obtain ⟨x, hx, rfl⟩ := mem_bare (p := p.begin) e2 hs
    have m1 : g1.m.receive = p.m.receive := by have := congrArg (fun m : EndM => m.receive) (hmm e2); exact this
    refine (comeData_flow eb mb g1 x fl sv b.length cb w1 hah1.2.inv hx ha hh hr (by rw [m1]; exact hl)).mono ?_
    rintro e w' ⟨rfl, hb'⟩
    exact Or.inr ⟨rfl, hdone hah1 hb'⟩
  | again fl n b hop hnw hb hg =>
    rw [show frV (Fr.mk 1 fl n b).kind (Fr.mk 1 fl n b).flags (Fr.mk 1 fl n b).stream bv cv (Fr.mk 1 fl n b).body = .iface 158 (.agg #[.int .i64 1, .int .i64 fl, .int .i64 n, .slice sv b.length cb, .slice sv b.length cb]) from by
      simp only at hsv
      unfold frV
      simp [hsv]]
    refine (come2_headers eb mb g w (fun _ => False) (fun w' => Dies w w' eb mb g (p.died 11) 11) 11 fl n sv b.length cb h (by rw [hbs]; exact hb) (by rw [hbg]; exact hg) ?_).mono (fun e w' hx => by
      rcases hx with ⟨-, hx⟩ | hx
      · exact hx.elim
      · exact hx)
    intro w1 g1 hah1
    obtain ⟨e2, hL1⟩ := hah hah1
    have m1 : g1.m.newest = p.m.newest := by have := congrArg (fun m : EndM => m.newest) (hmm e2); exact this
    have m2 : g1.m.opensN n = p.m.opensN n := by have := congrArg (fun m : EndM => m.opensN n) (hmm e2); exact this
    refine (comeHeaders_p eb mb g1 fl n sv b.length cb w1 hah1.2.inv (by rw [m2]; exact hop) (by rw [m1]; exact hnw)).mono ?_
    rintro e w' ⟨rfl, hb'⟩
    exact Or.inr ⟨rfl, hdone hah1 hb'⟩
  | ack fl b hf ha hw hb hg =>
    rw [show frV (Fr.mk 3 fl 0 b).kind (Fr.mk 3 fl 0 b).flags (Fr.mk 3 fl 0 b).stream bv cv (Fr.mk 3 fl 0 b).body = .iface 167 (.agg #[.int .i64 3, .int .i64 fl, .int .i64 0, .slice sv b.length cb, .int .i64 0]) from by
      simp only at hsv
      unfold frV
      simp [hsv, ha]]
    refine (come2_settings eb mb g w (fun _ => False) (fun w' => Dies w w' eb mb g (p.died 11) 11) 11 fl 0 sv b.length cb 0 h (by rw [hbs]; exact hb) (by rw [hbg]; exact hg) ?_).mono (fun e w' hx => by
      rcases hx with ⟨-, hx⟩ | hx
      · exact hx.elim
      · exact hx)
    intro w1 g1 hah1
    obtain ⟨e2, hL1⟩ := hah hah1
    have m1 : g1.m.waits = p.m.waits := by have := congrArg (fun m : EndM => m.waits) (hmm e2); exact this
    refine (comeSettings_p eb g1.m fl 0 0 sv b.length cb w1 hah1.2.inv.en (by rw [m1]; exact hw) hf ha).mono ?_
    rintro e w' ⟨rfl, hb'⟩
    exact Or.inr ⟨rfl, hdone hah1 hb'⟩
  | credit fl b h1 h2 h3 hb hg =>
    rw [show frV (Fr.mk 6 fl 0 b).kind (Fr.mk 6 fl 0 b).flags (Fr.mk 6 fl 0 b).stream bv cv (Fr.mk 6 fl 0 b).body = .iface 173 (.agg #[.int .i64 6, .int .i64 fl, .int .i64 0, .slice sv b.length cb, .int .i64 (num4 b)]) from by
      simp only at hsv
      unfold frV
      simp [hsv]]
    refine (come2_credit eb mb g w (fun _ => False) (fun w' => Dies w w' eb mb g (p.died 12) 12) 12 fl 0 sv b.length cb (num4 b) h (by rw [hbs]; exact hb) (by rw [hbg]; exact hg) ?_).mono (fun e w' hx => by
      rcases hx with ⟨-, hx⟩ | hx
      · exact hx.elim
      · exact hx)
    intro w1 g1 hah1
    obtain ⟨e2, hL1⟩ := hah hah1
    have m1 : g1.m.send = p.m.send := by have := congrArg (fun m : EndM => m.send) (hmm e2); exact this
    refine (comeCredit_p eb g1.m fl (num4 b) sv b.length cb w1 hah1.2.inv.en (by rw [m1]; exact h1) (by rw [m1]; exact h2) h3).mono ?_
    rintro e w' ⟨rfl, hb'⟩
    exact Or.inr ⟨rfl, hdone hah1 hb'⟩
  | cont fl n b hn hb hg =>
    rw [show frV (Fr.mk 7 fl n b).kind (Fr.mk 7 fl n b).flags (Fr.mk 7 fl n b).stream bv cv (Fr.mk 7 fl n b).body = .iface 160 (.agg #[.int .i64 7, .int .i64 fl, .int .i64 n, .slice sv b.length cb, .slice sv b.length cb]) from by
      simp only at hsv
      unfold frV
      simp [hsv]]
    refine (come_continue_p eb g.m 7 fl n sv b.length cb w h.en (by rw [hbs]; exact hb) (by rw [hbg]; exact hg) hn).mono ?_
    rintro e w' ⟨rfl, hb'⟩
    have hd := Dies.of (code := 11) (Next.of_below h hb') hL
    rw [hp] at hd
    exact ⟨rfl, hd⟩
  | calm fl b hf ha h8 hb hg =>
    rw [show frV (Fr.mk 4 fl 0 b).kind (Fr.mk 4 fl 0 b).flags (Fr.mk 4 fl 0 b).stream bv cv (Fr.mk 4 fl 0 b).body = .iface 170 (.agg #[.int .i64 4, .int .i64 fl, .int .i64 0, .slice sv b.length cb, .int .u32 (num4 b)]) from by
      simp only at hsv
      unfold frV
      simp [hsv]]
    refine (come2_ping eb mb g w (fun _ => False) (fun w' => Dies w w' eb mb g (p.died 14) 14) 14 fl 0 sv b.length cb (num4 b) h (by rw [hbs]; exact hb) (by rw [hbg]; exact hg) ?_).mono (fun e w' hx => by
      rcases hx with ⟨-, hx⟩ | hx
      · exact hx.elim
      · exact hx)
    intro w1 g1 hah1
    obtain ⟨e2, hL1⟩ := hah hah1
    have ha1 : g1.ans.length = p.ans.length := by
      have e3 : g1.bare.ans = p.begin.ans := by rw [e2]
      have e4 : (g1.ans.map Ans.bare).length = p.ans.length := by rw [show g1.ans.map Ans.bare = p.ans from e3]
      simpa using e4
    refine (comePing_p eb mb g1 fl (num4 b) sv b.length cb w1 hah1.2.inv hf ha (by omega)).mono ?_
    rintro e w' ⟨rfl, hb'⟩
    exact Or.inr ⟨rfl, hdone hah1 hb'⟩
  | block fl n hf hla hop hnw h4 hu hb hg =>
    rw [show frV (Fr.mk 1 fl n [192]).kind (Fr.mk 1 fl n [192]).flags (Fr.mk 1 fl n [192]).stream bv cv (Fr.mk 1 fl n [192]).body = .iface 158 (.agg #[.int .i64 1, .int .i64 fl, .int .i64 n, .slice sv 1 cb, .slice sv 1 cb]) from by
      simp only [List.length_cons, List.length_nil, Nat.zero_add] at hsv
      unfold frV
      simp [hsv]]
    refine (come2_headers eb mb g w (fun _ => False) (fun w' => Dies w w' eb mb g (p.died 13) 13) 13 fl n sv 1 cb h (by rw [hbs]; exact hb) (by rw [hbg]; exact hg) ?_).mono (fun e w' hx => by
      rcases hx with ⟨-, hx⟩ | hx
      · exact hx.elim
      · exact hx)
    intro w1 g1 hah1
    obtain ⟨e2, hL1⟩ := hah hah1
    have m1 : g1.m.newest = p.m.newest := by have := congrArg (fun m : EndM => m.newest) (hmm e2); exact this
    have m2 : g1.m.opensN n = p.m.opensN n := by have := congrArg (fun m : EndM => m.opensN n) (hmm e2); exact this
    have m3 : g1.m.utab = .slice none 0 0 := by
      have e3 : nilU g1.m.utab = p.m.utab := by have := congrArg (fun m : EndM => m.utab) (hmm e2); exact this
      rw [hu] at e3
      exact nilU_nil e3
    have m4 : g1.L = p.L := by have := congrArg GEnd.L e2; exact this
    simp only [List.length_cons, List.length_nil, Nat.zero_add] at hsv hbv
    rw [hsv] at hbv hbn
    have hby : BytesIn w1 (.slice sv 1 cb) [192] := (bytesIn_of_owns (l := [192]) hbv rfl).chg hah1.2.chg hbn
    refine (comeHeaders_192 eb mb g1 fl n sv cb w1 hah1.2.inv (hgl.chg hah1.2.chg hge) m3 hby hf hla (by rw [m2]; exact hop) (by rw [m1]; exact hnw) (by rw [m4]; exact h4)).mono ?_
    rintro e w' ⟨rfl, hb'⟩
    exact Or.inr ⟨rfl, hdone hah1 hb'⟩
def ByteF (p : GEnd) (c : UInt8) (code : Int) : Prop := ∀ Z : Prop, (∀ (hg : p.m.greeted = 7) (hs : step p.got c = .fault code), Z) → (∀ (f : Fr) (hg : p.m.greeted = 7) (hs : step p.got c = .frame f) (hc : ComeF { p with got := [] } f code), Z) → Z
theorem ByteF.head {p : GEnd} {c : UInt8} {code : Int} (hg : p.m.greeted = 7) (hs : step p.got c = .fault code) : ByteF p c code := fun Z zk1 zk2 => zk1 hg hs
theorem ByteF.frame {p : GEnd} {c : UInt8} {code : Int} {f : Fr} (hg : p.m.greeted = 7) (hs : step p.got c = .frame f) (hc : ComeF { p with got := [] } f code) : ByteF p c code := fun Z zk1 zk2 => zk2 f hg hs hc
theorem ByteF.ind {p : GEnd} {c : UInt8} {code : Int} {motive : ByteF p c code → Prop} (head : ∀ (hg : p.m.greeted = 7) (hs : step p.got c = .fault code), motive (@ByteF.head p c code hg hs)) (frame : ∀ {f : Fr} (hg : p.m.greeted = 7) (hs : step p.got c = .frame f) (hc : ComeF { p with got := [] } f code), motive (@ByteF.frame p c code f hg hs hc)) (zt : ByteF p c code) : motive zt := (zt (∃ zt : ByteF p c code, motive zt) (fun hg hs => ⟨_, @head hg hs⟩) (fun f hg hs hc => ⟨_, @frame f hg hs hc⟩)).elim fun _ zx => zx
set_option maxRecDepth 100000 in
set_option maxHeartbeats 1200000 in
theorem i_byteF (eb mb : Nat) (g : GEnd) (c : UInt8) (code : Int) (w : World) (h : Inv w eb mb g) (hr : RdOk g) (hb : ByteF g.bare c code) (hL : g.L.length ≤ 1048576) (hgl : Gl w) (hge : ∀ j, j < 7 → ¬ Foot eb mb g j) :
    Calls Tryz.prog 47 #[.pointer (some ⟨eb, 0, none⟩), .int .u8 c.toNat] w fun e w' => e = .panicked (faultP code) ∧ Dies w w' eb mb g (g.bare.died code) code := by
  have c24 := h.en.c24
  have hlt := h.en.lt
  have hT := take_any eb 25 98 g.m.cells g.m.got g.got c w (h.rdsg hr)
  cases hb using ByteF.ind with
  | head hg hs =>
    rw [show g.m.greeted = 7 from hg] at c24
    have hs' : step g.got c = .fault code := hs
    have HT : Hid (Calls Tryz.prog 65 #[.pointer (some ⟨eb, 25, none⟩), .int .u8 c.toNat] w fun e w' => e = .panicked [{ v := .iface 36 (.int .i64 code), recovered := false }] ∧ Dies w w' eb mb g (g.bare.died code) code) := by
      refine hT.mono ?_
      rintro e w' (⟨g1, cs', gv', h1, -⟩ | ⟨code', h1, h2, h3⟩ | ⟨f, bv, cv, cs', gv', h1, -⟩)
      · rw [hs'] at h1; cases h1
      · rw [hs'] at h1
        simp only [Sum.inr.injEq] at h1
        subst h1
        exact ⟨h2, h.onGave hL h3⟩
      · rw [hs'] at h1; cases h1
    clear h hr hT hs hs' hg hgl hge
    go_enter Tryz.func47, Tryz.ntmps47
    go_wp2_with fail
    refine HT.out.mono ?_
    rintro e w' ⟨rfl, hx⟩
    have HX := hide hx
    clear hx
    go_wp2
    exact ⟨rfl, rfl, HX.out⟩
  | @frame f hg hs hc =>
    rw [show g.m.greeted = 7 from hg] at c24
    have hs' : step g.got c = .frame f := hs
    have HT : Hid (Calls Tryz.prog 65 #[.pointer (some ⟨eb, 25, none⟩), .int .u8 c.toNat] w fun e w' => ∃ bv cv, e = .returned (.tuple #[frV f.kind f.flags f.stream bv cv f.body, .bool true]) ∧ Calls Tryz.prog 66 #[.pointer (some ⟨eb, 0, none⟩), frV f.kind f.flags f.stream bv cv f.body] w' fun e w'' => e = .panicked [{ v := .iface 36 (.int .i64 code), recovered := false }] ∧ Dies w w'' eb mb g (g.bare.died code) code) := by
      refine hT.mono ?_
      rintro e w' (⟨g1, cs', gv', h1, -⟩ | ⟨code, h1, -⟩ | ⟨f', bv, cv, cs', gv', h1, h2, h3, h4, h5, h6, h7⟩)
      · rw [hs'] at h1; cases h1
      · rw [hs'] at h1; cases h1
      · rw [hs'] at h1
        simp only [Sum.inl.injEq, Sum.inr.injEq] at h1
        subst h1
        refine ⟨bv, cv, h2, ?_⟩
        obtain ⟨g2, e1, e2, e3, e4⟩ := h.onGot h6
        have hL2 : g2.L.length ≤ 1048576 := by
          have e5 : g2.bare.L = ({ g with got := [] } : GEnd).bare.L := by rw [e1]
          have e6 : g2.L = g.L := e5
          rw [e6]; exact hL
        have hge2 : ∀ j, j < 7 → ¬ Foot eb mb g2 j := fun j hj hf => by
          rcases e3.grow j hf with a | a
          · exact hge j hj a
          · have := hgl.lt; omega
        have hbn : ∀ j, bv.ownBlock = some j → ¬ Foot eb mb g2 j := fun j hj hf => by
          rcases e4 j hf with a | a
          · have := Foot.lt h a; have := h5 j hj; omega
          · exact h7 j hj a
        refine (i_comeF eb mb g2 { g.bare with got := [] } f code bv cv w' e3.inv (by rw [e1]; rfl) hc hL2 (hgl.chg e3.chg hge) hge2 hbn h4 h3).mono ?_
        rintro e w'' ⟨rfl, q1⟩
        exact ⟨rfl, q1.pre e3⟩
    clear h hr hT hs hs' hg hgl hge
    go_enter Tryz.func47, Tryz.ntmps47
    go_wp2_with fail
    refine HT.out.mono ?_
    rintro e w' ⟨bv, cv, rfl, hx⟩
    have HX := hide hx
    clear hx
    obtain ⟨ty, x, hfv⟩ := frV_iface f.kind f.flags f.stream bv cv f.body
    rw [hfv] at HX ⊢
    go_wp2_with fail
    refine HX.out.mono ?_
    rintro e w'' ⟨rfl, hx⟩
    have HY := hide hx
    clear hx
    go_wp2
    exact ⟨rfl, rfl, HY.out⟩
def FeedF (z1 : GEnd) (z2 : List UInt8) (z3 : Int) (z4 : GEnd) : Prop := ∀ Z : GEnd → List UInt8 → Int → GEnd → Prop, (∀ (p : GEnd) (c : UInt8) (r : List UInt8) (code : Int) (hf : p.m.fault = 0) (hb : ByteF p c code), Z p (c :: r) code (p.died code)) → (∀ (p p1 q : GEnd) (c : UInt8) (r : List UInt8) (code : Int) (hf : p.m.fault = 0) (hb : ByteR p c p1) (h : Z p1 r code q), Z p (c :: r) code q) → Z z1 z2 z3 z4
theorem FeedF.fault {p : GEnd} {c : UInt8} {r : List UInt8} {code : Int} (hf : p.m.fault = 0) (hb : ByteF p c code) : FeedF p (c :: r) code (p.died code) := fun Z zk1 zk2 => zk1 p c r code hf hb
theorem FeedF.step {p p1 q : GEnd} {c : UInt8} {r : List UInt8} {code : Int} (hf : p.m.fault = 0) (hb : ByteR p c p1) (h : FeedF p1 r code q) : FeedF p (c :: r) code q := fun Z zk1 zk2 => zk2 p p1 q c r code hf hb (h Z zk1 zk2)
theorem FeedF.ind {motive : ∀ (z1 : GEnd) (z2 : List UInt8) (z3 : Int) (z4 : GEnd), FeedF z1 z2 z3 z4 → Prop} (fault : ∀ {p : GEnd} {c : UInt8} {r : List UInt8} {code : Int} (hf : p.m.fault = 0) (hb : ByteF p c code), motive p (c :: r) code (p.died code) (@FeedF.fault p c r code hf hb)) (step : ∀ {p p1 q : GEnd} {c : UInt8} {r : List UInt8} {code : Int} (hf : p.m.fault = 0) (hb : ByteR p c p1) (h : FeedF p1 r code q) (ih : motive p1 r code q h), motive p (c :: r) code q (@FeedF.step p p1 q c r code hf hb h)) {z1 : GEnd} {z2 : List UInt8} {z3 : Int} {z4 : GEnd} (zt : FeedF z1 z2 z3 z4) : motive z1 z2 z3 z4 zt := (zt (fun z1 z2 z3 z4 => ∃ zt : FeedF z1 z2 z3 z4, motive z1 z2 z3 z4 zt) (fun p c r code hf hb => ⟨_, @fault p c r code hf hb⟩) (fun p p1 q c r code hf hb zy => zy.elim fun h zx => ⟨_, @step p p1 q c r code hf hb h zx⟩)).elim fun _ zx => zx
theorem FeedR.fault {p p1 q : GEnd} {l r : List UInt8} {code : Int} (h : FeedR p l p1) (h2 : FeedF p1 r code q) : FeedF p (l ++ r) code q := by
  induction h using FeedR.ind with
  | nil => exact h2
  | greet hk hk7 hf hc _ ih => exact .step hf (.greet hk hk7 hc) (ih h2)
  | more hg hf hs _ ih => exact .step hf (.more hg hs) (ih h2)
  | frame hg hf hs hc _ ih => exact .step hf (.frame hg hs hc) (ih h2)
set_option maxRecDepth 100000 in
set_option maxHeartbeats 1200000 in
theorem i_feedF (eb mb : Nat) (g q : GEnd) (bv : Value) (l : List UInt8) (code : Int) (w : World) (h : Inv w eb mb g) (hr : RdOk g) (hf : FeedF g.bare l code q) (hL : q.L.length ≤ 1048576) (hgl : Gl w) (hge : ∀ j, j < 7 → ¬ Foot eb mb g j) (hb : BytesIn w bv l) (hbn : ∀ j, bv.ownBlock = some j → ¬ Foot eb mb g j) (hl : l.length ≤ 268435456) :
    Calls Tryz.prog 26 #[.pointer (some ⟨eb, 0, none⟩), bv] w fun e w' => e = .panicked (faultP code) ∧ Dies w w' eb mb g q code := by
  obtain ⟨sv, cv, hv, -⟩ := bytesIn_len hb
  subst hv
  have H := hide h
  have HR := hide hr
  have HF := hide hf
  have HGL := hide hgl
  have HGE := hide hge
  have HB := hide hb
  have HBN := hide hbn
  clear h hr hf hgl hge hb hbn
  go_enter Tryz.func26, Tryz.ntmps26
  go_wp2
  go_loopw [8] (fun i wr => ∃ (k : Nat) (wv : World) (c : GEnd), wv = wr ∧ i = .int .i64 (k : Int) ∧ k ≤ l.length ∧ Next w wv eb mb g c ∧ RdOk c ∧ FeedF c.bare (l.drop k) code q) (fun i _ => l.length - (intOf i).toNat)
  case atStart => exact ⟨0, _, g, rfl, rfl, Nat.zero_le _, Next.refl H.out, HR.out, HF.out⟩
  case round =>
    obtain ⟨k, wv, c, hwv, rfl, hk, hnx, hrd, hfe⟩ := hrel
    subst hwv
    have hlk : k < l.length := by
      rcases Nat.lt_or_ge k l.length with a | a
      · exact a
      · rw [List.drop_of_length_le a] at hfe
        cases hfe using FeedF.ind
    rw [drop_cons hlk] at hfe
    have hfa : c.bare.m.fault = 0 := by cases hfe using FeedF.ind <;> assumption
    obtain ⟨hbyt, hnf⟩ := hnx.bytes HB.out HBN.out
    have hgl1 := HGL.out.chg hnx.chg HGE.out
    have hge1 : ∀ j, j < 7 → ¬ Foot eb mb c j := fun j hj hf => by
      rcases hnx.grow j hf with a | a
      · exact HGE.out j hj a
      · have := HGL.out.lt; omega
    have hi : Calls Tryz.prog 47 #[.pointer (some ⟨eb, 0, none⟩), .int .u8 (l.getD k 0).toNat] wv fun e w' => (e = .returned (.tuple #[]) ∧ ∃ c1, Next w w' eb mb g c1 ∧ RdOk c1 ∧ FeedF c1.bare (l.drop (k + 1)) code q) ∨ (e = .panicked [{ v := .iface 36 (.int .i64 code), recovered := false }] ∧ Dies w w' eb mb g q code) := by
      cases hfe using FeedF.ind with
      | fault hf hby =>
        refine (i_byteF eb mb c (l.getD k 0) code wv hnx.inv hrd hby hL hgl1 hge1).mono ?_
        rintro e w' ⟨rfl, hd⟩
        exact Or.inr ⟨rfl, hd.pre hnx⟩
      | step hf hby hfr =>
        refine (i_byte eb mb c c.bare _ (l.getD k 0) wv hnx.inv hrd rfl hby hgl1 hge1).mono ?_
        rintro e w' ⟨rfl, c1, hc1, hr1, hn1⟩
        exact Or.inl ⟨rfl, c1, hnx.trans hn1, hr1, by rw [hc1]; exact hfr⟩
    have hd := isDead_any eb c.m wv hnx.inv.en
    have hfa' : c.m.fault = 0 := hfa
    rw [show (!(c.m.fault == 0)) = false from by rw [hfa']; rfl] at hd
    rcases hbyt with ⟨-, h0⟩ | ⟨bb, off, cap, h1, h2, h3, h4⟩
    · rw [h0] at hlk; simp at hlk
    · simp only [Value.slice.injEq] at h1
      obtain ⟨rfl, _, rfl⟩ := h1
      have hcell := h4 k hlk
      have HI := hide hi
      have HD := hide hd
      generalize l.getD k 0 = cc at *
      clear hi hd hnx hfe hrd hgl1 hge1 h4 hfa hfa' hnf
      go_wp2_with fail
      refine HD.out.mono ?_
      rintro e w' ⟨rfl, hw'⟩
      rw [hw']
      clear hw' w'
      go_wp2_with fail
      refine HI.out.mono ?_
      rintro e w1 (⟨rfl, hx⟩ | ⟨rfl, hx⟩)
      · obtain ⟨c1, hn1, hr1, hfr⟩ := hx
        have HR1 := hide hr1
        have HN1 := hide hn1
        have HFR := hide hfr
        clear hr1 hn1 hfr
        go_wp2
        all_goals go_roundw
        case rel => exact ⟨k + 1, _, c1, rfl, by go_num, by omega, HN1.out, HR1.out, HFR.out⟩
        case measure => simp [intOf]; omega
      · have HX := hide hx
        clear hx
        go_wp2
        exact ⟨rfl, rfl, HX.out⟩
end Go.Proofs.YtiphkngfbpdeoaaGreatDoor
namespace Go.Proofs.YtiphkngfbpdeoaaGreatDoor
set_option linter.unusedVariables false
set_option linter.unusedSimpArgs false
open Go.RowKit
set_option maxRecDepth 100000 in
set_option maxHeartbeats 400000 in
theorem xclos_panic (fa ra eb : Nat) (code : Int) (older : List PanicEntry) (w : World) (R : World → Prop) (hf : w.heap[fa]? = some (.cells #[.int .i64 0] 36 (0, 0))) (hra : w.heap[ra]? = some (.cells #[.pointer (some ⟨eb, 0, none⟩)] 29 (0, 0))) (hne : fa ≠ ra)
    (hd : Calls Tryz.prog 25 #[.pointer (some ⟨eb, 0, none⟩), .int .i64 code] (w.setCell ⟨fa, 0, none⟩ (.int .i64 code)).drew fun e w' => e = .returned (.tuple #[]) ∧ R w') (hk : ∀ w', R w' → w'.cell? ⟨ra, 0, none⟩ = some (.pointer (some ⟨eb, 0, none⟩)) ∧ w'.cell? ⟨fa, 0, none⟩ = some (.int .i64 code)) :
    CallsD Tryz.prog 23 #[.pointer (some ⟨fa, 0, none⟩), .pointer (some ⟨ra, 0, none⟩)] (.panicking ({ v := .iface 36 (.int .i64 code), recovered := false } :: older)) w fun e u' w' =>
      e = .returned (.tuple #[]) ∧ u' = .panicking ({ v := .iface 36 (.int .i64 code), recovered := true } :: older) ∧ R w' := by
  have cf := cell_of_one hf
  have ff := free_of_one hf
  have c0 := cell_of_one hra
  have hlt := lt_of_block hra
  have k1 : (w.setCell ⟨fa, 0, none⟩ (.int .i64 code)).cell? ⟨fa, 0, none⟩ = some (.int .i64 code) := cell_of_one (show (w.setCell ⟨fa, 0, none⟩ (.int .i64 code)).heap[fa]? = some (.cells #[.int .i64 code] 36 (0, 0)) from blk_set hf)
  have k2 : (w.setCell ⟨fa, 0, none⟩ (.int .i64 code)).cell? ⟨ra, 0, none⟩ = some (.pointer (some ⟨eb, 0, none⟩)) := cell_of_one (by rw [heap_setCell_other w ⟨fa, 0, none⟩ ra _ (fun e => hne e.symm)]; exact hra)
  have HK : Hid ((w.setCell ⟨fa, 0, none⟩ (.int .i64 code)).drew.cell? ⟨ra, 0, none⟩ = some (.pointer (some ⟨eb, 0, none⟩)) ∧ (w.setCell ⟨fa, 0, none⟩ (.int .i64 code)).drew.cell? ⟨fa, 0, none⟩ = some (.int .i64 code)) := ⟨k2, k1⟩
  have HD := hide hd
  have HKP := hide hk
  clear hf hra hd hk
  refine callsD_of_wpS Tryz.func23 rfl fun c₀ cs hu => ?_
  apply wpS_seq
  apply wpS_region
  simp [wpOpsS, go_sem, recoverD, hu, Tryz.ntmps23, Exit.thenS]
  refine wpS_of_wp ?_
  change Code.wp Tryz.prog _ _ ⟨#[.pointer (some ⟨fa, 0, none⟩), .pointer (some ⟨ra, 0, none⟩), .iface 36 (.int .i64 code), .iface 36 (.int .i64 code), undef, undef, undef, undef, undef, undef, undef, undef, undef], []⟩ w
  go_wp2_with (go_at_call 24; refine (faultOf_any _ _).mono ?_; rintro e w' ⟨rfl, hw'⟩; rw [hw']; clear hw' w')
  go_region_held3 (fun wx => wx.cell? ⟨ra, 0, none⟩ = some (.pointer (some ⟨eb, 0, none⟩)) ∧ wx.cell? ⟨fa, 0, none⟩ = some (.int .i64 code)) (first | exact HK.out | exact HKP.out _ (by assumption)) (first | (go_at_call 25; refine HD.out.mono ?_; rintro e w' ⟨rfl, hx⟩))
  all_goals exact ⟨rfl, _, rfl, .tuple #[], by simp [results, Tryz.results23], rfl, rfl, by assumption⟩
set_option maxRecDepth 100000 in
set_option maxHeartbeats 1200000 in
theorem x_feedF (eb mb : Nat) (g q : GEnd) (bv : Value) (l : List UInt8) (code : Int) (w : World) (h : Inv w eb mb g) (hr : RdOk g) (hf : FeedF g.bare l code q) (hL : q.L.length ≤ 1048576) (hgl : Gl w) (hge : ∀ j, j < 7 → ¬ Foot eb mb g j) (hb : BytesIn w bv l) (hbn : ∀ j, bv.ownBlock = some j → ¬ Foot eb mb g j) (hl : l.length ≤ 268435456) :
    Calls Tryz.prog 8 #[.pointer (some ⟨eb, 0, none⟩), bv] w fun e w' => e = .returned (.int .i64 code) ∧ ∃ g', g'.bare = q ∧ RdOk g' ∧ Next w w' eb mb g g' := by
  have hmf : ∀ (fn : Fn) (first cap : Array Value) (w : World), (Instr.makeFunc fn first cap).run Tryz.prog w = .ok (.func fn first cap) w := fun _ _ _ _ => rfl
  obtain ⟨wA, hwA⟩ : ∃ wA, wA = (w.alloc (.cells #[.pointer (some ⟨eb, 0, none⟩)] 29)).alloc (.cells #[.int .i64 0] 36) := ⟨_, rfl⟩
  have hbA : Below w.heap.size w wA := by rw [hwA]; exact ((Below.refl _ _).alloc (Nat.le_refl _) _).alloc (by simp) _
  have hbx : wA.heap[w.heap.size]? = some (.cells #[.pointer (some ⟨eb, 0, none⟩)] 29 (0, 0)) := by
    rw [hwA, heap_alloc_old _ _ (by simp)]
    exact heap_alloc_new w _
  have hfc : wA.heap[w.heap.size + 1]? = some (.cells #[.int .i64 0] 36 (0, 0)) := by
    have := heap_alloc_new (w.alloc (.cells #[.pointer (some ⟨eb, 0, none⟩)] 29)) (.cells #[.int .i64 0] 36)
    rw [hwA]
    simpa using this
  have hA := h.below hbA
  have HFE := hide (i_feedF eb mb g q bv l code wA hA hr hf hL (hgl.below hbA) hge (hb.chg (Chg.of_below (S := fun _ => False) hbA) (fun _ _ => id)) hbn hl)
  have hnf : ∀ j, w.heap.size ≤ j → ¬ Foot eb mb g j := fun j hj hf => by have := Foot.lt h hf; omega
  have hlA : w.heap.size + 1 < wA.heap.size := lt_of_block hfc
  have HMID : Hid (∀ w1, Dies wA w1 eb mb g q code → CallsD Tryz.prog 23 #[.pointer (some ⟨w.heap.size + 1, 0, none⟩), .pointer (some ⟨w.heap.size, 0, none⟩)] (.panicking [{ v := .iface 36 (.int .i64 code), recovered := false }]) w1 fun e u' w' => e = .returned (.tuple #[]) ∧ u' = .panicking [{ v := .iface 36 (.int .i64 code), recovered := true }] ∧ (w'.cell? ⟨w.heap.size, 0, none⟩ = some (.pointer (some ⟨eb, 0, none⟩)) ∧ w'.cell? ⟨w.heap.size + 1, 0, none⟩ = some (.int .i64 code)) ∧ ∃ g', g'.bare = q ∧ RdOk g' ∧ Next w w' eb mb g g') := fun w1 hd => by
    obtain ⟨g1, wI, m0, e, hg⟩ := hd
    have hnf1 : ∀ j, w.heap.size ≤ j → j < wA.heap.size → ¬ Foot eb mb g1 j := fun j h1 h2 hf => by
      rcases hg.nx.grow j hf with a | a
      · exact hnf j h1 a
      · omega
    have hkeep : ∀ j, w.heap.size ≤ j → j < wA.heap.size → w1.heap[j]? = wA.heap[j]? := fun j h1 h2 => by
      rw [hg.chg.block j (Nat.lt_of_lt_of_le h2 hg.nx.chg.size) (fun a => ?_), hg.nx.chg.block j h2 (hnf j h1)]
      rcases a with a | a | a
      · exact hnf1 j h1 h2 (Or.inl a)
      · exact hnf1 j h1 h2 (Or.inr (Or.inr (Or.inr (Or.inl a))))
      · omega
    have e1 : w1.heap[w.heap.size]? = some (.cells #[.pointer (some ⟨eb, 0, none⟩)] 29 (0, 0)) := by rw [hkeep _ (Nat.le_refl _) (by omega)]; exact hbx
    have e2 : w1.heap[w.heap.size + 1]? = some (.cells #[.int .i64 0] 36 (0, 0)) := by rw [hkeep _ (by omega) hlA]; exact hfc
    have hcs0 : Chg (fun j => j = w.heap.size + 1) w1 (w1.setCell ⟨w.heap.size + 1, 0, none⟩ (.int .i64 code)) := chg_set (Chg.refl _ _) rfl
    have hcs : Chg (fun j => j = w.heap.size + 1) w1 (w1.setCell ⟨w.heap.size + 1, 0, none⟩ (.int .i64 code)).drew := hcs0.drew
    have hfa := hnf1 (w.heap.size + 1) (by omega) hlA
    have hra := hnf1 w.heap.size (Nat.le_refl _) (by omega)
    have hg2 : GaveE w (w1.setCell ⟨w.heap.size + 1, 0, none⟩ (.int .i64 code)).drew eb mb g g1 wI m0 code := by
      refine ⟨hg.nx.pre hbA, hg.en.chg hcs (fun a => hfa (Or.inl a.symm)), hg.same, ?_, hg.few⟩
      refine (hg.chg.mono fun j _ a => ?_).trans (hcs.mono fun j _ a => Or.inr ?_)
      · rcases a with a | a | a
        · exact Or.inl a
        · exact Or.inr (Or.inl a)
        · exact Or.inr (Or.inr ⟨by omega, a.2⟩)
      · subst a
        exact Or.inr (Or.inr ⟨by omega, hfa⟩)
    have hb3 : (w1.setCell ⟨w.heap.size + 1, 0, none⟩ (.int .i64 code)).drew.heap[w.heap.size + 1]? = some (.cells #[.int .i64 code] 36 (0, 0)) := by
      show (w1.setCell ⟨w.heap.size + 1, 0, none⟩ (.int .i64 code)).heap[w.heap.size + 1]? = _
      rw [blk_set e2]
      rfl
    have hb4 : (w1.setCell ⟨w.heap.size + 1, 0, none⟩ (.int .i64 code)).drew.heap[w.heap.size]? = some (.cells #[.pointer (some ⟨eb, 0, none⟩)] 29 (0, 0)) := by
      rw [hcs.block _ (lt_of_block e1) (by omega)]
      exact e1
    refine (xclos_panic (w.heap.size + 1) w.heap.size eb code [] w1 (fun w' => (w'.cell? ⟨w.heap.size, 0, none⟩ = some (.pointer (some ⟨eb, 0, none⟩)) ∧ w'.cell? ⟨w.heap.size + 1, 0, none⟩ = some (.int .i64 code)) ∧ ∃ g', g'.bare = q ∧ RdOk g' ∧ Next w w' eb mb g g') e2 e1 (by omega) ?_ (fun w' h => h.1)).mono (fun e u' w' h => h)
    refine (eDie_any w eb mb g g1 wI m0 code _ hg2).mono ?_
    rintro e' w' ⟨rfl, ⟨g', q1, q2, q3⟩, hc⟩
    rw [e] at q1
    refine ⟨rfl, ⟨?_, ?_⟩, g', q1, q2, q3⟩
    · exact cell_of_one (by rw [hc.block _ (lt_of_block hb4) hra]; exact hb4)
    · exact cell_of_one (by rw [hc.block _ (lt_of_block hb3) hfa]; exact hb3)
  have HWA := hide hwA
  have hlt := h.en.lt
  obtain ⟨sv, cv, hv, -⟩ := bytesIn_len hb
  subst hv
  clear h hr hf hL hgl hge hb hbn hbA hfc hA hnf
  have k0 : wA.cell? ⟨w.heap.size, 0, none⟩ = some (.pointer (some ⟨eb, 0, none⟩)) := cell_of_one hbx
  clear hbx
  go_enter_defers Tryz.func8, Tryz.ntmps8
  go_wp2_with fail
  rw [← HWA.out]
  clear hwA
  refine HFE.out.mono ?_
  rintro e w1 ⟨rfl, hd⟩
  have HC := hide (HMID.out w1 hd)
  clear hd HMID HFE
  unfold faultP
  refine leaves_cons (f := 23) (args := #[.pointer (some ⟨w.heap.size + 1, 0, none⟩), .pointer (some ⟨w.heap.size, 0, none⟩)]) (by simp) (by simp [go_sem]) ?_
  refine HC.out.mono ?_
  rintro e u' w'' ⟨rfl, rfl, hk, hx⟩
  have hk2 := hk.2
  refine ⟨.int .i64 code, ?_, ?_⟩
  · simp [results, Tryz.results8, go_sem, hk2]
  · exact ⟨rfl, hx⟩
end Go.Proofs.YtiphkngfbpdeoaaGreatDoor
namespace Go.Proofs.YtiphkngfbpdeoaaGreatDoor
set_option linter.unusedVariables false
set_option linter.unusedSimpArgs false
open Go.RowKit
set_option maxRecDepth 100000 in
set_option maxHeartbeats 1200000 in
theorem xFeed_dead (eb : Nat) (m : EndM) (bv : Value) (l : List UInt8) (w : World) (h : EnB w eb m) (hd : m.fault ≠ 0) (hb : BytesIn w bv l) (hl : l.length ≤ 268435456) :
    Calls Tryz.prog 8 #[.pointer (some ⟨eb, 0, none⟩), bv] w fun e w' => e = .returned (.int .i64 m.fault) ∧ Below w.heap.size w w' := by
  have hmf : ∀ (fn : Fn) (first cap : Array Value) (w : World), (Instr.makeFunc fn first cap).run Tryz.prog w = .ok (.func fn first cap) w := fun _ _ _ _ => rfl
  obtain ⟨wA, hwA⟩ : ∃ wA, wA = (w.alloc (.cells #[.pointer (some ⟨eb, 0, none⟩)] 29)).alloc (.cells #[.int .i64 0] 36) := ⟨_, rfl⟩
  have hbA : Below w.heap.size w wA := by rw [hwA]; exact ((Below.refl _ _).alloc (Nat.le_refl _) _).alloc (by simp) _
  have hbx : wA.heap[w.heap.size]? = some (.cells #[.pointer (some ⟨eb, 0, none⟩)] 29 (0, 0)) := by
    rw [hwA, heap_alloc_old _ _ (by simp)]
    exact heap_alloc_new w _
  have hfc : wA.heap[w.heap.size + 1]? = some (.cells #[.int .i64 0] 36 (0, 0)) := by
    have := heap_alloc_new (w.alloc (.cells #[.pointer (some ⟨eb, 0, none⟩)] 29)) (.cells #[.int .i64 0] 36)
    rw [hwA]
    simpa using this
  have hA := h.below hbA
  have HFE := hide (eFeed_dead eb m bv l wA hA hd (hb.chg (Chg.of_below (S := fun _ => False) hbA) (fun _ _ => id)) hl)
  have HEF := hide (eFault_any eb m wA hA)
  have k0 := cell_of_one hbx
  have k1 := cell_of_one hfc
  have f1 := free_of_one hfc
  have hlA : w.heap.size + 1 < wA.heap.size := lt_of_block hfc
  have HSAME : Hid (∀ v, (wA.setCell ⟨w.heap.size + 1, 0, none⟩ v).cell? ⟨w.heap.size + 1, 0, none⟩ = some v) := fun v => cell_of_one (show (wA.setCell ⟨w.heap.size + 1, 0, none⟩ v).heap[w.heap.size + 1]? = some (.cells #[v] 36 (0, 0)) from blk_set hfc)
  have HEND : Hid (∀ v, Below w.heap.size w (wA.setCell ⟨w.heap.size + 1, 0, none⟩ v)) := fun v => below_of_chg (S := fun j => j = w.heap.size + 1) hbA (chg_set (Chg.refl _ _) rfl) (fun j hj => by omega)
  have HWA := hide hwA
  have hlt := h.lt
  obtain ⟨sv, cv, hv, -⟩ := bytesIn_len hb
  subst hv
  clear h hd hb hl hbA hbx hfc hA
  go_enter_defers Tryz.func8, Tryz.ntmps8
  go_wp2_with fail
  rw [← HWA.out]
  clear hwA
  refine HFE.out.mono ?_
  rintro e w1 ⟨rfl, hw1⟩
  rw [hw1]
  clear hw1 w1
  go_wp2_with fail
  refine HEF.out.mono ?_
  rintro e w' ⟨rfl, hw'⟩
  rw [hw']
  clear hw' w'
  go_wp2
  refine leaves_cons (f := 23) (args := #[.pointer (some ⟨w.heap.size + 1, 0, none⟩), .pointer (some ⟨w.heap.size, 0, none⟩)]) (by simp) (by simp [go_sem]) ?_
  refine (xclos_idle (w.heap.size + 1) w.heap.size _).mono ?_
  rintro e u' w'' ⟨rfl, rfl, rfl⟩
  refine ⟨.int .i64 m.fault, ?_, ?_⟩
  · have hs := HSAME.out (.int .i64 m.fault)
    simp [results, Tryz.results8, go_sem, hs]
  · exact ⟨rfl, HEND.out _⟩
set_option maxRecDepth 100000 in
set_option maxHeartbeats 800000 in
theorem eRead_dead (eb mb : Nat) (m : EndM) (K : List Str) (s n : Int) (p : Str) (ua : Option Addr) (uc : Nat) (w : World) (h : EnB w eb m) (hd : m.fault ≠ 0) (hm : m.known = .map (some mb)) (hK : KnownS w mb K) (hn : 0 ≤ n) (hf : findK K s = some p) (hr : p.2.reset = 0) (hh : p.2.hasAll = false) (hu : p.2.unread = .slice ua 0 uc) :
    Calls Tryz.prog 28 #[.pointer (some ⟨eb, 0, none⟩), .int .i64 s, .int .i64 n] w fun e w' => e = .returned (.tuple #[.slice none 0 0, .bool false, .int .i64 7]) ∧ w' = w := by
  have c22 := h.c22
  rw [hm] at c22
  have hlk := hK.lookup s
  rw [hf] at hlk
  simp only [Option.map_some, ptrO] at hlk
  have hst := hK.st p (findK_mem hf).1
  have hR := isReset_any p.1 p.2 w hst
  rw [show (!(p.2.reset == 0)) = false from by rw [hr]; rfl] at hR
  have hdd := isDead_any eb m w h
  rw [show (!(m.fault == 0)) = true from by simp [hd]] at hdd
  have HD := hide hdd
  have HR := hide hR
  have k9 := hst.c9
  rw [hh] at k9
  have k11 := hst.c11
  rw [hu] at k11
  obtain ⟨pb, st⟩ := p
  simp only at hlk HR k9 k11
  clear h hd hm hK hf hr hR hst hh hu hdd
  go_enter Tryz.func28, Tryz.ntmps28
  go_wp2_with fail
  refine HR.out.mono ?_
  rintro e w' ⟨rfl, hw'⟩
  rw [hw']
  clear hw' w'
  go_wp2_with fail
  refine HD.out.mono ?_
  rintro e w' ⟨rfl, hw'⟩
  rw [hw']
  clear hw' w'
  go_wp2
  refine bodyPost_ret (v := .tuple #[.slice none 0 0, .bool false, .int .i64 7]) ?_ rfl ⟨rfl, rfl⟩
  simp [results, Tryz.results28, go_sem]
section
variable {w w' : World} {eb : Nat} {F : Nat → Prop} {p q : GEnd}
theorem d_fault (h : StE w eb F p) : Calls Tryz.prog 36 #[.pointer (some ⟨eb, 0, none⟩)] w fun e w' => e = .returned (.int .i64 p.m.fault) ∧ w' = w := by
  obtain ⟨mb, g, hi, hrd, hp, hF⟩ := h
  have := xFault_any eb g.m w hi.en
  rw [show g.m.fault = p.m.fault from by rw [← hp]; rfl] at this
  exact this
theorem d_feed {bv : Value} {l : List UInt8} (h : StE w eb F p) (hd : p.m.fault ≠ 0) (hb : BytesIn w bv l) (hl : l.length ≤ 268435456) : Calls Tryz.prog 8 #[.pointer (some ⟨eb, 0, none⟩), bv] w fun e w' => e = .returned (.int .i64 p.m.fault) ∧ Below w.heap.size w w' := by
  obtain ⟨mb, g, hi, hrd, hp, hF⟩ := h
  have e : g.m.fault = p.m.fault := by rw [← hp]; rfl
  have := xFeed_dead eb g.m bv l w hi.en (by rw [e]; exact hd) hb hl
  rw [e] at this
  exact this
theorem d_open {lv : Value} {b : Bool} (h : StE w eb F p) (hd : p.m.fault ≠ 0) : Calls Tryz.prog 37 #[.pointer (some ⟨eb, 0, none⟩), lv, .bool b] w fun e w' => e = .returned (.tuple #[.int .i64 0, .int .i64 7]) ∧ w' = w := by
  obtain ⟨mb, g, hi, hrd, hp, hF⟩ := h
  have e : g.m.fault = p.m.fault := by rw [← hp]; rfl
  exact xOpen_dead eb g.m lv b w hi.en (by rw [e]; exact hd)
theorem d_set {n : Int} (h : StE w eb F p) (hd : p.m.fault ≠ 0) : Calls Tryz.prog 38 #[.pointer (some ⟨eb, 0, none⟩), .int .i64 n] w fun e w' => e = .returned (.int .i64 7) ∧ w' = w := by
  obtain ⟨mb, g, hi, hrd, hp, hF⟩ := h
  have e : g.m.fault = p.m.fault := by rw [← hp]; rfl
  exact xSet_dead eb g.m n w hi.en (by rw [e]; exact hd)
theorem d_write {n : Int} {bv : Value} (h : StE w eb F p) (hd : p.m.fault ≠ 0) : Calls Tryz.prog 21 #[.pointer (some ⟨eb, 0, none⟩), .int .i64 n, bv] w fun e w' => e = .returned (.tuple #[.int .i64 0, .int .i64 7]) ∧ w' = w := by
  obtain ⟨mb, g, hi, hrd, hp, hF⟩ := h
  have e : g.m.fault = p.m.fault := by rw [← hp]; rfl
  have hw7 : g.m.wcode (findK (g.K.map GSt.str) n) = 7 := by unfold EndM.wcode; rw [if_pos (by rw [e]; exact hd)]
  have he := eWrite_no eb mb g.m _ n bv w hi.en hi.km hi.kn (by rw [hw7]; omega)
  rw [hw7] at he
  have hc := xWrite_of (R := fun a c w' => (a = .int .i64 0 ∧ c = .int .i64 7) ∧ w' = w) eb n bv w (he.mono fun e w' h => ⟨_, _, h.1, ⟨rfl, rfl⟩, h.2⟩)
  refine hc.mono ?_
  rintro e w' ⟨a, c, rfl, ⟨rfl, rfl⟩, hw⟩
  exact ⟨rfl, hw⟩
theorem d_close {n : Int} (h : StE w eb F p) (hd : p.m.fault ≠ 0) : Calls Tryz.prog 32 #[.pointer (some ⟨eb, 0, none⟩), .int .i64 n] w fun e w' => e = .returned (.int .i64 7) ∧ w' = w := by
  obtain ⟨mb, g, hi, hrd, hp, hF⟩ := h
  have e : g.m.fault = p.m.fault := by rw [← hp]; rfl
  have hw7 : ∀ o, g.m.wcode o = 7 := fun o => by unfold EndM.wcode; rw [if_pos (by rw [e]; exact hd)]
  refine (xClose_any eb mb g.m _ n w hi.en hi.km hi.kn).mono ?_
  intro e w' hcl
  unfold Closed at hcl
  rw [hw7] at hcl
  refine ⟨hcl.1, ?_⟩
  have h2 := hcl.2
  split at h2
  · exact h2
  · rw [hw7, if_neg (by decide)] at h2
    exact h2
theorem d_reset {n : Int} (h : StE w eb F p) (hd : p.m.fault ≠ 0) : Calls Tryz.prog 22 #[.pointer (some ⟨eb, 0, none⟩), .int .i64 n] w fun e w' => e = .returned (.int .i64 7) ∧ w' = w := by
  obtain ⟨mb, g, hi, hrd, hp, hF⟩ := h
  have e : g.m.fault = p.m.fault := by rw [← hp]; rfl
  have hw7 : g.m.xcode (findK (g.K.map GSt.str) n) = 7 := by unfold EndM.xcode; rw [if_pos (by rw [e]; exact hd)]
  have he := eReset_no eb mb g.m _ n w hi.en hi.km hi.kn (by rw [hw7]; omega)
  rw [hw7] at he
  have hc := xReset_of (R := fun a w' => a = 7 ∧ w' = w) eb n w (he.mono fun e w' h => ⟨_, h.1, rfl, h.2⟩)
  refine hc.mono ?_
  rintro e w' ⟨a, rfl, rfl, hw⟩
  exact ⟨rfl, hw⟩
theorem d_read_none {s : GSt} {n : Int} (h : StE w eb F p) (hs : s ∈ p.K) (hd : p.m.fault ≠ 0) (hr : s.st.reset = 0) (hh : s.st.hasAll = false) (hu : s.un = []) (hn : 0 ≤ n) :
    Calls Tryz.prog 10 #[.pointer (some ⟨eb, 0, none⟩), .int .i64 s.st.number, .int .i64 n] w fun e w' => e = .returned (.tuple #[.slice none 0 0, .bool false, .int .i64 7]) ∧ w' = w := by
  obtain ⟨mb, g, hi, hrd, hp, hF⟩ := h
  obtain ⟨x, hx, rfl, hfi⟩ := stE_at hi hp hs
  have e : g.m.fault = p.m.fault := by rw [← hp]; rfl
  obtain ⟨ua, uc, hua⟩ := slice_len (hi.un x hx)
  have hu' : x.un = [] := hu
  rw [hu'] at hua
  have hc := xRead_of (R := fun a b c w' => (a = .slice none 0 0 ∧ b = .bool false ∧ c = .int .i64 7) ∧ w' = w) eb x.st.number n w ((eRead_dead eb mb g.m _ x.st.number n x.str ua uc w hi.en (by rw [e]; exact hd) hi.km hi.kn hn hfi hr hh hua).mono fun e w' h => ⟨_, _, _, h.1, ⟨rfl, rfl, rfl⟩, h.2⟩)
  refine hc.mono ?_
  rintro e w' ⟨a, b, c, rfl, ⟨rfl, rfl, rfl⟩, hw⟩
  exact ⟨rfl, hw⟩
theorem d_take {n : Int} (h : StE w eb F p) (hg : p.m.greets = false) (hd : p.m.fault ≠ 0) (hf : 0 ≤ p.m.fault ∧ p.m.fault ≤ 255) (hgot : p.got = []) (hq : (p.oGoaway = none ∧ q = p) ∨ p.oGoaway = some q) (hqg : q.got = []) (hl : q.out.length ≤ 1073741824) (hn : (q.out.length : Int) < n) :
    Calls Tryz.prog 29 #[.pointer (some ⟨eb, 0, none⟩), .int .i64 n] w fun e w' => (∃ s, e = .returned (.slice s (cutN n q.out.length) (cutN n q.out.length)) ∧ BytesIn w' (.slice s (cutN n q.out.length) (cutN n q.out.length)) (q.out.take (cutN n q.out.length)) ∧ ∃ F', StE w' eb F' { q with out := q.out.drop (cutN n q.out.length) } ∧ Chg F w w' ∧ (∀ j, F' j → F j ∨ w.heap.size ≤ j) ∧ ∀ j, (Value.slice s (cutN n q.out.length) (cutN n q.out.length)).ownBlock = some j → ¬ F' j) := by
  obtain ⟨mb, g, hi, hrd, hp, hF⟩ := h
  have e : g.m.fault = p.m.fault := by rw [← hp]; rfl
  have e2 : g.m.greets = p.m.greets := by rw [← hp]; rfl
  refine (x_takeD eb mb g q n w hi (by rw [e2]; exact hg) (by rw [e]; exact hd) (by rw [e]; exact hf) (by rw [hp]; exact hq) hl hn).mono ?_
  rintro e w' ⟨s, h1, hby, g', h2, h3, h4⟩
  exact ⟨s, h1, hby, Foot eb mb g', ⟨mb, g', h3.inv, RdOk.nil (bare_got h2 hqg), h2, fun j => Iff.rfl⟩, h3.chg.mono fun j _ e => (hF j).2 e, fun j hj => (h3.grow j hj).imp_left (hF j).2, h4⟩
end
end Go.Proofs.YtiphkngfbpdeoaaGreatDoor
namespace Go.Proofs.YtiphkngfbpdeoaaGreatDoor
set_option linter.unusedVariables false
set_option linter.unusedSimpArgs false
open Go.RowKit
def cfgB (i c b k : Int) : Bool := withinB i 0 && withinB c 32 && withinB b 1 && withinB k c
set_option maxRecDepth 100000 in
set_option maxHeartbeats 1600000 in
theorem configFits_ok (i c b k : Int) (w : World) (h : cfgB i c b k = true) : Calls Tryz.prog 33 #[.agg #[.int .i64 i, .int .i64 c, .int .i64 b, .int .i64 k]] w fun e w' => e = .returned (.bool true) ∧ Below w.heap.size w w' := by
  unfold cfgB at h
  simp only [Bool.and_eq_true] at h
  obtain ⟨⟨⟨h1, h2⟩, h3⟩, h4⟩ := h
  have H1 : Hid (∀ w, Calls Tryz.prog 52 #[.int .i64 i, .int .i64 0] w fun e w' => e = .returned (.bool true) ∧ w' = w) := fun w => by have := isWithin_any i 0 w; rw [h1] at this; exact this
  have H2 : Hid (∀ w, Calls Tryz.prog 52 #[.int .i64 c, .int .i64 32] w fun e w' => e = .returned (.bool true) ∧ w' = w) := fun w => by have := isWithin_any c 32 w; rw [h2] at this; exact this
  have H3 : Hid (∀ w, Calls Tryz.prog 52 #[.int .i64 b, .int .i64 1] w fun e w' => e = .returned (.bool true) ∧ w' = w) := fun w => by have := isWithin_any b 1 w; rw [h3] at this; exact this
  have H4 : Hid (∀ w, Calls Tryz.prog 52 #[.int .i64 k, .int .i64 c] w fun e w' => e = .returned (.bool true) ∧ w' = w) := fun w => by have := isWithin_any k c w; rw [h4] at this; exact this
  clear h1 h2 h3 h4
  go_enter Tryz.func33, Tryz.ntmps33
  go_wp2_with fail
  refine (H1.out _).mono ?_
  rintro e w' ⟨rfl, hw'⟩
  rw [hw']
  clear hw' w'
  go_wp2_with fail
  refine (H2.out _).mono ?_
  rintro e w' ⟨rfl, hw'⟩
  rw [hw']
  clear hw' w'
  go_wp2_with fail
  refine (H3.out _).mono ?_
  rintro e w' ⟨rfl, hw'⟩
  rw [hw']
  clear hw' w'
  go_wp2_with fail
  refine (H4.out _).mono ?_
  rintro e w' ⟨rfl, hw'⟩
  rw [hw']
  clear hw' w'
  go_wp2
  go_ret
  exact ⟨rfl, (Below.refl _ _).alloc (Nat.le_refl _) _⟩
set_option maxHeartbeats 800000 in
theorem newTuner_any (t k : Int) (w : World) : Calls Tryz.prog 53 #[.int .i64 t, .int .i64 k] w fun e w' => e = .returned (.agg #[.int .i64 t, .int .i64 k, .int .i64 0, .int .i64 1, .int .u32 0, .bool false, .bool false, .int .i64 0, .int .i64 0]) ∧ Below w.heap.size w w' := by
  go_enter Tryz.func53, Tryz.ntmps53
  go_wp2
  refine bodyPost_ret (v := .agg #[.int .i64 t, .int .i64 k, .int .i64 0, .int .i64 1, .int .u32 0, .bool false, .bool false, .int .i64 0, .int .i64 0]) ?_ rfl ⟨rfl, ?_⟩
  · simp [results, Tryz.results53, go_sem]
  · exact (Below.refl _ _).alloc (Nat.le_refl _) _
end Go.Proofs.YtiphkngfbpdeoaaGreatDoor
namespace Go.Proofs.YtiphkngfbpdeoaaGreatDoor
set_option linter.unusedVariables false
set_option linter.unusedSimpArgs false
open Go.RowKit
set_option maxHeartbeats 800000 in
theorem newStreams_any (w : World) : Calls Tryz.prog 54 #[] w fun e w' => ∃ mb, e = .returned (.agg #[.map (some mb), .slice none 0 0]) ∧ w.heap.size ≤ mb ∧ w'.heap[mb]? = some (.map #[] 0) ∧ Below w.heap.size w w' := by
  have hmk : (Instr.makeMap 73 none).run Tryz.prog (w.alloc (.cells #[.map none, .slice none 0 0] 76)) = .ok (.map (some (w.heap.size + 1))) ((w.alloc (.cells #[.map none, .slice none 0 0] 76)).alloc (.map #[] 0)) := by
    simp [Instr.makeMap, run_underlying Tryz.underlying73, Result.andThen, newObj, Sem.run]
    rfl
  go_enter Tryz.func54, Tryz.ntmps54
  go_wp2
  have hh : ((w.alloc (.cells #[.map (some (w.heap.size + 1)), .slice none 0 0] 76)).alloc (.map #[] 0)).heap[w.heap.size + 1]? = some (.map #[] 0) := by
    have := (MapKept.heap_alloc (w.alloc (.cells #[.map (some (w.heap.size + 1)), .slice none 0 0] 76)) (.map #[] 0)).1
    simpa using this
  refine bodyPost_ret (v := .agg #[.map (some (w.heap.size + 1)), .slice none 0 0]) ?_ rfl ⟨w.heap.size + 1, rfl, by omega, hh, ((Below.refl _ _).alloc (Nat.le_refl _) _).alloc (by simp) _⟩
  simp [results, Tryz.results54, go_sem]
end Go.Proofs.YtiphkngfbpdeoaaGreatDoor
namespace Go.Proofs.YtiphkngfbpdeoaaGreatDoor
set_option linter.unusedVariables false
set_option linter.unusedSimpArgs false
open Go.RowKit
set_option maxRecDepth 100000 in
set_option maxHeartbeats 800000 in
theorem kfour_any (n : Nat) (w : World) (hn : n ≤ 4294967295) : Calls Tryz.prog 14 #[.int .i64 n] w fun e w' => e = .returned (.slice (some ⟨w.heap.size, 0, none⟩) 4 4) ∧ BytesIn w' (.slice (some ⟨w.heap.size, 0, none⟩) 4 4) (four4 n) ∧ Below w.heap.size w w' := by
  go_enter Tryz.func14, Tryz.ntmps14
  go_wp2
  go_ret
  have hh : (w.alloc (.cells #[.int .u8 (n / 16777216), .int .u8 (n / 65536 % 256), .int .u8 (n / 256 % 256), .int .u8 (n % 256)] 5)).heap[w.heap.size]? = some (.cells #[.int .u8 (n / 16777216), .int .u8 (n / 65536 % 256), .int .u8 (n / 256 % 256), .int .u8 (n % 256)] 5 (0, 0)) := heap_alloc_new w _
  refine ⟨rfl, Or.inr ⟨w.heap.size, 0, 4, rfl, lt_of_block hh, Nat.le_refl _, fun i hi => ?_⟩, (Below.refl _ _).alloc (Nat.le_refl _) _⟩
  rw [cell_of_row _ _ _ _ _ _ hh]
  have hi' : i < 4 := hi
  have e0 : (n / 16777216 : Nat) % 256 = n / 16777216 := Nat.mod_eq_of_lt (by omega)
  match i, hi' with
  | 0, _ => simp [four4, UInt8.toNat_ofNat', e0]
  | 1, _ => simp [four4, UInt8.toNat_ofNat']
  | 2, _ => simp [four4, UInt8.toNat_ofNat']
  | 3, _ => simp [four4, UInt8.toNat_ofNat']
set_option maxRecDepth 100000 in
set_option maxHeartbeats 1600000 in
theorem klay_any (k f s : Int) (sa : Option Addr) (body : List UInt8) (cap : Nat) (w : World) (hk0 : 0 ≤ k) (hk1 : k ≤ 255) (hf0 : 0 ≤ f) (hf1 : f ≤ 255) (hs0 : 0 ≤ s) (hs1 : s ≤ 32767) (hn : body.length ≤ 64) (hb : BytesIn w (.slice sa body.length cap) body) :
    Calls Tryz.prog 9 #[.int .i64 k, .int .i64 f, .int .i64 s, .slice sa body.length cap] w fun e w' => ∃ v, e = .returned v ∧ w'.ownsRow w.heap.size 5 1 v (lay k f s body).length ((lay k f s body).map B) ∧ Below w.heap.size w w' := by
  obtain ⟨i0, hi, hz0, hz1, hz2⟩ := info_parts Tryz.info5
  have HB := hide hb
  clear hb
  go_enter Tryz.func9, Tryz.ntmps9
  have hrow : (w.alloc (.cells #[.int .u8 ((body.length : Int) / 256), .int .u8 (body.length : Int), .int .u8 k, .int .u8 f, .int .u8 (s / 256), .int .u8 (s % 256)] 5)).ownsRow 0 5 1 (.slice (some ⟨w.heap.size, 0, none⟩) 6 6) 6 [.int .u8 ((body.length : Int) / 256), .int .u8 (body.length : Int), .int .u8 k, .int .u8 f, .int .u8 (s / 256), .int .u8 (s % 256)] := ⟨rfl, Or.inr ⟨w.heap.size, 6, _, rfl, Nat.zero_le _, heap_alloc_new w _, Nat.le_refl _, by decide, rfl, rfl⟩⟩
  have hlb : Lies (w.alloc (.cells #[.int .u8 ((body.length : Int) / 256), .int .u8 (body.length : Int), .int .u8 k, .int .u8 f, .int .u8 (s / 256), .int .u8 (s % 256)] 5)) (.slice sa body.length cap) body.length (body.map B) := lies_of_bytesIn (HB.out.chg (Chg.of_below (S := fun _ => False) ((Below.refl _ _).alloc (Nat.le_refl _) _)) (fun _ _ => id))
  have HROW := hide hrow
  have HLB := hide hlb
  clear hrow hlb
  go_wp2_with (at_builtin; refine wpList_app _ rfl (.tmp 28) (.tmp 29) 38 rfl 5 i0 (.int .u8 0) 1 1 Tryz.underlying38 hi hz0 hz1 hz2 rfl (by decide) _ 6 _ rfl HROW.out _ body.length (body.map B) rfl ?c1 HLB.out ?c3 ?c4 ?c5 ?_)
  case c1 => simp
  case c3 => intro u hu; obtain ⟨x, -, rfl⟩ := List.mem_map.1 hu; rfl
  case c4 => unfold maxLen; omega
  case c5 => omega
  intro v2 w2 hown2 hg2 hfr2
  obtain ⟨s2, c2, rfl⟩ := slice_len hown2
  have hb2 : Below w.heap.size w w2 := below_of_chg ((Below.refl _ _).alloc (Nat.le_refl _) _) (Chg.of_grown (S := fun j => j = w.heap.size) hg2 (fun j hj => by simp [Value.ownBlock] at hj; exact hj.symm)) (fun j e => by rw [e]; exact Nat.le_refl _)
  have hown3 := owns_base (base' := w.heap.size) hown2 (fun j hj => by
    rcases hfr2 with e | e
    · rw [e] at hj; simp [Value.ownBlock] at hj; omega
    · rw [e] at hj; simp at hj; omega)
  have HO := hide hown3
  have HB2 := hide hb2
  clear hown2 hg2 hfr2 hb2 hown3
  go_wp2
  go_ret
  refine ⟨_, rfl, ?_, HB2.out⟩
  have e1 : (lay k f s body).length = 6 + body.length := by simp [lay]; omega
  rw [e1]
  have e2 : (lay k f s body).map B = [.int .u8 ((body.length : Int) / 256), .int .u8 (body.length : Int), .int .u8 k, .int .u8 f, .int .u8 (s / 256), .int .u8 (s % 256)] ++ body.map B := by
    unfold lay
    rw [List.map_append]
    simp only [List.map_cons, List.map_nil]
    rw [B_ofI (by omega) (by omega), B_ofI (by omega) (by omega), B_ofI hk0 hk1, B_ofI hf0 hf1, B_ofI (by omega) (by omega), B_ofI (by omega) (by omega)]
  rw [e2]
  exact HO.out
end Go.Proofs.YtiphkngfbpdeoaaGreatDoor
namespace Go.Proofs.YtiphkngfbpdeoaaGreatDoor
set_option linter.unusedVariables false
set_option linter.unusedSimpArgs false
open Go.RowKit
structure FrFits (f : Fr) : Prop where
  k0 : 0 ≤ f.kind
  k1 : f.kind ≤ 255
  f0 : 0 ≤ f.flags
  f1 : f.flags ≤ 255
  s0 : 0 ≤ f.stream
  s1 : f.stream ≤ 32767
  n : f.body.length ≤ 64
def layFs (fs : List Fr) : List UInt8 := fs.flatMap fun f => lay f.kind f.flags f.stream f.body
def spC (p : Fr × Value) : List Value := [.int .i64 p.1.kind, .int .i64 p.1.flags, .int .i64 p.1.stream, p.2]
structure SplitS (w w' : World) (fs : List Fr) (v : Value) (ps : List (Fr × Value)) : Prop where
  fst : ps.map Prod.fst = fs
  row : w'.ownsRow w.heap.size 105 4 v ps.length (ps.flatMap spC)
  body : ∀ p ∈ ps, BytesIn w p.2 p.1.body
  bel : Below w.heap.size w w'
theorem spC_length (ps : List (Fr × Value)) : (ps.flatMap spC).length = ps.length * 4 := by
  induction ps with
  | nil => rfl
  | cons p r ih => rw [List.flatMap_cons, List.length_append, ih, List.length_cons]; simp [spC]; omega
theorem head_cells {w : World} {bb off : Nat} {f : Fr} {r : List UInt8} {l : List UInt8} (hl : l = lay f.kind f.flags f.stream f.body ++ r) (hf : FrFits f) (h4 : ∀ i, i < l.length → w.cell? ⟨bb, off + i, none⟩ = some (.int .u8 (l.getD i 0).toNat)) :
    w.cell? ⟨bb, off, none⟩ = some (.int .u8 0) ∧ w.cell? ⟨bb, off + 1, none⟩ = some (.int .u8 (f.body.length : Int)) ∧ w.cell? ⟨bb, off + 2, none⟩ = some (.int .u8 f.kind) ∧ w.cell? ⟨bb, off + 3, none⟩ = some (.int .u8 f.flags) ∧ w.cell? ⟨bb, off + 4, none⟩ = some (.int .u8 (f.stream / 256)) ∧ w.cell? ⟨bb, off + 5, none⟩ = some (.int .u8 (f.stream % 256)) := by
  have hlen : 6 ≤ l.length := by rw [hl, List.length_append, lay_length]; omega
  obtain ⟨k0, k1, f0, f1, s0, s1, n⟩ := hf
  have e : ∀ i x, l.getD i 0 = ofI x → 0 ≤ x → x ≤ 255 → i < l.length → w.cell? ⟨bb, off + i, none⟩ = some (.int .u8 x) := fun i x h1 h2 h3 hi => by
    rw [h4 i hi, h1, ofI_toNat h2 h3]
  refine ⟨?_, ?_, ?_, ?_, ?_, ?_⟩
  · have := e 0 ((f.body.length : Int) / 256) (by rw [hl]; rfl) (by omega) (by omega) (by omega)
    rw [Nat.add_zero] at this
    rw [this]
    congr 2
    omega
  · exact e 1 _ (by rw [hl]; rfl) (by omega) (by omega) (by omega)
  · exact e 2 _ (by rw [hl]; rfl) k0 k1 (by omega)
  · exact e 3 _ (by rw [hl]; rfl) f0 f1 (by omega)
  · exact e 4 _ (by rw [hl]; rfl) (by omega) (by omega) (by omega)
  · exact e 5 _ (by rw [hl]; rfl) (by omega) (by omega) (by omega)
theorem bytes_cut {w : World} {bb off cap : Nat} {l : List UInt8} (hb : bb < w.heap.size) (hl : l.length ≤ cap) (h4 : ∀ i, i < l.length → w.cell? ⟨bb, off + i, none⟩ = some (.int .u8 (l.getD i 0).toNat)) (a n : Nat) (h : a + n ≤ l.length) (c : Nat) (hc : n ≤ c) : BytesIn w (.slice (some ⟨bb, off + a, none⟩) n c) ((l.drop a).take n) := by
  have e : ((l.drop a).take n).length = n := by rw [List.length_take, List.length_drop]; omega
  refine Or.inr ⟨bb, off + a, c, by rw [e], hb, by rw [e]; exact hc, fun i hi => ?_⟩
  rw [e] at hi
  rw [Nat.add_assoc, h4 (a + i) (by omega)]
  simp [List.getD, List.getElem?_take, hi, List.getElem?_drop]
set_option maxRecDepth 100000 in
set_option maxHeartbeats 1200000 in
theorem ksplit_any (sv : Option Addr) (cap : Nat) (fs : List Fr) (w : World) (hf : ∀ f ∈ fs, FrFits f ∧ 1 ≤ f.body.length) (hfl : fs.length ≤ 1048576) (hb : BytesIn w (.slice sv (layFs fs).length cap) (layFs fs)) :
    Calls Tryz.prog 30 #[.slice sv (layFs fs).length cap] w fun e w' => ∃ v ps, e = .returned (.tuple #[v, .bool true]) ∧ SplitS w w' fs v ps := by
  obtain ⟨i0, hi, hz0, hz1, hz2⟩ := info_parts Tryz.info105
  have HFS := hide hf
  have HB := hide hb
  clear hf hb
  go_enter Tryz.func30, Tryz.ntmps30
  go_wp2
  go_loopw [0, 4] (fun b l wr => ∃ (wv : World) (ps : List (Fr × Value)) (todo : List Fr) (sv' : Option Addr) (cap' : Nat), wv = wr ∧ b = .slice sv' (layFs todo).length cap' ∧ BytesIn w (.slice sv' (layFs todo).length cap') (layFs todo) ∧ ps.map Prod.fst ++ todo = fs ∧ wv.ownsRow w.heap.size 105 4 l ps.length (ps.flatMap spC) ∧ (∀ p ∈ ps, BytesIn w p.2 p.1.body) ∧ Below w.heap.size w wv) (fun b _ _ => lenV b)
  case atStart => exact ⟨_, [], fs, sv, cap, rfl, rfl, HB.out, rfl, World.ownsRow_nil _ _ _ _, by simp, Below.refl _ _⟩
  case round =>
    obtain ⟨wv, ps, todo, sv', cap', hwv, rfl, hby, hfs, hrow, hbod, hbel⟩ := hrel
    subst hwv
    have hps : ps.length ≤ 1048576 := by
      have := congrArg List.length hfs
      simp at this
      omega
    obtain ⟨sl, cl, hsl⟩ := slice_len hrow
    subst hsl
    cases todo with
    | nil =>
      have hl0 : (layFs []).length = 0 := rfl
      rw [hl0]
      have HE : Hid (SplitS w wv fs (.slice sl ps.length cl) ps) := ⟨by rw [← hfs, List.append_nil], hrow, hbod, hbel⟩
      clear hrow hbod hbel hby hfs hl0
      go_wp2
      go_ret2
      exact ⟨_, ps, rfl, HE.out⟩
    | cons f r =>
      obtain ⟨hff, hf1⟩ := HFS.out f (by rw [← hfs]; simp)
      have hll : layFs (f :: r) = lay f.kind f.flags f.stream f.body ++ layFs r := rfl
      have hlen : (layFs (f :: r)).length = 6 + f.body.length + (layFs r).length := by rw [hll, List.length_append, lay_length]
      rcases hby with ⟨h1, h2⟩ | ⟨bb, off, cap2, h1, h2, h3, h4⟩
      · rw [h2] at hlen; simp at hlen; omega
      simp only [Value.slice.injEq, true_and] at h1
      obtain ⟨rfl, rfl⟩ := h1
      obtain ⟨q0, q1, q2, q3, q4, q5⟩ := head_cells hll hff h4
      have hw0 : ∀ o, wv.cell? ⟨bb, o, none⟩ = w.cell? ⟨bb, o, none⟩ := fun o => Below.cell hbel (p := ⟨bb, o, none⟩) h2
      rw [← hw0] at q0 q1 q2 q3 q4 q5
      obtain ⟨d0, d1, d2, d3, d4, d5, d6⟩ := hff
      have hbody : ∀ c, f.body.length ≤ c → BytesIn w (.slice (some ⟨bb, off + 6, none⟩) f.body.length c) f.body := fun c hc => by
        have := bytes_cut h2 h3 h4 6 f.body.length (by omega) c hc
        have e : ((layFs (f :: r)).drop 6).take f.body.length = f.body := by
          rw [hll]
          show (f.body ++ layFs r).take f.body.length = f.body
          rw [List.take_left' rfl]
        rw [e] at this
        exact this
      have hrest : ∀ c, (layFs r).length ≤ c → BytesIn w (.slice (some ⟨bb, off + (6 + f.body.length), none⟩) (layFs r).length c) (layFs r) := fun c hc => by
        have := bytes_cut h2 h3 h4 (6 + f.body.length) (layFs r).length (by omega) c hc
        have e : ((layFs (f :: r)).drop (6 + f.body.length)).take (layFs r).length = layFs r := by
          rw [hll, ← lay_length f.kind f.flags f.stream f.body, List.drop_left' rfl, List.take_of_length_le (Nat.le_refl _)]
        rw [e] at this
        exact this
      obtain ⟨n, hn⟩ : ∃ n, n = f.body.length := ⟨_, rfl⟩
      obtain ⟨m, hm⟩ : ∃ m, m = (layFs r).length := ⟨_, rfl⟩
      rw [← hn] at q1 d6 hbody hrest hlen hf1
      rw [← hm] at hrest hlen
      obtain ⟨T, hT⟩ : ∃ T, T = (layFs (f :: r)).length := ⟨_, rfl⟩
      rw [← hT] at h3 hlen ⊢
      have i0' : (0 : Int) < T := by omega
      have i1' : (1 : Int) < T := by omega
      have i2' : (2 : Int) < T := by omega
      have i3' : (3 : Int) < T := by omega
      have i4' : (4 : Int) < T := by omega
      have i5' : (5 : Int) < T := by omega
      have i6' : (6 : Int) ≤ T := by omega
      have i7' : ¬ ((T : Int) < 6 + (n : Int)) := by omega
      have i8' : 6 + (n : Int) ≤ (cap' : Int) := by omega
      have i9' : 6 + (n : Int) ≤ (T : Int) := by omega
      have ia' : 6 + n ≤ T := by omega
      have hTm : T - (6 + n) = m := by omega
      have HNEXT : Hid (∀ (w' : World) (v bv : Value) (sv2 : Option Addr) (c2 : Nat), w'.ownsRow w.heap.size 105 4 v (ps.length + 1) (ps.flatMap spC ++ [.int .i64 f.kind, .int .i64 f.flags, .int .i64 f.stream, bv]) → BytesIn w bv f.body → BytesIn w (.slice sv2 m c2) (layFs r) → Below w.heap.size w w' → ∃ (wv : World) (ps : List (Fr × Value)) (todo : List Fr) (sv' : Option Addr) (cap' : Nat), wv = w' ∧ (.slice sv2 m c2 : Value) = .slice sv' (layFs todo).length cap' ∧ BytesIn w (.slice sv' (layFs todo).length cap') (layFs todo) ∧ ps.map Prod.fst ++ todo = fs ∧ wv.ownsRow w.heap.size 105 4 v ps.length (ps.flatMap spC) ∧ (∀ p ∈ ps, BytesIn w p.2 p.1.body) ∧ Below w.heap.size w wv) := fun w' v bv sv2 c2 hr hbb hrr hbe => by
        refine ⟨w', ps ++ [(f, bv)], r, sv2, c2, rfl, by rw [hm], by rw [hm] at hrr; exact hrr, ?_, ?_, ?_, hbe⟩
        · rw [List.map_append, ← hfs]; simp
        · rw [List.length_append, List.flatMap_append]
          simpa [spC] using hr
        · intro p hp
          rcases List.mem_append.1 hp with a | a
          · exact hbod p a
          · rw [List.mem_singleton.1 a]; exact hbb
      have HROW := hide hrow
      have HBEL := hide hbel
      have HBD := hide hbody
      have HRS := hide hrest
      have hs256 : 256 * (f.stream / 256) + f.stream % 256 = f.stream := by omega
      have hbbv : bb < wv.heap.size := Nat.lt_of_lt_of_le h2 hbel.size
      generalize f.kind = kk at *
      generalize f.flags = ff at *
      generalize f.stream = ss at *
      have HTM := hide hTm
      have HLR : Hid ((layFs r).length = m) := hm.symm
      have HLB : Hid (f.body.length = n) := hn.symm
      have HLEN := hide hlen
      clear hfs hrow hbod hbel hw0 h4 hbody hrest hll hlen hm hn hTm hT
      go_upto_region 3 with fail
      go_quiet (fail)
      go_upto_region 6 with fail
      obtain ⟨w3, hw3⟩ : ∃ w3, w3 = wv.drewN nq := ⟨_, rfl⟩
      rw [← hw3]
      have hb3 : Below w.heap.size w w3 := by rw [hw3]; exact HBEL.out.trans (Below.mono (bel_drewN (Below.refl _ _)) HBEL.out.size)
      have hr3 : w3.ownsRow w.heap.size 105 4 (.slice sl ps.length cl) ps.length (ps.flatMap spC) := by rw [hw3]; exact owns_chg HROW.out (Chg.of_below (S := fun _ => False) (bel_drewN (Below.refl _ _))) (fun _ _ => id)
      have p2 : w3.cell? ⟨bb, off + 2, none⟩ = some (.int .u8 kk) := by rw [hw3]; exact q2
      have p3 : w3.cell? ⟨bb, off + 3, none⟩ = some (.int .u8 ff) := by rw [hw3]; exact q3
      have p4 : w3.cell? ⟨bb, off + 4, none⟩ = some (.int .u8 (ss / 256)) := by rw [hw3]; exact q4
      have p5 : w3.cell? ⟨bb, off + 5, none⟩ = some (.int .u8 (ss % 256)) := by rw [hw3]; exact q5
      have hbb3 : bb < w3.heap.size := by rw [hw3]; exact hbbv
      have HRA : Hid (∀ o, (w3.alloc o).drew.ownsRow 0 105 4 (.slice sl ps.length cl) ps.length (ps.flatMap spC)) := fun o => owns_base (owns_chg hr3 (((Chg.refl (fun _ => False) w3).alloc o).drew) (fun _ _ => id)) (fun _ _ => Nat.zero_le _)
      have HAPP : Hid (∀ (o : Obj) (v4 : Value) (w4 : World) (xs : List Value), w4.ownsRow 0 105 4 v4 (ps.length + 1) xs → (w3.alloc o).drew.grownBy w4 (Value.slice sl ps.length cl).ownBlock → (v4.ownBlock = (Value.slice sl ps.length cl).ownBlock ∨ v4.ownBlock = some (w3.alloc o).drew.heap.size) → Below w.heap.size w w4 ∧ w4.ownsRow w.heap.size 105 4 v4 (ps.length + 1) xs ∧ w4.cell? ⟨bb, off + 2, none⟩ = some (.int .u8 kk) ∧ w4.cell? ⟨bb, off + 3, none⟩ = some (.int .u8 ff) ∧ w4.cell? ⟨bb, off + 4, none⟩ = some (.int .u8 (ss / 256)) ∧ w4.cell? ⟨bb, off + 5, none⟩ = some (.int .u8 (ss % 256))) := fun o v4 w4 xs ho hg hfr => by
        have hb3a : Below w.heap.size w (w3.alloc o).drew := by
          have := hb3.alloc hb3.size o
          exact ⟨this.os, this.tape, this.output, this.size, this.block⟩
        have hb4 : Below w.heap.size w w4 := below_of_chg hb3a (Chg.of_grown (S := fun j => (Value.slice sl ps.length cl).ownBlock = some j) hg (fun j hj => hj)) (fun j hj => (hr3.lt j hj).1)
        have hcell : ∀ x u, w3.cell? ⟨bb, x, none⟩ = some u → w4.cell? ⟨bb, x, none⟩ = some u := fun x u hx => by
          rw [Below.cell hb4 (p := ⟨bb, x, none⟩) h2, ← Below.cell hb3 (p := ⟨bb, x, none⟩) h2]
          exact hx
        refine ⟨hb4, owns_base ho (fun j hj => ?_), hcell _ _ p2, hcell _ _ p3, hcell _ _ p4, hcell _ _ p5⟩
        rcases hfr with e | e
        · rw [e] at hj; exact (hr3.lt j hj).1
        · rw [e] at hj
          simp only [Option.some.injEq] at hj
          have := hb3a.size
          omega
      clear hw3 q0 q1 q2 q3 q4 q5 hr3 hb3 HROW HBEL
      have wr1 : IntKind.i64.wrap (6 + (n : Int)) = 6 + n := by rw [IntKind.wrap_i64]; omega
      have wr2 : IntKind.i64.wrap kk = kk := by rw [IntKind.wrap_i64]; omega
      have wr3 : IntKind.i64.wrap ff = ff := by rw [IntKind.wrap_i64]; omega
      have wr4 : IntKind.i64.wrap (ss / 256) = ss / 256 := by rw [IntKind.wrap_i64]; omega
      have wr5 : IntKind.i64.wrap (256 * (ss / 256)) = 256 * (ss / 256) := by rw [IntKind.wrap_i64]; omega
      have wr6 : IntKind.i64.wrap (ss % 256) = ss % 256 := by rw [IntKind.wrap_i64]; omega
      have wr7 : IntKind.i64.wrap (256 * (ss / 256) + ss % 256) = ss := by rw [IntKind.wrap_i64]; omega
      have wr8 : IntKind.i64.wrap ss = ss := by rw [IntKind.wrap_i64]; omega
      have mx1 : max (6 + (n : Int)) 0 = 6 + n := by omega
      have ge1 : (0 : Int) ≤ 6 + (n : Int) := by omega
      have ge2 : (6 : Int) ≤ 6 + (n : Int) := by omega
      have tn1 : (6 + (n : Int)).toNat = 6 + n := by omega
      have hc6 : 6 + n + m ≤ cap' := by have := HLEN.out; omega
      by_cases hcc : cap' = 6
      · exact absurd hcc (by omega)
      · have hcc' : ¬ 6 = cap' := fun e => hcc e.symm
        go_cut [4] (fun s4 wx => ∃ v, s4 = v ∧ Below w.heap.size w wx ∧ wx.ownsRow w.heap.size 105 4 v (ps.length + 1) (ps.flatMap spC ++ [.int .i64 kk, .int .i64 ff, .int .i64 ss, .slice (some ⟨bb, off + 6, none⟩) n (cap' - 6)]))
        case first =>
          go_region_held3 (fun w' => w'.cell? ⟨bb, off + 2, none⟩ = some (.int .u8 kk) ∧ w'.cell? ⟨bb, off + 3, none⟩ = some (.int .u8 ff) ∧ w'.cell? ⟨bb, off + 4, none⟩ = some (.int .u8 (ss / 256)) ∧ w'.cell? ⟨bb, off + 5, none⟩ = some (.int .u8 (ss % 256))) (go_keep)
            (first
              | (refine step_appd rfl (.tmp 25) (.tmp 49) 90 rfl 105 i0 (.agg #[.int .i64 0, .int .i64 0, .int .i64 0, .slice none 0 0]) 4 48 Tryz.underlying90 hi hz0 hz1 hz2 rfl (by decide) (.slice sl ps.length cl) ps.length (ps.flatMap spC) (by simp [Act.eval, Act.put]) (HRA.out _) (.slice (some ⟨w3.heap.size, 0, none⟩) 1 1) 1 [.int .i64 kk, .int .i64 ff, .int .i64 ss, .slice (some ⟨bb, off + 6, none⟩) n (cap' - 6)] (by simp [Act.eval, Act.put]) rfl (Or.inr ⟨_, _, rfl, fun j u hu => lies_row (w := w3) (xs := [.int .i64 kk, .int .i64 ff, .int .i64 ss, .slice (some ⟨bb, off + 6, none⟩) n (cap' - 6)]) (t := 105) j u hu⟩) (by intro u hu; simp only [List.mem_cons, List.not_mem_nil, or_false] at hu; rcases hu with rfl | rfl | rfl | rfl <;> rfl) (by unfold maxLen; omega) (by omega) ?_; intro v4 w4 ho4 hg4 hfr4; obtain ⟨s4, c4, hv4⟩ := slice_len ho4; subst hv4; obtain ⟨hb4, hr4, x2, x3, x4, x5⟩ := HAPP.out _ _ w4 _ ho4 hg4 hfr4; clear ho4 hg4 hfr4))
          all_goals (go_wp2_with fail; go_meet; exact ⟨_, rfl, hb4, hr4⟩)
        case rest =>
          obtain ⟨v, rfl, hbx, hrx⟩ := hcut
          obtain ⟨w5, hw5⟩ : ∃ w5, w5 = wc := ⟨wc, rfl⟩
          subst hw5
          obtain ⟨sx, cx, hsx⟩ := slice_len hrx
          subst hsx
          have HBX := hide hbx
          have HRX := hide hrx
          clear hbx hrx
          by_cases hc7 : cap' = 6 + n
          · have HM0 : Hid (m = 0) := by have := HLEN.out; show m = 0; omega
            have hc7' : ¬ (cap' ≠ 6 + n) := fun h => h hc7
            have HC7 := hide hc7
            have hTe : T = 6 + n := by have := HLEN.out; have := HM0.out; omega
            clear hc7'
            subst hTe
            subst hc7
            go_wp2
            all_goals go_roundw
            case rel =>
              have e0 := HM0.out
              subst e0
              exact HNEXT.out w5 _ (.slice (some ⟨bb, off + 6, none⟩) n (6 + n - 6)) (some ⟨bb, off, none⟩) 0 HRX.out (HBD.out _ (by omega)) (Or.inr ⟨bb, off, 0, by rw [HLR.out], h2, by rw [HLR.out]; exact Nat.le_refl _, fun i hi => by rw [HLR.out] at hi; omega⟩) HBX.out
            case measure => simp [lenV]; omega
          · have hc7' : ¬ 6 + n = cap' := fun e => hc7 e.symm
            go_wp2
            all_goals go_roundw
            case rel =>
              have := HNEXT.out w5 _ (.slice (some ⟨bb, off + 6, none⟩) n (cap' - 6)) (some ⟨bb, off + (6 + n), none⟩) (cap' - (6 + n)) HRX.out (HBD.out _ (by omega)) (HRS.out _ (by omega)) HBX.out
              rw [← HTM.out] at this
              exact this
            case measure => simp [lenV]; omega
end Go.Proofs.YtiphkngfbpdeoaaGreatDoor
namespace Go.Proofs.YtiphkngfbpdeoaaGreatDoor
set_option linter.unusedVariables false
set_option linter.unusedSimpArgs false
open Go.RowKit
def crOf (f : Fr) : Int := if f.kind = 6 ∧ f.stream = 0 ∧ f.body.length = 4 then num4 f.body else 0
def rsOf (s : Int) (f : Fr) : Int := if f.stream = s ∧ f.kind = 2 then 1 else 0
def crSum (fs : List Fr) : Int := (fs.map crOf).sum
def rsSum (s : Int) (fs : List Fr) : Int := (fs.map (rsOf s)).sum
theorem num4_le (l : List UInt8) : 0 ≤ num4 l ∧ num4 l ≤ 4294967295 := by
  match l with
  | [] => simp [num4]
  | [_] => simp [num4]
  | [_, _] => simp [num4]
  | [_, _, _] => simp [num4]
  | a :: b :: c :: d :: r =>
    have h0 := a.toNat_lt
    have h1 := b.toNat_lt
    have h2 := c.toNat_lt
    have h3 := d.toNat_lt
    simp only [num4, be4]
    omega
set_option maxHeartbeats 800000 in
theorem kvalue_any (g off n cap : Nat) (x0 x1 x2 x3 : UInt8) (w : World) (hn : 4 ≤ n)
    (c0 : w.cell? ⟨g, off, none⟩ = some (.int .u8 x0.toNat)) (c1 : w.cell? ⟨g, off + 1, none⟩ = some (.int .u8 x1.toNat)) (c2 : w.cell? ⟨g, off + 2, none⟩ = some (.int .u8 x2.toNat))
    (c3 : w.cell? ⟨g, off + 3, none⟩ = some (.int .u8 x3.toNat)) :
    Calls Tryz.prog 31 #[.slice (some ⟨g, off, none⟩) n cap] w fun e w' => e = .returned (.int .i64 (be4 x0 x1 x2 x3)) ∧ ∃ k, w' = w.drewN k := by
  have h0 : x0.toNat < 256 := x0.toNat_lt
  have h1 : x1.toNat < 256 := x1.toNat_lt
  have h2 : x2.toNat < 256 := x2.toNat_lt
  have h3 : x3.toNat < 256 := x3.toNat_lt
  go_enter Tryz.func31, Tryz.ntmps31
  go_wp2
  go_quiet (fail)
  go_wp2
  go_ret
  exact ⟨rfl, _, rfl⟩
theorem kvalue_of {w : World} {bv : Value} {b : List UInt8} (h : BytesIn w bv b) (h4 : b.length = 4) : Calls Tryz.prog 31 #[bv] w fun e w' => e = .returned (.int .i64 (num4 b)) ∧ Below w.heap.size w w' := by
  match b, h4 with
  | [x0, x1, x2, x3], _ =>
    rcases h with ⟨-, h⟩ | ⟨bb, off, cap, rfl, h2, h3, h5⟩
    · cases h
    · have c0 := h5 0 (by simp)
      have c1 := h5 1 (by simp)
      have c2 := h5 2 (by simp)
      have c3 := h5 3 (by simp)
      rw [Nat.add_zero] at c0
      refine (kvalue_any bb off 4 cap x0 x1 x2 x3 w (Nat.le_refl _) c0 c1 c2 c3).mono ?_
      rintro e w' ⟨rfl, k, rfl⟩
      exact ⟨rfl, bel_drewN (Below.refl _ _)⟩
theorem crSum_take {fs : List Fr} {i : Nat} (h : i < fs.length) : crSum (fs.take (i + 1)) = crSum (fs.take i) + crOf fs[i] := by
  unfold crSum
  rw [List.take_succ_eq_append_getElem h, List.map_append, List.sum_append]
  simp
theorem rsSum_take {s : Int} {fs : List Fr} {i : Nat} (h : i < fs.length) : rsSum s (fs.take (i + 1)) = rsSum s (fs.take i) + rsOf s fs[i] := by
  unfold rsSum
  rw [List.take_succ_eq_append_getElem h, List.map_append, List.sum_append]
  simp
theorem crSum_le (fs : List Fr) : 0 ≤ crSum fs ∧ crSum fs ≤ 4294967295 * fs.length := by
  induction fs with
  | nil => simp [crSum]
  | cons f r ih =>
    have e : crSum (f :: r) = crOf f + crSum r := by simp [crSum]
    have h1 : 0 ≤ crOf f ∧ crOf f ≤ 4294967295 := by
      unfold crOf
      split
      · exact num4_le _
      · omega
    rw [e, List.length_cons]
    omega
theorem rsSum_le (s : Int) (fs : List Fr) : 0 ≤ rsSum s fs ∧ rsSum s fs ≤ fs.length := by
  induction fs with
  | nil => simp [rsSum]
  | cons f r ih =>
    have e : rsSum s (f :: r) = rsOf s f + rsSum s r := by simp [rsSum]
    have h1 : 0 ≤ rsOf s f ∧ rsOf s f ≤ 1 := by
      unfold rsOf
      split <;> omega
    rw [e, List.length_cons]
    omega
end Go.Proofs.YtiphkngfbpdeoaaGreatDoor
namespace Go.Proofs.YtiphkngfbpdeoaaGreatDoor
set_option linter.unusedVariables false
set_option linter.unusedSimpArgs false
open Go.RowKit
theorem cutN_all {n : Nat} (h : n ≤ 1073741824) : cutN 1099511627776 n = n := by unfold cutN; omega
theorem spC_get : ∀ {ps : List (Fr × Value)} {i j : Nat} (h : i < ps.length), j < 4 → (ps.flatMap spC)[i * 4 + j]? = (spC ps[i])[j]?
  | p :: r, 0, j, _, hj => by
    rw [List.flatMap_cons, List.getElem?_append_left (by simp [spC]; omega)]
    simp
  | p :: r, i + 1, j, h, hj => by
    have hl : (spC p).length = 4 := rfl
    rw [List.flatMap_cons, List.getElem?_append_right (by rw [hl]; omega), hl, show (i + 1) * 4 + j - 4 = i * 4 + j by omega]
    exact spC_get (by simpa using h) hj
theorem SplitS.at {w w' w2 : World} {fs : List Fr} {v : Value} {ps : List (Fr × Value)} (h : SplitS w w' fs v ps) (hb : Below w'.heap.size w' w2) {i : Nat} (hi : i < fs.length) : ∃ g c bv, v = .slice (some ⟨g, 0, none⟩) fs.length c ∧ fs.length ≤ c ∧ w2.cell? ⟨g, i * 4, none⟩ = some (.int .i64 fs[i].kind) ∧ w2.cell? ⟨g, i * 4 + 1, none⟩ = some (.int .i64 fs[i].flags) ∧ w2.cell? ⟨g, i * 4 + 2, none⟩ = some (.int .i64 fs[i].stream) ∧ w2.cell? ⟨g, i * 4 + 3, none⟩ = some bv ∧ BytesIn w2 bv fs[i].body ∧ g < w2.heap.size := by
  have hlen : ps.length = fs.length := by rw [← h.fst, List.length_map]
  have hip : i < ps.length := by omega
  have hr := h.row
  have hfi : ps[i].1 = fs[i] := by
    have := h.fst
    subst this
    simp
  rcases hr.2 with ⟨-, h0⟩ | ⟨g, cap, cur, h1, h2, h3, h4, h5, h6, h7⟩
  · omega
  · have hl := lt_of_block h3
    have hblk : w2.heap[g]? = some (.cells cur 105 (0, 0)) := by rw [hb.block g hl]; exact h3
    have hc : ∀ j, j < 4 → w2.cell? ⟨g, i * 4 + j, none⟩ = (spC ps[i])[j]? := fun j hj => by
      rw [cell_of_row _ _ _ _ _ _ hblk, ← spC_get hip hj, ← h7, List.getElem?_take, if_pos (by omega), Array.getElem?_toList]
    have q0 := hc 0 (by omega)
    rw [Nat.add_zero] at q0
    refine ⟨g, cap, ps[i].2, by rw [h1, hlen], by omega, ?_, ?_, ?_, ?_, ?_, Nat.lt_of_lt_of_le hl hb.size⟩
    · rw [q0, ← hfi]; rfl
    · rw [hc 1 (by omega), ← hfi]; rfl
    · rw [hc 2 (by omega), ← hfi]; rfl
    · rw [hc 3 (by omega)]; rfl
    · rw [← hfi]
      exact (h.body ps[i] (List.getElem_mem hip)).chg (Chg.of_below (S := fun _ => False) (h.bel.trans (hb.mono h.bel.size))) (fun _ _ => id)
set_option maxRecDepth 100000 in
set_option maxHeartbeats 1600000 in
theorem kgiven_any (eb : Nat) (F : Nat → Prop) (p p' : GEnd) (s : Int) (fs : List Fr) (w : World) (h : StE w eb F p) (hf : Fine p) (hg : p.got = []) (hg' : p'.got = []) (hl : p.m.fault = 0) (hr : Runs 1099511627776 p p') (hout : p'.out = layFs fs) (hfit : ∀ f ∈ fs, FrFits f ∧ 1 ≤ f.body.length) (hno : ∀ f ∈ fs, ¬ (f.stream = s ∧ (f.kind = 0 ∨ f.kind = 6))) (hlen : fs.length ≤ 1000) (hol : p'.out.length ≤ 1073741824) :
    Calls Tryz.prog 11 #[.pointer (some ⟨eb, 0, none⟩), .int .i64 s] w fun e w' => e = .returned (.tuple #[.int .i64 (crSum fs), .int .i64 (rsSum s fs)]) ∧ GoE w w' eb F { p' with out := [] } := by
  have ht := c_take (n := 1099511627776) h hf hg hg' hl hr hol
  rw [cutN_all hol, List.take_of_length_le (Nat.le_refl _), List.drop_of_length_le (Nat.le_refl _), hout] at ht
  have HT := hide ht
  have HSP : Hid (∀ w1 sv, BytesIn w1 (.slice sv (layFs fs).length (layFs fs).length) (layFs fs) → Calls Tryz.prog 30 #[.slice sv (layFs fs).length (layFs fs).length] w1 fun e w' => ∃ v ps, e = .returned (.tuple #[v, .bool true]) ∧ SplitS w1 w' fs v ps) := fun w1 sv hb => ksplit_any sv _ fs w1 hfit (by omega) hb
  have HNO := hide hno
  have HEND : Hid (∀ w1 w2, GoE w w1 eb F { p' with out := [] } → Below w1.heap.size w1 w2 → GoE w w2 eb F { p' with out := [] }) := fun w1 w2 hgo hb => by
    obtain ⟨F', h1, h2, h3⟩ := hgo
    exact ⟨F', h1.below hb, h2.then_below hb, h3⟩
  clear h hf hg hg' hl hr hout hfit hno ht hol
  go_enter Tryz.func11, Tryz.ntmps11
  go_wp2_with fail
  refine HT.out.mono ?_
  rintro e w1 ⟨⟨sv, rfl, hby⟩, hgo⟩
  have HS1 := hide (HSP.out w1 sv hby)
  have HGO := hide hgo
  clear hby hgo
  generalize (layFs fs).length = LL at *
  go_wp2_with fail
  refine HS1.out.mono ?_
  rintro e w2 ⟨v, ps, rfl, hsp⟩
  obtain ⟨vs, vc, hvs⟩ := slice_len hsp.row
  have hpl : ps.length = fs.length := by rw [← hsp.fst, List.length_map]
  subst hvs
  rw [hpl]
  have HSPL := hide hsp
  clear hsp hpl
  go_wp2
  go_loopw [9, 10, 11] (fun c r i wr => ∃ (k : Nat) (wv : World), wv = wr ∧ i = .int .i64 (k : Int) ∧ c = .int .i64 (crSum (fs.take k)) ∧ r = .int .i64 (rsSum s (fs.take k)) ∧ k ≤ fs.length ∧ Below w2.heap.size w2 wv) (fun _ _ i _ => fs.length - (intOf i).toNat)
  case atStart => exact ⟨0, _, rfl, rfl, by simp [crSum], by simp [rsSum], Nat.zero_le _, Below.refl _ _⟩
  case round =>
    obtain ⟨k, wv, hwv, rfl, rfl, rfl, hk, hbel⟩ := hrel
    subst hwv
    by_cases hlk : k < fs.length
    · obtain ⟨gg, cc, bv, e1, e2, q0, q1, q2, q3, hbb, hgl⟩ := HSPL.out.at hbel hlk
      have hlen2 : ps.length = fs.length := by rw [← HSPL.out.fst, List.length_map]
      rw [hlen2] at e1
      simp only [Value.slice.injEq, true_and] at e1
      obtain ⟨rfl, rfl⟩ := e1
      have hn0 := HNO.out fs[k] (List.getElem_mem hlk)
      have hct := crSum_take hlk
      have hrt := rsSum_take (s := s) hlk
      have hcl := crSum_le (fs.take k)
      have hrl := rsSum_le s (fs.take k)
      have htl : (fs.take k).length ≤ 1000 := by rw [List.length_take]; omega
      generalize fs[k] = f at *
      generalize crSum (fs.take k) = C at *
      generalize rsSum s (fs.take k) = R at *
      generalize (fs.take k).length = TL at *
      obtain ⟨sb, cb, hbv, -⟩ := bytesIn_len hbb
      subst hbv
      have HBB := hide hbb
      have HCT := hide hct
      have HRT := hide hrt
      have HB := hide hbel
      obtain ⟨hc0, hc1⟩ := hcl
      obtain ⟨hr0, hr1⟩ := hrl
      have hcb : C ≤ 4294967295000 := by omega
      have hrb : R ≤ 1000 := by omega
      have hkI : (0 : Int) ≤ (k : Int) := by omega
      have hkL : (k : Int) < (fs.length : Int) := by omega
      have hwr : IntKind.i64.wrap (R + 1) = R + 1 := by rw [IntKind.wrap_i64]; omega
      clear hbb hct hrt hbel hc1 hr1 htl
      by_cases hs : f.stream = s
      · have hsb : (f.stream == s) = true := by simp [hs]
        have hk0 : (f.kind == 0) = false := by rw [beq_eq_false_iff_ne]; exact fun e => hn0 ⟨hs, Or.inl e⟩
        have hk6 : (f.kind == 6) = false := by rw [beq_eq_false_iff_ne]; exact fun e => hn0 ⟨hs, Or.inr e⟩
        have HCR : Hid (crOf f = 0) := by
          have : f.kind ≠ 6 := by simpa using hk6
          show crOf f = 0
          unfold crOf
          rw [if_neg (fun e => this e.1)]
        by_cases hk2 : f.kind = 2
        · have hk2b : (f.kind == 2) = true := by simp [hk2]
          have HRR : Hid (rsOf s f = 1) := by
            show rsOf s f = 1
            unfold rsOf
            rw [if_pos ⟨hs, hk2⟩]
          generalize f.kind = fk at *
          generalize f.stream = fst at *
          generalize f.flags = ffl at *
          generalize f.body.length = fbl at *
          clear hn0 hs hk2
          go_wp2
          all_goals go_roundw
          case rel => exact ⟨k + 1, _, rfl, by go_num, by rw [HCT.out, HCR.out]; simp, by rw [HRT.out, HRR.out], by omega, HB.out.trans (((Below.refl _ _).alloc (Nat.le_refl _) _).mono HB.out.size)⟩
          case measure => simp [intOf]; omega
        · have hk2b : (f.kind == 2) = false := by rw [beq_eq_false_iff_ne]; exact hk2
          have HRR : Hid (rsOf s f = 0) := by
            show rsOf s f = 0
            unfold rsOf
            rw [if_neg (fun e => hk2 e.2)]
          generalize f.kind = fk at *
          generalize f.stream = fst at *
          generalize f.flags = ffl at *
          generalize f.body.length = fbl at *
          clear hn0 hs hk2
          go_wp2
          all_goals go_roundw
          case rel => exact ⟨k + 1, _, rfl, by go_num, by rw [HCT.out, HCR.out]; simp, by rw [HRT.out, HRR.out]; simp, by omega, HB.out.trans (((Below.refl _ _).alloc (Nat.le_refl _) _).mono HB.out.size)⟩
          case measure => simp [intOf]; omega
      · have hsb : (f.stream == s) = false := by rw [beq_eq_false_iff_ne]; exact hs
        have HRR : Hid (rsOf s f = 0) := by
          show rsOf s f = 0
          unfold rsOf
          rw [if_neg (fun e => hs e.1)]
        by_cases h6 : f.kind = 6 ∧ f.stream = 0 ∧ f.body.length = 4
        · obtain ⟨hk6, hz, h4⟩ := h6
          have hk6b : (f.kind == 6) = true := by simp [hk6]
          have hzb : (f.stream == 0) = true := by simp [hz]
          have h4b : ((f.body.length : Int) == 4) = true := by rw [h4]; rfl
          have HCR : Hid (crOf f = num4 f.body) := by
            show crOf f = _
            unfold crOf
            rw [if_pos ⟨hk6, hz, h4⟩]
          have HV : Hid (∀ o, Calls Tryz.prog 31 #[.slice sb f.body.length cb] (wv.alloc o) fun e w' => e = .returned (.int .i64 (num4 f.body)) ∧ Below (wv.alloc o).heap.size (wv.alloc o) w') := fun o => kvalue_of (HBB.out.chg (Chg.of_below (S := fun _ => False) ((Below.refl _ _).alloc (Nat.le_refl _) _)) (fun _ _ => id)) h4
          have hnl := num4_le f.body
          obtain ⟨hn1, hn2⟩ := hnl
          have hwc : IntKind.i64.wrap (C + num4 f.body) = C + num4 f.body := by rw [IntKind.wrap_i64]; omega
          generalize num4 f.body = NV at *
          generalize f.kind = fk at *
          generalize f.stream = fst at *
          generalize f.flags = ffl at *
          generalize f.body.length = fbl at *
          clear hn0 hs hk6 hz h4
          go_wp2_with fail
          refine (HV.out _).mono ?_
          rintro e w5 ⟨rfl, hb5⟩
          have HB5 := hide hb5
          clear hb5
          go_wp2
          all_goals go_roundw
          case rel => exact ⟨k + 1, _, rfl, by go_num, by rw [HCT.out, HCR.out], by rw [HRT.out, HRR.out]; simp, by omega, HB.out.trans ((((Below.refl _ _).alloc (Nat.le_refl _) _).trans (HB5.out.mono (by simp))).mono HB.out.size)⟩
          case measure => simp [intOf]; omega
        · have HCR : Hid (crOf f = 0) := by
            show crOf f = 0
            unfold crOf
            rw [if_neg h6]
          have hcases : (f.kind == 6) = false ∨ ((f.kind == 6) = true ∧ (f.stream == 0) = false) ∨ ((f.kind == 6) = true ∧ (f.stream == 0) = true ∧ ((f.body.length : Int) == 4) = false) := by
            by_cases a : f.kind = 6
            · by_cases b : f.stream = 0
              · refine Or.inr (Or.inr ⟨by simp [a], by simp [b], ?_⟩)
                rw [beq_eq_false_iff_ne]
                intro e
                exact h6 ⟨a, b, by omega⟩
              · exact Or.inr (Or.inl ⟨by simp [a], by rw [beq_eq_false_iff_ne]; exact b⟩)
            · exact Or.inl (by rw [beq_eq_false_iff_ne]; exact a)
          generalize f.kind = fk at *
          generalize f.stream = fst at *
          generalize f.flags = ffl at *
          generalize f.body.length = fbl at *
          clear hn0 hs h6
          rcases hcases with ha | ⟨ha, hb⟩ | ⟨ha, hb, hc⟩
          all_goals go_wp2
          all_goals go_roundw
          case' rel => exact ⟨k + 1, _, rfl, by go_num, by rw [HCT.out, HCR.out]; simp, by rw [HRT.out, HRR.out]; simp, by omega, HB.out.trans (((Below.refl _ _).alloc (Nat.le_refl _) _).mono HB.out.size)⟩
          all_goals first
            | exact ⟨k + 1, _, rfl, by go_num, by rw [HCT.out, HCR.out]; simp, by rw [HRT.out, HRR.out]; simp, by omega, HB.out.trans (((Below.refl _ _).alloc (Nat.le_refl _) _).mono HB.out.size)⟩
            | (simp [intOf]; omega)
    · have hke : k = fs.length := by omega
      have HB := hide hbel
      have HTK : Hid (fs.take k = fs) := by show fs.take k = fs; rw [hke, List.take_of_length_le (Nat.le_refl _)]
      clear hbel hke
      go_wp2
      go_ret2
      rw [HTK.out]
      exact ⟨rfl, HEND.out w1 wv HGO.out (HSPL.out.bel.trans (HB.out.mono HSPL.out.bel.size))⟩
end Go.Proofs.YtiphkngfbpdeoaaGreatDoor
namespace Go.Proofs.YtiphkngfbpdeoaaGreatDoor
set_option linter.unusedVariables false
set_option linter.unusedSimpArgs false
open Go.RowKit
set_option maxRecDepth 100000 in
set_option maxHeartbeats 800000 in
theorem kgone_true (eb : Nat) (F : Nat → Prop) (p : GEnd) (s : GSt) (w : World) (h : StE w eb F p) (hs : s ∈ p.K) (hr : s.st.reset ≠ 0) (hl : p.m.fault = 0) :
    Calls Tryz.prog 12 #[.pointer (some ⟨eb, 0, none⟩), .int .i64 s.st.number] w fun e w' => e = .returned (.bool true) ∧ Below w.heap.size w w' := by
  have kc : ∀ (w : World) (C : Array Value) (n c : Nat), (convert 38 38 (.slice (some ⟨w.heap.size, 0, none⟩) n c)).run Tryz.prog (w.alloc (.cells C 5)) = .ok (.slice (some ⟨w.heap.size, 0, none⟩) n c) (w.alloc (.cells C 5 (C.size, C.size + 1))) := fun w C n c => Lib.run_convert_bytes_const (P := Tryz.prog) w 38 5 C n c Tryz.underlying38 Tryz.underlying5
  have HR := hide (c_read_reset (n := 1099511627776) h hs hr (by omega))
  have HW : Hid (∀ wx bv, Below w.heap.size w wx → Calls Tryz.prog 21 #[.pointer (some ⟨eb, 0, none⟩), .int .i64 s.st.number, bv] wx fun e w' => e = .returned (.tuple #[.int .i64 0, .int .i64 6]) ∧ w' = wx) := fun wx bv hb => c_write_reset (h.below hb) hs hr hl
  have HC : Hid (∀ wx, Below w.heap.size w wx → Calls Tryz.prog 32 #[.pointer (some ⟨eb, 0, none⟩), .int .i64 s.st.number] wx fun e w' => e = .returned (.int .i64 6) ∧ w' = wx) := fun wx hb => c_close_reset (h.below hb) hs hr hl
  have HX : Hid (∀ wx, Below w.heap.size w wx → Calls Tryz.prog 22 #[.pointer (some ⟨eb, 0, none⟩), .int .i64 s.st.number] wx fun e w' => e = .returned (.int .i64 6) ∧ w' = wx) := fun wx hb => c_reset_reset (h.below hb) hs hr hl
  have hbA : ∀ o, Below w.heap.size w (w.alloc o) := fun o => (Below.refl _ _).alloc (Nat.le_refl _) _
  have HBA := hide hbA
  clear h hs hr hl hbA
  generalize s.st.number = n at *
  go_enter Tryz.func12, Tryz.ntmps12
  go_wp2_with fail
  refine HR.out.mono ?_
  rintro e w' ⟨rfl, hw'⟩
  rw [hw']
  clear hw' w'
  go_wp2_with fail
  refine (HW.out _ _ (HBA.out _)).mono ?_
  rintro e w' ⟨rfl, hw'⟩
  rw [hw']
  clear hw' w'
  go_wp2_with fail
  refine (HC.out _ (HBA.out _)).mono ?_
  rintro e w' ⟨rfl, hw'⟩
  rw [hw']
  clear hw' w'
  go_wp2_with fail
  refine (HX.out _ (HBA.out _)).mono ?_
  rintro e w' ⟨rfl, hw'⟩
  rw [hw']
  clear hw' w'
  go_wp2
  go_ret
  exact ⟨rfl, HBA.out _⟩
end Go.Proofs.YtiphkngfbpdeoaaGreatDoor
