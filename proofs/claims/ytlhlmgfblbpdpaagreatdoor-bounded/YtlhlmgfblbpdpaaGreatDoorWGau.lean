import Derived.Test.YtlhlmgfblbpdpaaGreatDoorWGar
import Derived.Test.YtlhlmgfblbpdpaaGreatDoorWEnBlock2
import Derived.Test.YtlhlmgfblbpdpaaGreatDoorWGap
import Derived.Test.YtlhlmgfblbpdpaaGreatDoorWGaq
import Derived.Test.YtlhlmgfblbpdpaaGreatDoorWGag
import Derived.Test.YtlhlmgfblbpdpaaGreatDoorWGaj
set_option linter.unusedVariables false
set_option linter.unusedSimpArgs false
/-
  Package ends: what bytes do that are a fault.
-/
namespace Go.Proofs.YtlhlmgfblbpdpaaGreatDoor
set_option linter.unusedVariables false
set_option linter.unusedSimpArgs false
open Go.RowKit

/-- The value of a fault's panic. -/
def faultP (code : Int) : List PanicEntry := [{ v := .iface 41 (.int .i64 code), recovered := false }]
/-- A frame that is a fault. -/
def ComeF (p : GEnd) (z1 : Fr) (z2 : Int) : Prop := ∀ Z : Fr → Int → Prop, (∀ (fl : Int) (s : GSt) (b : List UInt8) (hs : s ∈ p.K) (hp : hasB fl 8 = false) (ha : s.st.announced = true) (hr : s.st.hasAll = true ∨ s.st.reset = 2) (hb : p.m.bstream = 0) (hg : p.m.begun = true), Z ⟨0, fl, s.st.number, b⟩ 11) → (∀ (fl n : Int) (b : List UInt8) (hn : ∀ s ∈ p.K, s.st.number ≠ n) (hp : hasB fl 8 = false) (hb : p.m.bstream = 0) (hg : p.m.begun = true), Z ⟨0, fl, n, b⟩ 11) → (∀ (fl : Int) (s : GSt) (b : List UInt8) (hs : s ∈ p.K) (hp : hasB fl 8 = false) (ha : s.st.announced = true) (hh : s.st.hasAll = false) (hr : s.st.reset = 0) (hl : 1 ≤ (b.length : Int) ∧ p.m.receive < (b.length : Int)) (hb : p.m.bstream = 0) (hg : p.m.begun = true), Z ⟨0, fl, s.st.number, b⟩ 12) → (∀ (fl : Int) (s : GSt) (b : List UInt8) (hs : s ∈ p.K) (ha : s.st.announced = true) (hh : s.st.hasAll = false) (hr : s.st.reset = 0) (h1 : 1 ≤ (b.length : Int)) (hl : p.m.receive < (b.length : Int) ∨ p.m.own + s.st.receive < (b.length : Int)) (b4 : -1099511627776 ≤ p.m.own ∧ p.m.own ≤ 1099511627776) (b5 : -1099511627776 ≤ s.st.receive ∧ s.st.receive ≤ 1099511627776) (hb : p.m.bstream = 0) (hg : p.m.begun = true), Z ⟨0, fl, s.st.number, b⟩ 12) → (∀ (fl n : Int) (b : List UInt8) (hop : p.m.opensN n = false) (hnw : n ≤ p.m.newest) (hb : p.m.bstream = 0) (hg : p.m.begun = true), Z ⟨1, fl, n, b⟩ 11) → (∀ (fl : Int) (b : List UInt8) (hf : 0 ≤ fl ∧ fl ≤ 255) (ha : hasB fl 1 = true) (hw : p.m.waits = false) (hb : p.m.bstream = 0) (hg : p.m.begun = true), Z ⟨3, fl, 0, b⟩ 11) → (∀ (fl : Int) (b : List UInt8) (h1 : 2147483647 < p.m.send + num4 b) (h2 : p.m.send ≤ 1099511627776) (h3 : num4 b ≤ 1099511627776) (hb : p.m.bstream = 0) (hg : p.m.begun = true), Z ⟨6, fl, 0, b⟩ 12) → (∀ (fl n : Int) (b : List UInt8) (hn : n ≠ 0) (hb : p.m.bstream = 0) (hg : p.m.begun = true), Z ⟨7, fl, n, b⟩ 11) → (∀ (fl : Int) (b : List UInt8) (hf : 0 ≤ fl ∧ fl ≤ 255) (ha : hasB fl 1 = false) (h8 : 8 ≤ p.ans.length) (hb : p.m.bstream = 0) (hg : p.m.begun = true), Z ⟨4, fl, 0, b⟩ 14) → (∀ (fl n : Int) (hf : 0 ≤ fl ∧ fl ≤ 255) (hla : hasB fl 4 = true) (hop : p.m.opensN n = false) (hnw : p.m.newest < n) (h4 : p.L.length < 4) (hu : p.m.utab = .slice Option.none 0 0) (hb : p.m.bstream = 0) (hg : p.m.begun = true), Z ⟨1, fl, n, [192]⟩ 13) → Z z1 z2
theorem ComeF.gone {p : GEnd} (fl : Int) (s : GSt) (b : List UInt8) (hs : s ∈ p.K) (hp : hasB fl 8 = false) (ha : s.st.announced = true) (hr : s.st.hasAll = true ∨ s.st.reset = 2) (hb : p.m.bstream = 0) (hg : p.m.begun = true) : ComeF p ⟨0, fl, s.st.number, b⟩ 11 := fun Z zk1 zk2 zk3 zk4 zk5 zk6 zk7 zk8 zk9 zk10 => zk1 fl s b hs hp ha hr hb hg
theorem ComeF.none {p : GEnd} (fl n : Int) (b : List UInt8) (hn : ∀ s ∈ p.K, s.st.number ≠ n) (hp : hasB fl 8 = false) (hb : p.m.bstream = 0) (hg : p.m.begun = true) : ComeF p ⟨0, fl, n, b⟩ 11 := fun Z zk1 zk2 zk3 zk4 zk5 zk6 zk7 zk8 zk9 zk10 => zk2 fl n b hn hp hb hg
theorem ComeF.flow {p : GEnd} (fl : Int) (s : GSt) (b : List UInt8) (hs : s ∈ p.K) (hp : hasB fl 8 = false) (ha : s.st.announced = true) (hh : s.st.hasAll = false) (hr : s.st.reset = 0) (hl : 1 ≤ (b.length : Int) ∧ p.m.receive < (b.length : Int)) (hb : p.m.bstream = 0) (hg : p.m.begun = true) : ComeF p ⟨0, fl, s.st.number, b⟩ 12 := fun Z zk1 zk2 zk3 zk4 zk5 zk6 zk7 zk8 zk9 zk10 => zk3 fl s b hs hp ha hh hr hl hb hg
theorem ComeF.flowp {p : GEnd} (fl : Int) (s : GSt) (b : List UInt8) (hs : s ∈ p.K) (ha : s.st.announced = true) (hh : s.st.hasAll = false) (hr : s.st.reset = 0) (h1 : 1 ≤ (b.length : Int)) (hl : p.m.receive < (b.length : Int) ∨ p.m.own + s.st.receive < (b.length : Int)) (b4 : -1099511627776 ≤ p.m.own ∧ p.m.own ≤ 1099511627776) (b5 : -1099511627776 ≤ s.st.receive ∧ s.st.receive ≤ 1099511627776) (hb : p.m.bstream = 0) (hg : p.m.begun = true) : ComeF p ⟨0, fl, s.st.number, b⟩ 12 := fun Z zk1 zk2 zk3 zk4 zk5 zk6 zk7 zk8 zk9 zk10 => zk4 fl s b hs ha hh hr h1 hl b4 b5 hb hg
theorem ComeF.again {p : GEnd} (fl n : Int) (b : List UInt8) (hop : p.m.opensN n = false) (hnw : n ≤ p.m.newest) (hb : p.m.bstream = 0) (hg : p.m.begun = true) : ComeF p ⟨1, fl, n, b⟩ 11 := fun Z zk1 zk2 zk3 zk4 zk5 zk6 zk7 zk8 zk9 zk10 => zk5 fl n b hop hnw hb hg
theorem ComeF.ack {p : GEnd} (fl : Int) (b : List UInt8) (hf : 0 ≤ fl ∧ fl ≤ 255) (ha : hasB fl 1 = true) (hw : p.m.waits = false) (hb : p.m.bstream = 0) (hg : p.m.begun = true) : ComeF p ⟨3, fl, 0, b⟩ 11 := fun Z zk1 zk2 zk3 zk4 zk5 zk6 zk7 zk8 zk9 zk10 => zk6 fl b hf ha hw hb hg
theorem ComeF.credit {p : GEnd} (fl : Int) (b : List UInt8) (h1 : 2147483647 < p.m.send + num4 b) (h2 : p.m.send ≤ 1099511627776) (h3 : num4 b ≤ 1099511627776) (hb : p.m.bstream = 0) (hg : p.m.begun = true) : ComeF p ⟨6, fl, 0, b⟩ 12 := fun Z zk1 zk2 zk3 zk4 zk5 zk6 zk7 zk8 zk9 zk10 => zk7 fl b h1 h2 h3 hb hg
theorem ComeF.cont {p : GEnd} (fl n : Int) (b : List UInt8) (hn : n ≠ 0) (hb : p.m.bstream = 0) (hg : p.m.begun = true) : ComeF p ⟨7, fl, n, b⟩ 11 := fun Z zk1 zk2 zk3 zk4 zk5 zk6 zk7 zk8 zk9 zk10 => zk8 fl n b hn hb hg
theorem ComeF.calm {p : GEnd} (fl : Int) (b : List UInt8) (hf : 0 ≤ fl ∧ fl ≤ 255) (ha : hasB fl 1 = false) (h8 : 8 ≤ p.ans.length) (hb : p.m.bstream = 0) (hg : p.m.begun = true) : ComeF p ⟨4, fl, 0, b⟩ 14 := fun Z zk1 zk2 zk3 zk4 zk5 zk6 zk7 zk8 zk9 zk10 => zk9 fl b hf ha h8 hb hg
theorem ComeF.block {p : GEnd} (fl n : Int) (hf : 0 ≤ fl ∧ fl ≤ 255) (hla : hasB fl 4 = true) (hop : p.m.opensN n = false) (hnw : p.m.newest < n) (h4 : p.L.length < 4) (hu : p.m.utab = .slice Option.none 0 0) (hb : p.m.bstream = 0) (hg : p.m.begun = true) : ComeF p ⟨1, fl, n, [192]⟩ 13 := fun Z zk1 zk2 zk3 zk4 zk5 zk6 zk7 zk8 zk9 zk10 => zk10 fl n hf hla hop hnw h4 hu hb hg
theorem ComeF.ind {p : GEnd} {motive : ∀ (z1 : Fr) (z2 : Int), ComeF p z1 z2 → Prop} (gone : ∀ (fl : Int) (s : GSt) (b : List UInt8) (hs : s ∈ p.K) (hp : hasB fl 8 = false) (ha : s.st.announced = true) (hr : s.st.hasAll = true ∨ s.st.reset = 2) (hb : p.m.bstream = 0) (hg : p.m.begun = true), motive ⟨0, fl, s.st.number, b⟩ 11 (@ComeF.gone p fl s b hs hp ha hr hb hg)) (none : ∀ (fl n : Int) (b : List UInt8) (hn : ∀ s ∈ p.K, s.st.number ≠ n) (hp : hasB fl 8 = false) (hb : p.m.bstream = 0) (hg : p.m.begun = true), motive ⟨0, fl, n, b⟩ 11 (@ComeF.none p fl n b hn hp hb hg)) (flow : ∀ (fl : Int) (s : GSt) (b : List UInt8) (hs : s ∈ p.K) (hp : hasB fl 8 = false) (ha : s.st.announced = true) (hh : s.st.hasAll = false) (hr : s.st.reset = 0) (hl : 1 ≤ (b.length : Int) ∧ p.m.receive < (b.length : Int)) (hb : p.m.bstream = 0) (hg : p.m.begun = true), motive ⟨0, fl, s.st.number, b⟩ 12 (@ComeF.flow p fl s b hs hp ha hh hr hl hb hg)) (flowp : ∀ (fl : Int) (s : GSt) (b : List UInt8) (hs : s ∈ p.K) (ha : s.st.announced = true) (hh : s.st.hasAll = false) (hr : s.st.reset = 0) (h1 : 1 ≤ (b.length : Int)) (hl : p.m.receive < (b.length : Int) ∨ p.m.own + s.st.receive < (b.length : Int)) (b4 : -1099511627776 ≤ p.m.own ∧ p.m.own ≤ 1099511627776) (b5 : -1099511627776 ≤ s.st.receive ∧ s.st.receive ≤ 1099511627776) (hb : p.m.bstream = 0) (hg : p.m.begun = true), motive ⟨0, fl, s.st.number, b⟩ 12 (@ComeF.flowp p fl s b hs ha hh hr h1 hl b4 b5 hb hg)) (again : ∀ (fl n : Int) (b : List UInt8) (hop : p.m.opensN n = false) (hnw : n ≤ p.m.newest) (hb : p.m.bstream = 0) (hg : p.m.begun = true), motive ⟨1, fl, n, b⟩ 11 (@ComeF.again p fl n b hop hnw hb hg)) (ack : ∀ (fl : Int) (b : List UInt8) (hf : 0 ≤ fl ∧ fl ≤ 255) (ha : hasB fl 1 = true) (hw : p.m.waits = false) (hb : p.m.bstream = 0) (hg : p.m.begun = true), motive ⟨3, fl, 0, b⟩ 11 (@ComeF.ack p fl b hf ha hw hb hg)) (credit : ∀ (fl : Int) (b : List UInt8) (h1 : 2147483647 < p.m.send + num4 b) (h2 : p.m.send ≤ 1099511627776) (h3 : num4 b ≤ 1099511627776) (hb : p.m.bstream = 0) (hg : p.m.begun = true), motive ⟨6, fl, 0, b⟩ 12 (@ComeF.credit p fl b h1 h2 h3 hb hg)) (cont : ∀ (fl n : Int) (b : List UInt8) (hn : n ≠ 0) (hb : p.m.bstream = 0) (hg : p.m.begun = true), motive ⟨7, fl, n, b⟩ 11 (@ComeF.cont p fl n b hn hb hg)) (calm : ∀ (fl : Int) (b : List UInt8) (hf : 0 ≤ fl ∧ fl ≤ 255) (ha : hasB fl 1 = false) (h8 : 8 ≤ p.ans.length) (hb : p.m.bstream = 0) (hg : p.m.begun = true), motive ⟨4, fl, 0, b⟩ 14 (@ComeF.calm p fl b hf ha h8 hb hg)) (block : ∀ (fl n : Int) (hf : 0 ≤ fl ∧ fl ≤ 255) (hla : hasB fl 4 = true) (hop : p.m.opensN n = false) (hnw : p.m.newest < n) (h4 : p.L.length < 4) (hu : p.m.utab = .slice Option.none 0 0) (hb : p.m.bstream = 0) (hg : p.m.begun = true), motive ⟨1, fl, n, [192]⟩ 13 (@ComeF.block p fl n hf hla hop hnw h4 hu hb hg)) {z1 : Fr} {z2 : Int} (zt : ComeF p z1 z2) : motive z1 z2 zt := (zt (fun z1 z2 => ∃ zt : ComeF p z1 z2, motive z1 z2 zt) (fun fl s b hs hp ha hr hb hg => ⟨_, @gone fl s b hs hp ha hr hb hg⟩) (fun fl n b hn hp hb hg => ⟨_, @none fl n b hn hp hb hg⟩) (fun fl s b hs hp ha hh hr hl hb hg => ⟨_, @flow fl s b hs hp ha hh hr hl hb hg⟩) (fun fl s b hs ha hh hr h1 hl b4 b5 hb hg => ⟨_, @flowp fl s b hs ha hh hr h1 hl b4 b5 hb hg⟩) (fun fl n b hop hnw hb hg => ⟨_, @again fl n b hop hnw hb hg⟩) (fun fl b hf ha hw hb hg => ⟨_, @ack fl b hf ha hw hb hg⟩) (fun fl b h1 h2 h3 hb hg => ⟨_, @credit fl b h1 h2 h3 hb hg⟩) (fun fl n b hn hb hg => ⟨_, @cont fl n b hn hb hg⟩) (fun fl b hf ha h8 hb hg => ⟨_, @calm fl b hf ha h8 hb hg⟩) (fun fl n hf hla hop hnw h4 hu hb hg => ⟨_, @block fl n hf hla hop hnw h4 hu hb hg⟩)).elim fun _ zx => zx
def Dies (W w : World) (eb mb : Nat) (g0 q : GEnd) (code : Int) : Prop := ∃ g wI m0, g.bare.died code = q ∧ GaveE W w eb mb g0 g wI m0 code
section
variable {W w w' w1 : World} {eb mb : Nat} {g0 g1 g q : GEnd} {code : Int}
theorem Dies.of (hn : Next W w eb mb g0 g) (hL : g.L.length ≤ 1048576) : Dies W w eb mb g0 (g.bare.died code) code := ⟨g, w, g.m, rfl, hn, hn.inv.en, rfl, Chg.refl _ _, hL⟩
theorem Dies.pre (h : Dies w1 w' eb mb g1 q code) (hn : Next W w1 eb mb g0 g1) : Dies W w' eb mb g0 q code := by
  obtain ⟨g, wI, m0, e, hg⟩ := h
  refine ⟨g, wI, m0, e, hn.trans hg.nx, hg.en, hg.same, hg.chg.mono fun j _ a => ?_, hg.few⟩
  rcases a with a | a | a
  · exact Or.inl a
  · exact Or.inr (Or.inl a)
  · exact Or.inr (Or.inr ⟨Nat.le_trans hn.chg.size a.1, a.2⟩)
theorem Dies.below (h : Dies w1 w' eb mb g0 q code) (hb : Below W.heap.size W w1) : Dies W w' eb mb g0 q code := by
  obtain ⟨g, wI, m0, e, hg⟩ := h
  refine ⟨g, wI, m0, e, hg.nx.pre hb, hg.en, hg.same, hg.chg.mono fun j _ a => ?_, hg.few⟩
  rcases a with a | a | a
  · exact Or.inl a
  · exact Or.inr (Or.inl a)
  · exact Or.inr (Or.inr ⟨Nat.le_trans hb.size a.1, a.2⟩)
/-- The head of a frame is a fault. -/
theorem Inv.onGave (h : Inv w eb mb g) (hL : g.L.length ≤ 1048576) (hg : GaveG w w' eb 25 91 g.m.cells g.m.got) : Dies w w' eb mb g (g.bare.died code) code := by
  obtain ⟨cs', gv', L, K, F, S, hrd, hal, hc⟩ := hg
  have hen : EnB w' eb (g.m.rd gv' L K F S) := ⟨by rw [hrd.blk, rd_cells hal hrd.c0 hrd.c1 hrd.c2 hrd.c3 hrd.c4]⟩
  refine ⟨g, w, g.m.rd gv' L K F S, rfl, Next.refl h, hen, rfl, hc.mono fun j _ e => ?_, hL⟩
  rcases e with e | e
  · exact Or.inl e
  · exact Or.inr (Or.inl e)
end
theorem i_comeF (eb mb : Nat) (g p : GEnd) (f : Fr) (code : Int) (bv cv : Value) (w : World) (h : Inv w eb mb g) (hp : g.bare = p) (hc : ComeF p f code) (hL : g.L.length ≤ 1048576) (hgl : Gl w) (hge : ∀ j, j < 7 → ¬ Foot eb mb g j) (hbn : ∀ j, bv.ownBlock = some j → ¬ Foot eb mb g j) (hbv : w.ownsRow 0 5 1 bv f.body.length (f.body.map B)) (hcv : f.kind = 0 → ContV f.flags bv cv f.body) :
    Calls Tryz.prog 55 #[.pointer (some ⟨eb, 0, none⟩), frV f.kind f.flags f.stream bv cv f.body] w fun e w' => e = .panicked (faultP code) ∧ Dies w w' eb mb g (p.died code) code := by
  have hbs : g.m.bstream = p.m.bstream := by rw [← hp]; rfl
  have hbg : g.m.begun = p.m.begun := by rw [← hp]; rfl
  obtain ⟨sv, cb, hsv⟩ := slice_len hbv
  have hah : ∀ {w1 : World} {g1 : GEnd}, Ahead w w1 eb mb g g1 → g1.bare = p.begin ∧ g1.L.length ≤ 1048576 := fun {w1 g1} hah1 => by
    obtain ⟨e1, n1⟩ := hah1
    have e2 : g1.bare = p.begin := by rw [e1, ← hp]; rfl
    refine ⟨e2, ?_⟩
    have e3 : g1.bare.L = p.begin.L := by rw [e2]
    have e4 : g.bare.L = p.L := by rw [hp]
    have e5 : g1.L = g.L := e3.trans e4.symm
    rw [e5]; exact hL
  have hdone : ∀ {w1 w' : World} {g1 : GEnd} {code : Int}, Ahead w w1 eb mb g g1 → Below w1.heap.size w1 w' → Dies w w' eb mb g (p.died code) code := fun {w1 w' g1 code} hah1 hb' => by
    obtain ⟨e2, hL1⟩ := hah hah1
    have hd := Dies.of (code := code) (hah1.2.then_below hb') hL1
    rw [e2] at hd
    exact hd
  have hmm : ∀ {g1 : GEnd}, g1.bare = p.begin → g1.m.bare = p.begin.m := fun {g1} e => congrArg GEnd.m e
  cases hc using ComeF.ind with
  | gone fl s b hs hpd ha hr hb hg =>
    have hcb : cv = bv := by
      have := hcv rfl
      unfold ContV at this
      rw [hpd] at this
      simpa using this
    rw [show frV (Fr.mk 0 fl s.st.number b).kind (Fr.mk 0 fl s.st.number b).flags (Fr.mk 0 fl s.st.number b).stream bv cv (Fr.mk 0 fl s.st.number b).body = .iface 136 (dataV fl s.st.number sv b.length cb) from by
      simp only at hsv
      unfold frV dataV
      simp [hcb, hsv]]
    refine (come2_data eb mb g w (fun _ => False) (fun w' => Dies w w' eb mb g (p.died 11) 11) 11 fl s.st.number sv b.length cb h (by rw [hbs]; exact hb) (by rw [hbg]; exact hg) ?_).mono (fun e w' hx => by
      rcases hx with ⟨-, hx⟩ | hx
      · exact hx.elim
      · exact hx)
    intro w1 g1 hah1
    obtain ⟨e2, hL1⟩ := hah hah1
    obtain ⟨x, hx, rfl⟩ := mem_bare (p := p.begin) e2 hs
    refine (comeData_gone eb mb g1 x fl sv b.length cb w1 hah1.2.inv hx ha hr).mono ?_
    rintro e w' ⟨rfl, hb'⟩
    exact Or.inr ⟨rfl, hdone hah1 hb'⟩
  | none fl n b hn hpd hb hg =>
    have hcb : cv = bv := by
      have := hcv rfl
      unfold ContV at this
      rw [hpd] at this
      simpa using this
    rw [show frV (Fr.mk 0 fl n b).kind (Fr.mk 0 fl n b).flags (Fr.mk 0 fl n b).stream bv cv (Fr.mk 0 fl n b).body = .iface 136 (dataV fl n sv b.length cb) from by
      simp only at hsv
      unfold frV dataV
      simp [hcb, hsv]]
    refine (come2_data eb mb g w (fun _ => False) (fun w' => Dies w w' eb mb g (p.died 11) 11) 11 fl n sv b.length cb h (by rw [hbs]; exact hb) (by rw [hbg]; exact hg) ?_).mono (fun e w' hx => by
      rcases hx with ⟨-, hx⟩ | hx
      · exact hx.elim
      · exact hx)
    intro w1 g1 hah1
    obtain ⟨e2, hL1⟩ := hah hah1
    refine (comeData_none eb mb g1 fl n sv b.length cb w1 hah1.2.inv (fun s hs => ?_)).mono ?_
    · have hm : s.bare ∈ p.K := by
        have e3 : g1.bare.K = p.begin.K := by rw [e2]
        rw [← show g1.bare.K = p.K from e3]
        exact List.mem_map.2 ⟨s, hs, rfl⟩
      exact hn s.bare hm
    rintro e w' ⟨rfl, hb'⟩
    exact Or.inr ⟨rfl, hdone hah1 hb'⟩
  | flow fl s b hs hpd ha hh hr hl hb hg =>
    have hcb : cv = bv := by
      have := hcv rfl
      unfold ContV at this
      rw [hpd] at this
      simpa using this
    rw [show frV (Fr.mk 0 fl s.st.number b).kind (Fr.mk 0 fl s.st.number b).flags (Fr.mk 0 fl s.st.number b).stream bv cv (Fr.mk 0 fl s.st.number b).body = .iface 136 (dataV fl s.st.number sv b.length cb) from by
      simp only at hsv
      unfold frV dataV
      simp [hcb, hsv]]
    refine (come2_data eb mb g w (fun _ => False) (fun w' => Dies w w' eb mb g (p.died 12) 12) 12 fl s.st.number sv b.length cb h (by rw [hbs]; exact hb) (by rw [hbg]; exact hg) ?_).mono (fun e w' hx => by
      rcases hx with ⟨-, hx⟩ | hx
      · exact hx.elim
      · exact hx)
    intro w1 g1 hah1
    obtain ⟨e2, hL1⟩ := hah hah1
    obtain ⟨x, hx, rfl⟩ := mem_bare (p := p.begin) e2 hs
    have m1 : g1.m.receive = p.m.receive := by have := congrArg (fun m : EndM => m.receive) (hmm e2); exact this
    refine (comeData_flow eb mb g1 x fl sv b.length cb w1 hah1.2.inv hx ha hh hr (by rw [m1]; exact hl)).mono ?_
    rintro e w' ⟨rfl, hb'⟩
    exact Or.inr ⟨rfl, hdone hah1 hb'⟩
  | flowp fl s b hs ha hh hr h1 hl b4 b5 hb hg =>
    obtain ⟨sc, cl, cc, hcc⟩ : ∃ sc cl cc, cv = .slice sc cl cc := by
      have := hcv rfl
      unfold ContV at this
      split at this
      · obtain ⟨g', off, cap, -, o, h2, -⟩ := this
        exact ⟨_, _, _, h2⟩
      · simp only at hsv
        exact ⟨_, _, _, this.trans hsv⟩
    rw [show frV (Fr.mk 0 fl s.st.number b).kind (Fr.mk 0 fl s.st.number b).flags (Fr.mk 0 fl s.st.number b).stream bv cv (Fr.mk 0 fl s.st.number b).body = .iface 136 (dataP fl s.st.number sv b.length cb sc cl cc) from by
      simp only at hsv
      unfold frV dataP
      simp [hcc, hsv]]
    refine (come2_dataP eb mb g w (fun _ => False) (fun w' => Dies w w' eb mb g (p.died 12) 12) 12 fl s.st.number sv b.length cb sc cl cc h (by rw [hbs]; exact hb) (by rw [hbg]; exact hg) ?_).mono (fun e w' hx => by
      rcases hx with ⟨-, hx⟩ | hx
      · exact hx.elim
      · exact hx)
    intro w1 g1 hah1
    obtain ⟨e2, hL1⟩ := hah hah1
    obtain ⟨x, hx, rfl⟩ := mem_bare (p := p.begin) e2 hs
    have m1 : g1.m.receive = p.m.receive := by have := congrArg (fun m : EndM => m.receive) (hmm e2); exact this
    have m2 : g1.m.own = p.m.own := by have := congrArg (fun m : EndM => m.own) (hmm e2); exact this
    refine (comeData_flowP eb mb g1 x fl sv b.length cb sc cl cc w1 hah1.2.inv hx ha hh hr h1 (by rw [m1, m2]; exact hl) (by rw [m2]; exact b4) b5).mono ?_
    rintro e w' ⟨rfl, hb'⟩
    exact Or.inr ⟨rfl, hdone hah1 hb'⟩
  | again fl n b hop hnw hb hg =>
    rw [show frV (Fr.mk 1 fl n b).kind (Fr.mk 1 fl n b).flags (Fr.mk 1 fl n b).stream bv cv (Fr.mk 1 fl n b).body = .iface 139 (.agg #[.int .i64 1, .int .i64 fl, .int .i64 n, .slice sv b.length cb, .slice sv b.length cb]) from by
      simp only at hsv
      unfold frV
      simp [hsv]]
    refine (come2_headers eb mb g w (fun _ => False) (fun w' => Dies w w' eb mb g (p.died 11) 11) 11 fl n sv b.length cb h (by rw [hbs]; exact hb) (by rw [hbg]; exact hg) ?_).mono (fun e w' hx => by
      rcases hx with ⟨-, hx⟩ | hx
      · exact hx.elim
      · exact hx)
    intro w1 g1 hah1
    obtain ⟨e2, hL1⟩ := hah hah1
    have m1 : g1.m.newest = p.m.newest := by have := congrArg (fun m : EndM => m.newest) (hmm e2); exact this
    have m2 : g1.m.opensN n = p.m.opensN n := by have := congrArg (fun m : EndM => m.opensN n) (hmm e2); exact this
    refine (comeHeaders_p eb mb g1 fl n sv b.length cb w1 hah1.2.inv (by rw [m2]; exact hop) (by rw [m1]; exact hnw)).mono ?_
    rintro e w' ⟨rfl, hb'⟩
    exact Or.inr ⟨rfl, hdone hah1 hb'⟩
  | ack fl b hf ha hw hb hg =>
    rw [show frV (Fr.mk 3 fl 0 b).kind (Fr.mk 3 fl 0 b).flags (Fr.mk 3 fl 0 b).stream bv cv (Fr.mk 3 fl 0 b).body = .iface 148 (.agg #[.int .i64 3, .int .i64 fl, .int .i64 0, .slice sv b.length cb, .int .i64 0]) from by
      simp only at hsv
      unfold frV
      simp [hsv, ha]]
    refine (come2_settings eb mb g w (fun _ => False) (fun w' => Dies w w' eb mb g (p.died 11) 11) 11 fl 0 sv b.length cb 0 h (by rw [hbs]; exact hb) (by rw [hbg]; exact hg) ?_).mono (fun e w' hx => by
      rcases hx with ⟨-, hx⟩ | hx
      · exact hx.elim
      · exact hx)
    intro w1 g1 hah1
    obtain ⟨e2, hL1⟩ := hah hah1
    have m1 : g1.m.waits = p.m.waits := by have := congrArg (fun m : EndM => m.waits) (hmm e2); exact this
    refine (comeSettings_p eb g1.m fl 0 0 sv b.length cb w1 hah1.2.inv.en (by rw [m1]; exact hw) hf ha).mono ?_
    rintro e w' ⟨rfl, hb'⟩
    exact Or.inr ⟨rfl, hdone hah1 hb'⟩
  | credit fl b h1 h2 h3 hb hg =>
    rw [show frV (Fr.mk 6 fl 0 b).kind (Fr.mk 6 fl 0 b).flags (Fr.mk 6 fl 0 b).stream bv cv (Fr.mk 6 fl 0 b).body = .iface 154 (.agg #[.int .i64 6, .int .i64 fl, .int .i64 0, .slice sv b.length cb, .int .i64 (num4 b)]) from by
      simp only at hsv
      unfold frV
      simp [hsv]]
    refine (come2_credit eb mb g w (fun _ => False) (fun w' => Dies w w' eb mb g (p.died 12) 12) 12 fl 0 sv b.length cb (num4 b) h (by rw [hbs]; exact hb) (by rw [hbg]; exact hg) ?_).mono (fun e w' hx => by
      rcases hx with ⟨-, hx⟩ | hx
      · exact hx.elim
      · exact hx)
    intro w1 g1 hah1
    obtain ⟨e2, hL1⟩ := hah hah1
    have m1 : g1.m.send = p.m.send := by have := congrArg (fun m : EndM => m.send) (hmm e2); exact this
    refine (comeCredit_p eb g1.m fl (num4 b) sv b.length cb w1 hah1.2.inv.en (by rw [m1]; exact h1) (by rw [m1]; exact h2) h3).mono ?_
    rintro e w' ⟨rfl, hb'⟩
    exact Or.inr ⟨rfl, hdone hah1 hb'⟩
  | cont fl n b hn hb hg =>
    rw [show frV (Fr.mk 7 fl n b).kind (Fr.mk 7 fl n b).flags (Fr.mk 7 fl n b).stream bv cv (Fr.mk 7 fl n b).body = .iface 141 (.agg #[.int .i64 7, .int .i64 fl, .int .i64 n, .slice sv b.length cb, .slice sv b.length cb]) from by
      simp only at hsv
      unfold frV
      simp [hsv]]
    refine (come_continue_p eb g.m 7 fl n sv b.length cb w h.en (by rw [hbs]; exact hb) (by rw [hbg]; exact hg) hn).mono ?_
    rintro e w' ⟨rfl, hb'⟩
    have hd := Dies.of (code := 11) (Next.of_below h hb') hL
    rw [hp] at hd
    exact ⟨rfl, hd⟩
  | calm fl b hf ha h8 hb hg =>
    rw [show frV (Fr.mk 4 fl 0 b).kind (Fr.mk 4 fl 0 b).flags (Fr.mk 4 fl 0 b).stream bv cv (Fr.mk 4 fl 0 b).body = .iface 151 (.agg #[.int .i64 4, .int .i64 fl, .int .i64 0, .slice sv b.length cb, .int .u32 (num4 b)]) from by
      simp only at hsv
      unfold frV
      simp [hsv]]
    refine (come2_ping eb mb g w (fun _ => False) (fun w' => Dies w w' eb mb g (p.died 14) 14) 14 fl 0 sv b.length cb (num4 b) h (by rw [hbs]; exact hb) (by rw [hbg]; exact hg) ?_).mono (fun e w' hx => by
      rcases hx with ⟨-, hx⟩ | hx
      · exact hx.elim
      · exact hx)
    intro w1 g1 hah1
    obtain ⟨e2, hL1⟩ := hah hah1
    have ha1 : g1.ans.length = p.ans.length := by
      have e3 : g1.bare.ans = p.begin.ans := by rw [e2]
      have e4 : (g1.ans.map Ans.bare).length = p.ans.length := by rw [show g1.ans.map Ans.bare = p.ans from e3]
      simpa using e4
    refine (comePing_p eb mb g1 fl (num4 b) sv b.length cb w1 hah1.2.inv hf ha (by omega)).mono ?_
    rintro e w' ⟨rfl, hb'⟩
    exact Or.inr ⟨rfl, hdone hah1 hb'⟩
  | block fl n hf hla hop hnw h4 hu hb hg =>
    rw [show frV (Fr.mk 1 fl n [192]).kind (Fr.mk 1 fl n [192]).flags (Fr.mk 1 fl n [192]).stream bv cv (Fr.mk 1 fl n [192]).body = .iface 139 (.agg #[.int .i64 1, .int .i64 fl, .int .i64 n, .slice sv 1 cb, .slice sv 1 cb]) from by
      simp only [List.length_cons, List.length_nil, Nat.zero_add] at hsv
      unfold frV
      simp [hsv]]
    refine (come2_headers eb mb g w (fun _ => False) (fun w' => Dies w w' eb mb g (p.died 13) 13) 13 fl n sv 1 cb h (by rw [hbs]; exact hb) (by rw [hbg]; exact hg) ?_).mono (fun e w' hx => by
      rcases hx with ⟨-, hx⟩ | hx
      · exact hx.elim
      · exact hx)
    intro w1 g1 hah1
    obtain ⟨e2, hL1⟩ := hah hah1
    have m1 : g1.m.newest = p.m.newest := by have := congrArg (fun m : EndM => m.newest) (hmm e2); exact this
    have m2 : g1.m.opensN n = p.m.opensN n := by have := congrArg (fun m : EndM => m.opensN n) (hmm e2); exact this
    have m3 : g1.m.utab = .slice none 0 0 := by
      have e3 : nilU g1.m.utab = p.m.utab := by have := congrArg (fun m : EndM => m.utab) (hmm e2); exact this
      rw [hu] at e3
      exact nilU_nil e3
    have m4 : g1.L = p.L := by have := congrArg GEnd.L e2; exact this
    simp only [List.length_cons, List.length_nil, Nat.zero_add] at hsv hbv
    rw [hsv] at hbv hbn
    have hby : BytesIn w1 (.slice sv 1 cb) [192] := (bytesIn_of_owns (l := [192]) hbv rfl).chg hah1.2.chg hbn
    refine (comeHeaders_192 eb mb g1 fl n sv cb w1 hah1.2.inv (hgl.chg hah1.2.chg hge) m3 hby hf hla (by rw [m2]; exact hop) (by rw [m1]; exact hnw) (by rw [m4]; exact h4)).mono ?_
    rintro e w' ⟨rfl, hb'⟩
    exact Or.inr ⟨rfl, hdone hah1 hb'⟩
/-- A byte that is a fault. -/
def ByteF (p : GEnd) (c : UInt8) (code : Int) : Prop := ∀ Z : Prop, (∀ (hg : p.m.greeted = 7) (hs : step p.got c = .fault code), Z) → (∀ (f : Fr) (hg : p.m.greeted = 7) (hs : step p.got c = .frame f) (hc : ComeF { p with got := [] } f code), Z) → Z
theorem ByteF.head {p : GEnd} {c : UInt8} {code : Int} (hg : p.m.greeted = 7) (hs : step p.got c = .fault code) : ByteF p c code := fun Z zk1 zk2 => zk1 hg hs
theorem ByteF.frame {p : GEnd} {c : UInt8} {code : Int} {f : Fr} (hg : p.m.greeted = 7) (hs : step p.got c = .frame f) (hc : ComeF { p with got := [] } f code) : ByteF p c code := fun Z zk1 zk2 => zk2 f hg hs hc
theorem ByteF.ind {p : GEnd} {c : UInt8} {code : Int} {motive : ByteF p c code → Prop} (head : ∀ (hg : p.m.greeted = 7) (hs : step p.got c = .fault code), motive (@ByteF.head p c code hg hs)) (frame : ∀ {f : Fr} (hg : p.m.greeted = 7) (hs : step p.got c = .frame f) (hc : ComeF { p with got := [] } f code), motive (@ByteF.frame p c code f hg hs hc)) (zt : ByteF p c code) : motive zt := (zt (∃ zt : ByteF p c code, motive zt) (fun hg hs => ⟨_, @head hg hs⟩) (fun f hg hs hc => ⟨_, @frame f hg hs hc⟩)).elim fun _ zx => zx

set_option maxRecDepth 100000 in
set_option maxHeartbeats 1200000 in
theorem i_byteF (eb mb : Nat) (g : GEnd) (c : UInt8) (code : Int) (w : World) (h : Inv w eb mb g) (hr : RdOk g) (hb : ByteF g.bare c code) (hL : g.L.length ≤ 1048576) (hgl : Gl w) (hge : ∀ j, j < 7 → ¬ Foot eb mb g j) :
    Calls Tryz.prog 40 #[.pointer (some ⟨eb, 0, none⟩), .int .u8 c.toNat] w fun e w' => e = .panicked (faultP code) ∧ Dies w w' eb mb g (g.bare.died code) code := by
  have c24 := h.en.c24
  have hlt := h.en.lt
  have hT := take_any eb 25 91 g.m.cells g.m.got g.got c w (h.rdsg hr)
  cases hb using ByteF.ind with
  | head hg hs =>
    rw [show g.m.greeted = 7 from hg] at c24
    have hs' : step g.got c = .fault code := hs
    have HT : Hid (Calls Tryz.prog 54 #[.pointer (some ⟨eb, 25, none⟩), .int .u8 c.toNat] w fun e w' => e = .panicked [{ v := .iface 41 (.int .i64 code), recovered := false }] ∧ Dies w w' eb mb g (g.bare.died code) code) := by
      refine hT.mono ?_
      rintro e w' (⟨g1, cs', gv', h1, -⟩ | ⟨code', h1, h2, h3⟩ | ⟨f, bv, cv, cs', gv', h1, -⟩)
      · rw [hs'] at h1; cases h1
      · rw [hs'] at h1
        simp only [Sum.inr.injEq] at h1
        subst h1
        exact ⟨h2, h.onGave hL h3⟩
      · rw [hs'] at h1; cases h1
    clear h hr hT hs hs' hg hgl hge
    go_enter Tryz.func40, Tryz.ntmps40
    go_wp2_with fail
    refine HT.out.mono ?_
    rintro e w' ⟨rfl, hx⟩
    have HX := hide hx
    clear hx
    go_wp2
    exact ⟨rfl, rfl, HX.out⟩
  | @frame f hg hs hc =>
    rw [show g.m.greeted = 7 from hg] at c24
    have hs' : step g.got c = .frame f := hs
    have HT : Hid (Calls Tryz.prog 54 #[.pointer (some ⟨eb, 25, none⟩), .int .u8 c.toNat] w fun e w' => ∃ bv cv, e = .returned (.tuple #[frV f.kind f.flags f.stream bv cv f.body, .bool true]) ∧ Calls Tryz.prog 55 #[.pointer (some ⟨eb, 0, none⟩), frV f.kind f.flags f.stream bv cv f.body] w' fun e w'' => e = .panicked [{ v := .iface 41 (.int .i64 code), recovered := false }] ∧ Dies w w'' eb mb g (g.bare.died code) code) := by
      refine hT.mono ?_
      rintro e w' (⟨g1, cs', gv', h1, -⟩ | ⟨code, h1, -⟩ | ⟨f', bv, cv, cs', gv', h1, h2, h3, h4, h5, h6, h7⟩)
      · rw [hs'] at h1; cases h1
      · rw [hs'] at h1; cases h1
      · rw [hs'] at h1
        simp only [Sum.inl.injEq, Sum.inr.injEq] at h1
        subst h1
        refine ⟨bv, cv, h2, ?_⟩
        obtain ⟨g2, e1, e2, e3, e4⟩ := h.onGot h6
        have hL2 : g2.L.length ≤ 1048576 := by
          have e5 : g2.bare.L = ({ g with got := [] } : GEnd).bare.L := by rw [e1]
          have e6 : g2.L = g.L := e5
          rw [e6]; exact hL
        have hge2 : ∀ j, j < 7 → ¬ Foot eb mb g2 j := fun j hj hf => by
          rcases e3.grow j hf with a | a
          · exact hge j hj a
          · have := hgl.lt; omega
        have hbn : ∀ j, bv.ownBlock = some j → ¬ Foot eb mb g2 j := fun j hj hf => by
          rcases e4 j hf with a | a
          · have := Foot.lt h a; have := h5 j hj; omega
          · exact h7 j hj a
        refine (i_comeF eb mb g2 { g.bare with got := [] } f code bv cv w' e3.inv (by rw [e1]; rfl) hc hL2 (hgl.chg e3.chg hge) hge2 hbn h4 h3).mono ?_
        rintro e w'' ⟨rfl, q1⟩
        exact ⟨rfl, q1.pre e3⟩
    clear h hr hT hs hs' hg hgl hge
    go_enter Tryz.func40, Tryz.ntmps40
    go_wp2_with fail
    refine HT.out.mono ?_
    rintro e w' ⟨bv, cv, rfl, hx⟩
    have HX := hide hx
    clear hx
    obtain ⟨ty, x, hfv⟩ := frV_iface f.kind f.flags f.stream bv cv f.body
    rw [hfv] at HX ⊢
    go_wp2_with fail
    refine HX.out.mono ?_
    rintro e w'' ⟨rfl, hx⟩
    have HY := hide hx
    clear hx
    go_wp2
    exact ⟨rfl, rfl, HY.out⟩
/-- Bytes that are a fault. -/
def FeedF (z1 : GEnd) (z2 : List UInt8) (z3 : Int) (z4 : GEnd) : Prop := ∀ Z : GEnd → List UInt8 → Int → GEnd → Prop, (∀ (p : GEnd) (c : UInt8) (r : List UInt8) (code : Int) (hf : p.m.fault = 0) (hb : ByteF p c code), Z p (c :: r) code (p.died code)) → (∀ (p p1 q : GEnd) (c : UInt8) (r : List UInt8) (code : Int) (hf : p.m.fault = 0) (hb : ByteR p c p1) (h : Z p1 r code q), Z p (c :: r) code q) → Z z1 z2 z3 z4
theorem FeedF.fault {p : GEnd} {c : UInt8} {r : List UInt8} {code : Int} (hf : p.m.fault = 0) (hb : ByteF p c code) : FeedF p (c :: r) code (p.died code) := fun Z zk1 zk2 => zk1 p c r code hf hb
theorem FeedF.step {p p1 q : GEnd} {c : UInt8} {r : List UInt8} {code : Int} (hf : p.m.fault = 0) (hb : ByteR p c p1) (h : FeedF p1 r code q) : FeedF p (c :: r) code q := fun Z zk1 zk2 => zk2 p p1 q c r code hf hb (h Z zk1 zk2)
theorem FeedF.ind {motive : ∀ (z1 : GEnd) (z2 : List UInt8) (z3 : Int) (z4 : GEnd), FeedF z1 z2 z3 z4 → Prop} (fault : ∀ {p : GEnd} {c : UInt8} {r : List UInt8} {code : Int} (hf : p.m.fault = 0) (hb : ByteF p c code), motive p (c :: r) code (p.died code) (@FeedF.fault p c r code hf hb)) (step : ∀ {p p1 q : GEnd} {c : UInt8} {r : List UInt8} {code : Int} (hf : p.m.fault = 0) (hb : ByteR p c p1) (h : FeedF p1 r code q) (ih : motive p1 r code q h), motive p (c :: r) code q (@FeedF.step p p1 q c r code hf hb h)) {z1 : GEnd} {z2 : List UInt8} {z3 : Int} {z4 : GEnd} (zt : FeedF z1 z2 z3 z4) : motive z1 z2 z3 z4 zt := (zt (fun z1 z2 z3 z4 => ∃ zt : FeedF z1 z2 z3 z4, motive z1 z2 z3 z4 zt) (fun p c r code hf hb => ⟨_, @fault p c r code hf hb⟩) (fun p p1 q c r code hf hb zy => zy.elim fun h zx => ⟨_, @step p p1 q c r code hf hb h zx⟩)).elim fun _ zx => zx
theorem FeedR.fault {p p1 q : GEnd} {l r : List UInt8} {code : Int} (h : FeedR p l p1) (h2 : FeedF p1 r code q) : FeedF p (l ++ r) code q := by
  induction h using FeedR.ind with
  | nil => exact h2
  | greet hk hk7 hf hc _ ih => exact .step hf (.greet hk hk7 hc) (ih h2)
  | more hg hf hs _ ih => exact .step hf (.more hg hs) (ih h2)
  | frame hg hf hs hc _ ih => exact .step hf (.frame hg hs hc) (ih h2)

set_option maxRecDepth 100000 in
set_option maxHeartbeats 1200000 in
theorem i_feedF (eb mb : Nat) (g q : GEnd) (bv : Value) (l : List UInt8) (code : Int) (w : World) (h : Inv w eb mb g) (hr : RdOk g) (hf : FeedF g.bare l code q) (hL : q.L.length ≤ 1048576) (hgl : Gl w) (hge : ∀ j, j < 7 → ¬ Foot eb mb g j) (hb : BytesIn w bv l) (hbn : ∀ j, bv.ownBlock = some j → ¬ Foot eb mb g j) (hl : l.length ≤ 4611686018427387904) :
    Calls Tryz.prog 24 #[.pointer (some ⟨eb, 0, none⟩), bv] w fun e w' => e = .panicked (faultP code) ∧ Dies w w' eb mb g q code := by
  obtain ⟨sv, cv, hv, -⟩ := bytesIn_len hb
  subst hv
  have H := hide h
  have HR := hide hr
  have HF := hide hf
  have HGL := hide hgl
  have HGE := hide hge
  have HB := hide hb
  have HBN := hide hbn
  clear h hr hf hgl hge hb hbn
  go_enter Tryz.func24, Tryz.ntmps24
  go_wp2
  go_loopw [8] (fun i wr => ∃ (k : Nat) (wv : World) (c : GEnd), wv = wr ∧ i = .int .i64 (k : Int) ∧ k ≤ l.length ∧ Next w wv eb mb g c ∧ RdOk c ∧ FeedF c.bare (l.drop k) code q) (fun i _ => l.length - (intOf i).toNat)
  case atStart => exact ⟨0, _, g, rfl, rfl, Nat.zero_le _, Next.refl H.out, HR.out, HF.out⟩
  case round =>
    obtain ⟨k, wv, c, hwv, rfl, hk, hnx, hrd, hfe⟩ := hrel
    subst hwv
    have hlk : k < l.length := by
      rcases Nat.lt_or_ge k l.length with a | a
      · exact a
      · rw [List.drop_of_length_le a] at hfe
        cases hfe using FeedF.ind
    rw [drop_cons hlk] at hfe
    have hfa : c.bare.m.fault = 0 := by cases hfe using FeedF.ind <;> assumption
    obtain ⟨hbyt, hnf⟩ := hnx.bytes HB.out HBN.out
    have hgl1 := HGL.out.chg hnx.chg HGE.out
    have hge1 : ∀ j, j < 7 → ¬ Foot eb mb c j := fun j hj hf => by
      rcases hnx.grow j hf with a | a
      · exact HGE.out j hj a
      · have := HGL.out.lt; omega
    have hi : Calls Tryz.prog 40 #[.pointer (some ⟨eb, 0, none⟩), .int .u8 (l.getD k 0).toNat] wv fun e w' => (e = .returned (.tuple #[]) ∧ ∃ c1, Next w w' eb mb g c1 ∧ RdOk c1 ∧ FeedF c1.bare (l.drop (k + 1)) code q) ∨ (e = .panicked [{ v := .iface 41 (.int .i64 code), recovered := false }] ∧ Dies w w' eb mb g q code) := by
      cases hfe using FeedF.ind with
      | fault hf hby =>
        refine (i_byteF eb mb c (l.getD k 0) code wv hnx.inv hrd hby hL hgl1 hge1).mono ?_
        rintro e w' ⟨rfl, hd⟩
        exact Or.inr ⟨rfl, hd.pre hnx⟩
      | step hf hby hfr =>
        refine (i_byte eb mb c c.bare _ (l.getD k 0) wv hnx.inv hrd rfl hby hgl1 hge1).mono ?_
        rintro e w' ⟨rfl, c1, hc1, hr1, hn1⟩
        exact Or.inl ⟨rfl, c1, hnx.trans hn1, hr1, by rw [hc1]; exact hfr⟩
    have hd := isDead_any eb c.m wv hnx.inv.en
    have hfa' : c.m.fault = 0 := hfa
    rw [show (!(c.m.fault == 0)) = false from by rw [hfa']; rfl] at hd
    rcases hbyt with ⟨-, h0⟩ | ⟨bb, off, cap, h1, h2, h3, h4⟩
    · rw [h0] at hlk; simp at hlk
    · simp only [Value.slice.injEq] at h1
      obtain ⟨rfl, _, rfl⟩ := h1
      have hcell := h4 k hlk
      have HI := hide hi
      have HD := hide hd
      generalize l.getD k 0 = cc at *
      clear hi hd hnx hfe hrd hgl1 hge1 h4 hfa hfa' hnf
      go_wp2_with fail
      refine HD.out.mono ?_
      rintro e w' ⟨rfl, hw'⟩
      rw [hw']
      clear hw' w'
      go_wp2_with fail
      refine HI.out.mono ?_
      rintro e w1 (⟨rfl, hx⟩ | ⟨rfl, hx⟩)
      · obtain ⟨c1, hn1, hr1, hfr⟩ := hx
        have HR1 := hide hr1
        have HN1 := hide hn1
        have HFR := hide hfr
        clear hr1 hn1 hfr
        go_wp2
        all_goals go_roundw
        case rel => exact ⟨k + 1, _, c1, rfl, by go_num, by omega, HN1.out, HR1.out, HFR.out⟩
        case measure => simp [intOf]; omega
      · have HX := hide hx
        clear hx
        go_wp2
        exact ⟨rfl, rfl, HX.out⟩
end Go.Proofs.YtlhlmgfblbpdpaaGreatDoor
/-
  Whole frames, fed, that are a fault.
-/
namespace Go.Proofs.YtlhlmgfblbpdpaaGreatDoor
set_option linter.unusedVariables false
set_option linter.unusedSimpArgs false
open Go.RowKit

theorem FeedF.app {p q : GEnd} {l r : List UInt8} {code : Int} (h : FeedF p l code q) : FeedF p (l ++ r) code q := by
  induction h using FeedF.ind with
  | fault hf hb => exact .fault hf hb
  | step hf hb _ ih => exact .step hf hb ih
theorem feedF_of_feed {p : GEnd} {f : Fr} {code : Int} (hg : p.m.greeted = 7) (hf : p.m.fault = 0) (hc : ComeF { p with got := [] } f code) : ∀ (l got : List UInt8), feed got l = ([f], ⟨[], 0⟩) → FeedF { p with got := got } l code (p.died code) := by
  intro l
  induction l with
  | nil =>
    intro got h
    unfold feed at h
    simp at h
  | cons c r ih =>
    intro got h
    unfold feed at h
    cases hs : step got c with
    | inl x =>
      rw [hs] at h
      cases x with
      | inl g1 => exact .step hf (.more hg hs) (ih g1 h)
      | inr f1 =>
        simp only [Prod.mk.injEq, List.cons.injEq] at h
        obtain ⟨⟨h1, h2⟩, h3⟩ := h
        subst h1
        exact .fault hf (.frame hg hs hc)
    | inr code =>
      rw [hs] at h
      simp at h
theorem feedF_lay {p : GEnd} {k f s : Int} {body : List UInt8} {code : Int} (hr : Right k f s body) (hg : p.m.greeted = 7) (hf : p.m.fault = 0) (hgot : p.got = []) (hc : ComeF p ⟨k, f, s, body⟩ code) : FeedF p (lay k f s body) code (p.died code) := by
  have e : p = { p with got := [] } := by rw [← hgot]
  rw [e] at hc
  have := feedF_of_feed hg hf hc (lay k f s body) [] (feed_right hr)
  rw [← e] at this
  exact this
end Go.Proofs.YtlhlmgfblbpdpaaGreatDoor
/-
  Receive: what the law does to the end, without where things lie.
-/
namespace Go.Proofs.YtlhlmgfblbpdpaaGreatDoor
set_option linter.unusedVariables false
set_option linter.unusedSimpArgs false
open Go.RowKit

def Dn.got (k : Int) (d : Dn) (n : Nat) : Dn :=
  if d.under then { d with receive := d.receive - n, count := min (d.count + n) 2147483647 }
  else if 1 ≤ (n : Int) ∧ d.target < k then { d with receive := d.receive - n, pnum := (d.pnum + 1) % 4294967296, under := true, pinged := false, start := 0, count := n }
  else { d with receive := d.receive - n }
def Dn.owes (d : Dn) (n : Nat) : Dn := { d with owed := d.owed + n }
section
variable {N : Nat} {x : XM} {d : Dn} {s : Nat → Sn} {out : List UInt8} {cf : Cf}
theorem mD_got (n : Nat) : (gD cf d s []).begin.m.got_ n = mD cf (d.got cf.k n) := by
  unfold EndM.got_ EndM.counted Dn.got
  have e1 : ({ (gD cf d s []).begin.m with receive := (gD cf d s []).begin.m.receive - n } : EndM).under = d.under := rfl
  have e2 : ({ (gD cf d s []).begin.m with receive := (gD cf d s []).begin.m.receive - n } : EndM).target = d.target := rfl
  have e3 : ({ (gD cf d s []).begin.m with receive := (gD cf d s []).begin.m.receive - n } : EndM).most = cf.k := rfl
  rw [e1, e2, e3]
  split
  · rfl
  · split <;> rfl
theorem got_same (k : Int) (d : Dn) (n : Nat) : (d.got k n).receive = d.receive - n ∧ (d.got k n).owed = d.owed ∧ (d.got k n).clock = d.clock ∧ (d.got k n).wanted = d.wanted ∧ (d.got k n).made = d.made ∧ (d.got k n).waits = d.waits ∧ (d.got k n).own = d.own ∧ (d.got k n).target = d.target ∧ (d.got k n).bestB = d.bestB ∧ (d.got k n).bestT = d.bestT := by
  unfold Dn.got
  split
  · exact ⟨rfl, rfl, rfl, rfl, rfl, rfl, rfl, rfl, rfl, rfl⟩
  · split <;> exact ⟨rfl, rfl, rfl, rfl, rfl, rfl, rfl, rfl, rfl, rfl⟩
theorem right_pad {n : Int} {t : List UInt8} {p : Nat} (h0 : 1 ≤ n) (h1 : n ≤ 32767) (ht : t.length ≤ 56) (hp : p < 8) : Right 0 8 n (UInt8.ofNat p :: (t ++ List.replicate p 0)) := by
  have hpt : (UInt8.ofNat p).toNat = p := by simp; omega
  refine ⟨by omega, by omega, by omega, by omega, by omega, h1, ?_, ?_, ?_, ?_⟩
  · unfold sFits
    simp
    omega
  · simp; omega
  · unfold lFits
    simp
  · unfold bodyCode
    simp only [if_true, show hasB 8 8 = true from by decide]
    show (if (t ++ List.replicate p 0).length < (UInt8.ofNat p).toNat then (9 : Int) else if ((UInt8.ofNat p :: (t ++ List.replicate p 0)).drop ((t ++ List.replicate p 0).length + 1 - (UInt8.ofNat p).toNat)).all (· == 0) then 0 else 9) = 0
    rw [hpt, if_neg (by simp), if_pos]
    rw [List.length_append, List.length_replicate, show t.length + p + 1 - p = t.length + 1 from by omega, List.drop_succ_cons, List.drop_left]
    simp
theorem cut_pad {t : List UInt8} {p : Nat} (hp : p < 8) : cutB 8 (UInt8.ofNat p :: (t ++ List.replicate p 0)) = t := by
  have hpt : (UInt8.ofNat p).toNat = p := by simp; omega
  unfold cutB
  rw [if_pos (by decide)]
  simp only [List.drop_succ_cons, List.drop_zero, List.headD_cons, hpt, List.length_cons, List.length_append, List.length_replicate]
  rw [show t.length + p + 1 - 1 - p = t.length from by omega]
  simp
theorem right_dat {n : Int} {b : List UInt8} (h0 : 1 ≤ n) (h1 : n ≤ 32767) (hb : b.length ≤ 64) : Right 0 0 n b := by
  refine ⟨by omega, by omega, by omega, by omega, by omega, by omega, ?_, by simpa using hb, ?_, by unfold bodyCode; simp [hasB]⟩
  · unfold sFits
    simp
    omega
  · unfold lFits
    simp
theorem nr_le {j : Nat} (hj : j < 4) : 1 ≤ nr j ∧ nr j ≤ 32767 := by unfold nr; omega
theorem feed_keptD (h : Rel N x d s) {j : Nat} (hj : j < 4) {t : List UInt8} (ht : t.length ≤ 64) (hfit : t.length = 0 ∨ ((t.length : Int) ≤ d.receive ∧ (t.length : Int) ≤ d.own + (s j).receive)) :
    FeedR (gD x.cf d s []) (lay 0 0 (nr j) t) (gD x.cf (d.got x.cf.k t.length) (updL s j ⟨(s j).receive - t.length, (s j).owed, (s j).un ++ t⟩) []) := by
  have hl := (h.lns j hj).owd1
  have hl0 := (h.lns j hj).owd0
  have ho := h.owd1
  have ho0 := h.owd0
  have hr0 := h.rcv0
  have hw := h.own; have hw0 := h.own0; have hw1 := h.own1
  have hc0 := h.cnt0; have hc1 := h.cnt1
  have := feedR_lay (right_dat (nr_le hj).1 (nr_le hj).2 ht) (p := gD x.cf d s []) rfl rfl rfl (Come.kept 0 (stD (nr j) (s j)) t (kD_mem s hj) ⟨by omega, by omega⟩ (by decide) rfl rfl rfl (by simp [StM.closed, stD, StM.fresh]) (by omega) (by show (s j).un.length ≤ _; omega) hfit
    (by show -1099511627776 ≤ d.receive ∧ d.receive ≤ 1099511627776; omega) (by show -1099511627776 ≤ d.owed ∧ d.owed ≤ 1099511627776; omega) (by show 0 ≤ d.count ∧ d.count ≤ 1099511627776; omega) (by show -1099511627776 ≤ d.own ∧ d.own ≤ 1099511627776; omega) (by show -1099511627776 ≤ (s j).receive ∧ (s j).receive ≤ 1099511627776; omega) (by show -1099511627776 ≤ (s j).owed ∧ (s j).owed ≤ 1099511627776; omega) rfl rfl)
  rw [mD_got, show (gD x.cf d s []).K = kD s from rfl, show (stD (nr j) (s j)).st.number = nr j from rfl, kD_upd s hj (fun y => y.more t (hasB 0 1)) ⟨(s j).receive - t.length, (s j).owed, (s j).un ++ t⟩ rfl] at this
  exact this
theorem feed_padD (h : Rel N x d s) {j : Nat} (hj : j < 4) {t : List UInt8} {p : Nat} (hp : p < 8) (ht : t.length ≤ 56) (hfit : ((t.length + (p + 1) : Nat) : Int) ≤ d.receive ∧ ((t.length + (p + 1) : Nat) : Int) ≤ d.own + (s j).receive) :
    FeedR (gD x.cf d s []) (lay 0 8 (nr j) (UInt8.ofNat p :: (t ++ List.replicate p 0))) (gD x.cf ((d.got x.cf.k (t.length + (p + 1))).owes (p + 1)) (updL s j ⟨(s j).receive - (t.length + (p + 1) : Nat), (s j).owed + (p + 1 : Nat), (s j).un ++ t⟩) []) := by
  have hl := (h.lns j hj).owd1
  have hl0 := (h.lns j hj).owd0
  have ho := h.owd1
  have ho0 := h.owd0
  have hr0 := h.rcv0
  have hw := h.own; have hw0 := h.own0; have hw1 := h.own1
  have hc0 := h.cnt0; have hc1 := h.cnt1
  have hbl : (UInt8.ofNat p :: (t ++ List.replicate p 0)).length = t.length + (p + 1) := by simp; omega
  have hR := right_pad (t := t) (nr_le hj).1 (nr_le hj).2 ht hp
  have hcut := cut_pad (t := t) hp
  generalize (UInt8.ofNat p :: (t ++ List.replicate p 0)) = B at *
  have := feedR_lay hR (p := gD x.cf d s []) rfl rfl rfl (Come.pad 8 (stD (nr j) (s j)) B (p + 1) (kD_mem s hj) ⟨by omega, by omega⟩ (by decide) rfl rfl rfl (by simp [StM.closed, stD, StM.fresh]) (by omega) (by rw [hcut]; exact hbl) (by omega) (by show (s j).un.length ≤ _; omega) (by rw [hbl]; exact hfit)
    (by show -1099511627776 ≤ d.receive ∧ d.receive ≤ 1099511627776; omega) (by show -1099511627776 ≤ d.owed ∧ d.owed ≤ 1099511627776; omega) (by show 0 ≤ d.count ∧ d.count ≤ 1099511627776; omega) (by show -1099511627776 ≤ d.own ∧ d.own ≤ 1099511627776; omega) (by show -1099511627776 ≤ (s j).receive ∧ (s j).receive ≤ 1099511627776; omega) (by show -1099511627776 ≤ (s j).owed ∧ (s j).owed ≤ 1099511627776; omega) rfl rfl)
  rw [mD_got, hbl, hcut, show (gD x.cf d s []).K = kD s from rfl, show (stD (nr j) (s j)).st.number = nr j from rfl, kD_upd s hj (fun y => y.morep (t.length + (p + 1)) (p + 1) t (hasB 8 1)) ⟨(s j).receive - (t.length + (p + 1) : Nat), (s j).owed + (p + 1 : Nat), (s j).un ++ t⟩ rfl] at this
  exact this
theorem feed_flowD (h : Rel N x d s) {j : Nat} (hj : j < 4) {fl : Int} {b : List UInt8} (hR : Right 0 fl (nr j) b) (h1 : 1 ≤ b.length) (hfit : d.receive < (b.length : Int) ∨ d.own + (s j).receive < (b.length : Int)) :
    FeedF (gD x.cf d s []) (lay 0 fl (nr j) b) 12 ((gD x.cf d s []).died 12) := by
  have hl := (h.lns j hj).owd1
  have hw := h.own; have hw0 := h.own0; have hw1 := h.own1
  exact feedF_lay hR (p := gD x.cf d s []) rfl rfl rfl (ComeF.flowp fl (stD (nr j) (s j)) b (kD_mem s hj) rfl rfl rfl (by omega) hfit (by show -1099511627776 ≤ d.own ∧ d.own ≤ 1099511627776; omega) (by show -1099511627776 ≤ (s j).receive ∧ (s j).receive ≤ 1099511627776; omega) rfl rfl)
/-- Data was sent: n bytes of a body, t its content. -/
def XM.sent (x : XM) (j : Nat) (t : List UInt8) (n : Nat) : XM := { x with ln := updL x.ln j { x.ln j with text := (x.ln j).text ++ t, bodies := (x.ln j).bodies + n }, bodies := x.bodies + n, beside := x.beside + n - t.length, came := x.came || decide (0 < n) }
theorem sum_upd {ln : Nat → Lane} {j : Nat} (hj : j < 4) (l : Lane) (f : Lane → Int) : f (updL ln j l 0) + f (updL ln j l 1) + f (updL ln j l 2) + f (updL ln j l 3) = f (ln 0) + f (ln 1) + f (ln 2) + f (ln 3) - f (ln j) + f l := by
  rcases four_cases hj with rfl | rfl | rfl | rfl <;> simp [updL] <;> omega
theorem Rel.sent (h : Rel N x d s) {j : Nat} (hj : j < 4) {t : List UInt8} {k : Nat} (h64 : t.length + k ≤ 64) (hfit : t.length + k = 0 ∨ (((t.length + k : Nat) : Int) ≤ d.receive ∧ ((t.length + k : Nat) : Int) ≤ d.own + (s j).receive)) :
    Rel (N + 1) (x.sent j t (t.length + k)) ((d.got x.cf.k (t.length + k)).owes k) (updL s j ⟨(s j).receive - (t.length + k : Nat), (s j).owed + k, (s j).un ++ t⟩) := by
  have hl := h.lns j hj
  obtain ⟨g1, g2, g3, g4, g5, g6, g7, g8, g9, g10⟩ := got_same x.cf.k d (t.length + k)
  have hs1 : (x.sent j t (t.length + k)).reads = x.reads := by
    have := sum_upd (ln := x.ln) hj { x.ln j with text := (x.ln j).text ++ t, bodies := (x.ln j).bodies + (t.length + k : Nat) } (fun l => (l.read : Int))
    simp only [XM.reads, XM.sent] at this ⊢
    omega
  have hs2 : (x.sent j t (t.length + k)).bods = x.bods + (t.length + k : Nat) := by
    have := sum_upd (ln := x.ln) hj { x.ln j with text := (x.ln j).text ++ t, bodies := (x.ln j).bodies + (t.length + k : Nat) } (fun l => l.bodies)
    simp only [XM.bods, XM.sent] at this ⊢
    omega
  have hs3 : (x.sent j t (t.length + k)).texts = x.texts + t.length := by
    have := sum_upd (ln := x.ln) hj { x.ln j with text := (x.ln j).text ++ t, bodies := (x.ln j).bodies + (t.length + k : Nat) } (fun l => (l.text.length : Int))
    simp only [XM.texts, XM.sent] at this ⊢
    rw [List.length_append] at this
    omega
  have q1 := h.rcv; have q2 := h.rcv0; have q3 := h.owd; have q4 := h.owd0; have q5 := h.sum; have q6 := h.bes
  have q7 := h.bod1; have q8 := h.ask1; have q9 := h.ask0
  have q10 := h.cnt0; have q11 := h.cnt1; have q12 := h.stt0; have q13 := h.stt1; have q14 := h.pnm
  refine ⟨h.cf, g3.trans h.clk, h.clk0, h.clk1, ?_, ?_, ?_, ?_, by rw [show ((d.got x.cf.k (t.length + k)).owes k).wanted = (d.got x.cf.k (t.length + k)).wanted from rfl, g4]; exact h.wnt0, by rw [show ((d.got x.cf.k (t.length + k)).owes k).wanted = (d.got x.cf.k (t.length + k)).wanted from rfl, g4]; exact h.wnt1, g5.trans h.tld, h.tld0, h.tld1, g6.trans h.wai, g7.trans h.own, h.own0, h.own1, ?_, ?_, ?_, ?_, ?_, ?_, ?_, ?_, ?_, ?_, ?_, ?_, ?_, ?_, ?_, ?_, ?_, h.crd, ?_, h.ask0, ?_, ?_⟩
  · show (d.got x.cf.k (t.length + k)).receive = 32 + x.credit - (x.bodies + (t.length + k : Nat)); omega
  · show 0 ≤ (d.got x.cf.k (t.length + k)).receive; omega
  · show (d.got x.cf.k (t.length + k)).owed + k = (d.got x.cf.k (t.length + k)).target - 32 + (x.sent j t (t.length + k)).reads + (x.beside + (t.length + k : Nat) - t.length) - x.credit
    omega
  · show 0 ≤ (d.got x.cf.k (t.length + k)).owed + k; omega
  · show x.cf.c ≤ (d.got x.cf.k (t.length + k)).target; rw [g8]; exact h.tgt0
  · show (d.got x.cf.k (t.length + k)).target ≤ x.cf.k; rw [g8]; exact h.tgt1
  · show (d.got x.cf.k (t.length + k)).pnum < 4294967296
    unfold Dn.got
    split
    · exact q14
    · split
      · show (d.pnum + 1) % 4294967296 < 4294967296; omega
      · exact q14
  · show x.pn = if (d.got x.cf.k (t.length + k)).under && (d.got x.cf.k (t.length + k)).pinged then some (d.got x.cf.k (t.length + k)).pnum else none
    have hp := h.png
    unfold Dn.got
    cases hu : d.under with
    | true => rw [hu] at hp; simpa using hp
    | false =>
      rw [hu] at hp
      simp only [Bool.false_eq_true, if_false, Bool.false_and] at hp ⊢
      split <;> simpa using hp
  · show (d.got x.cf.k (t.length + k)).under = true → x.cf.c < x.cf.k
    have ht := h.tgt0
    unfold Dn.got
    cases hu : d.under with
    | true => intro _; exact h.und hu
    | false =>
      simp only [Bool.false_eq_true, if_false]
      split
      · next hh => intro _; omega
      · intro he; cases he
  · intro hcm
    have hcm : (x.came || decide (0 < t.length + k)) = false := hcm
    simp only [Bool.or_eq_false_iff, decide_eq_false_iff_not] at hcm
    obtain ⟨c1, c2⟩ := h.cam hcm.1
    refine ⟨?_, by show (d.got x.cf.k (t.length + k)).target = x.cf.c; rw [g8]; exact c2⟩
    show (d.got x.cf.k (t.length + k)).under = false
    unfold Dn.got
    rw [c1]
    simp only [Bool.false_eq_true, if_false]
    rw [if_neg (by omega)]
  · intro _
    show x.cf.c = x.cf.k ∨ 0 < x.asked ∨ (d.got x.cf.k (t.length + k)).pend = true
    cases hcm : x.came with
    | true =>
      rcases h.ask hcm with a | a | a
      · exact Or.inl a
      · exact Or.inr (Or.inl a)
      · refine Or.inr (Or.inr ?_)
        unfold Dn.pend at a ⊢
        simp only [Bool.and_eq_true] at a
        unfold Dn.got
        rw [if_pos a.1]
        simpa using a
    | false =>
      obtain ⟨c1, c2⟩ := h.cam hcm
      by_cases hk : x.cf.c = x.cf.k
      · exact Or.inl hk
      · have hkk := h.cf.k0
        by_cases hn : t.length + k = 0
        · rename_i hh
          exfalso
          have hh : (x.came || decide (0 < t.length + k)) = true := hh
          rw [hcm, hn] at hh
          simp at hh
        · refine Or.inr (Or.inr ?_)
          unfold Dn.pend Dn.got
          rw [c1]
          simp only [Bool.false_eq_true, if_false]
          rw [if_pos (by omega)]
          rfl
  · show 0 ≤ (d.got x.cf.k (t.length + k)).count
    unfold Dn.got
    split
    · show 0 ≤ min (d.count + (t.length + k : Nat)) 2147483647; omega
    · split
      · show (0 : Int) ≤ (t.length + k : Nat); omega
      · exact q10
  · show (d.got x.cf.k (t.length + k)).count ≤ 2147483647
    unfold Dn.got
    split
    · show min (d.count + (t.length + k : Nat)) 2147483647 ≤ 2147483647; omega
    · split
      · show ((t.length + k : Nat) : Int) ≤ 2147483647; omega
      · exact q11
  · show 0 ≤ (d.got x.cf.k (t.length + k)).start
    unfold Dn.got
    split
    · exact q12
    · split
      · exact Int.le_refl _
      · exact q12
  · show (d.got x.cf.k (t.length + k)).start ≤ 1000000
    unfold Dn.got
    split
    · exact q13
    · split
      · show (0 : Int) ≤ 1000000; omega
      · exact q13
  · show 0 ≤ (d.got x.cf.k (t.length + k)).bestB; rw [g9]; exact h.bsb0
  · show (d.got x.cf.k (t.length + k)).bestB ≤ _; rw [g9]; exact h.bsb1
  · show 0 ≤ (d.got x.cf.k (t.length + k)).bestT; rw [g10]; exact h.bst0
  · show (d.got x.cf.k (t.length + k)).bestT ≤ _; rw [g10]; exact h.bst1
  · show x.bodies + (t.length + k : Nat) = (x.sent j t (t.length + k)).bods; omega
  · show x.beside + (t.length + k : Nat) - t.length = (x.sent j t (t.length + k)).bods - (x.sent j t (t.length + k)).texts; omega
  · intro n hn
    by_cases e : n = j
    · subst e
      show LRel (updL x.ln n _ n) (updL s n _ n)
      rw [updL_same, updL_same]
      have a1 := hl.rcv; have a2 := hl.owd; have a3 := hl.bnd; have a4 := hl.crd; have a5 := hl.rd; have a6 := hl.txt; have a7 := hl.owd0
      have a8 := h.own; have a9 := h.own1
      refine ⟨?_, ?_, ?_, ?_, ?_, ?_, ?_, a4⟩
      · show (s n).receive - (t.length + k : Nat) = (x.ln n).credit - ((x.ln n).bodies + (t.length + k : Nat)); omega
      · show (s n).owed + k = (x.ln n).bodies + (t.length + k : Nat) - (((x.ln n).text ++ t).length - (x.ln n).read) - (x.ln n).credit; rw [List.length_append]; omega
      · show 0 ≤ (s n).owed + k; omega
      · show (s n).un ++ t = ((x.ln n).text ++ t).drop (x.ln n).read
        rw [List.drop_append_of_le_length a5, hl.un]
      · show (x.ln n).read ≤ ((x.ln n).text ++ t).length; rw [List.length_append]; omega
      · show (((x.ln n).text ++ t).length : Int) ≤ (x.ln n).bodies + (t.length + k : Nat); rw [List.length_append]; omega
      · show (x.ln n).bodies + (t.length + k : Nat) ≤ 1000 + (x.ln n).credit; omega
    · show LRel (updL x.ln j _ n) (updL s j _ n)
      rw [updL_ne _ _ e, updL_ne _ _ e]
      exact h.lns n hn
  · show x.asked + (if (d.got x.cf.k (t.length + k)).pend then 1 else 0) ≤ ((N + 1 : Nat) : Int)
    have : x.asked ≤ N := by revert q8; split <;> omega
    split <;> omega
  · show x.bodies + (t.length + k : Nat) ≤ 64 * ((N + 1 : Nat) : Int); omega
end
end Go.Proofs.YtlhlmgfblbpdpaaGreatDoor
/-
  Receive: what the law does to the end, without where things lie: answers, reads, Set, Tick.
-/
namespace Go.Proofs.YtlhlmgfblbpdpaaGreatDoor
set_option linter.unusedVariables false
set_option linter.unusedSimpArgs false
open Go.RowKit

def Dn.ticks (d : Dn) : Int := max 1 (d.clock - d.start)
/-- The answer to the Ping came. -/
def Dn.pong (k : Int) (d : Dn) : Dn :=
  if d.bestB * d.ticks < d.count * d.bestT then
    if 2 * d.count < d.target then { d with under := false, bestB := d.count, bestT := d.ticks }
    else { d with under := false, bestB := d.count, bestT := d.ticks, target := min (2 * d.target) k, owed := d.owed + (min (2 * d.target) k - d.target) }
  else { d with under := false }
section
variable {N : Nat} {x : XM} {d : Dn} {s : Nat → Sn} {out : List UInt8} {cf : Cf}
theorem mD_pong (hu : d.under = true) (hp : d.pinged = true) : (gD cf d s []).begin.m.ponged d.pnum = mD cf (d.pong cf.k) := by
  have e : (gD cf d s []).begin.m.answd d.pnum = if d.bestB * d.ticks < d.count * d.bestT then
      if 2 * d.count < d.target then mD cf { d with under := false, bestB := d.count, bestT := d.ticks }
      else mD cf { d with under := false, bestB := d.count, bestT := d.ticks, target := min (2 * d.target) cf.k }
    else mD cf { d with under := false } := by
    unfold EndM.answd
    rw [if_pos (show ((gD cf d s []).begin.m.under && (gD cf d s []).begin.m.pinged && (d.pnum == (gD cf d s []).begin.m.pnum)) = true from by
      show (d.under && d.pinged && (d.pnum == d.pnum)) = true
      rw [hu, hp]; simp)]
    rfl
  unfold EndM.ponged Dn.pong
  rw [e]
  split
  · split
    · show ({ mD cf { d with under := false, bestB := d.count, bestT := d.ticks } with owed := d.owed + (d.target - d.target) } : EndM) = _
      rw [show d.owed + (d.target - d.target) = d.owed from by omega]
      rfl
    · rfl
  · show ({ mD cf { d with under := false } with owed := d.owed + (d.target - d.target) } : EndM) = _
    rw [show d.owed + (d.target - d.target) = d.owed from by omega]
    rfl
theorem num4_four (n : Nat) (h : n ≤ 4294967295) : num4 (four4 n) = n := by
  have h1 : num4 (four4 n) = be4 (UInt8.ofNat (n / 16777216)) (UInt8.ofNat (n / 65536)) (UInt8.ofNat (n / 256)) (UInt8.ofNat n) := rfl
  rw [h1]
  unfold be4
  simp only [UInt8.toNat_ofNat']
  omega
theorem right_ack : Right 3 1 0 [] := by constructor <;> decide
theorem right_pong (b : List UInt8) (hb : b.length = 4) : Right 4 1 0 b := by
  refine ⟨by decide, by decide, by decide, by decide, by decide, by decide, by decide, by omega, ?_, by unfold bodyCode; simp⟩
  unfold lFits
  simp
  omega
theorem feed_ackD (h : Rel N x d s) (hw : x.waits = true) : FeedR (gD x.cf d s []) (lay 3 1 0 []) (gD x.cf { d with waits := false, own := d.made } s []) :=
  feedR_lay right_ack (p := gD x.cf d s []) rfl rfl rfl (Come.ack 1 [] ⟨by omega, by omega⟩ (by decide) (by show d.waits = true; rw [h.wai]; exact hw) rfl rfl)
theorem Rel.acked (h : Rel N x d s) : Rel N { x with waits := false, force := x.told } { d with waits := false, own := d.made } s :=
  { h with wai := rfl, own := h.tld, own0 := h.tld0, own1 := h.tld1 }
theorem Rel.pinged (h : Rel N x d s) {n : Nat} (hp : x.pn = some n) : d.under = true ∧ d.pinged = true ∧ d.pnum = n := by
  have e := h.png
  rw [hp] at e
  by_cases hc : (d.under && d.pinged) = true
  · rw [if_pos hc] at e
    simp only [Bool.and_eq_true] at hc
    injection e with e
    exact ⟨hc.1, hc.2, e.symm⟩
  · rw [if_neg hc] at e
    cases e
theorem Rel.ticks (h : Rel N x d s) : 0 ≤ d.ticks ∧ d.ticks ≤ 1000000 := by
  have := h.clk; have := h.clk0; have := h.clk1; have := h.stt0
  unfold Dn.ticks
  omega
theorem feed_pongD (h : Rel N x d s) {n : Nat} (hp : x.pn = some n) : FeedR (gD x.cf d s []) (lay 4 1 0 (four4 n)) (gD x.cf (d.pong x.cf.k) s []) := by
  obtain ⟨h1, h2, h3⟩ := h.pinged hp
  have ho := h.owd1; have ho0 := h.owd0
  have c0 := h.cnt0; have c1 := h.cnt1
  have k0 := h.clk; have k1 := h.clk0; have k2 := h.clk1
  have s0 := h.stt0; have s1 := h.stt1
  have b0 := h.bsb0; have b1 := h.bsb1; have b2 := h.bst0; have b3 := h.bst1
  have t0 := h.tgt0; have t1 := h.tgt1; have f0 := h.cf.c0; have f1 := h.cf.k1
  have := feedR_lay (right_pong (four4 n) rfl) (p := gD x.cf d s []) rfl rfl rfl (Come.pong 1 (four4 n) n (num4_four n (by have := h.pnm; omega)) ⟨by omega, by omega⟩ (by decide)
    (by show -1099511627776 ≤ d.owed ∧ d.owed ≤ 1099511627776; omega) ⟨c0, c1⟩ (by show 0 ≤ d.clock ∧ d.clock ≤ 2147483647; omega) (by show 0 ≤ d.start ∧ d.start ≤ 2147483647; omega) ⟨b0, b1⟩ ⟨b2, b3⟩ (by show 0 ≤ d.target ∧ d.target ≤ 2147483647; omega) (by show 0 ≤ x.cf.k ∧ x.cf.k ≤ 2147483647; omega) rfl rfl)
  rw [← h3, mD_pong h1 h2] at this
  rw [← h3]
  exact this
theorem pong_same (k : Int) (d : Dn) : (d.pong k).clock = d.clock ∧ (d.pong k).receive = d.receive ∧ (d.pong k).wanted = d.wanted ∧ (d.pong k).made = d.made ∧ (d.pong k).waits = d.waits ∧ (d.pong k).own = d.own ∧ (d.pong k).pnum = d.pnum ∧ (d.pong k).under = false ∧ (d.pong k).pinged = d.pinged ∧ (d.pong k).start = d.start ∧ (d.pong k).count = d.count ∧ (d.pong k).owed - (d.pong k).target = d.owed - d.target := by
  unfold Dn.pong
  split
  · split
    · exact ⟨rfl, rfl, rfl, rfl, rfl, rfl, rfl, rfl, rfl, rfl, rfl, rfl⟩
    · refine ⟨rfl, rfl, rfl, rfl, rfl, rfl, rfl, rfl, rfl, rfl, rfl, ?_⟩
      show d.owed + (min (2 * d.target) k - d.target) - min (2 * d.target) k = d.owed - d.target
      omega
  · exact ⟨rfl, rfl, rfl, rfl, rfl, rfl, rfl, rfl, rfl, rfl, rfl, rfl⟩
theorem pong_target {k : Int} {d : Dn} (h0 : 0 ≤ d.target) (h1 : d.target ≤ k) : d.target ≤ (d.pong k).target ∧ (d.pong k).target ≤ k := by
  unfold Dn.pong
  split
  · split
    · exact ⟨Int.le_refl _, h1⟩
    · show d.target ≤ min (2 * d.target) k ∧ min (2 * d.target) k ≤ k
      omega
  · exact ⟨Int.le_refl _, h1⟩
theorem pong_best (h : Rel N x d s) (k : Int) : (0 ≤ (d.pong k).bestB ∧ (d.pong k).bestB ≤ 2147483647) ∧ 0 ≤ (d.pong k).bestT ∧ (d.pong k).bestT ≤ 2147483647 := by
  have ht := h.ticks
  have c0 := h.cnt0; have c1 := h.cnt1
  have b0 := h.bsb0; have b1 := h.bsb1; have b2 := h.bst0; have b3 := h.bst1
  unfold Dn.pong
  split
  · split
    · show (0 ≤ d.count ∧ d.count ≤ 2147483647) ∧ 0 ≤ d.ticks ∧ d.ticks ≤ 2147483647; omega
    · show (0 ≤ d.count ∧ d.count ≤ 2147483647) ∧ 0 ≤ d.ticks ∧ d.ticks ≤ 2147483647; omega
  · exact ⟨⟨b0, b1⟩, b2, b3⟩
theorem Rel.ponged (h : Rel N x d s) {n : Nat} (hp : x.pn = some n) : Rel N { x with pn := none } (d.pong x.cf.k) s := by
  obtain ⟨h1, h2, h3⟩ := h.pinged hp
  obtain ⟨g1, g2, g3, g4, g5, g6, g7, g8, g9, g10, g11, g12⟩ := pong_same x.cf.k d
  have t0 := h.tgt0; have t1 := h.tgt1; have f0 := h.cf.c0
  have gt := pong_target (k := x.cf.k) (d := d) (by omega) t1
  have gb := pong_best h x.cf.k
  have o1 := h.owd; have o0 := h.owd0
  have hnc : x.came = true := by
    cases hc : x.came with
    | true => rfl
    | false => have := (h.cam hc).1; rw [h1] at this; cases this
  have hpd : d.pend = false := by unfold Dn.pend; rw [h2]; simp
  have hpd' : (d.pong x.cf.k).pend = false := by unfold Dn.pend; rw [g8]; rfl
  have a1 := h.ask1
  rw [hpd] at a1
  exact { h with
    clk := g1.trans h.clk
    rcv := g2.trans h.rcv
    rcv0 := by rw [g2]; exact h.rcv0
    owd := by show (d.pong x.cf.k).owed = (d.pong x.cf.k).target - 32 + x.reads + x.beside - x.credit; omega
    owd0 := by omega
    wnt0 := by rw [g3]; exact h.wnt0
    wnt1 := by rw [g3]; exact h.wnt1
    tld := g4.trans h.tld
    wai := g5.trans h.wai
    own := g6.trans h.own
    tgt0 := by show x.cf.c ≤ (d.pong x.cf.k).target; omega
    tgt1 := gt.2
    pnm := by rw [g7]; exact h.pnm
    png := by rw [g8]; rfl
    und := fun hh => by rw [g8] at hh; cases hh
    cam := fun hc => by rw [show ({ x with pn := none } : XM).came = x.came from rfl, hnc] at hc; cases hc
    ask := fun _ => by
      rcases h.ask hnc with a | a | a
      · exact Or.inl a
      · exact Or.inr (Or.inl a)
      · rw [hpd] at a; cases a
    cnt0 := by rw [g11]; exact h.cnt0
    cnt1 := by rw [g11]; exact h.cnt1
    stt0 := by rw [g10]; exact h.stt0
    stt1 := by rw [g10]; exact h.stt1
    bsb0 := gb.1.1
    bsb1 := gb.1.2
    bst0 := gb.2.1
    bst1 := gb.2.2
    ask1 := by rw [hpd']; exact a1 }
theorem Rel.wants (h : Rel N x d s) {n : Int} (h0 : 0 ≤ n) (h1 : n ≤ 1000) : Rel N x { d with wanted := n } s := { h with wnt0 := h0, wnt1 := h1 }
theorem Rel.ticked (h : Rel N x d s) {n : Int} (h0 : 0 ≤ n) (h1 : n ≤ 1000000 - x.clock) : Rel N { x with clock := x.clock + n } { d with clock := d.clock + n } s :=
  { h with clk := by show d.clock + n = x.clock + n; rw [h.clk]
           clk0 := by have := h.clk0; show 0 ≤ x.clock + n; omega
           clk1 := by show x.clock + n ≤ 1000000; omega }
/-- So many bytes of a lane were read. -/
def XM.read (x : XM) (j : Nat) (n : Nat) : XM := { x with ln := updL x.ln j { x.ln j with read := (x.ln j).read + n } }
theorem Rel.readd (h : Rel N x d s) {j : Nat} (hj : j < 4) {n : Nat} (hn : n ≤ (x.ln j).text.length - (x.ln j).read) : Rel N (x.read j n) (d.owes n) (updL s j ⟨(s j).receive, (s j).owed + n, (s j).un.drop n⟩) := by
  have hl := h.lns j hj
  have e1 : (x.read j n).reads = x.reads + n := by
    have := sum_upd (ln := x.ln) hj { x.ln j with read := (x.ln j).read + n } (fun l => (l.read : Int))
    simp only [XM.reads, XM.read] at this ⊢
    omega
  have e2 : (x.read j n).bods = x.bods := by
    have := sum_upd (ln := x.ln) hj { x.ln j with read := (x.ln j).read + n } (fun l => l.bodies)
    simp only [XM.bods, XM.read] at this ⊢
    omega
  have e3 : (x.read j n).texts = x.texts := by
    have := sum_upd (ln := x.ln) hj { x.ln j with read := (x.ln j).read + n } (fun l => (l.text.length : Int))
    simp only [XM.texts, XM.read] at this ⊢
    omega
  have o1 := h.owd; have o0 := h.owd0
  have a5 := hl.rd
  exact { h with
    owd := by show d.owed + n = d.target - 32 + (x.read j n).reads + x.beside - x.credit; omega
    owd0 := by show 0 ≤ d.owed + n; omega
    sum := by rw [e2]; exact h.sum
    bes := by rw [e2, e3]; exact h.bes
    lns := fun m hm => by
      by_cases e : m = j
      · subst e
        show LRel (updL x.ln m _ m) (updL s m _ m)
        rw [updL_same, updL_same]
        have a1 := hl.rcv; have a2 := hl.owd; have a3 := hl.bnd; have a4 := hl.crd; have a6 := hl.txt; have a7 := hl.owd0
        refine ⟨a1, ?_, ?_, ?_, ?_, a6, a3, a4⟩
        · show (s m).owed + n = (x.ln m).bodies - ((x.ln m).text.length - ((x.ln m).read + n : Nat)) - (x.ln m).credit; omega
        · show 0 ≤ (s m).owed + n; omega
        · show (s m).un.drop n = (x.ln m).text.drop ((x.ln m).read + n)
          rw [hl.un, List.drop_drop]
        · show (x.ln m).read + n ≤ (x.ln m).text.length; omega
      · show LRel (updL x.ln j _ m) (updL s j _ m)
        rw [updL_ne _ _ e, updL_ne _ _ e]
        exact h.lns m hm }
theorem Rel.mono {M : Nat} (h : Rel N x d s) (hm : N ≤ M) : Rel M x d s := { h with ask1 := by have := h.ask1; omega, bod1 := by have := h.bod1; omega }
/-- What taken asks, where nothing is due. -/
theorem Rel.room (h : Rel N x d s) (hq : Quiet x.cf.b d s) {j : Nat} (hj : j < 4) (hr : (x.ln j).read = (x.ln j).text.length) (hf : 0 < x.force) : 1 ≤ x.force + (x.ln j).credit - (x.ln j).bodies := by
  have hl := h.lns j hj
  have a1 := hl.rcv; have a2 := hl.owd; have a3 := h.own
  have hd := hq.st j hj
  unfold dueB at hd
  by_cases hc : 1 ≤ x.force + (x.ln j).credit - (x.ln j).bodies
  · exact hc
  · exfalso
    have h1 : 1 ≤ (s j).owed := by omega
    have h2 : d.own + (s j).receive ≤ 0 := by omega
    simp [h1, h2] at hd
theorem Rel.all (h : Rel N x d s) (hq : Quiet x.cf.b d s) (hr : ∀ j, j < 4 → (x.ln j).read = (x.ln j).text.length) : 0 < 32 + x.credit - x.bodies := by
  have r0 := hr 0 (by omega); have r1 := hr 1 (by omega); have r2 := hr 2 (by omega); have r3 := hr 3 (by omega)
  have e : x.reads = x.texts := by unfold XM.reads XM.texts; omega
  have a1 := h.rcv; have a2 := h.owd; have a3 := h.sum; have a4 := h.bes; have a5 := h.tgt0; have a6 := h.cf.c0
  have hd := hq.owe
  unfold dueB at hd
  by_cases hc : 0 < 32 + x.credit - x.bodies
  · exact hc
  · exfalso
    have h1 : 1 ≤ d.owed := by omega
    have h2 : d.receive ≤ 0 := by omega
    simp [h1, h2] at hd
theorem Rel.bounded (h : Rel N x d s) (hq : Quiet x.cf.b d s) : x.credit ≤ x.cf.k - 32 + x.reads + x.beside ∧ (x.came = true → x.cf.c = x.cf.k ∨ 0 < x.asked) := by
  have a1 := h.owd; have a2 := h.owd0; have a3 := h.tgt1
  refine ⟨by omega, fun hc => ?_⟩
  rcases h.ask hc with a | a | a
  · exact Or.inl a
  · exact Or.inr a
  · rw [hq.ping] at a; cases a
end
end Go.Proofs.YtlhlmgfblbpdpaaGreatDoor
/-
  Receive: the law's intake in memory, beside its end.
-/
namespace Go.Proofs.YtlhlmgfblbpdpaaGreatDoor
set_option linter.unusedVariables false
set_option linter.unusedSimpArgs false
open Go.RowKit

def strV (l : List UInt8) : Value := .string ⟨l.toArray⟩
def XM.cells (x : XM) (ev : Value) (pv : Value) : Array Value := #[ev, .int .i64 x.cf.i, .int .i64 x.cf.c, .int .i64 x.cf.b, .int .i64 x.cf.k,
  strV (x.ln 0).text, .int .i64 (x.ln 0).read, .int .i64 (x.ln 0).bodies, .int .i64 (x.ln 0).credit,
  strV (x.ln 1).text, .int .i64 (x.ln 1).read, .int .i64 (x.ln 1).bodies, .int .i64 (x.ln 1).credit,
  strV (x.ln 2).text, .int .i64 (x.ln 2).read, .int .i64 (x.ln 2).bodies, .int .i64 (x.ln 2).credit,
  strV (x.ln 3).text, .int .i64 (x.ln 3).read, .int .i64 (x.ln 3).bodies, .int .i64 (x.ln 3).credit,
  .int .i64 x.force, .int .i64 x.told, .bool x.waits, .int .i64 x.bodies, .int .i64 x.credit, .int .i64 x.beside, pv, .int .i64 x.asked, .bool x.came, .bool x.dead, .int .i64 x.clock, .bool true]
def XI (w : World) (xb : Nat) (ev : Value) (x : XM) (pv : Value) : Prop := w.heap[xb]? = some (.cells (x.cells ev pv) 38 (0, 0))
section
variable {w w' : World} {xb : Nat} {ev pv : Value} {x : XM}
theorem XI.cell (h : XI w xb ev x pv) {j : Nat} {v : Value} (hi : (x.cells ev pv)[j]? = some v) : w.cell? ⟨xb, j, none⟩ = some v := by
  rw [cell_of_row w xb _ _ _ _ h]; exact hi
theorem XI.c0 (h : XI w xb ev x pv) : w.cell? ⟨xb, 0, none⟩ = some (ev) := h.cell rfl
theorem XI.c1 (h : XI w xb ev x pv) : w.cell? ⟨xb, 1, none⟩ = some (.int .i64 x.cf.i) := h.cell rfl
theorem XI.c2 (h : XI w xb ev x pv) : w.cell? ⟨xb, 2, none⟩ = some (.int .i64 x.cf.c) := h.cell rfl
theorem XI.c3 (h : XI w xb ev x pv) : w.cell? ⟨xb, 3, none⟩ = some (.int .i64 x.cf.b) := h.cell rfl
theorem XI.c4 (h : XI w xb ev x pv) : w.cell? ⟨xb, 4, none⟩ = some (.int .i64 x.cf.k) := h.cell rfl
theorem XI.c5 (h : XI w xb ev x pv) : w.cell? ⟨xb, 5, none⟩ = some (strV (x.ln 0).text) := h.cell rfl
theorem XI.c6 (h : XI w xb ev x pv) : w.cell? ⟨xb, 6, none⟩ = some (.int .i64 (x.ln 0).read) := h.cell rfl
theorem XI.c7 (h : XI w xb ev x pv) : w.cell? ⟨xb, 7, none⟩ = some (.int .i64 (x.ln 0).bodies) := h.cell rfl
theorem XI.c8 (h : XI w xb ev x pv) : w.cell? ⟨xb, 8, none⟩ = some (.int .i64 (x.ln 0).credit) := h.cell rfl
theorem XI.c9 (h : XI w xb ev x pv) : w.cell? ⟨xb, 9, none⟩ = some (strV (x.ln 1).text) := h.cell rfl
theorem XI.c10 (h : XI w xb ev x pv) : w.cell? ⟨xb, 10, none⟩ = some (.int .i64 (x.ln 1).read) := h.cell rfl
theorem XI.c11 (h : XI w xb ev x pv) : w.cell? ⟨xb, 11, none⟩ = some (.int .i64 (x.ln 1).bodies) := h.cell rfl
theorem XI.c12 (h : XI w xb ev x pv) : w.cell? ⟨xb, 12, none⟩ = some (.int .i64 (x.ln 1).credit) := h.cell rfl
theorem XI.c13 (h : XI w xb ev x pv) : w.cell? ⟨xb, 13, none⟩ = some (strV (x.ln 2).text) := h.cell rfl
theorem XI.c14 (h : XI w xb ev x pv) : w.cell? ⟨xb, 14, none⟩ = some (.int .i64 (x.ln 2).read) := h.cell rfl
theorem XI.c15 (h : XI w xb ev x pv) : w.cell? ⟨xb, 15, none⟩ = some (.int .i64 (x.ln 2).bodies) := h.cell rfl
theorem XI.c16 (h : XI w xb ev x pv) : w.cell? ⟨xb, 16, none⟩ = some (.int .i64 (x.ln 2).credit) := h.cell rfl
theorem XI.c17 (h : XI w xb ev x pv) : w.cell? ⟨xb, 17, none⟩ = some (strV (x.ln 3).text) := h.cell rfl
theorem XI.c18 (h : XI w xb ev x pv) : w.cell? ⟨xb, 18, none⟩ = some (.int .i64 (x.ln 3).read) := h.cell rfl
theorem XI.c19 (h : XI w xb ev x pv) : w.cell? ⟨xb, 19, none⟩ = some (.int .i64 (x.ln 3).bodies) := h.cell rfl
theorem XI.c20 (h : XI w xb ev x pv) : w.cell? ⟨xb, 20, none⟩ = some (.int .i64 (x.ln 3).credit) := h.cell rfl
theorem XI.c21 (h : XI w xb ev x pv) : w.cell? ⟨xb, 21, none⟩ = some (.int .i64 x.force) := h.cell rfl
theorem XI.c22 (h : XI w xb ev x pv) : w.cell? ⟨xb, 22, none⟩ = some (.int .i64 x.told) := h.cell rfl
theorem XI.c23 (h : XI w xb ev x pv) : w.cell? ⟨xb, 23, none⟩ = some (.bool x.waits) := h.cell rfl
theorem XI.c24 (h : XI w xb ev x pv) : w.cell? ⟨xb, 24, none⟩ = some (.int .i64 x.bodies) := h.cell rfl
theorem XI.c25 (h : XI w xb ev x pv) : w.cell? ⟨xb, 25, none⟩ = some (.int .i64 x.credit) := h.cell rfl
theorem XI.c26 (h : XI w xb ev x pv) : w.cell? ⟨xb, 26, none⟩ = some (.int .i64 x.beside) := h.cell rfl
theorem XI.c27 (h : XI w xb ev x pv) : w.cell? ⟨xb, 27, none⟩ = some (pv) := h.cell rfl
theorem XI.c28 (h : XI w xb ev x pv) : w.cell? ⟨xb, 28, none⟩ = some (.int .i64 x.asked) := h.cell rfl
theorem XI.c29 (h : XI w xb ev x pv) : w.cell? ⟨xb, 29, none⟩ = some (.bool x.came) := h.cell rfl
theorem XI.c30 (h : XI w xb ev x pv) : w.cell? ⟨xb, 30, none⟩ = some (.bool x.dead) := h.cell rfl
theorem XI.c31 (h : XI w xb ev x pv) : w.cell? ⟨xb, 31, none⟩ = some (.int .i64 x.clock) := h.cell rfl
theorem XI.c32 (h : XI w xb ev x pv) : w.cell? ⟨xb, 32, none⟩ = some (.bool true) := h.cell rfl
theorem XI.fr (h : XI w xb ev x pv) (j : Nat) : w.frozen? ⟨xb, j, none⟩ = false := by
  have h' : w.heap[xb]? = some (.cells (x.cells ev pv) 38 (0, 0)) := h
  simp [World.frozen?, h']
theorem XI.lt (h : XI w xb ev x pv) : xb < w.heap.size := lt_of_block h
theorem XI.below (h : XI w xb ev x pv) (hb : Below w.heap.size w w') : XI w' xb ev x pv := kept_told h hb
theorem XI.chg {S : Nat → Prop} (h : XI w xb ev x pv) (hc : Chg S w w') (hs : ¬ S xb) : XI w' xb ev x pv := by
  unfold XI
  rw [hc.block xb h.lt hs]
  exact h
theorem XI.set (h : XI w xb ev x pv) {j : Nat} {v pv' ev' : Value} {x' : XM} (hm : (x.cells ev pv).setIfInBounds j v = x'.cells ev' pv') : XI (w.setCell ⟨xb, j, none⟩ v) xb ev' x' pv' := by
  unfold XI
  rw [blk_set h, hm]
end
/-- The Pings that are without an answer. -/
def PnV (w : World) (pv : Value) : Option Nat → Prop
  | none => pv = .slice none 0 0
  | some n => ∃ pb cap, pv = .slice (some ⟨pb, 0, none⟩) 1 cap ∧ 1 ≤ cap ∧ pb < w.heap.size ∧ w.cell? ⟨pb, 0, none⟩ = some (.int .i64 n)
theorem PnV.chg {S : Nat → Prop} {w w' : World} {pv : Value} {o : Option Nat} (h : PnV w pv o) (hc : Chg S w w') (hs : ∀ j, pv.ownBlock = some j → ¬ S j) : PnV w' pv o := by
  cases o with
  | none => exact h
  | some n =>
    obtain ⟨pb, cap, rfl, h1, h2, h3⟩ := h
    refine ⟨pb, cap, rfl, h1, Nat.lt_of_lt_of_le h2 hc.size, ?_⟩
    rw [hc.cell (p := ⟨pb, 0, none⟩) h2 (hs pb rfl)]
    exact h3
/-- The intake at xb, its end at eb with the blocks F. -/
structure In (w : World) (xb eb : Nat) (F : Nat → Prop) (x : XM) (p : GEnd) : Prop where
  xi : ∃ pv, XI w xb (.pointer (some ⟨eb, 0, none⟩)) x pv ∧ PnV w pv x.pn ∧ ∀ j, pv.ownBlock = some j → j ≠ xb ∧ ¬ F j ∧ j < w.heap.size
  nf : ¬ F xb
  st : StE w eb F p
  gl : Gl w
  gx : 7 ≤ xb
  gf : ∀ j, F j → 7 ≤ j
def GoI (w w' : World) (xb eb : Nat) (F : Nat → Prop) (x : XM) (p : GEnd) : Prop := ∃ F', In w' xb eb F' x p ∧ Chg (fun j => F j ∨ j = xb) w w' ∧ ∀ j, F' j → F j ∨ w.heap.size ≤ j
section
variable {w w' w1 w2 : World} {xb eb : Nat} {F F1 : Nat → Prop} {x x' : XM} {p q : GEnd}
theorem In.xlt (h : In w xb eb F x p) : xb < w.heap.size := by
  obtain ⟨pv, h1, -⟩ := h.xi
  exact h1.lt
theorem In.ge (h : In w xb eb F x p) : ∀ j, j < 7 → ¬ F j := fun j hj hf => by have := h.gf j hf; omega
theorem In.below (h : In w xb eb F x p) (hb : Below w.heap.size w w') : In w' xb eb F x p := by
  obtain ⟨pv, h1, h2, h3⟩ := h.xi
  exact ⟨⟨pv, h1.below hb, h2.chg (Chg.of_below (S := fun _ => False) hb) (fun _ _ => id), fun j hj => ⟨(h3 j hj).1, (h3 j hj).2.1, Nat.lt_of_lt_of_le (h3 j hj).2.2 hb.size⟩⟩, h.nf, h.st.below hb, h.gl.below hb, h.gx, h.gf⟩
theorem GoI.one (h : In w xb eb F x p) : GoI w w xb eb F x p := ⟨F, h, Chg.refl _ _, fun _ hj => Or.inl hj⟩
theorem GoI.of_below (h : In w xb eb F x p) (hb : Below w.heap.size w w') : GoI w w' xb eb F x p := ⟨F, h.below hb, Chg.of_below hb, fun _ hj => Or.inl hj⟩
theorem GoI.then (hc : Chg (fun j => F j ∨ j = xb) w w1) (hF : ∀ j, F1 j → F j ∨ w.heap.size ≤ j) (h : GoI w1 w2 xb eb F1 x p) : GoI w w2 xb eb F x p := by
  obtain ⟨F2, h1, h2, h3⟩ := h
  refine ⟨F2, h1, hc.trans (h2.mono fun j _ e => ?_), fun j hj => ?_⟩
  · rcases e with e | e
    · rcases hF j e with a | a
      · exact Or.inr (Or.inl a)
      · exact Or.inl a
    · exact Or.inr (Or.inr e)
  · rcases h3 j hj with a | a
    · exact hF j a
    · exact Or.inr (Nat.le_trans hc.size a)
theorem GoI.pre (hb : Below w.heap.size w w1) (h : GoI w1 w2 xb eb F x p) : GoI w w2 xb eb F x p := GoI.then (F1 := F) (Chg.of_below hb) (fun j hj => Or.inl hj) h
theorem GoI.post (h : GoI w w1 xb eb F x p) (hb : Below w1.heap.size w1 w2) : GoI w w2 xb eb F x p := by
  obtain ⟨F2, h1, h2, h3⟩ := h
  exact ⟨F2, h1.below hb, h2.then_below hb, h3⟩
theorem GoI.trans (h : GoI w w1 xb eb F x p) (h2 : ∀ F1, In w1 xb eb F1 x p → GoI w1 w2 xb eb F1 x' q) : GoI w w2 xb eb F x' q := by
  obtain ⟨F2, h1, hc, hF⟩ := h
  exact GoI.then hc hF (h2 F2 h1)
/-- The end alone went on. -/
theorem In.ends (h : In w xb eb F x p) (hg : GoE w w' eb F q) : GoI w w' xb eb F x q := by
  obtain ⟨F', h1, h2, h3⟩ := hg
  obtain ⟨pv, k1, k2, k3⟩ := h.xi
  have hge : ∀ j, F' j → 7 ≤ j := fun j hj => by
    rcases h3 j hj with a | a
    · exact h.gf j a
    · have := h.xlt; have := h.gx; omega
  refine ⟨F', ⟨⟨pv, k1.chg h2 h.nf, k2.chg h2 (fun j hj => (k3 j hj).2.1), fun j hj => ⟨(k3 j hj).1, fun hf => ?_, Nat.lt_of_lt_of_le (k3 j hj).2.2 h2.size⟩⟩, fun hf => ?_, h1, h.gl.chg h2 h.ge, h.gx, hge⟩, h2.mono fun j _ e => Or.inl e, h3⟩
  · rcases h3 j hf with a | a
    · exact (k3 j hj).2.1 a
    · have := (k3 j hj).2.2; omega
  · rcases h3 xb hf with a | a
    · exact h.nf a
    · have := h.xlt; omega
/-- The intake alone was written. -/
theorem In.writes (h : In w xb eb F x p) (hc : Chg (fun j => j = xb) w w') (hx : ∃ pv, XI w' xb (.pointer (some ⟨eb, 0, none⟩)) x' pv ∧ PnV w' pv x'.pn ∧ ∀ j, pv.ownBlock = some j → j ≠ xb ∧ ¬ F j ∧ j < w'.heap.size) : In w' xb eb F x' p :=
  ⟨hx, h.nf, h.st.chg hc (fun j hj e => by subst e; exact h.nf hj), h.gl.chg hc (fun j hj e => by have := h.gx; omega), h.gx, h.gf⟩
theorem In.write (h : In w xb eb F x p) (hc : Chg (fun j => j = xb) w w') {pv : Value} (hx : XI w' xb (.pointer (some ⟨eb, 0, none⟩)) x' pv) (hp : PnV w pv x'.pn) (hn : ∀ j, pv.ownBlock = some j → j ≠ xb ∧ ¬ F j ∧ j < w.heap.size) : GoI w w' xb eb F x' p :=
  ⟨F, h.writes hc ⟨pv, hx, hp.chg hc (fun j hj e => (hn j hj).1 e), fun j hj => ⟨(hn j hj).1, (hn j hj).2.1, Nat.lt_of_lt_of_le (hn j hj).2.2 hc.size⟩⟩, hc.mono fun j _ e => Or.inr e, fun _ hj => Or.inl hj⟩
end
end Go.Proofs.YtlhlmgfblbpdpaaGreatDoor
/-
  Package ends: ConfigFits, newTuner, Set, Tick.
-/
namespace Go.Proofs.YtlhlmgfblbpdpaaGreatDoor
set_option linter.unusedVariables false
set_option linter.unusedSimpArgs false
open Go.RowKit

end Go.Proofs.YtlhlmgfblbpdpaaGreatDoor
/-
  Package ends: newStreams.
-/
namespace Go.Proofs.YtlhlmgfblbpdpaaGreatDoor
set_option linter.unusedVariables false
set_option linter.unusedSimpArgs false
open Go.RowKit

end Go.Proofs.YtlhlmgfblbpdpaaGreatDoor
