import Derived.Test.YtiphkngfbpdeoaaGreatDoorUGal
import Derived.Test.YtiphkngfbpdeoaaGreatDoorUGag
import Derived.Test.YtiphkngfbpdeoaaGreatDoorUGak
set_option linter.unusedVariables false
set_option linter.unusedSimpArgs false
/-
  Package ends: what bytes do that are no fault: take, Feed.
-/
namespace Go.Proofs.YtiphkngfbpdeoaaGreatDoor
set_option linter.unusedVariables false
set_option linter.unusedSimpArgs false
open Go.RowKit

theorem counted_bare (m : EndM) (n : Int) : (m.counted n).bare = m.bare.counted n := by
  unfold EndM.counted
  by_cases h1 : m.under = true
  · rw [if_pos h1, if_pos (show m.bare.under = true from h1)]; rfl
  · rw [if_neg h1, if_neg (show ¬ m.bare.under = true from h1)]
    by_cases h2 : 1 ≤ n ∧ m.target < m.most
    · rw [if_pos h2, if_pos (show 1 ≤ n ∧ m.bare.target < m.bare.most from h2)]; rfl
    · rw [if_neg h2, if_neg (show ¬ (1 ≤ n ∧ m.bare.target < m.bare.most) from h2)]
theorem got_bare (m : EndM) (n : Nat) : (m.got_ n).bare = m.bare.got_ n := counted_bare { m with receive := m.receive - n } n
def GEnd.begin (p : GEnd) : GEnd := { p with m := { p.m with begun := true } }
/-- What a frame does that is no fault. -/
def Come (p : GEnd) (z1 : Fr) (z2 : GEnd) : Prop := ∀ Z : Fr → GEnd → Prop, (∀ (fl : Int) (b : List UInt8) (hf : 0 ≤ fl ∧ fl ≤ 255) (ha : hasB fl 1 = false) (hK : p.K = []) (hA : p.ans = []) (hv : p.m.answers = .slice none 0 0) (hb : p.m.bstream = 0), Z ⟨3, fl, 0, b⟩ { p with m := { p.m with begun := true, other := num4 b, answers := .tuple #[] }, ans := [⟨3, 1, [], .slice none 0 0⟩] }) → (∀ (fl n : Int) (hf : 0 ≤ fl ∧ fl ≤ 255) (hla : hasB fl 4 = true) (hop : p.m.opensN n = false) (hnw : p.m.newest < n) (h4 : p.L.length < 4) (hn : ∀ x ∈ p.K, x.st.number ≠ n) (hup : ∀ i (h : i + 1 < (p.L ++ [n]).length), (p.L ++ [n])[i] ≤ (p.L ++ [n])[i + 1]) (hb : p.m.bstream = 0) (hg : p.m.begun = true), Z ⟨1, fl, n, []⟩ (p.begin.opened n (hasB fl 1))) → (∀ (fl : Int) (s : GSt) (b : List UInt8) (hs : s ∈ p.K) (hf : 0 ≤ fl ∧ fl ≤ 255) (hp : hasB fl 8 = false) (ha : s.st.announced = true) (hh : s.st.hasAll = false) (hr : s.st.reset = 0) (hcl : ({ s.st with hasAll := hasB fl 1 } : StM).closed = false) (hlen : b.length ≤ 1073741824) (hun : s.un.length ≤ 1073741824) (hfl : b.length = 0 ∨ ((b.length : Int) ≤ p.m.receive ∧ (b.length : Int) ≤ p.m.own + s.st.receive)) (b1 : -1099511627776 ≤ p.m.receive ∧ p.m.receive ≤ 1099511627776) (b2 : -1099511627776 ≤ p.m.owed ∧ p.m.owed ≤ 1099511627776) (b3 : 0 ≤ p.m.count ∧ p.m.count ≤ 1099511627776) (b4 : -1099511627776 ≤ p.m.own ∧ p.m.own ≤ 1099511627776) (b5 : -1099511627776 ≤ s.st.receive ∧ s.st.receive ≤ 1099511627776) (b6 : -1099511627776 ≤ s.st.owed ∧ s.st.owed ≤ 1099511627776) (hb : p.m.bstream = 0) (hg : p.m.begun = true), Z ⟨0, fl, s.st.number, b⟩ { p with m := p.begin.m.got_ b.length, K := updN s.st.number (fun s => s.more b (hasB fl 1)) p.K }) → (∀ (fl : Int) (s : GSt) (b : List UInt8) (hs : s ∈ p.K) (hf : 0 ≤ fl ∧ fl ≤ 255) (hp : hasB fl 8 = false) (ha : s.st.announced = true) (hh : s.st.hasAll = false) (hr : s.st.reset = 1) (hlen : b.length ≤ 1073741824) (hfl : b.length = 0 ∨ (b.length : Int) ≤ p.m.receive) (b1 : -1099511627776 ≤ p.m.receive ∧ p.m.receive ≤ 1099511627776) (b2 : -1099511627776 ≤ p.m.owed ∧ p.m.owed ≤ 1099511627776) (b3 : 0 ≤ p.m.count ∧ p.m.count ≤ 1099511627776) (hb : p.m.bstream = 0) (hg : p.m.begun = true), Z ⟨0, fl, s.st.number, b⟩ { p with m := (p.begin.m.got_ b.length).owes b.length }) → (∀ (fl : Int) (k : Nat) (b : List UInt8) (hk : k < p.L.length) (hf : 0 ≤ fl ∧ fl ≤ 255) (ha : (atN p.K p.L[k]).st.announced = true) (hcl : (atN p.K p.L[k]).st.closed = false) (hL : p.L.length ≤ 1048576) (hul : (atN p.K p.L[k]).un.length ≤ 1048576) (b2 : -1099511627776 ≤ p.m.owed ∧ p.m.owed ≤ 1099511627776) (hb : p.m.bstream = 0) (hg : p.m.begun = true), Z ⟨2, fl, p.L[k], b⟩ { p with m := p.begin.m.owes (atN p.K p.L[k]).un.length, K := updN p.L[k] (fun s => s.drop 2) p.K, L := p.L.eraseIdx k }) → Z z1 z2
theorem Come.settings {p : GEnd} (fl : Int) (b : List UInt8) (hf : 0 ≤ fl ∧ fl ≤ 255) (ha : hasB fl 1 = false) (hK : p.K = []) (hA : p.ans = []) (hv : p.m.answers = .slice none 0 0) (hb : p.m.bstream = 0) : Come p ⟨3, fl, 0, b⟩ { p with m := { p.m with begun := true, other := num4 b, answers := .tuple #[] }, ans := [⟨3, 1, [], .slice none 0 0⟩] } := fun Z zk1 zk2 zk3 zk4 zk5 => zk1 fl b hf ha hK hA hv hb
theorem Come.headers {p : GEnd} (fl n : Int) (hf : 0 ≤ fl ∧ fl ≤ 255) (hla : hasB fl 4 = true) (hop : p.m.opensN n = false) (hnw : p.m.newest < n) (h4 : p.L.length < 4) (hn : ∀ x ∈ p.K, x.st.number ≠ n) (hup : ∀ i (h : i + 1 < (p.L ++ [n]).length), (p.L ++ [n])[i] ≤ (p.L ++ [n])[i + 1]) (hb : p.m.bstream = 0) (hg : p.m.begun = true) : Come p ⟨1, fl, n, []⟩ (p.begin.opened n (hasB fl 1)) := fun Z zk1 zk2 zk3 zk4 zk5 => zk2 fl n hf hla hop hnw h4 hn hup hb hg
theorem Come.kept {p : GEnd} (fl : Int) (s : GSt) (b : List UInt8) (hs : s ∈ p.K) (hf : 0 ≤ fl ∧ fl ≤ 255) (hp : hasB fl 8 = false) (ha : s.st.announced = true) (hh : s.st.hasAll = false) (hr : s.st.reset = 0) (hcl : ({ s.st with hasAll := hasB fl 1 } : StM).closed = false) (hlen : b.length ≤ 1073741824) (hun : s.un.length ≤ 1073741824) (hfl : b.length = 0 ∨ ((b.length : Int) ≤ p.m.receive ∧ (b.length : Int) ≤ p.m.own + s.st.receive)) (b1 : -1099511627776 ≤ p.m.receive ∧ p.m.receive ≤ 1099511627776) (b2 : -1099511627776 ≤ p.m.owed ∧ p.m.owed ≤ 1099511627776) (b3 : 0 ≤ p.m.count ∧ p.m.count ≤ 1099511627776) (b4 : -1099511627776 ≤ p.m.own ∧ p.m.own ≤ 1099511627776) (b5 : -1099511627776 ≤ s.st.receive ∧ s.st.receive ≤ 1099511627776) (b6 : -1099511627776 ≤ s.st.owed ∧ s.st.owed ≤ 1099511627776) (hb : p.m.bstream = 0) (hg : p.m.begun = true) : Come p ⟨0, fl, s.st.number, b⟩ { p with m := p.begin.m.got_ b.length, K := updN s.st.number (fun s => s.more b (hasB fl 1)) p.K } := fun Z zk1 zk2 zk3 zk4 zk5 => zk3 fl s b hs hf hp ha hh hr hcl hlen hun hfl b1 b2 b3 b4 b5 b6 hb hg
theorem Come.lost {p : GEnd} (fl : Int) (s : GSt) (b : List UInt8) (hs : s ∈ p.K) (hf : 0 ≤ fl ∧ fl ≤ 255) (hp : hasB fl 8 = false) (ha : s.st.announced = true) (hh : s.st.hasAll = false) (hr : s.st.reset = 1) (hlen : b.length ≤ 1073741824) (hfl : b.length = 0 ∨ (b.length : Int) ≤ p.m.receive) (b1 : -1099511627776 ≤ p.m.receive ∧ p.m.receive ≤ 1099511627776) (b2 : -1099511627776 ≤ p.m.owed ∧ p.m.owed ≤ 1099511627776) (b3 : 0 ≤ p.m.count ∧ p.m.count ≤ 1099511627776) (hb : p.m.bstream = 0) (hg : p.m.begun = true) : Come p ⟨0, fl, s.st.number, b⟩ { p with m := (p.begin.m.got_ b.length).owes b.length } := fun Z zk1 zk2 zk3 zk4 zk5 => zk4 fl s b hs hf hp ha hh hr hlen hfl b1 b2 b3 hb hg
theorem Come.reset {p : GEnd} (fl : Int) (k : Nat) (b : List UInt8) (hk : k < p.L.length) (hf : 0 ≤ fl ∧ fl ≤ 255) (ha : (atN p.K p.L[k]).st.announced = true) (hcl : (atN p.K p.L[k]).st.closed = false) (hL : p.L.length ≤ 1048576) (hul : (atN p.K p.L[k]).un.length ≤ 1048576) (b2 : -1099511627776 ≤ p.m.owed ∧ p.m.owed ≤ 1099511627776) (hb : p.m.bstream = 0) (hg : p.m.begun = true) : Come p ⟨2, fl, p.L[k], b⟩ { p with m := p.begin.m.owes (atN p.K p.L[k]).un.length, K := updN p.L[k] (fun s => s.drop 2) p.K, L := p.L.eraseIdx k } := fun Z zk1 zk2 zk3 zk4 zk5 => zk5 fl k b hk hf ha hcl hL hul b2 hb hg
theorem Come.ind {p : GEnd} {motive : ∀ (z1 : Fr) (z2 : GEnd), Come p z1 z2 → Prop} (settings : ∀ (fl : Int) (b : List UInt8) (hf : 0 ≤ fl ∧ fl ≤ 255) (ha : hasB fl 1 = false) (hK : p.K = []) (hA : p.ans = []) (hv : p.m.answers = .slice none 0 0) (hb : p.m.bstream = 0), motive ⟨3, fl, 0, b⟩ { p with m := { p.m with begun := true, other := num4 b, answers := .tuple #[] }, ans := [⟨3, 1, [], .slice none 0 0⟩] } (@Come.settings p fl b hf ha hK hA hv hb)) (headers : ∀ (fl n : Int) (hf : 0 ≤ fl ∧ fl ≤ 255) (hla : hasB fl 4 = true) (hop : p.m.opensN n = false) (hnw : p.m.newest < n) (h4 : p.L.length < 4) (hn : ∀ x ∈ p.K, x.st.number ≠ n) (hup : ∀ i (h : i + 1 < (p.L ++ [n]).length), (p.L ++ [n])[i] ≤ (p.L ++ [n])[i + 1]) (hb : p.m.bstream = 0) (hg : p.m.begun = true), motive ⟨1, fl, n, []⟩ (p.begin.opened n (hasB fl 1)) (@Come.headers p fl n hf hla hop hnw h4 hn hup hb hg)) (kept : ∀ (fl : Int) (s : GSt) (b : List UInt8) (hs : s ∈ p.K) (hf : 0 ≤ fl ∧ fl ≤ 255) (hp : hasB fl 8 = false) (ha : s.st.announced = true) (hh : s.st.hasAll = false) (hr : s.st.reset = 0) (hcl : ({ s.st with hasAll := hasB fl 1 } : StM).closed = false) (hlen : b.length ≤ 1073741824) (hun : s.un.length ≤ 1073741824) (hfl : b.length = 0 ∨ ((b.length : Int) ≤ p.m.receive ∧ (b.length : Int) ≤ p.m.own + s.st.receive)) (b1 : -1099511627776 ≤ p.m.receive ∧ p.m.receive ≤ 1099511627776) (b2 : -1099511627776 ≤ p.m.owed ∧ p.m.owed ≤ 1099511627776) (b3 : 0 ≤ p.m.count ∧ p.m.count ≤ 1099511627776) (b4 : -1099511627776 ≤ p.m.own ∧ p.m.own ≤ 1099511627776) (b5 : -1099511627776 ≤ s.st.receive ∧ s.st.receive ≤ 1099511627776) (b6 : -1099511627776 ≤ s.st.owed ∧ s.st.owed ≤ 1099511627776) (hb : p.m.bstream = 0) (hg : p.m.begun = true), motive ⟨0, fl, s.st.number, b⟩ { p with m := p.begin.m.got_ b.length, K := updN s.st.number (fun s => s.more b (hasB fl 1)) p.K } (@Come.kept p fl s b hs hf hp ha hh hr hcl hlen hun hfl b1 b2 b3 b4 b5 b6 hb hg)) (lost : ∀ (fl : Int) (s : GSt) (b : List UInt8) (hs : s ∈ p.K) (hf : 0 ≤ fl ∧ fl ≤ 255) (hp : hasB fl 8 = false) (ha : s.st.announced = true) (hh : s.st.hasAll = false) (hr : s.st.reset = 1) (hlen : b.length ≤ 1073741824) (hfl : b.length = 0 ∨ (b.length : Int) ≤ p.m.receive) (b1 : -1099511627776 ≤ p.m.receive ∧ p.m.receive ≤ 1099511627776) (b2 : -1099511627776 ≤ p.m.owed ∧ p.m.owed ≤ 1099511627776) (b3 : 0 ≤ p.m.count ∧ p.m.count ≤ 1099511627776) (hb : p.m.bstream = 0) (hg : p.m.begun = true), motive ⟨0, fl, s.st.number, b⟩ { p with m := (p.begin.m.got_ b.length).owes b.length } (@Come.lost p fl s b hs hf hp ha hh hr hlen hfl b1 b2 b3 hb hg)) (reset : ∀ (fl : Int) (k : Nat) (b : List UInt8) (hk : k < p.L.length) (hf : 0 ≤ fl ∧ fl ≤ 255) (ha : (atN p.K p.L[k]).st.announced = true) (hcl : (atN p.K p.L[k]).st.closed = false) (hL : p.L.length ≤ 1048576) (hul : (atN p.K p.L[k]).un.length ≤ 1048576) (b2 : -1099511627776 ≤ p.m.owed ∧ p.m.owed ≤ 1099511627776) (hb : p.m.bstream = 0) (hg : p.m.begun = true), motive ⟨2, fl, p.L[k], b⟩ { p with m := p.begin.m.owes (atN p.K p.L[k]).un.length, K := updN p.L[k] (fun s => s.drop 2) p.K, L := p.L.eraseIdx k } (@Come.reset p fl k b hk hf ha hcl hL hul b2 hb hg)) {z1 : Fr} {z2 : GEnd} (zt : Come p z1 z2) : motive z1 z2 zt := (zt (fun z1 z2 => ∃ zt : Come p z1 z2, motive z1 z2 zt) (fun fl b hf ha hK hA hv hb => ⟨_, @settings fl b hf ha hK hA hv hb⟩) (fun fl n hf hla hop hnw h4 hn hup hb hg => ⟨_, @headers fl n hf hla hop hnw h4 hn hup hb hg⟩) (fun fl s b hs hf hp ha hh hr hcl hlen hun hfl b1 b2 b3 b4 b5 b6 hb hg => ⟨_, @kept fl s b hs hf hp ha hh hr hcl hlen hun hfl b1 b2 b3 b4 b5 b6 hb hg⟩) (fun fl s b hs hf hp ha hh hr hlen hfl b1 b2 b3 hb hg => ⟨_, @lost fl s b hs hf hp ha hh hr hlen hfl b1 b2 b3 hb hg⟩) (fun fl k b hk hf ha hcl hL hul b2 hb hg => ⟨_, @reset fl k b hk hf ha hcl hL hul b2 hb hg⟩)).elim fun _ zx => zx

theorem mem_bare {g : GEnd} {p : GEnd} (hp : g.bare = p) {s : GSt} (hs : s ∈ p.K) : ∃ x ∈ g.K, x.bare = s := by
  rw [← hp] at hs
  exact List.mem_map.1 hs

theorem up_eq {l l' : List Int} (e : l = l') (h : ∀ i (h : i + 1 < l'.length), l'[i] ≤ l'[i + 1]) : ∀ i (h : i + 1 < l.length), l[i] ≤ l[i + 1] := by subst e; exact h
/-- A frame that is no fault comes. -/
theorem i_come (eb mb : Nat) (g p q : GEnd) (f : Fr) (bv cv : Value) (w : World) (h : Inv w eb mb g) (hp : g.bare = p) (hc : Come p f q) (hgl : Gl w) (hge : ∀ j, j < 7 → ¬ Foot eb mb g j) (hbv : w.ownsRow 0 5 1 bv f.body.length (f.body.map B)) (hbn : ∀ j, bv.ownBlock = some j → ¬ Foot eb mb g j) (hcv : f.kind = 0 → ContV f.flags bv cv f.body) :
    Calls Tryz.prog 66 #[.pointer (some ⟨eb, 0, none⟩), frV f.kind f.flags f.stream bv cv f.body] w fun e w' => e = .returned (.tuple #[]) ∧ ∃ g', g'.bare = q ∧ Next w w' eb mb g g' := by
  have hbs : g.m.bstream = p.m.bstream := by rw [← hp]; rfl
  have hbg : g.m.begun = p.m.begun := by rw [← hp]; rfl
  obtain ⟨sv, cb, hsv⟩ := slice_len hbv
  have hah : ∀ {w1 : World} {g1 : GEnd}, Ahead w w1 eb mb g g1 → g1.bare = p.begin ∧ Next w w1 eb mb g g1 ∧ BytesIn w1 bv f.body ∧ ∀ j, bv.ownBlock = some j → ¬ Foot eb mb g1 j := fun {w1 g1} ha => by
    obtain ⟨h1, h2⟩ := ha
    obtain ⟨h3, h4⟩ := h2.bytes (bytesIn_of_owns hbv rfl) hbn
    refine ⟨?_, h2, h3, h4⟩
    rw [h1, ← hp]
    rfl
  cases hc using Come.ind with
  | settings fl b hf ha hK hA hv hb =>
    rw [show frV (Fr.mk 3 fl 0 b).kind (Fr.mk 3 fl 0 b).flags (Fr.mk 3 fl 0 b).stream bv cv (Fr.mk 3 fl 0 b).body = .iface 167 (.agg #[.int .i64 3, .int .i64 fl, .int .i64 0, .slice sv b.length cb, .int .i64 (num4 b)]) from by
      simp only at hsv
      unfold frV
      simp [hsv, ha]]
    refine come_settings eb mb g w (fun w' => ∃ g', g'.bare = _ ∧ Next w w' eb mb g g') fl (num4 b) sv b.length cb h (by rw [hbs]; exact hb) ha hf ?_
    intro w1 g1 hah1
    obtain ⟨e1, n1, -, -⟩ := hah hah1
    have hK1 : g1.K = [] := by
      have := congrArg GEnd.K e1
      simpa [GEnd.bare, GEnd.begin, hK] using this
    have hA1 : g1.ans = [] := by
      have := congrArg GEnd.ans e1
      simpa [GEnd.bare, GEnd.begin, hA] using this
    have hv1 : g1.m.answers = .slice none 0 0 := by
      have e2 : nilV g1.m.answers = .slice none 0 0 := by
        have := congrArg (fun x : GEnd => x.m.answers) e1
        simpa [GEnd.bare, EndM.bare, GEnd.begin, hv] using this
      rcases n1.inv.ans.2 with ⟨h1, -⟩ | ⟨a1, a2, a3, a4, h1, -⟩
      · exact h1
      · rw [h1] at e2; cases e2
    refine (comeSettings_none eb mb g1 fl (num4 b) sv b.length cb w1 n1.inv hf ha hK1 hv1 hA1).mono ?_
    rintro e w' ⟨rfl, g', h1, h2⟩
    refine ⟨rfl, g', ?_, n1.trans h2⟩
    rw [h1]
    have e3 : ({ g1 with m := { g1.m with other := num4 b, answers := .tuple #[] }, ans := [⟨3, 1, [], .slice none 0 0⟩] } : GEnd).bare = { g1.bare with m := { g1.bare.m with other := num4 b, answers := .tuple #[] }, ans := [⟨3, 1, [], .slice none 0 0⟩] } := rfl
    rw [e3, e1]
    rfl
  | headers fl n hf hla hop hnw h4 hn hup hb hg =>
    rw [show frV (Fr.mk 1 fl n []).kind (Fr.mk 1 fl n []).flags (Fr.mk 1 fl n []).stream bv cv (Fr.mk 1 fl n []).body = .iface 158 (.agg #[.int .i64 1, .int .i64 fl, .int .i64 n, .slice sv 0 cb, .slice sv 0 cb]) from by
      simp only [List.length_nil] at hsv
      unfold frV
      simp [hsv]]
    have hsn : sv = none → cb = 0 := fun e => by
      subst e
      rcases hbv.2 with ⟨h1, -⟩ | ⟨a1, a2, a3, h1, -⟩
      · rw [hsv] at h1; simp at h1; exact h1
      · rw [hsv] at h1; simp at h1
    refine come_headers eb mb g w (fun w' => ∃ g', g'.bare = _ ∧ Next w w' eb mb g g') fl n sv 0 cb h (by rw [hbs]; exact hb) (by rw [hbg]; exact hg) ?_
    intro w1 g1 hah1
    obtain ⟨e1, n1, -, -⟩ := hah hah1
    have hL1 : g1.L = p.L := by have := congrArg GEnd.L e1; exact this
    have hge1 : ∀ j, j < 7 → ¬ Foot eb mb g1 j := fun j hj hf => by
      rcases n1.grow j hf with a | a
      · exact hge j hj a
      · have := hgl.lt; omega
    have hgl1 : Gl w1 := hgl.chg n1.chg hge
    refine (comeHeaders_nil eb mb g1 fl n sv cb w1 n1.inv hgl1 hge1 hsn hf hla ?_ ?_ ?_ ?_ ?_ ?_).mono ?_
    · have : g1.m.opensN n = p.m.opensN n := by
        have e2 : g1.bare.m.opensN n = p.begin.m.opensN n := by rw [e1]
        exact e2
      rw [this]; exact hop
    · have : g1.m.newest = p.m.newest := by have := congrArg (fun x : GEnd => x.m.newest) e1; exact this
      rw [this]; exact hnw
    · rw [hL1]; omega
    · intro x hx e
      have hx2 : x.bare ∈ p.K := by
        have : g1.bare.K = p.K := by have := congrArg GEnd.K e1; exact this
        rw [← this]
        exact List.mem_map.2 ⟨x, hx, rfl⟩
      exact hn _ hx2 e
    · exact up_eq (by rw [hL1]) hup
    · rw [hL1]; omega
    · rintro e w' ⟨rfl, g', h1, h2⟩
      refine ⟨rfl, g', ?_, n1.trans h2⟩
      rw [h1]
      have e3 : (g1.opened n (hasB fl 1)).bare = g1.bare.opened n (hasB fl 1) := by
        unfold GEnd.opened GEnd.bare
        simp only [GEnd.mk.injEq, true_and, and_true]
        refine ⟨rfl, ?_⟩
        rw [List.map_append]
        rfl
      rw [e3, e1]
  | kept fl s b hs hf hpd ha hh hr hcl hlen hun hfl b1 b2 b3 b4 b5 b6 hb hg =>
    have hcb : cv = bv := by
      have := hcv rfl
      unfold ContV at this
      rw [hpd] at this
      simpa using this
    rw [show frV (Fr.mk 0 fl s.st.number b).kind (Fr.mk 0 fl s.st.number b).flags (Fr.mk 0 fl s.st.number b).stream bv cv (Fr.mk 0 fl s.st.number b).body = .iface 155 (dataV fl s.st.number sv b.length cb) from by
      simp only at hsv
      unfold frV dataV
      simp [hcb, hsv]]
    refine come_data eb mb g w (fun w' => ∃ g', g'.bare = _ ∧ Next w w' eb mb g g') fl s.st.number sv b.length cb h (by rw [hbs]; exact hb) (by rw [hbg]; exact hg) ?_
    intro w1 g1 hah1
    obtain ⟨e1, n1, hby, hnf⟩ := hah hah1
    obtain ⟨x, hx, rfl⟩ := mem_bare e1 hs
    simp only at hsv hby
    rw [hsv] at hby hnf
    have hmm : g1.bare.m = p.begin.m := congrArg GEnd.m e1
    have m1 : g1.m.receive = p.m.receive := by have := congrArg (fun m : EndM => m.receive) hmm; exact this
    have m2 : g1.m.owed = p.m.owed := by have := congrArg (fun m : EndM => m.owed) hmm; exact this
    have m3 : g1.m.count = p.m.count := by have := congrArg (fun m : EndM => m.count) hmm; exact this
    have m4 : g1.m.own = p.m.own := by have := congrArg (fun m : EndM => m.own) hmm; exact this
    refine (comeData_kept eb mb g1 x fl sv b cb w1 n1.inv hx ha hh hr hf hcl hby hnf hlen hun (by rw [m1, m4]; exact hfl) (by rw [m1]; exact b1) (by rw [m2]; exact b2) (by rw [m3]; exact b3) (by rw [m4]; exact b4) b5 b6).mono ?_
    rintro e w' ⟨rfl, g', h1, h2⟩
    refine ⟨rfl, g', ?_, n1.trans h2⟩
    rw [h1]
    have e3 : ({ g1 with m := g1.m.got_ b.length, K := updN x.st.number (fun s => s.more b (hasB fl 1)) g1.K } : GEnd).bare = { g1.bare with m := g1.bare.m.got_ b.length, K := updN x.st.number (fun s => s.more b (hasB fl 1)) g1.bare.K } := by
      unfold GEnd.bare
      simp only [GEnd.mk.injEq, true_and, and_true]
      exact ⟨got_bare _ _, updN_bare _ (fun s => s.more b (hasB fl 1)) (fun s => rfl) _⟩
    rw [e3, e1]
    rfl
  | lost fl s b hs hf hpd ha hh hr hlen hfl b1 b2 b3 hb hg =>
    have hcb : cv = bv := by
      have := hcv rfl
      unfold ContV at this
      rw [hpd] at this
      simpa using this
    rw [show frV (Fr.mk 0 fl s.st.number b).kind (Fr.mk 0 fl s.st.number b).flags (Fr.mk 0 fl s.st.number b).stream bv cv (Fr.mk 0 fl s.st.number b).body = .iface 155 (dataV fl s.st.number sv b.length cb) from by
      simp only at hsv
      unfold frV dataV
      simp [hcb, hsv]]
    refine come_data eb mb g w (fun w' => ∃ g', g'.bare = _ ∧ Next w w' eb mb g g') fl s.st.number sv b.length cb h (by rw [hbs]; exact hb) (by rw [hbg]; exact hg) ?_
    intro w1 g1 hah1
    obtain ⟨e1, n1, hby, hnf⟩ := hah hah1
    obtain ⟨x, hx, rfl⟩ := mem_bare e1 hs
    have hmm : g1.bare.m = p.begin.m := congrArg GEnd.m e1
    have m1 : g1.m.receive = p.m.receive := by have := congrArg (fun m : EndM => m.receive) hmm; exact this
    have m2 : g1.m.owed = p.m.owed := by have := congrArg (fun m : EndM => m.owed) hmm; exact this
    have m3 : g1.m.count = p.m.count := by have := congrArg (fun m : EndM => m.count) hmm; exact this
    refine (comeData_lost eb mb g1 x fl sv b.length cb w1 n1.inv hx ha hh hr hlen (by rw [m1]; exact hfl) (by rw [m1]; exact b1) (by rw [m2]; exact b2) (by rw [m3]; exact b3)).mono ?_
    rintro e w' ⟨rfl, h2⟩
    refine ⟨rfl, _, ?_, n1.trans h2⟩
    have e3 : ({ g1 with m := (g1.m.got_ b.length).owes b.length } : GEnd).bare = { g1.bare with m := (g1.bare.m.got_ b.length).owes b.length } := by
      unfold GEnd.bare
      simp only [GEnd.mk.injEq, true_and, and_true]
      have := congrArg (fun m : EndM => m.owes b.length) (got_bare g1.m b.length)
      exact this
    rw [e3, e1]
    rfl
  | reset fl k b hk hf ha hcl hL hul b2 hb hg =>
    rw [show frV (Fr.mk 2 fl p.L[k] b).kind (Fr.mk 2 fl p.L[k] b).flags (Fr.mk 2 fl p.L[k] b).stream bv cv (Fr.mk 2 fl p.L[k] b).body = .iface 164 (.agg #[.int .i64 2, .int .i64 fl, .int .i64 p.L[k], .slice sv b.length cb]) from by
      simp only at hsv
      unfold frV
      simp [hsv]]
    refine come_reset eb mb g w (fun w' => ∃ g', g'.bare = _ ∧ Next w w' eb mb g g') fl p.L[k] sv b.length cb h (by rw [hbs]; exact hb) (by rw [hbg]; exact hg) ?_
    intro w1 g1 hah1
    obtain ⟨e1, n1, -, -⟩ := hah hah1
    have hL1 : g1.L = p.L := by have := congrArg GEnd.L e1; exact this
    have hk1 : k < g1.L.length := by rw [hL1]; exact hk
    have hLk : g1.L[k] = p.L[k] := by simp only [hL1]
    have hK1 : g1.K.map GSt.bare = p.K := by have := congrArg GEnd.K e1; exact this
    have hat : (atN g1.K p.L[k]).bare = atN p.K p.L[k] := by rw [← hK1, atN_bare]
    have m2 : g1.m.owed = p.m.owed := by have := congrArg (fun x : GEnd => x.m.owed) e1; exact this
    have q1 : (atN g1.K p.L[k]).st.announced = true := by
      have : (atN g1.K p.L[k]).bare.st.announced = true := by rw [hat]; exact ha
      exact this
    have q2 : (atN g1.K p.L[k]).st.closed = false := by
      have : (atN g1.K p.L[k]).bare.st.closed = false := by rw [hat]; exact hcl
      exact this
    have q3 : (atN g1.K p.L[k]).un = (atN p.K p.L[k]).un := by
      have : (atN g1.K p.L[k]).bare.un = (atN p.K p.L[k]).un := by rw [hat]
      exact this
    rw [← hLk] at q1 q2 q3
    have hcr := comeReset_ok eb mb g1 k fl sv b.length cb w1 n1.inv hk1 q1 q2 (by rw [hL1]; exact hL) (by rw [q3, hLk]; exact hul) (by rw [m2]; exact b2)
    rw [hLk] at hcr q3
    refine hcr.mono ?_
    rintro e w' ⟨rfl, g', h1, h2, -, -⟩
    refine ⟨rfl, g', ?_, n1.trans h2⟩
    rw [h1, q3, hL1]
    have e3 : ({ g1 with m := g1.m.owes (atN p.K p.L[k]).un.length, K := updN p.L[k] (fun s => s.drop 2) g1.K, L := p.L.eraseIdx k } : GEnd).bare = { g1.bare with m := g1.bare.m.owes (atN p.K p.L[k]).un.length, K := updN p.L[k] (fun s => s.drop 2) g1.bare.K, L := p.L.eraseIdx k } := by
      unfold GEnd.bare
      simp only [GEnd.mk.injEq, true_and, and_true]
      exact ⟨rfl, updN_bare _ (fun s => s.drop 2) (fun s => rfl) _⟩
    rw [e3, e1]
    rfl

/-- The bytes of the greeting. -/
def greetB : List UInt8 := [115, 108, 117, 105, 99, 101, 10]
/-- What bytes do that are no fault. -/
def FeedR (z1 : GEnd) (z2 : List UInt8) (z3 : GEnd) : Prop := ∀ Z : GEnd → List UInt8 → GEnd → Prop, (∀ (p : GEnd), Z p [] p) → (∀ (p q : GEnd) (k : Nat) (c : UInt8) (r : List UInt8) (hk : p.m.greeted = (k : Int)) (hk7 : k < 7) (hf : p.m.fault = 0) (hc : greetB[k]? = some c) (h : Z { p with m := { p.m with greeted := (k + 1 : Nat) } } r q), Z p (c :: r) q) → (∀ (p q : GEnd) (c : UInt8) (g' r : List UInt8) (hg : p.m.greeted = 7) (hf : p.m.fault = 0) (hs : step p.got c = .more g') (h : Z { p with got := g' } r q), Z p (c :: r) q) → (∀ (p p1 q : GEnd) (c : UInt8) (f : Fr) (r : List UInt8) (hg : p.m.greeted = 7) (hf : p.m.fault = 0) (hs : step p.got c = .frame f) (hc : Come { p with got := [] } f p1) (h : Z p1 r q), Z p (c :: r) q) → Z z1 z2 z3
theorem FeedR.nil {p : GEnd} : FeedR p [] p := fun Z zk1 zk2 zk3 zk4 => zk1 p
theorem FeedR.greet {p q : GEnd} {k : Nat} {c : UInt8} {r : List UInt8} (hk : p.m.greeted = (k : Int)) (hk7 : k < 7) (hf : p.m.fault = 0) (hc : greetB[k]? = some c) (h : FeedR { p with m := { p.m with greeted := (k + 1 : Nat) } } r q) : FeedR p (c :: r) q := fun Z zk1 zk2 zk3 zk4 => zk2 p q k c r hk hk7 hf hc (h Z zk1 zk2 zk3 zk4)
theorem FeedR.more {p q : GEnd} {c : UInt8} {g' r : List UInt8} (hg : p.m.greeted = 7) (hf : p.m.fault = 0) (hs : step p.got c = .more g') (h : FeedR { p with got := g' } r q) : FeedR p (c :: r) q := fun Z zk1 zk2 zk3 zk4 => zk3 p q c g' r hg hf hs (h Z zk1 zk2 zk3 zk4)
theorem FeedR.frame {p p1 q : GEnd} {c : UInt8} {f : Fr} {r : List UInt8} (hg : p.m.greeted = 7) (hf : p.m.fault = 0) (hs : step p.got c = .frame f) (hc : Come { p with got := [] } f p1) (h : FeedR p1 r q) : FeedR p (c :: r) q := fun Z zk1 zk2 zk3 zk4 => zk4 p p1 q c f r hg hf hs hc (h Z zk1 zk2 zk3 zk4)
theorem FeedR.ind {motive : ∀ (z1 : GEnd) (z2 : List UInt8) (z3 : GEnd), FeedR z1 z2 z3 → Prop} (nil : ∀ {p : GEnd}, motive p [] p (@FeedR.nil p)) (greet : ∀ {p q : GEnd} {k : Nat} {c : UInt8} {r : List UInt8} (hk : p.m.greeted = (k : Int)) (hk7 : k < 7) (hf : p.m.fault = 0) (hc : greetB[k]? = some c) (h : FeedR { p with m := { p.m with greeted := (k + 1 : Nat) } } r q) (ih : motive { p with m := { p.m with greeted := (k + 1 : Nat) } } r q h), motive p (c :: r) q (@FeedR.greet p q k c r hk hk7 hf hc h)) (more : ∀ {p q : GEnd} {c : UInt8} {g' r : List UInt8} (hg : p.m.greeted = 7) (hf : p.m.fault = 0) (hs : step p.got c = .more g') (h : FeedR { p with got := g' } r q) (ih : motive { p with got := g' } r q h), motive p (c :: r) q (@FeedR.more p q c g' r hg hf hs h)) (frame : ∀ {p p1 q : GEnd} {c : UInt8} {f : Fr} {r : List UInt8} (hg : p.m.greeted = 7) (hf : p.m.fault = 0) (hs : step p.got c = .frame f) (hc : Come { p with got := [] } f p1) (h : FeedR p1 r q) (ih : motive p1 r q h), motive p (c :: r) q (@FeedR.frame p p1 q c f r hg hf hs hc h)) {z1 : GEnd} {z2 : List UInt8} {z3 : GEnd} (zt : FeedR z1 z2 z3) : motive z1 z2 z3 zt := (zt (fun z1 z2 z3 => ∃ zt : FeedR z1 z2 z3, motive z1 z2 z3 zt) (fun p => ⟨_, @nil p⟩) (fun p q k c r hk hk7 hf hc zy => zy.elim fun h zx => ⟨_, @greet p q k c r hk hk7 hf hc h zx⟩) (fun p q c g' r hg hf hs zy => zy.elim fun h zx => ⟨_, @more p q c g' r hg hf hs h zx⟩) (fun p p1 q c f r hg hf hs hc zy => zy.elim fun h zx => ⟨_, @frame p p1 q c f r hg hf hs hc h zx⟩)).elim fun _ zx => zx
theorem Come.got {p q : GEnd} {f : Fr} (h : Come p f q) : q.got = p.got := by cases h using Come.ind <;> rfl

theorem frV_iface (k f s : Int) (bv cv : Value) (l : List UInt8) : ∃ t x, frV k f s bv cv l = .iface t x := by
  unfold frV
  repeat' split
  all_goals exact ⟨_, _, rfl⟩
/-- What one byte may do. -/
def ByteR (p : GEnd) (c : UInt8) (z1 : GEnd) : Prop := ∀ Z : GEnd → Prop, (∀ (k : Nat) (hk : p.m.greeted = (k : Int)) (hk7 : k < 7) (hc : greetB[k]? = some c), Z { p with m := { p.m with greeted := (k + 1 : Nat) } }) → (∀ (g' : List UInt8) (hg : p.m.greeted = 7) (hs : step p.got c = .more g'), Z { p with got := g' }) → (∀ (p1 : GEnd) (f : Fr) (hg : p.m.greeted = 7) (hs : step p.got c = .frame f) (hc : Come { p with got := [] } f p1), Z p1) → Z z1
theorem ByteR.greet {p : GEnd} {c : UInt8} {k : Nat} (hk : p.m.greeted = (k : Int)) (hk7 : k < 7) (hc : greetB[k]? = some c) : ByteR p c { p with m := { p.m with greeted := (k + 1 : Nat) } } := fun Z zk1 zk2 zk3 => zk1 k hk hk7 hc
theorem ByteR.more {p : GEnd} {c : UInt8} {g' : List UInt8} (hg : p.m.greeted = 7) (hs : step p.got c = .more g') : ByteR p c { p with got := g' } := fun Z zk1 zk2 zk3 => zk2 g' hg hs
theorem ByteR.frame {p : GEnd} {c : UInt8} {p1 : GEnd} {f : Fr} (hg : p.m.greeted = 7) (hs : step p.got c = .frame f) (hc : Come { p with got := [] } f p1) : ByteR p c p1 := fun Z zk1 zk2 zk3 => zk3 p1 f hg hs hc
theorem ByteR.ind {p : GEnd} {c : UInt8} {motive : ∀ (z1 : GEnd), ByteR p c z1 → Prop} (greet : ∀ {k : Nat} (hk : p.m.greeted = (k : Int)) (hk7 : k < 7) (hc : greetB[k]? = some c), motive { p with m := { p.m with greeted := (k + 1 : Nat) } } (@ByteR.greet p c k hk hk7 hc)) (more : ∀ {g' : List UInt8} (hg : p.m.greeted = 7) (hs : step p.got c = .more g'), motive { p with got := g' } (@ByteR.more p c g' hg hs)) (frame : ∀ {p1 : GEnd} {f : Fr} (hg : p.m.greeted = 7) (hs : step p.got c = .frame f) (hc : Come { p with got := [] } f p1), motive p1 (@ByteR.frame p c p1 f hg hs hc)) {z1 : GEnd} (zt : ByteR p c z1) : motive z1 zt := (zt (fun z1 => ∃ zt : ByteR p c z1, motive z1 zt) (fun k hk hk7 hc => ⟨_, @greet k hk hk7 hc⟩) (fun g' hg hs => ⟨_, @more g' hg hs⟩) (fun p1 f hg hs hc => ⟨_, @frame p1 f hg hs hc⟩)).elim fun _ zx => zx

set_option maxRecDepth 100000 in
set_option maxHeartbeats 1200000 in
theorem i_byte (eb mb : Nat) (g p q : GEnd) (c : UInt8) (w : World) (h : Inv w eb mb g) (hr : RdOk g) (hp : g.bare = p) (hb : ByteR p c q) (hgl : Gl w) (hge : ∀ j, j < 7 → ¬ Foot eb mb g j) :
    Calls Tryz.prog 47 #[.pointer (some ⟨eb, 0, none⟩), .int .u8 c.toNat] w fun e w' => e = .returned (.tuple #[]) ∧ ∃ g', g'.bare = q ∧ RdOk g' ∧ Next w w' eb mb g g' := by
  have c24 := h.en.c24
  have f24 := h.en.fr 24
  have hlt := h.en.lt
  have hgr : g.m.greeted = p.m.greeted := by rw [← hp]; rfl
  have hgot : g.got = p.got := by rw [← hp]; rfl
  cases hb using ByteR.ind with
  | @greet k hk hk7 hc =>
    have hset : Chg (fun j => j = eb) w (w.setCell ⟨eb, 24, none⟩ (.int .i64 ((k : Int) + 1))) := chg_set (Chg.refl _ _) rfl
    have hn := h.onEnd (S := fun j => j = eb) (m' := { g.m with greeted := (k : Int) + 1 }) (o' := g.out) (A' := g.ans) (R' := g.res) hset (fun j e => Or.inl e) (EnB.of (blk_set h.en.blk) rfl) rfl rfl rfl (owns_chg h.out hset (fun j hj e => by rw [e] at hj; exact owns_ne h.out h.en.blk (by decide) hj)) (fun j hj => Or.inl hj) h.ans (fun _ h => h) (fun _ h => h) h.res (fun _ h => h)
    have HEND : Hid (∃ g', g'.bare = ({ p with m := { p.m with greeted := ((k + 1 : Nat) : Int) } } : GEnd) ∧ RdOk g' ∧ Next w (w.setCell ⟨eb, 24, none⟩ (.int .i64 ((k : Int) + 1))) eb mb g g') := by
      refine ⟨{ g with m := { g.m with greeted := (k : Int) + 1 } }, ?_, ⟨hr.got, hr.head⟩, hn⟩
      rw [← hp]
      rfl
    rw [hgr, hk] at c24
    clear h hr hp hgl hge hset hn hgr hgot
    obtain rfl | rfl | rfl | rfl | rfl | rfl | rfl : k = 0 ∨ k = 1 ∨ k = 2 ∨ k = 3 ∨ k = 4 ∨ k = 5 ∨ k = 6 := by omega
    all_goals
      simp only [greetB, List.getElem?_cons_zero, List.getElem?_cons_succ, Option.some.injEq] at hc
      subst hc
      clear hk hk7
      go_enter Tryz.func47, Tryz.ntmps47
      go_wp2
      refine bodyPost_ret (v := .tuple #[]) ?_ rfl ⟨rfl, HEND.out⟩
      simp [results, Tryz.results47, go_sem]
  | @more g' hg hs =>
    rw [hgr, hg] at c24
    have hT := take_any eb 25 98 g.m.cells g.m.got g.got c w (h.rdsg hr)
    rw [← hgot] at hs
    have HT : Hid (Calls Tryz.prog 65 #[.pointer (some ⟨eb, 25, none⟩), .int .u8 c.toNat] w fun e w' => e = .returned (.tuple #[.nilIface, .bool false]) ∧ ∃ g1, g1.bare = ({ p with got := g' } : GEnd) ∧ RdOk g1 ∧ Next w w' eb mb g g1) := by
      refine hT.mono ?_
      rintro e w' (⟨g1, cs', gv', h1, h2, h3⟩ | ⟨code, h1, -⟩ | ⟨f, bv, cv, cs', gv', h1, -⟩)
      · rw [hs] at h1
        simp only [Sum.inl.injEq] at h1
        subst h1
        obtain ⟨g2, e1, e2, e3, -⟩ := h.onGot h3
        refine ⟨h2, g2, ?_, e2, e3⟩
        rw [e1, ← hp]
        rfl
      · rw [hs] at h1; cases h1
      · rw [hs] at h1; cases h1
    clear h hr hp hgl hge hT hs hgr hgot
    go_enter Tryz.func47, Tryz.ntmps47
    go_wp2_with fail
    refine HT.out.mono ?_
    rintro e w' ⟨rfl, hx⟩
    have HX := hide hx
    clear hx
    go_wp2
    exact bodyPost_end (results_none rfl _ _ _) rfl ⟨rfl, HX.out⟩
  | @frame p1 f hg hs hc =>
    rw [hgr, hg] at c24
    have hT := take_any eb 25 98 g.m.cells g.m.got g.got c w (h.rdsg hr)
    rw [← hgot] at hs
    have HT : Hid (Calls Tryz.prog 65 #[.pointer (some ⟨eb, 25, none⟩), .int .u8 c.toNat] w fun e w' => ∃ bv cv, e = .returned (.tuple #[frV f.kind f.flags f.stream bv cv f.body, .bool true]) ∧ Calls Tryz.prog 66 #[.pointer (some ⟨eb, 0, none⟩), frV f.kind f.flags f.stream bv cv f.body] w' fun e w'' => e = .returned (.tuple #[]) ∧ ∃ g', g'.bare = q ∧ RdOk g' ∧ Next w w'' eb mb g g') := by
      refine hT.mono ?_
      rintro e w' (⟨g1, cs', gv', h1, -⟩ | ⟨code, h1, -⟩ | ⟨f', bv, cv, cs', gv', h1, h2, h3, h4, h5, h6, h7⟩)
      · rw [hs] at h1; cases h1
      · rw [hs] at h1; cases h1
      · rw [hs] at h1
        simp only [Sum.inl.injEq, Sum.inr.injEq] at h1
        subst h1
        refine ⟨bv, cv, h2, ?_⟩
        obtain ⟨g2, e1, e2, e3, e4⟩ := h.onGot h6
        have hge2 : ∀ j, j < 7 → ¬ Foot eb mb g2 j := fun j hj hf => by
          rcases e3.grow j hf with a | a
          · exact hge j hj a
          · have := hgl.lt; omega
        have hbn : ∀ j, bv.ownBlock = some j → ¬ Foot eb mb g2 j := fun j hj hf => by
          rcases e4 j hf with a | a
          · have := Foot.lt h a; have := h5 j hj; omega
          · exact h7 j hj a
        refine (i_come eb mb g2 { p with got := [] } q f bv cv w' e3.inv (by rw [e1, ← hp]; rfl) hc (hgl.chg e3.chg hge) hge2 h4 hbn h3).mono ?_
        rintro e w'' ⟨rfl, g', q1, q2⟩
        refine ⟨rfl, g', q1, RdOk.nil ?_, e3.trans q2⟩
        have : g'.bare.got = q.got := by rw [q1]
        exact this.trans hc.got
    clear h hr hp hgl hge hT hs hgr hgot
    go_enter Tryz.func47, Tryz.ntmps47
    go_wp2_with fail
    refine HT.out.mono ?_
    rintro e w' ⟨bv, cv, rfl, hx⟩
    have HX := hide hx
    clear hx
    obtain ⟨ty, x, hfv⟩ := frV_iface f.kind f.flags f.stream bv cv f.body
    rw [hfv] at HX ⊢
    go_wp2_with fail
    refine HX.out.mono ?_
    rintro e w'' ⟨rfl, hx⟩
    have HY := hide hx
    clear hx
    go_wp2
    exact bodyPost_end (results_none rfl _ _ _) rfl ⟨rfl, HY.out⟩
end Go.Proofs.YtiphkngfbpdeoaaGreatDoor
/-
  Package ends: Feed of bytes that are no fault; package sluice's.
-/
namespace Go.Proofs.YtiphkngfbpdeoaaGreatDoor
set_option linter.unusedVariables false
set_option linter.unusedSimpArgs false
open Go.RowKit

theorem FeedR.byte {p q : GEnd} {c : UInt8} {r : List UInt8} (h : FeedR p (c :: r) q) : p.m.fault = 0 ∧ ∃ p1, ByteR p c p1 ∧ FeedR p1 r q := by
  cases h using FeedR.ind with
  | greet hk hk7 hf hc h => exact ⟨hf, _, .greet hk hk7 hc, h⟩
  | more hg hf hs h => exact ⟨hf, _, .more hg hs, h⟩
  | frame hg hf hs hc h => exact ⟨hf, _, .frame hg hs hc, h⟩
theorem FeedR.app {p p1 q : GEnd} {l r : List UInt8} (h : FeedR p l p1) (h2 : FeedR p1 r q) : FeedR p (l ++ r) q := by
  induction h using FeedR.ind with
  | nil => exact h2
  | greet hk hk7 hf hc _ ih => exact .greet hk hk7 hf hc (ih h2)
  | more hg hf hs _ ih => exact .more hg hf hs (ih h2)
  | frame hg hf hs hc _ ih => exact .frame hg hf hs hc (ih h2)

set_option maxRecDepth 100000 in
set_option maxHeartbeats 1200000 in
theorem i_feed (eb mb : Nat) (g q : GEnd) (bv : Value) (l : List UInt8) (w : World) (h : Inv w eb mb g) (hr : RdOk g) (hf : FeedR g.bare l q) (hgl : Gl w) (hge : ∀ j, j < 7 → ¬ Foot eb mb g j) (hb : BytesIn w bv l) (hbn : ∀ j, bv.ownBlock = some j → ¬ Foot eb mb g j) (hl : l.length ≤ 268435456) :
    Calls Tryz.prog 26 #[.pointer (some ⟨eb, 0, none⟩), bv] w fun e w' => e = .returned (.tuple #[]) ∧ ∃ g', g'.bare = q ∧ RdOk g' ∧ Next w w' eb mb g g' := by
  obtain ⟨sv, cv, hv, -⟩ := bytesIn_len hb
  subst hv
  have H := hide h
  have HR := hide hr
  have HF := hide hf
  have HGL := hide hgl
  have HGE := hide hge
  have HB := hide hb
  have HBN := hide hbn
  clear h hr hf hgl hge hb hbn
  go_enter Tryz.func26, Tryz.ntmps26
  go_wp2
  go_loopw [8] (fun i wr => ∃ (k : Nat) (wv : World) (c : GEnd), wv = wr ∧ i = .int .i64 (k : Int) ∧ k ≤ l.length ∧ Next w wv eb mb g c ∧ RdOk c ∧ FeedR c.bare (l.drop k) q) (fun i _ => l.length - (intOf i).toNat)
  case atStart => exact ⟨0, _, g, rfl, rfl, Nat.zero_le _, Next.refl H.out, HR.out, HF.out⟩
  case round =>
    obtain ⟨k, wv, c, hwv, rfl, hk, hnx, hrd, hfe⟩ := hrel
    subst hwv
    by_cases hlk : k < l.length
    · rw [drop_cons hlk] at hfe
      obtain ⟨hfa, p1, hby, hfr⟩ := hfe.byte
      obtain ⟨hbyt, hnf⟩ := hnx.bytes HB.out HBN.out
      have hgl1 := HGL.out.chg hnx.chg HGE.out
      have hge1 : ∀ j, j < 7 → ¬ Foot eb mb c j := fun j hj hf => by
        rcases hnx.grow j hf with a | a
        · exact HGE.out j hj a
        · have := HGL.out.lt; omega
      have hi := i_byte eb mb c c.bare p1 (l.getD k 0) wv hnx.inv hrd rfl hby hgl1 hge1
      have hd := isDead_any eb c.m wv hnx.inv.en
      have hfa' : c.m.fault = 0 := hfa
      rw [show (!(c.m.fault == 0)) = false from by rw [hfa']; rfl] at hd
      rcases hbyt with ⟨-, h0⟩ | ⟨bb, off, cap, h1, h2, h3, h4⟩
      · rw [h0] at hlk; simp at hlk
      · simp only [Value.slice.injEq] at h1
        obtain ⟨rfl, _, rfl⟩ := h1
        have hcell := h4 k hlk
        have HI := hide hi
        have HD := hide hd
        have HNX := hide hnx
        have HFR := hide hfr
        generalize l.getD k 0 = cc at *
        clear hi hd hnx hfr hby hfe hrd hgl1 hge1 h4 hfa hfa' hnf
        go_wp2_with fail
        refine HD.out.mono ?_
        rintro e w' ⟨rfl, hw'⟩
        rw [hw']
        clear hw' w'
        go_wp2_with fail
        refine HI.out.mono ?_
        rintro e w1 ⟨rfl, c1, hc1, hr1, hn1⟩
        have HC1 := hide hc1
        have HR1 := hide hr1
        have HN1 := hide hn1
        clear hc1 hr1 hn1
        go_wp2
        all_goals go_roundw
        case rel => exact ⟨k + 1, _, c1, rfl, by go_num, by omega, HNX.out.trans HN1.out, HR1.out, by rw [HC1.out]; exact HFR.out⟩
        case measure => simp [intOf]; omega
    · have hke : k = l.length := by omega
      rw [List.drop_of_length_le (by omega)] at hfe
      have hq : c.bare = q := by cases hfe using FeedR.ind; rfl
      have HQ := hide hq
      have HNX := hide hnx
      have HRD := hide hrd
      clear hq hnx hrd hfe hke
      go_wp2
      exact bodyPost_end (results_none rfl _ _ _) rfl ⟨rfl, c, HQ.out, HRD.out, HNX.out⟩
end Go.Proofs.YtiphkngfbpdeoaaGreatDoor
/-
  Package ends: makeAnswer, makeReset.
-/
namespace Go.Proofs.YtiphkngfbpdeoaaGreatDoor
set_option linter.unusedVariables false
set_option linter.unusedSimpArgs false
open Go.RowKit

/-- A frame was made, or there was none. -/
def MadeO (w w' : World) (eb mb : Nat) (g : GEnd) (o : Option GEnd) (e : Ending) : Prop := match o with
  | none => e = .returned (.bool false) ∧ Below w.heap.size w w'
  | some q => e = .returned (.bool true) ∧ ∃ g', g'.bare = q.bare ∧ Next w w' eb mb g g'

theorem own_shape {v : Value} {j : Nat} (h : v.ownBlock = some j) : ∃ a n c, v = .slice (some a) n c := by
  cases v with
  | slice s n c =>
    cases s with
    | none => simp [Value.ownBlock] at h
    | some a => exact ⟨a, n, c, rfl⟩
  | _ => simp [Value.ownBlock] at h
/-- The row but its first. -/
theorem RowAt.tail {w : World} {e : TypeId} {size n : Nat} {g o cap : Nat} {x xs : List Value} (hx : x.length = size) (h : RowAt w e size (.slice (some ⟨g, o, none⟩) (n + 1) cap) (n + 1) (x ++ xs)) : RowAt w e size (.slice (some ⟨g, o + size, none⟩) n (cap - 1)) n xs ∧ (cap = 1 → RowAt w e size (.slice (some ⟨g, o, none⟩) 0 0) n xs ∧ n = 0) := by
  obtain ⟨h0, h1⟩ := h
  rcases h1 with ⟨h1, -⟩ | ⟨g', o', cap', cur, h1, h3, h4, h5, h6, h7⟩
  · cases h1
  · simp only [Value.slice.injEq, Option.some.injEq, Addr.mk.injEq, and_true, true_and] at h1
    obtain ⟨⟨rfl, rfl⟩, rfl⟩ := h1
    rw [List.length_append, hx, Nat.add_mul, Nat.one_mul] at h0
    have hl : xs.length = n * size := by omega
    rw [Nat.add_mul, Nat.one_mul] at h6 h7
    have ht : (cur.toList.drop (o + size)).take (n * size) = xs := by
      have : ((cur.toList.drop o).take (n * size + size)).drop size = xs := by rw [h7, List.drop_left' hx]
      rw [List.drop_take, List.drop_drop, Nat.add_sub_cancel] at this
      exact this
    refine ⟨⟨hl, Or.inr ⟨g, o + size, cap - 1, cur, rfl, h3, by omega, by omega, by omega, ht⟩⟩, fun hc => ?_⟩
    have hn : n = 0 := by omega
    subst hn
    refine ⟨⟨hl, Or.inr ⟨g, o, 0, cur, rfl, h3, Nat.le_refl _, Nat.zero_le _, by omega, ?_⟩⟩, rfl⟩
    rw [Nat.zero_mul, List.take_zero]
    rw [Nat.zero_mul] at hl
    exact (List.length_eq_zero_iff.1 hl).symm
theorem RowAt.cellAt {w : World} {e : TypeId} {size n : Nat} {g o cap : Nat} {xs : List Value} (h : RowAt w e size (.slice (some ⟨g, o, none⟩) n cap) n xs) {i : Nat} (hi : i < n * size) : w.cell? ⟨g, o + i, none⟩ = xs[i]? := by
  obtain ⟨h0, h1⟩ := h
  rcases h1 with ⟨h1, -⟩ | ⟨g', o', cap', cur, h1, h3, h4, h5, h6, h7⟩
  · cases h1
  · simp only [Value.slice.injEq, Option.some.injEq, Addr.mk.injEq, and_true, true_and] at h1
    obtain ⟨⟨rfl, rfl⟩, rfl⟩ := h1
    rw [cell_of_row w g _ _ _ _ h3, ← h7, List.getElem?_take, if_pos hi, List.getElem?_drop, Array.getElem?_toList]
theorem RowAt.shape {w : World} {e : TypeId} {size n : Nat} {v : Value} {xs : List Value} (h : RowAt w e size v (n + 1) xs) : ∃ g o cap, v = .slice (some ⟨g, o, none⟩) (n + 1) cap ∧ n + 1 ≤ cap ∧ cap ≤ maxLen ∧ g < w.heap.size := by
  rcases h.2 with ⟨_, h1⟩ | ⟨g', o', cap', cur, h1, h3, h4, h5, h6, h7⟩
  · omega
  · exact ⟨_, _, _, h1, h4, h5, lt_of_block h3⟩
theorem RowAt.len {w : World} {e : TypeId} {size n : Nat} {v : Value} {xs : List Value} (h : RowAt w e size v n xs) : ∃ s cap, v = .slice s n cap := by
  rcases h.2 with ⟨rfl, rfl⟩ | ⟨g', o', cap', cur, h1, h3, h4, h5, h6, h7⟩
  · exact ⟨_, _, rfl⟩
  · exact ⟨_, _, h1⟩

set_option maxRecDepth 100000 in
set_option maxHeartbeats 1600000 in
theorem i_makeAnswer (eb mb : Nat) (g : GEnd) (w : World) (h : Inv w eb mb g) (hf : Fine g) (hl : g.out.length ≤ 1073741824) :
    Calls Tryz.prog 90 #[.pointer (some ⟨eb, 0, none⟩)] w fun e w' => MadeO w w' eb mb g g.oAnswer e := by
  have c42 := h.en.c42
  cases ha : g.ans with
  | nil =>
    have hr := h.ans
    rw [ha] at hr
    obtain ⟨s, cap, hv⟩ := hr.len
    rw [hv] at c42
    have ho : g.oAnswer = none := by unfold GEnd.oAnswer; rw [ha]
    rw [ho]
    clear h hf ha hr hv ho
    go_enter Tryz.func90, Tryz.ntmps90
    go_wp2
    go_ret
    exact ⟨rfl, Below.refl _ _⟩
  | cons a r =>
    have hr := h.ans
    rw [ha, List.length_cons, List.flatMap_cons] at hr
    obtain ⟨ga, oa, ca, hv, hca, hcm, hga⟩ := hr.shape
    rw [hv] at c42 hr
    obtain ⟨ht1, ht2⟩ := RowAt.tail (x := a.cells) rfl hr
    have k0 : w.cell? ⟨ga, oa, none⟩ = some (.int .i64 a.kind) := by have := hr.cellAt (i := 0) (by omega); rw [Nat.add_zero] at this; rw [this]; rfl
    have k1 : w.cell? ⟨ga, oa + 1, none⟩ = some (.int .i64 a.flags) := by rw [hr.cellAt (i := 1) (by omega)]; rfl
    have k2 : w.cell? ⟨ga, oa + 2, none⟩ = some (.int .i64 0) := by rw [hr.cellAt (i := 2) (by omega)]; rfl
    have k3 : w.cell? ⟨ga, oa + 3, none⟩ = some a.bv := by rw [hr.cellAt (i := 3) (by omega)]; rfl
    have ham : a ∈ g.ans := by rw [ha]; exact List.mem_cons_self
    obtain ⟨f1, f2, f3, f4, f5⟩ := hf.ans a ham
    have hb := h.anb a ham
    obtain ⟨sa, cap, hbv⟩ := slice_len hb
    rw [hbv] at hb k3
    have HP := hide (en_put eb g.m g.out a.kind a.flags 0 sa a.body cap w h.en hf.greets h.out hl f1 f2 f3 f4 (by omega) (by omega) f5 (bytesIn_of_owns hb rfl))
    have ho : g.oAnswer = some { g with ans := r, out := g.out ++ lay a.kind a.flags 0 a.body } := by unfold GEnd.oAnswer; rw [ha]
    rw [ho]
    -- what is left behind the frame
    have HN : Hid (∀ (w1 : World) (v vt : Value), Put w w1 eb g.m g.out (lay a.kind a.flags 0 a.body) v → (vt.ownBlock = some ga) → RowAt w 105 4 vt r.length (r.flatMap Ans.cells) → MadeO w (w1.setCell ⟨eb, 42, none⟩ vt) eb mb g (some { g with ans := r, out := g.out ++ lay a.kind a.flags 0 a.body }) (.returned (.bool true))) := fun w1 v vt hp hvt hrow => by
      have hn := h.put rfl rfl rfl rfl rfl rfl hp
      have hrow1 : RowAt w1 105 4 vt r.length (r.flatMap Ans.cells) := hrow.chg hp.chg (fun j hj e => by
        rcases e with e | e
        · rw [e] at hj; exact hrow.ne h.en.blk (by decide) hj
        · exact rows_ne2 h.out hrow (by decide) e hj)
      have hn2 := hn.inv.onEnd (S := fun j => j = eb) (w' := w1.setCell ⟨eb, 42, none⟩ vt) (m' := { g.m with out := v, answers := vt }) (A' := r) (o' := g.out ++ lay a.kind a.flags 0 a.body) (R' := g.res) (chg_set (Chg.refl _ _) rfl) (fun j e => Or.inl e) (EnB.of (blk_set hp.b.blk) rfl) rfl rfl rfl
        (owns_chg hn.inv.out (chg_set (S := fun j => j = eb) (Chg.refl _ _) rfl) (fun j hj e => by rw [e] at hj; exact owns_ne hn.inv.out hn.inv.en.blk (by decide) hj)) (fun j hj => Or.inl hj) hrow1 (fun b hb => by rw [show ({ g with m := { g.m with out := v }, out := g.out ++ lay a.kind a.flags 0 a.body } : GEnd).ans = g.ans from rfl, ha]; exact List.mem_cons_of_mem _ hb) (fun j hj => by
          have e1 : ({ g.m with out := v, answers := vt } : EndM).answers.ownBlock = some ga := hvt
          rw [e1] at hj
          rw [← hj]
          show g.m.answers.ownBlock = _
          rw [hv]; rfl) hn.inv.res (fun j hj => hj)
      refine ⟨rfl, _, ?_, hn.trans hn2⟩
      obtain ⟨sx, lx, cx, hvx⟩ := own_shape hvt
      subst hvx
      unfold GEnd.bare EndM.bare
      simp only [hv]
      rfl
    have hlt := h.en.lt
    clear h hf ha hr ho hb ham
    have hn1 : 1 ≤ r.length + 1 := by omega
    by_cases hc1 : ca = 1
    · obtain ⟨ht3, hn0⟩ := ht2 hc1
      subst hc1
      have hr0 : r.length + 1 = 1 := by omega
      rw [hr0] at c42 hv
      have HT := hide ht3
      have HV := hide hv
      clear ht1 ht2 ht3 hv hbv hn0 hr0
      go_enter Tryz.func90, Tryz.ntmps90
      go_wp2_with fail
      refine HP.out.mono ?_
      rintro e w1 ⟨rfl, v, hp⟩
      have d42 : w1.cell? ⟨eb, 42, none⟩ = some (.slice (some ⟨ga, oa, none⟩) 1 1) := by rw [hp.b.c42]; exact congrArg some HV.out
      have f42 := hp.b.fr 42
      have HPP := hide hp
      clear hp
      go_wp2
      go_ret
      exact HN.out w1 v _ HPP.out rfl HT.out
    · have HT := hide ht1
      have HV := hide hv
      have hc2 : 1 ≤ ca := by omega
      clear ht1 ht2 hv hbv
      go_enter Tryz.func90, Tryz.ntmps90
      go_wp2_with fail
      refine HP.out.mono ?_
      rintro e w1 ⟨rfl, v, hp⟩
      have d42 : w1.cell? ⟨eb, 42, none⟩ = some (.slice (some ⟨ga, oa, none⟩) (r.length + 1) ca) := by rw [hp.b.c42]; exact congrArg some HV.out
      have f42 := hp.b.fr 42
      have HPP := hide hp
      clear hp
      go_wp2
      go_ret
      exact HN.out w1 v _ HPP.out rfl HT.out

set_option maxRecDepth 100000 in
set_option maxHeartbeats 1600000 in
theorem i_makeReset (eb mb : Nat) (g : GEnd) (w : World) (h : Inv w eb mb g) (hf : Fine g) (hl : g.out.length ≤ 1073741824) :
    Calls Tryz.prog 95 #[.pointer (some ⟨eb, 0, none⟩)] w fun e w' => MadeO w w' eb mb g g.oReset e := by
  have c43 := h.en.c43
  cases ha : g.res with
  | nil =>
    have hr := h.res
    rw [ha] at hr
    obtain ⟨s, cap, hv⟩ := hr.len
    rw [hv] at c43
    have ho : g.oReset = none := by unfold GEnd.oReset; rw [ha]
    rw [ho]
    clear h hf ha hr hv ho
    go_enter Tryz.func95, Tryz.ntmps95
    go_wp2
    go_ret
    exact ⟨rfl, Below.refl _ _⟩
  | cons a r =>
    have hr := h.res
    rw [ha, List.length_cons, List.map_cons] at hr
    obtain ⟨ga, oa, ca, hv, hca, hcm, hga⟩ := hr.shape
    rw [hv] at c43 hr
    obtain ⟨ht1, ht2⟩ := RowAt.tail (x := [.int .i64 a]) rfl hr
    have k0 : w.cell? ⟨ga, oa, none⟩ = some (.int .i64 a) := by have := hr.cellAt (i := 0) (by omega); rw [Nat.add_zero] at this; rw [this]; rfl
    have ham : a ∈ g.res := by rw [ha]; exact List.mem_cons_self
    obtain ⟨f1, f2⟩ := hf.res a ham
    have HP : Hid (∀ w0, Below w.heap.size w w0 → BytesIn w0 (.slice (some ⟨w.heap.size, 0, none⟩) 1 1) [0] → Calls Tryz.prog 129 #[.pointer (some ⟨eb, 0, none⟩), .agg #[.int .i64 2, .int .i64 0, .int .i64 a, .slice (some ⟨w.heap.size, 0, none⟩) 1 1]] w0 fun e w' => e = .returned (.tuple #[]) ∧ ∃ v, Put w w' eb g.m g.out (lay 2 0 a [0]) v) := fun w0 hb0 hby => by
      have h0 := h.below hb0
      refine (en_put eb g.m g.out 2 0 a _ [0] 1 w0 h0.en hf.greets h0.out hl (by omega) (by omega) (by omega) (by omega) f1 f2 (by decide) hby).mono ?_
      rintro e w' ⟨rfl, v, hp⟩
      exact ⟨rfl, v, hp.pre (w := w) (Chg.refl _ _) hb0⟩
    have ho : g.oReset = some { g with res := r, out := g.out ++ lay 2 0 a [0] } := by unfold GEnd.oReset; rw [ha]
    rw [ho]
    -- what is left behind the frame
    have HN : Hid (∀ (w1 : World) (v vt : Value), Put w w1 eb g.m g.out (lay 2 0 a [0]) v → (vt.ownBlock = some ga) → RowAt w 3 1 vt r.length (r.map fun i => .int .i64 i) → MadeO w (w1.setCell ⟨eb, 43, none⟩ vt) eb mb g (some { g with res := r, out := g.out ++ lay 2 0 a [0] }) (.returned (.bool true))) := fun w1 v vt hp hvt hrow => by
      have hn := h.put rfl rfl rfl rfl rfl rfl hp
      have hrow1 : RowAt w1 3 1 vt r.length (r.map fun i => .int .i64 i) := hrow.chg hp.chg (fun j hj e => by
        rcases e with e | e
        · rw [e] at hj; exact hrow.ne h.en.blk (by decide) hj
        · exact rows_ne2 h.out hrow (by decide) e hj)
      have hn2 := hn.inv.onEnd (S := fun j => j = eb) (w' := w1.setCell ⟨eb, 43, none⟩ vt) (m' := { g.m with out := v, resets := vt }) (A' := g.ans) (o' := g.out ++ lay 2 0 a [0]) (R' := r) (chg_set (Chg.refl _ _) rfl) (fun j e => Or.inl e) (EnB.of (blk_set hp.b.blk) rfl) rfl rfl rfl
        (owns_chg hn.inv.out (chg_set (S := fun j => j = eb) (Chg.refl _ _) rfl) (fun j hj e => by rw [e] at hj; exact owns_ne hn.inv.out hn.inv.en.blk (by decide) hj)) (fun j hj => Or.inl hj) hn.inv.ans (fun b hb => hb) (fun j hj => hj) hrow1 (fun j hj => by
          have e1 : ({ g.m with out := v, resets := vt } : EndM).resets.ownBlock = some ga := hvt
          rw [e1] at hj
          rw [← hj]
          show g.m.resets.ownBlock = _
          rw [hv]; rfl)
      refine ⟨rfl, _, ?_, hn.trans hn2⟩
      obtain ⟨sx, lx, cx, hvx⟩ := own_shape hvt
      subst hvx
      unfold GEnd.bare EndM.bare
      simp only [hv]
      rfl
    have hlt := h.en.lt
    clear h hf ha hr ho ham
    have hn1 : 1 ≤ r.length + 1 := by omega
    by_cases hc1 : ca = 1
    · obtain ⟨ht3, hn0⟩ := ht2 hc1
      subst hc1
      have hr0 : r.length + 1 = 1 := by omega
      rw [hr0] at c43 hv
      have HT := hide ht3
      have HV := hide hv
      clear ht1 ht2 ht3 hv hn0 hr0
      go_enter Tryz.func95, Tryz.ntmps95
      go_wp2_with fail
      refine (HP.out _ ?b1 ?b2).mono ?_
      case b1 => exact (Below.refl _ _).alloc (Nat.le_refl _) _
      case b2 => exact Or.inr ⟨_, 0, 1, rfl, by simp, by simp, fun i hi => by have : i = 0 := (by simpa using hi); subst this; exact one_alloc _ _ _⟩
      rintro e w1 ⟨rfl, v, hp⟩
      have d43 : w1.cell? ⟨eb, 43, none⟩ = some (.slice (some ⟨ga, oa, none⟩) 1 1) := by rw [hp.b.c43]; exact congrArg some HV.out
      have f43 := hp.b.fr 43
      have HPP := hide hp
      clear hp
      go_wp2
      go_ret
      exact HN.out w1 v _ HPP.out rfl HT.out
    · have HT := hide ht1
      have HV := hide hv
      have hc2 : 1 ≤ ca := by omega
      clear ht1 ht2 hv
      go_enter Tryz.func95, Tryz.ntmps95
      go_wp2_with fail
      refine (HP.out _ ?b1 ?b2).mono ?_
      case b1 => exact (Below.refl _ _).alloc (Nat.le_refl _) _
      case b2 => exact Or.inr ⟨_, 0, 1, rfl, by simp, by simp, fun i hi => by have : i = 0 := (by simpa using hi); subst this; exact one_alloc _ _ _⟩
      rintro e w1 ⟨rfl, v, hp⟩
      have d43 : w1.cell? ⟨eb, 43, none⟩ = some (.slice (some ⟨ga, oa, none⟩) (r.length + 1) ca) := by rw [hp.b.c43]; exact congrArg some HV.out
      have f43 := hp.b.fr 43
      have HPP := hide hp
      clear hp
      go_wp2
      go_ret
      exact HN.out w1 v _ HPP.out rfl HT.out
end Go.Proofs.YtiphkngfbpdeoaaGreatDoor
/-
  Package ends: makeNext, where nothing is to be announced or sent.
-/
namespace Go.Proofs.YtiphkngfbpdeoaaGreatDoor
set_option linter.unusedVariables false
set_option linter.unusedSimpArgs false
open Go.RowKit

section
variable {w w' : World} {eb mb : Nat} {g : GEnd} {e : Ending}
theorem MadeO.pre {o : Option GEnd} {w0 : World} (h : MadeO w w' eb mb g o e) (hb : Below w0.heap.size w0 w) : MadeO w0 w' eb mb g o e := by
  cases o with
  | none => exact ⟨h.1, hb.trans (h.2.mono hb.size)⟩
  | some q => obtain ⟨h1, g', h2, h3⟩ := h; exact ⟨h1, g', h2, h3.pre hb⟩
theorem MadeB.made {m' : EndM} {new : List UInt8} {c : Bool} (h : Inv w eb mb g) (hm : MadeB w w' eb g.m m' g.out new c e) (h1 : m'.known = g.m.known) (h2 : m'.opn = g.m.opn) (h3 : m'.got = g.m.got) (h4 : m'.out = g.m.out) (h5 : m'.answers = g.m.answers) (h6 : m'.resets = g.m.resets) {o : Option GEnd} (ho : o = if c then some { g with m := m', out := g.out ++ new } else none) : MadeO w w' eb mb g o e := by
  obtain ⟨he, hr⟩ := hm
  cases c with
  | false => simp only [Bool.false_eq_true, if_false] at hr ho; rw [ho]; exact ⟨he, hr⟩
  | true =>
    simp only [if_true] at hr ho
    obtain ⟨v, hp⟩ := hr
    rw [ho]
    refine ⟨he, _, ?_, h.put h1 h2 h3 h4 h5 h6 hp⟩
    rfl
theorem four4_toNat {n : Nat} {i : Int} (h : i = n) : four4 i.toNat = four4 n := by rw [h, Int.toNat_natCast]
theorem i_makeFirst (h : Inv w eb mb g) (hf : Fine g) (hl : g.out.length ≤ 1073741824) : Calls Tryz.prog 89 #[.pointer (some ⟨eb, 0, none⟩)] w fun e w' => MadeO w w' eb mb g g.oFirst e := by
  have hw := hf.wanted
  obtain ⟨n, hn⟩ : ∃ n : Nat, g.m.wanted = n := ⟨g.m.wanted.toNat, by omega⟩
  refine (makeFirst_any eb g.m g.out w n h.en hf.greets hn (by omega) h.out hl).mono ?_
  intro e w' hm
  refine hm.made h rfl rfl rfl rfl rfl rfl ?_
  unfold GEnd.oFirst
  rw [four4_toNat hn]
  cases g.m.told <;> rfl
theorem i_makeSettings (h : Inv w eb mb g) (hf : Fine g) (hl : g.out.length ≤ 1073741824) : Calls Tryz.prog 91 #[.pointer (some ⟨eb, 0, none⟩)] w fun e w' => MadeO w w' eb mb g g.oSettings e := by
  have hw := hf.wanted
  obtain ⟨n, hn⟩ : ∃ n : Nat, g.m.wanted = n := ⟨g.m.wanted.toNat, by omega⟩
  refine (makeSettings_any eb g.m g.out w n h.en hf.greets hn (by omega) h.out hl).mono ?_
  intro e w' hm
  refine hm.made h rfl rfl rfl rfl rfl rfl ?_
  unfold GEnd.oSettings
  rw [four4_toNat hn]
  cases (g.m.waits || g.m.wanted == g.m.made) <;> rfl
theorem i_makePing (h : Inv w eb mb g) (hf : Fine g) (hl : g.out.length ≤ 1073741824) : Calls Tryz.prog 92 #[.pointer (some ⟨eb, 0, none⟩)] w fun e w' => MadeO w w' eb mb g g.oPing e := by
  refine (makePing_any eb g.m g.out w h.en hf.greets hf.pnum h.out hl).mono ?_
  intro e w' hm
  refine hm.made h rfl rfl rfl rfl rfl rfl ?_
  unfold GEnd.oPing
  cases (g.m.under && !g.m.pinged) <;> rfl
theorem i_makeCredit (h : Inv w eb mb g) (hf : Fine g) (hl : g.out.length ≤ 1073741824) : Calls Tryz.prog 93 #[.pointer (some ⟨eb, 0, none⟩)] w fun e w' => MadeO w w' eb mb g g.oCredit e := by
  have hw := hf.owed
  have hr := hf.receive
  obtain ⟨n, hn⟩ : ∃ n : Nat, g.m.owed = n := ⟨g.m.owed.toNat, by omega⟩
  refine (makeCredit_any eb g.m g.out w n h.en hf.greets hn (by omega) (by omega) (by omega) h.out hl).mono ?_
  intro e w' hm
  refine hm.made h rfl rfl rfl rfl rfl rfl ?_
  unfold GEnd.oCredit
  rw [four4_toNat hn]
theorem updN_const {n : Int} {f : GSt → GSt} {K : List GSt} (hn : (K.map fun s => s.st.number).Nodup) {s : GSt} (hs : s ∈ K) (he : s.st.number = n) : updN n (fun _ => f s) K = updN n f K := by
  unfold updN
  apply List.map_congr_left
  intro x hx
  by_cases e : x.st.number = n
  · rw [if_pos e, if_pos e, inj_nd (fun s : GSt => s.st.number) hn hs hx (by simp only [he, e])]
  · rw [if_neg e, if_neg e]
theorem i_makeStreamCredit (h : Inv w eb mb g) (hf : Fine g) (hl : g.out.length ≤ 1073741824) : Calls Tryz.prog 94 #[.pointer (some ⟨eb, 0, none⟩)] w fun e w' => MadeO w w' eb mb g g.oStream e := by
  have ho := hf.own
  refine (makeStreamCredit_any eb g.m (openS g.K g.L) g.out w h.en hf.greets h.open (by rw [openS_length]; exact hf.few) h.out hl (by omega) (by omega) (fun p hp => ?_)).mono ?_
  · obtain ⟨n, hn, rfl⟩ := List.mem_map.1 hp
    obtain ⟨q1, q2, q3, q4, q5, q6⟩ := hf.st _ (h.at hn).1
    exact ⟨by show _ ≤ (atN g.K n).st.receive; omega, by show (atN g.K n).st.receive ≤ _; omega, q2.1, q2.2, q3.1, q3.2⟩
  · intro e w' hm
    rw [firstDue_openS] at hm
    unfold GEnd.oStream
    cases hd : firstDueN g.m g.K g.L with
    | none => rw [hd] at hm; exact hm
    | some n =>
      rw [hd] at hm
      obtain ⟨he, v, hen, hst, hrow, hc, hfr⟩ := hm
      have hn := firstDueN_mem hd
      obtain ⟨hmem, hnum⟩ := h.at hn
      have hne : ∀ j, ¬ (j = eb ∨ j = (atN g.K n).sb ∨ g.m.out.ownBlock = some j) ∨ (j = eb ∨ j = (atN g.K n).sb ∨ g.m.out.ownBlock = some j) := fun j => (Classical.em _).symm
      have keep : ∀ {k : Nat} {v' : Value} {xs : List Value} {ty : TypeId}, w.ownsRow 0 ty 1 v' k xs → (∀ j, v'.ownBlock = some j → j ≠ eb ∧ j ≠ (atN g.K n).sb ∧ g.m.out.ownBlock ≠ some j) → w'.ownsRow 0 ty 1 v' k xs := fun hr hj => owns_chg hr hc (fun j hjj e => by
        obtain ⟨a, b, c⟩ := hj j hjj
        rcases e with e | e | e
        · exact a e
        · exact b e
        · exact c e)
      refine ⟨he, _, ?_, h.onSt (S := fun j => j = eb ∨ j = (atN g.K n).sb ∨ g.m.out.ownBlock = some j) (m' := { g.m with out := v }) (s := atN g.K n) (s' := (atN g.K n).granted) (L' := g.L) (o' := g.out ++ lay 6 0 n (four4 (atN g.K n).st.owed.toNat)) 0 hmem hc ?_ hen hst rfl rfl rfl rfl rfl rfl ?_ (fun j hj => Or.inl hj) (List.Sublist.refl _) ?_ ?_ ?_ (fun j hj => Or.inl hj) ?_ (fun j hj => Or.inl hj)⟩
      · rw [hnum, updN_const h.nn hmem hnum]
        rfl
      · rintro j (e | e | e)
        · exact Or.inl e
        · exact Or.inr (Or.inl e)
        · exact Or.inr (Or.inr (Or.inr (Or.inl e)))
      · exact keep h.row (fun j hj => ⟨fun e => by rw [e] at hj; exact owns_ne h.row h.en.blk (by decide) hj, fun e => by rw [e] at hj; exact owns_ne h.row (h.st hmem).blk (by decide) hj, fun e => rows_ne h.out h.row (by decide) e hj⟩)
      · have e : (atN g.K n).str.2.number = n := hnum
        rw [e] at hrow
        exact hrow
      · intro j hj
        exact (hfr j hj).imp_right fun a => ⟨a, rfl⟩
      · exact keep (h.un (atN g.K n) hmem) (fun j hj => ⟨fun e => by rw [e] at hj; exact owns_ne (h.un _ hmem) h.en.blk (by decide) hj, fun e => by rw [e] at hj; exact owns_ne (h.un _ hmem) (h.st hmem).blk (by decide) hj, fun e => h.out_un hmem hj e⟩)
      · exact keep (h.wa (atN g.K n) hmem) (fun j hj => ⟨fun e => by rw [e] at hj; exact owns_ne (h.wa _ hmem) h.en.blk (by decide) hj, fun e => by rw [e] at hj; exact owns_ne (h.wa _ hmem) (h.st hmem).blk (by decide) hj, fun e => h.out_wa hmem hj e⟩)

def lenV' (v : Value) : Nat := match v with
  | .slice _ n _ => n
  | _ => 0
theorem nextS_none {ld : Int} {f : Str → Bool} : ∀ {L : List Str}, (∀ p ∈ L, f p = false) → nextS ld f L none = none
  | [], _ => rfl
  | p :: r, h => by
    rw [nextS, if_neg (by rw [h p List.mem_cons_self]; simp)]
    exact nextS_none fun q hq => h q (List.mem_cons_of_mem _ hq)
theorem i_makeHeaders (h : Inv w eb mb g) (hf : Fine g) : Calls Tryz.prog 96 #[.pointer (some ⟨eb, 0, none⟩)] w fun e w' => e = .returned (.bool false) ∧ Below w.heap.size w w' :=
  makeHeaders_no eb g.m (openS g.K g.L) w h.en h.open (by rw [openS_length]; exact hf.few) (fun p hp => by
    obtain ⟨n, hn, rfl⟩ := List.mem_map.1 hp
    exact (hf.st _ (h.at hn).1).2.2.2.2.1)
theorem i_makeData (h : Inv w eb mb g) (hf : Fine g) : Calls Tryz.prog 97 #[.pointer (some ⟨eb, 0, none⟩)] w fun e w' => e = .returned (.bool false) ∧ Below w.heap.size w w' := by
  have ho := hf.other
  have hlen : ∀ s ∈ g.K, lenV' s.st.waiting = s.wa.length ∧ s.st.some? s.wa.length := fun s hs => by
    obtain ⟨a, c, e⟩ := slice_len (h.wa s hs)
    exact ⟨by rw [e]; rfl, a, c, e⟩
  refine makeData_no eb g.m (openS g.K g.L) (fun p => lenV' p.2.waiting) w h.en h.open (by rw [openS_length]; exact hf.few) (fun p hp => ?_) (by omega) (by omega) (fun p hp => ?_) (nextS_none fun p hp => ?_)
  all_goals
    obtain ⟨n, hn, rfl⟩ := List.mem_map.1 hp
    obtain ⟨hmem, hnum⟩ := h.at hn
    obtain ⟨q1, q2, q3, q4, q5, q6⟩ := hf.st _ hmem
    obtain ⟨e1, e2⟩ := hlen _ hmem
  · show (atN g.K n).st.some? (lenV' (atN g.K n).st.waiting)
    rw [e1]; exact e2
  · exact ⟨by show _ ≤ (atN g.K n).st.send; omega, by show (atN g.K n).st.send ≤ _; omega⟩
  · show g.m.hasD (atN g.K n).st (lenV' (atN g.K n).st.waiting) = false
    rw [e1]; exact q6
end

set_option maxRecDepth 100000 in
set_option maxHeartbeats 1600000 in
theorem i_makeNext (eb mb : Nat) (g : GEnd) (w : World) (h : Inv w eb mb g) (hf : Fine g) (hl : g.out.length ≤ 1073741824) (hlive : g.m.fault = 0) :
    Calls Tryz.prog 67 #[.pointer (some ⟨eb, 0, none⟩)] w fun e w' => MadeO w w' eb mb g g.next e := by
  have HD := hide (isDead_any eb g.m w h.en)
  have hb : (g.m.fault == 0) = true := by simp [hlive]
  rw [hb] at HD
  have H1 := hide (i_makeFirst h hf hl)
  have H2 : Hid (∀ wx, Below w.heap.size w wx → Calls Tryz.prog 90 #[.pointer (some ⟨eb, 0, none⟩)] wx fun e w' => MadeO w w' eb mb g g.oAnswer e) := fun wx hx => (i_makeAnswer eb mb g wx (h.below hx) hf hl).mono fun e w' hm => hm.pre hx
  have H3 : Hid (∀ wx, Below w.heap.size w wx → Calls Tryz.prog 91 #[.pointer (some ⟨eb, 0, none⟩)] wx fun e w' => MadeO w w' eb mb g g.oSettings e) := fun wx hx => (i_makeSettings (h.below hx) hf hl).mono fun e w' hm => hm.pre hx
  have H4 : Hid (∀ wx, Below w.heap.size w wx → Calls Tryz.prog 92 #[.pointer (some ⟨eb, 0, none⟩)] wx fun e w' => MadeO w w' eb mb g g.oPing e) := fun wx hx => (i_makePing (h.below hx) hf hl).mono fun e w' hm => hm.pre hx
  have H5 : Hid (∀ wx, Below w.heap.size w wx → Calls Tryz.prog 93 #[.pointer (some ⟨eb, 0, none⟩)] wx fun e w' => MadeO w w' eb mb g g.oCredit e) := fun wx hx => (i_makeCredit (h.below hx) hf hl).mono fun e w' hm => hm.pre hx
  have H6 : Hid (∀ wx, Below w.heap.size w wx → Calls Tryz.prog 94 #[.pointer (some ⟨eb, 0, none⟩)] wx fun e w' => MadeO w w' eb mb g g.oStream e) := fun wx hx => (i_makeStreamCredit (h.below hx) hf hl).mono fun e w' hm => hm.pre hx
  have H7 : Hid (∀ wx, Below w.heap.size w wx → Calls Tryz.prog 95 #[.pointer (some ⟨eb, 0, none⟩)] wx fun e w' => MadeO w w' eb mb g g.oReset e) := fun wx hx => (i_makeReset eb mb g wx (h.below hx) hf hl).mono fun e w' hm => hm.pre hx
  have H8 : Hid (∀ wx, Below w.heap.size w wx → Calls Tryz.prog 96 #[.pointer (some ⟨eb, 0, none⟩)] wx fun e w' => e = .returned (.bool false) ∧ Below w.heap.size w w') := fun wx hx => (i_makeHeaders (h.below hx) hf).mono fun e w' hm => ⟨hm.1, hx.trans (hm.2.mono hx.size)⟩
  have H9 : Hid (∀ wx, Below w.heap.size w wx → Calls Tryz.prog 97 #[.pointer (some ⟨eb, 0, none⟩)] wx fun e w' => e = .returned (.bool false) ∧ Below w.heap.size w w') := fun wx hx => (i_makeData (h.below hx) hf).mono fun e w' hm => ⟨hm.1, hx.trans (hm.2.mono hx.size)⟩
  have HO : Hid (g.next = g.oFirst.or (g.oAnswer.or (g.oSettings.or (g.oPing.or (g.oCredit.or (g.oStream.or g.oReset)))))) := (rfl : g.next = _)
  clear h hf hl hlive hb
  generalize g.next = N at *
  generalize g.oFirst = o1 at *
  generalize g.oAnswer = o2 at *
  generalize g.oSettings = o3 at *
  generalize g.oPing = o4 at *
  generalize g.oCredit = o5 at *
  generalize g.oStream = o6 at *
  generalize g.oReset = o7 at *
  go_enter Tryz.func67, Tryz.ntmps67
  go_wp2_with fail
  refine HD.out.mono ?_
  rintro e w1 ⟨rfl, hw1⟩
  rw [hw1]
  clear hw1 w1
  go_wp2_with fail
  refine H1.out.mono ?_
  intro e w1 hm
  cases o1 with
  | some q =>
    obtain ⟨rfl, hx⟩ := hm
    have HX := hide hx
    clear hx
    go_wp2
    go_ret
    rw [HO.out]
    exact ⟨rfl, HX.out⟩
  | none =>
    obtain ⟨rfl, hx⟩ := hm
    have HX := hide hx
    clear hx
    go_wp2_with fail
    refine (H2.out _ HX.out).mono ?_
    intro e w2 hm
    cases o2 with
    | some q =>
      obtain ⟨rfl, hx⟩ := hm
      have HX := hide hx
      clear hx
      go_wp2
      go_ret
      rw [HO.out]
      exact ⟨rfl, HX.out⟩
    | none =>
      obtain ⟨rfl, hx⟩ := hm
      have HX := hide hx
      clear hx
      go_wp2_with fail
      refine (H3.out _ HX.out).mono ?_
      intro e w3 hm
      cases o3 with
      | some q =>
        obtain ⟨rfl, hx⟩ := hm
        have HX := hide hx
        clear hx
        go_wp2
        go_ret
        rw [HO.out]
        exact ⟨rfl, HX.out⟩
      | none =>
        obtain ⟨rfl, hx⟩ := hm
        have HX := hide hx
        clear hx
        go_wp2_with fail
        refine (H4.out _ HX.out).mono ?_
        intro e w4 hm
        cases o4 with
        | some q =>
          obtain ⟨rfl, hx⟩ := hm
          have HX := hide hx
          clear hx
          go_wp2
          go_ret
          rw [HO.out]
          exact ⟨rfl, HX.out⟩
        | none =>
          obtain ⟨rfl, hx⟩ := hm
          have HX := hide hx
          clear hx
          go_wp2_with fail
          refine (H5.out _ HX.out).mono ?_
          intro e w5 hm
          cases o5 with
          | some q =>
            obtain ⟨rfl, hx⟩ := hm
            have HX := hide hx
            clear hx
            go_wp2
            go_ret
            rw [HO.out]
            exact ⟨rfl, HX.out⟩
          | none =>
            obtain ⟨rfl, hx⟩ := hm
            have HX := hide hx
            clear hx
            go_wp2_with fail
            refine (H6.out _ HX.out).mono ?_
            intro e w6 hm
            cases o6 with
            | some q =>
              obtain ⟨rfl, hx⟩ := hm
              have HX := hide hx
              clear hx
              go_wp2
              go_ret
              rw [HO.out]
              exact ⟨rfl, HX.out⟩
            | none =>
              obtain ⟨rfl, hx⟩ := hm
              have HX := hide hx
              clear hx
              go_wp2_with fail
              refine (H7.out _ HX.out).mono ?_
              intro e w7 hm
              cases o7 with
              | some q =>
                obtain ⟨rfl, hx⟩ := hm
                have HX := hide hx
                clear hx
                go_wp2
                go_ret
                rw [HO.out]
                exact ⟨rfl, HX.out⟩
              | none =>
                obtain ⟨rfl, hx⟩ := hm
                have HX := hide hx
                clear hx
                go_wp2_with fail
                refine (H8.out _ HX.out).mono ?_
                rintro e w8 ⟨rfl, hx⟩
                have HY := hide hx
                clear hx
                go_wp2_with fail
                refine (H9.out _ HY.out).mono ?_
                rintro e w9 ⟨rfl, hx⟩
                have HZ := hide hx
                clear hx
                go_wp2
                go_ret
                rw [HO.out]
                exact ⟨rfl, HZ.out⟩
end Go.Proofs.YtiphkngfbpdeoaaGreatDoor
/-
  Package ends: Die.
-/
namespace Go.Proofs.YtiphkngfbpdeoaaGreatDoor
set_option linter.unusedVariables false
set_option linter.unusedSimpArgs false
open Go.RowKit

def EndM.died (m : EndM) (code : Int) : EndM := { m with fault := code, greeted := 0, got := .slice none 0 0, hlen := 0, hkind := 0, hflags := 0, hstream := 0, begun := false, bstream := 0, bbytes := .slice none 0 0, blast := false, newest := 0, ulim := 0, usz := 0, utab := .slice none 0 0, umost := 0, parted := false, answers := .slice none 0 0, resets := .slice none 0 0, next := 0, lastData := 0, plim := 0, psz := 0, ptab := .slice none 0 0, pwait := .slice none 0 0 }
def GSt.mute (s : GSt) : GSt := { s with st := { s.st with waiting := .slice none 0 0 }, wa := [] }
def muteN (l : List Int) (K : List GSt) : List GSt := K.map fun s => if s.st.number ∈ l then s.mute else s
/-- An end that died. -/
def GEnd.died (g : GEnd) (code : Int) : GEnd := ⟨g.m.died code, muteN g.L g.K, g.L, g.out, [], [], []⟩
theorem muteN_nil (K : List GSt) : muteN [] K = K := by unfold muteN; simp
theorem muteN_step (l : List Int) (n : Int) (K : List GSt) : updN n GSt.mute (muteN l K) = muteN (l ++ [n]) K := by
  unfold updN muteN
  rw [List.map_map]
  apply List.map_congr_left
  intro s _
  have e : s.mute.st.number = s.st.number := rfl
  simp only [Function.comp, List.mem_append, List.mem_singleton]
  by_cases h1 : s.st.number ∈ l
  · simp only [h1, if_true, true_or, e]
    split <;> rfl
  · simp only [h1, if_false, false_or]
theorem muteN_bare (l : List Int) (K : List GSt) : (muteN l K).map GSt.bare = muteN l (K.map GSt.bare) := by
  unfold muteN
  rw [List.map_map, List.map_map]
  apply List.map_congr_left
  intro s _
  show (if s.st.number ∈ l then s.mute else s).bare = if s.bare.st.number ∈ l then s.bare.mute else s.bare
  have e : s.bare.st.number = s.st.number := rfl
  rw [e]
  split <;> rfl
theorem died_bare (g : GEnd) (code : Int) : (g.died code).bare = g.bare.died code := by
  unfold GEnd.died GEnd.bare
  simp only [GEnd.mk.injEq, true_and, and_true]
  exact ⟨rfl, muteN_bare _ _, rfl⟩
theorem owns_nil8 (w : World) (e : TypeId) : w.ownsRow 0 e 1 (.slice none 0 0) 0 [] := ⟨rfl, .inl ⟨rfl, rfl⟩⟩
theorem rowAt_nil (w : World) (e : TypeId) (size : Nat) : RowAt w e size (.slice none 0 0) 0 [] := ⟨by simp, .inl ⟨rfl, rfl⟩⟩
section
variable {w w' : World} {eb mb : Nat} {g : GEnd}
/-- Where an end gave up: only its own cells, what the reader had and what is not its own have changed since it was whole. -/
structure GaveE (W w : World) (eb mb : Nat) (g0 g : GEnd) (wI : World) (m0 : EndM) (code : Int) : Prop where
  nx : Next W wI eb mb g0 g
  en : EnB w eb m0
  same : m0.died code = g.m.died code
  chg : Chg (fun j => j = eb ∨ g.m.got.ownBlock = some j ∨ (W.heap.size ≤ j ∧ ¬ Foot eb mb g j)) wI w
  few : g.L.length ≤ 1048576
/-- The end's own cells, behind the fault. -/
theorem Next.onDie {W : World} {g0 : GEnd} {code : Int} (hn : Next W w eb mb g0 g) (hc : Chg (fun j => j = eb ∨ g.m.got.ownBlock = some j ∨ (W.heap.size ≤ j ∧ ¬ Foot eb mb g j)) w w') (hen : EnB w' eb (g.m.died code)) : Next W w' eb mb g0 { g with m := g.m.died code, got := [], ans := [], res := [] } := by
  have h := hn.inv
  refine ⟨⟨hen, h.kn.chg hc (fun e => ?_) (fun p hp e => ?_), h.km, h.nd, h.nn, h.ln, h.has, ?_, ?_, owns_nil8 _ _, fun p hp => ?_, fun p hp => ?_, rowAt_nil _ _ _, fun a ha => (by cases ha), rowAt_nil _ _ _, ?_⟩, hn.chg.trans (hc.mono fun j _ e => ?_), fun j hj => hn.grow j ?_⟩
  · rcases e with a | a | a
    · exact h.eb_mb a
    · exact owns_mb h.kn h.got a
    · exact a.2 (Or.inr (Or.inl rfl))
  · obtain ⟨q, hq, rfl⟩ := List.mem_map.1 hp
    rcases e with a | a | a
    · exact h.st_eb hq a
    · exact owns_ne h.got (h.st hq).blk (by decide) a
    · exact a.2 (h.foot_st hq)
  · refine owns_chg h.row hc (fun j hj e => ?_)
    rcases e with a | a | a
    · rw [a] at hj; exact owns_ne h.row h.en.blk (by decide) hj
    · exact rows_ne h.got h.row (by decide) a hj
    · exact a.2 (Or.inr (Or.inr (Or.inr (Or.inr (Or.inl hj)))))
  · refine owns_chg h.out hc (fun j hj e => ?_)
    rcases e with a | a | a
    · rw [a] at hj; exact owns_ne h.out h.en.blk (by decide) hj
    · exact h.out_got hj a
    · exact a.2 (Or.inr (Or.inr (Or.inl hj)))
  · refine owns_chg (h.un p hp) hc (fun j hj e => ?_)
    rcases e with a | a | a
    · rw [a] at hj; exact owns_ne (h.un p hp) h.en.blk (by decide) hj
    · exact h.got_un hp hj a
    · exact a.2 (foot_un (g := g) hp hj)
  · refine owns_chg (h.wa p hp) hc (fun j hj e => ?_)
    rcases e with a | a | a
    · rw [a] at hj; exact owns_ne (h.wa p hp) h.en.blk (by decide) hj
    · exact h.got_wa hp hj a
    · exact a.2 (foot_wa (g := g) hp hj)
  · exact h.apart (fun _ => 0) (g.m.died code) g.K [] (fun j hj => Or.inl hj) (fun j hj => by cases hj) (fun p hp' j hj => Or.inl ⟨p, hp', rfl, hj⟩) (fun p hp' j hj => Or.inl ⟨p, hp', rfl, hj⟩) (fun a ha' j hj => by cases ha')
  · rcases e with a | a | a
    · rcases hn.grow j (Or.inl a) with b | b
      · exact Or.inr b
      · exact Or.inl b
    · rcases hn.grow j (Or.inr (Or.inr (Or.inr (Or.inl a)))) with b | b
      · exact Or.inr b
      · exact Or.inl b
    · exact Or.inl a.1
  · unfold Foot at hj ⊢
    rcases hj with e | e | e | e | e | e | e | ⟨a, ha', e⟩ | e
    · simp [e]
    · simp [e]
    · exact Or.inr (Or.inr (Or.inl e))
    · cases e
    · exact Or.inr (Or.inr (Or.inr (Or.inr (Or.inl e))))
    · cases e
    · cases e
    · cases ha'
    · exact Or.inr (Or.inr (Or.inr (Or.inr (Or.inr (Or.inr (Or.inr (Or.inr e)))))))
/-- One of its streams keeps nothing to send. -/
theorem Inv.onMute {s : GSt} (h : Inv w eb mb g) (hs : s ∈ g.K) : Next w (w.setCell ⟨s.sb, 12, none⟩ (.slice none 0 0)) eb mb g { g with K := updN s.st.number GSt.mute g.K } := by
  have hc : Chg (fun j => j = s.sb) w (w.setCell ⟨s.sb, 12, none⟩ (.slice none 0 0)) := chg_set (Chg.refl _ _) rfl
  have keep : ∀ {k : Nat} {v' : Value} {xs : List Value} {ty : TypeId}, w.ownsRow 0 ty 1 v' k xs → (∀ j, v'.ownBlock = some j → j ≠ s.sb) → (w.setCell ⟨s.sb, 12, none⟩ (.slice none 0 0)).ownsRow 0 ty 1 v' k xs := fun hr hj => owns_chg hr hc (fun j hjj e => hj j hjj e)
  have hn := h.onSt (S := fun j => j = s.sb) (m' := g.m) (s := s) (s' := s.mute) (L' := g.L) (o' := g.out) 0 hs hc (fun j e => Or.inr (Or.inl e)) (h.en.chg hc (fun e => h.st_eb hs e.symm)) (StB.of (blk_set (h.st hs).blk) rfl) rfl rfl rfl rfl rfl rfl
    (keep h.row (fun j hj e => by rw [e] at hj; exact owns_ne h.row (h.st hs).blk (by decide) hj)) (fun j hj => Or.inl hj) (List.Sublist.refl _)
    (keep h.out (fun j hj e => by rw [e] at hj; exact owns_ne h.out (h.st hs).blk (by decide) hj)) (fun j hj => Or.inl hj)
    (keep (h.un s hs) (fun j hj e => by rw [e] at hj; exact owns_ne (h.un s hs) (h.st hs).blk (by decide) hj)) (fun j hj => Or.inl hj)
    (owns_nil8 _ _) (fun j hj => by cases hj)
  rw [updN_const (f := GSt.mute) h.nn hs rfl] at hn
  exact hn
end
theorem foot_died {eb mb : Nat} {g : GEnd} {code : Int} {j : Nat} (h : Foot eb mb { g with m := g.m.died code, got := [], ans := [], res := [] } j) : Foot eb mb g j := by
  unfold Foot at h ⊢
  rcases h with e | e | e | e | e | e | e | ⟨a, ha', e⟩ | e
  · simp [e]
  · simp [e]
  · exact Or.inr (Or.inr (Or.inl e))
  · cases e
  · exact Or.inr (Or.inr (Or.inr (Or.inr (Or.inl e))))
  · cases e
  · cases e
  · cases ha'
  · exact Or.inr (Or.inr (Or.inr (Or.inr (Or.inr (Or.inr (Or.inr (Or.inr e)))))))
theorem foot_mute {eb mb : Nat} {g : GEnd} {n : Int} {j : Nat} (h : Foot eb mb { g with K := updN n GSt.mute g.K } j) : Foot eb mb g j := by
  unfold Foot at h ⊢
  rcases h with e | e | e | e | e | e | e | e | ⟨p, hp, e⟩
  · exact Or.inl e
  · exact Or.inr (Or.inl e)
  · exact Or.inr (Or.inr (Or.inl e))
  · exact Or.inr (Or.inr (Or.inr (Or.inl e)))
  · exact Or.inr (Or.inr (Or.inr (Or.inr (Or.inl e))))
  · exact Or.inr (Or.inr (Or.inr (Or.inr (Or.inr (Or.inl e)))))
  · exact Or.inr (Or.inr (Or.inr (Or.inr (Or.inr (Or.inr (Or.inl e))))))
  · exact Or.inr (Or.inr (Or.inr (Or.inr (Or.inr (Or.inr (Or.inr (Or.inl e)))))))
  · refine Or.inr (Or.inr (Or.inr (Or.inr (Or.inr (Or.inr (Or.inr (Or.inr ?_)))))))
    obtain ⟨s, hs, rfl⟩ := List.mem_map.1 hp
    refine ⟨s, hs, ?_⟩
    split at e
    · rcases e with e | e | e
      · exact Or.inl e
      · exact Or.inr (Or.inl e)
      · cases e
    · exact e
/-- What the end still makes, cell by cell. -/
def GoingC (w : World) (eb : Nat) (m : EndM) : Prop := eb < w.heap.size ∧ w.cell? ⟨eb, 39, none⟩ = some (.bool m.greets) ∧ w.frozen? ⟨eb, 39, none⟩ = false ∧ w.cell? ⟨eb, 40, none⟩ = some (.bool m.parted) ∧ w.frozen? ⟨eb, 40, none⟩ = false ∧ w.cell? ⟨eb, 41, none⟩ = some (m.out) ∧ w.frozen? ⟨eb, 41, none⟩ = false ∧ w.cell? ⟨eb, 42, none⟩ = some (m.answers) ∧ w.frozen? ⟨eb, 42, none⟩ = false ∧ w.cell? ⟨eb, 43, none⟩ = some (m.resets) ∧ w.frozen? ⟨eb, 43, none⟩ = false ∧ w.cell? ⟨eb, 44, none⟩ = some (.int .i64 m.next) ∧ w.frozen? ⟨eb, 44, none⟩ = false ∧ w.cell? ⟨eb, 45, none⟩ = some (.int .i64 m.lastData) ∧ w.frozen? ⟨eb, 45, none⟩ = false ∧ w.cell? ⟨eb, 46, none⟩ = some (.int .i64 m.plim) ∧ w.frozen? ⟨eb, 46, none⟩ = false ∧ w.cell? ⟨eb, 47, none⟩ = some (.int .i64 m.psz) ∧ w.frozen? ⟨eb, 47, none⟩ = false ∧ w.cell? ⟨eb, 48, none⟩ = some (m.ptab) ∧ w.frozen? ⟨eb, 48, none⟩ = false ∧ w.cell? ⟨eb, 49, none⟩ = some (m.pwait) ∧ w.frozen? ⟨eb, 49, none⟩ = false
theorem EnB.going {w : World} {eb : Nat} {m : EndM} (h : EnB w eb m) : GoingC w eb m := ⟨h.lt, h.c39, h.fr 39, h.c40, h.fr 40, h.c41, h.fr 41, h.c42, h.fr 42, h.c43, h.fr 43, h.c44, h.fr 44, h.c45, h.fr 45, h.c46, h.fr 46, h.c47, h.fr 47, h.c48, h.fr 48, h.c49, h.fr 49⟩
def EndM.deaf (m : EndM) (code : Int) : EndM := { m with fault := code, greeted := 0, got := .slice none 0 0, hlen := 0, hkind := 0, hflags := 0, hstream := 0, begun := false, bstream := 0, bbytes := .slice none 0 0, blast := false, newest := 0, ulim := 0, usz := 0, utab := .slice none 0 0, umost := 0 }
theorem deaf_en {w : World} {eb : Nat} {m0 : EndM} (code : Int) (h : EnB w eb m0) : EnB ((((((((((((((((w.setCell ⟨eb, 1, none⟩ (.int .i64 code)).setCell ⟨eb, 24, none⟩ (.int .i64 0)).setCell ⟨eb, 25, none⟩ (.slice none 0 0)).setCell ⟨eb, 26, none⟩ (.int .i64 0)).setCell ⟨eb, 27, none⟩ (.int .i64 0)).setCell ⟨eb, 28, none⟩ (.int .i64 0)).setCell ⟨eb, 29, none⟩ (.int .i64 0)).setCell ⟨eb, 30, none⟩ (.bool false)).setCell ⟨eb, 31, none⟩ (.int .i64 0)).setCell ⟨eb, 32, none⟩ (.slice none 0 0)).setCell ⟨eb, 33, none⟩ (.bool false)).setCell ⟨eb, 34, none⟩ (.int .i64 0)).setCell ⟨eb, 35, none⟩ (.int .i64 0)).setCell ⟨eb, 36, none⟩ (.int .i64 0)).setCell ⟨eb, 37, none⟩ (.slice none 0 0)).setCell ⟨eb, 38, none⟩ (.int .i64 0)) eb (m0.deaf code) ∧ Chg (fun j => j = eb) w ((((((((((((((((w.setCell ⟨eb, 1, none⟩ (.int .i64 code)).setCell ⟨eb, 24, none⟩ (.int .i64 0)).setCell ⟨eb, 25, none⟩ (.slice none 0 0)).setCell ⟨eb, 26, none⟩ (.int .i64 0)).setCell ⟨eb, 27, none⟩ (.int .i64 0)).setCell ⟨eb, 28, none⟩ (.int .i64 0)).setCell ⟨eb, 29, none⟩ (.int .i64 0)).setCell ⟨eb, 30, none⟩ (.bool false)).setCell ⟨eb, 31, none⟩ (.int .i64 0)).setCell ⟨eb, 32, none⟩ (.slice none 0 0)).setCell ⟨eb, 33, none⟩ (.bool false)).setCell ⟨eb, 34, none⟩ (.int .i64 0)).setCell ⟨eb, 35, none⟩ (.int .i64 0)).setCell ⟨eb, 36, none⟩ (.int .i64 0)).setCell ⟨eb, 37, none⟩ (.slice none 0 0)).setCell ⟨eb, 38, none⟩ (.int .i64 0)) := by
  refine ⟨EnB.of (cs := _) (blk_set (blk_set (blk_set (blk_set (blk_set (blk_set (blk_set (blk_set (blk_set (blk_set (blk_set (blk_set (blk_set (blk_set (blk_set (blk_set h.blk)))))))))))))))) (by simp [EndM.cells, EndM.deaf]), ?_⟩
  exact (chg_set (chg_set (chg_set (chg_set (chg_set (chg_set (chg_set (chg_set (chg_set (chg_set (chg_set (chg_set (chg_set (chg_set (chg_set (chg_set (Chg.refl _ _) rfl) rfl) rfl) rfl) rfl) rfl) rfl) rfl) rfl) rfl) rfl) rfl) rfl) rfl) rfl) rfl)
theorem EnB.drewE {w : World} {eb : Nat} {m : EndM} (h : EnB w eb m) : EnB w.drew eb m := ⟨h.blk⟩
theorem dumb_en {wB : World} {eb : Nat} {m0 : EndM} (code : Int) (h : EnB wB eb (m0.deaf code)) : EnB ((((((((((((wB).setCell ⟨eb, 39, none⟩ (.bool m0.greets)).setCell ⟨eb, 40, none⟩ (.bool false)).setCell ⟨eb, 41, none⟩ (m0.out)).setCell ⟨eb, 42, none⟩ (.slice none 0 0)).setCell ⟨eb, 43, none⟩ (.slice none 0 0)).setCell ⟨eb, 44, none⟩ (.int .i64 0)).setCell ⟨eb, 45, none⟩ (.int .i64 0)).setCell ⟨eb, 46, none⟩ (.int .i64 0)).setCell ⟨eb, 47, none⟩ (.int .i64 0)).setCell ⟨eb, 48, none⟩ (.slice none 0 0)).setCell ⟨eb, 49, none⟩ (.slice none 0 0)) eb (m0.died code) ∧ Chg (fun j => j = eb) wB ((((((((((((wB).setCell ⟨eb, 39, none⟩ (.bool m0.greets)).setCell ⟨eb, 40, none⟩ (.bool false)).setCell ⟨eb, 41, none⟩ (m0.out)).setCell ⟨eb, 42, none⟩ (.slice none 0 0)).setCell ⟨eb, 43, none⟩ (.slice none 0 0)).setCell ⟨eb, 44, none⟩ (.int .i64 0)).setCell ⟨eb, 45, none⟩ (.int .i64 0)).setCell ⟨eb, 46, none⟩ (.int .i64 0)).setCell ⟨eb, 47, none⟩ (.int .i64 0)).setCell ⟨eb, 48, none⟩ (.slice none 0 0)).setCell ⟨eb, 49, none⟩ (.slice none 0 0)) := by
  refine ⟨EnB.of (cs := _) (blk_set (blk_set (blk_set (blk_set (blk_set (blk_set (blk_set (blk_set (blk_set (blk_set (blk_set h.blk))))))))))) (by simp [EndM.cells, EndM.deaf, EndM.died]), ?_⟩
  exact (chg_set (chg_set (chg_set (chg_set (chg_set (chg_set (chg_set (chg_set (chg_set (chg_set (chg_set (Chg.refl _ _) rfl) rfl) rfl) rfl) rfl) rfl) rfl) rfl) rfl) rfl) rfl)
theorem died_en {wB : World} {eb : Nat} {m0 : EndM} (code : Int) (h : EnB wB eb (m0.deaf code)) : EnB ((((((((((((wB).setCell ⟨eb, 39, none⟩ (.bool m0.greets)).setCell ⟨eb, 40, none⟩ (.bool false)).setCell ⟨eb, 41, none⟩ (m0.out)).setCell ⟨eb, 42, none⟩ (.slice none 0 0)).setCell ⟨eb, 43, none⟩ (.slice none 0 0)).setCell ⟨eb, 44, none⟩ (.int .i64 0)).setCell ⟨eb, 45, none⟩ (.int .i64 0)).setCell ⟨eb, 46, none⟩ (.int .i64 0)).setCell ⟨eb, 47, none⟩ (.int .i64 0)).setCell ⟨eb, 48, none⟩ (.slice none 0 0)).setCell ⟨eb, 49, none⟩ (.slice none 0 0)).drew eb (m0.died code) ∧ Chg (fun j => j = eb) wB ((((((((((((wB).setCell ⟨eb, 39, none⟩ (.bool m0.greets)).setCell ⟨eb, 40, none⟩ (.bool false)).setCell ⟨eb, 41, none⟩ (m0.out)).setCell ⟨eb, 42, none⟩ (.slice none 0 0)).setCell ⟨eb, 43, none⟩ (.slice none 0 0)).setCell ⟨eb, 44, none⟩ (.int .i64 0)).setCell ⟨eb, 45, none⟩ (.int .i64 0)).setCell ⟨eb, 46, none⟩ (.int .i64 0)).setCell ⟨eb, 47, none⟩ (.int .i64 0)).setCell ⟨eb, 48, none⟩ (.slice none 0 0)).setCell ⟨eb, 49, none⟩ (.slice none 0 0)).drew := ⟨EnB.drewE (dumb_en code h).1, (dumb_en code h).2.drew⟩
set_option maxRecDepth 100000 in
set_option maxHeartbeats 1600000 in
theorem eDie_any (W : World) (eb mb : Nat) (g0 g : GEnd) (wI : World) (m0 : EndM) (code : Int) (w : World) (h : GaveE W w eb mb g0 g wI m0 code) :
    Calls Tryz.prog 25 #[.pointer (some ⟨eb, 0, none⟩), .int .i64 code] w fun e w' => e = .returned (.tuple #[]) ∧ (∃ g', g'.bare = g.bare.died code ∧ RdOk g' ∧ Next W w' eb mb g0 g') ∧ Chg (fun j => Foot eb mb g j) w w' := by
  have c1 := h.en.c1
  have f1 := h.en.fr 1
  have c24 := h.en.c24
  have f24 := h.en.fr 24
  have c25 := h.en.c25
  have f25 := h.en.fr 25
  have c26 := h.en.c26
  have f26 := h.en.fr 26
  have c27 := h.en.c27
  have f27 := h.en.fr 27
  have c28 := h.en.c28
  have f28 := h.en.fr 28
  have c29 := h.en.c29
  have f29 := h.en.fr 29
  have c30 := h.en.c30
  have f30 := h.en.fr 30
  have c31 := h.en.c31
  have f31 := h.en.fr 31
  have c32 := h.en.c32
  have f32 := h.en.fr 32
  have c33 := h.en.c33
  have f33 := h.en.fr 33
  have c34 := h.en.c34
  have f34 := h.en.fr 34
  have c35 := h.en.c35
  have f35 := h.en.fr 35
  have c36 := h.en.c36
  have f36 := h.en.fr 36
  have c37 := h.en.c37
  have f37 := h.en.fr 37
  have c38 := h.en.c38
  have f38 := h.en.fr 38
  have hlt := h.en.lt
  obtain ⟨hen1, hch1⟩ := deaf_en code h.en
  have HE1 := hide hen1
  have HC1 := hide hch1
  have H := hide h
  clear h hen1 hch1
  go_enter Tryz.func25, Tryz.ntmps25
  go_upto_region 2 with fail
  generalize (((((((((((((((w.setCell ⟨eb, 1, none⟩ (.int .i64 code)).setCell ⟨eb, 24, none⟩ (.int .i64 0)).setCell ⟨eb, 25, none⟩ (.slice none 0 0)).setCell ⟨eb, 26, none⟩ (.int .i64 0)).setCell ⟨eb, 27, none⟩ (.int .i64 0)).setCell ⟨eb, 28, none⟩ (.int .i64 0)).setCell ⟨eb, 29, none⟩ (.int .i64 0)).setCell ⟨eb, 30, none⟩ (.bool false)).setCell ⟨eb, 31, none⟩ (.int .i64 0)).setCell ⟨eb, 32, none⟩ (.slice none 0 0)).setCell ⟨eb, 33, none⟩ (.bool false)).setCell ⟨eb, 34, none⟩ (.int .i64 0)).setCell ⟨eb, 35, none⟩ (.int .i64 0)).setCell ⟨eb, 36, none⟩ (.int .i64 0)).setCell ⟨eb, 37, none⟩ (.slice none 0 0)).setCell ⟨eb, 38, none⟩ (.int .i64 0) = wB at *
  clear c1 f1 c24 f24 c25 f25 c26 f26 c27 f27 c28 f28 c29 f29 c30 f30 c31 f31 c32 f32 c33 f33 c34 f34 c35 f35 c36 f36 c37 f37 c38 f38
  obtain ⟨hen2, hch2⟩ := died_en code HE1.out
  have HE2 := hide hen2
  have HC2 := hide hch2
  have HG : Hid (GoingC wB.drew eb m0) := EnB.going (m := m0.deaf code) ⟨HE1.out.blk⟩
  clear hen2 hch2
  have hltB := HE1.out.lt
  obtain ⟨so, co, hso⟩ : ∃ so co, m0.out = .slice so g.out.length co := by
    obtain ⟨so, co, e⟩ := slice_len H.out.nx.inv.out
    have e2 : (m0.died code).out = (g.m.died code).out := by rw [H.out.same]
    exact ⟨so, co, Eq.trans e2 e⟩
  unfold GoingC at HG
  have c39 : wB.cell? ⟨eb, 39, none⟩ = some (.bool m0.greets) := HE1.out.c39
  have f39 := HE1.out.fr 39
  have c40 : wB.cell? ⟨eb, 40, none⟩ = some (.bool m0.parted) := HE1.out.c40
  have f40 := HE1.out.fr 40
  have c41 : wB.cell? ⟨eb, 41, none⟩ = some (m0.out) := HE1.out.c41
  have f41 := HE1.out.fr 41
  have c42 : wB.cell? ⟨eb, 42, none⟩ = some (m0.answers) := HE1.out.c42
  have f42 := HE1.out.fr 42
  have c43 : wB.cell? ⟨eb, 43, none⟩ = some (m0.resets) := HE1.out.c43
  have f43 := HE1.out.fr 43
  have c44 : wB.cell? ⟨eb, 44, none⟩ = some (.int .i64 m0.next) := HE1.out.c44
  have f44 := HE1.out.fr 44
  have c45 : wB.cell? ⟨eb, 45, none⟩ = some (.int .i64 m0.lastData) := HE1.out.c45
  have f45 := HE1.out.fr 45
  have c46 : wB.cell? ⟨eb, 46, none⟩ = some (.int .i64 m0.plim) := HE1.out.c46
  have f46 := HE1.out.fr 46
  have c47 : wB.cell? ⟨eb, 47, none⟩ = some (.int .i64 m0.psz) := HE1.out.c47
  have f47 := HE1.out.fr 47
  have c48 : wB.cell? ⟨eb, 48, none⟩ = some (m0.ptab) := HE1.out.c48
  have f48 := HE1.out.fr 48
  have c49 : wB.cell? ⟨eb, 49, none⟩ = some (m0.pwait) := HE1.out.c49
  have f49 := HE1.out.fr 49
  rw [hso] at HG HE2 HC2
  rw [hso] at c41
  have HK1 : Hid (wB.drew.cell? ⟨eb, 39, none⟩ = some (.bool m0.greets) ∧ wB.drew.cell? ⟨eb, 41, none⟩ = some (.slice so g.out.length co)) := ⟨c39, c41⟩
  have HK2 := hide (show _ ∧ _ from ⟨HE2.out.c39, HE2.out.c41⟩)
  rw [show (m0.died code).greets = m0.greets from rfl, show (m0.died code).out = m0.out from rfl, hso] at HK2
  go_region_held3 (fun wx => wx.cell? ⟨eb, 39, none⟩ = some (.bool m0.greets) ∧ wx.cell? ⟨eb, 41, none⟩ = some (.slice so g.out.length co)) (first | with_reducible exact HK1.out | with_reducible exact HK2.out) (fail)
  generalize ((((((((((((wB).setCell ⟨eb, 39, none⟩ (.bool m0.greets)).setCell ⟨eb, 40, none⟩ (.bool false)).setCell ⟨eb, 41, none⟩ (.slice so g.out.length co)).setCell ⟨eb, 42, none⟩ (.slice none 0 0)).setCell ⟨eb, 43, none⟩ (.slice none 0 0)).setCell ⟨eb, 44, none⟩ (.int .i64 0)).setCell ⟨eb, 45, none⟩ (.int .i64 0)).setCell ⟨eb, 46, none⟩ (.int .i64 0)).setCell ⟨eb, 47, none⟩ (.int .i64 0)).setCell ⟨eb, 48, none⟩ (.slice none 0 0)).setCell ⟨eb, 49, none⟩ (.slice none 0 0)).drew = wD at *
  clear c39 f39 c40 f40 c41 f41 c42 f42 c43 f43 c44 f44 c45 f45 c46 f46 c47 f47 c48 f48 c49 f49 HK1 HK2 HG hltB hlt
  have hn1 : Next W wD eb mb g0 { g with m := g.m.died code, got := [], ans := [], res := [] } := by
    refine H.out.nx.onDie (H.out.chg.trans ((HC1.out.trans (HC2.out.mono fun j _ e => Or.inr e)).mono fun j _ e => Or.inr (Or.inl e))) ?_
    rw [← H.out.same]
    exact HE2.out
  have HL : Hid (g.L.length ≤ 1048576) := H.out.few
  have HCW : Hid (Chg (fun j => Foot eb mb g j) w wD) := (HC1.out.trans (HC2.out.mono fun j _ e => Or.inr e)).mono fun j _ e => Or.inl e
  clear HE2 HC2 HC1 HE1 H hso
  obtain ⟨g1, hg1⟩ : ∃ g1 : GEnd, g1 = { g with m := g.m.died code, got := [], ans := [], res := [] } := ⟨_, rfl⟩
  rw [← hg1] at hn1
  have hb1 : ({ g1.bare with K := muteN g1.L g1.bare.K } : GEnd) = g.bare.died code := by
    rw [hg1]
    rfl
  have HG1 : Hid (g1.got = []) := by rw [hg1]; rfl
  have HFG : Hid (∀ j, Foot eb mb g1 j → Foot eb mb g j) := fun j hj => by rw [hg1] at hj; exact foot_died hj
  have hL1 : g1.L.length ≤ 1048576 := by rw [hg1]; exact HL.out
  have HB1 := hide hb1
  clear hg1 hb1 HL
  obtain ⟨sp, cp, hop⟩ := slice_len hn1.inv.row
  have c23 := hn1.inv.en.c23
  rw [hop] at c23
  have HN1 := hide hn1
  have HOP := hide hop
  clear hn1 hop
  go_wp2
  go_loopw [34] (fun i wr => ∃ (k : Nat) (wv : World) (c : GEnd), wv = wr ∧ i = .int .i64 (k : Int) ∧ k ≤ g1.L.length ∧ Next W wv eb mb g0 c ∧ c.m.opn = g1.m.opn ∧ c.L = g1.L ∧ c.got = [] ∧ c.bare = { g1.bare with K := muteN (g1.L.take k) g1.bare.K } ∧ Chg (fun j => Foot eb mb g j) w wv ∧ ∀ j, Foot eb mb c j → Foot eb mb g j) (fun i _ => g1.L.length - (intOf i).toNat)
  case atStart => exact ⟨0, _, g1, rfl, rfl, Nat.zero_le _, HN1.out, rfl, rfl, HG1.out, by rw [List.take_zero, muteN_nil], HCW.out, HFG.out⟩
  case round =>
    obtain ⟨k, wv, c, hwv, rfl, hk, hnx, hco, hcL, hcg, hcb, hcw, hfg⟩ := hrel
    subst hwv
    by_cases hlk : k < g1.L.length
    · have hkc : k < c.L.length := by rw [hcL]; exact hlk
      obtain ⟨gr, cr, e1, e2, e3⟩ := hnx.inv.open.at (k := k) (by rw [openS_length]; exact hkc)
      rw [hco, HOP.out, openS_length, hcL] at e1
      simp only [Value.slice.injEq, true_and] at e1
      obtain ⟨rfl, rfl⟩ := e1
      rw [openS_length, hcL] at e3
      have hLk : c.L[k] = g1.L[k] := by simp only [hcL]
      obtain ⟨hm, hmn⟩ := hnx.inv.at (n := c.L[k]) (List.getElem_mem hkc)
      have e4 : ((openS c.K c.L)[k]'(by rw [openS_length]; exact hkc)).1 = (atN c.K c.L[k]).sb := by simp [openS, GSt.str]
      rw [e4] at e2
      have hst := hnx.inv.st hm
      have hmu := hnx.inv.onMute hm
      have k12 := hst.c12
      have q12 := hst.fr 12
      have hslt := hst.lt
      have HNX := hide (hnx.trans hmu)
      have HREL : Hid (({ c with K := updN (atN c.K c.L[k]).st.number GSt.mute c.K } : GEnd).bare = { g1.bare with K := muteN (g1.L.take (k + 1)) g1.bare.K }) := by
        have e5 : ({ c with K := updN (atN c.K c.L[k]).st.number GSt.mute c.K } : GEnd).bare = { c.bare with K := updN (atN c.K c.L[k]).st.number GSt.mute c.bare.K } := by
          unfold GEnd.bare
          simp only [GEnd.mk.injEq, true_and, and_true]
          exact updN_bare _ GSt.mute (fun s => rfl) _
        rw [e5, hcb, hmn, hLk]
        simp only [GEnd.mk.injEq, true_and, and_true]
        rw [muteN_step, List.take_add_one, List.getElem?_eq_getElem hlk]
        rfl
      have HCW2 : Hid (Chg (fun j => Foot eb mb g j) w (wv.setCell ⟨(atN c.K c.L[k]).sb, 12, none⟩ (.slice none 0 0))) := chg_set hcw (hfg _ (hnx.inv.foot_st hm))
      have HFG2 : Hid (∀ j, Foot eb mb { c with K := updN (atN c.K c.L[k]).st.number GSt.mute c.K } j → Foot eb mb g j) := fun j hj => hfg j (foot_mute hj)
      have HCO := hide hco
      have HCL := hide hcL
      have HCG := hide hcg
      generalize (atN c.K c.L[k]).sb = sb at *
      clear hnx hco hcL hcg hcb hst hmu hm hmn e4 hcw hfg
      go_wp2
      all_goals go_roundw
      case rel => exact ⟨k + 1, _, _, rfl, by go_num, by omega, HNX.out, HCO.out, HCL.out, HCG.out, HREL.out, HCW2.out, HFG2.out⟩
      case measure => simp [intOf]; omega
    · have hke : k = g1.L.length := by omega
      rw [hke, List.take_of_length_le (Nat.le_refl _), HB1.out] at hcb
      have HEND : Hid ((∃ g', g'.bare = g.bare.died code ∧ RdOk g' ∧ Next W wv eb mb g0 g') ∧ Chg (fun j => Foot eb mb g j) w wv) := ⟨⟨c, hcb, RdOk.nil hcg, hnx⟩, hcw⟩
      clear hnx hco hcL hcg hcb hke hcw hfg
      go_wp2
      exact bodyPost_end (results_none rfl _ _ _) rfl ⟨rfl, HEND.out⟩
end Go.Proofs.YtiphkngfbpdeoaaGreatDoor
