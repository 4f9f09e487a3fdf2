import Derived.Test.YtlhlmgfblbpdpaaGreatDoorWEnAnsw
import Derived.Test.YtlhlmgfblbpdpaaGreatDoorWGam
import Derived.Test.YtlhlmgfblbpdpaaGreatDoorWGan
import Derived.Test.YtlhlmgfblbpdpaaGreatDoorWGah
set_option linter.unusedVariables false
set_option linter.unusedSimpArgs false
/-
  Package ends: the Ack of a Ping comes.
-/
namespace Go.Proofs.YtlhlmgfblbpdpaaGreatDoor
set_option linter.unusedVariables false
set_option linter.unusedSimpArgs false
open Go.RowKit

/-- Behind the Ack of a Ping of this number. -/
def EndM.ponged (m : EndM) (n : Nat) : EndM := { m.answd n with owed := m.owed + ((m.answd n).target - m.target) }
theorem answd_bound (m : EndM) (n : Nat) (b6 : 0 ≤ m.target ∧ m.target ≤ 2147483647) (b7 : 0 ≤ m.most ∧ m.most ≤ 2147483647) : -2147483647 ≤ (m.answd n).target - m.target ∧ (m.answd n).target - m.target ≤ 2147483647 := by
  unfold EndM.answd
  split
  · split
    · split
      · simp
      · show -2147483647 ≤ min (2 * m.target) m.most - m.target ∧ min (2 * m.target) m.most - m.target ≤ 2147483647
        omega
    · simp
  · simp
set_option maxRecDepth 100000 in
set_option maxHeartbeats 1600000 in
theorem comePing_ack (eb mb : Nat) (g : GEnd) (f : Int) (n : Nat) (sv : Option Addr) (len cb : Nat) (w : World) (h : Inv w eb mb g) (hf : 0 ≤ f ∧ f ≤ 255) (hak : hasB f 1 = true) (b0 : -1099511627776 ≤ g.m.owed ∧ g.m.owed ≤ 1099511627776) (b1 : 0 ≤ g.m.count ∧ g.m.count ≤ 2147483647) (b2 : 0 ≤ g.m.clock ∧ g.m.clock ≤ 2147483647) (b3 : 0 ≤ g.m.start ∧ g.m.start ≤ 2147483647) (b4 : 0 ≤ g.m.bestB ∧ g.m.bestB ≤ 2147483647) (b5 : 0 ≤ g.m.bestT ∧ g.m.bestT ≤ 2147483647) (b6 : 0 ≤ g.m.target ∧ g.m.target ≤ 2147483647) (b7 : 0 ≤ g.m.most ∧ g.m.most ≤ 2147483647) :
    Calls Tryz.prog 79 #[.pointer (some ⟨eb, 0, none⟩), .agg #[.int .i64 4, .int .i64 f, .int .i64 0, .slice sv len cb, .int .u32 n]] w fun e w' => e = .returned (.tuple #[]) ∧ Next w w' eb mb g { g with m := g.m.ponged n } := by
  have hbA : Below w.heap.size w (w.alloc (.cells #[.int .i64 4, .int .i64 f, .int .i64 0, .slice sv len cb, .int .u32 n] 151)) := (Below.refl _ _).alloc (Nat.le_refl _) _
  have hnew := heap_alloc_new w (.cells #[.int .i64 4, .int .i64 f, .int .i64 0, .slice sv len cb, .int .u32 n] 151)
  have HH : Hid (∀ w, Calls Tryz.prog 76 #[.agg #[.int .i64 4, .int .i64 f, .int .i64 0, .slice sv len cb], .int .i64 1] w fun e w' => e = .returned (.bool true) ∧ Below w.heap.size w w') := fun w => by
    have := has_any 4 f 0 1 (.slice sv len cb) w hf.1 (by omega) (Or.inl rfl)
    rw [hak] at this
    exact this
  obtain ⟨q1, q2, q3, q4, q5, q6, q7⟩ := answd_same g.m n
  obtain ⟨d, hd⟩ : ∃ d, d = (g.m.answd n).target - g.m.target := ⟨_, rfl⟩
  have hdb := answd_bound g.m n b6 b7
  rw [← hd] at hdb
  have hwd : IntKind.i64.wrap (g.m.owed + d) = g.m.owed + d := by rw [IntKind.wrap_i64]; omega
  have HFIN : Hid (∀ w1 w2, Below w.heap.size w w1 → EnB w2 eb (g.m.answd n) → Chg (fun j => j = eb) w1 w2 → Next w (w2.setCell ⟨eb, 6, none⟩ (.int .i64 (g.m.owed + d))) eb mb g { g with m := g.m.ponged n }) := fun w1 w2 hb1 he hc => by
    refine ((h.below hb1).onM (m' := g.m.ponged n) (chg_set hc rfl) ?_ q1 q2 q3 q4 q5 q6).pre hb1
    rw [hd]
    exact EnB.of (blk_set he.blk) rfl
  have HT : Hid (∀ w1, Below w.heap.size w w1 → Calls Tryz.prog 110 #[.pointer (some ⟨eb, 13, none⟩), .int .u32 n, .int .i64 g.m.clock] w1 fun e w' => e = .returned (.int .i64 d) ∧ EnB w' eb (g.m.answd n) ∧ Chg (fun j => j = eb) w1 w') := fun w1 hb1 => by
    rw [hd]
    exact tanswer_any eb g.m n w1 (h.en.below hb1) b1 b2 b3 b4 b5 b6 b7
  have HEN : Hid (∀ w1, Below w.heap.size w w1 → w1.cell? ⟨eb, 6, none⟩ = some (.int .i64 g.m.owed) ∧ w1.cell? ⟨eb, 2, none⟩ = some (.int .i64 g.m.clock) ∧ w1.frozen? ⟨eb, 6, none⟩ = false ∧ eb < w1.heap.size) := fun w1 hb1 => ⟨(h.en.below hb1).c6, (h.en.below hb1).c2, (h.en.below hb1).fr 6, (h.en.below hb1).lt⟩
  have HC4 : Hid (∀ w1, Below (w.alloc (.cells #[.int .i64 4, .int .i64 f, .int .i64 0, .slice sv len cb, .int .u32 n] 151)).heap.size (w.alloc (.cells #[.int .i64 4, .int .i64 f, .int .i64 0, .slice sv len cb, .int .u32 n] 151)) w1 → w1.cell? ⟨w.heap.size, 4, none⟩ = some (.int .u32 n)) := fun w1 hb1 => by
    rw [cell_of_row _ _ _ _ _ _ (kept_told hnew hb1)]
    rfl
  have HB := hide hbA
  have HQ7 := hide q7
  clear h hf hak b0 b1 b2 b3 b4 b5 b6 b7 hnew hbA q1 q2 q3 q4 q5 q6 q7 hdb hd
  go_enter Tryz.func79, Tryz.ntmps79
  go_wp2_with fail
  refine (HH.out _).mono ?_
  rintro e w1 ⟨rfl, hb1⟩
  have k4 := HC4.out w1 hb1
  have hB1 : Below w.heap.size w w1 := HB.out.trans (hb1.mono HB.out.size)
  obtain ⟨c6, c2, f6, hlt1⟩ := HEN.out w1 hB1
  have HB1 := hide hB1
  clear hb1 hB1 HH HC4 HB HEN
  go_upto_region 2 with fail
  go_cut [] (fun wx => ∃ w2, EnB w2 eb (g.m.answd n) ∧ Chg (fun j => j = eb) w1 w2 ∧ wx = w2.setCell ⟨eb, 6, none⟩ (.int .i64 (g.m.owed + d)))
  case first =>
    go_region_law (refine step_call rfl 110 Tryz.f110 Tryz.func110 (by kernel_rfl) rfl [.tmp 14, .tmp 16, .tmp 20] #[65, 61, 3] rfl [.pointer (some ⟨eb, 13, none⟩), .int .u32 n, .int .i64 g.m.clock] (by simp [Act.eval, Act.put]) (HT.out w1.drew (HB1.out.drew)) ?_; rintro e w2 ⟨rfl, hE, hC⟩; refine ⟨_, rfl, ?_⟩; have v6 : w2.cell? ⟨eb, 6, none⟩ = some (.int .i64 g.m.owed) := (by rw [hE.c6, HQ7.out]); have x6 : w2.frozen? ⟨eb, 6, none⟩ = false := hE.fr 6; have hl2 : eb < w2.heap.size := hE.lt; have HE := hide hE; have HC : Hid (Chg (fun j => j = eb) w1 w2) := (⟨hC.os, hC.tape, hC.output, hC.size, hC.block⟩ : Chg (fun j => j = eb) w1 w2); clear hE hC)
    all_goals (go_wp2_with fail; go_meet; exact ⟨_, HE.out, HC.out, rfl⟩)
  case rest =>
    obtain ⟨w2, hE, hC, rfl⟩ := hcut
    have HN := hide (HFIN.out w1 w2 HB1.out hE hC)
    clear hE hC
    go_wp2
    refine bodyPost_ret (v := .tuple #[]) ?_ rfl ⟨rfl, HN.out⟩
    simp [results, Tryz.results79, go_sem]
end Go.Proofs.YtlhlmgfblbpdpaaGreatDoor
/-
  Package ends: what bytes do that are no fault: take, Feed.
-/
namespace Go.Proofs.YtlhlmgfblbpdpaaGreatDoor
set_option linter.unusedVariables false
set_option linter.unusedSimpArgs false
open Go.RowKit

theorem counted_bare (m : EndM) (n : Int) : (m.counted n).bare = m.bare.counted n := by
  unfold EndM.counted
  by_cases h1 : m.under = true
  · rw [if_pos h1, if_pos (show m.bare.under = true from h1)]; rfl
  · rw [if_neg h1, if_neg (show ¬ m.bare.under = true from h1)]
    by_cases h2 : 1 ≤ n ∧ m.target < m.most
    · rw [if_pos h2, if_pos (show 1 ≤ n ∧ m.bare.target < m.bare.most from h2)]; rfl
    · rw [if_neg h2, if_neg (show ¬ (1 ≤ n ∧ m.bare.target < m.bare.most) from h2)]
theorem got_bare (m : EndM) (n : Nat) : (m.got_ n).bare = m.bare.got_ n := counted_bare { m with receive := m.receive - n } n
def GEnd.begin (p : GEnd) : GEnd := { p with m := { p.m with begun := true } }
/-- What a frame does that is no fault. -/
def Come (p : GEnd) (z1 : Fr) (z2 : GEnd) : Prop := ∀ Z : Fr → GEnd → Prop, (∀ (fl : Int) (b : List UInt8) (hf : 0 ≤ fl ∧ fl ≤ 255) (ha : hasB fl 1 = false) (hK : p.K = []) (hA : p.ans = []) (hv : p.m.answers = .slice none 0 0) (hb : p.m.bstream = 0), Z ⟨3, fl, 0, b⟩ { p with m := { p.m with begun := true, other := num4 b, answers := .tuple #[] }, ans := [⟨3, 1, [], .slice none 0 0⟩] }) → (∀ (fl n : Int) (hf : 0 ≤ fl ∧ fl ≤ 255) (hla : hasB fl 4 = true) (hop : p.m.opensN n = false) (hnw : p.m.newest < n) (h4 : p.L.length < 4) (hn : ∀ x ∈ p.K, x.st.number ≠ n) (hup : ∀ i (h : i + 1 < (p.L ++ [n]).length), (p.L ++ [n])[i] ≤ (p.L ++ [n])[i + 1]) (hb : p.m.bstream = 0) (hg : p.m.begun = true), Z ⟨1, fl, n, []⟩ (p.begin.opened n (hasB fl 1))) → (∀ (fl : Int) (s : GSt) (b : List UInt8) (hs : s ∈ p.K) (hf : 0 ≤ fl ∧ fl ≤ 255) (hp : hasB fl 8 = false) (ha : s.st.announced = true) (hh : s.st.hasAll = false) (hr : s.st.reset = 0) (hcl : ({ s.st with hasAll := hasB fl 1 } : StM).closed = false) (hlen : b.length ≤ 1073741824) (hun : s.un.length ≤ 1073741824) (hfl : b.length = 0 ∨ ((b.length : Int) ≤ p.m.receive ∧ (b.length : Int) ≤ p.m.own + s.st.receive)) (b1 : -1099511627776 ≤ p.m.receive ∧ p.m.receive ≤ 1099511627776) (b2 : -1099511627776 ≤ p.m.owed ∧ p.m.owed ≤ 1099511627776) (b3 : 0 ≤ p.m.count ∧ p.m.count ≤ 1099511627776) (b4 : -1099511627776 ≤ p.m.own ∧ p.m.own ≤ 1099511627776) (b5 : -1099511627776 ≤ s.st.receive ∧ s.st.receive ≤ 1099511627776) (b6 : -1099511627776 ≤ s.st.owed ∧ s.st.owed ≤ 1099511627776) (hb : p.m.bstream = 0) (hg : p.m.begun = true), Z ⟨0, fl, s.st.number, b⟩ { p with m := p.begin.m.got_ b.length, K := updN s.st.number (fun s => s.more b (hasB fl 1)) p.K }) → (∀ (fl : Int) (s : GSt) (b : List UInt8) (hs : s ∈ p.K) (hf : 0 ≤ fl ∧ fl ≤ 255) (hp : hasB fl 8 = false) (ha : s.st.announced = true) (hh : s.st.hasAll = false) (hr : s.st.reset = 1) (hlen : b.length ≤ 1073741824) (hfl : b.length = 0 ∨ (b.length : Int) ≤ p.m.receive) (b1 : -1099511627776 ≤ p.m.receive ∧ p.m.receive ≤ 1099511627776) (b2 : -1099511627776 ≤ p.m.owed ∧ p.m.owed ≤ 1099511627776) (b3 : 0 ≤ p.m.count ∧ p.m.count ≤ 1099511627776) (hb : p.m.bstream = 0) (hg : p.m.begun = true), Z ⟨0, fl, s.st.number, b⟩ { p with m := (p.begin.m.got_ b.length).owes b.length }) → (∀ (fl : Int) (k : Nat) (b : List UInt8) (hk : k < p.L.length) (hf : 0 ≤ fl ∧ fl ≤ 255) (ha : (atN p.K p.L[k]).st.announced = true) (hcl : (atN p.K p.L[k]).st.closed = false) (hL : p.L.length ≤ 1048576) (hul : (atN p.K p.L[k]).un.length ≤ 1048576) (b2 : -1099511627776 ≤ p.m.owed ∧ p.m.owed ≤ 1099511627776) (hb : p.m.bstream = 0) (hg : p.m.begun = true), Z ⟨2, fl, p.L[k], b⟩ { p with m := p.begin.m.owes (atN p.K p.L[k]).un.length, K := updN p.L[k] (fun s => s.drop 2) p.K, L := p.L.eraseIdx k }) → (∀ (fl : Int) (b : List UInt8) (hf : 0 ≤ fl ∧ fl ≤ 255) (ha : hasB fl 1 = false) (h8 : p.ans.length < 8) (hb : p.m.bstream = 0) (hg : p.m.begun = true), Z ⟨4, fl, 0, b⟩ { p with m := { p.m with begun := true, answers := .tuple #[] }, ans := p.ans ++ [⟨4, 1, b, .slice none 0 0⟩] }) → (∀ (fl : Int) (s : GSt) (b : List UInt8) (k : Nat) (hs : s ∈ p.K) (hf : 0 ≤ fl ∧ fl ≤ 255) (hp : hasB fl 8 = true) (ha : s.st.announced = true) (hh : s.st.hasAll = false) (hr : s.st.reset = 0) (hcl : ({ s.st with hasAll := hasB fl 1 } : StM).closed = false) (h1 : 1 ≤ b.length) (hk : b.length = (cutB fl b).length + k) (hlen : b.length ≤ 1073741824) (hun : s.un.length ≤ 1073741824) (hfl : (b.length : Int) ≤ p.m.receive ∧ (b.length : Int) ≤ p.m.own + s.st.receive) (b1 : -1099511627776 ≤ p.m.receive ∧ p.m.receive ≤ 1099511627776) (b2 : -1099511627776 ≤ p.m.owed ∧ p.m.owed ≤ 1099511627776) (b3 : 0 ≤ p.m.count ∧ p.m.count ≤ 1099511627776) (b4 : -1099511627776 ≤ p.m.own ∧ p.m.own ≤ 1099511627776) (b5 : -1099511627776 ≤ s.st.receive ∧ s.st.receive ≤ 1099511627776) (b6 : -1099511627776 ≤ s.st.owed ∧ s.st.owed ≤ 1099511627776) (hb : p.m.bstream = 0) (hg : p.m.begun = true), Z ⟨0, fl, s.st.number, b⟩ { p with m := (p.begin.m.got_ b.length).owes k, K := updN s.st.number (fun s => s.morep b.length k (cutB fl b) (hasB fl 1)) p.K }) → (∀ (fl : Int) (b : List UInt8) (hf : 0 ≤ fl ∧ fl ≤ 255) (ha : hasB fl 1 = true) (hw : p.m.waits = true) (hb : p.m.bstream = 0) (hg : p.m.begun = true), Z ⟨3, fl, 0, b⟩ { p with m := p.begin.m.acked }) → (∀ (fl : Int) (b : List UInt8) (n : Nat) (hn : num4 b = n) (hf : 0 ≤ fl ∧ fl ≤ 255) (ha : hasB fl 1 = true) (b0 : -1099511627776 ≤ p.m.owed ∧ p.m.owed ≤ 1099511627776) (b1 : 0 ≤ p.m.count ∧ p.m.count ≤ 2147483647) (b2 : 0 ≤ p.m.clock ∧ p.m.clock ≤ 2147483647) (b3 : 0 ≤ p.m.start ∧ p.m.start ≤ 2147483647) (b4 : 0 ≤ p.m.bestB ∧ p.m.bestB ≤ 2147483647) (b5 : 0 ≤ p.m.bestT ∧ p.m.bestT ≤ 2147483647) (b6 : 0 ≤ p.m.target ∧ p.m.target ≤ 2147483647) (b7 : 0 ≤ p.m.most ∧ p.m.most ≤ 2147483647) (hb : p.m.bstream = 0) (hg : p.m.begun = true), Z ⟨4, fl, 0, b⟩ { p with m := p.begin.m.ponged n }) → Z z1 z2
theorem Come.settings {p : GEnd} (fl : Int) (b : List UInt8) (hf : 0 ≤ fl ∧ fl ≤ 255) (ha : hasB fl 1 = false) (hK : p.K = []) (hA : p.ans = []) (hv : p.m.answers = .slice none 0 0) (hb : p.m.bstream = 0) : Come p ⟨3, fl, 0, b⟩ { p with m := { p.m with begun := true, other := num4 b, answers := .tuple #[] }, ans := [⟨3, 1, [], .slice none 0 0⟩] } := fun Z zk1 zk2 zk3 zk4 zk5 zk6 zk7 zk8 zk9 => zk1 fl b hf ha hK hA hv hb
theorem Come.headers {p : GEnd} (fl n : Int) (hf : 0 ≤ fl ∧ fl ≤ 255) (hla : hasB fl 4 = true) (hop : p.m.opensN n = false) (hnw : p.m.newest < n) (h4 : p.L.length < 4) (hn : ∀ x ∈ p.K, x.st.number ≠ n) (hup : ∀ i (h : i + 1 < (p.L ++ [n]).length), (p.L ++ [n])[i] ≤ (p.L ++ [n])[i + 1]) (hb : p.m.bstream = 0) (hg : p.m.begun = true) : Come p ⟨1, fl, n, []⟩ (p.begin.opened n (hasB fl 1)) := fun Z zk1 zk2 zk3 zk4 zk5 zk6 zk7 zk8 zk9 => zk2 fl n hf hla hop hnw h4 hn hup hb hg
theorem Come.kept {p : GEnd} (fl : Int) (s : GSt) (b : List UInt8) (hs : s ∈ p.K) (hf : 0 ≤ fl ∧ fl ≤ 255) (hp : hasB fl 8 = false) (ha : s.st.announced = true) (hh : s.st.hasAll = false) (hr : s.st.reset = 0) (hcl : ({ s.st with hasAll := hasB fl 1 } : StM).closed = false) (hlen : b.length ≤ 1073741824) (hun : s.un.length ≤ 1073741824) (hfl : b.length = 0 ∨ ((b.length : Int) ≤ p.m.receive ∧ (b.length : Int) ≤ p.m.own + s.st.receive)) (b1 : -1099511627776 ≤ p.m.receive ∧ p.m.receive ≤ 1099511627776) (b2 : -1099511627776 ≤ p.m.owed ∧ p.m.owed ≤ 1099511627776) (b3 : 0 ≤ p.m.count ∧ p.m.count ≤ 1099511627776) (b4 : -1099511627776 ≤ p.m.own ∧ p.m.own ≤ 1099511627776) (b5 : -1099511627776 ≤ s.st.receive ∧ s.st.receive ≤ 1099511627776) (b6 : -1099511627776 ≤ s.st.owed ∧ s.st.owed ≤ 1099511627776) (hb : p.m.bstream = 0) (hg : p.m.begun = true) : Come p ⟨0, fl, s.st.number, b⟩ { p with m := p.begin.m.got_ b.length, K := updN s.st.number (fun s => s.more b (hasB fl 1)) p.K } := fun Z zk1 zk2 zk3 zk4 zk5 zk6 zk7 zk8 zk9 => zk3 fl s b hs hf hp ha hh hr hcl hlen hun hfl b1 b2 b3 b4 b5 b6 hb hg
theorem Come.lost {p : GEnd} (fl : Int) (s : GSt) (b : List UInt8) (hs : s ∈ p.K) (hf : 0 ≤ fl ∧ fl ≤ 255) (hp : hasB fl 8 = false) (ha : s.st.announced = true) (hh : s.st.hasAll = false) (hr : s.st.reset = 1) (hlen : b.length ≤ 1073741824) (hfl : b.length = 0 ∨ (b.length : Int) ≤ p.m.receive) (b1 : -1099511627776 ≤ p.m.receive ∧ p.m.receive ≤ 1099511627776) (b2 : -1099511627776 ≤ p.m.owed ∧ p.m.owed ≤ 1099511627776) (b3 : 0 ≤ p.m.count ∧ p.m.count ≤ 1099511627776) (hb : p.m.bstream = 0) (hg : p.m.begun = true) : Come p ⟨0, fl, s.st.number, b⟩ { p with m := (p.begin.m.got_ b.length).owes b.length } := fun Z zk1 zk2 zk3 zk4 zk5 zk6 zk7 zk8 zk9 => zk4 fl s b hs hf hp ha hh hr hlen hfl b1 b2 b3 hb hg
theorem Come.reset {p : GEnd} (fl : Int) (k : Nat) (b : List UInt8) (hk : k < p.L.length) (hf : 0 ≤ fl ∧ fl ≤ 255) (ha : (atN p.K p.L[k]).st.announced = true) (hcl : (atN p.K p.L[k]).st.closed = false) (hL : p.L.length ≤ 1048576) (hul : (atN p.K p.L[k]).un.length ≤ 1048576) (b2 : -1099511627776 ≤ p.m.owed ∧ p.m.owed ≤ 1099511627776) (hb : p.m.bstream = 0) (hg : p.m.begun = true) : Come p ⟨2, fl, p.L[k], b⟩ { p with m := p.begin.m.owes (atN p.K p.L[k]).un.length, K := updN p.L[k] (fun s => s.drop 2) p.K, L := p.L.eraseIdx k } := fun Z zk1 zk2 zk3 zk4 zk5 zk6 zk7 zk8 zk9 => zk5 fl k b hk hf ha hcl hL hul b2 hb hg
theorem Come.ping {p : GEnd} (fl : Int) (b : List UInt8) (hf : 0 ≤ fl ∧ fl ≤ 255) (ha : hasB fl 1 = false) (h8 : p.ans.length < 8) (hb : p.m.bstream = 0) (hg : p.m.begun = true) : Come p ⟨4, fl, 0, b⟩ { p with m := { p.m with begun := true, answers := .tuple #[] }, ans := p.ans ++ [⟨4, 1, b, .slice none 0 0⟩] } := fun Z zk1 zk2 zk3 zk4 zk5 zk6 zk7 zk8 zk9 => zk6 fl b hf ha h8 hb hg
theorem Come.pad {p : GEnd} (fl : Int) (s : GSt) (b : List UInt8) (k : Nat) (hs : s ∈ p.K) (hf : 0 ≤ fl ∧ fl ≤ 255) (hp : hasB fl 8 = true) (ha : s.st.announced = true) (hh : s.st.hasAll = false) (hr : s.st.reset = 0) (hcl : ({ s.st with hasAll := hasB fl 1 } : StM).closed = false) (h1 : 1 ≤ b.length) (hk : b.length = (cutB fl b).length + k) (hlen : b.length ≤ 1073741824) (hun : s.un.length ≤ 1073741824) (hfl : (b.length : Int) ≤ p.m.receive ∧ (b.length : Int) ≤ p.m.own + s.st.receive) (b1 : -1099511627776 ≤ p.m.receive ∧ p.m.receive ≤ 1099511627776) (b2 : -1099511627776 ≤ p.m.owed ∧ p.m.owed ≤ 1099511627776) (b3 : 0 ≤ p.m.count ∧ p.m.count ≤ 1099511627776) (b4 : -1099511627776 ≤ p.m.own ∧ p.m.own ≤ 1099511627776) (b5 : -1099511627776 ≤ s.st.receive ∧ s.st.receive ≤ 1099511627776) (b6 : -1099511627776 ≤ s.st.owed ∧ s.st.owed ≤ 1099511627776) (hb : p.m.bstream = 0) (hg : p.m.begun = true) : Come p ⟨0, fl, s.st.number, b⟩ { p with m := (p.begin.m.got_ b.length).owes k, K := updN s.st.number (fun s => s.morep b.length k (cutB fl b) (hasB fl 1)) p.K } := fun Z zk1 zk2 zk3 zk4 zk5 zk6 zk7 zk8 zk9 => zk7 fl s b k hs hf hp ha hh hr hcl h1 hk hlen hun hfl b1 b2 b3 b4 b5 b6 hb hg
theorem Come.ack {p : GEnd} (fl : Int) (b : List UInt8) (hf : 0 ≤ fl ∧ fl ≤ 255) (ha : hasB fl 1 = true) (hw : p.m.waits = true) (hb : p.m.bstream = 0) (hg : p.m.begun = true) : Come p ⟨3, fl, 0, b⟩ { p with m := p.begin.m.acked } := fun Z zk1 zk2 zk3 zk4 zk5 zk6 zk7 zk8 zk9 => zk8 fl b hf ha hw hb hg
theorem Come.pong {p : GEnd} (fl : Int) (b : List UInt8) (n : Nat) (hn : num4 b = n) (hf : 0 ≤ fl ∧ fl ≤ 255) (ha : hasB fl 1 = true) (b0 : -1099511627776 ≤ p.m.owed ∧ p.m.owed ≤ 1099511627776) (b1 : 0 ≤ p.m.count ∧ p.m.count ≤ 2147483647) (b2 : 0 ≤ p.m.clock ∧ p.m.clock ≤ 2147483647) (b3 : 0 ≤ p.m.start ∧ p.m.start ≤ 2147483647) (b4 : 0 ≤ p.m.bestB ∧ p.m.bestB ≤ 2147483647) (b5 : 0 ≤ p.m.bestT ∧ p.m.bestT ≤ 2147483647) (b6 : 0 ≤ p.m.target ∧ p.m.target ≤ 2147483647) (b7 : 0 ≤ p.m.most ∧ p.m.most ≤ 2147483647) (hb : p.m.bstream = 0) (hg : p.m.begun = true) : Come p ⟨4, fl, 0, b⟩ { p with m := p.begin.m.ponged n } := fun Z zk1 zk2 zk3 zk4 zk5 zk6 zk7 zk8 zk9 => zk9 fl b n hn hf ha b0 b1 b2 b3 b4 b5 b6 b7 hb hg
theorem Come.ind {p : GEnd} {motive : ∀ (z1 : Fr) (z2 : GEnd), Come p z1 z2 → Prop} (settings : ∀ (fl : Int) (b : List UInt8) (hf : 0 ≤ fl ∧ fl ≤ 255) (ha : hasB fl 1 = false) (hK : p.K = []) (hA : p.ans = []) (hv : p.m.answers = .slice none 0 0) (hb : p.m.bstream = 0), motive ⟨3, fl, 0, b⟩ { p with m := { p.m with begun := true, other := num4 b, answers := .tuple #[] }, ans := [⟨3, 1, [], .slice none 0 0⟩] } (@Come.settings p fl b hf ha hK hA hv hb)) (headers : ∀ (fl n : Int) (hf : 0 ≤ fl ∧ fl ≤ 255) (hla : hasB fl 4 = true) (hop : p.m.opensN n = false) (hnw : p.m.newest < n) (h4 : p.L.length < 4) (hn : ∀ x ∈ p.K, x.st.number ≠ n) (hup : ∀ i (h : i + 1 < (p.L ++ [n]).length), (p.L ++ [n])[i] ≤ (p.L ++ [n])[i + 1]) (hb : p.m.bstream = 0) (hg : p.m.begun = true), motive ⟨1, fl, n, []⟩ (p.begin.opened n (hasB fl 1)) (@Come.headers p fl n hf hla hop hnw h4 hn hup hb hg)) (kept : ∀ (fl : Int) (s : GSt) (b : List UInt8) (hs : s ∈ p.K) (hf : 0 ≤ fl ∧ fl ≤ 255) (hp : hasB fl 8 = false) (ha : s.st.announced = true) (hh : s.st.hasAll = false) (hr : s.st.reset = 0) (hcl : ({ s.st with hasAll := hasB fl 1 } : StM).closed = false) (hlen : b.length ≤ 1073741824) (hun : s.un.length ≤ 1073741824) (hfl : b.length = 0 ∨ ((b.length : Int) ≤ p.m.receive ∧ (b.length : Int) ≤ p.m.own + s.st.receive)) (b1 : -1099511627776 ≤ p.m.receive ∧ p.m.receive ≤ 1099511627776) (b2 : -1099511627776 ≤ p.m.owed ∧ p.m.owed ≤ 1099511627776) (b3 : 0 ≤ p.m.count ∧ p.m.count ≤ 1099511627776) (b4 : -1099511627776 ≤ p.m.own ∧ p.m.own ≤ 1099511627776) (b5 : -1099511627776 ≤ s.st.receive ∧ s.st.receive ≤ 1099511627776) (b6 : -1099511627776 ≤ s.st.owed ∧ s.st.owed ≤ 1099511627776) (hb : p.m.bstream = 0) (hg : p.m.begun = true), motive ⟨0, fl, s.st.number, b⟩ { p with m := p.begin.m.got_ b.length, K := updN s.st.number (fun s => s.more b (hasB fl 1)) p.K } (@Come.kept p fl s b hs hf hp ha hh hr hcl hlen hun hfl b1 b2 b3 b4 b5 b6 hb hg)) (lost : ∀ (fl : Int) (s : GSt) (b : List UInt8) (hs : s ∈ p.K) (hf : 0 ≤ fl ∧ fl ≤ 255) (hp : hasB fl 8 = false) (ha : s.st.announced = true) (hh : s.st.hasAll = false) (hr : s.st.reset = 1) (hlen : b.length ≤ 1073741824) (hfl : b.length = 0 ∨ (b.length : Int) ≤ p.m.receive) (b1 : -1099511627776 ≤ p.m.receive ∧ p.m.receive ≤ 1099511627776) (b2 : -1099511627776 ≤ p.m.owed ∧ p.m.owed ≤ 1099511627776) (b3 : 0 ≤ p.m.count ∧ p.m.count ≤ 1099511627776) (hb : p.m.bstream = 0) (hg : p.m.begun = true), motive ⟨0, fl, s.st.number, b⟩ { p with m := (p.begin.m.got_ b.length).owes b.length } (@Come.lost p fl s b hs hf hp ha hh hr hlen hfl b1 b2 b3 hb hg)) (reset : ∀ (fl : Int) (k : Nat) (b : List UInt8) (hk : k < p.L.length) (hf : 0 ≤ fl ∧ fl ≤ 255) (ha : (atN p.K p.L[k]).st.announced = true) (hcl : (atN p.K p.L[k]).st.closed = false) (hL : p.L.length ≤ 1048576) (hul : (atN p.K p.L[k]).un.length ≤ 1048576) (b2 : -1099511627776 ≤ p.m.owed ∧ p.m.owed ≤ 1099511627776) (hb : p.m.bstream = 0) (hg : p.m.begun = true), motive ⟨2, fl, p.L[k], b⟩ { p with m := p.begin.m.owes (atN p.K p.L[k]).un.length, K := updN p.L[k] (fun s => s.drop 2) p.K, L := p.L.eraseIdx k } (@Come.reset p fl k b hk hf ha hcl hL hul b2 hb hg)) (ping : ∀ (fl : Int) (b : List UInt8) (hf : 0 ≤ fl ∧ fl ≤ 255) (ha : hasB fl 1 = false) (h8 : p.ans.length < 8) (hb : p.m.bstream = 0) (hg : p.m.begun = true), motive ⟨4, fl, 0, b⟩ { p with m := { p.m with begun := true, answers := .tuple #[] }, ans := p.ans ++ [⟨4, 1, b, .slice none 0 0⟩] } (@Come.ping p fl b hf ha h8 hb hg)) (pad : ∀ (fl : Int) (s : GSt) (b : List UInt8) (k : Nat) (hs : s ∈ p.K) (hf : 0 ≤ fl ∧ fl ≤ 255) (hp : hasB fl 8 = true) (ha : s.st.announced = true) (hh : s.st.hasAll = false) (hr : s.st.reset = 0) (hcl : ({ s.st with hasAll := hasB fl 1 } : StM).closed = false) (h1 : 1 ≤ b.length) (hk : b.length = (cutB fl b).length + k) (hlen : b.length ≤ 1073741824) (hun : s.un.length ≤ 1073741824) (hfl : (b.length : Int) ≤ p.m.receive ∧ (b.length : Int) ≤ p.m.own + s.st.receive) (b1 : -1099511627776 ≤ p.m.receive ∧ p.m.receive ≤ 1099511627776) (b2 : -1099511627776 ≤ p.m.owed ∧ p.m.owed ≤ 1099511627776) (b3 : 0 ≤ p.m.count ∧ p.m.count ≤ 1099511627776) (b4 : -1099511627776 ≤ p.m.own ∧ p.m.own ≤ 1099511627776) (b5 : -1099511627776 ≤ s.st.receive ∧ s.st.receive ≤ 1099511627776) (b6 : -1099511627776 ≤ s.st.owed ∧ s.st.owed ≤ 1099511627776) (hb : p.m.bstream = 0) (hg : p.m.begun = true), motive ⟨0, fl, s.st.number, b⟩ { p with m := (p.begin.m.got_ b.length).owes k, K := updN s.st.number (fun s => s.morep b.length k (cutB fl b) (hasB fl 1)) p.K } (@Come.pad p fl s b k hs hf hp ha hh hr hcl h1 hk hlen hun hfl b1 b2 b3 b4 b5 b6 hb hg)) (ack : ∀ (fl : Int) (b : List UInt8) (hf : 0 ≤ fl ∧ fl ≤ 255) (ha : hasB fl 1 = true) (hw : p.m.waits = true) (hb : p.m.bstream = 0) (hg : p.m.begun = true), motive ⟨3, fl, 0, b⟩ { p with m := p.begin.m.acked } (@Come.ack p fl b hf ha hw hb hg)) (pong : ∀ (fl : Int) (b : List UInt8) (n : Nat) (hn : num4 b = n) (hf : 0 ≤ fl ∧ fl ≤ 255) (ha : hasB fl 1 = true) (b0 : -1099511627776 ≤ p.m.owed ∧ p.m.owed ≤ 1099511627776) (b1 : 0 ≤ p.m.count ∧ p.m.count ≤ 2147483647) (b2 : 0 ≤ p.m.clock ∧ p.m.clock ≤ 2147483647) (b3 : 0 ≤ p.m.start ∧ p.m.start ≤ 2147483647) (b4 : 0 ≤ p.m.bestB ∧ p.m.bestB ≤ 2147483647) (b5 : 0 ≤ p.m.bestT ∧ p.m.bestT ≤ 2147483647) (b6 : 0 ≤ p.m.target ∧ p.m.target ≤ 2147483647) (b7 : 0 ≤ p.m.most ∧ p.m.most ≤ 2147483647) (hb : p.m.bstream = 0) (hg : p.m.begun = true), motive ⟨4, fl, 0, b⟩ { p with m := p.begin.m.ponged n } (@Come.pong p fl b n hn hf ha b0 b1 b2 b3 b4 b5 b6 b7 hb hg)) {z1 : Fr} {z2 : GEnd} (zt : Come p z1 z2) : motive z1 z2 zt := (zt (fun z1 z2 => ∃ zt : Come p z1 z2, motive z1 z2 zt) (fun fl b hf ha hK hA hv hb => ⟨_, @settings fl b hf ha hK hA hv hb⟩) (fun fl n hf hla hop hnw h4 hn hup hb hg => ⟨_, @headers fl n hf hla hop hnw h4 hn hup hb hg⟩) (fun fl s b hs hf hp ha hh hr hcl hlen hun hfl b1 b2 b3 b4 b5 b6 hb hg => ⟨_, @kept fl s b hs hf hp ha hh hr hcl hlen hun hfl b1 b2 b3 b4 b5 b6 hb hg⟩) (fun fl s b hs hf hp ha hh hr hlen hfl b1 b2 b3 hb hg => ⟨_, @lost fl s b hs hf hp ha hh hr hlen hfl b1 b2 b3 hb hg⟩) (fun fl k b hk hf ha hcl hL hul b2 hb hg => ⟨_, @reset fl k b hk hf ha hcl hL hul b2 hb hg⟩) (fun fl b hf ha h8 hb hg => ⟨_, @ping fl b hf ha h8 hb hg⟩) (fun fl s b k hs hf hp ha hh hr hcl h1 hk hlen hun hfl b1 b2 b3 b4 b5 b6 hb hg => ⟨_, @pad fl s b k hs hf hp ha hh hr hcl h1 hk hlen hun hfl b1 b2 b3 b4 b5 b6 hb hg⟩) (fun fl b hf ha hw hb hg => ⟨_, @ack fl b hf ha hw hb hg⟩) (fun fl b n hn hf ha b0 b1 b2 b3 b4 b5 b6 b7 hb hg => ⟨_, @pong fl b n hn hf ha b0 b1 b2 b3 b4 b5 b6 b7 hb hg⟩)).elim fun _ zx => zx
theorem answd_bare (m : EndM) (n : Nat) : (m.answd n).bare = m.bare.answd n := by
  unfold EndM.answd
  by_cases h1 : (m.under && m.pinged && (n == m.pnum)) = true
  · rw [if_pos h1, if_pos (show (m.bare.under && m.bare.pinged && (n == m.bare.pnum)) = true from h1)]
    by_cases h2 : m.bestB * m.ticks < m.count * m.bestT
    · rw [if_pos h2, if_pos (show m.bare.bestB * m.bare.ticks < m.bare.count * m.bare.bestT from h2)]
      by_cases h3 : 2 * m.count < m.target
      · rw [if_pos h3, if_pos (show 2 * m.bare.count < m.bare.target from h3)]; rfl
      · rw [if_neg h3, if_neg (show ¬ 2 * m.bare.count < m.bare.target from h3)]; rfl
    · rw [if_neg h2, if_neg (show ¬ m.bare.bestB * m.bare.ticks < m.bare.count * m.bare.bestT from h2)]; rfl
  · rw [if_neg h1, if_neg (show ¬ (m.bare.under && m.bare.pinged && (n == m.bare.pnum)) = true from h1)]
theorem ponged_bare (m : EndM) (n : Nat) : (m.ponged n).bare = m.bare.ponged n := by
  unfold EndM.ponged
  rw [← answd_bare]
  rfl

theorem mem_bare {g : GEnd} {p : GEnd} (hp : g.bare = p) {s : GSt} (hs : s ∈ p.K) : ∃ x ∈ g.K, x.bare = s := by
  rw [← hp] at hs
  exact List.mem_map.1 hs

theorem up_eq {l l' : List Int} (e : l = l') (h : ∀ i (h : i + 1 < l'.length), l'[i] ≤ l'[i + 1]) : ∀ i (h : i + 1 < l.length), l[i] ≤ l[i + 1] := by subst e; exact h
/-- A frame that is no fault comes. -/
theorem i_come (eb mb : Nat) (g p q : GEnd) (f : Fr) (bv cv : Value) (w : World) (h : Inv w eb mb g) (hp : g.bare = p) (hc : Come p f q) (hgl : Gl w) (hge : ∀ j, j < 7 → ¬ Foot eb mb g j) (hbv : w.ownsRow 0 5 1 bv f.body.length (f.body.map B)) (hbn : ∀ j, bv.ownBlock = some j → ¬ Foot eb mb g j) (hcv : f.kind = 0 → ContV f.flags bv cv f.body) {w0 : World} {g0 : GEnd} (hn0 : Next w0 w eb mb g0 g) (hb0 : ∀ j, bv.ownBlock = some j → w0.heap.size ≤ j) :
    Calls Tryz.prog 55 #[.pointer (some ⟨eb, 0, none⟩), frV f.kind f.flags f.stream bv cv f.body] w fun e w' => e = .returned (.tuple #[]) ∧ ∃ g', g'.bare = q ∧ Next w0 w' eb mb g0 g' := by
  have hbs : g.m.bstream = p.m.bstream := by rw [← hp]; rfl
  have hbg : g.m.begun = p.m.begun := by rw [← hp]; rfl
  obtain ⟨sv, cb, hsv⟩ := slice_len hbv
  have hah : ∀ {w1 : World} {g1 : GEnd}, Ahead w w1 eb mb g g1 → g1.bare = p.begin ∧ Next w w1 eb mb g g1 ∧ BytesIn w1 bv f.body ∧ ∀ j, bv.ownBlock = some j → ¬ Foot eb mb g1 j := fun {w1 g1} ha => by
    obtain ⟨h1, h2⟩ := ha
    obtain ⟨h3, h4⟩ := h2.bytes (bytesIn_of_owns hbv rfl) hbn
    refine ⟨?_, h2, h3, h4⟩
    rw [h1, ← hp]
    rfl
  cases hc using Come.ind with
  | settings fl b hf ha hK hA hv hb =>
    rw [show frV (Fr.mk 3 fl 0 b).kind (Fr.mk 3 fl 0 b).flags (Fr.mk 3 fl 0 b).stream bv cv (Fr.mk 3 fl 0 b).body = .iface 148 (.agg #[.int .i64 3, .int .i64 fl, .int .i64 0, .slice sv b.length cb, .int .i64 (num4 b)]) from by
      simp only at hsv
      unfold frV
      simp [hsv, ha]]
    refine come_settings eb mb g w (fun w' => ∃ g', g'.bare = _ ∧ Next w0 w' eb mb g0 g') fl (num4 b) sv b.length cb h (by rw [hbs]; exact hb) ha hf ?_
    intro w1 g1 hah1
    obtain ⟨e1, n1, -, -⟩ := hah hah1
    have hK1 : g1.K = [] := by
      have := congrArg GEnd.K e1
      simpa [GEnd.bare, GEnd.begin, hK] using this
    have hA1 : g1.ans = [] := by
      have := congrArg GEnd.ans e1
      simpa [GEnd.bare, GEnd.begin, hA] using this
    have hv1 : g1.m.answers = .slice none 0 0 := by
      have e2 : nilV g1.m.answers = .slice none 0 0 := by
        have := congrArg (fun x : GEnd => x.m.answers) e1
        simpa [GEnd.bare, EndM.bare, GEnd.begin, hv] using this
      rcases n1.inv.ans.2 with ⟨h1, -⟩ | ⟨a1, a2, a3, a4, h1, -⟩
      · exact h1
      · rw [h1] at e2; cases e2
    refine (comeSettings_none eb mb g1 fl (num4 b) sv b.length cb w1 n1.inv hf ha hK1 hv1 hA1).mono ?_
    rintro e w' ⟨rfl, g', h1, h2⟩
    refine ⟨rfl, g', ?_, hn0.trans (n1.trans h2)⟩
    rw [h1]
    have e3 : ({ g1 with m := { g1.m with other := num4 b, answers := .tuple #[] }, ans := [⟨3, 1, [], .slice none 0 0⟩] } : GEnd).bare = { g1.bare with m := { g1.bare.m with other := num4 b, answers := .tuple #[] }, ans := [⟨3, 1, [], .slice none 0 0⟩] } := rfl
    rw [e3, e1]
    rfl
  | headers fl n hf hla hop hnw h4 hn hup hb hg =>
    rw [show frV (Fr.mk 1 fl n []).kind (Fr.mk 1 fl n []).flags (Fr.mk 1 fl n []).stream bv cv (Fr.mk 1 fl n []).body = .iface 139 (.agg #[.int .i64 1, .int .i64 fl, .int .i64 n, .slice sv 0 cb, .slice sv 0 cb]) from by
      simp only [List.length_nil] at hsv
      unfold frV
      simp [hsv]]
    have hsn : sv = none → cb = 0 := fun e => by
      subst e
      rcases hbv.2 with ⟨h1, -⟩ | ⟨a1, a2, a3, h1, -⟩
      · rw [hsv] at h1; simp at h1; exact h1
      · rw [hsv] at h1; simp at h1
    refine come_headers eb mb g w (fun w' => ∃ g', g'.bare = _ ∧ Next w0 w' eb mb g0 g') fl n sv 0 cb h (by rw [hbs]; exact hb) (by rw [hbg]; exact hg) ?_
    intro w1 g1 hah1
    obtain ⟨e1, n1, -, -⟩ := hah hah1
    have hL1 : g1.L = p.L := by have := congrArg GEnd.L e1; exact this
    have hge1 : ∀ j, j < 7 → ¬ Foot eb mb g1 j := fun j hj hf => by
      rcases n1.grow j hf with a | a
      · exact hge j hj a
      · have := hgl.lt; omega
    have hgl1 : Gl w1 := hgl.chg n1.chg hge
    refine (comeHeaders_nil eb mb g1 fl n sv cb w1 n1.inv hgl1 hge1 hsn hf hla ?_ ?_ ?_ ?_ ?_ ?_).mono ?_
    · have : g1.m.opensN n = p.m.opensN n := by
        have e2 : g1.bare.m.opensN n = p.begin.m.opensN n := by rw [e1]
        exact e2
      rw [this]; exact hop
    · have : g1.m.newest = p.m.newest := by have := congrArg (fun x : GEnd => x.m.newest) e1; exact this
      rw [this]; exact hnw
    · rw [hL1]; omega
    · intro x hx e
      have hx2 : x.bare ∈ p.K := by
        have : g1.bare.K = p.K := by have := congrArg GEnd.K e1; exact this
        rw [← this]
        exact List.mem_map.2 ⟨x, hx, rfl⟩
      exact hn _ hx2 e
    · exact up_eq (by rw [hL1]) hup
    · rw [hL1]; omega
    · rintro e w' ⟨rfl, g', h1, h2⟩
      refine ⟨rfl, g', ?_, hn0.trans (n1.trans h2)⟩
      rw [h1]
      have e3 : (g1.opened n (hasB fl 1)).bare = g1.bare.opened n (hasB fl 1) := by
        unfold GEnd.opened GEnd.bare
        simp only [GEnd.mk.injEq, true_and, and_true]
        refine ⟨rfl, ?_⟩
        rw [List.map_append]
        rfl
      rw [e3, e1]
  | kept fl s b hs hf hpd ha hh hr hcl hlen hun hfl b1 b2 b3 b4 b5 b6 hb hg =>
    have hcb : cv = bv := by
      have := hcv rfl
      unfold ContV at this
      rw [hpd] at this
      simpa using this
    rw [show frV (Fr.mk 0 fl s.st.number b).kind (Fr.mk 0 fl s.st.number b).flags (Fr.mk 0 fl s.st.number b).stream bv cv (Fr.mk 0 fl s.st.number b).body = .iface 136 (dataV fl s.st.number sv b.length cb) from by
      simp only at hsv
      unfold frV dataV
      simp [hcb, hsv]]
    refine come_data eb mb g w (fun w' => ∃ g', g'.bare = _ ∧ Next w0 w' eb mb g0 g') fl s.st.number sv b.length cb h (by rw [hbs]; exact hb) (by rw [hbg]; exact hg) ?_
    intro w1 g1 hah1
    obtain ⟨e1, n1, hby, hnf⟩ := hah hah1
    obtain ⟨x, hx, rfl⟩ := mem_bare e1 hs
    simp only at hsv hby
    rw [hsv] at hby hnf
    have hmm : g1.bare.m = p.begin.m := congrArg GEnd.m e1
    have m1 : g1.m.receive = p.m.receive := by have := congrArg (fun m : EndM => m.receive) hmm; exact this
    have m2 : g1.m.owed = p.m.owed := by have := congrArg (fun m : EndM => m.owed) hmm; exact this
    have m3 : g1.m.count = p.m.count := by have := congrArg (fun m : EndM => m.count) hmm; exact this
    have m4 : g1.m.own = p.m.own := by have := congrArg (fun m : EndM => m.own) hmm; exact this
    refine (comeData_kept eb mb g1 x fl sv b cb w1 n1.inv hx ha hh hr hf hcl hby hnf hlen hun (by rw [m1, m4]; exact hfl) (by rw [m1]; exact b1) (by rw [m2]; exact b2) (by rw [m3]; exact b3) (by rw [m4]; exact b4) b5 b6).mono ?_
    rintro e w' ⟨rfl, g', h1, h2⟩
    refine ⟨rfl, g', ?_, hn0.trans (n1.trans h2)⟩
    rw [h1]
    have e3 : ({ g1 with m := g1.m.got_ b.length, K := updN x.st.number (fun s => s.more b (hasB fl 1)) g1.K } : GEnd).bare = { g1.bare with m := g1.bare.m.got_ b.length, K := updN x.st.number (fun s => s.more b (hasB fl 1)) g1.bare.K } := by
      unfold GEnd.bare
      simp only [GEnd.mk.injEq, true_and, and_true]
      exact ⟨got_bare _ _, updN_bare _ (fun s => s.more b (hasB fl 1)) (fun s => rfl) _⟩
    rw [e3, e1]
    rfl
  | lost fl s b hs hf hpd ha hh hr hlen hfl b1 b2 b3 hb hg =>
    have hcb : cv = bv := by
      have := hcv rfl
      unfold ContV at this
      rw [hpd] at this
      simpa using this
    rw [show frV (Fr.mk 0 fl s.st.number b).kind (Fr.mk 0 fl s.st.number b).flags (Fr.mk 0 fl s.st.number b).stream bv cv (Fr.mk 0 fl s.st.number b).body = .iface 136 (dataV fl s.st.number sv b.length cb) from by
      simp only at hsv
      unfold frV dataV
      simp [hcb, hsv]]
    refine come_data eb mb g w (fun w' => ∃ g', g'.bare = _ ∧ Next w0 w' eb mb g0 g') fl s.st.number sv b.length cb h (by rw [hbs]; exact hb) (by rw [hbg]; exact hg) ?_
    intro w1 g1 hah1
    obtain ⟨e1, n1, hby, hnf⟩ := hah hah1
    obtain ⟨x, hx, rfl⟩ := mem_bare e1 hs
    have hmm : g1.bare.m = p.begin.m := congrArg GEnd.m e1
    have m1 : g1.m.receive = p.m.receive := by have := congrArg (fun m : EndM => m.receive) hmm; exact this
    have m2 : g1.m.owed = p.m.owed := by have := congrArg (fun m : EndM => m.owed) hmm; exact this
    have m3 : g1.m.count = p.m.count := by have := congrArg (fun m : EndM => m.count) hmm; exact this
    refine (comeData_lost eb mb g1 x fl sv b.length cb w1 n1.inv hx ha hh hr hlen (by rw [m1]; exact hfl) (by rw [m1]; exact b1) (by rw [m2]; exact b2) (by rw [m3]; exact b3)).mono ?_
    rintro e w' ⟨rfl, h2⟩
    refine ⟨rfl, _, ?_, hn0.trans (n1.trans h2)⟩
    have e3 : ({ g1 with m := (g1.m.got_ b.length).owes b.length } : GEnd).bare = { g1.bare with m := (g1.bare.m.got_ b.length).owes b.length } := by
      unfold GEnd.bare
      simp only [GEnd.mk.injEq, true_and, and_true]
      have := congrArg (fun m : EndM => m.owes b.length) (got_bare g1.m b.length)
      exact this
    rw [e3, e1]
    rfl
  | reset fl k b hk hf ha hcl hL hul b2 hb hg =>
    rw [show frV (Fr.mk 2 fl p.L[k] b).kind (Fr.mk 2 fl p.L[k] b).flags (Fr.mk 2 fl p.L[k] b).stream bv cv (Fr.mk 2 fl p.L[k] b).body = .iface 145 (.agg #[.int .i64 2, .int .i64 fl, .int .i64 p.L[k], .slice sv b.length cb]) from by
      simp only at hsv
      unfold frV
      simp [hsv]]
    refine come_reset eb mb g w (fun w' => ∃ g', g'.bare = _ ∧ Next w0 w' eb mb g0 g') fl p.L[k] sv b.length cb h (by rw [hbs]; exact hb) (by rw [hbg]; exact hg) ?_
    intro w1 g1 hah1
    obtain ⟨e1, n1, -, -⟩ := hah hah1
    have hL1 : g1.L = p.L := by have := congrArg GEnd.L e1; exact this
    have hk1 : k < g1.L.length := by rw [hL1]; exact hk
    have hLk : g1.L[k] = p.L[k] := by simp only [hL1]
    have hK1 : g1.K.map GSt.bare = p.K := by have := congrArg GEnd.K e1; exact this
    have hat : (atN g1.K p.L[k]).bare = atN p.K p.L[k] := by rw [← hK1, atN_bare]
    have m2 : g1.m.owed = p.m.owed := by have := congrArg (fun x : GEnd => x.m.owed) e1; exact this
    have q1 : (atN g1.K p.L[k]).st.announced = true := by
      have : (atN g1.K p.L[k]).bare.st.announced = true := by rw [hat]; exact ha
      exact this
    have q2 : (atN g1.K p.L[k]).st.closed = false := by
      have : (atN g1.K p.L[k]).bare.st.closed = false := by rw [hat]; exact hcl
      exact this
    have q3 : (atN g1.K p.L[k]).un = (atN p.K p.L[k]).un := by
      have : (atN g1.K p.L[k]).bare.un = (atN p.K p.L[k]).un := by rw [hat]
      exact this
    rw [← hLk] at q1 q2 q3
    have hcr := comeReset_ok eb mb g1 k fl sv b.length cb w1 n1.inv hk1 q1 q2 (by rw [hL1]; exact hL) (by rw [q3, hLk]; exact hul) (by rw [m2]; exact b2)
    rw [hLk] at hcr q3
    refine hcr.mono ?_
    rintro e w' ⟨rfl, g', h1, h2, -, -⟩
    refine ⟨rfl, g', ?_, hn0.trans (n1.trans h2)⟩
    rw [h1, q3, hL1]
    have e3 : ({ g1 with m := g1.m.owes (atN p.K p.L[k]).un.length, K := updN p.L[k] (fun s => s.drop 2) g1.K, L := p.L.eraseIdx k } : GEnd).bare = { g1.bare with m := g1.bare.m.owes (atN p.K p.L[k]).un.length, K := updN p.L[k] (fun s => s.drop 2) g1.bare.K, L := p.L.eraseIdx k } := by
      unfold GEnd.bare
      simp only [GEnd.mk.injEq, true_and, and_true]
      exact ⟨rfl, updN_bare _ (fun s => s.drop 2) (fun s => rfl) _⟩
    rw [e3, e1]
    rfl
  | ping fl b hf ha h8 hb hg =>
    rw [show frV (Fr.mk 4 fl 0 b).kind (Fr.mk 4 fl 0 b).flags (Fr.mk 4 fl 0 b).stream bv cv (Fr.mk 4 fl 0 b).body = .iface 151 (.agg #[.int .i64 4, .int .i64 fl, .int .i64 0, .slice sv b.length cb, .int .u32 (num4 b)]) from by
      simp only at hsv
      unfold frV
      simp [hsv]]
    refine (come2_ping eb mb g w (fun w' => ∃ g', g'.bare = _ ∧ Next w0 w' eb mb g0 g') (fun _ => False) 0 fl 0 sv b.length cb (num4 b) h (by rw [hbs]; exact hb) (by rw [hbg]; exact hg) ?_).mono (fun e w' hx => by
      rcases hx with hx | ⟨-, hx⟩
      · exact hx
      · exact hx.elim)
    intro w1 g1 hah1
    obtain ⟨e1, n1, hby, hnf⟩ := hah hah1
    have ha1 : g1.ans.length = p.ans.length := by
      have e2 : g1.bare.ans = p.begin.ans := by rw [e1]
      have e3 : (g1.ans.map Ans.bare).length = p.ans.length := by rw [show g1.ans.map Ans.bare = p.ans from e2]
      simpa using e3
    simp only at hsv hby hbv
    rw [hsv] at hby hnf hbv hb0 hbn
    have hown1 : w1.ownsRow 0 5 1 (.slice sv b.length cb) b.length (b.map B) := owns_chg hbv n1.chg hbn
    refine (comePing_any eb mb g1 fl (num4 b) sv cb b w1 n1.inv hf ha (by omega) hown1 hnf (hn0.trans n1) (fun j hj => Or.inr (hb0 j hj))).mono ?_
    rintro e w' ⟨rfl, g', h1, h2⟩
    refine Or.inl ⟨rfl, g', ?_, h2⟩
    rw [h1]
    have e3 : ({ g1 with m := { g1.m with answers := .tuple #[] }, ans := g1.ans ++ [⟨4, 1, b, .slice none 0 0⟩] } : GEnd).bare = { g1.bare with m := { g1.bare.m with answers := .tuple #[] }, ans := g1.bare.ans ++ [⟨4, 1, b, .slice none 0 0⟩] } := by
      unfold GEnd.bare
      simp only [GEnd.mk.injEq, true_and, and_true]
      refine ⟨rfl, ?_⟩
      rw [List.map_append]
      rfl
    rw [e3, e1]
    rfl
  | pad fl s b k hs hf hpd ha hh hr hcl h1 hk hlen hun hfl b1 b2 b3 b4 b5 b6 hb hg =>
    obtain ⟨sc, cc, hcv1, -, hco⟩ := cut_in hpd (bytesIn_of_owns hbv rfl) (hcv rfl) h1
    rw [show frV (Fr.mk 0 fl s.st.number b).kind (Fr.mk 0 fl s.st.number b).flags (Fr.mk 0 fl s.st.number b).stream bv cv (Fr.mk 0 fl s.st.number b).body = .iface 136 (dataP fl s.st.number sv b.length cb sc (cutB fl b).length cc) from by
      simp only at hsv
      unfold frV dataP
      simp [hcv1, hsv]]
    refine come_dataP eb mb g w (fun w' => ∃ g', g'.bare = _ ∧ Next w0 w' eb mb g0 g') fl s.st.number sv b.length cb sc (cutB fl b).length cc h (by rw [hbs]; exact hb) (by rw [hbg]; exact hg) ?_
    intro w1 g1 hah1
    obtain ⟨e1, n1, hby, hnf⟩ := hah hah1
    obtain ⟨x, hx, rfl⟩ := mem_bare e1 hs
    obtain ⟨-, -, -, hbc, -⟩ := cut_in hpd hby (hcv rfl) h1
    have hnc : ∀ j, (Value.slice sc (cutB fl b).length cc).ownBlock = some j → ¬ Foot eb mb g1 j := fun j hj => hnf j (hco j (by rw [hcv1]; exact hj))
    simp only at hbc
    rw [hcv1] at hbc
    have hmm : g1.bare.m = p.begin.m := congrArg GEnd.m e1
    have m1 : g1.m.receive = p.m.receive := by have := congrArg (fun m : EndM => m.receive) hmm; exact this
    have m2 : g1.m.owed = p.m.owed := by have := congrArg (fun m : EndM => m.owed) hmm; exact this
    have m3 : g1.m.count = p.m.count := by have := congrArg (fun m : EndM => m.count) hmm; exact this
    have m4 : g1.m.own = p.m.own := by have := congrArg (fun m : EndM => m.own) hmm; exact this
    refine (comeData_pad eb mb g1 x fl sv b.length cb sc (cutB fl b) cc k w1 n1.inv hx ha hh hr hf hcl hbc hnc hk hlen hun (by rw [m1, m4]; exact Or.inr hfl) (by rw [m1]; exact b1) (by rw [m2]; exact b2) (by rw [m3]; exact b3) (by rw [m4]; exact b4) b5 b6).mono ?_
    rintro e w' ⟨rfl, g', h1, h2⟩
    refine ⟨rfl, g', ?_, hn0.trans (n1.trans h2)⟩
    rw [h1]
    have e3 : ({ g1 with m := (g1.m.got_ b.length).owes k, K := updN x.st.number (fun s => s.morep b.length k (cutB fl b) (hasB fl 1)) g1.K } : GEnd).bare = { g1.bare with m := (g1.bare.m.got_ b.length).owes k, K := updN x.st.number (fun s => s.morep b.length k (cutB fl b) (hasB fl 1)) g1.bare.K } := by
      unfold GEnd.bare
      simp only [GEnd.mk.injEq, true_and, and_true]
      refine ⟨?_, updN_bare _ (fun s => s.morep b.length k (cutB fl b) (hasB fl 1)) (fun s => rfl) _⟩
      rw [← got_bare]
      rfl
    rw [e3, e1]
    rfl
  | ack fl b hf ha hw hb hg =>
    rw [show frV (Fr.mk 3 fl 0 b).kind (Fr.mk 3 fl 0 b).flags (Fr.mk 3 fl 0 b).stream bv cv (Fr.mk 3 fl 0 b).body = .iface 148 (.agg #[.int .i64 3, .int .i64 fl, .int .i64 0, .slice sv b.length cb, .int .i64 0]) from by
      simp only at hsv
      unfold frV
      simp [hsv, ha]]
    refine (come2_settings eb mb g w (fun w' => ∃ g', g'.bare = _ ∧ Next w0 w' eb mb g0 g') (fun _ => False) 0 fl 0 sv b.length cb 0 h (by rw [hbs]; exact hb) (by rw [hbg]; exact hg) ?_).mono (fun e w' hx => by
      rcases hx with hx | ⟨-, hx⟩
      · exact hx
      · exact hx.elim)
    intro w1 g1 hah1
    obtain ⟨e1, n1, -, -⟩ := hah hah1
    have hmm : g1.bare.m = p.begin.m := congrArg GEnd.m e1
    have hw1 : g1.m.waits = true := by have := congrArg (fun m : EndM => m.waits) hmm; exact (show g1.m.waits = p.m.waits from this).trans hw
    refine (comeSettings_ack eb mb g1 fl 0 0 sv b.length cb w1 n1.inv hw1 hf ha).mono ?_
    rintro e w' ⟨rfl, h2⟩
    refine Or.inl ⟨rfl, _, ?_, hn0.trans (n1.trans h2)⟩
    have e3 : ({ g1 with m := g1.m.acked } : GEnd).bare = { g1.bare with m := g1.bare.m.acked } := rfl
    rw [e3, e1]
    rfl
  | pong fl b n hn hf ha b0 b1 b2 b3 b4 b5 b6 b7 hb hg =>
    rw [show frV (Fr.mk 4 fl 0 b).kind (Fr.mk 4 fl 0 b).flags (Fr.mk 4 fl 0 b).stream bv cv (Fr.mk 4 fl 0 b).body = .iface 151 (.agg #[.int .i64 4, .int .i64 fl, .int .i64 0, .slice sv b.length cb, .int .u32 n]) from by
      simp only at hsv
      unfold frV
      simp [hsv, hn]]
    refine (come2_ping eb mb g w (fun w' => ∃ g', g'.bare = _ ∧ Next w0 w' eb mb g0 g') (fun _ => False) 0 fl 0 sv b.length cb n h (by rw [hbs]; exact hb) (by rw [hbg]; exact hg) ?_).mono (fun e w' hx => by
      rcases hx with hx | ⟨-, hx⟩
      · exact hx
      · exact hx.elim)
    intro w1 g1 hah1
    obtain ⟨e1, n1, -, -⟩ := hah hah1
    have hmm : g1.bare.m = p.begin.m := congrArg GEnd.m e1
    have m0 : g1.m.owed = p.m.owed := by have := congrArg (fun m : EndM => m.owed) hmm; exact this
    have m1 : g1.m.count = p.m.count := by have := congrArg (fun m : EndM => m.count) hmm; exact this
    have m2 : g1.m.clock = p.m.clock := by have := congrArg (fun m : EndM => m.clock) hmm; exact this
    have m3 : g1.m.start = p.m.start := by have := congrArg (fun m : EndM => m.start) hmm; exact this
    have m4 : g1.m.bestB = p.m.bestB := by have := congrArg (fun m : EndM => m.bestB) hmm; exact this
    have m5 : g1.m.bestT = p.m.bestT := by have := congrArg (fun m : EndM => m.bestT) hmm; exact this
    have m6 : g1.m.target = p.m.target := by have := congrArg (fun m : EndM => m.target) hmm; exact this
    have m7 : g1.m.most = p.m.most := by have := congrArg (fun m : EndM => m.most) hmm; exact this
    refine (comePing_ack eb mb g1 fl n sv b.length cb w1 n1.inv hf ha (by rw [m0]; exact b0) (by rw [m1]; exact b1) (by rw [m2]; exact b2) (by rw [m3]; exact b3) (by rw [m4]; exact b4) (by rw [m5]; exact b5) (by rw [m6]; exact b6) (by rw [m7]; exact b7)).mono ?_
    rintro e w' ⟨rfl, h2⟩
    refine Or.inl ⟨rfl, _, ?_, hn0.trans (n1.trans h2)⟩
    have e3 : ({ g1 with m := g1.m.ponged n } : GEnd).bare = { g1.bare with m := g1.bare.m.ponged n } := by
      unfold GEnd.bare
      simp only [GEnd.mk.injEq, true_and, and_true]
      exact ponged_bare _ _
    rw [e3, e1]
    rfl

/-- The bytes of the greeting. -/
def greetB : List UInt8 := [115, 108, 117, 105, 99, 101, 10]
/-- What bytes do that are no fault. -/
def FeedR (z1 : GEnd) (z2 : List UInt8) (z3 : GEnd) : Prop := ∀ Z : GEnd → List UInt8 → GEnd → Prop, (∀ (p : GEnd), Z p [] p) → (∀ (p q : GEnd) (k : Nat) (c : UInt8) (r : List UInt8) (hk : p.m.greeted = (k : Int)) (hk7 : k < 7) (hf : p.m.fault = 0) (hc : greetB[k]? = some c) (h : Z { p with m := { p.m with greeted := (k + 1 : Nat) } } r q), Z p (c :: r) q) → (∀ (p q : GEnd) (c : UInt8) (g' r : List UInt8) (hg : p.m.greeted = 7) (hf : p.m.fault = 0) (hs : step p.got c = .more g') (h : Z { p with got := g' } r q), Z p (c :: r) q) → (∀ (p p1 q : GEnd) (c : UInt8) (f : Fr) (r : List UInt8) (hg : p.m.greeted = 7) (hf : p.m.fault = 0) (hs : step p.got c = .frame f) (hc : Come { p with got := [] } f p1) (h : Z p1 r q), Z p (c :: r) q) → Z z1 z2 z3
theorem FeedR.nil {p : GEnd} : FeedR p [] p := fun Z zk1 zk2 zk3 zk4 => zk1 p
theorem FeedR.greet {p q : GEnd} {k : Nat} {c : UInt8} {r : List UInt8} (hk : p.m.greeted = (k : Int)) (hk7 : k < 7) (hf : p.m.fault = 0) (hc : greetB[k]? = some c) (h : FeedR { p with m := { p.m with greeted := (k + 1 : Nat) } } r q) : FeedR p (c :: r) q := fun Z zk1 zk2 zk3 zk4 => zk2 p q k c r hk hk7 hf hc (h Z zk1 zk2 zk3 zk4)
theorem FeedR.more {p q : GEnd} {c : UInt8} {g' r : List UInt8} (hg : p.m.greeted = 7) (hf : p.m.fault = 0) (hs : step p.got c = .more g') (h : FeedR { p with got := g' } r q) : FeedR p (c :: r) q := fun Z zk1 zk2 zk3 zk4 => zk3 p q c g' r hg hf hs (h Z zk1 zk2 zk3 zk4)
theorem FeedR.frame {p p1 q : GEnd} {c : UInt8} {f : Fr} {r : List UInt8} (hg : p.m.greeted = 7) (hf : p.m.fault = 0) (hs : step p.got c = .frame f) (hc : Come { p with got := [] } f p1) (h : FeedR p1 r q) : FeedR p (c :: r) q := fun Z zk1 zk2 zk3 zk4 => zk4 p p1 q c f r hg hf hs hc (h Z zk1 zk2 zk3 zk4)
theorem FeedR.ind {motive : ∀ (z1 : GEnd) (z2 : List UInt8) (z3 : GEnd), FeedR z1 z2 z3 → Prop} (nil : ∀ {p : GEnd}, motive p [] p (@FeedR.nil p)) (greet : ∀ {p q : GEnd} {k : Nat} {c : UInt8} {r : List UInt8} (hk : p.m.greeted = (k : Int)) (hk7 : k < 7) (hf : p.m.fault = 0) (hc : greetB[k]? = some c) (h : FeedR { p with m := { p.m with greeted := (k + 1 : Nat) } } r q) (ih : motive { p with m := { p.m with greeted := (k + 1 : Nat) } } r q h), motive p (c :: r) q (@FeedR.greet p q k c r hk hk7 hf hc h)) (more : ∀ {p q : GEnd} {c : UInt8} {g' r : List UInt8} (hg : p.m.greeted = 7) (hf : p.m.fault = 0) (hs : step p.got c = .more g') (h : FeedR { p with got := g' } r q) (ih : motive { p with got := g' } r q h), motive p (c :: r) q (@FeedR.more p q c g' r hg hf hs h)) (frame : ∀ {p p1 q : GEnd} {c : UInt8} {f : Fr} {r : List UInt8} (hg : p.m.greeted = 7) (hf : p.m.fault = 0) (hs : step p.got c = .frame f) (hc : Come { p with got := [] } f p1) (h : FeedR p1 r q) (ih : motive p1 r q h), motive p (c :: r) q (@FeedR.frame p p1 q c f r hg hf hs hc h)) {z1 : GEnd} {z2 : List UInt8} {z3 : GEnd} (zt : FeedR z1 z2 z3) : motive z1 z2 z3 zt := (zt (fun z1 z2 z3 => ∃ zt : FeedR z1 z2 z3, motive z1 z2 z3 zt) (fun p => ⟨_, @nil p⟩) (fun p q k c r hk hk7 hf hc zy => zy.elim fun h zx => ⟨_, @greet p q k c r hk hk7 hf hc h zx⟩) (fun p q c g' r hg hf hs zy => zy.elim fun h zx => ⟨_, @more p q c g' r hg hf hs h zx⟩) (fun p p1 q c f r hg hf hs hc zy => zy.elim fun h zx => ⟨_, @frame p p1 q c f r hg hf hs hc h zx⟩)).elim fun _ zx => zx
theorem Come.got {p q : GEnd} {f : Fr} (h : Come p f q) : q.got = p.got := by cases h using Come.ind <;> rfl

theorem frV_iface (k f s : Int) (bv cv : Value) (l : List UInt8) : ∃ t x, frV k f s bv cv l = .iface t x := by
  unfold frV
  repeat' split
  all_goals exact ⟨_, _, rfl⟩
/-- What one byte may do. -/
def ByteR (p : GEnd) (c : UInt8) (z1 : GEnd) : Prop := ∀ Z : GEnd → Prop, (∀ (k : Nat) (hk : p.m.greeted = (k : Int)) (hk7 : k < 7) (hc : greetB[k]? = some c), Z { p with m := { p.m with greeted := (k + 1 : Nat) } }) → (∀ (g' : List UInt8) (hg : p.m.greeted = 7) (hs : step p.got c = .more g'), Z { p with got := g' }) → (∀ (p1 : GEnd) (f : Fr) (hg : p.m.greeted = 7) (hs : step p.got c = .frame f) (hc : Come { p with got := [] } f p1), Z p1) → Z z1
theorem ByteR.greet {p : GEnd} {c : UInt8} {k : Nat} (hk : p.m.greeted = (k : Int)) (hk7 : k < 7) (hc : greetB[k]? = some c) : ByteR p c { p with m := { p.m with greeted := (k + 1 : Nat) } } := fun Z zk1 zk2 zk3 => zk1 k hk hk7 hc
theorem ByteR.more {p : GEnd} {c : UInt8} {g' : List UInt8} (hg : p.m.greeted = 7) (hs : step p.got c = .more g') : ByteR p c { p with got := g' } := fun Z zk1 zk2 zk3 => zk2 g' hg hs
theorem ByteR.frame {p : GEnd} {c : UInt8} {p1 : GEnd} {f : Fr} (hg : p.m.greeted = 7) (hs : step p.got c = .frame f) (hc : Come { p with got := [] } f p1) : ByteR p c p1 := fun Z zk1 zk2 zk3 => zk3 p1 f hg hs hc
theorem ByteR.ind {p : GEnd} {c : UInt8} {motive : ∀ (z1 : GEnd), ByteR p c z1 → Prop} (greet : ∀ {k : Nat} (hk : p.m.greeted = (k : Int)) (hk7 : k < 7) (hc : greetB[k]? = some c), motive { p with m := { p.m with greeted := (k + 1 : Nat) } } (@ByteR.greet p c k hk hk7 hc)) (more : ∀ {g' : List UInt8} (hg : p.m.greeted = 7) (hs : step p.got c = .more g'), motive { p with got := g' } (@ByteR.more p c g' hg hs)) (frame : ∀ {p1 : GEnd} {f : Fr} (hg : p.m.greeted = 7) (hs : step p.got c = .frame f) (hc : Come { p with got := [] } f p1), motive p1 (@ByteR.frame p c p1 f hg hs hc)) {z1 : GEnd} (zt : ByteR p c z1) : motive z1 zt := (zt (fun z1 => ∃ zt : ByteR p c z1, motive z1 zt) (fun k hk hk7 hc => ⟨_, @greet k hk hk7 hc⟩) (fun g' hg hs => ⟨_, @more g' hg hs⟩) (fun p1 f hg hs hc => ⟨_, @frame p1 f hg hs hc⟩)).elim fun _ zx => zx

set_option maxRecDepth 100000 in
set_option maxHeartbeats 1200000 in
theorem i_byte (eb mb : Nat) (g p q : GEnd) (c : UInt8) (w : World) (h : Inv w eb mb g) (hr : RdOk g) (hp : g.bare = p) (hb : ByteR p c q) (hgl : Gl w) (hge : ∀ j, j < 7 → ¬ Foot eb mb g j) :
    Calls Tryz.prog 40 #[.pointer (some ⟨eb, 0, none⟩), .int .u8 c.toNat] w fun e w' => e = .returned (.tuple #[]) ∧ ∃ g', g'.bare = q ∧ RdOk g' ∧ Next w w' eb mb g g' := by
  have c24 := h.en.c24
  have f24 := h.en.fr 24
  have hlt := h.en.lt
  have hgr : g.m.greeted = p.m.greeted := by rw [← hp]; rfl
  have hgot : g.got = p.got := by rw [← hp]; rfl
  cases hb using ByteR.ind with
  | @greet k hk hk7 hc =>
    have hset : Chg (fun j => j = eb) w (w.setCell ⟨eb, 24, none⟩ (.int .i64 ((k : Int) + 1))) := chg_set (Chg.refl _ _) rfl
    have hn := h.onEnd (S := fun j => j = eb) (m' := { g.m with greeted := (k : Int) + 1 }) (o' := g.out) (A' := g.ans) (R' := g.res) hset (fun j e => Or.inl e) (EnB.of (blk_set h.en.blk) rfl) rfl rfl rfl (owns_chg h.out hset (fun j hj e => by rw [e] at hj; exact owns_ne h.out h.en.blk (by decide) hj)) (fun j hj => Or.inl hj) h.ans (fun _ h => h) (fun _ h => h) h.res (fun _ h => h)
    have HEND : Hid (∃ g', g'.bare = ({ p with m := { p.m with greeted := ((k + 1 : Nat) : Int) } } : GEnd) ∧ RdOk g' ∧ Next w (w.setCell ⟨eb, 24, none⟩ (.int .i64 ((k : Int) + 1))) eb mb g g') := by
      refine ⟨{ g with m := { g.m with greeted := (k : Int) + 1 } }, ?_, ⟨hr.got, hr.head⟩, hn⟩
      rw [← hp]
      rfl
    rw [hgr, hk] at c24
    clear h hr hp hgl hge hset hn hgr hgot
    obtain rfl | rfl | rfl | rfl | rfl | rfl | rfl : k = 0 ∨ k = 1 ∨ k = 2 ∨ k = 3 ∨ k = 4 ∨ k = 5 ∨ k = 6 := by omega
    all_goals
      simp only [greetB, List.getElem?_cons_zero, List.getElem?_cons_succ, Option.some.injEq] at hc
      subst hc
      clear hk hk7
      go_enter Tryz.func40, Tryz.ntmps40
      go_wp2
      refine bodyPost_ret (v := .tuple #[]) ?_ rfl ⟨rfl, HEND.out⟩
      simp [results, Tryz.results40, go_sem]
  | @more g' hg hs =>
    rw [hgr, hg] at c24
    have hT := take_any eb 25 91 g.m.cells g.m.got g.got c w (h.rdsg hr)
    rw [← hgot] at hs
    have HT : Hid (Calls Tryz.prog 54 #[.pointer (some ⟨eb, 25, none⟩), .int .u8 c.toNat] w fun e w' => e = .returned (.tuple #[.nilIface, .bool false]) ∧ ∃ g1, g1.bare = ({ p with got := g' } : GEnd) ∧ RdOk g1 ∧ Next w w' eb mb g g1) := by
      refine hT.mono ?_
      rintro e w' (⟨g1, cs', gv', h1, h2, h3⟩ | ⟨code, h1, -⟩ | ⟨f, bv, cv, cs', gv', h1, -⟩)
      · rw [hs] at h1
        simp only [Sum.inl.injEq] at h1
        subst h1
        obtain ⟨g2, e1, e2, e3, -⟩ := h.onGot h3
        refine ⟨h2, g2, ?_, e2, e3⟩
        rw [e1, ← hp]
        rfl
      · rw [hs] at h1; cases h1
      · rw [hs] at h1; cases h1
    clear h hr hp hgl hge hT hs hgr hgot
    go_enter Tryz.func40, Tryz.ntmps40
    go_wp2_with fail
    refine HT.out.mono ?_
    rintro e w' ⟨rfl, hx⟩
    have HX := hide hx
    clear hx
    go_wp2
    exact bodyPost_end (results_none rfl _ _ _) rfl ⟨rfl, HX.out⟩
  | @frame p1 f hg hs hc =>
    rw [hgr, hg] at c24
    have hT := take_any eb 25 91 g.m.cells g.m.got g.got c w (h.rdsg hr)
    rw [← hgot] at hs
    have HT : Hid (Calls Tryz.prog 54 #[.pointer (some ⟨eb, 25, none⟩), .int .u8 c.toNat] w fun e w' => ∃ bv cv, e = .returned (.tuple #[frV f.kind f.flags f.stream bv cv f.body, .bool true]) ∧ Calls Tryz.prog 55 #[.pointer (some ⟨eb, 0, none⟩), frV f.kind f.flags f.stream bv cv f.body] w' fun e w'' => e = .returned (.tuple #[]) ∧ ∃ g', g'.bare = q ∧ RdOk g' ∧ Next w w'' eb mb g g') := by
      refine hT.mono ?_
      rintro e w' (⟨g1, cs', gv', h1, -⟩ | ⟨code, h1, -⟩ | ⟨f', bv, cv, cs', gv', h1, h2, h3, h4, h5, h6, h7⟩)
      · rw [hs] at h1; cases h1
      · rw [hs] at h1; cases h1
      · rw [hs] at h1
        simp only [Sum.inl.injEq, Sum.inr.injEq] at h1
        subst h1
        refine ⟨bv, cv, h2, ?_⟩
        obtain ⟨g2, e1, e2, e3, e4⟩ := h.onGot h6
        have hge2 : ∀ j, j < 7 → ¬ Foot eb mb g2 j := fun j hj hf => by
          rcases e3.grow j hf with a | a
          · exact hge j hj a
          · have := hgl.lt; omega
        have hbn : ∀ j, bv.ownBlock = some j → ¬ Foot eb mb g2 j := fun j hj hf => by
          rcases e4 j hf with a | a
          · have := Foot.lt h a; have := h5 j hj; omega
          · exact h7 j hj a
        refine (i_come eb mb g2 { p with got := [] } q f bv cv w' e3.inv (by rw [e1, ← hp]; rfl) hc (hgl.chg e3.chg hge) hge2 h4 hbn h3 e3 h5).mono ?_
        rintro e w'' ⟨rfl, g', q1, q2⟩
        refine ⟨rfl, g', q1, RdOk.nil ?_, q2⟩
        have : g'.bare.got = q.got := by rw [q1]
        exact this.trans hc.got
    clear h hr hp hgl hge hT hs hgr hgot
    go_enter Tryz.func40, Tryz.ntmps40
    go_wp2_with fail
    refine HT.out.mono ?_
    rintro e w' ⟨bv, cv, rfl, hx⟩
    have HX := hide hx
    clear hx
    obtain ⟨ty, x, hfv⟩ := frV_iface f.kind f.flags f.stream bv cv f.body
    rw [hfv] at HX ⊢
    go_wp2_with fail
    refine HX.out.mono ?_
    rintro e w'' ⟨rfl, hx⟩
    have HY := hide hx
    clear hx
    go_wp2
    exact bodyPost_end (results_none rfl _ _ _) rfl ⟨rfl, HY.out⟩
end Go.Proofs.YtlhlmgfblbpdpaaGreatDoor
/-
  Package ends: Feed of bytes that are no fault; package sluice's.
-/
namespace Go.Proofs.YtlhlmgfblbpdpaaGreatDoor
set_option linter.unusedVariables false
set_option linter.unusedSimpArgs false
open Go.RowKit

theorem FeedR.byte {p q : GEnd} {c : UInt8} {r : List UInt8} (h : FeedR p (c :: r) q) : p.m.fault = 0 ∧ ∃ p1, ByteR p c p1 ∧ FeedR p1 r q := by
  cases h using FeedR.ind with
  | greet hk hk7 hf hc h => exact ⟨hf, _, .greet hk hk7 hc, h⟩
  | more hg hf hs h => exact ⟨hf, _, .more hg hs, h⟩
  | frame hg hf hs hc h => exact ⟨hf, _, .frame hg hs hc, h⟩
theorem FeedR.app {p p1 q : GEnd} {l r : List UInt8} (h : FeedR p l p1) (h2 : FeedR p1 r q) : FeedR p (l ++ r) q := by
  induction h using FeedR.ind with
  | nil => exact h2
  | greet hk hk7 hf hc _ ih => exact .greet hk hk7 hf hc (ih h2)
  | more hg hf hs _ ih => exact .more hg hf hs (ih h2)
  | frame hg hf hs hc _ ih => exact .frame hg hf hs hc (ih h2)

set_option maxRecDepth 100000 in
set_option maxHeartbeats 1200000 in
theorem i_feed (eb mb : Nat) (g q : GEnd) (bv : Value) (l : List UInt8) (w : World) (h : Inv w eb mb g) (hr : RdOk g) (hf : FeedR g.bare l q) (hgl : Gl w) (hge : ∀ j, j < 7 → ¬ Foot eb mb g j) (hb : BytesIn w bv l) (hbn : ∀ j, bv.ownBlock = some j → ¬ Foot eb mb g j) (hl : l.length ≤ 4611686018427387904) :
    Calls Tryz.prog 24 #[.pointer (some ⟨eb, 0, none⟩), bv] w fun e w' => e = .returned (.tuple #[]) ∧ ∃ g', g'.bare = q ∧ RdOk g' ∧ Next w w' eb mb g g' := by
  obtain ⟨sv, cv, hv, -⟩ := bytesIn_len hb
  subst hv
  have H := hide h
  have HR := hide hr
  have HF := hide hf
  have HGL := hide hgl
  have HGE := hide hge
  have HB := hide hb
  have HBN := hide hbn
  clear h hr hf hgl hge hb hbn
  go_enter Tryz.func24, Tryz.ntmps24
  go_wp2
  go_loopw [8] (fun i wr => ∃ (k : Nat) (wv : World) (c : GEnd), wv = wr ∧ i = .int .i64 (k : Int) ∧ k ≤ l.length ∧ Next w wv eb mb g c ∧ RdOk c ∧ FeedR c.bare (l.drop k) q) (fun i _ => l.length - (intOf i).toNat)
  case atStart => exact ⟨0, _, g, rfl, rfl, Nat.zero_le _, Next.refl H.out, HR.out, HF.out⟩
  case round =>
    obtain ⟨k, wv, c, hwv, rfl, hk, hnx, hrd, hfe⟩ := hrel
    subst hwv
    by_cases hlk : k < l.length
    · rw [drop_cons hlk] at hfe
      obtain ⟨hfa, p1, hby, hfr⟩ := hfe.byte
      obtain ⟨hbyt, hnf⟩ := hnx.bytes HB.out HBN.out
      have hgl1 := HGL.out.chg hnx.chg HGE.out
      have hge1 : ∀ j, j < 7 → ¬ Foot eb mb c j := fun j hj hf => by
        rcases hnx.grow j hf with a | a
        · exact HGE.out j hj a
        · have := HGL.out.lt; omega
      have hi := i_byte eb mb c c.bare p1 (l.getD k 0) wv hnx.inv hrd rfl hby hgl1 hge1
      have hd := isDead_any eb c.m wv hnx.inv.en
      have hfa' : c.m.fault = 0 := hfa
      rw [show (!(c.m.fault == 0)) = false from by rw [hfa']; rfl] at hd
      rcases hbyt with ⟨-, h0⟩ | ⟨bb, off, cap, h1, h2, h3, h4⟩
      · rw [h0] at hlk; simp at hlk
      · simp only [Value.slice.injEq] at h1
        obtain ⟨rfl, _, rfl⟩ := h1
        have hcell := h4 k hlk
        have HI := hide hi
        have HD := hide hd
        have HNX := hide hnx
        have HFR := hide hfr
        generalize l.getD k 0 = cc at *
        clear hi hd hnx hfr hby hfe hrd hgl1 hge1 h4 hfa hfa' hnf
        go_wp2_with fail
        refine HD.out.mono ?_
        rintro e w' ⟨rfl, hw'⟩
        rw [hw']
        clear hw' w'
        go_wp2_with fail
        refine HI.out.mono ?_
        rintro e w1 ⟨rfl, c1, hc1, hr1, hn1⟩
        have HC1 := hide hc1
        have HR1 := hide hr1
        have HN1 := hide hn1
        clear hc1 hr1 hn1
        go_wp2
        all_goals go_roundw
        case rel => exact ⟨k + 1, _, c1, rfl, by go_num, by omega, HNX.out.trans HN1.out, HR1.out, by rw [HC1.out]; exact HFR.out⟩
        case measure => simp [intOf]; omega
    · have hke : k = l.length := by omega
      rw [List.drop_of_length_le (by omega)] at hfe
      have hq : c.bare = q := by cases hfe using FeedR.ind; rfl
      have HQ := hide hq
      have HNX := hide hnx
      have HRD := hide hrd
      clear hq hnx hrd hfe hke
      go_wp2
      exact bodyPost_end (results_none rfl _ _ _) rfl ⟨rfl, c, HQ.out, HRD.out, HNX.out⟩
end Go.Proofs.YtlhlmgfblbpdpaaGreatDoor
/-
  Package sluice: Feed of an end, of bytes that are no fault.
-/
namespace Go.Proofs.YtlhlmgfblbpdpaaGreatDoor
set_option linter.unusedVariables false
set_option linter.unusedSimpArgs false
open Go.RowKit

set_option maxRecDepth 100000 in
set_option maxHeartbeats 400000 in
theorem xclos_idle (fa ra : Nat) (w : World) :
    CallsD Tryz.prog 21 #[.pointer (some ⟨fa, 0, none⟩), .pointer (some ⟨ra, 0, none⟩)] .returning w fun e u' w' => e = .returned (.tuple #[]) ∧ u' = .returning ∧ w' = w := by
  refine callsD_of_wpS Tryz.func21 rfl fun c₀ cs hu => ?_
  apply wpS_seq
  apply wpS_region
  simp [wpOpsS, go_sem, recoverD, hu, Tryz.ntmps21, Exit.thenS]
  refine wpS_of_wp ?_
  change Code.wp Tryz.prog _ _ ⟨#[.pointer (some ⟨fa, 0, none⟩), .pointer (some ⟨ra, 0, none⟩), .nilIface, .nilIface, undef, undef, undef, undef, undef, undef, undef, undef, undef], []⟩ w
  go_wp2
  cases c₀
  simp_all [bodyPostS, results, Tryz.results21]

theorem Next.out {w w1 w2 : World} {eb mb : Nat} {g g' : GEnd} {S : Nat → Prop} (h : Next w w1 eb mb g g') (hc : Chg S w1 w2) (hs : ∀ j, S j → w.heap.size ≤ j ∧ ¬ Foot eb mb g' j) : Next w w2 eb mb g g' where
  inv := h.inv.chg hc (fun j hj e => (hs j e).2 hj)
  chg := h.chg.trans (hc.mono fun j _ e => Or.inl (hs j e).1)
  grow := h.grow

set_option maxRecDepth 100000 in
set_option maxHeartbeats 1200000 in
theorem x_feed (eb mb : Nat) (g q : GEnd) (bv : Value) (l : List UInt8) (w : World) (h : Inv w eb mb g) (hr : RdOk g) (hf : FeedR g.bare l q) (hq : q.m.fault = 0) (hgl : Gl w) (hge : ∀ j, j < 7 → ¬ Foot eb mb g j) (hb : BytesIn w bv l) (hbn : ∀ j, bv.ownBlock = some j → ¬ Foot eb mb g j) (hl : l.length ≤ 4611686018427387904) :
    Calls Tryz.prog 10 #[.pointer (some ⟨eb, 0, none⟩), bv] w fun e w' => e = .returned (.int .i64 0) ∧ ∃ g', g'.bare = q ∧ RdOk g' ∧ Next w w' eb mb g g' := by
  have hmf : ∀ (fn : Fn) (first cap : Array Value) (w : World), (Instr.makeFunc fn first cap).run Tryz.prog w = .ok (.func fn first cap) w := fun _ _ _ _ => rfl
  obtain ⟨wA, hwA⟩ : ∃ wA, wA = (w.alloc (.cells #[.pointer (some ⟨eb, 0, none⟩)] 32)).alloc (.cells #[.int .i64 0] 41) := ⟨_, rfl⟩
  have hbA : Below w.heap.size w wA := by rw [hwA]; exact ((Below.refl _ _).alloc (Nat.le_refl _) _).alloc (by simp) _
  have hbx : wA.heap[w.heap.size]? = some (.cells #[.pointer (some ⟨eb, 0, none⟩)] 32 (0, 0)) := by
    rw [hwA, heap_alloc_old _ _ (by simp)]
    exact heap_alloc_new w _
  have hfc : wA.heap[w.heap.size + 1]? = some (.cells #[.int .i64 0] 41 (0, 0)) := by
    have := heap_alloc_new (w.alloc (.cells #[.pointer (some ⟨eb, 0, none⟩)] 32)) (.cells #[.int .i64 0] 41)
    rw [hwA]
    simpa using this
  have hA := h.below hbA
  have HFE := hide (i_feed eb mb g q bv l wA hA hr hf (hgl.below hbA) hge (hb.chg (Chg.of_below (S := fun _ => False) hbA) (fun _ _ => id)) hbn hl)
  have hnf : ∀ j, w.heap.size ≤ j → ¬ Foot eb mb g j := fun j hj hf => by have := Foot.lt h hf; omega
  have hlA : w.heap.size + 1 < wA.heap.size := lt_of_block hfc
  -- behind the inner Feed
  have HMID : Hid (∀ w1 g', g'.bare = q → Next wA w1 eb mb g g' → w1.cell? ⟨w.heap.size, 0, none⟩ = some (.pointer (some ⟨eb, 0, none⟩)) ∧ w1.cell? ⟨w.heap.size + 1, 0, none⟩ = some (.int .i64 0) ∧ w1.frozen? ⟨w.heap.size + 1, 0, none⟩ = false ∧ (Calls Tryz.prog 25 #[.pointer (some ⟨eb, 0, none⟩)] w1 fun e w' => e = .returned (.int .i64 0) ∧ w' = w1) ∧ (∀ v, (w1.setCell ⟨w.heap.size + 1, 0, none⟩ v).cell? ⟨w.heap.size + 1, 0, none⟩ = some v) ∧ ∀ v, Next w (w1.setCell ⟨w.heap.size + 1, 0, none⟩ v) eb mb g g') := fun w1 g' hg hn => by
    have e1 : w1.heap[w.heap.size]? = some (.cells #[.pointer (some ⟨eb, 0, none⟩)] 32 (0, 0)) := by rw [hn.chg.block _ (lt_of_block hbx) (hnf _ (Nat.le_refl _))]; exact hbx
    have e2 : w1.heap[w.heap.size + 1]? = some (.cells #[.int .i64 0] 41 (0, 0)) := by rw [hn.chg.block _ hlA (hnf _ (Nat.le_succ _))]; exact hfc
    refine ⟨cell_of_one e1, cell_of_one e2, free_of_one e2, ?_, fun v => cell_of_one (show (w1.setCell ⟨w.heap.size + 1, 0, none⟩ v).heap[w.heap.size + 1]? = some (.cells #[v] 41 (0, 0)) from blk_set e2), fun v => ?_⟩
    · have := eFault_any eb g'.m w1 hn.inv.en
      rw [show g'.m.fault = 0 from by have e3 : g'.bare.m.fault = 0 := (by rw [hg]; exact hq); exact e3] at this
      exact this
    · refine (hn.pre hbA).out (S := fun j => j = w.heap.size + 1) (chg_set (Chg.refl _ _) rfl) (fun j e => ⟨by omega, fun hf => ?_⟩)
      rcases hn.grow j hf with a | a
      · exact hnf j (by omega) a
      · omega
  have HWA := hide hwA
  have hlt := h.en.lt
  obtain ⟨sv, cv, hv, -⟩ := bytesIn_len hb
  subst hv
  clear h hr hf hq hgl hge hb hbn hbA hbx hfc hA hnf
  go_enter_defers Tryz.func10, Tryz.ntmps10
  go_wp2_with fail
  rw [← HWA.out]
  clear hwA
  refine HFE.out.mono ?_
  rintro e w1 ⟨rfl, g', hg', hr', hn'⟩
  obtain ⟨k0, k1, f1, hef, hsame, hend⟩ := HMID.out w1 g' hg' hn'
  have HSAME := hide hsame
  have HEF := hide hef
  have HEND := hide hend
  have HG := hide hg'
  have HR' := hide hr'
  clear hef hend hg' hr' hn' HMID hsame
  go_wp2_with fail
  refine HEF.out.mono ?_
  rintro e w' ⟨rfl, hw'⟩
  rw [hw']
  clear hw' w'
  go_wp2
  refine leaves_cons (f := 21) (args := #[.pointer (some ⟨w.heap.size + 1, 0, none⟩), .pointer (some ⟨w.heap.size, 0, none⟩)]) (by simp) (by simp [go_sem]) ?_
  refine (xclos_idle (w.heap.size + 1) w.heap.size _).mono ?_
  rintro e u' w'' ⟨rfl, rfl, rfl⟩
  refine ⟨.int .i64 0, ?_, ?_⟩
  · have hs := HSAME.out (.int .i64 0)
    simp [results, Tryz.results10, go_sem, hs]
  · exact ⟨rfl, g', HG.out, HR'.out, HEND.out _⟩
end Go.Proofs.YtlhlmgfblbpdpaaGreatDoor
/-
  Package ends: makeNext, where nothing is to be announced or sent.
-/
namespace Go.Proofs.YtlhlmgfblbpdpaaGreatDoor
set_option linter.unusedVariables false
set_option linter.unusedSimpArgs false
open Go.RowKit

section
variable {w w' : World} {eb mb : Nat} {g : GEnd} {e : Ending}
theorem MadeO.pre {o : Option GEnd} {w0 : World} (h : MadeO w w' eb mb g o e) (hb : Below w0.heap.size w0 w) : MadeO w0 w' eb mb g o e := by
  cases o with
  | none => exact ⟨h.1, hb.trans (h.2.mono hb.size)⟩
  | some q => obtain ⟨h1, g', h2, h3⟩ := h; exact ⟨h1, g', h2, h3.pre hb⟩
theorem MadeB.made {m' : EndM} {new : List UInt8} {c : Bool} (h : Inv w eb mb g) (hm : MadeB w w' eb g.m m' g.out new c e) (h1 : m'.known = g.m.known) (h2 : m'.opn = g.m.opn) (h3 : m'.got = g.m.got) (h4 : m'.out = g.m.out) (h5 : m'.answers = g.m.answers) (h6 : m'.resets = g.m.resets) {o : Option GEnd} (ho : o = if c then some { g with m := m', out := g.out ++ new } else none) : MadeO w w' eb mb g o e := by
  obtain ⟨he, hr⟩ := hm
  cases c with
  | false => simp only [Bool.false_eq_true, if_false] at hr ho; rw [ho]; exact ⟨he, hr⟩
  | true =>
    simp only [if_true] at hr ho
    obtain ⟨v, hp⟩ := hr
    rw [ho]
    refine ⟨he, _, ?_, h.put h1 h2 h3 h4 h5 h6 hp⟩
    rfl
theorem four4_toNat {n : Nat} {i : Int} (h : i = n) : four4 i.toNat = four4 n := by rw [h, Int.toNat_natCast]
theorem i_makeFirst (h : Inv w eb mb g) (hf : Fine g) (hl : g.out.length ≤ 1073741824) : Calls Tryz.prog 60 #[.pointer (some ⟨eb, 0, none⟩)] w fun e w' => MadeO w w' eb mb g g.oFirst e := by
  have hw := hf.wanted
  obtain ⟨n, hn⟩ : ∃ n : Nat, g.m.wanted = n := ⟨g.m.wanted.toNat, by omega⟩
  refine (makeFirst_any eb g.m g.out w n h.en hf.greets hn (by omega) h.out hl).mono ?_
  intro e w' hm
  refine hm.made h rfl rfl rfl rfl rfl rfl ?_
  unfold GEnd.oFirst
  rw [four4_toNat hn]
  cases g.m.told <;> rfl
theorem i_makeSettings (h : Inv w eb mb g) (hf : Fine g) (hl : g.out.length ≤ 1073741824) : Calls Tryz.prog 62 #[.pointer (some ⟨eb, 0, none⟩)] w fun e w' => MadeO w w' eb mb g g.oSettings e := by
  have hw := hf.wanted
  obtain ⟨n, hn⟩ : ∃ n : Nat, g.m.wanted = n := ⟨g.m.wanted.toNat, by omega⟩
  refine (makeSettings_any eb g.m g.out w n h.en hf.greets hn (by omega) h.out hl).mono ?_
  intro e w' hm
  refine hm.made h rfl rfl rfl rfl rfl rfl ?_
  unfold GEnd.oSettings
  rw [four4_toNat hn]
  cases (g.m.waits || g.m.wanted == g.m.made) <;> rfl
theorem i_makePing (h : Inv w eb mb g) (hf : Fine g) (hl : g.out.length ≤ 1073741824) : Calls Tryz.prog 63 #[.pointer (some ⟨eb, 0, none⟩)] w fun e w' => MadeO w w' eb mb g g.oPing e := by
  refine (makePing_any eb g.m g.out w h.en hf.greets hf.pnum h.out hl).mono ?_
  intro e w' hm
  refine hm.made h rfl rfl rfl rfl rfl rfl ?_
  unfold GEnd.oPing
  cases (g.m.under && !g.m.pinged) <;> rfl
theorem i_makeCredit (h : Inv w eb mb g) (hf : Fine g) (hl : g.out.length ≤ 1073741824) : Calls Tryz.prog 64 #[.pointer (some ⟨eb, 0, none⟩)] w fun e w' => MadeO w w' eb mb g g.oCredit e := by
  have hw := hf.owed
  have hr := hf.receive
  obtain ⟨n, hn⟩ : ∃ n : Nat, g.m.owed = n := ⟨g.m.owed.toNat, by omega⟩
  refine (makeCredit_any eb g.m g.out w n h.en hf.greets hn (by omega) (by omega) (by omega) h.out hl).mono ?_
  intro e w' hm
  refine hm.made h rfl rfl rfl rfl rfl rfl ?_
  unfold GEnd.oCredit
  rw [four4_toNat hn]
theorem updN_const {n : Int} {f : GSt → GSt} {K : List GSt} (hn : (K.map fun s => s.st.number).Nodup) {s : GSt} (hs : s ∈ K) (he : s.st.number = n) : updN n (fun _ => f s) K = updN n f K := by
  unfold updN
  apply List.map_congr_left
  intro x hx
  by_cases e : x.st.number = n
  · rw [if_pos e, if_pos e, inj_nd (fun s : GSt => s.st.number) hn hs hx (by simp only [he, e])]
  · rw [if_neg e, if_neg e]
theorem i_makeStreamCredit (h : Inv w eb mb g) (hf : Fine g) (hl : g.out.length ≤ 1073741824) : Calls Tryz.prog 65 #[.pointer (some ⟨eb, 0, none⟩)] w fun e w' => MadeO w w' eb mb g g.oStream e := by
  have ho := hf.own
  refine (makeStreamCredit_any eb g.m (openS g.K g.L) g.out w h.en hf.greets h.open (by rw [openS_length]; exact hf.few) h.out hl (by omega) (by omega) (fun p hp => ?_)).mono ?_
  · obtain ⟨n, hn, rfl⟩ := List.mem_map.1 hp
    obtain ⟨q1, q2, q3, q4, q5, q6⟩ := hf.st _ (h.at hn).1
    exact ⟨by show _ ≤ (atN g.K n).st.receive; omega, by show (atN g.K n).st.receive ≤ _; omega, q2.1, q2.2, q3.1, q3.2⟩
  · intro e w' hm
    rw [firstDue_openS] at hm
    unfold GEnd.oStream
    cases hd : firstDueN g.m g.K g.L with
    | none => rw [hd] at hm; exact hm
    | some n =>
      rw [hd] at hm
      obtain ⟨he, v, hen, hst, hrow, hc, hfr⟩ := hm
      have hn := firstDueN_mem hd
      obtain ⟨hmem, hnum⟩ := h.at hn
      have hne : ∀ j, ¬ (j = eb ∨ j = (atN g.K n).sb ∨ g.m.out.ownBlock = some j) ∨ (j = eb ∨ j = (atN g.K n).sb ∨ g.m.out.ownBlock = some j) := fun j => (Classical.em _).symm
      have keep : ∀ {k : Nat} {v' : Value} {xs : List Value} {ty : TypeId}, w.ownsRow 0 ty 1 v' k xs → (∀ j, v'.ownBlock = some j → j ≠ eb ∧ j ≠ (atN g.K n).sb ∧ g.m.out.ownBlock ≠ some j) → w'.ownsRow 0 ty 1 v' k xs := fun hr hj => owns_chg hr hc (fun j hjj e => by
        obtain ⟨a, b, c⟩ := hj j hjj
        rcases e with e | e | e
        · exact a e
        · exact b e
        · exact c e)
      refine ⟨he, _, ?_, h.onSt (S := fun j => j = eb ∨ j = (atN g.K n).sb ∨ g.m.out.ownBlock = some j) (m' := { g.m with out := v }) (s := atN g.K n) (s' := (atN g.K n).granted) (L' := g.L) (o' := g.out ++ lay 6 0 n (four4 (atN g.K n).st.owed.toNat)) 0 hmem hc ?_ hen hst rfl rfl rfl rfl rfl rfl ?_ (fun j hj => Or.inl hj) (List.Sublist.refl _) ?_ ?_ ?_ (fun j hj => Or.inl hj) ?_ (fun j hj => Or.inl hj)⟩
      · rw [hnum, updN_const h.nn hmem hnum]
        rfl
      · rintro j (e | e | e)
        · exact Or.inl e
        · exact Or.inr (Or.inl e)
        · exact Or.inr (Or.inr (Or.inr (Or.inl e)))
      · exact keep h.row (fun j hj => ⟨fun e => by rw [e] at hj; exact owns_ne h.row h.en.blk (by decide) hj, fun e => by rw [e] at hj; exact owns_ne h.row (h.st hmem).blk (by decide) hj, fun e => rows_ne h.out h.row (by decide) e hj⟩)
      · have e : (atN g.K n).str.2.number = n := hnum
        rw [e] at hrow
        exact hrow
      · intro j hj
        exact (hfr j hj).imp_right fun a => ⟨a, rfl⟩
      · exact keep (h.un (atN g.K n) hmem) (fun j hj => ⟨fun e => by rw [e] at hj; exact owns_ne (h.un _ hmem) h.en.blk (by decide) hj, fun e => by rw [e] at hj; exact owns_ne (h.un _ hmem) (h.st hmem).blk (by decide) hj, fun e => h.out_un hmem hj e⟩)
      · exact keep (h.wa (atN g.K n) hmem) (fun j hj => ⟨fun e => by rw [e] at hj; exact owns_ne (h.wa _ hmem) h.en.blk (by decide) hj, fun e => by rw [e] at hj; exact owns_ne (h.wa _ hmem) (h.st hmem).blk (by decide) hj, fun e => h.out_wa hmem hj e⟩)

def lenV' (v : Value) : Nat := match v with
  | .slice _ n _ => n
  | _ => 0
theorem nextS_none {ld : Int} {f : Str → Bool} : ∀ {L : List Str}, (∀ p ∈ L, f p = false) → nextS ld f L none = none
  | [], _ => rfl
  | p :: r, h => by
    rw [nextS, if_neg (by rw [h p List.mem_cons_self]; simp)]
    exact nextS_none fun q hq => h q (List.mem_cons_of_mem _ hq)
theorem i_makeHeaders (h : Inv w eb mb g) (hf : Fine g) : Calls Tryz.prog 67 #[.pointer (some ⟨eb, 0, none⟩)] w fun e w' => e = .returned (.bool false) ∧ Below w.heap.size w w' :=
  makeHeaders_no eb g.m (openS g.K g.L) w h.en h.open (by rw [openS_length]; exact hf.few) (fun p hp => by
    obtain ⟨n, hn, rfl⟩ := List.mem_map.1 hp
    exact (hf.st _ (h.at hn).1).2.2.2.2.1)
theorem i_makeData (h : Inv w eb mb g) (hf : Fine g) : Calls Tryz.prog 68 #[.pointer (some ⟨eb, 0, none⟩)] w fun e w' => e = .returned (.bool false) ∧ Below w.heap.size w w' := by
  have ho := hf.other
  have hlen : ∀ s ∈ g.K, lenV' s.st.waiting = s.wa.length ∧ s.st.some? s.wa.length := fun s hs => by
    obtain ⟨a, c, e⟩ := slice_len (h.wa s hs)
    exact ⟨by rw [e]; rfl, a, c, e⟩
  refine makeData_no eb g.m (openS g.K g.L) (fun p => lenV' p.2.waiting) w h.en h.open (by rw [openS_length]; exact hf.few) (fun p hp => ?_) (by omega) (by omega) (fun p hp => ?_) (nextS_none fun p hp => ?_)
  all_goals
    obtain ⟨n, hn, rfl⟩ := List.mem_map.1 hp
    obtain ⟨hmem, hnum⟩ := h.at hn
    obtain ⟨q1, q2, q3, q4, q5, q6⟩ := hf.st _ hmem
    obtain ⟨e1, e2⟩ := hlen _ hmem
  · show (atN g.K n).st.some? (lenV' (atN g.K n).st.waiting)
    rw [e1]; exact e2
  · exact ⟨by show _ ≤ (atN g.K n).st.send; omega, by show (atN g.K n).st.send ≤ _; omega⟩
  · show g.m.hasD (atN g.K n).st (lenV' (atN g.K n).st.waiting) = false
    rw [e1]; exact q6
end

set_option maxRecDepth 100000 in
set_option maxHeartbeats 1600000 in
theorem i_makeNext (eb mb : Nat) (g : GEnd) (w : World) (h : Inv w eb mb g) (hf : Fine g) (hl : g.out.length ≤ 1073741824) (hlive : g.m.fault = 0) :
    Calls Tryz.prog 47 #[.pointer (some ⟨eb, 0, none⟩)] w fun e w' => MadeO w w' eb mb g g.next e := by
  have HD := hide (isDead_any eb g.m w h.en)
  have hb : (g.m.fault == 0) = true := by simp [hlive]
  rw [hb] at HD
  have H1 := hide (i_makeFirst h hf hl)
  have H2 : Hid (∀ wx, Below w.heap.size w wx → Calls Tryz.prog 61 #[.pointer (some ⟨eb, 0, none⟩)] wx fun e w' => MadeO w w' eb mb g g.oAnswer e) := fun wx hx => (i_makeAnswer eb mb g wx (h.below hx) hf hl).mono fun e w' hm => hm.pre hx
  have H3 : Hid (∀ wx, Below w.heap.size w wx → Calls Tryz.prog 62 #[.pointer (some ⟨eb, 0, none⟩)] wx fun e w' => MadeO w w' eb mb g g.oSettings e) := fun wx hx => (i_makeSettings (h.below hx) hf hl).mono fun e w' hm => hm.pre hx
  have H4 : Hid (∀ wx, Below w.heap.size w wx → Calls Tryz.prog 63 #[.pointer (some ⟨eb, 0, none⟩)] wx fun e w' => MadeO w w' eb mb g g.oPing e) := fun wx hx => (i_makePing (h.below hx) hf hl).mono fun e w' hm => hm.pre hx
  have H5 : Hid (∀ wx, Below w.heap.size w wx → Calls Tryz.prog 64 #[.pointer (some ⟨eb, 0, none⟩)] wx fun e w' => MadeO w w' eb mb g g.oCredit e) := fun wx hx => (i_makeCredit (h.below hx) hf hl).mono fun e w' hm => hm.pre hx
  have H6 : Hid (∀ wx, Below w.heap.size w wx → Calls Tryz.prog 65 #[.pointer (some ⟨eb, 0, none⟩)] wx fun e w' => MadeO w w' eb mb g g.oStream e) := fun wx hx => (i_makeStreamCredit (h.below hx) hf hl).mono fun e w' hm => hm.pre hx
  have H7 : Hid (∀ wx, Below w.heap.size w wx → Calls Tryz.prog 66 #[.pointer (some ⟨eb, 0, none⟩)] wx fun e w' => MadeO w w' eb mb g g.oReset e) := fun wx hx => (i_makeReset eb mb g wx (h.below hx) hf hl).mono fun e w' hm => hm.pre hx
  have H8 : Hid (∀ wx, Below w.heap.size w wx → Calls Tryz.prog 67 #[.pointer (some ⟨eb, 0, none⟩)] wx fun e w' => e = .returned (.bool false) ∧ Below w.heap.size w w') := fun wx hx => (i_makeHeaders (h.below hx) hf).mono fun e w' hm => ⟨hm.1, hx.trans (hm.2.mono hx.size)⟩
  have H9 : Hid (∀ wx, Below w.heap.size w wx → Calls Tryz.prog 68 #[.pointer (some ⟨eb, 0, none⟩)] wx fun e w' => e = .returned (.bool false) ∧ Below w.heap.size w w') := fun wx hx => (i_makeData (h.below hx) hf).mono fun e w' hm => ⟨hm.1, hx.trans (hm.2.mono hx.size)⟩
  have HO : Hid (g.next = g.oFirst.or (g.oAnswer.or (g.oSettings.or (g.oPing.or (g.oCredit.or (g.oStream.or g.oReset)))))) := (rfl : g.next = _)
  clear h hf hl hlive hb
  generalize g.next = N at *
  generalize g.oFirst = o1 at *
  generalize g.oAnswer = o2 at *
  generalize g.oSettings = o3 at *
  generalize g.oPing = o4 at *
  generalize g.oCredit = o5 at *
  generalize g.oStream = o6 at *
  generalize g.oReset = o7 at *
  go_enter Tryz.func47, Tryz.ntmps47
  go_wp2_with fail
  refine HD.out.mono ?_
  rintro e w1 ⟨rfl, hw1⟩
  rw [hw1]
  clear hw1 w1
  go_wp2_with fail
  refine H1.out.mono ?_
  intro e w1 hm
  cases o1 with
  | some q =>
    obtain ⟨rfl, hx⟩ := hm
    have HX := hide hx
    clear hx
    go_wp2
    go_ret
    rw [HO.out]
    exact ⟨rfl, HX.out⟩
  | none =>
    obtain ⟨rfl, hx⟩ := hm
    have HX := hide hx
    clear hx
    go_wp2_with fail
    refine (H2.out _ HX.out).mono ?_
    intro e w2 hm
    cases o2 with
    | some q =>
      obtain ⟨rfl, hx⟩ := hm
      have HX := hide hx
      clear hx
      go_wp2
      go_ret
      rw [HO.out]
      exact ⟨rfl, HX.out⟩
    | none =>
      obtain ⟨rfl, hx⟩ := hm
      have HX := hide hx
      clear hx
      go_wp2_with fail
      refine (H3.out _ HX.out).mono ?_
      intro e w3 hm
      cases o3 with
      | some q =>
        obtain ⟨rfl, hx⟩ := hm
        have HX := hide hx
        clear hx
        go_wp2
        go_ret
        rw [HO.out]
        exact ⟨rfl, HX.out⟩
      | none =>
        obtain ⟨rfl, hx⟩ := hm
        have HX := hide hx
        clear hx
        go_wp2_with fail
        refine (H4.out _ HX.out).mono ?_
        intro e w4 hm
        cases o4 with
        | some q =>
          obtain ⟨rfl, hx⟩ := hm
          have HX := hide hx
          clear hx
          go_wp2
          go_ret
          rw [HO.out]
          exact ⟨rfl, HX.out⟩
        | none =>
          obtain ⟨rfl, hx⟩ := hm
          have HX := hide hx
          clear hx
          go_wp2_with fail
          refine (H5.out _ HX.out).mono ?_
          intro e w5 hm
          cases o5 with
          | some q =>
            obtain ⟨rfl, hx⟩ := hm
            have HX := hide hx
            clear hx
            go_wp2
            go_ret
            rw [HO.out]
            exact ⟨rfl, HX.out⟩
          | none =>
            obtain ⟨rfl, hx⟩ := hm
            have HX := hide hx
            clear hx
            go_wp2_with fail
            refine (H6.out _ HX.out).mono ?_
            intro e w6 hm
            cases o6 with
            | some q =>
              obtain ⟨rfl, hx⟩ := hm
              have HX := hide hx
              clear hx
              go_wp2
              go_ret
              rw [HO.out]
              exact ⟨rfl, HX.out⟩
            | none =>
              obtain ⟨rfl, hx⟩ := hm
              have HX := hide hx
              clear hx
              go_wp2_with fail
              refine (H7.out _ HX.out).mono ?_
              intro e w7 hm
              cases o7 with
              | some q =>
                obtain ⟨rfl, hx⟩ := hm
                have HX := hide hx
                clear hx
                go_wp2
                go_ret
                rw [HO.out]
                exact ⟨rfl, HX.out⟩
              | none =>
                obtain ⟨rfl, hx⟩ := hm
                have HX := hide hx
                clear hx
                go_wp2_with fail
                refine (H8.out _ HX.out).mono ?_
                rintro e w8 ⟨rfl, hx⟩
                have HY := hide hx
                clear hx
                go_wp2_with fail
                refine (H9.out _ HY.out).mono ?_
                rintro e w9 ⟨rfl, hx⟩
                have HZ := hide hx
                clear hx
                go_wp2
                go_ret
                rw [HO.out]
                exact ⟨rfl, HZ.out⟩
end Go.Proofs.YtlhlmgfblbpdpaaGreatDoor
/-
  Package ends: Take, where nothing is to be announced or sent.
-/
namespace Go.Proofs.YtlhlmgfblbpdpaaGreatDoor
set_option linter.unusedVariables false
set_option linter.unusedSimpArgs false
open Go.RowKit

/-- As many frames are made as are needed for n bytes. -/
def Runs (n : Int) (z1 : GEnd) (z2 : GEnd) : Prop := ∀ Z : GEnd → GEnd → Prop, (∀ (g : GEnd) (x1 : n ≤ g.out.length), Z g g) → (∀ (g : GEnd) (x1 : g.next = Option.none), Z g g) → (∀ (g q p : GEnd) (x1 : (g.out.length : Int) < n) (x2 : g.next = some q) (x3 : Z q p), Z g p) → Z z1 z2
theorem Runs.stop {n : Int} {g : GEnd} (x1 : n ≤ g.out.length) : Runs n g g := fun Z zk1 zk2 zk3 => zk1 g x1
theorem Runs.none {n : Int} {g : GEnd} (x1 : g.next = Option.none) : Runs n g g := fun Z zk1 zk2 zk3 => zk2 g x1
theorem Runs.step {n : Int} {g q p : GEnd} (x1 : (g.out.length : Int) < n) (x2 : g.next = some q) (x3 : Runs n q p) : Runs n g p := fun Z zk1 zk2 zk3 => zk3 g q p x1 x2 (x3 Z zk1 zk2 zk3)
theorem Runs.ind {n : Int} {motive : ∀ (z1 : GEnd) (z2 : GEnd), Runs n z1 z2 → Prop} (stop : ∀ {g : GEnd} (x1 : n ≤ g.out.length), motive g g (@Runs.stop n g x1)) (none : ∀ {g : GEnd} (x1 : g.next = Option.none), motive g g (@Runs.none n g x1)) (step : ∀ {g q p : GEnd} (x1 : (g.out.length : Int) < n) (x2 : g.next = some q) (x3 : Runs n q p) (ih : motive q p x3), motive g p (@Runs.step n g q p x1 x2 x3)) {z1 : GEnd} {z2 : GEnd} (zt : Runs n z1 z2) : motive z1 z2 zt := (zt (fun z1 z2 => ∃ zt : Runs n z1 z2, motive z1 z2 zt) (fun g x1 => ⟨_, @stop g x1⟩) (fun g x1 => ⟨_, @none g x1⟩) (fun g q p x1 x2 zy => zy.elim fun x3 zx => ⟨_, @step g q p x1 x2 x3 zx⟩)).elim fun _ zx => zx
theorem next_out {g q : GEnd} (hn : g.next = some q) : g.out.length < q.out.length := by
  have hk : ∀ l : List UInt8, ∀ k f s b, l.length < (l ++ lay k f s b).length := fun l k f s b => by rw [List.length_append, lay_length]; omega
  rcases or_some hn with hn | hn
  · unfold GEnd.oFirst at hn
    split at hn
    · cases hn
    · injection hn with hn; subst hn; exact hk _ _ _ _ _
  rcases or_some hn with hn | hn
  · unfold GEnd.oAnswer at hn
    split at hn
    · cases hn
    · injection hn with hn; subst hn; exact hk _ _ _ _ _
  rcases or_some hn with hn | hn
  · unfold GEnd.oSettings at hn
    split at hn
    · cases hn
    · injection hn with hn; subst hn; exact hk _ _ _ _ _
  rcases or_some hn with hn | hn
  · unfold GEnd.oPing at hn
    split at hn
    · injection hn with hn; subst hn; exact hk _ _ _ _ _
    · cases hn
  rcases or_some hn with hn | hn
  · unfold GEnd.oCredit at hn
    split at hn
    · injection hn with hn; subst hn; exact hk _ _ _ _ _
    · cases hn
  rcases or_some hn with hn | hn
  · unfold GEnd.oStream at hn
    cases hd : firstDueN g.m g.K g.L with
    | none => rw [hd] at hn; cases hn
    | some n => rw [hd, Option.map_some] at hn; injection hn with hn; subst hn; exact hk _ _ _ _ _
  · unfold GEnd.oReset at hn
    split at hn
    · cases hn
    · injection hn with hn; subst hn; exact hk _ _ _ _ _
theorem Runs.le {n : Int} {g p : GEnd} (h : Runs n g p) : g.out.length ≤ p.out.length := by
  induction h using Runs.ind with
  | stop _ => exact Nat.le_refl _
  | none _ => exact Nat.le_refl _
  | step _ h1 _ ih => have := next_out h1; omega
theorem next_fault {g q : GEnd} (hn : g.next = some q) : q.m.fault = g.m.fault := by
  rcases or_some hn with hn | hn
  · unfold GEnd.oFirst at hn
    split at hn
    · cases hn
    · injection hn with hn; subst hn; rfl
  rcases or_some hn with hn | hn
  · unfold GEnd.oAnswer at hn
    split at hn
    · cases hn
    · injection hn with hn; subst hn; rfl
  rcases or_some hn with hn | hn
  · unfold GEnd.oSettings at hn
    split at hn
    · cases hn
    · injection hn with hn; subst hn; rfl
  rcases or_some hn with hn | hn
  · unfold GEnd.oPing at hn
    split at hn
    · injection hn with hn; subst hn; rfl
    · cases hn
  rcases or_some hn with hn | hn
  · unfold GEnd.oCredit at hn
    split at hn
    · injection hn with hn; subst hn; rfl
    · cases hn
  rcases or_some hn with hn | hn
  · unfold GEnd.oStream at hn
    cases hd : firstDueN g.m g.K g.L with
    | none => rw [hd] at hn; cases hn
    | some n => rw [hd, Option.map_some] at hn; injection hn with hn; subst hn; rfl
  · unfold GEnd.oReset at hn
    split at hn
    · cases hn
    · injection hn with hn; subst hn; rfl

/-- How much has been made, as it lies. -/
def madeLen (w : World) (eb : Nat) : Nat := match w.cell? ⟨eb, 41, none⟩ with
  | some (.slice _ n _) => n
  | _ => 0
theorem Inv.madeLen {w : World} {eb mb : Nat} {g : GEnd} (h : Inv w eb mb g) : madeLen w eb = g.out.length := by
  obtain ⟨a, c, e⟩ := slice_len h.out
  unfold Go.Proofs.YtlhlmgfblbpdpaaGreatDoor.madeLen
  rw [h.en.c41, e]
def oneIf (v : Value) : Nat := match v with
  | .bool true => 1
  | _ => 0
/-- How Take ends. -/
structure Taken (w w' : World) (eb mb : Nat) (g p : GEnd) (n : Int) (e : Ending) : Prop where
  eq : ∃ s, e = .returned (.slice s (cutN n p.out.length) (cutN n p.out.length)) ∧ BytesIn w' (.slice s (cutN n p.out.length) (cutN n p.out.length)) (p.out.take (cutN n p.out.length))
  next : ∃ g', g'.bare = { p with out := p.out.drop (cutN n p.out.length) } ∧ Next w w' eb mb g g'

theorem taken_of {w w1 w' : World} {eb mb : Nat} {g c : GEnd} {n : Int} {v' : Value} {e : Ending} (hn : Next w w1 eb mb g c) (hc : CutOff w1 w' eb 41 c.m.out v' c.out (cutN n c.out.length) e) : Taken w w' eb mb g c.bare n e := by
  obtain ⟨⟨s, he, hby, -⟩, w2, hw2, hb2, hrow⟩ := hc
  refine ⟨⟨s, he, hby⟩, ?_⟩
  subst hw2
  have hi := hn.inv.below hb2
  have hset : Chg (fun j => j = eb) w2 (w2.setCell ⟨eb, 41, none⟩ v') := chg_set (Chg.refl _ _) rfl
  have hr0 : w2.ownsRow 0 5 1 v' (c.out.drop (cutN n c.out.length)).length ((c.out.drop (cutN n c.out.length)).map B) := by
    rw [List.length_drop]
    exact owns_base hrow (fun _ _ => Nat.zero_le _)
  have hcc : Chg (fun j => j = eb) w1 (w2.setCell ⟨eb, 41, none⟩ v') := (Chg.of_below hb2).trans (hset.mono fun j _ e => Or.inr e)
  have hn2 := hn.inv.onEnd (S := fun j => j = eb) (w' := w2.setCell ⟨eb, 41, none⟩ v') (m' := { c.m with out := v' }) (A' := c.ans) (R' := c.res) (o' := c.out.drop (cutN n c.out.length)) hcc (fun j e => Or.inl e) (EnB.of (blk_set hi.en.blk) rfl) rfl rfl rfl
    (owns_chg hr0 hset (fun j hj e => by rw [e] at hj; exact owns_ne hr0 hi.en.blk (by decide) hj)) (fun j hj => Or.inr (hrow.lt j hj).1) hn.inv.ans (fun _ h => h) (fun _ h => h) hn.inv.res (fun _ h => h)
  refine ⟨_, ?_, hn.trans hn2⟩
  rfl

set_option maxRecDepth 100000 in
set_option maxHeartbeats 1600000 in
theorem i_take (eb mb : Nat) (g p : GEnd) (n : Int) (w : World) (h : Inv w eb mb g) (hf : Fine g) (hlive : g.m.fault = 0) (hr : Runs n g.bare p) (hl : p.out.length ≤ 1073741824) :
    Calls Tryz.prog 36 #[.pointer (some ⟨eb, 0, none⟩), .int .i64 n] w fun e w' => Taken w w' eb mb g p n e := by
  have H := hide h
  have HF := hide hf
  have HR := hide hr
  have HL := hide hlive
  clear h hf hr hlive
  go_enter Tryz.func36, Tryz.ntmps36
  go_wp2
  go_loopw [5] (fun i wr => ∃ (wv : World) (c : GEnd) (mo : Bool), wv = wr ∧ i = .bool mo ∧ Next w wv eb mb g c ∧ Fine c ∧ c.m.fault = 0 ∧ c.out.length ≤ p.out.length ∧ (if mo then Runs n c.bare p else c.bare = p)) (fun i wr => (p.out.length - madeLen wr eb) * 2 + oneIf i)
  case atStart => exact ⟨_, g, true, rfl, rfl, Next.refl H.out, HF.out, HL.out, HR.out.le, HR.out⟩
  case round =>
    obtain ⟨wv, c, mo, hwv, rfl, hnx, hfi, hfa, hle, hmo⟩ := hrel
    subst hwv
    have c41 := hnx.inv.en.c41
    obtain ⟨sa, ca, hsl⟩ := slice_len hnx.inv.out
    rw [hsl] at c41
    have hml := hnx.inv.madeLen
    have HNX := hide hnx
    have HFI := hide hfi
    have HFA := hide hfa
    have HML := hide hml
    have HSL := hide hsl
    have HMO := hide hmo
    clear hnx hfi hfa hml hsl hmo
    have HCUT : Hid (c.bare = p → ∀ wx, wx = wv → Calls Tryz.prog 48 #[.pointer (some ⟨eb, 41, none⟩), .int .i64 n] wx fun e w' => Taken w w' eb mb g p n e) := fun hcp wx hwx => by
      subst hwx
      have hlo : c.out.length ≤ 1073741824 := by omega
      refine (ecut_any eb 41 c.m.out c.out n _ HNX.out.inv.en.c41 (HNX.out.inv.en.fr 41) HNX.out.inv.en.lt HNX.out.inv.out (fun e => owns_ne HNX.out.inv.out HNX.out.inv.en.blk (by decide) e) hlo).mono ?_
      rintro e w' ⟨v', hc⟩
      have := taken_of HNX.out hc
      rw [hcp] at this
      exact this
    cases mo with
    | false =>
      have hcp := HMO.out
      simp only [Bool.false_eq_true, if_false] at hcp
      have HC := hide (HCUT.out hcp _ rfl)
      clear hcp HCUT
      go_wp2_with fail
      refine HC.out.mono ?_
      intro e w' ht
      obtain ⟨s, he, -⟩ := ht.eq
      have HT := hide ht
      clear ht
      subst he
      go_wp2
      go_ret
      exact HT.out
    | true =>
      have hru := HMO.out
      simp only [if_true] at hru
      have HRU := hide hru
      clear hru HMO
      by_cases hlt : (c.out.length : Int) < n
      · have hlo : c.out.length ≤ 1073741824 := by omega
        have hmk := i_makeNext eb mb c wv HNX.out.inv HFI.out hlo HFA.out
        have HMK := hide hmk
        clear hmk HCUT
        go_wp2_with fail
        refine HMK.out.mono ?_
        intro e w1 hm
        have hnb := next_bare c
        cases hcn : c.next with
        | none =>
          rw [hcn] at hm hnb
          obtain ⟨rfl, hb⟩ := hm
          have hcp : c.bare = p := by
            cases HRU.out using Runs.ind with
            | stop h1 => rfl
            | none h1 => rfl
            | step h1 h2 h3 => rw [← hnb] at h2; cases h2
          have hml1 : madeLen w1 eb = c.out.length := (HNX.out.then_below hb).inv.madeLen
          have HB := hide hb
          have HCP := hide hcp
          clear hb hcp hnb hcn
          go_wp2
          all_goals go_roundw
          case rel => exact ⟨_, c, false, rfl, rfl, HNX.out.then_below HB.out, HFI.out, HFA.out, hle, by simpa using HCP.out⟩
          case measure => rw [hml1, HML.out]; simp [oneIf]
        | some q =>
          rw [hcn] at hm hnb
          obtain ⟨rfl, g', hg', hn'⟩ := hm
          have hq := HFI.out.next hcn
          have hgo : g'.out = q.out := by have := congrArg GEnd.out hg'; exact this
          have hfi' : Fine g' := Fine.of_bare (by rw [hg']; exact hq.bare)
          have hfa' : g'.m.fault = 0 := by
            have e1 : g'.m.fault = g'.bare.m.fault := rfl
            rw [e1, hg']
            show q.m.fault = 0
            rw [next_fault hcn, HFA.out]
          have hru' : Runs n g'.bare p := by
            rw [hg']
            simp only [Option.map_some] at hnb
            cases HRU.out using Runs.ind with
            | stop h1 => exact absurd (show n ≤ (c.out.length : Int) from h1) (by omega)
            | none h1 => rw [← hnb] at h1; cases h1
            | step h1 h2 h3 =>
              rw [← hnb] at h2
              injection h2 with h2
              rw [h2]
              exact h3
          have hlt' := next_out hcn
          have hml1 : madeLen w1 eb = g'.out.length := hn'.inv.madeLen
          have hle' := hru'.le
          rw [show g'.bare.out = g'.out from rfl] at hle'
          rw [hgo] at hml1 hle'
          have HN' := hide hn'
          have HFI' := hide hfi'
          have HFA' := hide hfa'
          have HRU' := hide hru'
          have HGO := hide hgo
          clear hn' hfi' hfa' hru' hnb hcn hq hg' hgo
          go_wp2
          all_goals go_roundw
          case rel => exact ⟨_, g', true, rfl, rfl, HNX.out.trans HN'.out, HFI'.out, HFA'.out, by rw [HGO.out]; exact hle', by simpa using HRU'.out⟩
          case measure => rw [hml1, HML.out]; simp [oneIf]; omega
      · have hcp : c.bare = p := by
          cases HRU.out using Runs.ind with
          | stop h1 => rfl
          | none h1 => rfl
          | step h1 h2 h3 => exact absurd (show (c.out.length : Int) < n from h1) hlt
        have HC := hide (HCUT.out hcp _ rfl)
        clear hcp HCUT HRU
        go_wp2_with fail
        refine HC.out.mono ?_
        intro e w' ht
        obtain ⟨s, he, -⟩ := ht.eq
        have HT := hide ht
        clear ht
        subst he
        go_wp2
        go_ret
        exact HT.out
set_option maxHeartbeats 400000 in
theorem x_take (eb mb : Nat) (g p : GEnd) (n : Int) (w : World) (h : Inv w eb mb g) (hf : Fine g) (hlive : g.m.fault = 0) (hr : Runs n g.bare p) (hl : p.out.length ≤ 1073741824) :
    Calls Tryz.prog 17 #[.pointer (some ⟨eb, 0, none⟩), .int .i64 n] w fun e w' => Taken w w' eb mb g p n e := by
  have HC := hide (i_take eb mb g p n w h hf hlive hr hl)
  clear h hf hr hl hlive
  go_enter Tryz.func17, Tryz.ntmps17
  go_wp2_with fail
  refine HC.out.mono ?_
  intro e w' ht
  obtain ⟨s, he, -⟩ := ht.eq
  have HT := hide ht
  clear ht
  subst he
  go_wp2
  go_ret
  exact HT.out
end Go.Proofs.YtlhlmgfblbpdpaaGreatDoor
/-
  Whole frames, fed.
-/
namespace Go.Proofs.YtlhlmgfblbpdpaaGreatDoor
set_option linter.unusedVariables false
set_option linter.unusedSimpArgs false
open Go.RowKit

theorem step_fault_ne {got : List UInt8} {c : UInt8} {code : Int} (h : step got c = .fault code) : code ≠ 0 := by
  rcases step_fault h with ⟨-, h1, rfl⟩ | ⟨-, -, -, h1, rfl⟩
  · exact h1
  · exact h1
theorem feed_none {got l g' : List UInt8} (h : feed got l = ([], ⟨g', 0⟩)) : g' = got ++ l := by
  induction l generalizing got with
  | nil =>
    unfold feed at h
    simp only [Prod.mk.injEq, true_and, Rd.mk.injEq, and_true] at h
    rw [← h, List.append_nil]
  | cons c r ih =>
    unfold feed at h
    cases hs : step got c with
    | inl x =>
      rw [hs] at h
      cases x with
      | inl g1 =>
        simp only at h
        have h1 := ih h
        obtain ⟨h2, -⟩ := step_more hs
        rw [h1, h2]
        simp
      | inr f => simp at h
    | inr code =>
      rw [hs] at h
      simp only [Prod.mk.injEq, true_and, Rd.mk.injEq] at h
      exact absurd h.2 (step_fault_ne hs)

theorem feedR_of_feed {p q : GEnd} {f : Fr} (hg : p.m.greeted = 7) (hf : p.m.fault = 0) (hc : Come { p with got := [] } f q) : ∀ (l got : List UInt8), feed got l = ([f], ⟨[], 0⟩) → FeedR { p with got := got } l q := by
  intro l
  induction l with
  | nil =>
    intro got h
    unfold feed at h
    simp at h
  | cons c r ih =>
    intro got h
    unfold feed at h
    cases hs : step got c with
    | inl x =>
      rw [hs] at h
      cases x with
      | inl g1 => exact .more hg hf hs (ih g1 h)
      | inr f1 =>
        simp only [Prod.mk.injEq, List.cons.injEq] at h
        obtain ⟨⟨h1, h2⟩, h3⟩ := h
        subst h1
        have h4 : feed [] r = ([], ⟨[], 0⟩) := by rw [← h2, ← h3]
        have h5 := feed_none h4
        simp at h5
        subst h5
        exact .frame hg hf hs hc .nil
    | inr code =>
      rw [hs] at h
      simp at h
/-- One whole frame. -/
theorem feedR_lay {p q : GEnd} {k f s : Int} {body : List UInt8} (hr : Right k f s body) (hg : p.m.greeted = 7) (hf : p.m.fault = 0) (hgot : p.got = []) (hc : Come p ⟨k, f, s, body⟩ q) : FeedR p (lay k f s body) q := by
  have e : p = { p with got := [] } := by rw [← hgot]
  rw [e] at hc
  have := feedR_of_feed hg hf hc (lay k f s body) [] (feed_right hr)
  rw [e]
  exact this
/-- The greeting. -/
theorem feedR_greet {p : GEnd} (hg : p.m.greeted = 0) (hf : p.m.fault = 0) : FeedR p greetB { p with m := { p.m with greeted := 7 } } := by
  refine .greet (k := 0) hg (by omega) hf rfl ?_
  refine .greet (k := 1) rfl (by omega) hf rfl ?_
  refine .greet (k := 2) rfl (by omega) hf rfl ?_
  refine .greet (k := 3) rfl (by omega) hf rfl ?_
  refine .greet (k := 4) rfl (by omega) hf rfl ?_
  refine .greet (k := 5) rfl (by omega) hf rfl ?_
  refine .greet (k := 6) rfl (by omega) hf rfl ?_
  exact .nil
end Go.Proofs.YtlhlmgfblbpdpaaGreatDoor
/-
  The law's own: lay, four.
-/
namespace Go.Proofs.YtlhlmgfblbpdpaaGreatDoor
set_option linter.unusedVariables false
set_option linter.unusedSimpArgs false
open Go.RowKit

set_option maxRecDepth 100000 in
set_option maxHeartbeats 800000 in
theorem kfour_any (n : Nat) (w : World) (hn : n ≤ 4294967295) : Calls Tryz.prog 20 #[.int .i64 n] w fun e w' => e = .returned (.slice (some ⟨w.heap.size, 0, none⟩) 4 4) ∧ BytesIn w' (.slice (some ⟨w.heap.size, 0, none⟩) 4 4) (four4 n) ∧ Below w.heap.size w w' := by
  go_enter Tryz.func20, Tryz.ntmps20
  go_wp2
  go_ret
  have hh : (w.alloc (.cells #[.int .u8 (n / 16777216), .int .u8 (n / 65536 % 256), .int .u8 (n / 256 % 256), .int .u8 (n % 256)] 5)).heap[w.heap.size]? = some (.cells #[.int .u8 (n / 16777216), .int .u8 (n / 65536 % 256), .int .u8 (n / 256 % 256), .int .u8 (n % 256)] 5 (0, 0)) := heap_alloc_new w _
  refine ⟨rfl, Or.inr ⟨w.heap.size, 0, 4, rfl, lt_of_block hh, Nat.le_refl _, fun i hi => ?_⟩, (Below.refl _ _).alloc (Nat.le_refl _) _⟩
  rw [cell_of_row _ _ _ _ _ _ hh]
  have hi' : i < 4 := hi
  have e0 : (n / 16777216 : Nat) % 256 = n / 16777216 := Nat.mod_eq_of_lt (by omega)
  match i, hi' with
  | 0, _ => simp [four4, UInt8.toNat_ofNat', e0]
  | 1, _ => simp [four4, UInt8.toNat_ofNat']
  | 2, _ => simp [four4, UInt8.toNat_ofNat']
  | 3, _ => simp [four4, UInt8.toNat_ofNat']
set_option maxRecDepth 100000 in
set_option maxHeartbeats 1600000 in
theorem klay_any (k f s : Int) (sa : Option Addr) (body : List UInt8) (cap : Nat) (w : World) (hk0 : 0 ≤ k) (hk1 : k ≤ 255) (hf0 : 0 ≤ f) (hf1 : f ≤ 255) (hs0 : 0 ≤ s) (hs1 : s ≤ 32767) (hn : body.length ≤ 64) (hb : BytesIn w (.slice sa body.length cap) body) :
    Calls Tryz.prog 11 #[.int .i64 k, .int .i64 f, .int .i64 s, .slice sa body.length cap] w fun e w' => ∃ v, e = .returned v ∧ w'.ownsRow w.heap.size 5 1 v (lay k f s body).length ((lay k f s body).map B) ∧ Below w.heap.size w w' := by
  obtain ⟨i0, hi, hz0, hz1, hz2⟩ := info_parts Tryz.info5
  have HB := hide hb
  clear hb
  go_enter Tryz.func11, Tryz.ntmps11
  have hrow : (w.alloc (.cells #[.int .u8 ((body.length : Int) / 256), .int .u8 (body.length : Int), .int .u8 k, .int .u8 f, .int .u8 (s / 256), .int .u8 (s % 256)] 5)).ownsRow 0 5 1 (.slice (some ⟨w.heap.size, 0, none⟩) 6 6) 6 [.int .u8 ((body.length : Int) / 256), .int .u8 (body.length : Int), .int .u8 k, .int .u8 f, .int .u8 (s / 256), .int .u8 (s % 256)] := ⟨rfl, Or.inr ⟨w.heap.size, 6, _, rfl, Nat.zero_le _, heap_alloc_new w _, Nat.le_refl _, by decide, rfl, rfl⟩⟩
  have hlb : Lies (w.alloc (.cells #[.int .u8 ((body.length : Int) / 256), .int .u8 (body.length : Int), .int .u8 k, .int .u8 f, .int .u8 (s / 256), .int .u8 (s % 256)] 5)) (.slice sa body.length cap) body.length (body.map B) := lies_of_bytesIn (HB.out.chg (Chg.of_below (S := fun _ => False) ((Below.refl _ _).alloc (Nat.le_refl _) _)) (fun _ _ => id))
  have HROW := hide hrow
  have HLB := hide hlb
  clear hrow hlb
  go_wp2_with (at_builtin; refine wpList_app _ rfl (.tmp 28) (.tmp 29) 43 rfl 5 i0 (.int .u8 0) 1 1 Tryz.underlying43 hi hz0 hz1 hz2 rfl (by decide) _ 6 _ rfl HROW.out _ body.length (body.map B) rfl ?c1 HLB.out ?c3 ?c4 ?c5 ?_)
  case c1 => simp
  case c3 => intro u hu; obtain ⟨x, -, rfl⟩ := List.mem_map.1 hu; rfl
  case c4 => unfold maxLen; omega
  case c5 => omega
  intro v2 w2 hown2 hg2 hfr2
  obtain ⟨s2, c2, rfl⟩ := slice_len hown2
  have hb2 : Below w.heap.size w w2 := below_of_chg ((Below.refl _ _).alloc (Nat.le_refl _) _) (Chg.of_grown (S := fun j => j = w.heap.size) hg2 (fun j hj => by simp [Value.ownBlock] at hj; exact hj.symm)) (fun j e => by rw [e]; exact Nat.le_refl _)
  have hown3 := owns_base (base' := w.heap.size) hown2 (fun j hj => by
    rcases hfr2 with e | e
    · rw [e] at hj; simp [Value.ownBlock] at hj; omega
    · rw [e] at hj; simp at hj; omega)
  have HO := hide hown3
  have HB2 := hide hb2
  clear hown2 hg2 hfr2 hb2 hown3
  go_wp2
  go_ret
  refine ⟨_, rfl, ?_, HB2.out⟩
  have e1 : (lay k f s body).length = 6 + body.length := by simp [lay]; omega
  rw [e1]
  have e2 : (lay k f s body).map B = [.int .u8 ((body.length : Int) / 256), .int .u8 (body.length : Int), .int .u8 k, .int .u8 f, .int .u8 (s / 256), .int .u8 (s % 256)] ++ body.map B := by
    unfold lay
    rw [List.map_append]
    simp only [List.map_cons, List.map_nil]
    rw [B_ofI (by omega) (by omega), B_ofI (by omega) (by omega), B_ofI hk0 hk1, B_ofI hf0 hf1, B_ofI (by omega) (by omega), B_ofI (by omega) (by omega)]
  rw [e2]
  exact HO.out
end Go.Proofs.YtlhlmgfblbpdpaaGreatDoor
