import Derived.Test.YtlhlmgfblbpdpaaGreatDoorWGbe
namespace Go.Proofs.YtlhlmgfblbpdpaaGreatDoor
set_option linter.unusedVariables false
set_option linter.unusedSimpArgs false
open Go.RowKit

/-- The law's intake of an end that gives all back at once: what a probe needs. -/
structure Prob (N : Nat) (R T B : Int) (x : XM) (d : Dn) (s : Nat → Sn) : Prop where
  rel : Rel N x d s
  live : x.dead = false
  batch : x.cf.b = 1
  owed : d.owed = 0
  owd0 : (s 0).owed = 0
  un0 : (s 0).un = []
  clock : x.clock = 0
  start : d.start = 0
  reads : x.reads = R
  beside : x.beside = 0
  target : d.target = T
  under : d.under = false
  bestB : d.bestB = B
  bestT : d.bestT = 1
  force : x.force = 32
  bods : x.bodies = R
/-- What goes by unchanged where frames are heard. -/
structure Heard (x y : XM) : Prop where
  cf : y.cf = x.cf
  dead : y.dead = x.dead
  clock : y.clock = x.clock
  reads : y.reads = x.reads
  bods : y.bods = x.bods
  beside : y.beside = x.beside
  force : y.force = x.force
  read0 : (y.ln 0).read = (x.ln 0).read
  text0 : (y.ln 0).text = (x.ln 0).text
theorem Tells.heard {x y : XM} {f : Fr} (h : Tells x f y) : Heard x y := by
  cases h using Tells.ind with
  | settings n hn hw => exact ⟨rfl, rfl, rfl, rfl, rfl, rfl, rfl, rfl, rfl⟩
  | ping n hn hp hc => exact ⟨rfl, rfl, rfl, rfl, rfl, rfl, rfl, rfl, rfl⟩
  | credit n hn => exact ⟨rfl, rfl, rfl, rfl, rfl, rfl, rfl, rfl, rfl⟩
  | lane j n hj hn =>
    have hr : ∀ m, ((updL x.ln j { x.ln j with credit := (x.ln j).credit + n }) m).read = (x.ln m).read ∧ ((updL x.ln j { x.ln j with credit := (x.ln j).credit + n }) m).bodies = (x.ln m).bodies ∧ ((updL x.ln j { x.ln j with credit := (x.ln j).credit + n }) m).text = (x.ln m).text := fun m => by
      unfold updL
      by_cases e : m = j
      · subst e; simp
      · simp [e]
    exact ⟨rfl, rfl, rfl, by simp only [XM.reads, (hr _).1], by simp only [XM.bods, (hr _).2.1], rfl, rfl, (hr 0).1, (hr 0).2.2⟩
theorem Heard.trans {x y z : XM} (h : Heard x y) (k : Heard y z) : Heard x z := ⟨k.cf.trans h.cf, k.dead.trans h.dead, k.clock.trans h.clock, k.reads.trans h.reads, k.bods.trans h.bods, k.beside.trans h.beside, k.force.trans h.force, k.read0.trans h.read0, k.text0.trans h.text0⟩
theorem TellsL.heard {N : Nat} {x y : XM} {fs : List Fr} (h : TellsL N x fs y) : Heard x y := by
  induction h using TellsL.ind with
  | nil => exact ⟨rfl, rfl, rfl, rfl, rfl, rfl, rfl, rfl, rfl⟩
  | cons _ h1 _ ih => exact h1.heard.trans ih
section
variable {N : Nat} {x y : XM} {d e : Dn} {s r : Nat → Sn}
theorem Quiet.none (h : Quiet 1 d s) (h0 : 0 ≤ d.owed) : d.owed = 0 := by
  have := h.owe
  unfold dueB at this
  by_cases hc : 1 ≤ d.owed
  · simp [hc] at this
  · omega
theorem Quiet.none0 (h : Quiet 1 d s) (h0 : 0 ≤ (s 0).owed) : (s 0).owed = 0 := by
  have := h.st 0 (by omega)
  unfold dueB at this
  by_cases hc : 1 ≤ (s 0).owed
  · simp [hc] at this
  · omega
/-- The target behind a probe of n bytes in a tick. -/
def aimT (k T B : Int) (n : Nat) : Int := if T < k ∧ B < n ∧ T ≤ 2 * n then min (2 * T) k else T
def aimB (k T B : Int) (n : Nat) : Int := if T < k ∧ B < n then n else B
variable {R T B : Int} {n : Nat}
theorem Prob.fits (h : Prob N R T B x d s) (hn : n ≤ 32) : Fits d s 0 (n + padK 8) := by
  have hr := h.rel
  have hl := hr.lns 0 (by omega)
  have a1 := hr.owd; have a2 := hr.rcv; have a3 := h.owed; have a4 := h.reads; have a5 := h.beside; have a6 := h.bods; have a7 := hr.tgt0; have a8 := hr.cf.c0
  have b1 := hl.owd; have b2 := h.owd0; have b3 := h.un0; have b4 := hl.un; have b5 := hl.rcv; have b6 := hr.own; have b7 := h.force; have b8 := hl.rd
  rw [b3] at b4
  have b9 : (x.ln 0).text.length - (x.ln 0).read = 0 := by
    have := congrArg List.length b4
    rw [List.length_drop] at this
    simpa using this.symm
  right
  show ((n + 0 : Nat) : Int) ≤ d.receive ∧ ((n + 0 : Nat) : Int) ≤ d.own + (s 0).receive
  omega
theorem got_prob (k : Int) (d : Dn) (n : Nat) (hu : d.under = false) (h1 : 1 ≤ n) (hs : d.start = 0) : (d.got k n).start = 0 ∧ ((d.target < k ∧ (d.got k n).under = true ∧ (d.got k n).count = n) ∨ (¬ d.target < k ∧ (d.got k n).under = false)) := by
  unfold Dn.got
  rw [hu]
  simp only [Bool.false_eq_true, if_false]
  by_cases hk : d.target < k
  · rw [if_pos ⟨by omega, hk⟩]
    exact ⟨rfl, Or.inl ⟨hk, rfl, rfl⟩⟩
  · rw [if_neg (fun e => hk e.2)]
    exact ⟨hs, Or.inr ⟨hk, rfl⟩⟩
theorem prob_end (h : Prob N R T B x d s) (h1 : 1 ≤ n) (hn : n ≤ 32) {t : List UInt8} (htl : t.length = n) {x2 x3 x5 : XM} {d2 d3 d5 : Dn} {s2 s5 : Nat → Sn} {fs2 fs5 : List Fr} {m : Nat}
    (ht2 : TellsL (N + 1) (x.sent 0 t (t.length + 0)) fs2 x2) (hr2 : Rel (N + 1) x2 d2 s2) (hq2 : Quiet x.cf.b d2 s2) (hs2 : SameT ((d.got x.cf.k (t.length + 0)).owes 0) d2)
    (h3 : (x3 = x2 ∧ d3 = d2 ∧ x2.pn = none) ∨ (∃ q, x2.pn = some q ∧ x3 = { x2 with pn := none } ∧ d3 = d2.pong x2.cf.k)) (hm : m = cutN n (s2 0).un.length)
    (ht5 : TellsL (N + 1) (x3.read 0 m) fs5 x5) (hr5 : Rel (N + 1) x5 d5 s5) (hq5 : Quiet x.cf.b d5 s5) (hs5 : SameT (d3.owes m) d5) :
    m = n ∧ x5.credit = aimT x.cf.k T B n - 32 + R + n ∧ Prob (N + 1) (R + n) (aimT x.cf.k T B n) (aimB x.cf.k T B n) x5 d5 s5 ∧ x5.cf = x.cf := by
  have e0 : t.length + 0 = n := by omega
  rw [e0] at ht2 hs2
  have H2 := ht2.heard
  have H5 := ht5.heard
  obtain ⟨g1, g2, g3, g4, g5, g6, g7, g8, g9, g10⟩ := got_same x.cf.k d n
  obtain ⟨p1, p2⟩ := got_prob x.cf.k d n h.under h1 h.start
  have hl2 := hr2.lns 0 (by omega)
  have hl0 := h.rel.lns 0 (by omega)
  -- the first lane
  have tx2 : (x2.ln 0).text = (x.ln 0).text ++ t := H2.text0
  have rd2 : (x2.ln 0).read = (x.ln 0).read := H2.read0
  have hun2 : (s2 0).un = t := by
    rw [hl2.un, tx2, rd2, List.drop_append_of_le_length hl0.rd, ← hl0.un, h.un0]
    rfl
  have hmn : m = n := by
    rw [hm, hun2, htl]
    unfold cutN
    omega
  -- sums behind the sending
  have es1 : (x.sent 0 t n).reads = R := by
    have := sum_upd (ln := x.ln) (j := 0) (by omega) { x.ln 0 with text := (x.ln 0).text ++ t, bodies := (x.ln 0).bodies + (n : Int) } (fun l => (l.read : Int))
    have hR := h.reads
    simp only [XM.reads, XM.sent] at this hR ⊢
    omega
  have hcf2 : x2.cf = x.cf := H2.cf
  -- the third state
  have c3 : x3.cf = x.cf ∧ x3.dead = false ∧ x3.clock = 0 ∧ x3.reads = R ∧ x3.beside = 0 ∧ x3.force = 32 ∧ x3.bods = x2.bods ∧ (x3.ln 0) = (x2.ln 0) := by
    have q1 : x2.dead = false := H2.dead.trans h.live
    have q2 : x2.clock = 0 := H2.clock.trans h.clock
    have q3 : x2.reads = R := H2.reads.trans es1
    have q4 : x2.beside = 0 := by
      have := H2.beside
      rw [this]
      show x.beside + (n : Int) - t.length = 0
      have := h.beside
      omega
    have q5 : x2.force = 32 := H2.force.trans h.force
    rcases h3 with ⟨rfl, -, -⟩ | ⟨q, -, rfl, -⟩
    · exact ⟨hcf2, q1, q2, q3, q4, q5, rfl, rfl⟩
    · exact ⟨hcf2, q1, q2, q3, q4, q5, rfl, rfl⟩
  obtain ⟨c31, c32, c33, c34, c35, c36, c37, c38⟩ := c3
  -- the tuner
  have k1 : d2.target = T := by rw [hs2.target]; show (d.got x.cf.k n).target = T; rw [g8]; exact h.target
  have k2 : d2.bestB = B := by rw [hs2.bestB]; show (d.got x.cf.k n).bestB = B; rw [g9]; exact h.bestB
  have k3 : d2.bestT = 1 := by rw [hs2.bestT]; show (d.got x.cf.k n).bestT = 1; rw [g10]; exact h.bestT
  have k4 : d2.clock = 0 := by rw [hs2.clock]; show (d.got x.cf.k n).clock = 0; rw [g3, h.rel.clk]; exact h.clock
  have k5 : d2.start = 0 := by
    rcases hs2.start with e | e
    · rw [e]; exact p1
    · rw [e]; show (d.got x.cf.k n).clock = 0; rw [g3, h.rel.clk]; exact h.clock
  have ktk : d2.ticks = 1 := by unfold Dn.ticks; rw [k4, k5]; rfl
  have kun : d2.under = (d.got x.cf.k n).under := hs2.under
  have kct : d2.count = (d.got x.cf.k n).count := hs2.count
  have kpd := hq2.ping
  have kpn := hr2.png
  have key : d3.target = aimT x.cf.k T B n ∧ d3.bestB = aimB x.cf.k T B n ∧ d3.bestT = 1 ∧ d3.under = false ∧ d3.clock = 0 ∧ d3.start = 0 := by
    rw [h.target] at p2
    rcases p2 with ⟨hk, hu, hct⟩ | ⟨hk, hu⟩
    · rw [hu] at kun
      rw [hct] at kct
      have hpg : d2.pinged = true := by
        unfold Dn.pend at kpd
        rw [kun] at kpd
        simpa using kpd
      rw [kun, hpg] at kpn
      simp only [Bool.and_self, if_true] at kpn
      rcases h3 with ⟨-, -, hpn⟩ | ⟨q, hpn, -, rfl⟩
      · rw [hpn] at kpn; cases kpn
      · obtain ⟨w1, w2, w3, w4, w5, w6, w7, w8, w9, w10, w11, w12⟩ := pong_same x2.cf.k d2
        refine ⟨?_, ?_, ?_, w8, w1.trans k4, w10.trans k5⟩
        · by_cases hb : B < (n : Int)
          · by_cases hc : T ≤ 2 * (n : Int)
            · rw [show aimT x.cf.k T B n = min (2 * T) x.cf.k from if_pos ⟨hk, hb, hc⟩]
              unfold Dn.pong
              rw [if_pos (by rw [k2, k3, ktk, kct]; omega), if_neg (by rw [k1, kct]; omega), hcf2, k1]
            · rw [show aimT x.cf.k T B n = T from if_neg (fun e => hc e.2.2)]
              unfold Dn.pong
              rw [if_pos (by rw [k2, k3, ktk, kct]; omega), if_pos (by rw [k1, kct]; omega)]
              exact k1
          · rw [show aimT x.cf.k T B n = T from if_neg (fun e => hb e.2.1)]
            unfold Dn.pong
            rw [if_neg (by rw [k2, k3, ktk, kct]; omega)]
            exact k1
        · by_cases hb : B < (n : Int)
          · rw [show aimB x.cf.k T B n = n from if_pos ⟨hk, hb⟩]
            unfold Dn.pong
            rw [if_pos (by rw [k2, k3, ktk, kct]; omega)]
            split <;> exact kct
          · rw [show aimB x.cf.k T B n = B from if_neg (fun e => hb e.2)]
            unfold Dn.pong
            rw [if_neg (by rw [k2, k3, ktk, kct]; omega)]
            exact k2
        · by_cases hb : B < (n : Int)
          · unfold Dn.pong
            rw [if_pos (by rw [k2, k3, ktk, kct]; omega)]
            split <;> exact ktk
          · unfold Dn.pong
            rw [if_neg (by rw [k2, k3, ktk, kct]; omega)]
            exact k3
    · rw [hu] at kun
      rw [kun] at kpn
      simp only [Bool.false_and, Bool.false_eq_true, if_false] at kpn
      rcases h3 with ⟨-, rfl, hpn⟩ | ⟨q, hpn, -, -⟩
      · refine ⟨?_, ?_, k3, kun, k4, k5⟩
        · unfold aimT; rw [if_neg (fun e => hk e.1)]; exact k1
        · unfold aimB; rw [if_neg (fun e => hk e.1)]; exact k2
      · rw [hpn] at kpn; cases kpn
  obtain ⟨f1, f2, f3, f4, f5, f6⟩ := key
  -- behind the reading
  have er : (x3.read 0 m).reads = R + n := by
    have := sum_upd (ln := x3.ln) (j := 0) (by omega) { x3.ln 0 with read := (x3.ln 0).read + m } (fun l => (l.read : Int))
    rw [← c34]
    simp only [XM.reads, XM.read] at this ⊢
    omega
  have hb1 : x.cf.b = 1 := h.batch
  rw [hb1] at hq5
  have ho5 := hq5.none hr5.owd0
  have u1 := hr5.owd
  have u2 : x5.reads = R + n := H5.reads.trans er
  have u3 : x5.beside = 0 := H5.beside.trans c35
  have u4 : d5.target = aimT x.cf.k T B n := hs5.target.trans f1
  have hs3' := hr5.sum
  have hb3' := hr5.bes
  refine ⟨hmn, by omega, ?_, H5.cf.trans c31⟩
  have htx : x5.texts = x5.reads := by
    -- all that came is read: the sums of bodies are known
    have v1 : x5.bods = x.bods + n := by
      rw [H5.bods]
      have : (x3.read 0 m).bods = x3.bods := by
        have := sum_upd (ln := x3.ln) (j := 0) (by omega) { x3.ln 0 with read := (x3.ln 0).read + m } (fun l => l.bodies)
        simp only [XM.bods, XM.read] at this ⊢
        omega
      rw [this, c37, H2.bods]
      have := sum_upd (ln := x.ln) (j := 0) (by omega) { x.ln 0 with text := (x.ln 0).text ++ t, bodies := (x.ln 0).bodies + (n : Int) } (fun l => l.bodies)
      simp only [XM.bods, XM.sent] at this ⊢
      omega
    have v2 := h.rel.sum
    have v3 := h.bods
    omega
  have hl5 := hr5.lns 0 (by omega)
  exact {
    rel := hr5
    live := H5.dead.trans c32
    batch := by rw [H5.cf]; show x3.cf.b = 1; rw [c31]; exact hb1
    owed := ho5
    owd0 := hq5.none0 hl5.owd0
    un0 := by
      rw [hl5.un, H5.text0, H5.read0]
      show ((x3.ln 0).text).drop (((x3.ln 0).read) + m) = []
      rw [c38, tx2, rd2, hmn, List.drop_eq_nil_of_le]
      rw [List.length_append, htl]
      have w1 := h.un0
      rw [hl0.un] at w1
      have w2 := congrArg List.length w1
      rw [List.length_drop] at w2
      simp at w2
      have := hl0.rd
      omega
    clock := H5.clock.trans c33
    start := by
      rcases hs5.start with e | e
      · rw [e]; exact f6
      · rw [e]; exact f5
    reads := u2
    beside := u3
    target := u4
    under := hs5.under.trans f4
    bestB := hs5.bestB.trans f2
    bestT := hs5.bestT.trans f3
    force := H5.force.trans c36
    bods := by omega }
end
end Go.Proofs.YtlhlmgfblbpdpaaGreatDoor

namespace Go.Proofs.YtlhlmgfblbpdpaaGreatDoor
set_option linter.unusedVariables false
set_option linter.unusedSimpArgs false
open Go.RowKit

/-- The answer to a Ping, if there is one. -/
theorem kanswers_X {w : World} {xb eb : Nat} {F : Nat → Prop} {x : XM} {d : Dn} {s : Nat → Sn} {N : Nat} (h : In w xb eb F x (gD x.cf d s [])) (hr : Rel N x d s) :
    Calls Tryz.prog 33 #[.pointer (some ⟨xb, 0, none⟩), .bool false] w fun e w' => e = .returned (.bool true) ∧ ∃ x3 d3, ((x3 = x ∧ d3 = d ∧ x.pn = none) ∨ (∃ q, x.pn = some q ∧ x3 = { x with pn := none } ∧ d3 = d.pong x.cf.k)) ∧ GoI w w' xb eb F x3 (gD x.cf d3 s []) ∧ Rel N x3 d3 s := by
  cases hpn : x.pn with
  | some n =>
    refine (kanswers_ping xb eb F x d s N n w h hr hpn).mono ?_
    rintro e w' ⟨rfl, hg⟩
    exact ⟨rfl, _, _, Or.inr ⟨n, rfl, rfl, rfl⟩, hg, hr.ponged hpn⟩
  | none =>
    refine (kanswers_none xb eb F x _ false w h (by simpa using hpn)).mono ?_
    rintro e w' ⟨rfl, hw⟩
    rw [hw]
    exact ⟨rfl, x, d, Or.inl ⟨rfl, rfl, rfl⟩, GoI.one h, hr⟩
set_option maxRecDepth 100000 in
set_option maxHeartbeats 3200000 in
theorem kprobed_X (xb eb : Nat) (F : Nat → Prop) (x : XM) (d : Dn) (s : Nat → Sn) (N n : Nat) (R T Bb C : Int) (w : World) (h : In w xb eb F x (gD x.cf d s [])) (hp : Prob N R T Bb x d s) (hN : N ≤ 1000) (h1 : 1 ≤ n) (hn : n ≤ 32) (hC : C = aimT x.cf.k T Bb n - 32 + R + n) :
    Calls Tryz.prog 18 #[.pointer (some ⟨xb, 0, none⟩), .int .i64 (n : Int), .int .i64 C] w fun e w' => e = .returned (.bool true) ∧ ∃ x' d' s', GoI w w' xb eb F x' (gD x'.cf d' s' []) ∧ Prob (N + 1) (R + n) (aimT x.cf.k T Bb n) (aimB x.cf.k T Bb n) x' d' s' ∧ x'.cf = x.cf := by
  obtain ⟨i0, hi, hz0, hz1, hz2⟩ := info_parts Tryz.info5
  obtain ⟨M, hM⟩ : ∃ M, M = madeCells (Value.int .u8 0).cells (((n : Nat) : Int).toNat * i0.size) := ⟨_, rfl⟩
  have hmk : ∀ W : World, (Instr.makeSlice 43 (.int .i64 (n : Int)) (.int .i64 (n : Int))).run Tryz.prog W = .ok (.slice (some ⟨W.heap.size, 0, none⟩) n n) (W.alloc (.cells M 5)) := fun W => by
    have h := run_make (P := Tryz.prog) W 43 5 i0 (.int .u8 0) Tryz.underlying43 hi hz0 .i64 .i64 (n : Int) (n : Int) (by omega) (by omega) (by rw [hz2]; omega) (by omega)
    rw [← hM] at h
    simpa using h
  have hMl : M = ((List.replicate n (0 : UInt8)).map B).toArray := by
    rw [hM, hz1]
    apply Array.ext
    · rw [size_madeCells]; simp
    · intro j h1 h2
      simp [madeCells, B, Value.cells, Nat.mod_one]
  obtain ⟨t, ht⟩ : ∃ t, t = List.replicate n (0 : UInt8) := ⟨_, rfl⟩
  have htl : t.length = n := by rw [ht, List.length_replicate]
  obtain ⟨w0, hw0⟩ : ∃ w0, w0 = w.alloc (.cells M 5) := ⟨_, rfl⟩
  have hb0 : Below w.heap.size w w0 := by rw [hw0]; exact (Below.refl _ _).alloc (Nat.le_refl _) _
  have hby : BytesIn w0 (.slice (some ⟨w.heap.size, 0, none⟩) n n) t := by
    have := bytesIn_of_owns (row_new (w := w) (l := t) (by rw [htl]; simp [maxLen]; omega)) rfl
    rw [htl, ht, ← hMl, ← hw0] at this
    rw [ht]
    exact this
  have hcv : (convert 43 9 (.slice (some ⟨w.heap.size, 0, none⟩) n n)).run Tryz.prog w0 = .ok (.string ⟨t.toArray⟩) w0 := conv_str hby
  have hcv2 : (convert 43 9 (.slice (some ⟨w.heap.size, 0, none⟩) n n)).run Tryz.prog (w.alloc (.cells M 5)) = .ok (.string ⟨t.toArray⟩) (w.alloc (.cells M 5)) := by rw [← hw0]; exact hcv
  have htk : (⟨t.toArray⟩ : ByteArray).data.toList.take 56 = t := by
    show t.toArray.toList.take 56 = t
    rw [List.take_of_length_le] <;> simp <;> omega
  have hsz : (⟨t.toArray⟩ : ByteArray).size = n := by simp [ByteArray.size, htl]
  have hfit := hp.fits (n := n) hn
  have hsn := ksends_X xb eb F x d s N 0 0 8 ⟨t.toArray⟩ 0 8 w0 (h.below hb0) hp.rel (by omega) ⟨by omega, by omega⟩ ⟨by omega, by omega⟩ (by decide) (by decide) (by omega) (by omega) (by rw [hsz]; omega)
  rw [htk] at hsn
  have hr1 := hp.rel.sent (j := 0) (t := t) (k := padK 8) (by omega) (by show t.length + 0 ≤ 64; omega) (by rw [← htl] at hfit; exact hfit)
  rw [show padK 8 = 0 from rfl] at hsn hr1
  rw [show padK 8 = 0 from rfl, ← htl] at hfit
  have HSN := hide hsn
  have HR1 := hide hr1
  have HFIT := hide hfit
  have HPR := hide hp
  have HB0 := hide hb0
  have HW0 := hide hw0
  have HC := hide hC
  have HH := hide h
  clear hsn hr1 hfit hp hb0 hw0 hby hMl hM hC h htk hsz
  have HTL := hide htl
  clear ht htl
  clear hcv
  go_enter Tryz.func18, Tryz.ntmps18
  go_wp2_with fail
  rw [← HW0.out]
  refine HSN.out.mono ?_
  rintro e w1 ⟨rfl, hg1, -⟩
  have hg1 := hg1 HFIT.out
  obtain ⟨F1, hin1, hch1, hF1⟩ := hg1.pre HB0.out
  have HT1 := hide (ktaken_X xb eb F1 _ _ _ (N + 1) w1 hin1 HR1.out (by omega))
  have HS1 : Hid (∀ w2 x2 p2, GoI w1 w2 xb eb F1 x2 p2 → GoI w w2 xb eb F x2 p2) := fun w2 x2 p2 hg => GoI.then hch1 hF1 hg
  clear hg1 hin1 hch1 hF1 hcv2 hmk
  go_wp2_with fail
  refine HT1.out.mono ?_
  rintro e w2 ⟨rfl, fs2, x2, d2, s2, hg2, ht2, hr2, hq2, hs2⟩
  obtain ⟨F2, hin2, hch2, hF2⟩ := HS1.out _ _ _ hg2
  have HA2 := hide (kanswers_X hin2 hr2)
  have HS2 : Hid (∀ w3 x3 p3, GoI w2 w3 xb eb F2 x3 p3 → GoI w w3 xb eb F x3 p3) := fun w3 x3 p3 hg => GoI.then hch2 hF2 hg
  have H2 := hide (And.intro ht2 (And.intro hr2 (And.intro hq2 hs2)))
  clear hg2 hin2 hch2 hF2 ht2 hr2 hq2 hs2
  go_wp2_with fail
  refine HA2.out.mono ?_
  rintro e w3 ⟨rfl, x3, d3, h3, hg3, hr3⟩
  have hd3 : x3.dead = false ∧ x3.cf = x2.cf := by
    have q1 : x2.dead = false := H2.out.1.heard.dead.trans HPR.out.live
    rcases h3 with ⟨rfl, -, -⟩ | ⟨q, -, rfl, -⟩
    · exact ⟨q1, rfl⟩
    · exact ⟨q1, rfl⟩
  obtain ⟨F3, hin3, hch3, hF3⟩ := HS2.out _ _ _ hg3
  have hin3' : In w3 xb eb F3 x3 (gQ x3.dead x3.cf d3 s2) := by rw [gQ_live hd3.1, hd3.2]; exact hin3
  have HR3 := hide (kreads_X (j := 0) (n := (n : Int)) hin3' hr3 (by omega) (by omega) (by omega) (by omega))
  have HS3 : Hid (∀ w4 x4 p4, GoI w3 w4 xb eb F3 x4 p4 → GoI w w4 xb eb F x4 p4) := fun w4 x4 p4 hg => GoI.then hch3 hF3 hg
  have HD3 := hide hd3
  have H3 := hide h3
  clear hg3 hin3 hin3' hch3 hF3 hr3 hd3 h3
  go_wp2_with fail
  refine HR3.out.mono ?_
  rintro e w4 ⟨rfl, m, hm, hg4, hr4⟩
  have hd4 : (x3.read 0 m).dead = false := HD3.out.1
  obtain ⟨F4, hin4, hch4, hF4⟩ := HS3.out _ _ _ hg4
  have hin4' : In w4 xb eb F4 (x3.read 0 m) (gD (x3.read 0 m).cf (d3.owes m) (readS s2 0 m) []) := by rw [gQ_live HD3.out.1] at hin4; exact hin4
  have HT4 := hide (ktaken_X xb eb F4 _ _ _ (N + 1) w4 hin4' hr4 (by omega))
  have HS4 : Hid (∀ w5 x5 p5, GoI w4 w5 xb eb F4 x5 p5 → GoI w w5 xb eb F x5 p5) := fun w5 x5 p5 hg => GoI.then hch4 hF4 hg
  have HM4 := hide hm
  clear hg4 hin4 hin4' hch4 hF4 hr4 hd4 hm
  go_wp2_with fail
  refine HT4.out.mono ?_
  rintro e w5 ⟨rfl, fs5, x5, d5, s5, hg5, ht5, hr5, hq5, hs5⟩
  have hq5' : Quiet x.cf.b d5 s5 := by
    have e1 : (x3.read 0 m).cf = x.cf := HD3.out.2.trans H2.out.1.heard.cf
    rw [e1] at hq5
    exact hq5
  have hend := prob_end HPR.out h1 hn HTL.out H2.out.1 H2.out.2.1 H2.out.2.2.1 H2.out.2.2.2 H3.out HM4.out ht5 hr5 hq5' hs5
  obtain ⟨-, hcr, hpr, hcf5⟩ := hend
  have hg5' := HS4.out _ _ _ hg5
  have HEND : Hid (∃ x' d' s', GoI w w5 xb eb F x' (gD x'.cf d' s' []) ∧ Prob (N + 1) (R + n) (aimT x.cf.k T Bb n) (aimB x.cf.k T Bb n) x' d' s' ∧ x'.cf = x.cf) := ⟨x5, d5, s5, hg5', hpr, hcf5⟩
  have y25 : w5.cell? ⟨xb, 25, none⟩ = some (.int .i64 C) := by
    obtain ⟨F5, hin5, -, -⟩ := hg5
    obtain ⟨pv, k1, -, -⟩ := hin5.xi
    rw [k1.c25, hcr, ← HC.out]
  clear hg5 hg5' ht5 hr5 hq5 hq5' hs5 hcr hpr hcf5
  go_wp2
  go_ret
  exact ⟨rfl, HEND.out⟩
end Go.Proofs.YtlhlmgfblbpdpaaGreatDoor

namespace Go.Proofs.YtlhlmgfblbpdpaaGreatDoor
set_option linter.unusedVariables false
set_option linter.unusedSimpArgs false
open Go.RowKit

theorem prob_new {cf : Cf} {x : XM} {d : Dn} {s : Nat → Sn} {fs : List Fr} (hb : cf.b = 1) (ht : TellsL 0 (xNew cf) fs x) (hr : Rel 0 x d s) (hq : Quiet cf.b d s) (hs : SameT (dNew cf) d) : Prob 0 0 cf.c 0 x d s := by
  have H := ht.heard
  rw [hb] at hq
  have hl := hr.lns 0 (by omega)
  have hbs : x.bods = 0 := H.bods
  exact {
    rel := hr
    live := H.dead
    batch := by rw [H.cf]; exact hb
    owed := hq.none hr.owd0
    owd0 := hq.none0 hl.owd0
    un0 := by
      rw [hl.un, H.text0]
      show ([] : List UInt8).drop _ = []
      simp
    clock := H.clock
    start := by
      rcases hs.start with e | e
      · exact e
      · exact e
    reads := H.reads
    beside := H.beside
    target := hs.target
    under := hs.under
    bestB := hs.bestB
    bestT := hs.bestT
    force := H.force
    bods := by rw [hr.sum]; exact hbs }
set_option maxRecDepth 100000 in
set_option maxHeartbeats 3200000 in
theorem kgrows_X (i c b k : Int) (w : World) (h : CfgOk i c b k) (hgl : Gl w) (hg : 7 ≤ w.heap.size) :
    Calls Tryz.prog 8 #[.agg #[.int .i64 i, .int .i64 c, .int .i64 b, .int .i64 k]] w fun e w' => e = .returned (.bool true) ∧ Below w.heap.size w w' := by
  have h1 := h.i0; have h2 := h.i1; have h3 := h.c0; have h4 := h.c1; have h5 := h.k0; have h6 := h.k1
  obtain ⟨r, hr⟩ : ∃ r, r = (c - 32) % 33 := ⟨_, rfl⟩
  have hr0 : 0 ≤ r ∧ r < 33 := by omega
  have hrl : r ≤ c - 32 := by rw [hr]; omega
  have hw1 : IntKind.i64.wrap (k - c) = k - c := by rw [IntKind.wrap_i64]; omega
  have hw2 : IntKind.i64.wrap (c - 32) = c - 32 := by rw [IntKind.wrap_i64]; omega
  have hrm : (c - 32).tmod 33 = r := by rw [Int.tmod_eq_emod_of_nonneg (by omega), hr]
  have hrm2 : (c - 32) % 33 = r := hr.symm
  have hw3 : IntKind.i64.wrap (32 + r) = 32 + r := by rw [IntKind.wrap_i64]; omega
  have hw4 : IntKind.i64.wrap (k - c + (32 + r)) = k - c + (32 + r) := by rw [IntKind.wrap_i64]; omega
  have hw5 : IntKind.i64.wrap r = r := by rw [IntKind.wrap_i64]; omega
  have hok : CfgOk i (32 + r) 1 (k - c + (32 + r)) := ⟨h1, h2, by omega, by omega, by omega, by omega, by omega, by omega⟩
  obtain ⟨cc, hcc⟩ : ∃ cc, cc = 32 + r := ⟨_, rfl⟩
  obtain ⟨kk, hkk⟩ : ∃ kk, kk = k - c + (32 + r) := ⟨_, rfl⟩
  obtain ⟨w0, hw0⟩ : ∃ w0, w0 = w.alloc (.cells #[.int .i64 i, .int .i64 (32 + r), .int .i64 1, .int .i64 (k - c + (32 + r))] 23) := ⟨_, rfl⟩
  have hb0 : Below w.heap.size w w0 := by rw [hw0]; exact (Below.refl _ _).alloc (Nat.le_refl _) _
  have hcf0 : w0.heap[w.heap.size]? = some (.cells #[.int .i64 i, .int .i64 cc, .int .i64 1, .int .i64 kk] 23 (0, 0)) := by rw [hw0, hcc, hkk]; exact heap_alloc_new w _
  have hc1 : 32 ≤ cc ∧ cc ≤ 64 := by omega
  rw [← hkk, ← hcc] at hok
  have HOP := hide (kopened_X ⟨i, cc, 1, kk⟩ w0 hok (hgl.below hb0) (Nat.le_trans hg hb0.size))
  have HW0 := hide hw0
  have HB0 := hide hb0
  have HCF := hide hcf0
  have HCC := hide hcc
  have HKK := hide hkk
  have hkk1 := hok.k1
  have hkk0 := hok.k0
  obtain ⟨y0, y1, y2, y3⟩ := cfgs' hcf0
  clear h hgl h1 h2 h5 h6 hok hr hr0 hrl hb0 hw0 hcf0 h3 h4
  go_enter Tryz.func8, Tryz.ntmps8
  go_upto_region 5 with fail
  rw [← HW0.out]
  go_wp2_with fail
  rw [← HKK.out, ← HCC.out]
  refine HOP.out.mono ?_
  rintro e w1 ⟨xb, eb, F, x, d, s, fs, rfl, hin, htl, hrl, hq, hsm, hxb, hb1, hF⟩
  have hpr := prob_new (cf := ⟨i, cc, 1, kk⟩) rfl htl hrl hq hsm
  have hxc : x.cf = ⟨i, cc, 1, kk⟩ := htl.heard.cf
  have hcf1 : w1.heap[w.heap.size]? = some (.cells #[.int .i64 i, .int .i64 cc, .int .i64 1, .int .i64 kk] 23 (0, 0)) := kept_told HCF.out hb1
  obtain ⟨z0, z1, z2, z3⟩ := cfgs' hcf1
  have hb1' := HB0.out.trans (hb1.mono HB0.out.size)
  have hsz0 := HB0.out.size
  -- the target
  obtain ⟨tg, htg⟩ : ∃ tg, tg = min (2 * cc) kk := ⟨_, rfl⟩
  have hT1 : aimT x.cf.k cc 0 32 = tg := by
    rw [hxc]
    show aimT kk cc 0 32 = tg
    unfold aimT
    by_cases hk : cc < kk
    · rw [if_pos ⟨hk, by omega, by omega⟩, htg]
    · rw [if_neg (fun e => hk e.1), htg]; omega
  have HP1 := hide (kprobed_X xb eb F x d s 0 32 0 cc 0 tg w1 hin hpr (by omega) (by omega) (by omega) (by rw [hT1]; omega))
  have HT1 := hide hT1
  have HXC := hide hxc
  have HB1 := hide hb1'
  have HXF : Hid (w.heap.size ≤ xb ∧ ∀ j, F j → w.heap.size ≤ j) := ⟨by omega, fun j hj => by have := hF j hj; omega⟩
  have hw6 : IntKind.i64.wrap (2 * cc) = 2 * cc := by rw [IntKind.wrap_i64]; omega
  have hw7 : IntKind.i64.wrap (tg + 1) = tg + 1 := by rw [IntKind.wrap_i64]; omega
  clear hin htl hrl hq hsm hxb hb1 hF hpr hxc hcf1 hb1' hT1 y0 y1 y2 y3
  clear hw1 hw2 hrm hrm2 hw3 hw4 hw5
  go_upto_if 38 with fail
  go_cut [5] (fun s5 wx => s5 = .int .i64 tg ∧ wx = w1)
  case first =>
    by_cases hgt : kk < 2 * cc
    · go_wp2_with fail
      go_meet
      exact ⟨by rw [htg, show min (2 * cc) kk = kk from by omega, HKK.out], rfl⟩
    · go_wp2_with fail
      go_meet
      exact ⟨by rw [htg, show min (2 * cc) kk = 2 * cc from by omega, HCC.out], rfl⟩
  case rest =>
    obtain ⟨hs5, hw5⟩ := hcut
    subst hs5
    rw [hw5]
    clear hw5
    have HTG := hide htg
    have htg1 : 32 ≤ tg := by omega
    clear htg
    go_wp2_with fail
    refine HP1.out.mono ?_
    rintro e w2 ⟨rfl, x2, d2, s2, hg2, hpr2, hcf2⟩
    rw [HT1.out] at hpr2
    obtain ⟨F2, hin2, hch2, hF2⟩ := hg2
    have hT2 : aimT x2.cf.k tg (aimB x.cf.k cc 0 32) 1 = tg := by
      unfold aimT
      rw [if_neg (fun e => by have := e.2.2; omega)]
    have HP2 := hide (kprobed_X xb eb F2 x2 d2 s2 1 1 (0 + (32 : Nat)) tg (aimB x.cf.k cc 0 32) (tg + 1) w2 hin2 hpr2 (by omega) (by omega) (by omega) (by rw [hT2]; omega))
    have hb2 : Below w.heap.size w w2 := below_of_chg HB1.out hch2 (fun j hj => by
      rcases hj with e | e
      · exact HXF.out.2 j e
      · have := HXF.out.1; omega)
    have HEND : Hid (∀ w3 x3 p3, GoI w2 w3 xb eb F2 x3 p3 → Below w.heap.size w w3) := fun w3 x3 p3 ⟨F3, _, hc, _⟩ => below_of_chg hb2 hc (fun j hj => by
      rcases hj with e | e
      · rcases hF2 j e with a | a
        · exact HXF.out.2 j a
        · have := HB1.out.size; omega
      · have := HXF.out.1; omega)
    clear hin2 hch2 hF2 hpr2 hcf2 hT2 hb2 z0 z1 z2 z3
    go_wp2_with fail
    refine HP2.out.mono ?_
    rintro e w3 ⟨rfl, x3, d3, s3, hg3, -, -⟩
    have HB3 := hide (HEND.out _ _ _ hg3)
    clear hg3
    go_wp2
    go_ret
    exact ⟨rfl, HB3.out⟩
end Go.Proofs.YtlhlmgfblbpdpaaGreatDoor

namespace Go.Proofs.YtlhlmgfblbpdpaaGreatDoor
set_option linter.unusedVariables false
set_option linter.unusedSimpArgs false
open Go.RowKit

set_option maxRecDepth 100000 in
set_option maxHeartbeats 1600000 in
theorem tuned_all (x0 x1 x2 x3 : Int) (sv : Option Addr) (scap : Nat) (l : List Mv) (w : World) (h0 : I64 x0) (h1 : I64 x1) (h2 : I64 x2) (h3 : I64 x3) (hsc : Script w (.slice sv l.length scap) l) (hl : l.length ≤ 4503599627370496) (hvl : ∀ j, (Value.slice sv l.length scap).ownBlock = some j → 0 < l.length → j < w.heap.size) (hgl : Gl w) (hg : 7 ≤ w.heap.size) :
    Calls Tryz.prog 4 #[.agg #[.int .i64 x0, .int .i64 x1, .int .i64 x2, .int .i64 x3], .slice sv l.length scap] w fun e w' => e = .returned (.bool true) ∧ Below w.heap.size w w' := by
  obtain ⟨w0, hw0⟩ : ∃ w0, w0 = w.alloc (.cells #[.int .i64 x0, .int .i64 x1, .int .i64 x2, .int .i64 x3] 23) := ⟨_, rfl⟩
  have hcf : w0.heap[w.heap.size]? = some (.cells #[.int .i64 x0, .int .i64 x1, .int .i64 x2, .int .i64 x3] 23 (0, 0)) := by rw [hw0]; exact heap_alloc_new w _
  have hb0 : Below w.heap.size w w0 := by rw [hw0]; exact (Below.refl _ _).alloc (Nat.le_refl _) _
  obtain ⟨y0, y1, y2, y3⟩ := cfgs' hcf
  have HTC := hide (tameConfig_any x0 x1 x2 x3 w0 h0 h1 h2 h3)
  have HB0 := hide hb0
  have HCF := hide hcf
  have HW0 := hide hw0
  have HGL := hide hgl
  have HSC := hide hsc
  have HVL := hide hvl
  clear hcf hb0 hw0 hgl hsc hvl h0 h1 h2 h3
  go_enter Tryz.func4, Tryz.ntmps4
  go_upto_region 1 with fail
  rw [← HW0.out]
  go_wp2_with fail
  refine HTC.out.mono ?_
  rintro e w1 ⟨i, c, b, k, rfl, hok, hb1⟩
  have hcf1 := kept_told HCF.out hb1
  obtain ⟨z0, z1, z2, z3⟩ := cfgs' hcf1
  have f0 : ∀ o, w1.frozen? ⟨w.heap.size, o, none⟩ = false := fun o => by simp [World.frozen?, hcf1]
  have g0 := f0 0
  have g1 := f0 1
  have g2 := f0 2
  have g3 := f0 3
  clear f0
  obtain ⟨w2, hw2⟩ : ∃ w2, w2 = ((((w1.setCell ⟨w.heap.size, 0, none⟩ (.int .i64 i)).setCell ⟨w.heap.size, 1, none⟩ (.int .i64 c)).setCell ⟨w.heap.size, 2, none⟩ (.int .i64 b)).setCell ⟨w.heap.size, 3, none⟩ (.int .i64 k)) := ⟨_, rfl⟩
  have hcf2 : w2.heap[w.heap.size]? = some (.cells #[.int .i64 i, .int .i64 c, .int .i64 b, .int .i64 k] 23 (0, 0)) := by
    rw [hw2, blk_set (blk_set (blk_set (blk_set hcf1)))]
    rfl
  have hc2 : Chg (fun j => j = w.heap.size) w1 w2 := by rw [hw2]; exact chg_set (chg_set (chg_set (chg_set (Chg.refl _ _) rfl) rfl) rfl) rfl
  have hb1' := HB0.out.trans (hb1.mono HB0.out.size)
  have hb2 : Below w.heap.size w w2 := below_of_chg hb1' hc2 (fun j hj => by omega)
  obtain ⟨q0, q1, q2, q3⟩ := cfgs' hcf2
  have HOP := hide (kopened_X ⟨i, c, b, k⟩ w2 hok (HGL.out.below hb2) (Nat.le_trans hg hb2.size))
  have HOK := hide hok
  have HB2 := hide hb2
  have HCF2 := hide hcf2
  have HW2 := hide hw2
  clear hb1 hcf1 hw2 hcf2 hc2 hb1' hb2 hok y0 y1 y2 y3
  go_upto_region 2 with fail
  rw [← HW2.out]
  clear z0 z1 z2 z3 g0 g1 g2 g3
  go_wp2_with fail
  refine HOP.out.mono ?_
  rintro e w3 ⟨xb, eb, F, x, d, s, fs, rfl, hin, htl, hr, -, -, hxb, hb3, hF⟩
  have hdd : x.dead = false := htl.dead
  have hb3' := HB2.out.trans (hb3.mono HB2.out.size)
  have hsz := HB2.out.size
  have hcl : w.heap.size < w2.heap.size := lt_of_block HCF2.out
  have hcf3 := kept_told HCF2.out hb3
  have HPL := hide (kplayed_X xb eb F x d s 0 sv scap l w3 (by rw [gQ_live hdd]; exact hin) hr (by omega) (HSC.out.chg (Chg.of_below (S := fun _ => False) hb3') (fun _ _ _ => id)) (fun j hj h0 e => by
    have h1 := HVL.out j hj h0
    rcases e with e | e
    · have := hF j e; omega
    · omega))
  have HEND : Hid (∀ w4 x4 p4, GoI w3 w4 xb eb F x4 p4 → Below w.heap.size w w4 ∧ w4.heap[w.heap.size]? = some (.cells #[.int .i64 i, .int .i64 c, .int .i64 b, .int .i64 k] 23 (0, 0)) ∧ w4.cell? ⟨xb, 32, none⟩ = some (.bool true) ∧ ∃ pv, XI w4 xb (.pointer (some ⟨eb, 0, none⟩)) x4 pv) := fun w4 x4 p4 ⟨F4, hin4, hc, _⟩ => by
    refine ⟨below_of_chg hb3' hc (fun j hj => ?_), ?_, ?_⟩
    · rcases hj with e | e
      · have := hF j e; omega
      · omega
    · rw [hc.block _ (Nat.lt_of_lt_of_le hcl hb3.size) (fun e => by
        rcases e with e | e
        · have := hF _ e; omega
        · omega)]
      exact hcf3
    · obtain ⟨pv, k1, -, -⟩ := hin4.xi
      exact ⟨k1.c32, pv, k1⟩
  clear hin htl hr hxb hb3 hb3' hF hdd hsz hcl hcf3 q0 q1 q2 q3
  go_wp2_with fail
  refine HPL.out.mono ?_
  intro e w4 hp
  have he := hp.ret
  subst he
  obtain ⟨-, x4, p4, hg4⟩ := hp
  obtain ⟨hb4, hcf4, hbd4, pv, hx4⟩ := HEND.out _ _ _ hg4
  obtain ⟨q0, q1, q2, q3⟩ := cfgs' hcf4
  have HGR := hide (kgrows_X i c b k w4 HOK.out (HGL.out.below hb4) (Nat.le_trans hg hb4.size))
  have HB4 := hide hb4
  have HX4 := hide hx4
  clear hg4 hb4 hcf4 hbd4 hx4
  go_wp2_with fail
  refine HGR.out.mono ?_
  rintro e w5 ⟨rfl, hb5⟩
  have u32 : w5.cell? ⟨xb, 32, none⟩ = some (.bool true) := (HX4.out.below hb5).c32
  have HB5 := hide (HB4.out.trans (hb5.mono HB4.out.size))
  clear hb5 q0 q1 q2 q3
  go_wp2
  go_ret
  exact ⟨rfl, HB5.out⟩
end Go.Proofs.YtlhlmgfblbpdpaaGreatDoor
