import Derived.Test.YtlhlmgfblbpdpaaGreatDoorWGaq
import Derived.Test.YtlhlmgfblbpdpaaGreatDoorWGan
import Derived.Test.YtlhlmgfblbpdpaaGreatDoorWGaw
import Derived.Test.YtlhlmgfblbpdpaaGreatDoorWGay
import Derived.Test.YtlhlmgfblbpdpaaGreatDoorWRcSends
import Derived.Test.YtlhlmgfblbpdpaaGreatDoorWRcTaken3
import Derived.Test.YtlhlmgfblbpdpaaGreatDoorWGac
import Derived.Test.YtlhlmgfblbpdpaaGreatDoorTie
import Derived.Deep.Slices
import Derived.SizedLaws
import Derived.ShutString
import Derived.ChangeMaps5
import Derived.Lib.SmallJoins
import Derived.ProofKit
import Derived.LaidMore
import Derived.OpenShut
import Derived.ChangeOld
import Derived.JoinedCond
import Derived.WalkKit
set_option linter.unusedVariables false
set_option linter.unusedSimpArgs false
/-
  Set and Tick on an end that lives.
-/
namespace Go.Proofs.YtlhlmgfblbpdpaaGreatDoor
set_option linter.unusedVariables false
set_option linter.unusedSimpArgs false
open Go.RowKit

set_option maxHeartbeats 800000 in
theorem xSet_ok (eb : Nat) (m : EndM) (n : Int) (w : World) (h : EnB w eb m) (hd : m.fault = 0) (hn : 0 ≤ n ∧ n ≤ 1000) :
    Calls Tryz.prog 31 #[.pointer (some ⟨eb, 0, none⟩), .int .i64 n] w fun e w' => e = .returned (.int .i64 0) ∧ EnB w' eb (m.wants n) ∧ Chg (fun j => j = eb) w w' := by
  have hs := eSet_any eb m n w h
  have h7 : m.setCode n = 0 := by unfold EndM.setCode withinB; rw [if_neg (by simp [hd]), if_pos (by simp; omega)]
  rw [h7] at hs
  simp only [if_true] at hs
  have HC := hide hs
  clear h hd hs h7
  go_enter Tryz.func31, Tryz.ntmps31
  go_wp2_with fail
  refine HC.out.mono ?_
  rintro e w' ⟨rfl, hx⟩
  have HX := hide hx
  clear hx
  go_wp2
  go_ret
  exact ⟨rfl, HX.out⟩
set_option maxHeartbeats 800000 in
theorem xTick_ok (eb : Nat) (m : EndM) (n : Int) (w : World) (h : EnB w eb m) (hc1 : 0 ≤ m.clock) (hc2 : m.clock ≤ 1000000) (h0 : 0 ≤ n) (h1 : n ≤ 1000000 - m.clock) :
    Calls Tryz.prog 32 #[.pointer (some ⟨eb, 0, none⟩), .int .i64 n] w fun e w' => e = .returned (.int .i64 0) ∧ EnB w' eb (m.tickd n) ∧ Chg (fun j => j = eb) w w' := by
  have HC := hide (eTick_ok eb m n w h hc1 hc2 h0 h1)
  clear h hc1 hc2 h0 h1
  go_enter Tryz.func32, Tryz.ntmps32
  go_wp2_with fail
  refine HC.out.mono ?_
  rintro e w' ⟨rfl, hx⟩
  have HX := hide hx
  clear hx
  go_wp2
  go_ret
  exact ⟨rfl, HX.out⟩
section
variable {w : World} {eb : Nat} {F : Nat → Prop} {p : GEnd}
theorem c_set {n : Int} (h : StE w eb F p) (hd : p.m.fault = 0) (hn : 0 ≤ n ∧ n ≤ 1000) :
    Calls Tryz.prog 31 #[.pointer (some ⟨eb, 0, none⟩), .int .i64 n] w fun e w' => e = .returned (.int .i64 0) ∧ GoE w w' eb F { p with m := p.m.wants n } := by
  obtain ⟨mb, g, hi, hr, hp, hF⟩ := h
  refine (xSet_ok eb g.m n w hi.en (by rw [← hp] at hd; exact hd) hn).mono ?_
  rintro e w' ⟨rfl, h1, h2⟩
  exact ⟨rfl, GoE.of hF (hi.onM h2 h1 rfl rfl rfl rfl rfl rfl) ⟨hr.got, hr.head⟩ (by rw [← hp]; rfl)⟩
theorem c_tick {n : Int} (h : StE w eb F p) (hc1 : 0 ≤ p.m.clock) (hc2 : p.m.clock ≤ 1000000) (h0 : 0 ≤ n) (h1 : n ≤ 1000000 - p.m.clock) :
    Calls Tryz.prog 32 #[.pointer (some ⟨eb, 0, none⟩), .int .i64 n] w fun e w' => e = .returned (.int .i64 0) ∧ GoE w w' eb F { p with m := p.m.tickd n } := by
  obtain ⟨mb, g, hi, hr, hp, hF⟩ := h
  have e : g.m.clock = p.m.clock := by rw [← hp]; rfl
  refine (xTick_ok eb g.m n w hi.en (by rw [e]; exact hc1) (by rw [e]; exact hc2) h0 (by rw [e]; exact h1)).mono ?_
  rintro e w' ⟨rfl, h1, h2⟩
  exact ⟨rfl, GoE.of hF (hi.onM h2 h1 rfl rfl rfl rfl rfl rfl) ⟨hr.got, hr.head⟩ (by rw [← hp]; rfl)⟩
end
end Go.Proofs.YtlhlmgfblbpdpaaGreatDoor
/-
  Receive: the law's moves.
-/
namespace Go.Proofs.YtlhlmgfblbpdpaaGreatDoor
set_option linter.unusedVariables false
set_option linter.unusedSimpArgs false
open Go.RowKit

theorem pkI_nat (c : Int) {n : Int} (hn : 0 < n) : ∃ k : Nat, pkI c n = k ∧ (k : Int) < n := by
  unfold pkI
  split
  · next h =>
    have := kpick_neg h hn
    exact ⟨(-(c + 1).tmod n).toNat, by omega, by omega⟩
  · have h1 := Int.emod_nonneg c (show n ≠ 0 by omega)
    have h2 := Int.emod_lt_of_pos c hn
    exact ⟨(c % n).toNat, by omega, by omega⟩
theorem gQ_live {b : Bool} {cf : Cf} {d : Dn} {s : Nat → Sn} (h : b = false) : gQ b cf d s = gD cf d s [] := by rw [h]; rfl
theorem gQ_dead {b : Bool} {cf : Cf} {d : Dn} {s : Nat → Sn} (h : b = true) : gQ b cf d s = (gD cf d s []).died 12 := by rw [h, died_gD]; rfl
theorem Rel.dead {N : Nat} {x : XM} {d : Dn} {s : Nat → Sn} (h : Rel N x d s) : Rel N { x with dead := true } d s := { h with }
/-- How a move ends. -/
def Moved (w w' : World) (xb eb : Nat) (F : Nat → Prop) (N : Nat) (cf : Cf) (e : Ending) : Prop := e = .returned (.bool true) ∧ ∃ x' d' s', GoI w w' xb eb F x' (gQ x'.dead x'.cf d' s') ∧ Rel N x' d' s' ∧ x'.cf = cf
theorem TellsL.dead {N : Nat} {x y : XM} {fs : List Fr} (h : TellsL N x fs y) : y.dead = x.dead := by
  induction h using TellsL.ind with
  | nil => rfl
  | cons _ h1 _ ih =>
    rw [ih]
    cases h1 using Tells.ind <;> rfl
section
variable {w : World} {xb eb : Nat} {F : Nat → Prop} {x : XM} {d : Dn} {s : Nat → Sn} {N : Nat}
theorem taken_moved (h : In w xb eb F x (gD x.cf d s [])) (hx : x.dead = false) (hr : Rel N x d s) (hN : N ≤ 9007199254740991) :
    Calls Tryz.prog 12 #[.pointer (some ⟨xb, 0, none⟩)] w fun e w' => Moved w w' xb eb F (N + 1) x.cf e := by
  refine (ktaken_X xb eb F x d s N w h hr (by omega)).mono ?_
  rintro e w' ⟨rfl, fs, x', d', s', hg, ht, hr', -, -⟩
  refine ⟨rfl, x', d', s', ?_, hr'.mono (by omega), ht.cf.1⟩
  rw [gQ_live (ht.dead.trans hx)]
  exact hg
theorem sends_moved {mk ms mn : Int} {S : ByteArray} (h : In w xb eb F x (gD x.cf d s [])) (hx : x.dead = false) (hr : Rel N x d s) (hN : N ≤ 9007199254740991) (hms : I64 ms) (hmn : I64 mn) (hSl : S.size ≤ 1152921504606846976) :
    Calls Tryz.prog 30 #[.pointer (some ⟨xb, 0, none⟩), .agg #[.int .i64 mk, .int .i64 ms, .int .i64 mn, .string S]] w fun e w' => Moved w w' xb eb F (N + 1) x.cf e := by
  obtain ⟨j, hj, hj4⟩ := pkI_nat ms (n := 4) (by omega)
  obtain ⟨p, hp, hp16⟩ := pkI_nat mn (n := 16) (by omega)
  refine (ksends_X xb eb F x d s N mk ms mn S j p w h hr (by omega) hms hmn hj hp (by omega) (by omega) hSl).mono ?_
  rintro e w' ⟨rfl, h1, h2⟩
  refine ⟨rfl, ?_⟩
  by_cases hf : Fits d s j ((S.data.toList.take 56).length + padK p)
  · have hk : padK p ≤ 8 := by unfold padK; split <;> omega
    have hl : (S.data.toList.take 56).length ≤ 56 := by rw [List.length_take]; omega
    refine ⟨_, _, _, ?_, hr.sent (j := j) (t := S.data.toList.take 56) (k := padK p) (by omega) (by omega) hf, rfl⟩
    rw [gQ_live (show (x.sent j (S.data.toList.take 56) ((S.data.toList.take 56).length + padK p)).dead = false from hx)]
    exact h1 hf
  · refine ⟨{ x with dead := true }, d, s, ?_, (hr.dead).mono (by omega), rfl⟩
    rw [gQ_dead rfl]
    exact h2 hf
theorem answers_moved (b : Bool) (h : In w xb eb F x (gD x.cf d s [])) (hx : x.dead = false) (hr : Rel N x d s) :
    Calls Tryz.prog 33 #[.pointer (some ⟨xb, 0, none⟩), .bool b] w fun e w' => Moved w w' xb eb F (N + 1) x.cf e := by
  have hsame : ∀ w', w' = w → Moved w w' xb eb F (N + 1) x.cf (.returned (.bool true)) := fun w' e => by
    subst e
    refine ⟨rfl, x, d, s, ?_, hr.mono (by omega), rfl⟩
    rw [gQ_live hx]
    exact GoI.one h
  cases b with
  | true =>
    cases hwt : x.waits with
    | true =>
      refine (kanswers_set xb eb F x d s N w h hr hwt).mono ?_
      rintro e w' ⟨rfl, hg⟩
      refine ⟨rfl, _, _, _, ?_, (hr.acked).mono (by omega), rfl⟩
      rw [gQ_live (show ({ x with waits := false, force := x.told } : XM).dead = false from hx)]
      exact hg
    | false =>
      refine (kanswers_none xb eb F x _ true w h (by simpa using hwt)).mono ?_
      rintro e w' ⟨rfl, hw⟩
      exact hsame w' hw
  | false =>
    cases hpn : x.pn with
    | some n =>
      refine (kanswers_ping xb eb F x d s N n w h hr hpn).mono ?_
      rintro e w' ⟨rfl, hg⟩
      refine ⟨rfl, _, _, _, ?_, (hr.ponged hpn).mono (by omega), rfl⟩
      rw [gQ_live (show ({ x with pn := none } : XM).dead = false from hx)]
      exact hg
    | none =>
      refine (kanswers_none xb eb F x _ false w h (by simpa using hpn)).mono ?_
      rintro e w' ⟨rfl, hw⟩
      exact hsame w' hw
theorem reads_moved {j : Nat} {n : Int} (h : In w xb eb F x (gD x.cf d s [])) (hx : x.dead = false) (hr : Rel N x d s) (hN : N ≤ 9007199254740991) (hj : j < 4) (hn : 0 ≤ n) (hn2 : n ≤ 1099511627776) :
    Calls Tryz.prog 16 #[.pointer (some ⟨xb, 0, none⟩), .int .i64 (j : Int), .int .i64 n] w fun e w' => Moved w w' xb eb F (N + 1) x.cf e := by
  refine (kreads_X (n := n) (by rw [gQ_live hx]; exact h) hr (by omega) hj hn hn2).mono ?_
  rintro e w' ⟨rfl, m, -, hg, hr'⟩
  exact ⟨rfl, _, _, _, hg, hr'.mono (by omega), rfl⟩
theorem set_moved {n : Int} (h : In w xb eb F x (gD x.cf d s [])) (hx : x.dead = false) (hr : Rel N x d s) (hn : 0 ≤ n) (hn2 : n ≤ 1000) :
    Calls Tryz.prog 31 #[.pointer (some ⟨eb, 0, none⟩), .int .i64 n] w fun e w' => e = .returned (.int .i64 0) ∧ Moved w w' xb eb F (N + 1) x.cf (.returned (.bool true)) := by
  refine (c_set (n := n) h.st rfl ⟨hn, hn2⟩).mono ?_
  rintro e w' ⟨rfl, hg⟩
  refine ⟨rfl, rfl, x, { d with wanted := n }, s, ?_, (hr.wants hn hn2).mono (by omega), rfl⟩
  rw [gQ_live hx]
  exact h.ends hg
theorem Moved.pre {w w1 w' : World} {cf : Cf} {e : Ending} (hb : Below w.heap.size w w1) (h : Moved w1 w' xb eb F N cf e) : Moved w w' xb eb F N cf e := by
  obtain ⟨h1, x', d', s', h2, h3⟩ := h
  exact ⟨h1, x', d', s', h2.pre hb, h3⟩
theorem Moved.ret {w w' : World} {cf : Cf} {e : Ending} (h : Moved w w' xb eb F N cf e) : e = .returned (.bool true) := h.1
end
end Go.Proofs.YtlhlmgfblbpdpaaGreatDoor
/-
  Receive: the law's moves: the walk.
-/
namespace Go.Proofs.YtlhlmgfblbpdpaaGreatDoor
set_option linter.unusedVariables false
set_option linter.unusedSimpArgs false
open Go.RowKit

set_option maxRecDepth 100000 in
set_option maxHeartbeats 6400000 in
theorem kmoves_X (xb eb : Nat) (F : Nat → Prop) (x : XM) (d : Dn) (s : Nat → Sn) (N : Nat) (mk ms mn : Int) (S : ByteArray) (w : World) (h : In w xb eb F x (gD x.cf d s [])) (hx : x.dead = false) (hr : Rel N x d s) (hN : N ≤ 9007199254740991) (hmk : I64 mk) (hms : I64 ms) (hmn : I64 mn) (hSl : S.size ≤ 1152921504606846976) :
    Calls Tryz.prog 14 #[.pointer (some ⟨xb, 0, none⟩), .agg #[.int .i64 mk, .int .i64 ms, .int .i64 mn, .string S]] w fun e w' => Moved w w' xb eb F (N + 1) x.cf e := by
  obtain ⟨w0, hw0⟩ : ∃ w0, w0 = w.alloc (.cells #[.int .i64 mk, .int .i64 ms, .int .i64 mn, .string S] 49) := ⟨_, rfl⟩
  have hmv : w0.heap[w.heap.size]? = some (.cells #[.int .i64 mk, .int .i64 ms, .int .i64 mn, .string S] 49 (0, 0)) := by rw [hw0]; exact heap_alloc_new w _
  have hb0 : Below w.heap.size w w0 := by rw [hw0]; exact (Below.refl _ _).alloc (Nat.le_refl _) _
  have y0 : w0.cell? ⟨w.heap.size, 0, none⟩ = some (.int .i64 mk) := by rw [cell_of_row _ _ _ _ _ _ hmv]; rfl
  have y1 : w0.cell? ⟨w.heap.size, 1, none⟩ = some (.int .i64 ms) := by rw [cell_of_row _ _ _ _ _ _ hmv]; rfl
  have y2 : w0.cell? ⟨w.heap.size, 2, none⟩ = some (.int .i64 mn) := by rw [cell_of_row _ _ _ _ _ _ hmv]; rfl
  have y3 : w0.cell? ⟨w.heap.size, 3, none⟩ = some (.string S) := by rw [cell_of_row _ _ _ _ _ _ hmv]; rfl
  have hin := h.below hb0
  have hd0 : Below w0.heap.size w0 w0.drew := Below.drew (Below.refl _ _)
  have hind := hin.below hd0
  obtain ⟨pv, k1, k2, k3⟩ := hin.xi
  have x0 : w0.cell? ⟨xb, 0, none⟩ = some (.pointer (some ⟨eb, 0, none⟩)) := k1.c0
  have x31 : w0.cell? ⟨xb, 31, none⟩ = some (.int .i64 x.clock) := k1.c31
  have f31 := k1.fr 31
  obtain ⟨kk, hkk, hkl⟩ := pkI_nat mk (n := 8) (by omega)
  have hpk := fun W => kpick_fun mk 8 W (by omega) hmk
  rw [hkk] at hpk
  have HPK := hide hpk
  have HB0 := hide hb0
  have HW0 := hide hw0
  have hcl := hr.clk0
  have hcl1 := hr.clk1
  have HBD : Hid (Below w.heap.size w w0.drew) := hb0.drew
  have hkc : kk = 0 ∨ kk = 1 ∨ kk = 2 ∨ kk = 3 ∨ kk = 4 ∨ kk = 5 ∨ kk = 6 ∨ kk = 7 := by omega
  clear hpk hb0 hw0 hmv hkk hkl hd0
  rcases hkc with rfl | rfl | rfl | rfl | rfl | rfl | rfl | rfl
  rotate_left 3
  · -- reads
    obtain ⟨j, hj, hj4⟩ := pkI_nat ms (n := 4) (by omega)
    obtain ⟨n, hn, hn1⟩ := pkI_nat mn (n := 100) (by omega)
    have hp1 := fun W => kpick_fun ms 4 W (by omega) hms
    rw [hj] at hp1
    have hp2 := fun W => kpick_fun mn 100 W (by omega) hmn
    rw [hn] at hp2
    have HP1 := hide hp1
    have HP2 := hide hp2
    have HC := hide (reads_moved (j := j) (n := (n : Int)) hind hx hr hN (by omega) (by omega) (by omega))
    clear h hin hind k1 k2 k3 hr hp1 hp2 hj hn x31 f31 hcl hcl1 hSl y3 hmk hms hmn
    go_enter Tryz.func14, Tryz.ntmps14
    go_upto_region 1 with fail
    rw [← HW0.out]
    go_wp2_with fail
    refine (HPK.out _).mono ?_
    rintro e w' ⟨rfl, hw'⟩
    rw [hw']
    clear hw' w'
    go_upto_region 7 with fail
    go_region_law (first
      | (refine step_call rfl 13 Tryz.f13 Tryz.func13 (by kernel_rfl) rfl [.tmp 22, .const (.int .i64 4)] #[3, 3] rfl [.int .i64 ms, .int .i64 4] (by simp [Act.eval, Act.put]) (HP1.out _) ?_; rintro e w' ⟨rfl, hw'⟩; refine ⟨_, rfl, ?_⟩; rw [hw']; clear hw' w')
      | (refine step_call rfl 13 Tryz.f13 Tryz.func13 (by kernel_rfl) rfl [.tmp 25, .const (.int .i64 100)] #[3, 3] rfl [.int .i64 mn, .int .i64 100] (by simp [Act.eval, Act.put]) (HP2.out _) ?_; rintro e w' ⟨rfl, hw'⟩; refine ⟨_, rfl, ?_⟩; rw [hw']; clear hw' w')
      | (refine step_call rfl 16 Tryz.f16 Tryz.func16 (by kernel_rfl) rfl [.tmp 20, .tmp 23, .tmp 26] #[25, 3, 3] rfl [.pointer (some ⟨xb, 0, none⟩), .int .i64 (j : Int), .int .i64 (n : Int)] (by simp [Act.eval, Act.put]) HC.out ?_; intro e w2 hm; have he := hm.ret; subst he; refine ⟨_, rfl, ?_⟩; have HM := hide hm; clear hm))
    all_goals go_wp2
    all_goals go_ret
    all_goals exact HM.out.pre HBD.out
  · -- taken
    have HC := hide (taken_moved hin hx hr hN)
    clear h hin hind k1 k2 k3 hr x31 f31 hcl hcl1 hSl y3 hmk hms hmn
    go_enter Tryz.func14, Tryz.ntmps14
    go_upto_region 1 with fail
    rw [← HW0.out]
    go_wp2_with fail
    refine (HPK.out _).mono ?_
    rintro e w' ⟨rfl, hw'⟩
    rw [hw']
    clear hw' w'
    go_wp2_with fail
    refine HC.out.mono ?_
    intro e w2 hm
    have he := hm.ret
    subst he
    have HM := hide hm
    clear hm
    go_wp2
    go_ret
    exact HM.out.pre HB0.out
  · -- Set
    obtain ⟨n, hn, hn1⟩ := pkI_nat mn (n := 1001) (by omega)
    have hp2 := fun W => kpick_fun mn 1001 W (by omega) hmn
    rw [hn] at hp2
    have HP2 := hide hp2
    have HC := hide (set_moved (n := (n : Int)) hind hx hr (by omega) (by omega))
    clear h hin hind k1 k2 k3 hr hp2 hn x31 f31 hcl hcl1 hSl y3 hmk hms hmn
    go_enter Tryz.func14, Tryz.ntmps14
    go_upto_region 1 with fail
    rw [← HW0.out]
    go_wp2_with fail
    refine (HPK.out _).mono ?_
    rintro e w' ⟨rfl, hw'⟩
    rw [hw']
    clear hw' w'
    go_upto_region 11 with fail
    go_region_law (first
      | (refine step_call rfl 13 Tryz.f13 Tryz.func13 (by kernel_rfl) rfl [.tmp 39, .const (.int .i64 1001)] #[3, 3] rfl [.int .i64 mn, .int .i64 1001] (by simp [Act.eval, Act.put]) (HP2.out _) ?_; rintro e w' ⟨rfl, hw'⟩; refine ⟨_, rfl, ?_⟩; rw [hw']; clear hw' w')
      | (refine step_call rfl 31 Tryz.f31 Tryz.func31 (by kernel_rfl) rfl [.tmp 37, .tmp 40] #[32, 3] rfl [.pointer (some ⟨eb, 0, none⟩), .int .i64 (n : Int)] (by simp [Act.eval, Act.put]) HC.out ?_; rintro e w2 ⟨rfl, hm⟩; refine ⟨_, rfl, ?_⟩; have HM := hide hm; clear hm))
    all_goals go_wp2
    all_goals go_ret
    all_goals exact HM.out.pre HBD.out
  · -- Tick
    obtain ⟨n, hn, hn1⟩ := pkI_nat mn (n := 50) (by omega)
    have hp2 := fun W => kpick_fun mn 50 W (by omega) hmn
    rw [hn] at hp2
    have HP2 := hide hp2
    have hw1 : IntKind.i64.wrap (1000000 - x.clock) = 1000000 - x.clock := by rw [IntKind.wrap_i64]; omega
    have hw2 : IntKind.i64.wrap (x.clock + (n : Int)) = x.clock + (n : Int) := by rw [IntKind.wrap_i64]; omega
    by_cases hgt : 1000000 - x.clock < (n : Int)
    · have HM : Hid (Moved w w0 xb eb F (N + 1) x.cf (.returned (.bool true))) := by
        refine Moved.pre HB0.out ⟨rfl, x, d, s, ?_, hr.mono (by omega), rfl⟩
        rw [gQ_live hx]
        exact GoI.one hin
      clear h hin hind k1 k2 k3 hr hp2 hn hSl y3 hmk hms hmn
      go_enter Tryz.func14, Tryz.ntmps14
      go_upto_region 1 with fail
      rw [← HW0.out]
      go_wp2_with fail
      refine (HPK.out _).mono ?_
      rintro e w' ⟨rfl, hw'⟩
      rw [hw']
      clear hw' w'
      go_wp2_with fail
      refine (HP2.out _).mono ?_
      rintro e w' ⟨rfl, hw'⟩
      rw [hw']
      clear hw' w'
      go_wp2
      go_ret
      exact HM.out
    · have k4 : XI (w0.setCell ⟨xb, 31, none⟩ (.int .i64 (x.clock + (n : Int)))) xb (.pointer (some ⟨eb, 0, none⟩)) { x with clock := x.clock + (n : Int) } pv := k1.set (by simp [XM.cells])
      have hc4 : Chg (fun j => j = xb) w0 (w0.setCell ⟨xb, 31, none⟩ (.int .i64 (x.clock + (n : Int)))) := chg_set (Chg.refl _ _) rfl
      obtain ⟨F2, hin2, hch2, hF2⟩ := hin.write hc4 k4 k2 k3
      have hcd := hr.clk
      have HC : Hid (Calls Tryz.prog 32 #[.pointer (some ⟨eb, 0, none⟩), .int .i64 (n : Int)] (w0.setCell ⟨xb, 31, none⟩ (.int .i64 (x.clock + (n : Int)))) fun e w' => e = .returned (.int .i64 0) ∧ Moved w w' xb eb F (N + 1) x.cf (.returned (.bool true))) := by
        refine (c_tick (n := (n : Int)) hin2.st (by show 0 ≤ d.clock; omega) (by show d.clock ≤ 1000000; omega) (by omega) (by show (n : Int) ≤ 1000000 - d.clock; omega)).mono ?_
        rintro e w' ⟨rfl, hg⟩
        refine ⟨rfl, Moved.pre HB0.out ⟨rfl, { x with clock := x.clock + (n : Int) }, { d with clock := d.clock + (n : Int) }, s, ?_, (hr.ticked (by omega) (by omega)).mono (by omega), rfl⟩⟩
        rw [gQ_live (show ({ x with clock := x.clock + (n : Int) } : XM).dead = false from hx)]
        exact GoI.then hch2 hF2 (hin2.ends hg)
      have z0 : (w0.setCell ⟨xb, 31, none⟩ (.int .i64 (x.clock + (n : Int)))).cell? ⟨xb, 0, none⟩ = some (.pointer (some ⟨eb, 0, none⟩)) := k4.c0
      clear h hin hind k1 k2 k3 hr hp2 hn hSl y3 hmk hms hmn k4 hc4 hin2 hch2 hF2 hcd
      go_enter Tryz.func14, Tryz.ntmps14
      go_upto_region 1 with fail
      rw [← HW0.out]
      go_wp2_with fail
      refine (HPK.out _).mono ?_
      rintro e w' ⟨rfl, hw'⟩
      rw [hw']
      clear hw' w'
      go_wp2_with fail
      refine (HP2.out _).mono ?_
      rintro e w' ⟨rfl, hw'⟩
      rw [hw']
      clear hw' w'
      go_wp2_with fail
      refine HC.out.mono ?_
      rintro e w2 ⟨rfl, hm⟩
      have HM := hide hm
      clear hm
      go_wp2
      go_ret
      exact HM.out
  · -- answers
    obtain ⟨j, hj, hj4⟩ := pkI_nat ms (n := 2) (by omega)
    have hp1 := fun W => kpick_fun ms 2 W (by omega) hms
    rw [hj] at hp1
    have HP1 := hide hp1
    have HC : Hid (∀ b, Calls Tryz.prog 33 #[.pointer (some ⟨xb, 0, none⟩), .bool b] w0 fun e w' => Moved w0 w' xb eb F (N + 1) x.cf e) := fun b => answers_moved b hin hx hr
    clear h hin hind k1 k2 k3 hr hp1 hj x31 f31 hcl hcl1 hSl y3 hmk hms hmn
    go_enter Tryz.func14, Tryz.ntmps14
    go_upto_region 1 with fail
    rw [← HW0.out]
    go_wp2_with fail
    refine (HPK.out _).mono ?_
    rintro e w' ⟨rfl, hw'⟩
    rw [hw']
    clear hw' w'
    go_wp2_with fail
    refine (HP1.out _).mono ?_
    rintro e w' ⟨rfl, hw'⟩
    rw [hw']
    clear hw' w'
    go_wp2_with fail
    refine (HC.out _).mono ?_
    intro e w2 hm
    have he := hm.ret
    subst he
    have HM := hide hm
    clear hm
    go_wp2
    go_ret
    exact HM.out.pre HB0.out
  all_goals
    have HC := hide (sends_moved (mk := mk) hin hx hr hN hms hmn hSl)
    clear h hin hind k1 k2 k3 hr x31 f31 hcl hcl1 hSl hmk hms hmn
    go_enter Tryz.func14, Tryz.ntmps14
    go_upto_region 1 with fail
    rw [← HW0.out]
    go_wp2_with fail
    refine (HPK.out _).mono ?_
    rintro e w' ⟨rfl, hw'⟩
    rw [hw']
    clear hw' w'
    go_wp2_with fail
    refine HC.out.mono ?_
    intro e w2 hm
    have he := hm.ret
    subst he
    have HM := hide hm
    clear hm
    go_wp2
    go_ret
    exact HM.out.pre HB0.out
end Go.Proofs.YtlhlmgfblbpdpaaGreatDoor
/-
  Receive: the law's opened.
-/
namespace Go.Proofs.YtlhlmgfblbpdpaaGreatDoor
set_option linter.unusedVariables false
set_option linter.unusedSimpArgs false
open Go.RowKit

def xNew (cf : Cf) : XM := ⟨cf, fun _ => ⟨[], 0, 0, 0⟩, 32, cf.i, true, 0, 0, 0, none, 0, false, false, 0⟩
def dNew (cf : Cf) : Dn := ⟨0, 32, cf.c - 32, cf.i, cf.i, true, 32, cf.c, 0, 1, 0, false, false, 0, 0⟩
def sNew : Nat → Sn := fun _ => ⟨0, 0, []⟩
theorem rel_new {cf : Cf} (h : CfgOk cf.i cf.c cf.b cf.k) : Rel 0 (xNew cf) (dNew cf) sNew := by
  have h1 := h.i0; have h2 := h.i1; have h3 := h.c0; have h4 := h.k0; have h5 := h.k1
  have e1 : (xNew cf).reads = 0 := rfl
  have e2 : (xNew cf).bods = 0 := rfl
  have e3 : (xNew cf).texts = 0 := rfl
  exact {
    cf := h
    clk := rfl
    clk0 := Int.le_refl _
    clk1 := by show (0 : Int) ≤ 1000000; omega
    rcv := by show (32 : Int) = 32 + 0 - 0; omega
    rcv0 := by show (0 : Int) ≤ 32; omega
    owd := by rw [e1]; show cf.c - 32 = cf.c - 32 + 0 + 0 - 0; omega
    owd0 := by show 0 ≤ cf.c - 32; omega
    wnt0 := h1
    wnt1 := h2
    tld := rfl
    tld0 := h1
    tld1 := h2
    wai := rfl
    own := rfl
    own0 := by show (0 : Int) ≤ 32; omega
    own1 := by show (32 : Int) ≤ 1000; omega
    tgt0 := Int.le_refl _
    tgt1 := h4
    pnm := by show 0 < 4294967296; omega
    png := rfl
    und := fun hh => by cases hh
    cam := fun _ => ⟨rfl, rfl⟩
    ask := fun hh => by cases hh
    cnt0 := Int.le_refl _
    cnt1 := by show (0 : Int) ≤ 2147483647; omega
    stt0 := Int.le_refl _
    stt1 := by show (0 : Int) ≤ 1000000; omega
    bsb0 := Int.le_refl _
    bsb1 := by show (0 : Int) ≤ 2147483647; omega
    bst0 := by show (0 : Int) ≤ 1; omega
    bst1 := by show (1 : Int) ≤ 2147483647; omega
    sum := by rw [e2]; rfl
    bes := by rw [e2, e3]; rfl
    crd := Int.le_refl _
    lns := fun j hj => ⟨rfl, rfl, Int.le_refl _, rfl, Nat.le_refl _, Int.le_refl _, by show (0 : Int) ≤ 1000 + 0; omega, Int.le_refl _⟩
    ask0 := Int.le_refl _
    ask1 := by show (0 : Int) + 0 ≤ ((0 : Nat) : Int); omega
    bod1 := by show (0 : Int) ≤ 64 * ((0 : Nat) : Int); omega }
theorem feed_openX (i c b k : Int) : ∀ (j : Nat), j < 4 → FeedC (pOpen i c b k j) (lay 1 4 (2 * (j : Int) + 1) []) 0 (pOpen i c b k (j + 1))
  | 0, _ => Or.inl ⟨rfl, feed_open0 i c b k, rfl⟩
  | 1, _ => Or.inl ⟨rfl, feed_open1 i c b k, rfl⟩
  | 2, _ => Or.inl ⟨rfl, feed_open2 i c b k, rfl⟩
  | 3, _ => Or.inl ⟨rfl, feed_open3 i c b k, rfl⟩

set_option maxRecDepth 100000 in
set_option maxHeartbeats 3200000 in
theorem kopened_X (cf : Cf) (w : World) (h : CfgOk cf.i cf.c cf.b cf.k) (hgl : Gl w) (hg : 7 ≤ w.heap.size) :
    Calls Tryz.prog 5 #[.agg #[.int .i64 cf.i, .int .i64 cf.c, .int .i64 cf.b, .int .i64 cf.k]] w fun e w' => ∃ xb eb F x d s fs, e = .returned (.tuple #[.pointer (some ⟨xb, 0, none⟩), .bool true]) ∧ In w' xb eb F x (gD x.cf d s []) ∧ TellsL 0 (xNew cf) fs x ∧ Rel 0 x d s ∧ Quiet cf.b d s ∧ SameT (dNew cf) d ∧ w.heap.size ≤ xb ∧ Below w.heap.size w w' ∧ ∀ j, F j → w.heap.size ≤ j := by
  obtain ⟨i, c, b, k⟩ := cf
  simp only at h ⊢
  obtain ⟨w0, hw0⟩ : ∃ w0, w0 = (w.alloc (.cells #[.int .i64 i, .int .i64 c, .int .i64 b, .int .i64 k] 23)).alloc (.cells #[Value.pointer none, .int .i64 i, .int .i64 c, .int .i64 b, .int .i64 k, .string ⟨#[]⟩, .int .i64 0, .int .i64 0, .int .i64 0, .string ⟨#[]⟩, .int .i64 0, .int .i64 0, .int .i64 0, .string ⟨#[]⟩, .int .i64 0, .int .i64 0, .int .i64 0, .string ⟨#[]⟩, .int .i64 0, .int .i64 0, .int .i64 0, .int .i64 32, .int .i64 i, .bool true, .int .i64 0, .int .i64 0, .int .i64 0, .slice none 0 0, .int .i64 0, .bool false, .bool false, .int .i64 0, .bool true] 38) := ⟨_, rfl⟩
  dsimp only at hw0
  have hcf : w0.heap[w.heap.size]? = some (.cells #[.int .i64 i, .int .i64 c, .int .i64 b, .int .i64 k] 23 (0, 0)) := by
    rw [hw0, heap_alloc_old _ _ (by simp)]
    exact heap_alloc_new w _
  have hx0 : XI w0 (w.heap.size + 1) (.pointer none) (xNew ⟨i, c, b, k⟩) (.slice none 0 0) := by
    unfold XI
    rw [hw0, show w.heap.size + 1 = (w.alloc (.cells #[.int .i64 i, .int .i64 c, .int .i64 b, .int .i64 k] 23)).heap.size from by simp]
    exact heap_alloc_new _ _
  have hb0 : Below w.heap.size w w0 := by rw [hw0]; exact ((Below.refl _ _).alloc (Nat.le_refl _) _).alloc (by simp) _
  have hs0 : w0.heap.size = w.heap.size + 2 := by rw [hw0]; simp
  obtain ⟨y0, y1, y2, y3⟩ := cfgs' hcf
  have HBG := hide (kbegun_any i c b k w0 h (hgl.below hb0) (by omega))
  have HOK := hide h
  have HGL := hide hgl
  have HW0 := hide hw0
  have HB0 := hide hb0
  have HX0 := hide hx0
  clear h hgl hw0 hb0 hx0 hcf
  go_enter Tryz.func5, Tryz.ntmps5
  go_upto_region 2 with fail
  rw [← HW0.out]
  go_wp2_with fail
  refine HBG.out.mono ?_
  rintro e w1 ⟨eb, F, rfl, hst, hb1, hF⟩
  have hx1 := HX0.out.below hb1
  have x0 : w1.cell? ⟨w.heap.size + 1, 0, none⟩ = some (.pointer none) := hx1.c0
  have q0 := hx1.fr 0
  have hxlt : w.heap.size + 1 < w1.heap.size := hx1.lt
  have hset : XI (w1.setCell ⟨w.heap.size + 1, 0, none⟩ (.pointer (some ⟨eb, 0, none⟩))) (w.heap.size + 1) (.pointer (some ⟨eb, 0, none⟩)) (xNew ⟨i, c, b, k⟩) (.slice none 0 0) := hx1.set (by simp [XM.cells])
  have hcs : Chg (fun j => j = w.heap.size + 1) w1 (w1.setCell ⟨w.heap.size + 1, 0, none⟩ (.pointer (some ⟨eb, 0, none⟩))) := chg_set (Chg.refl _ _) rfl
  have hFx : ¬ F (w.heap.size + 1) := fun hf => by have := hF _ hf; omega
  have hst2 := hst.chg hcs (fun j hj e => by subst e; exact hFx hj)
  have hb2 : Below w.heap.size w (w1.setCell ⟨w.heap.size + 1, 0, none⟩ (.pointer (some ⟨eb, 0, none⟩))) := below_of_chg (HB0.out.trans (hb1.mono HB0.out.size)) hcs (fun j hj => by omega)
  obtain ⟨w2, hw2⟩ : ∃ w2, w2 = w1.setCell ⟨w.heap.size + 1, 0, none⟩ (.pointer (some ⟨eb, 0, none⟩)) := ⟨_, rfl⟩
  rw [← hw2] at hset hst2 hb2
  have HIN2 : Hid (In w2 (w.heap.size + 1) eb F (xNew ⟨i, c, b, k⟩) (pOpen i c b k 0)) := ⟨⟨_, hset, rfl, fun j hj => by simp [Value.ownBlock] at hj⟩, hFx, hst2, HGL.out.below hb2, by omega, fun j hj => by have := hF j hj; omega⟩
  have HB2 := hide hb2
  have HF : Hid (∀ j, F j → w.heap.size + 2 ≤ j) := fun j hj => by have := hF j hj; omega
  have HW2 := hide hw2
  clear hx1 hst hb1 hF hset hcs hst2 hb2 hw2 hFx y0 y1 y2 y3
  go_upto_region 4 with fail
  rw [← HW2.out]
  clear x0 q0
  go_wp2
  go_loopw [6, 7] (fun ok s wr => ∃ (j : Nat) (wv : World) (Fv : Nat → Prop), wv = wr ∧ ok = .bool true ∧ s = .int .i64 (2 * (j : Int) + 1) ∧ j ≤ 4 ∧ In wv (w.heap.size + 1) eb Fv (xNew ⟨i, c, b, k⟩) (pOpen i c b k j) ∧ Below w.heap.size w wv ∧ ∀ n, Fv n → w.heap.size + 2 ≤ n) (fun _ s _ => 9 - (intOf s).toNat)
  case atStart => exact ⟨0, _, F, rfl, rfl, rfl, by omega, HIN2.out, HB2.out, HF.out⟩
  case round =>
    obtain ⟨j, wv, Fv, hwv, rfl, rfl, hj, hinv, hbv, hFv⟩ := hrel
    subst hwv
    by_cases hj4 : j < 4
    · have HLF := hide (klay_X (w1 := wv) (sa := none) (cap := 0) (body := []) hinv (feed_openX i c b k j hj4) (Below.refl _ _) (by omega) (by omega) (by omega) (by omega) (by omega) (by omega) (by simp) (Or.inl ⟨rfl, rfl⟩))
      have HBV := hide hbv
      have HFV := hide hFv
      have hxl := hinv.xlt
      have hs1 : 2 * (j : Int) + 1 ≤ 7 := by omega
      have hs2 : IntKind.i64.wrap (2 * (j : Int) + 1 + 2) = 2 * (j : Int) + 1 + 2 := by rw [IntKind.wrap_i64]; omega
      clear hinv hbv hFv
      go_wp2_with fail
      refine HLF.out.mono ?_
      rintro e w3 ⟨v, rfl, hb3, hfd⟩
      have HFD := hide (hfd w3 (Below.refl _ _))
      clear hb3 hfd
      go_wp2_with fail
      refine HFD.out.mono ?_
      rintro e w4 ⟨rfl, F4, hin4, hch4, hF4⟩
      have HREL : Hid (In w4 (w.heap.size + 1) eb F4 (xNew ⟨i, c, b, k⟩) (pOpen i c b k (j + 1)) ∧ Below w.heap.size w w4 ∧ ∀ n, F4 n → w.heap.size + 2 ≤ n) := by
        refine ⟨hin4, below_of_chg HBV.out hch4 (fun n hn => ?_), fun n hn => ?_⟩
        · rcases hn with a | a
          · have := HFV.out n a; omega
          · omega
        · rcases hF4 n hn with a | a
          · exact HFV.out n a
          · omega
      clear hin4 hch4 hF4
      go_wp2
      all_goals go_roundw
      case rel => exact ⟨j + 1, _, F4, rfl, rfl, by congr 1, by omega, HREL.out⟩
      case measure => simp [intOf]; omega
    · have hj0 : j = 4 := by omega
      subst hj0
      have HTK := hide (ktaken_X (w.heap.size + 1) eb Fv (xNew ⟨i, c, b, k⟩) (dNew ⟨i, c, b, k⟩) sNew 0 wv hinv (rel_new HOK.out) (by omega))
      have hxl := hinv.xlt
      have HBV := hide hbv
      have HFV := hide hFv
      clear hinv hbv hFv
      go_wp2_with fail
      refine HTK.out.mono ?_
      rintro e w5 ⟨rfl, fs, x5, d5, s5, hg5, ht5, hr5, hq5, hs5⟩
      obtain ⟨F5, hin5, hch5, hF5⟩ := hg5
      have HEND : Hid (∃ F x d s fs, In w5 (w.heap.size + 1) eb F x (gD x.cf d s []) ∧ TellsL 0 (xNew ⟨i, c, b, k⟩) fs x ∧ Rel 0 x d s ∧ Quiet b d s ∧ SameT (dNew ⟨i, c, b, k⟩) d ∧ w.heap.size ≤ w.heap.size + 1 ∧ Below w.heap.size w w5 ∧ ∀ j, F j → w.heap.size ≤ j) := by
        refine ⟨F5, x5, d5, s5, fs, hin5, ht5, hr5, hq5, hs5, by omega, below_of_chg HBV.out hch5 (fun n hn => ?_), fun n hn => ?_⟩
        · rcases hn with a | a
          · have := HFV.out n a; omega
          · omega
        · rcases hF5 n hn with a | a
          · have := HFV.out n a; omega
          · omega
      clear hin5 hch5 hF5 ht5 hr5 hq5 hs5
      go_wp2
      obtain ⟨F6, x6, d6, s6, fs6, hh⟩ := HEND.out
      refine bodyPost_ret (v := .tuple #[.pointer (some ⟨w.heap.size + 1, 0, none⟩), .bool true]) ?_ rfl ⟨_, eb, F6, x6, d6, s6, fs6, rfl, hh⟩
      simp [results, Tryz.results5, go_sem]
end Go.Proofs.YtlhlmgfblbpdpaaGreatDoor
/-
  Receive: the law's played.
-/
namespace Go.Proofs.YtlhlmgfblbpdpaaGreatDoor
set_option linter.unusedVariables false
set_option linter.unusedSimpArgs false
open Go.RowKit

/-- A move, as the law has it. -/
structure Mv where
  kind : Int
  s : Int
  n : Int
  t : ByteArray
def Mv.cells (m : Mv) : List Value := [.int .i64 m.kind, .int .i64 m.s, .int .i64 m.n, .string m.t]
structure MvOk (m : Mv) : Prop where
  kind : I64 m.kind
  s : I64 m.s
  n : I64 m.n
  t : m.t.size ≤ 1152921504606846976
/-- A script that lies in memory. -/
structure Script (w : World) (v : Value) (l : List Mv) : Prop where
  len : ∃ sa cap, v = .slice sa l.length cap
  at_ : ∀ i (h : i < l.length), ∃ g off cap, v = .slice (some ⟨g, off, none⟩) l.length cap ∧ l.length ≤ cap ∧ g < w.heap.size ∧ w.cell? ⟨g, off + i * 4, none⟩ = some (.int .i64 l[i].kind) ∧ w.cell? ⟨g, off + i * 4 + 1, none⟩ = some (.int .i64 l[i].s) ∧ w.cell? ⟨g, off + i * 4 + 2, none⟩ = some (.int .i64 l[i].n) ∧ w.cell? ⟨g, off + i * 4 + 3, none⟩ = some (.string l[i].t)
  ok : ∀ m ∈ l, MvOk m
theorem Script.chg {S : Nat → Prop} {w w' : World} {v : Value} {l : List Mv} (h : Script w v l) (hc : Chg S w w') (hs : ∀ j, v.ownBlock = some j → 0 < l.length → ¬ S j) : Script w' v l := by
  refine ⟨h.len, fun i hi => ?_, h.ok⟩
  obtain ⟨g, off, cap, e, h1, h2, c0, c1, c2, c3⟩ := h.at_ i hi
  have hn := hs g (by rw [e]; rfl) (by omega)
  refine ⟨g, off, cap, e, h1, Nat.lt_of_lt_of_le h2 hc.size, ?_, ?_, ?_, ?_⟩
  · rw [hc.cell (p := ⟨g, off + i * 4, none⟩) h2 hn]; exact c0
  · rw [hc.cell (p := ⟨g, off + i * 4 + 1, none⟩) h2 hn]; exact c1
  · rw [hc.cell (p := ⟨g, off + i * 4 + 2, none⟩) h2 hn]; exact c2
  · rw [hc.cell (p := ⟨g, off + i * 4 + 3, none⟩) h2 hn]; exact c3
/-- The end of a script: the dead end's Goaway. -/
theorem take_dead {w : World} {xb eb : Nat} {F : Nat → Prop} {x : XM} {d : Dn} {s : Nat → Sn} (h : In w xb eb F x (gQ x.dead x.cf d s)) (hd : x.dead = true) :
    Calls Tryz.prog 17 #[.pointer (some ⟨eb, 0, none⟩), .int .i64 1099511627776] w fun e w' => ∃ a, e = .returned (.slice a 7 7) ∧ BytesIn w' (.slice a 7 7) (lay 5 0 0 [12]) ∧ ∃ p', GoI w w' xb eb F x p' := by
  have hst := h.st
  rw [hd] at hst
  have hst : StE w eb F (gDd x.cf d s) := hst
  have hq : (gDd x.cf d s).oGoaway = some { gDd x.cf d s with m := { (gDd x.cf d s).m with parted := true }, out := lay 5 0 0 [12] } := by
    unfold GEnd.oGoaway
    rw [if_neg (by
      intro e
      rcases e with e | e
      · have e : (12 : Int) = 7 := e
        omega
      · cases e)]
    rfl
  have hl : (lay 5 0 0 [12]).length = 7 := by rw [lay_len]; rfl
  have hc := d_take (n := 1099511627776) (q := { gDd x.cf d s with m := { (gDd x.cf d s).m with parted := true }, out := lay 5 0 0 [12] }) hst rfl (by show (12 : Int) ≠ 0; omega) (by show 0 ≤ (12 : Int) ∧ (12 : Int) ≤ 255; omega) rfl (Or.inr hq) rfl (by show (lay 5 0 0 [12]).length ≤ _; omega) (by show ((lay 5 0 0 [12]).length : Int) < _; omega)
  rw [show ({ gDd x.cf d s with m := { (gDd x.cf d s).m with parted := true }, out := lay 5 0 0 [12] } : GEnd).out = lay 5 0 0 [12] from rfl, cutN_all (by omega), List.take_of_length_le (Nat.le_refl _), List.drop_of_length_le (Nat.le_refl _), hl] at hc
  refine hc.mono ?_
  rintro e w' ⟨a, rfl, hby, F', h1, h2, h3, -⟩
  exact ⟨a, rfl, hby, _, h.ends ⟨F', h1, h2, h3⟩⟩
/-- How played ends. -/
def Played (w w' : World) (xb eb : Nat) (F : Nat → Prop) (e : Ending) : Prop := e = .returned (.bool true) ∧ ∃ x p, GoI w w' xb eb F x p
theorem Played.ret {w w' : World} {xb eb : Nat} {F : Nat → Prop} {e : Ending} (h : Played w w' xb eb F e) : e = .returned (.bool true) := h.1
end Go.Proofs.YtlhlmgfblbpdpaaGreatDoor
/-
  Receive: the law's played: the walk.
-/
namespace Go.Proofs.YtlhlmgfblbpdpaaGreatDoor
set_option linter.unusedVariables false
set_option linter.unusedSimpArgs false
open Go.RowKit

set_option maxRecDepth 100000 in
set_option maxHeartbeats 6400000 in
theorem kplayed_X (xb eb : Nat) (F : Nat → Prop) (x : XM) (d : Dn) (s : Nat → Sn) (N : Nat) (sv : Option Addr) (scap : Nat) (l : List Mv) (w : World) (h : In w xb eb F x (gQ x.dead x.cf d s)) (hr : Rel N x d s) (hN : N + l.length + 10 ≤ 9007199254740991) (hsc : Script w (.slice sv l.length scap) l) (hv : ∀ j, (Value.slice sv l.length scap).ownBlock = some j → 0 < l.length → ¬ (F j ∨ j = xb)) :
    Calls Tryz.prog 7 #[.pointer (some ⟨xb, 0, none⟩), .slice sv l.length scap] w fun e w' => Played w w' xb eb F e := by
  have HI := hide h
  have HR := hide hr
  have HSC := hide hsc
  have HVV := hide hv
  have hNn := hN
  clear h hr hsc hv
  go_enter Tryz.func7, Tryz.ntmps7
  go_wp2
  go_loopw [5] (fun ix wr => ∃ (n : Nat) (wv : World) (xv : XM) (dv : Dn) (sw : Nat → Sn), wv = wr ∧ ix = .int .i64 (n : Int) ∧ n ≤ l.length ∧ GoI w wv xb eb F xv (gQ xv.dead xv.cf dv sw) ∧ Rel (N + n) xv dv sw) (fun ix _ => l.length - (intOf ix).toNat)
  case atStart => exact ⟨0, _, x, d, s, rfl, rfl, Nat.zero_le _, GoI.one HI.out, HR.out⟩
  case round =>
    obtain ⟨n, wv, xv, dv, sw, hwv, rfl, hn, hgo, hrv⟩ := hrel
    subst hwv
    obtain ⟨Fv, hinv, hchv, hFv⟩ := hgo
    obtain ⟨pv, k1, -, -⟩ := hinv.xi
    have y30 : wv.cell? ⟨xb, 30, none⟩ = some (.bool xv.dead) := k1.c30
    by_cases hlk : n < l.length ∧ xv.dead = false
    · obtain ⟨hlk, hdd⟩ := hlk
      rw [hdd] at y30
      obtain ⟨g, off, cap, e, h1, h2, c0, c1, c2, c3⟩ := (HSC.out.chg hchv HVV.out).at_ n hlk
      simp only [Value.slice.injEq, true_and] at e
      obtain ⟨rfl, rfl⟩ := e
      have hok := HSC.out.ok l[n] (List.getElem_mem hlk)
      have hliv : In wv xb eb Fv xv (gD xv.cf dv sw []) := by rw [← gQ_live hdd]; exact hinv
      have HM := hide (kmoves_X xb eb Fv xv dv sw (N + n) l[n].kind l[n].s l[n].n l[n].t wv hliv hdd hrv (by omega) hok.kind hok.s hok.n hok.t)
      have HT : Hid (∀ w2 x2 p2, GoI wv w2 xb eb Fv x2 p2 → GoI w w2 xb eb F x2 p2) := fun w2 x2 p2 hg => GoI.then hchv hFv hg
      have hkI : (0 : Int) ≤ (n : Int) := by omega
      have hkL : (n : Int) < (l.length : Int) := by omega
      clear hinv hchv hFv k1 hrv hliv hok
      generalize l[n] = m at *
      go_wp2_with fail
      refine HM.out.mono ?_
      intro e w2 hm
      have he := hm.ret
      subst he
      obtain ⟨-, x2, d2, s2, hg2, hr2, -⟩ := hm
      obtain ⟨F2, hin2, hch2, hF2⟩ := hg2
      have HS := hide (kshown_X xb eb F2 x2 d2 s2 (N + n + 1) w2 hin2 hr2 (by omega))
      have HG2 : Hid (∀ w3, Below w2.heap.size w2 w3 → GoI w w3 xb eb F x2 (gQ x2.dead x2.cf d2 s2)) := fun w3 hb => HT.out _ _ _ (GoI.then hch2 hF2 (GoI.of_below hin2 hb))
      have HR2 := hide hr2
      clear hin2 hch2 hF2 hr2 y30 c0 c1 c2 c3
      go_wp2_with fail
      refine HS.out.mono ?_
      rintro e w3 ⟨rfl, hb3⟩
      have HG3 := hide (HG2.out w3 hb3)
      clear hb3
      go_wp2
      all_goals go_roundw
      case rel => exact ⟨n + 1, _, x2, d2, s2, rfl, by go_num, by omega, HG3.out, HR2.out⟩
      case measure => simp [intOf]; omega
    · have HGO : Hid (GoI w wv xb eb F xv (gQ xv.dead xv.cf dv sw)) := ⟨Fv, hinv, hchv, hFv⟩
      have HRV := hide hrv
      have hcase : ¬ (n : Int) < (l.length : Int) ∨ ((n : Int) < (l.length : Int) ∧ xv.dead = true) := by
        by_cases hh : n < l.length
        · right
          refine ⟨by omega, ?_⟩
          cases hd : xv.dead with
          | true => rfl
          | false => exact absurd ⟨hh, hd⟩ hlk
        · left; omega
      clear hinv hchv hFv k1 hrv hlk
      go_upto_region 2 with fail
      go_cut [21] (fun s21 wx => s21 = .bool false ∧ wx = wv)
      case first =>
        rcases hcase with hc | ⟨hc, hdd⟩
        · go_wp2_with fail
          go_meet
          exact ⟨rfl, rfl⟩
        · rw [hdd] at y30
          go_wp2_with fail
          go_meet
          exact ⟨rfl, rfl⟩
      case rest =>
        obtain ⟨hs21, hw21⟩ := hcut
        subst hs21
        rw [hw21]
        clear hw21 hcase y30
        go_wp2
        go_loopw [7] (fun ix wr => ∃ (k : Nat) (wu : World) (xu : XM) (du : Dn) (su : Nat → Sn), wu = wr ∧ ix = .int .i64 (k : Int) ∧ k ≤ 4 ∧ GoI w wu xb eb F xu (gQ xu.dead xu.cf du su) ∧ Rel (N + n) xu du su) (fun ix _ => 4 - (intOf ix).toNat)
        case atStart => exact ⟨0, _, xv, dv, sw, rfl, rfl, by omega, HGO.out, HRV.out⟩
        case round =>
          obtain ⟨k, wu, xu, du, su, hwu, rfl, hk4, hgu, hru⟩ := hrel
          subst hwu
          obtain ⟨Fu, hinu, hchu, hFu⟩ := hgu
          by_cases hk : k < 4
          · have HRD := hide (kreads_X (n := 1099511627776) hinu hru (by omega) hk (by omega) (by omega))
            have HT : Hid (∀ w2 x2 p2, GoI wu w2 xb eb Fu x2 p2 → GoI w w2 xb eb F x2 p2) := fun w2 x2 p2 hg => GoI.then hchu hFu hg
            have hkL : (k : Int) < 4 := by omega
            clear hinu hchu hFu hru
            go_wp2_with fail
            refine HRD.out.mono ?_
            rintro e w2 ⟨rfl, m, -, hg2, hr2⟩
            have HG2 := hide (HT.out _ _ _ hg2)
            have HR2 := hide hr2
            clear hg2 hr2
            go_wp2
            all_goals go_roundw
            case rel => exact ⟨k + 1, _, xu.read k m, _, _, rfl, by go_num, by omega, HG2.out, HR2.out⟩
            case measure => simp [intOf]; omega
          · have hk0 : k = 4 := by omega
            subst hk0
            clear hk
            obtain ⟨pu, ku, -, -⟩ := hinu.xi
            have z0 : wu.cell? ⟨xb, 0, none⟩ = some (.pointer (some ⟨eb, 0, none⟩)) := ku.c0
            have z30 : wu.cell? ⟨xb, 30, none⟩ = some (.bool xu.dead) := ku.c30
            cases hdu : xu.dead with
            | false =>
              rw [hdu] at z30
              have HTK := hide (taken_moved (by rw [← gQ_live hdu]; exact hinu) hdu hru (by omega))
              have HT : Hid (∀ w2 x2 p2, GoI wu w2 xb eb Fu x2 p2 → GoI w w2 xb eb F x2 p2) := fun w2 x2 p2 hg => GoI.then hchu hFu hg
              clear hinu hchu hFu hru ku
              go_wp2_with fail
              refine HTK.out.mono ?_
              intro e w2 hm
              have he := hm.ret
              subst he
              obtain ⟨-, x2, d2, s2, hg2, -, -⟩ := hm
              have HG2 := hide (HT.out _ _ _ hg2)
              clear hg2
              go_wp2
              go_ret
              exact ⟨rfl, _, _, HG2.out⟩
            | true =>
              rw [hdu] at z30
              have HTK := hide (take_dead hinu hdu)
              have HT : Hid (∀ w2 x2 p2, GoI wu w2 xb eb Fu x2 p2 → GoI w w2 xb eb F x2 p2) := fun w2 x2 p2 hg => GoI.then hchu hFu hg
              clear hinu hchu hFu hru ku
              go_wp2_with fail
              refine HTK.out.mono ?_
              rintro e w2 ⟨a, rfl, hby2, p2, hg2⟩
              obtain ⟨w3, hw3⟩ : ∃ w3, w3 = w2.alloc (.cells #[.int .u8 12] 5) := ⟨_, rfl⟩
              have hb3 : Below w2.heap.size w2 w3 := by rw [hw3]; exact (Below.refl _ _).alloc (Nat.le_refl _) _
              have hrow : BytesIn w3 (.slice (some ⟨w2.heap.size, 0, none⟩) ([12] : List UInt8).length 1) [12] := by
                rw [hw3]
                exact bytesIn_of_owns (row_new (w := w2) (l := [12]) (by simp [maxLen])) rfl
              have HLY := hide (klay_any 5 0 0 (some ⟨w2.heap.size, 0, none⟩) [12] 1 w3 (by omega) (by omega) (by omega) (by omega) (by omega) (by omega) (by simp) hrow)
              have HG2 := hide (HT.out _ _ _ hg2)
              have HBY2 := hide hby2
              have HB3 := hide hb3
              have HW3 := hide hw3
              clear hby2 hg2 hb3 hw3 hrow
              go_wp2_with fail
              rw [← HW3.out]
              refine HLY.out.mono ?_
              rintro e w4 ⟨v, rfl, hown, hb4⟩
              have hb4' := HB3.out.trans (hb4.mono HB3.out.size)
              have hcv1 : (convert 43 9 (.slice a 7 7)).run Tryz.prog w4 = .ok (.string ⟨(lay 5 0 0 [12]).toArray⟩) w4 := conv_str (HBY2.out.chg (Chg.of_below (S := fun _ => False) hb4') (fun _ _ => id))
              have hcv2 : (convert 43 9 v).run Tryz.prog w4 = .ok (.string ⟨(lay 5 0 0 [12]).toArray⟩) w4 := conv_str (bytesIn_of_owns hown rfl)
              have HG4 := hide (HG2.out.post hb4')
              clear hown hb4 hb4'
              generalize (lay 5 0 0 [12]).toArray = LA at *
              go_wp2
              go_ret
              exact ⟨rfl, _, _, HG4.out⟩
end Go.Proofs.YtlhlmgfblbpdpaaGreatDoor
/-
  Receive: Bounded.
-/
namespace Go.Proofs.YtlhlmgfblbpdpaaGreatDoor
set_option linter.unusedVariables false
set_option linter.unusedSimpArgs false
open Go.RowKit

set_option maxRecDepth 100000 in
set_option maxHeartbeats 1600000 in
theorem bounded_all (x0 x1 x2 x3 : Int) (sv : Option Addr) (scap : Nat) (l : List Mv) (w : World) (h0 : I64 x0) (h1 : I64 x1) (h2 : I64 x2) (h3 : I64 x3) (hsc : Script w (.slice sv l.length scap) l) (hl : l.length ≤ 4503599627370496) (hvl : ∀ j, (Value.slice sv l.length scap).ownBlock = some j → 0 < l.length → j < w.heap.size) (hgl : Gl w) (hg : 7 ≤ w.heap.size) :
    Calls Tryz.prog 3 #[.agg #[.int .i64 x0, .int .i64 x1, .int .i64 x2, .int .i64 x3], .slice sv l.length scap] w fun e w' => e = .returned (.bool true) ∧ Below w.heap.size w w' := by
  obtain ⟨w0, hw0⟩ : ∃ w0, w0 = w.alloc (.cells #[.int .i64 x0, .int .i64 x1, .int .i64 x2, .int .i64 x3] 23) := ⟨_, rfl⟩
  have hcf : w0.heap[w.heap.size]? = some (.cells #[.int .i64 x0, .int .i64 x1, .int .i64 x2, .int .i64 x3] 23 (0, 0)) := by rw [hw0]; exact heap_alloc_new w _
  have hb0 : Below w.heap.size w w0 := by rw [hw0]; exact (Below.refl _ _).alloc (Nat.le_refl _) _
  obtain ⟨y0, y1, y2, y3⟩ := cfgs' hcf
  have HTC := hide (tameConfig_any x0 x1 x2 x3 w0 h0 h1 h2 h3)
  have HB0 := hide hb0
  have HW0 := hide hw0
  have HGL := hide hgl
  have HSC := hide hsc
  have HVL := hide hvl
  clear hcf hb0 hw0 hgl hsc hvl h0 h1 h2 h3
  go_enter Tryz.func3, Tryz.ntmps3
  go_upto_region 1 with fail
  rw [← HW0.out]
  go_wp2_with fail
  refine HTC.out.mono ?_
  rintro e w1 ⟨i, c, b, k, rfl, hok, hb1⟩
  have hb1' := HB0.out.trans (hb1.mono HB0.out.size)
  have HB1 := hide hb1'
  have HOP := hide (kopened_X ⟨i, c, b, k⟩ w1 hok (HGL.out.below hb1') (Nat.le_trans hg hb1'.size))
  clear hb1 hb1' y0 y1 y2 y3 hok
  go_wp2_with fail
  refine HOP.out.mono ?_
  rintro e w2 ⟨xb, eb, F, x, d, s, fs, rfl, hin, htl, hr, -, -, hxb, hb2, hF⟩
  have hdd : x.dead = false := htl.dead
  have hb2' := HB1.out.trans (hb2.mono HB1.out.size)
  have hsz := HB1.out.size
  have HPL := hide (kplayed_X xb eb F x d s 0 sv scap l w2 (by rw [gQ_live hdd]; exact hin) hr (by omega) (HSC.out.chg (Chg.of_below (S := fun _ => False) hb2') (fun _ _ _ => id)) (fun j hj h0 e => by
    have h1 := HVL.out j hj h0
    rcases e with e | e
    · have := hF j e; omega
    · omega))
  have HEND : Hid (∀ w3 x3 p3, GoI w2 w3 xb eb F x3 p3 → Below w.heap.size w w3) := fun w3 x3 p3 ⟨F3, _, hc, _⟩ => below_of_chg hb2' hc (fun j hj => by
    rcases hj with e | e
    · have := hF j e; omega
    · omega)
  clear hin htl hr hxb hb2 hb2' hF hdd hsz
  go_wp2_with fail
  refine HPL.out.mono ?_
  intro e w3 hp
  have he := hp.ret
  subst he
  obtain ⟨-, x3, p3, hg3⟩ := hp
  have HB3 := hide (HEND.out _ _ _ hg3)
  clear hg3
  go_wp2
  go_ret
  exact ⟨rfl, HB3.out⟩
end Go.Proofs.YtlhlmgfblbpdpaaGreatDoor
/-
  Receive: a script, as it reads.
-/
namespace Go.Proofs.YtlhlmgfblbpdpaaGreatDoor
set_option linter.unusedVariables false
set_option linter.unusedSimpArgs false
open Go.RowKit

theorem cellsI : Tryz.prog.cellsOf 3 = 1 := by kernel_rfl
theorem cellsS : Tryz.prog.cellsOf 9 = 1 := by kernel_rfl
theorem cellsMv : Tryz.prog.cellsOf 49 = 4 := by kernel_rfl
theorem bytesMv : Tryz.prog.bytesOf 49 = 40 := by kernel_rfl
theorem undMv : ∃ n0 n1 n2 n3 : Field, Tryz.prog.underlying 49 = some (.struct #[n0, n1, n2, n3]) ∧ n0.type = 3 ∧ n1.type = 3 ∧ n2.type = 3 ∧ n3.type = 9 ∧ n0.offset = 0 ∧ n1.offset = 1 ∧ n2.offset = 2 ∧ n3.offset = 3 :=
  ⟨_, _, _, _, Tryz.underlying49, rfl, rfl, rfl, rfl, rfl, rfl, rfl, rfl⟩
section
variable {H : Type} {enc : TypeId × Value → H} {W : World}
theorem trod_struct4 {P : Program} {base : Nat} {spare : Nat → Bool} {held : Bool} {t : TypeId} {f0 f1 f2 f3 : Field} {fuel : Nat} {cs : List Value} {x : DataW H × List MemPlace} (ht : P.underlying t = some (.struct #[f0, f1, f2, f3])) (h : DataW.trod enc P W base spare held fuel t cs = some x) :
    ∃ y0 y1 y2 y3 n, x.1 = .agg [y0.1, y1.1, y2.1, y3.1] ∧ DataW.trod enc P W base spare held n f0.type ((cs.drop f0.offset).take (P.cellsOf f0.type)) = some y0 ∧
      DataW.trod enc P W base spare held n f1.type ((cs.drop f1.offset).take (P.cellsOf f1.type)) = some y1 ∧ DataW.trod enc P W base spare held n f2.type ((cs.drop f2.offset).take (P.cellsOf f2.type)) = some y2 ∧
      DataW.trod enc P W base spare held n f3.type ((cs.drop f3.offset).take (P.cellsOf f3.type)) = some y3 := by
  obtain ⟨xs, n, _, rfl, hl, hlen, hf⟩ := DataW.trod_struct ht h
  match xs, hlen with
  | [y0, y1, y2, y3], _ => exact ⟨y0, y1, y2, y3, n, by simp, by simpa using hf 0 f0 rfl, by simpa using hf 1 f1 rfl, by simpa using hf 2 f2 rfl, by simpa using hf 3 f3 rfl⟩
theorem weights_all {P : Program} {e : TypeId} {d : DataW H} {l : List (DataW H)} (hd : d ∈ l) {n : Nat} (hn : n ∈ d.weights P e) : n ∈ DataW.weightsAll P e l := by
  induction l with
  | nil => cases hd
  | cons a r ih =>
    simp only [DataW.weightsAll, List.mem_append]
    rcases List.mem_cons.1 hd with rfl | hd
    · exact Or.inl hn
    · exact Or.inr (ih hd)
set_option maxRecDepth 100000 in
/-- A script, as it reads. -/
theorem open_moves {fuel : Nat} {sa : Option Addr} {len cap : Nat} {x : DataW H × List MemPlace} (h : DataW.trod enc Tryz.prog W 0 (fun _ => true) true fuel 24 [.slice sa len cap] = some x) (hb : ∀ n ∈ x.1.weights Tryz.prog 24, n ≤ reachBytes) :
    ∃ l : List Mv, l.length = len ∧ len ≤ 4503599627370496 ∧ Script W (.slice sa len cap) l ∧ ∀ j, (Value.slice sa len cap).ownBlock = some j → 0 < len → j < W.heap.size := by
  have hrb : reachBytes < 140737488355328 := reachBytes_lt
  rcases Deep.open_slice Tryz.underlying24 h with ⟨hcs, _⟩ | ⟨a, len', cap', m, n, D, Pl, hcs, _, hl, hmx, hm, hx, hel⟩
  · simp at hcs
    obtain ⟨rfl, rfl, rfl⟩ := hcs
    exact ⟨[], rfl, by omega, ⟨⟨none, 0, rfl⟩, fun i hi => by simp at hi, fun m hm => by cases hm⟩, fun j hj h0 => by omega⟩
  · simp at hcs
    obtain ⟨rfl, rfl, rfl⟩ := hcs
    simp only [if_true] at hm
    rw [cellsMv] at hel
    obtain ⟨n0, n1, n2, n3, hu, t0, t1, t2, t3, o0, o1, o2, o3⟩ := undMv
    rw [hx] at hb
    have hw : ∀ q, q ∈ ((((List.range len).map D).length + ((List.range (m - len)).map fun j => D (len + j)).length) * Tryz.prog.bytesOf 49 :: (DataW.weightsAll Tryz.prog 49 ((List.range len).map D) ++ DataW.weightsAll Tryz.prog 49 ((List.range (m - len)).map fun j => D (len + j)))) → q ≤ reachBytes := by
      intro q hq
      refine hb q ?_
      simp only [DataW.weights, Tryz.underlying24]
      exact hq
    have hlen : len ≤ 4503599627370496 := by
      have := hw _ List.mem_cons_self
      rw [bytesMv] at this
      simp only [List.length_map, List.length_range] at this
      omega
    have hone : ∀ i, i < len → ∃ o : Mv, (W.cell? (a.add (i * 4)) = some (.int .i64 o.kind) ∧ W.cell? ((a.add (i * 4)).add 1) = some (.int .i64 o.s) ∧ W.cell? ((a.add (i * 4)).add 2) = some (.int .i64 o.n) ∧ W.cell? ((a.add (i * 4)).add 3) = some (.string o.t)) ∧ MvOk o := by
      intro i hi
      obtain ⟨cs, hc1, hc2⟩ := hel i (by omega)
      obtain ⟨_, hlen, hcell⟩ := World.cells?_some hc1
      obtain ⟨y0, y1, y2, y3, n', hD1, h0, h1, h2, h3⟩ := trod_struct4 hu hc2
      simp only at hD1
      match cs, hlen with
      | [c0, c1, c2, c3], _ =>
        rw [t0, o0, cellsI] at h0
        rw [t1, o1, cellsI] at h1
        rw [t2, o2, cellsI] at h2
        rw [t3, o3, cellsS] at h3
        obtain ⟨k0, e0, _, w0⟩ := DataW.trod_int Tryz.underlying3 h0
        obtain ⟨k1, e1, _, w1⟩ := DataW.trod_int Tryz.underlying3 h1
        obtain ⟨k2, e2, _, w2⟩ := DataW.trod_int Tryz.underlying3 h2
        obtain ⟨s, e3, hx3, _⟩ := DataW.trod_string Tryz.underlying9 h3
        simp at e0 e1 e2 e3
        subst e0 e1 e2 e3
        have d0 := hcell 0 (by omega)
        have d1 := hcell 1 (by omega)
        have d2 := hcell 2 (by omega)
        have d3 := hcell 3 (by omega)
        have e : s.data.toList.length = s.size := by rw [Array.length_toList]; rfl
        refine ⟨⟨k0, k1, k2, s⟩, ⟨by simpa [Addr.add] using d0, d1, d2, d3⟩, ⟨bounds_i64 w0, bounds_i64 w1, bounds_i64 w2, ?_⟩⟩
        show s.size ≤ _
        have hmem : s.data.toList.length ∈ (D i).weights Tryz.prog 49 := by
          rw [hD1]
          simp only [DataW.weights, hu]
          rw [hx3]
          simp [DataW.weightsEach, DataW.weights]
        have := hw _ (List.mem_cons_of_mem _ (List.mem_append_left _ (weights_all (List.mem_map.2 ⟨i, by simpa using hi, rfl⟩) hmem)))
        rw [e] at this
        omega
    obtain ⟨f, hf⟩ := @Deep.choose_lt Mv ⟨⟨0, 0, 0, .empty⟩⟩ _ _ hone
    refine ⟨(List.range len).map f, by simp, hlen, ⟨⟨some a, cap, by simp⟩, fun k hk => ?_, fun q hq => ?_⟩, fun j hj h0 => ?_⟩
    · simp at hk
      obtain ⟨⟨e0, e1, e2, e3⟩, _⟩ := hf k hk
      obtain ⟨b, off, spot⟩ := a
      have hspot : spot = none := by
        obtain ⟨⟨g0, _⟩, _⟩ := hf 0 (by omega)
        simpa [Addr.add] using World.cell?_spot g0
      subst hspot
      have ad : ∀ j, (⟨b, off, none⟩ : Addr).add j = ⟨b, off + j, none⟩ := fun j => by unfold Addr.add; split <;> simp_all
      have ad2 : ∀ i j, ((⟨b, i, none⟩ : Addr)).add j = ⟨b, i + j, none⟩ := fun i j => by unfold Addr.add; split <;> simp_all
      rw [ad] at e0 e1 e2 e3
      rw [ad2] at e1 e2 e3
      refine ⟨b, off, cap, by simp, by simpa using hl, World.block_lt_of_cell? W _ e0, ?_, ?_, ?_, ?_⟩
      · simpa using e0
      · simpa using e1
      · simpa using e2
      · simpa using e3
    · obtain ⟨i, hi, rfl⟩ := List.mem_map.1 hq
      exact (hf i (by simpa using hi)).2
    · obtain ⟨⟨e0, -⟩, -⟩ := hf 0 h0
      have := World.block_lt_of_cell? W _ e0
      have hab : a.block = j := by simpa [Value.ownBlock] using hj
      have h2 : (a.add (0 * 4)).block = a.block := by unfold Addr.add; split <;> rfl
      omega
end
end Go.Proofs.YtlhlmgfblbpdpaaGreatDoor
/-
  From the card's condition to what the package's variables hold.
-/
namespace Go.Proofs.YtlhlmgfblbpdpaaGreatDoor
set_option linter.unusedVariables false
set_option linter.unusedSimpArgs false
open Go.ChangeShapes Go.WideShapes Go.ChangeAt Go.RowKit

theorem bcellsU8 : Tryz.prog.cellsOf 5 = 1 := by kernel_rfl
theorem bcellsInt : Tryz.prog.cellsOf 3 = 1 := by kernel_rfl
theorem cellsStr : Tryz.prog.cellsOf 9 = 1 := by kernel_rfl
theorem cellsForm : Tryz.prog.cellsOf 193 = 2 := by kernel_rfl
theorem cellsHdr : Tryz.prog.cellsOf 197 = 2 := by kernel_rfl
theorem undForm : ∃ n0 n1 : Field, Tryz.prog.underlying 193 = some (.struct #[n0, n1]) ∧ n0.type = 5 ∧ n1.type = 3 ∧ n0.offset = 0 ∧ n1.offset = 1 := ⟨_, _, Tryz.underlying193, rfl, rfl, rfl, rfl⟩
theorem undHdr : ∃ n0 n1 : Field, Tryz.prog.underlying 197 = some (.struct #[n0, n1]) ∧ n0.type = 9 ∧ n1.type = 9 ∧ n0.offset = 0 ∧ n1.offset = 1 := ⟨_, _, Tryz.underlying197, rfl, rfl, rfl, rfl⟩

theorem laid_mem {P : Program} {w : World} {laid : List (String × DataW Unit)} {ps : List MemPlace} (h : DataW.LaidVars P w laid ps) {n : String} {d : DataW Unit} (hm : (n, d) ∈ laid) :
    ∃ g t cs fuel p, P.globalNamed n = some g ∧ (P.globals[g]?).map (·.type) = some t ∧ w.var? P n = some cs ∧ DataW.trod (fun _ => ()) P w 0 (fun _ => true) false fuel t cs.toList = some (d, p) := by
  induction laid generalizing ps with
  | nil => simp at hm
  | cons x r ih =>
    obtain ⟨n', d'⟩ := x
    obtain ⟨g, t, cs, fuel, p, q, h1, h2, h3, h4, h5, _⟩ := h
    rcases List.mem_cons.1 hm with e | e
    · simp only [Prod.mk.injEq] at e
      obtain ⟨rfl, rfl⟩ := e
      exact ⟨g, t, cs, fuel, p, h1, h2, h3, h4⟩
    · exact ih h5 e

section
variable {H : Type} {enc : TypeId × Value → H} {W : World} {spare : Nat → Bool} {held : Bool}
set_option maxRecDepth 100000 in
/-- A form, as it reads. -/
theorem form_cells {nm : String} {g : Nat} {cs : Array Value} {fuel : Nat} {p : List MemPlace} {a k : Int} (hg : Tryz.prog.globalNamed nm = some g) (hv : W.var? Tryz.prog nm = some cs)
    (hd : DataW.trod enc Tryz.prog W 0 spare held fuel 193 cs.toList = some (.agg [.lit (.int .u8 a), .lit (.int .i64 k)], p)) : W.cell? ⟨g, 0, none⟩ = some (.int .u8 a) ∧ W.cell? ⟨g, 1, none⟩ = some (.int .i64 k) := by
  obtain ⟨f0, f1, hu, t0, t1, o0, o1⟩ := undForm
  obtain ⟨y0, y1, n, hx, hl, h0, h1⟩ := trod_struct2 hu hd
  rw [cellsForm] at hl
  have v0 := World.var?_cell hg hv 0
  have v1 := World.var?_cell hg hv 1
  obtain ⟨l⟩ := cs
  match l, hl with
  | [c0, c1], _ =>
    rw [t0, o0, bcellsU8] at h0
    rw [t1, o1, bcellsInt] at h1
    obtain ⟨k0, e0, x0, _⟩ := DataW.trod_int Tryz.underlying5 h0
    obtain ⟨k1, e1, x1, _⟩ := DataW.trod_int Tryz.underlying3 h1
    simp at e0 e1
    rw [x0, x1] at hx
    simp at hx
    rw [v0, v1]
    simp [e0, e1, hx]
set_option maxRecDepth 100000 in
/-- A pair, as it reads. -/
theorem hdr_reads {fuel : Nat} {c0 c1 : Value} {x : DataW H × List MemPlace} (hd : DataW.trod enc Tryz.prog W 0 spare held fuel 197 [c0, c1] = some x) : ∃ h : HP, c0 = .string h.n ∧ c1 = .string h.v ∧ x.1 = .agg [.lit (.string h.n.data.toList), .lit (.string h.v.data.toList)] ∧ h.n.size ≤ maxLen ∧ h.v.size ≤ maxLen := by
  obtain ⟨f0, f1, hu, t0, t1, o0, o1⟩ := undHdr
  obtain ⟨y0, y1, n, hx, hl, h0, h1⟩ := trod_struct2 hu hd
  rw [t0, o0, cellsStr] at h0
  rw [t1, o1, cellsStr] at h1
  obtain ⟨s0, e0, x0, m0⟩ := DataW.trod_string Tryz.underlying9 h0
  obtain ⟨s1, e1, x1, m1⟩ := DataW.trod_string Tryz.underlying9 h1
  simp at e0 e1
  refine ⟨⟨s0, s1⟩, e0, e1, ?_, m0, m1⟩
  rw [hx, x0, x1]
set_option maxRecDepth 100000 in
theorem fixed_cells {nm : String} {g : Nat} {cs : Array Value} {fuel : Nat} {p : List MemPlace} (hg : Tryz.prog.globalNamed nm = some g) (hv : W.var? Tryz.prog nm = some cs)
    (hd : DataW.trod enc Tryz.prog W 0 spare held fuel 221 cs.toList = some (.agg (fixed8.map fun h => .agg [.lit (.string h.n.data.toList), .lit (.string h.v.data.toList)]), p)) :
    ∀ i (h : i < fixed8.length), W.cell? ⟨g, 2 * i, none⟩ = some (.string fixed8[i].n) ∧ W.cell? ⟨g, 2 * i + 1, none⟩ = some (.string fixed8[i].v) := by
  intro i hi
  obtain ⟨xs, m, _, hx, hl, hn, hel⟩ := DataW.trod_array Tryz.underlying221 hd
  have h8 : fixed8.length = 8 := rfl
  have hi8 : i < 8 := by omega
  have he := hel i hi8
  rw [cellsHdr] at he
  have c16 : Tryz.prog.cellsOf 221 = 16 := by kernel_rfl
  rw [c16] at hl
  have hxi : i < xs.length := by omega
  rw [List.getElem?_eq_getElem hxi] at he
  have hlen2 : ((cs.toList.drop (i * 2)).take 2).length = 2 := by rw [List.length_take, List.length_drop]; omega
  have g0 : ((cs.toList.drop (i * 2)).take 2)[0]? = cs.toList[i * 2]? := by simp [List.getElem?_take, List.getElem?_drop]
  have g1 : ((cs.toList.drop (i * 2)).take 2)[1]? = cs.toList[i * 2 + 1]? := by simp [List.getElem?_take, List.getElem?_drop]
  have v0 := World.var?_cell hg hv (2 * i)
  have v1 := World.var?_cell hg hv (2 * i + 1)
  have e0 : 2 * i = i * 2 := by omega
  rw [e0] at v0 v1
  match hq : (cs.toList.drop (i * 2)).take 2, hlen2 with
  | [c0, c1], _ =>
    rw [hq] at he g0 g1
    obtain ⟨h, rfl, rfl, hx1, _, _⟩ := hdr_reads he
    simp only [Prod.mk.injEq, DataW.agg.injEq] at hx
    have h9 := congrArg (fun l => l[i]?) hx.1
    simp only [List.getElem?_map, List.getElem?_eq_getElem hi, List.getElem?_eq_getElem hxi, Option.map_some, Option.some.injEq] at h9
    rw [hx1] at h9
    simp only [DataW.agg.injEq, List.cons.injEq, DataW.lit.injEq, Lit.string.injEq, and_true] at h9
    have b0 := bytes_inj h9.1
    have b1 := bytes_inj h9.2
    rw [e0, v0, v1, ← Array.getElem?_toList, ← Array.getElem?_toList, ← g0, ← g1, b0, b1]
    exact ⟨rfl, rfl⟩
end

set_option maxRecDepth 100000 in
theorem gl_of_laid {W : World} {laid : List (String × DataW Unit)} (h : laidMet Tryz.prog laid W)
    (m0 : ("sluice/blocks.byNumber", Rows.laid_sluice_blocks_byNumber) ∈ laid) (m1 : ("sluice/blocks.toAdd", Rows.laid_sluice_blocks_toAdd) ∈ laid) (m2 : ("sluice/blocks.toLimit", Rows.laid_sluice_blocks_toLimit) ∈ laid) (m3 : ("sluice/blocks.notToAdd", Rows.laid_sluice_blocks_notToAdd) ∈ laid)
    (m4 : ("sluice/blocks.plain", Rows.laid_sluice_blocks_plain) ∈ laid) (m5 : ("sluice/blocks.packed", Rows.laid_sluice_blocks_packed) ∈ laid) (m6 : ("sluice/blocks.fixed", Rows.laid_sluice_blocks_fixed) ∈ laid) : Gl W := by
  obtain ⟨ps, hL, _, _⟩ := h
  have fm : ∀ (nm : String) (gi : Nat) (d : DataW Unit) (a k : Int), (nm, d) ∈ laid → d = .agg [.lit (.int .u8 a), .lit (.int .i64 k)] → Tryz.prog.globalNamed nm = some gi → (Tryz.prog.globals[gi]?).map (·.type) = some 193 → W.cell? ⟨gi, 0, none⟩ = some (.int .u8 a) ∧ W.cell? ⟨gi, 1, none⟩ = some (.int .i64 k) := by
    intro nm gi d a k hm hd hg ht
    obtain ⟨g, t, cs, fuel, p, hg', ht', hv, hr⟩ := laid_mem hL hm
    obtain rfl := Option.some.inj (hg.symm.trans hg')
    obtain rfl := Option.some.inj (ht.symm.trans ht')
    rw [hd] at hr
    exact form_cells hg hv hr
  have q0 := fm _ 1 _ 128 7 m0 rfl (by kernel_rfl) (by kernel_rfl)
  have q1 := fm _ 2 _ 64 6 m1 rfl (by kernel_rfl) (by kernel_rfl)
  have q2 := fm _ 0 _ 32 5 m2 rfl (by kernel_rfl) (by kernel_rfl)
  have q3 := fm _ 3 _ 0 4 m3 rfl (by kernel_rfl) (by kernel_rfl)
  have q4 := fm _ 6 _ 0 7 m4 rfl (by kernel_rfl) (by kernel_rfl)
  have q5 := fm _ 5 _ 128 7 m5 rfl (by kernel_rfl) (by kernel_rfl)
  have q6 : ∀ i (h : i < fixed8.length), W.cell? ⟨4, 2 * i, none⟩ = some (.string fixed8[i].n) ∧ W.cell? ⟨4, 2 * i + 1, none⟩ = some (.string fixed8[i].v) := by
    obtain ⟨g, t, cs, fuel, p, hg', ht', hv, hr⟩ := laid_mem hL m6
    obtain rfl := Option.some.inj ((show Tryz.prog.globalNamed "sluice/blocks.fixed" = some 4 by kernel_rfl).symm.trans hg')
    obtain rfl := Option.some.inj ((show (Tryz.prog.globals[4]?).map (·.type) = some 221 by kernel_rfl).symm.trans ht')
    exact fixed_cells hg' hv hr
  have b0 := World.block_lt_of_cell? W _ q0.1
  have b1 := World.block_lt_of_cell? W _ q1.1
  have b2 := World.block_lt_of_cell? W _ q2.1
  have b3 := World.block_lt_of_cell? W _ q3.1
  have b4 := World.block_lt_of_cell? W _ q4.1
  have b5 := World.block_lt_of_cell? W _ q5.1
  have b6 := World.block_lt_of_cell? W _ (q6 0 (by decide)).1
  simp only at b0 b1 b2 b3 b4 b5 b6
  exact ⟨q2, q0, q3, q1, q5, q4, q6, by omega⟩
end Go.Proofs.YtlhlmgfblbpdpaaGreatDoor
/-
  Closed facts of the row boundedRow.
-/
namespace Go.Proofs.YtlhlmgfblbpdpaaGreatDoor
set_option maxRecDepth 100000

theorem boundedRow_laid : laidOutB Tryz.pinned.checked.prog = true := by kernel_rfl
theorem boundedRow_inP : (Rows.boundedRow.inPlace == Tryz.pinned.checked.prog.inPlace 3) = true := by kernel_rfl
end Go.Proofs.YtlhlmgfblbpdpaaGreatDoor
/-
  Closed facts of the row boundedRow.
-/
namespace Go.Proofs.YtlhlmgfblbpdpaaGreatDoor
set_option maxRecDepth 100000

theorem boundedRow_unf : (Rows.boundedRow.unfollowed == Tryz.pinned.checked.prog.unfollowed 3) = true := by kernel_rfl
theorem boundedRow_rec : (Rows.boundedRow.recurses == Tryz.pinned.checked.prog.recurses 3) = true := by kernel_rfl
end Go.Proofs.YtlhlmgfblbpdpaaGreatDoor
/-
  Closed facts of the row boundedRow.
-/
namespace Go.Proofs.YtlhlmgfblbpdpaaGreatDoor
set_option maxRecDepth 100000

theorem boundedRow_nam : (Rows.boundedRow.named == Tryz.pinned.checked.prog.varsNamed 3) = true := by kernel_rfl
theorem boundedRow_plk : (Rows.boundedRow.plainKeys == Tryz.pinned.checked.prog.plainKeys) = true := by kernel_rfl
theorem boundedRow_mapsR : mapsRowed Tryz.pinned.checked.prog = true := by kernel_rfl
end Go.Proofs.YtlhlmgfblbpdpaaGreatDoor
/-
  Closed facts of the row boundedRow.
-/
namespace Go.Proofs.YtlhlmgfblbpdpaaGreatDoor
set_option maxRecDepth 100000

theorem boundedRow_goes : false = Rows.boundedRow.goesBy Tryz.pinned.checked.prog := by kernel_rfl
theorem boundedRow_looks : true = Tryz.pinned.checked.prog.looks [] := by kernel_rfl
theorem boundedRow_wfT : Rows.boundedRow.wfByText (OpenSpec.ofChange Rows.boundedSpec) = true := by kernel_rfl
end Go.Proofs.YtlhlmgfblbpdpaaGreatDoor
/-
  Closed facts of the row boundedRow: all of them.
-/
namespace Go.Proofs.YtlhlmgfblbpdpaaGreatDoor
set_option maxRecDepth 100000

theorem boundedRow_and {a b : Bool} (h : a = true) (k : b = true) : (a && b) = true := by rw [h, k]; rfl
theorem boundedRow_wf : Rows.boundedRow.wf (OpenSpec.ofChange Rows.boundedSpec) = true := by kernel_rfl
theorem boundedRow_params : Tryz.f3.params.all (Tryz.pinned.checked.prog.readableRec ·) = true := by kernel_rfl
theorem boundedRow_tieN : namedTie Tryz.pinned.checked.prog Rows.boundedRow.named Rows.boundedSpec.vars = true := by kernel_rfl
theorem boundedRow_s1 : (Rows.boundedRow.stops == []) = true := by kernel_rfl
theorem boundedRow_s2 : (Tryz.pinned.checked.prog.stops == []) = true := by kernel_rfl
theorem boundedRow_s3 : (Rows.boundedRow.knobs == []) = true := by kernel_rfl
theorem boundedRow_s4 : (Tryz.pinned.checked.prog.stopKnobs == []) = true := by kernel_rfl
theorem boundedRow_maps : (Rows.boundedRow.maps == (Tryz.f3.params.toList ++ Rows.boundedSpec.plain.varTypes Tryz.pinned.checked.prog).any (Tryz.pinned.checked.prog.mapsRec ·)) = true := by kernel_rfl
theorem boundedRow_ifc : (Rows.boundedRow.ifaces == (Tryz.f3.params.toList ++ Rows.boundedSpec.plain.varTypes Tryz.pinned.checked.prog).any (Tryz.pinned.checked.prog.ifacesRec ·)) = true := by kernel_rfl
theorem boundedRow_mapO : (Rows.boundedRow.mapsOut == Tryz.pinned.checked.prog.mapsAmong Tryz.f3.resultTypes.toList) = true := by kernel_rfl
theorem boundedRow_loops : (Rows.boundedRow.loops == (Tryz.f3.params.toList ++ Rows.boundedSpec.plain.varTypes Tryz.pinned.checked.prog).any (Tryz.pinned.checked.prog.loopsFrom ·)) = true := by kernel_rfl
theorem boundedRow_wide : (Rows.boundedRow.wideKeys == (Tryz.f3.params.toList ++ Rows.boundedSpec.plain.varTypes Tryz.pinned.checked.prog ++ Tryz.f3.resultTypes.toList).any (Tryz.pinned.checked.prog.wideKeysFrom ·)) = true := by kernel_rfl
theorem boundedRow_vars : Rows.boundedSpec.vars.all (Tryz.pinned.checked.prog.varReadable ·) = true := by kernel_rfl
theorem boundedRow_resT : Tryz.f3.resultTypes.all (fun t => Tryz.pinned.checked.prog.readableRec t && decide (t < Tryz.pinned.checked.prog.types.size)) = true := by kernel_rfl
theorem boundedRow_ifO : (Rows.boundedRow.ifacesOut == Tryz.f3.resultTypes.toList.any (Tryz.pinned.checked.prog.ifacesRec ·)) = true := by kernel_rfl
theorem boundedRow_lpO : (Rows.boundedRow.loopsOut == Tryz.f3.resultTypes.toList.any (Tryz.pinned.checked.prog.loopsFrom ·)) = true := by kernel_rfl
theorem boundedRow_sht : Rows.boundedRow.shortTexts.isNone = true := by kernel_rfl
theorem boundedRow_hea : Tryz.pinned.checked.prog.stopsHeard = true := by kernel_rfl
theorem boundedRow_ent : Tryz.pinned.checked.prog.mayEnter = true := by kernel_rfl
theorem boundedRow_lif : (Rows.boundedRow.lifted == Tryz.pinned.checked.prog.liftsFinal) = true := by kernel_rfl
theorem boundedRow_mak : (Tryz.pinned.checked.prog.make == some Rows.boundedRow.make) = true := by kernel_rfl
theorem boundedRow_kin : (Rows.boundedRow.kinds == (if Rows.boundedRow.domain.isEmpty then [] else Tryz.f3.params.toList.map fun t => match Tryz.pinned.checked.prog.underlying t with | some (.int k) => some k | _ => none)) = true := by kernel_rfl
theorem boundedRow_pin : (Rows.boundedRow.pinned == Rows.boundedRow.pinnedBy) = true := by kernel_rfl
theorem boundedRow_vei : (Rows.boundedRow.veiled == (Tryz.f3.params.toList ++ Rows.boundedSpec.plain.varTypes Tryz.pinned.checked.prog ++ Tryz.f3.resultTypes.toList).any (Tryz.pinned.checked.prog.veiledRec ·)) = true := by kernel_rfl
theorem boundedRow_veF : Rows.boundedRow.veiledFits Tryz.pinned.checked.prog Tryz.f3.params.toList (Tryz.f3.params.toList ++ Rows.boundedSpec.plain.varTypes Tryz.pinned.checked.prog ++ Tryz.f3.resultTypes.toList) = true := by kernel_rfl
theorem boundedRow_closed : joinedFacts Tryz.pinned.checked.prog 3 Tryz.f3 Rows.boundedSpec Rows.boundedRow = true := (boundedRow_and (boundedRow_and (boundedRow_and (boundedRow_and (boundedRow_and (boundedRow_and (boundedRow_and (boundedRow_and (boundedRow_and (boundedRow_and (boundedRow_and (boundedRow_and (boundedRow_and (boundedRow_and (boundedRow_and (boundedRow_and (boundedRow_and (boundedRow_and (boundedRow_and (boundedRow_and (boundedRow_and (boundedRow_and (boundedRow_and (boundedRow_and (boundedRow_and (boundedRow_and (boundedRow_and (boundedRow_and (boundedRow_and (boundedRow_and (boundedRow_and boundedRow_wf boundedRow_laid) boundedRow_mapsR) boundedRow_params) boundedRow_tieN) boundedRow_s1) boundedRow_s2) boundedRow_s3) boundedRow_s4) boundedRow_inP) boundedRow_unf) boundedRow_rec) boundedRow_nam) boundedRow_maps) boundedRow_ifc) boundedRow_mapO) boundedRow_loops) boundedRow_wide) boundedRow_vars) boundedRow_resT) boundedRow_ifO) boundedRow_lpO) boundedRow_plk) boundedRow_sht) boundedRow_hea) boundedRow_ent) boundedRow_lif) boundedRow_mak) boundedRow_kin) boundedRow_pin) boundedRow_vei) boundedRow_veF)
end Go.Proofs.YtlhlmgfblbpdpaaGreatDoor
