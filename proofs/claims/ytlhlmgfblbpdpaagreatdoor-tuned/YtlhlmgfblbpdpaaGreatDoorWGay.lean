import Derived.Test.YtlhlmgfblbpdpaaGreatDoorWGaq
import Derived.Test.YtlhlmgfblbpdpaaGreatDoorWRcReads
import Derived.Test.YtlhlmgfblbpdpaaGreatDoorWGaw
import Derived.Test.YtlhlmgfblbpdpaaGreatDoorWGac
import Derived.BigRegion
set_option linter.unusedVariables false
set_option linter.unusedSimpArgs false
/-
  Windows of an end.
-/
namespace Go.Proofs.YtlhlmgfblbpdpaaGreatDoor
set_option linter.unusedVariables false
set_option linter.unusedSimpArgs false
open Go.RowKit

set_option maxRecDepth 100000 in
set_option maxHeartbeats 800000 in
theorem eWindows_conn (eb : Nat) (m : EndM) (w : World) (h : EnB w eb m) :
    Calls Tryz.prog 45 #[.pointer (some ⟨eb, 0, none⟩), .int .i64 0] w fun e w' => e = .returned (.tuple #[.int .i64 m.send, .int .i64 m.receive, .int .i64 0]) ∧ Below w.heap.size w w' := by
  have c4 := h.c4
  have c5 := h.c5
  clear h
  go_enter Tryz.func45, Tryz.ntmps45
  go_upto_region 2 with fail
  go_region_held3 (fun w' => w'.cell? ⟨eb, 4, none⟩ = some (.int .i64 m.send) ∧ w'.cell? ⟨eb, 5, none⟩ = some (.int .i64 m.receive)) (exact ⟨c4, c5⟩) (fail)
  all_goals go_wp2
  all_goals refine bodyPost_ret (v := .tuple #[.int .i64 m.send, .int .i64 m.receive, .int .i64 0]) ?_ rfl ⟨rfl, Below.drew (Below.refl _ _)⟩
  all_goals simp [results, Tryz.results45, go_sem]
set_option maxRecDepth 100000 in
set_option maxHeartbeats 800000 in
theorem eWindows_st (eb mb : Nat) (m : EndM) (K : List Str) (s : Int) (p : Str) (w : World) (h : EnB w eb m) (hm : m.known = .map (some mb)) (hK : KnownS w mb K) (hf : findK K s = some p) (h0 : s ≠ 0) (b1 : -1099511627776 ≤ m.own ∧ m.own ≤ 1099511627776) (b2 : -1099511627776 ≤ p.2.receive ∧ p.2.receive ≤ 1099511627776) (b3 : -1099511627776 ≤ m.other ∧ m.other ≤ 1099511627776) (b4 : -1099511627776 ≤ p.2.send ∧ p.2.send ≤ 1099511627776) :
    Calls Tryz.prog 45 #[.pointer (some ⟨eb, 0, none⟩), .int .i64 s] w fun e w' => e = .returned (.tuple #[.int .i64 (m.other + p.2.send), .int .i64 (m.own + p.2.receive), .int .i64 0]) ∧ Below w.heap.size w w' := by
  have c22 := h.c22
  rw [hm] at c22
  have hlk := hK.lookup s
  rw [hf] at hlk
  simp only [Option.map_some, ptrO] at hlk
  have hst := hK.st p (findK_mem hf).1
  have HS : Hid (∀ wx, Below w.heap.size w wx → Calls Tryz.prog 56 #[.pointer (some ⟨eb, 0, none⟩), .pointer (some ⟨p.1, 0, none⟩)] wx fun e w' => e = .returned (.int .i64 (m.other + p.2.send)) ∧ Below wx.heap.size wx w') := fun wx hb => sendWindow_any eb p.1 m p.2 wx (h.below hb) (hst.below hb) (by omega) (by omega) (by omega) (by omega)
  have HR : Hid (∀ wx, Below w.heap.size w wx → Calls Tryz.prog 57 #[.pointer (some ⟨eb, 0, none⟩), .pointer (some ⟨p.1, 0, none⟩)] wx fun e w' => e = .returned (.int .i64 (m.own + p.2.receive)) ∧ Below wx.heap.size wx w') := fun wx hb => receiveWindow_any eb p.1 m p.2 wx (h.below hb) (hst.below hb) (by omega) (by omega) (by omega) (by omega)
  obtain ⟨pb, st⟩ := p
  simp only at hlk HS HR
  have hs0 : (s == 0) = false := by simp [h0]
  clear h hm hK hf hst b1 b2 b3 b4
  go_enter Tryz.func45, Tryz.ntmps45
  go_wp2_with fail
  refine (HS.out _ (Below.refl _ _)).mono ?_
  rintro e w1 ⟨rfl, hb1⟩
  have HB1 := hide hb1
  clear hb1
  go_wp2_with fail
  refine (HR.out w1 HB1.out).mono ?_
  rintro e w2 ⟨rfl, hb2⟩
  have HB2 := hide (HB1.out.trans (hb2.mono HB1.out.size))
  clear hb2
  go_wp2
  refine bodyPost_ret (v := .tuple #[.int .i64 (m.other + st.send), .int .i64 (m.own + st.receive), .int .i64 0]) ?_ rfl ⟨rfl, HB2.out⟩
  simp [results, Tryz.results45, go_sem]
set_option maxHeartbeats 400000 in
theorem xWindows_of (eb : Nat) (n a b : Int) (w : World) (h : Calls Tryz.prog 45 #[.pointer (some ⟨eb, 0, none⟩), .int .i64 n] w fun e w' => e = .returned (.tuple #[.int .i64 a, .int .i64 b, .int .i64 0]) ∧ Below w.heap.size w w') :
    Calls Tryz.prog 34 #[.pointer (some ⟨eb, 0, none⟩), .int .i64 n] w fun e w' => e = .returned (.tuple #[.int .i64 a, .int .i64 b, .int .i64 0]) ∧ Below w.heap.size w w' := by
  have HC := hide h
  clear h
  go_enter Tryz.func34, Tryz.ntmps34
  go_wp2_with fail
  refine HC.out.mono ?_
  rintro e w' ⟨rfl, h⟩
  have H := hide h
  clear h
  go_wp2
  refine bodyPost_ret (v := .tuple #[.int .i64 a, .int .i64 b, .int .i64 0]) ?_ rfl ⟨rfl, H.out⟩
  simp [results, Tryz.results34, go_sem]
section
variable {w w' : World} {eb : Nat} {F : Nat → Prop} {p : GEnd}
theorem c_windows0 (h : StE w eb F p) : Calls Tryz.prog 34 #[.pointer (some ⟨eb, 0, none⟩), .int .i64 0] w fun e w' => e = .returned (.tuple #[.int .i64 p.m.send, .int .i64 p.m.receive, .int .i64 0]) ∧ Below w.heap.size w w' := by
  obtain ⟨mb, g, hi, hrd, hp, hF⟩ := h
  have := xWindows_of eb 0 _ _ w (eWindows_conn eb g.m w hi.en)
  rw [show g.m.send = p.m.send from by rw [← hp]; rfl, show g.m.receive = p.m.receive from by rw [← hp]; rfl] at this
  exact this
theorem c_windows {s : GSt} (h : StE w eb F p) (hs : s ∈ p.K) (h0 : s.st.number ≠ 0) (b1 : -1099511627776 ≤ p.m.own ∧ p.m.own ≤ 1099511627776) (b2 : -1099511627776 ≤ s.st.receive ∧ s.st.receive ≤ 1099511627776) (b3 : -1099511627776 ≤ p.m.other ∧ p.m.other ≤ 1099511627776) (b4 : -1099511627776 ≤ s.st.send ∧ s.st.send ≤ 1099511627776) :
    Calls Tryz.prog 34 #[.pointer (some ⟨eb, 0, none⟩), .int .i64 s.st.number] w fun e w' => e = .returned (.tuple #[.int .i64 (p.m.other + s.st.send), .int .i64 (p.m.own + s.st.receive), .int .i64 0]) ∧ Below w.heap.size w w' := by
  obtain ⟨mb, g, hi, hrd, hp, hF⟩ := h
  obtain ⟨x, hx, rfl, hfi⟩ := stE_at hi hp hs
  have e1 : g.m.own = p.m.own := by rw [← hp]; rfl
  have e2 : g.m.other = p.m.other := by rw [← hp]; rfl
  have := xWindows_of eb _ _ _ w (eWindows_st eb mb g.m _ x.st.number x.str w hi.en hi.km hi.kn hfi h0 (by rw [e1]; exact b1) b2 (by rw [e2]; exact b3) b4)
  rw [e1, e2] at this
  exact this
end
end Go.Proofs.YtlhlmgfblbpdpaaGreatDoor
/-
  Receive: the law's shown.
-/
namespace Go.Proofs.YtlhlmgfblbpdpaaGreatDoor
set_option linter.unusedVariables false
set_option linter.unusedSimpArgs false
open Go.RowKit

set_option maxRecDepth 100000 in
set_option maxHeartbeats 3200000 in
theorem kshown_X (xb eb : Nat) (F : Nat → Prop) (x : XM) (d : Dn) (s : Nat → Sn) (N : Nat) (w : World) (h : In w xb eb F x (gQ x.dead x.cf d s)) (hr : Rel N x d s) (hN : N ≤ 9007199254740992) :
    Calls Tryz.prog 15 #[.pointer (some ⟨xb, 0, none⟩)] w fun e w' => e = .returned (.bool true) ∧ Below w.heap.size w w' := by
  obtain ⟨pv, k1, k2, k3⟩ := h.xi
  have HI := hide h
  have HX := hide k1
  have HBD := hide (hr.bd hN)
  have HWI : Hid (∀ j : Nat, j < 4 → ∀ wv, Below w.heap.size w wv → Calls Tryz.prog 34 #[.pointer (some ⟨eb, 0, none⟩), .int .i64 (2 * (j : Int) + 1)] wv fun e w' => e = .returned (.tuple #[.int .i64 0, .int .i64 (x.force + (x.ln j).credit - (x.ln j).bodies), .int .i64 0]) ∧ Below wv.heap.size wv w') := fun j hj wv hb => by
    have hl := hr.lns j hj
    have hl1 := hl.owd1
    have hw := hr.own; have hw0 := hr.own0; have hw1 := hr.own1
    have hc := c_windows (s := stD (nr j) (s j)) (h.below hb).st (by rw [gQ_K]; exact kD_mem s hj) (by show nr j ≠ 0; unfold nr; omega) (by rw [gQ_own]; omega) (by show -1099511627776 ≤ (s j).receive ∧ (s j).receive ≤ 1099511627776; omega) (by rw [gQ_other]; omega) (by show -1099511627776 ≤ (0 : Int) ∧ (0 : Int) ≤ 1099511627776; omega)
    rw [gQ_other, gQ_own] at hc
    have e1 : (0 : Int) + (stD (nr j) (s j)).st.send = 0 := rfl
    have e2 : d.own + (stD (nr j) (s j)).st.receive = x.force + (x.ln j).credit - (x.ln j).bodies := by
      show d.own + (s j).receive = _
      have := hl.rcv
      omega
    rw [e1, e2] at hc
    exact hc
  have HW0 : Hid (∀ wv, Below w.heap.size w wv → ∃ a, Calls Tryz.prog 34 #[.pointer (some ⟨eb, 0, none⟩), .int .i64 0] wv fun e w' => e = .returned (.tuple #[.int .i64 a, .int .i64 (32 + x.credit - x.bodies), .int .i64 0]) ∧ Below wv.heap.size wv w') := fun wv hb => by
    have hc := c_windows0 (h.below hb).st
    rw [gQ_receive, hr.rcv] at hc
    exact ⟨_, hc⟩
  clear h hr k1 k2 k3
  go_enter Tryz.func15, Tryz.ntmps15
  go_wp2
  go_loopw [3] (fun ix wr => ∃ (n : Nat) (wv : World), wv = wr ∧ ix = .int .i64 (n : Int) ∧ n ≤ 4 ∧ Below w.heap.size w wv) (fun ix _ => 4 - (intOf ix).toNat)
  case atStart => exact ⟨0, _, rfl, rfl, by omega, Below.refl _ _⟩
  case round =>
    obtain ⟨n, wv, hwv, rfl, hn4, hbv⟩ := hrel
    subst hwv
    have HBV := hide hbv
    have hxv := HX.out.below hbv
    by_cases hn : n < 4
    · have HR := hide (kroom_X xb _ pv x n wv hxv HBD.out hn)
      have hkL : (n : Int) < 4 := by omega
      have hj2 : IntKind.i64.wrap (2 * (n : Int)) = 2 * (n : Int) := by rw [IntKind.wrap_i64]; omega
      have hj3 : IntKind.i64.wrap (2 * (n : Int) + 1) = 2 * (n : Int) + 1 := by rw [IntKind.wrap_i64]; omega
      clear hbv hxv
      go_wp2_with fail
      refine HR.out.mono ?_
      rintro e w1 ⟨rfl, hb1⟩
      have hb1' := HBV.out.trans (hb1.mono HBV.out.size)
      have HB1 := hide hb1'
      have HW1 := hide (HWI.out n hn w1 hb1')
      have y0 : w1.cell? ⟨xb, 0, none⟩ = some (.pointer (some ⟨eb, 0, none⟩)) := (HX.out.below hb1').c0
      clear hb1 hb1'
      generalize x.force + (x.ln n).credit - (x.ln n).bodies = rm at *
      go_wp2_with fail
      refine HW1.out.mono ?_
      rintro e w2 ⟨rfl, hb2⟩
      have HB2 := hide (HB1.out.trans (hb2.mono HB1.out.size))
      clear hb2
      go_wp2
      all_goals go_roundw
      case rel => exact ⟨n + 1, _, rfl, by go_num, by omega, HB2.out⟩
      case measure => simp [intOf]; omega
    · have hn0 : n = 4 := by omega
      subst hn0
      have HA := hide (kall_X xb _ pv x wv hxv HBD.out)
      clear hbv hxv hn
      go_wp2_with fail
      refine HA.out.mono ?_
      rintro e w1 ⟨rfl, hb1⟩
      have hb1' := HBV.out.trans (hb1.mono HBV.out.size)
      have HB1 := hide hb1'
      obtain ⟨a, hw0⟩ := HW0.out w1 hb1'
      have HW1 := hide hw0
      have y0 : w1.cell? ⟨xb, 0, none⟩ = some (.pointer (some ⟨eb, 0, none⟩)) := (HX.out.below hb1').c0
      clear hb1 hb1' hw0
      generalize 32 + x.credit - x.bodies = al at *
      go_wp2_with fail
      refine HW1.out.mono ?_
      rintro e w2 ⟨rfl, hb2⟩
      have HB2 := hide (HB1.out.trans (hb2.mono HB1.out.size))
      clear hb2
      go_wp2
      go_ret
      exact ⟨rfl, HB2.out⟩
end Go.Proofs.YtlhlmgfblbpdpaaGreatDoor
/-
  Receive: the law's answers.
-/
namespace Go.Proofs.YtlhlmgfblbpdpaaGreatDoor
set_option linter.unusedVariables false
set_option linter.unusedSimpArgs false
open Go.RowKit

set_option maxRecDepth 100000 in
set_option maxHeartbeats 3200000 in
theorem kanswers_set (xb eb : Nat) (F : Nat → Prop) (x : XM) (d : Dn) (s : Nat → Sn) (N : Nat) (w : World) (h : In w xb eb F x (gD x.cf d s [])) (hr : Rel N x d s) (hwt : x.waits = true) :
    Calls Tryz.prog 33 #[.pointer (some ⟨xb, 0, none⟩), .bool true] w fun e w' => e = .returned (.bool true) ∧ GoI w w' xb eb F { x with waits := false, force := x.told } (gD x.cf { d with waits := false, own := d.made } s []) := by
  obtain ⟨pv, k1, k2, k3⟩ := h.xi
  have x23 : w.cell? ⟨xb, 23, none⟩ = some (.bool true) := by rw [k1.c23, hwt]
  have x22 : w.cell? ⟨xb, 22, none⟩ = some (.int .i64 x.told) := k1.c22
  have x21 : w.cell? ⟨xb, 21, none⟩ = some (.int .i64 x.force) := k1.c21
  have f23 := k1.fr 23
  have f21 := k1.fr 21
  have k4 : XI (w.setCell ⟨xb, 23, none⟩ (.bool false)) xb (.pointer (some ⟨eb, 0, none⟩)) { x with waits := false } pv := k1.set (by simp [XM.cells])
  have k5 : XI ((w.setCell ⟨xb, 23, none⟩ (.bool false)).setCell ⟨xb, 21, none⟩ (.int .i64 x.told)) xb (.pointer (some ⟨eb, 0, none⟩)) { x with waits := false, force := x.told } pv := k4.set (by simp [XM.cells])
  have hc5 : Chg (fun j => j = xb) w ((w.setCell ⟨xb, 23, none⟩ (.bool false)).setCell ⟨xb, 21, none⟩ (.int .i64 x.told)) := chg_set (chg_set (Chg.refl _ _) rfl) rfl
  obtain ⟨w2, hw2⟩ : ∃ w2, w2 = (w.setCell ⟨xb, 23, none⟩ (.bool false)).setCell ⟨xb, 21, none⟩ (.int .i64 x.told) := ⟨_, rfl⟩
  rw [← hw2] at k5 hc5
  obtain ⟨F2, hin2, hch2, hF2⟩ := h.write hc5 k5 k2 k3
  have hd2 : Below w2.heap.size w2 w2.drew := Below.drew (Below.refl _ _)
  have HL := hide (klay_X (w1 := w2.drew) (sa := none) (cap := 0) (body := []) hin2 (Or.inl ⟨rfl, feed_ackD hr hwt, rfl⟩) hd2 (by omega) (by omega) (by omega) (by omega) (by omega) (by omega) (by simp) (Or.inl ⟨rfl, rfl⟩))
  have HEND : Hid (∀ w4, GoI w2 w4 xb eb F2 { x with waits := false, force := x.told } (gD x.cf { d with waits := false, own := d.made } s []) → GoI w w4 xb eb F { x with waits := false, force := x.told } (gD x.cf { d with waits := false, own := d.made } s [])) := fun w4 hg => GoI.then hch2 hF2 hg
  have y0 : w2.cell? ⟨xb, 0, none⟩ = some (.pointer (some ⟨eb, 0, none⟩)) := k5.c0
  have HX := hide (k5.below hd2)
  have HW2 := hide hw2
  clear h hr hwt k1 k2 k3 k4 k5 hc5 hw2 hin2 hch2 hF2 hd2
  go_enter Tryz.func33, Tryz.ntmps33
  go_upto_region 6 with fail
  rw [← HW2.out]
  clear x23 x22 x21 f23 f21
  go_region_law (first
    | (refine step_call rfl 11 Tryz.f11 Tryz.func11 (by kernel_rfl) rfl [.const (.int .i64 3), .const (.int .i64 1), .const (.int .i64 0), .const (.slice none 0 0)] #[3, 3, 3, 43] rfl [.int .i64 3, .int .i64 1, .int .i64 0, .slice none 0 0] (by simp [Act.eval, Act.put]) HL.out ?_; rintro e w3 ⟨v, rfl, hb3, hfd⟩; refine ⟨_, rfl, ?_⟩; have HFD := hide (hfd w3 (Below.refl _ _)); have z0 : w3.cell? ⟨xb, 0, none⟩ = some (.pointer (some ⟨eb, 0, none⟩)) := (HX.out.below hb3).c0; clear hb3 hfd)
    | (refine step_call rfl 10 Tryz.f10 Tryz.func10 (by kernel_rfl) rfl [.tmp 27, .tmp 28] #[32, 43] rfl [.pointer (some ⟨eb, 0, none⟩), v] (by simp [Act.eval, Act.put]) HFD.out ?_; rintro e w4 ⟨rfl, hgo⟩; refine ⟨_, rfl, ?_⟩; have HGO := hide hgo; clear hgo))
  all_goals go_wp2
  all_goals go_ret
  all_goals exact ⟨rfl, HEND.out _ HGO.out⟩
set_option maxRecDepth 100000 in
set_option maxHeartbeats 800000 in
theorem kanswers_none (xb eb : Nat) (F : Nat → Prop) (x : XM) (p : GEnd) (b : Bool) (w : World) (h : In w xb eb F x p) (hwt : if b then x.waits = false else x.pn = none) :
    Calls Tryz.prog 33 #[.pointer (some ⟨xb, 0, none⟩), .bool b] w fun e w' => e = .returned (.bool true) ∧ w' = w := by
  obtain ⟨pv, k1, k2, k3⟩ := h.xi
  cases b with
  | true =>
    simp only [if_true] at hwt
    have x23 : w.cell? ⟨xb, 23, none⟩ = some (.bool false) := by rw [k1.c23, hwt]
    clear h k1 k2 k3 hwt
    go_enter Tryz.func33, Tryz.ntmps33
    go_wp2
    go_ret
    exact ⟨rfl, rfl⟩
  | false =>
    simp only [Bool.false_eq_true, if_false] at hwt
    rw [hwt] at k2
    have k2 : pv = .slice none 0 0 := k2
    subst k2
    have x27 : w.cell? ⟨xb, 27, none⟩ = some (.slice none 0 0) := k1.c27
    clear h k1 k3 hwt
    go_enter Tryz.func33, Tryz.ntmps33
    go_wp2
    go_ret
    exact ⟨rfl, rfl⟩
set_option maxRecDepth 100000 in
set_option maxHeartbeats 3200000 in
theorem kanswers_ping (xb eb : Nat) (F : Nat → Prop) (x : XM) (d : Dn) (s : Nat → Sn) (N n : Nat) (w : World) (h : In w xb eb F x (gD x.cf d s [])) (hr : Rel N x d s) (hn : x.pn = some n) :
    Calls Tryz.prog 33 #[.pointer (some ⟨xb, 0, none⟩), .bool false] w fun e w' => e = .returned (.bool true) ∧ GoI w w' xb eb F { x with pn := none } (gD x.cf (d.pong x.cf.k) s []) := by
  obtain ⟨pv, k1, k2, k3⟩ := h.xi
  rw [hn] at k2
  obtain ⟨pb, cap, hpv, hcp, hpl, hpc⟩ := k2
  subst hpv
  have x27 : w.cell? ⟨xb, 27, none⟩ = some (.slice (some ⟨pb, 0, none⟩) 1 cap) := k1.c27
  have f27 := k1.fr 27
  have k4 : XI (w.setCell ⟨xb, 27, none⟩ (.slice none 0 0)) xb (.pointer (some ⟨eb, 0, none⟩)) { x with pn := none } (.slice none 0 0) := k1.set (by simp [XM.cells])
  have hc4 : Chg (fun j => j = xb) w (w.setCell ⟨xb, 27, none⟩ (.slice none 0 0)) := chg_set (Chg.refl _ _) rfl
  obtain ⟨w2, hw2⟩ : ∃ w2, w2 = w.setCell ⟨xb, 27, none⟩ (.slice none 0 0) := ⟨_, rfl⟩
  rw [← hw2] at k4 hc4
  obtain ⟨F2, hin2, hch2, hF2⟩ := h.write hc4 k4 (show PnV w (.slice none 0 0) none from rfl) (fun j hj => by simp [Value.ownBlock] at hj)
  have hd2 : Below w2.heap.size w2 w2.drew := Below.drew (Below.refl _ _)
  have hnl : n < 4294967296 := by have := h; have := hr.pinged hn; have := hr.pnm; omega
  have HF4 := hide (kfour_any n w2.drew (by omega))
  have HL : Hid (∀ w3 v cap, Below w2.heap.size w2 w3 → BytesIn w3 (.slice v 4 cap) (four4 n) → Calls Tryz.prog 11 #[.int .i64 4, .int .i64 1, .int .i64 0, .slice v 4 cap] w3 fun e w' => ∃ v, e = .returned v ∧ Below w3.heap.size w3 w' ∧ ∀ w2', Below w'.heap.size w' w2' → Calls Tryz.prog 10 #[.pointer (some ⟨eb, 0, none⟩), v] w2' fun e w'' => e = .returned (.int .i64 0) ∧ GoI w2 w'' xb eb F2 { x with pn := none } (gD x.cf (d.pong x.cf.k) s [])) := fun w3 v cap hb hby =>
    klay_X (w1 := w3) (sa := v) (cap := cap) (body := four4 n) hin2 (Or.inl ⟨rfl, feed_pongD hr hn, rfl⟩) hb (by omega) (by omega) (by omega) (by omega) (by omega) (by omega) (by simp [four4]) hby
  have HEND : Hid (∀ w4, GoI w2 w4 xb eb F2 { x with pn := none } (gD x.cf (d.pong x.cf.k) s []) → GoI w w4 xb eb F { x with pn := none } (gD x.cf (d.pong x.cf.k) s [])) := fun w4 hg => GoI.then hch2 hF2 hg
  have y0 : w2.cell? ⟨xb, 0, none⟩ = some (.pointer (some ⟨eb, 0, none⟩)) := k4.c0
  have HX := hide (k4.below hd2)
  have HW2 := hide hw2
  have HD2 := hide hd2
  clear h hr hn k1 k3 k4 hc4 hw2 hin2 hch2 hF2 hd2
  go_enter Tryz.func33, Tryz.ntmps33
  go_upto_region 12 with fail
  rw [← HW2.out]
  clear x27 f27 hpc hpl hcp
  go_region_law (first
    | (refine step_call rfl 20 Tryz.f20 Tryz.func20 (by kernel_rfl) rfl [.tmp 51] #[3] rfl [.int .i64 (n : Int)] (by simp [Act.eval, Act.put]) HF4.out ?_; rintro e w3 ⟨rfl, hby3, hb3⟩; refine ⟨_, rfl, ?_⟩; have hbx3 := HD2.out.trans (hb3.mono HD2.out.size); have HL3 := hide (HL.out w3 _ _ hbx3 hby3); have HX3 := hide (HX.out.below hb3); have z0 : w3.cell? ⟨xb, 0, none⟩ = some (.pointer (some ⟨eb, 0, none⟩)) := (HX.out.below hb3).c0; clear hby3 hb3 hbx3)
    | (refine step_call rfl 11 Tryz.f11 Tryz.func11 (by kernel_rfl) rfl [.const (.int .i64 4), .const (.int .i64 1), .const (.int .i64 0), .tmp 52] #[3, 3, 3, 43] rfl [.int .i64 4, .int .i64 1, .int .i64 0, .slice (some ⟨w2.drew.heap.size, 0, none⟩) 4 4] (by simp [Act.eval, Act.put]) HL3.out ?_; rintro e w4 ⟨v, rfl, hb4, hfd⟩; refine ⟨_, rfl, ?_⟩; have HFD := hide (hfd w4 (Below.refl _ _)); have z0 : w4.cell? ⟨xb, 0, none⟩ = some (.pointer (some ⟨eb, 0, none⟩)) := (HX3.out.below hb4).c0; clear hb4 hfd)
    | (refine step_call rfl 10 Tryz.f10 Tryz.func10 (by kernel_rfl) rfl [.tmp 50, .tmp 53] #[32, 43] rfl [.pointer (some ⟨eb, 0, none⟩), v] (by simp [Act.eval, Act.put]) HFD.out ?_; rintro e w5 ⟨rfl, hgo⟩; refine ⟨_, rfl, ?_⟩; have HGO := hide hgo; clear hgo))
  all_goals go_wp2
  all_goals go_ret
  all_goals exact ⟨rfl, HEND.out _ HGO.out⟩
end Go.Proofs.YtlhlmgfblbpdpaaGreatDoor
