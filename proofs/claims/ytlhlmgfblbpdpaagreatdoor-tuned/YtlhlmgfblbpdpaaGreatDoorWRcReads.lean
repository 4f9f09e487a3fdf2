import Derived.Test.YtlhlmgfblbpdpaaGreatDoorWGaw
set_option linter.unusedVariables false
set_option linter.unusedSimpArgs false
/-
  Receive: the law's reads, of an end that lives or is dead.
-/
namespace Go.Proofs.YtlhlmgfblbpdpaaGreatDoor
set_option linter.unusedVariables false
set_option linter.unusedSimpArgs false
open Go.RowKit

/-- The end, dead by FaultFlow. -/
def gDd (cf : Cf) (d : Dn) (s : Nat → Sn) : GEnd := ⟨(mD cf d).died 12, kD s, [1, 3, 5, 7], [], [], [], []⟩
theorem died_gD (cf : Cf) (d : Dn) (s : Nat → Sn) : (gD cf d s []).died 12 = gDd cf d s := by
  unfold GEnd.died gDd
  simp [gD, muteN, kD, stD, StM.fresh, GSt.mute]
def gQ (b : Bool) (cf : Cf) (d : Dn) (s : Nat → Sn) : GEnd := if b then gDd cf d s else gD cf d s []
section
variable {b : Bool} {cf : Cf} {d : Dn} {s : Nat → Sn}
theorem gQ_K : (gQ b cf d s).K = kD s := by cases b <;> rfl
theorem gQ_got : (gQ b cf d s).got = [] := by cases b <;> rfl
theorem gQ_owed : (gQ b cf d s).m.owed = d.owed := by cases b <;> rfl
theorem gQ_own : (gQ b cf d s).m.own = d.own := by cases b <;> rfl
theorem gQ_receive : (gQ b cf d s).m.receive = d.receive := by cases b <;> rfl
theorem gQ_other : (gQ b cf d s).m.other = 0 := by cases b <;> rfl
theorem gQ_fault : (gQ b cf d s).m.fault = if b then 12 else 0 := by cases b <;> rfl
def readS (s : Nat → Sn) (j n : Nat) : Nat → Sn := updL s j ⟨(s j).receive, (s j).owed + n, (s j).un.drop n⟩
theorem gQ_read {j n : Nat} (hj : j < 4) : ({ gQ b cf d s with m := (gQ b cf d s).m.owes n, K := updN (nr j) (fun y => y.took n) (gQ b cf d s).K } : GEnd) = gQ b cf (d.owes n) (readS s j n) := by
  rw [gQ_K, kD_upd s hj (fun y => y.took n) ⟨(s j).receive, (s j).owed + n, (s j).un.drop n⟩ rfl]
  cases b <;> rfl
end
theorem XM.read_zero (x : XM) (j : Nat) : x.read j 0 = x := by
  unfold XM.read
  have : updL x.ln j { x.ln j with read := (x.ln j).read + 0 } = x.ln := by
    funext n
    unfold updL
    split
    · next e => subst e; rfl
    · rfl
  rw [this]
theorem readS_zero (s : Nat → Sn) (j : Nat) : readS s j 0 = s := by
  unfold readS
  funext n
  unfold updL
  split
  · next e => subst e; simp
  · rfl
theorem owes_zeroD (d : Dn) : d.owes 0 = d := by unfold Dn.owes; simp
/-- How the law's Read ends. -/
theorem read_any {w : World} {xb eb : Nat} {F : Nat → Prop} {x : XM} {d : Dn} {s : Nat → Sn} {N j : Nat} {n : Int} (h : In w xb eb F x (gQ x.dead x.cf d s)) (hr : Rel N x d s) (hj : j < 4) (hn : 0 ≤ n) (hl : x.dead = false ∨ 0 < (s j).un.length) :
    Calls Tryz.prog 35 #[.pointer (some ⟨eb, 0, none⟩), .int .i64 (2 * (j : Int) + 1), .int .i64 n] w fun e w' => (∃ a, e = .returned (.tuple #[.slice a (cutN n (s j).un.length) (cutN n (s j).un.length), .bool false, .int .i64 0]) ∧ BytesIn w' (.slice a (cutN n (s j).un.length) (cutN n (s j).un.length)) ((s j).un.take (cutN n (s j).un.length))) ∧ GoI w w' xb eb F x (gQ x.dead x.cf (d.owes (cutN n (s j).un.length)) (readS s j (cutN n (s j).un.length))) := by
  have hl1 := (hr.lns j hj).owd1
  have hl0 := (hr.lns j hj).owd0
  have ho := hr.owd1
  have ho0 := hr.owd0
  have hc := c_read_any (s := stD (nr j) (s j)) (n := n) h.st (by rw [gQ_K]; exact kD_mem s hj) (by
    rcases hl with e | e
    · left; rw [gQ_fault, e]; rfl
    · right; right; exact e) gQ_got rfl hn (by show (s j).un.length ≤ _; omega) (by rw [gQ_owed]; omega) (by show -1099511627776 ≤ (s j).owed ∧ (s j).owed ≤ 1099511627776; omega)
  rw [show (stD (nr j) (s j)).st.number = nr j from rfl, show (stD (nr j) (s j)).un = (s j).un from rfl, gQ_read hj] at hc
  refine hc.mono ?_
  rintro e w' ⟨⟨a, rfl, hby⟩, hgo⟩
  exact ⟨⟨a, rfl, hby⟩, h.ends hgo⟩
theorem read_dead {w : World} {xb eb : Nat} {F : Nat → Prop} {x : XM} {d : Dn} {s : Nat → Sn} {j : Nat} {n : Int} (h : In w xb eb F x (gQ x.dead x.cf d s)) (hj : j < 4) (hn : 0 ≤ n) (hd : x.dead = true) (hu : (s j).un = []) :
    Calls Tryz.prog 35 #[.pointer (some ⟨eb, 0, none⟩), .int .i64 (2 * (j : Int) + 1), .int .i64 n] w fun e w' => e = .returned (.tuple #[.slice none 0 0, .bool false, .int .i64 7]) ∧ w' = w :=
  d_read_none (s := stD (nr j) (s j)) (n := n) h.st (by rw [gQ_K]; exact kD_mem s hj) (by rw [gQ_fault, hd]; decide) rfl rfl hu hn
theorem extract_text (l : List UInt8) (a m : Nat) : (⟨l.toArray⟩ : ByteArray).extract a (a + m) = ⟨((l.drop a).take m).toArray⟩ := by
  apply ByteArray.ext
  rw [ByteArray.data_extract]
  apply Array.ext'
  simp [List.take_drop]
set_option maxRecDepth 100000 in
set_option maxHeartbeats 6400000 in
theorem kreads_0 (xb eb : Nat) (F : Nat → Prop) (x : XM) (d : Dn) (s : Nat → Sn) (N : Nat) (n : Int) (w : World) (h : In w xb eb F x (gQ x.dead x.cf d s)) (hr : Rel N x d s) (hN : N ≤ 9007199254740992) (hn : 0 ≤ n) (hn2 : n ≤ 1099511627776) :
    Calls Tryz.prog 16 #[.pointer (some ⟨xb, 0, none⟩), .int .i64 0, .int .i64 n] w fun e w' => e = .returned (.bool true) ∧ GoI w w' xb eb F (x.read 0 (cutN n (s 0).un.length)) (gQ x.dead x.cf (d.owes (cutN n (s 0).un.length)) (readS s 0 (cutN n (s 0).un.length))) := by
  obtain ⟨pv, k1, k2, k3⟩ := h.xi
  have hlr := hr.lns 0 (by omega)
  have hrd := hlr.rd
  have hun : (s 0).un.length = (x.ln 0).text.length - (x.ln 0).read := by rw [hlr.un, List.length_drop]
  have htb := ((hr.bd hN).lt 0 (by omega)).2
  have x0 : w.cell? ⟨xb, 0, none⟩ = some (.pointer (some ⟨eb, 0, none⟩)) := k1.c0
  have q0 : w.cell? ⟨xb, 5, none⟩ = some (.string ⟨(x.ln 0).text.toArray⟩) := k1.c5
  have q1 : w.cell? ⟨xb, 6, none⟩ = some (.int .i64 (x.ln 0).read) := k1.c6
  have q2 : w.cell? ⟨xb, 7, none⟩ = some (.int .i64 (x.ln 0).bodies) := k1.c7
  have q3 : w.cell? ⟨xb, 8, none⟩ = some (.int .i64 (x.ln 0).credit) := k1.c8
  obtain ⟨w0, hw0⟩ : ∃ w0, w0 = w.alloc (.cells #[.string ⟨(x.ln 0).text.toArray⟩, .int .i64 (x.ln 0).read, .int .i64 (x.ln 0).bodies, .int .i64 (x.ln 0).credit] 34) := ⟨_, rfl⟩
  have hlb : w0.heap[w.heap.size]? = some (.cells #[.string ⟨(x.ln 0).text.toArray⟩, .int .i64 (x.ln 0).read, .int .i64 (x.ln 0).bodies, .int .i64 (x.ln 0).credit] 34 (0, 0)) := by rw [hw0]; exact heap_alloc_new w _
  have hb0 : Below w.heap.size w w0 := by rw [hw0]; exact (Below.refl _ _).alloc (Nat.le_refl _) _
  have hin0 := h.below hb0
  have z0 : w0.cell? ⟨xb, 0, none⟩ = some (.pointer (some ⟨eb, 0, none⟩)) := (k1.below hb0).c0
  have z30 : w0.cell? ⟨xb, 30, none⟩ = some (.bool x.dead) := (k1.below hb0).c30
  have l0 : w0.cell? ⟨w.heap.size, 0, none⟩ = some (.string ⟨(x.ln 0).text.toArray⟩) := by rw [cell_of_row _ _ _ _ _ _ hlb]; rfl
  have l1 : w0.cell? ⟨w.heap.size, 1, none⟩ = some (.int .i64 (x.ln 0).read) := by rw [cell_of_row _ _ _ _ _ _ hlb]; rfl
  have htz : (ByteArray.mk (x.ln 0).text.toArray).size = (x.ln 0).text.length := by simp [ByteArray.size]
  have hwL : ((x.ln 0).text.length : Int) - ((x.ln 0).read : Int) = (((x.ln 0).text.length - (x.ln 0).read : Nat) : Int) := by omega
  by_cases hd : x.dead = true ∧ (s 0).un = []
  · obtain ⟨hd1, hd2⟩ := hd
    have HR := hide (read_dead (n := n) hin0 (j := 0) (by omega) hn hd1 hd2)
    have hrl : (x.ln 0).read = (x.ln 0).text.length := by rw [hd2] at hun; simp at hun; omega
    have HG : Hid (GoI w w0 xb eb F (x.read 0 (cutN n (s 0).un.length)) (gQ x.dead x.cf (d.owes (cutN n (s 0).un.length)) (readS s 0 (cutN n (s 0).un.length)))) := by
      have e0 : cutN n (s 0).un.length = 0 := by rw [hd2]; unfold cutN; simp; omega
      rw [e0, XM.read_zero, readS_zero, owes_zeroD]
      exact GoI.of_below h hb0
    rw [hd1] at z30
    have HW0 := hide hw0
    clear h hr k1 k2 k3 hlr hun hin0 hb0 hlb hw0 hd2 hwL
    generalize (x.ln 0).text.length = TL at *
    generalize (x.ln 0).read = RD at *
    subst hrl
    go_enter Tryz.func16, Tryz.ntmps16
    go_upto_region 2 with fail
    rw [← HW0.out]
    go_wp2_with fail
    refine HR.out.mono ?_
    rintro e w' ⟨rfl, hw'⟩
    rw [hw']
    clear hw' w'
    go_wp2
    go_ret
    exact ⟨rfl, HG.out⟩
  · have hl : x.dead = false ∨ 0 < (s 0).un.length := by
      cases hdd : x.dead with
      | false => exact Or.inl rfl
      | true =>
        right
        have : (s 0).un ≠ [] := fun e => hd ⟨hdd, e⟩
        exact List.length_pos_iff.2 this
    have hra := read_any (n := n) hin0 hr (j := 0) (by omega) hn hl
    obtain ⟨m, hm⟩ : ∃ m, m = cutN n (s 0).un.length := ⟨_, rfl⟩
    rw [← hm] at hra
    rw [← hm]
    have hmU : m ≤ (s 0).un.length := by rw [hm]; unfold cutN; omega
    have hmn : (n > ((s 0).un.length : Int) ∧ m = (s 0).un.length) ∨ (¬ n > ((s 0).un.length : Int) ∧ (m : Int) = n) := by rw [hm]; unfold cutN; omega
    have hsl : (⟨(x.ln 0).text.toArray⟩ : ByteArray).extract (x.ln 0).read ((x.ln 0).read + m) = ⟨((s 0).un.take m).toArray⟩ := by rw [extract_text, hlr.un]
    rw [hun] at hmU hmn
    have hdr : x.dead = false ∨ ¬ (x.ln 0).read = (x.ln 0).text.length := by
      rcases hl with e | e
      · exact Or.inl e
      · right; omega
    have HMU : Hid (m ≤ (s 0).un.length) := by show m ≤ _; rw [hun]; exact hmU
    have HNL : Hid (¬ (F w.heap.size ∨ w.heap.size = xb)) := fun e => by
      rcases e with e | e
      · have := h.st.lt e; omega
      · have := h.xlt; omega
    have HR := hide hra
    have HB0 := hide hb0
    have HLB := hide hlb
    have HW0 := hide hw0
    clear h hr k1 k2 k3 hlr hin0 hb0 hlb hw0 hd hl hm hra hun
    go_enter Tryz.func16, Tryz.ntmps16
    go_upto_region 2 with fail
    rw [← HW0.out]
    go_wp2_with fail
    refine HR.out.mono ?_
    rintro e w1 ⟨⟨a, rfl, hby⟩, F1, hin1, hch1, hF1⟩
    have hwx : w.heap.size < w0.heap.size := lt_of_block HLB.out
    have hlb1 : w1.heap[w.heap.size]? = some (.cells #[.string ⟨(x.ln 0).text.toArray⟩, .int .i64 (x.ln 0).read, .int .i64 (x.ln 0).bodies, .int .i64 (x.ln 0).credit] 34 (0, 0)) := by
      rw [hch1.block _ hwx HNL.out]
      exact HLB.out
    obtain ⟨pv1, x1, p1, f1⟩ := hin1.xi
    have m30 : w1.cell? ⟨xb, 30, none⟩ = some (.bool x.dead) := x1.c30
    have m0 : w1.cell? ⟨w.heap.size, 0, none⟩ = some (.string ⟨(x.ln 0).text.toArray⟩) := by rw [cell_of_row _ _ _ _ _ _ hlb1]; rfl
    have m1 : w1.cell? ⟨w.heap.size, 1, none⟩ = some (.int .i64 (x.ln 0).read) := by rw [cell_of_row _ _ _ _ _ _ hlb1]; rfl
    have n0 : w1.drew.cell? ⟨w.heap.size, 0, none⟩ = some (.string ⟨(x.ln 0).text.toArray⟩) := m0
    have n1 : w1.drew.cell? ⟨w.heap.size, 1, none⟩ = some (.int .i64 (x.ln 0).read) := m1
    have hdb : Below w1.heap.size w1 w1.drew := Below.drew (Below.refl _ _)
    have hul : ((s 0).un.take m).length = m := by rw [List.length_take, Nat.min_eq_left HMU.out]
    have hbz : BytesIn w1.drew (.slice a m m) ((s 0).un.take m) := hby.chg (Chg.of_below (S := fun _ => False) hdb) (fun _ _ => id)
    have hcv : (convert 43 9 (.slice a m m)).run Tryz.prog w1.drew = .ok (.string ⟨((s 0).un.take m).toArray⟩) w1.drew := conv_str hbz
    have HIN1 := hide hin1
    have HX1 := hide x1
    have HEND : Hid (∀ wz, Chg (fun i => i = xb) w1 wz → XI wz xb (.pointer (some ⟨eb, 0, none⟩)) (x.read 0 m) pv1 → GoI w wz xb eb F (x.read 0 m) (gQ x.dead x.cf (d.owes m) (readS s 0 m))) := fun wz hc hx => (GoI.then hch1 hF1 (hin1.write hc hx p1 f1)).pre HB0.out
    clear hin1 hch1 hF1 hlb1 p1 f1 x1 hdb hul hbz hby z0 z30 l0 l1 q0 q1 q2 q3 x0
    have hrI : (x.ln 0).read ≤ (x.ln 0).text.length := hrd
    go_upto_region 3 with fail
    go_cut [41] (fun s41 wx => s41 = .bool false ∧ wx = w1)
    case first =>
      rcases hdr with hdr | hdr
      · rw [hdr] at m30
        go_wp2_with fail
        go_meet
        exact ⟨rfl, rfl⟩
      · have hdI : (((x.ln 0).read : Int) == ((x.ln 0).text.length : Int)) = false := by simp; omega
        cases hxd : x.dead
        all_goals rw [hxd] at m30
        all_goals go_wp2_with fail
        all_goals go_meet
        all_goals exact ⟨by first | rfl | (simp [hdI]), rfl⟩
    case rest =>
      obtain ⟨hs, hw⟩ := hcut
      subst hs
      rw [hw]
      clear hw hdr
      have hw1 : IntKind.i64.wrap (((x.ln 0).text.length : Int) - ((x.ln 0).read : Int)) = ((x.ln 0).text.length : Int) - ((x.ln 0).read : Int) := by rw [IntKind.wrap_i64]; omega
      have hw2 : IntKind.i64.wrap (((x.ln 0).read : Int) + (m : Int)) = ((x.ln 0).read : Int) + (m : Int) := by rw [IntKind.wrap_i64]; omega
      go_upto_if 60 with fail
      go_cut [2] (fun s2 wx => s2 = .int .i64 (m : Int) ∧ wx = w1)
      case first =>
        rcases hmn with ⟨hn1, hn3⟩ | ⟨hn1, hn3⟩
        · have hn4 : ((x.ln 0).text.length : Int) - ((x.ln 0).read : Int) < n := by omega
          go_wp2_with fail
          go_meet
          exact ⟨by rw [hn3], rfl⟩
        · have hn4 : ¬ ((x.ln 0).text.length : Int) - ((x.ln 0).read : Int) < n := by omega
          go_wp2_with fail
          go_meet
          exact ⟨by rw [hn3], rfl⟩
      case rest =>
        obtain ⟨hs, hw⟩ := hcut
        subst hs
        rw [hw]
        clear hw hmn hwL hn2 hn
        have hm1 : ((x.ln 0).read : Int) + (m : Int) ≤ ((x.ln 0).text.length : Int) := by omega
        generalize (s 0).un.take m = UT at *
        go_upto_region 7 with fail
        go_cut [85] (fun s85 wx => s85 = .bool false ∧ wx = w1.drew)
        case first =>
          go_region
          all_goals (go_wp2_with fail; go_meet; exact ⟨rfl, rfl⟩)
        case rest =>
          obtain ⟨hs, hw⟩ := hcut
          subst hs
          rw [hw]
          have e1 : w1.drew.drew.cell? ⟨w.heap.size, 1, none⟩ = some (.int .i64 (x.ln 0).read) := m1
          have e2 : w1.drew.cell? ⟨xb, 6, none⟩ = some (.int .i64 (x.ln 0).read) := HX1.out.c6
          have e3 : w1.drew.frozen? ⟨xb, 6, none⟩ = false := HX1.out.fr 6
          have e4 : w1.drew.drew.cell? ⟨xb, 6, none⟩ = some (.int .i64 (x.ln 0).read) := e2
          have e5 : w1.drew.drew.frozen? ⟨xb, 6, none⟩ = false := e3
          have HGO : Hid (GoI w (w1.setCell ⟨xb, 6, none⟩ (.int .i64 (((x.ln 0).read : Int) + (m : Int)))).drew.drew xb eb F (x.read 0 m) (gQ x.dead x.cf (d.owes m) (readS s 0 m))) := by
            refine HEND.out _ (Chg.drew (Chg.drew (chg_set (S := fun i => i = xb) (Chg.refl _ _) rfl))) ?_
            have : XI (w1.setCell ⟨xb, 6, none⟩ (.int .i64 (((x.ln 0).read : Int) + (m : Int)))) xb (.pointer (some ⟨eb, 0, none⟩)) (x.read 0 m) pv1 := HX1.out.set (by simp [XM.cells, XM.read, updL])
            exact this
          clear hw hcv n0 m0 m1 m30
          go_wp2_with fail
          go_region
          all_goals go_wp2
          all_goals go_ret
          all_goals exact ⟨rfl, HGO.out⟩
set_option maxRecDepth 100000 in
set_option maxHeartbeats 6400000 in
theorem kreads_1 (xb eb : Nat) (F : Nat → Prop) (x : XM) (d : Dn) (s : Nat → Sn) (N : Nat) (n : Int) (w : World) (h : In w xb eb F x (gQ x.dead x.cf d s)) (hr : Rel N x d s) (hN : N ≤ 9007199254740992) (hn : 0 ≤ n) (hn2 : n ≤ 1099511627776) :
    Calls Tryz.prog 16 #[.pointer (some ⟨xb, 0, none⟩), .int .i64 1, .int .i64 n] w fun e w' => e = .returned (.bool true) ∧ GoI w w' xb eb F (x.read 1 (cutN n (s 1).un.length)) (gQ x.dead x.cf (d.owes (cutN n (s 1).un.length)) (readS s 1 (cutN n (s 1).un.length))) := by
  obtain ⟨pv, k1, k2, k3⟩ := h.xi
  have hlr := hr.lns 1 (by omega)
  have hrd := hlr.rd
  have hun : (s 1).un.length = (x.ln 1).text.length - (x.ln 1).read := by rw [hlr.un, List.length_drop]
  have htb := ((hr.bd hN).lt 1 (by omega)).2
  have x0 : w.cell? ⟨xb, 0, none⟩ = some (.pointer (some ⟨eb, 0, none⟩)) := k1.c0
  have q0 : w.cell? ⟨xb, 9, none⟩ = some (.string ⟨(x.ln 1).text.toArray⟩) := k1.c9
  have q1 : w.cell? ⟨xb, 10, none⟩ = some (.int .i64 (x.ln 1).read) := k1.c10
  have q2 : w.cell? ⟨xb, 11, none⟩ = some (.int .i64 (x.ln 1).bodies) := k1.c11
  have q3 : w.cell? ⟨xb, 12, none⟩ = some (.int .i64 (x.ln 1).credit) := k1.c12
  obtain ⟨w0, hw0⟩ : ∃ w0, w0 = w.alloc (.cells #[.string ⟨(x.ln 1).text.toArray⟩, .int .i64 (x.ln 1).read, .int .i64 (x.ln 1).bodies, .int .i64 (x.ln 1).credit] 34) := ⟨_, rfl⟩
  have hlb : w0.heap[w.heap.size]? = some (.cells #[.string ⟨(x.ln 1).text.toArray⟩, .int .i64 (x.ln 1).read, .int .i64 (x.ln 1).bodies, .int .i64 (x.ln 1).credit] 34 (0, 0)) := by rw [hw0]; exact heap_alloc_new w _
  have hb0 : Below w.heap.size w w0 := by rw [hw0]; exact (Below.refl _ _).alloc (Nat.le_refl _) _
  have hin0 := h.below hb0
  have z0 : w0.cell? ⟨xb, 0, none⟩ = some (.pointer (some ⟨eb, 0, none⟩)) := (k1.below hb0).c0
  have z30 : w0.cell? ⟨xb, 30, none⟩ = some (.bool x.dead) := (k1.below hb0).c30
  have l0 : w0.cell? ⟨w.heap.size, 0, none⟩ = some (.string ⟨(x.ln 1).text.toArray⟩) := by rw [cell_of_row _ _ _ _ _ _ hlb]; rfl
  have l1 : w0.cell? ⟨w.heap.size, 1, none⟩ = some (.int .i64 (x.ln 1).read) := by rw [cell_of_row _ _ _ _ _ _ hlb]; rfl
  have htz : (ByteArray.mk (x.ln 1).text.toArray).size = (x.ln 1).text.length := by simp [ByteArray.size]
  have hwL : ((x.ln 1).text.length : Int) - ((x.ln 1).read : Int) = (((x.ln 1).text.length - (x.ln 1).read : Nat) : Int) := by omega
  by_cases hd : x.dead = true ∧ (s 1).un = []
  · obtain ⟨hd1, hd2⟩ := hd
    have HR := hide (read_dead (n := n) hin0 (j := 1) (by omega) hn hd1 hd2)
    have hrl : (x.ln 1).read = (x.ln 1).text.length := by rw [hd2] at hun; simp at hun; omega
    have HG : Hid (GoI w w0 xb eb F (x.read 1 (cutN n (s 1).un.length)) (gQ x.dead x.cf (d.owes (cutN n (s 1).un.length)) (readS s 1 (cutN n (s 1).un.length)))) := by
      have e0 : cutN n (s 1).un.length = 0 := by rw [hd2]; unfold cutN; simp; omega
      rw [e0, XM.read_zero, readS_zero, owes_zeroD]
      exact GoI.of_below h hb0
    rw [hd1] at z30
    have HW0 := hide hw0
    clear h hr k1 k2 k3 hlr hun hin0 hb0 hlb hw0 hd2 hwL
    generalize (x.ln 1).text.length = TL at *
    generalize (x.ln 1).read = RD at *
    subst hrl
    go_enter Tryz.func16, Tryz.ntmps16
    go_upto_region 2 with fail
    rw [← HW0.out]
    go_wp2_with fail
    refine HR.out.mono ?_
    rintro e w' ⟨rfl, hw'⟩
    rw [hw']
    clear hw' w'
    go_wp2
    go_ret
    exact ⟨rfl, HG.out⟩
  · have hl : x.dead = false ∨ 0 < (s 1).un.length := by
      cases hdd : x.dead with
      | false => exact Or.inl rfl
      | true =>
        right
        have : (s 1).un ≠ [] := fun e => hd ⟨hdd, e⟩
        exact List.length_pos_iff.2 this
    have hra := read_any (n := n) hin0 hr (j := 1) (by omega) hn hl
    obtain ⟨m, hm⟩ : ∃ m, m = cutN n (s 1).un.length := ⟨_, rfl⟩
    rw [← hm] at hra
    rw [← hm]
    have hmU : m ≤ (s 1).un.length := by rw [hm]; unfold cutN; omega
    have hmn : (n > ((s 1).un.length : Int) ∧ m = (s 1).un.length) ∨ (¬ n > ((s 1).un.length : Int) ∧ (m : Int) = n) := by rw [hm]; unfold cutN; omega
    have hsl : (⟨(x.ln 1).text.toArray⟩ : ByteArray).extract (x.ln 1).read ((x.ln 1).read + m) = ⟨((s 1).un.take m).toArray⟩ := by rw [extract_text, hlr.un]
    rw [hun] at hmU hmn
    have hdr : x.dead = false ∨ ¬ (x.ln 1).read = (x.ln 1).text.length := by
      rcases hl with e | e
      · exact Or.inl e
      · right; omega
    have HMU : Hid (m ≤ (s 1).un.length) := by show m ≤ _; rw [hun]; exact hmU
    have HNL : Hid (¬ (F w.heap.size ∨ w.heap.size = xb)) := fun e => by
      rcases e with e | e
      · have := h.st.lt e; omega
      · have := h.xlt; omega
    have HR := hide hra
    have HB0 := hide hb0
    have HLB := hide hlb
    have HW0 := hide hw0
    clear h hr k1 k2 k3 hlr hin0 hb0 hlb hw0 hd hl hm hra hun
    go_enter Tryz.func16, Tryz.ntmps16
    go_upto_region 2 with fail
    rw [← HW0.out]
    go_wp2_with fail
    refine HR.out.mono ?_
    rintro e w1 ⟨⟨a, rfl, hby⟩, F1, hin1, hch1, hF1⟩
    have hwx : w.heap.size < w0.heap.size := lt_of_block HLB.out
    have hlb1 : w1.heap[w.heap.size]? = some (.cells #[.string ⟨(x.ln 1).text.toArray⟩, .int .i64 (x.ln 1).read, .int .i64 (x.ln 1).bodies, .int .i64 (x.ln 1).credit] 34 (0, 0)) := by
      rw [hch1.block _ hwx HNL.out]
      exact HLB.out
    obtain ⟨pv1, x1, p1, f1⟩ := hin1.xi
    have m30 : w1.cell? ⟨xb, 30, none⟩ = some (.bool x.dead) := x1.c30
    have m0 : w1.cell? ⟨w.heap.size, 0, none⟩ = some (.string ⟨(x.ln 1).text.toArray⟩) := by rw [cell_of_row _ _ _ _ _ _ hlb1]; rfl
    have m1 : w1.cell? ⟨w.heap.size, 1, none⟩ = some (.int .i64 (x.ln 1).read) := by rw [cell_of_row _ _ _ _ _ _ hlb1]; rfl
    have n0 : w1.drew.cell? ⟨w.heap.size, 0, none⟩ = some (.string ⟨(x.ln 1).text.toArray⟩) := m0
    have n1 : w1.drew.cell? ⟨w.heap.size, 1, none⟩ = some (.int .i64 (x.ln 1).read) := m1
    have hdb : Below w1.heap.size w1 w1.drew := Below.drew (Below.refl _ _)
    have hul : ((s 1).un.take m).length = m := by rw [List.length_take, Nat.min_eq_left HMU.out]
    have hbz : BytesIn w1.drew (.slice a m m) ((s 1).un.take m) := hby.chg (Chg.of_below (S := fun _ => False) hdb) (fun _ _ => id)
    have hcv : (convert 43 9 (.slice a m m)).run Tryz.prog w1.drew = .ok (.string ⟨((s 1).un.take m).toArray⟩) w1.drew := conv_str hbz
    have HIN1 := hide hin1
    have HX1 := hide x1
    have HEND : Hid (∀ wz, Chg (fun i => i = xb) w1 wz → XI wz xb (.pointer (some ⟨eb, 0, none⟩)) (x.read 1 m) pv1 → GoI w wz xb eb F (x.read 1 m) (gQ x.dead x.cf (d.owes m) (readS s 1 m))) := fun wz hc hx => (GoI.then hch1 hF1 (hin1.write hc hx p1 f1)).pre HB0.out
    clear hin1 hch1 hF1 hlb1 p1 f1 x1 hdb hul hbz hby z0 z30 l0 l1 q0 q1 q2 q3 x0
    have hrI : (x.ln 1).read ≤ (x.ln 1).text.length := hrd
    go_upto_region 3 with fail
    go_cut [41] (fun s41 wx => s41 = .bool false ∧ wx = w1)
    case first =>
      rcases hdr with hdr | hdr
      · rw [hdr] at m30
        go_wp2_with fail
        go_meet
        exact ⟨rfl, rfl⟩
      · have hdI : (((x.ln 1).read : Int) == ((x.ln 1).text.length : Int)) = false := by simp; omega
        cases hxd : x.dead
        all_goals rw [hxd] at m30
        all_goals go_wp2_with fail
        all_goals go_meet
        all_goals exact ⟨by first | rfl | (simp [hdI]), rfl⟩
    case rest =>
      obtain ⟨hs, hw⟩ := hcut
      subst hs
      rw [hw]
      clear hw hdr
      have hw1 : IntKind.i64.wrap (((x.ln 1).text.length : Int) - ((x.ln 1).read : Int)) = ((x.ln 1).text.length : Int) - ((x.ln 1).read : Int) := by rw [IntKind.wrap_i64]; omega
      have hw2 : IntKind.i64.wrap (((x.ln 1).read : Int) + (m : Int)) = ((x.ln 1).read : Int) + (m : Int) := by rw [IntKind.wrap_i64]; omega
      go_upto_if 60 with fail
      go_cut [2] (fun s2 wx => s2 = .int .i64 (m : Int) ∧ wx = w1)
      case first =>
        rcases hmn with ⟨hn1, hn3⟩ | ⟨hn1, hn3⟩
        · have hn4 : ((x.ln 1).text.length : Int) - ((x.ln 1).read : Int) < n := by omega
          go_wp2_with fail
          go_meet
          exact ⟨by rw [hn3], rfl⟩
        · have hn4 : ¬ ((x.ln 1).text.length : Int) - ((x.ln 1).read : Int) < n := by omega
          go_wp2_with fail
          go_meet
          exact ⟨by rw [hn3], rfl⟩
      case rest =>
        obtain ⟨hs, hw⟩ := hcut
        subst hs
        rw [hw]
        clear hw hmn hwL hn2 hn
        have hm1 : ((x.ln 1).read : Int) + (m : Int) ≤ ((x.ln 1).text.length : Int) := by omega
        generalize (s 1).un.take m = UT at *
        go_upto_region 7 with fail
        go_cut [85] (fun s85 wx => s85 = .bool false ∧ wx = w1.drew)
        case first =>
          go_region
          all_goals (go_wp2_with fail; go_meet; exact ⟨rfl, rfl⟩)
        case rest =>
          obtain ⟨hs, hw⟩ := hcut
          subst hs
          rw [hw]
          have e1 : w1.drew.drew.cell? ⟨w.heap.size, 1, none⟩ = some (.int .i64 (x.ln 1).read) := m1
          have e2 : w1.drew.cell? ⟨xb, 10, none⟩ = some (.int .i64 (x.ln 1).read) := HX1.out.c10
          have e3 : w1.drew.frozen? ⟨xb, 10, none⟩ = false := HX1.out.fr 10
          have e4 : w1.drew.drew.cell? ⟨xb, 10, none⟩ = some (.int .i64 (x.ln 1).read) := e2
          have e5 : w1.drew.drew.frozen? ⟨xb, 10, none⟩ = false := e3
          have HGO : Hid (GoI w (w1.setCell ⟨xb, 10, none⟩ (.int .i64 (((x.ln 1).read : Int) + (m : Int)))).drew.drew xb eb F (x.read 1 m) (gQ x.dead x.cf (d.owes m) (readS s 1 m))) := by
            refine HEND.out _ (Chg.drew (Chg.drew (chg_set (S := fun i => i = xb) (Chg.refl _ _) rfl))) ?_
            have : XI (w1.setCell ⟨xb, 10, none⟩ (.int .i64 (((x.ln 1).read : Int) + (m : Int)))) xb (.pointer (some ⟨eb, 0, none⟩)) (x.read 1 m) pv1 := HX1.out.set (by simp [XM.cells, XM.read, updL])
            exact this
          clear hw hcv n0 m0 m1 m30
          go_wp2_with fail
          go_region
          all_goals go_wp2
          all_goals go_ret
          all_goals exact ⟨rfl, HGO.out⟩
set_option maxRecDepth 100000 in
set_option maxHeartbeats 6400000 in
theorem kreads_2 (xb eb : Nat) (F : Nat → Prop) (x : XM) (d : Dn) (s : Nat → Sn) (N : Nat) (n : Int) (w : World) (h : In w xb eb F x (gQ x.dead x.cf d s)) (hr : Rel N x d s) (hN : N ≤ 9007199254740992) (hn : 0 ≤ n) (hn2 : n ≤ 1099511627776) :
    Calls Tryz.prog 16 #[.pointer (some ⟨xb, 0, none⟩), .int .i64 2, .int .i64 n] w fun e w' => e = .returned (.bool true) ∧ GoI w w' xb eb F (x.read 2 (cutN n (s 2).un.length)) (gQ x.dead x.cf (d.owes (cutN n (s 2).un.length)) (readS s 2 (cutN n (s 2).un.length))) := by
  obtain ⟨pv, k1, k2, k3⟩ := h.xi
  have hlr := hr.lns 2 (by omega)
  have hrd := hlr.rd
  have hun : (s 2).un.length = (x.ln 2).text.length - (x.ln 2).read := by rw [hlr.un, List.length_drop]
  have htb := ((hr.bd hN).lt 2 (by omega)).2
  have x0 : w.cell? ⟨xb, 0, none⟩ = some (.pointer (some ⟨eb, 0, none⟩)) := k1.c0
  have q0 : w.cell? ⟨xb, 13, none⟩ = some (.string ⟨(x.ln 2).text.toArray⟩) := k1.c13
  have q1 : w.cell? ⟨xb, 14, none⟩ = some (.int .i64 (x.ln 2).read) := k1.c14
  have q2 : w.cell? ⟨xb, 15, none⟩ = some (.int .i64 (x.ln 2).bodies) := k1.c15
  have q3 : w.cell? ⟨xb, 16, none⟩ = some (.int .i64 (x.ln 2).credit) := k1.c16
  obtain ⟨w0, hw0⟩ : ∃ w0, w0 = w.alloc (.cells #[.string ⟨(x.ln 2).text.toArray⟩, .int .i64 (x.ln 2).read, .int .i64 (x.ln 2).bodies, .int .i64 (x.ln 2).credit] 34) := ⟨_, rfl⟩
  have hlb : w0.heap[w.heap.size]? = some (.cells #[.string ⟨(x.ln 2).text.toArray⟩, .int .i64 (x.ln 2).read, .int .i64 (x.ln 2).bodies, .int .i64 (x.ln 2).credit] 34 (0, 0)) := by rw [hw0]; exact heap_alloc_new w _
  have hb0 : Below w.heap.size w w0 := by rw [hw0]; exact (Below.refl _ _).alloc (Nat.le_refl _) _
  have hin0 := h.below hb0
  have z0 : w0.cell? ⟨xb, 0, none⟩ = some (.pointer (some ⟨eb, 0, none⟩)) := (k1.below hb0).c0
  have z30 : w0.cell? ⟨xb, 30, none⟩ = some (.bool x.dead) := (k1.below hb0).c30
  have l0 : w0.cell? ⟨w.heap.size, 0, none⟩ = some (.string ⟨(x.ln 2).text.toArray⟩) := by rw [cell_of_row _ _ _ _ _ _ hlb]; rfl
  have l1 : w0.cell? ⟨w.heap.size, 1, none⟩ = some (.int .i64 (x.ln 2).read) := by rw [cell_of_row _ _ _ _ _ _ hlb]; rfl
  have htz : (ByteArray.mk (x.ln 2).text.toArray).size = (x.ln 2).text.length := by simp [ByteArray.size]
  have hwL : ((x.ln 2).text.length : Int) - ((x.ln 2).read : Int) = (((x.ln 2).text.length - (x.ln 2).read : Nat) : Int) := by omega
  by_cases hd : x.dead = true ∧ (s 2).un = []
  · obtain ⟨hd1, hd2⟩ := hd
    have HR := hide (read_dead (n := n) hin0 (j := 2) (by omega) hn hd1 hd2)
    have hrl : (x.ln 2).read = (x.ln 2).text.length := by rw [hd2] at hun; simp at hun; omega
    have HG : Hid (GoI w w0 xb eb F (x.read 2 (cutN n (s 2).un.length)) (gQ x.dead x.cf (d.owes (cutN n (s 2).un.length)) (readS s 2 (cutN n (s 2).un.length)))) := by
      have e0 : cutN n (s 2).un.length = 0 := by rw [hd2]; unfold cutN; simp; omega
      rw [e0, XM.read_zero, readS_zero, owes_zeroD]
      exact GoI.of_below h hb0
    rw [hd1] at z30
    have HW0 := hide hw0
    clear h hr k1 k2 k3 hlr hun hin0 hb0 hlb hw0 hd2 hwL
    generalize (x.ln 2).text.length = TL at *
    generalize (x.ln 2).read = RD at *
    subst hrl
    go_enter Tryz.func16, Tryz.ntmps16
    go_upto_region 2 with fail
    rw [← HW0.out]
    go_wp2_with fail
    refine HR.out.mono ?_
    rintro e w' ⟨rfl, hw'⟩
    rw [hw']
    clear hw' w'
    go_wp2
    go_ret
    exact ⟨rfl, HG.out⟩
  · have hl : x.dead = false ∨ 0 < (s 2).un.length := by
      cases hdd : x.dead with
      | false => exact Or.inl rfl
      | true =>
        right
        have : (s 2).un ≠ [] := fun e => hd ⟨hdd, e⟩
        exact List.length_pos_iff.2 this
    have hra := read_any (n := n) hin0 hr (j := 2) (by omega) hn hl
    obtain ⟨m, hm⟩ : ∃ m, m = cutN n (s 2).un.length := ⟨_, rfl⟩
    rw [← hm] at hra
    rw [← hm]
    have hmU : m ≤ (s 2).un.length := by rw [hm]; unfold cutN; omega
    have hmn : (n > ((s 2).un.length : Int) ∧ m = (s 2).un.length) ∨ (¬ n > ((s 2).un.length : Int) ∧ (m : Int) = n) := by rw [hm]; unfold cutN; omega
    have hsl : (⟨(x.ln 2).text.toArray⟩ : ByteArray).extract (x.ln 2).read ((x.ln 2).read + m) = ⟨((s 2).un.take m).toArray⟩ := by rw [extract_text, hlr.un]
    rw [hun] at hmU hmn
    have hdr : x.dead = false ∨ ¬ (x.ln 2).read = (x.ln 2).text.length := by
      rcases hl with e | e
      · exact Or.inl e
      · right; omega
    have HMU : Hid (m ≤ (s 2).un.length) := by show m ≤ _; rw [hun]; exact hmU
    have HNL : Hid (¬ (F w.heap.size ∨ w.heap.size = xb)) := fun e => by
      rcases e with e | e
      · have := h.st.lt e; omega
      · have := h.xlt; omega
    have HR := hide hra
    have HB0 := hide hb0
    have HLB := hide hlb
    have HW0 := hide hw0
    clear h hr k1 k2 k3 hlr hin0 hb0 hlb hw0 hd hl hm hra hun
    go_enter Tryz.func16, Tryz.ntmps16
    go_upto_region 2 with fail
    rw [← HW0.out]
    go_wp2_with fail
    refine HR.out.mono ?_
    rintro e w1 ⟨⟨a, rfl, hby⟩, F1, hin1, hch1, hF1⟩
    have hwx : w.heap.size < w0.heap.size := lt_of_block HLB.out
    have hlb1 : w1.heap[w.heap.size]? = some (.cells #[.string ⟨(x.ln 2).text.toArray⟩, .int .i64 (x.ln 2).read, .int .i64 (x.ln 2).bodies, .int .i64 (x.ln 2).credit] 34 (0, 0)) := by
      rw [hch1.block _ hwx HNL.out]
      exact HLB.out
    obtain ⟨pv1, x1, p1, f1⟩ := hin1.xi
    have m30 : w1.cell? ⟨xb, 30, none⟩ = some (.bool x.dead) := x1.c30
    have m0 : w1.cell? ⟨w.heap.size, 0, none⟩ = some (.string ⟨(x.ln 2).text.toArray⟩) := by rw [cell_of_row _ _ _ _ _ _ hlb1]; rfl
    have m1 : w1.cell? ⟨w.heap.size, 1, none⟩ = some (.int .i64 (x.ln 2).read) := by rw [cell_of_row _ _ _ _ _ _ hlb1]; rfl
    have n0 : w1.drew.cell? ⟨w.heap.size, 0, none⟩ = some (.string ⟨(x.ln 2).text.toArray⟩) := m0
    have n1 : w1.drew.cell? ⟨w.heap.size, 1, none⟩ = some (.int .i64 (x.ln 2).read) := m1
    have hdb : Below w1.heap.size w1 w1.drew := Below.drew (Below.refl _ _)
    have hul : ((s 2).un.take m).length = m := by rw [List.length_take, Nat.min_eq_left HMU.out]
    have hbz : BytesIn w1.drew (.slice a m m) ((s 2).un.take m) := hby.chg (Chg.of_below (S := fun _ => False) hdb) (fun _ _ => id)
    have hcv : (convert 43 9 (.slice a m m)).run Tryz.prog w1.drew = .ok (.string ⟨((s 2).un.take m).toArray⟩) w1.drew := conv_str hbz
    have HIN1 := hide hin1
    have HX1 := hide x1
    have HEND : Hid (∀ wz, Chg (fun i => i = xb) w1 wz → XI wz xb (.pointer (some ⟨eb, 0, none⟩)) (x.read 2 m) pv1 → GoI w wz xb eb F (x.read 2 m) (gQ x.dead x.cf (d.owes m) (readS s 2 m))) := fun wz hc hx => (GoI.then hch1 hF1 (hin1.write hc hx p1 f1)).pre HB0.out
    clear hin1 hch1 hF1 hlb1 p1 f1 x1 hdb hul hbz hby z0 z30 l0 l1 q0 q1 q2 q3 x0
    have hrI : (x.ln 2).read ≤ (x.ln 2).text.length := hrd
    go_upto_region 3 with fail
    go_cut [41] (fun s41 wx => s41 = .bool false ∧ wx = w1)
    case first =>
      rcases hdr with hdr | hdr
      · rw [hdr] at m30
        go_wp2_with fail
        go_meet
        exact ⟨rfl, rfl⟩
      · have hdI : (((x.ln 2).read : Int) == ((x.ln 2).text.length : Int)) = false := by simp; omega
        cases hxd : x.dead
        all_goals rw [hxd] at m30
        all_goals go_wp2_with fail
        all_goals go_meet
        all_goals exact ⟨by first | rfl | (simp [hdI]), rfl⟩
    case rest =>
      obtain ⟨hs, hw⟩ := hcut
      subst hs
      rw [hw]
      clear hw hdr
      have hw1 : IntKind.i64.wrap (((x.ln 2).text.length : Int) - ((x.ln 2).read : Int)) = ((x.ln 2).text.length : Int) - ((x.ln 2).read : Int) := by rw [IntKind.wrap_i64]; omega
      have hw2 : IntKind.i64.wrap (((x.ln 2).read : Int) + (m : Int)) = ((x.ln 2).read : Int) + (m : Int) := by rw [IntKind.wrap_i64]; omega
      go_upto_if 60 with fail
      go_cut [2] (fun s2 wx => s2 = .int .i64 (m : Int) ∧ wx = w1)
      case first =>
        rcases hmn with ⟨hn1, hn3⟩ | ⟨hn1, hn3⟩
        · have hn4 : ((x.ln 2).text.length : Int) - ((x.ln 2).read : Int) < n := by omega
          go_wp2_with fail
          go_meet
          exact ⟨by rw [hn3], rfl⟩
        · have hn4 : ¬ ((x.ln 2).text.length : Int) - ((x.ln 2).read : Int) < n := by omega
          go_wp2_with fail
          go_meet
          exact ⟨by rw [hn3], rfl⟩
      case rest =>
        obtain ⟨hs, hw⟩ := hcut
        subst hs
        rw [hw]
        clear hw hmn hwL hn2 hn
        have hm1 : ((x.ln 2).read : Int) + (m : Int) ≤ ((x.ln 2).text.length : Int) := by omega
        generalize (s 2).un.take m = UT at *
        go_upto_region 7 with fail
        go_cut [85] (fun s85 wx => s85 = .bool false ∧ wx = w1.drew)
        case first =>
          go_region
          all_goals (go_wp2_with fail; go_meet; exact ⟨rfl, rfl⟩)
        case rest =>
          obtain ⟨hs, hw⟩ := hcut
          subst hs
          rw [hw]
          have e1 : w1.drew.drew.cell? ⟨w.heap.size, 1, none⟩ = some (.int .i64 (x.ln 2).read) := m1
          have e2 : w1.drew.cell? ⟨xb, 14, none⟩ = some (.int .i64 (x.ln 2).read) := HX1.out.c14
          have e3 : w1.drew.frozen? ⟨xb, 14, none⟩ = false := HX1.out.fr 14
          have e4 : w1.drew.drew.cell? ⟨xb, 14, none⟩ = some (.int .i64 (x.ln 2).read) := e2
          have e5 : w1.drew.drew.frozen? ⟨xb, 14, none⟩ = false := e3
          have HGO : Hid (GoI w (w1.setCell ⟨xb, 14, none⟩ (.int .i64 (((x.ln 2).read : Int) + (m : Int)))).drew.drew xb eb F (x.read 2 m) (gQ x.dead x.cf (d.owes m) (readS s 2 m))) := by
            refine HEND.out _ (Chg.drew (Chg.drew (chg_set (S := fun i => i = xb) (Chg.refl _ _) rfl))) ?_
            have : XI (w1.setCell ⟨xb, 14, none⟩ (.int .i64 (((x.ln 2).read : Int) + (m : Int)))) xb (.pointer (some ⟨eb, 0, none⟩)) (x.read 2 m) pv1 := HX1.out.set (by simp [XM.cells, XM.read, updL])
            exact this
          clear hw hcv n0 m0 m1 m30
          go_wp2_with fail
          go_region
          all_goals go_wp2
          all_goals go_ret
          all_goals exact ⟨rfl, HGO.out⟩
set_option maxRecDepth 100000 in
set_option maxHeartbeats 6400000 in
theorem kreads_3 (xb eb : Nat) (F : Nat → Prop) (x : XM) (d : Dn) (s : Nat → Sn) (N : Nat) (n : Int) (w : World) (h : In w xb eb F x (gQ x.dead x.cf d s)) (hr : Rel N x d s) (hN : N ≤ 9007199254740992) (hn : 0 ≤ n) (hn2 : n ≤ 1099511627776) :
    Calls Tryz.prog 16 #[.pointer (some ⟨xb, 0, none⟩), .int .i64 3, .int .i64 n] w fun e w' => e = .returned (.bool true) ∧ GoI w w' xb eb F (x.read 3 (cutN n (s 3).un.length)) (gQ x.dead x.cf (d.owes (cutN n (s 3).un.length)) (readS s 3 (cutN n (s 3).un.length))) := by
  obtain ⟨pv, k1, k2, k3⟩ := h.xi
  have hlr := hr.lns 3 (by omega)
  have hrd := hlr.rd
  have hun : (s 3).un.length = (x.ln 3).text.length - (x.ln 3).read := by rw [hlr.un, List.length_drop]
  have htb := ((hr.bd hN).lt 3 (by omega)).2
  have x0 : w.cell? ⟨xb, 0, none⟩ = some (.pointer (some ⟨eb, 0, none⟩)) := k1.c0
  have q0 : w.cell? ⟨xb, 17, none⟩ = some (.string ⟨(x.ln 3).text.toArray⟩) := k1.c17
  have q1 : w.cell? ⟨xb, 18, none⟩ = some (.int .i64 (x.ln 3).read) := k1.c18
  have q2 : w.cell? ⟨xb, 19, none⟩ = some (.int .i64 (x.ln 3).bodies) := k1.c19
  have q3 : w.cell? ⟨xb, 20, none⟩ = some (.int .i64 (x.ln 3).credit) := k1.c20
  obtain ⟨w0, hw0⟩ : ∃ w0, w0 = w.alloc (.cells #[.string ⟨(x.ln 3).text.toArray⟩, .int .i64 (x.ln 3).read, .int .i64 (x.ln 3).bodies, .int .i64 (x.ln 3).credit] 34) := ⟨_, rfl⟩
  have hlb : w0.heap[w.heap.size]? = some (.cells #[.string ⟨(x.ln 3).text.toArray⟩, .int .i64 (x.ln 3).read, .int .i64 (x.ln 3).bodies, .int .i64 (x.ln 3).credit] 34 (0, 0)) := by rw [hw0]; exact heap_alloc_new w _
  have hb0 : Below w.heap.size w w0 := by rw [hw0]; exact (Below.refl _ _).alloc (Nat.le_refl _) _
  have hin0 := h.below hb0
  have z0 : w0.cell? ⟨xb, 0, none⟩ = some (.pointer (some ⟨eb, 0, none⟩)) := (k1.below hb0).c0
  have z30 : w0.cell? ⟨xb, 30, none⟩ = some (.bool x.dead) := (k1.below hb0).c30
  have l0 : w0.cell? ⟨w.heap.size, 0, none⟩ = some (.string ⟨(x.ln 3).text.toArray⟩) := by rw [cell_of_row _ _ _ _ _ _ hlb]; rfl
  have l1 : w0.cell? ⟨w.heap.size, 1, none⟩ = some (.int .i64 (x.ln 3).read) := by rw [cell_of_row _ _ _ _ _ _ hlb]; rfl
  have htz : (ByteArray.mk (x.ln 3).text.toArray).size = (x.ln 3).text.length := by simp [ByteArray.size]
  have hwL : ((x.ln 3).text.length : Int) - ((x.ln 3).read : Int) = (((x.ln 3).text.length - (x.ln 3).read : Nat) : Int) := by omega
  by_cases hd : x.dead = true ∧ (s 3).un = []
  · obtain ⟨hd1, hd2⟩ := hd
    have HR := hide (read_dead (n := n) hin0 (j := 3) (by omega) hn hd1 hd2)
    have hrl : (x.ln 3).read = (x.ln 3).text.length := by rw [hd2] at hun; simp at hun; omega
    have HG : Hid (GoI w w0 xb eb F (x.read 3 (cutN n (s 3).un.length)) (gQ x.dead x.cf (d.owes (cutN n (s 3).un.length)) (readS s 3 (cutN n (s 3).un.length)))) := by
      have e0 : cutN n (s 3).un.length = 0 := by rw [hd2]; unfold cutN; simp; omega
      rw [e0, XM.read_zero, readS_zero, owes_zeroD]
      exact GoI.of_below h hb0
    rw [hd1] at z30
    have HW0 := hide hw0
    clear h hr k1 k2 k3 hlr hun hin0 hb0 hlb hw0 hd2 hwL
    generalize (x.ln 3).text.length = TL at *
    generalize (x.ln 3).read = RD at *
    subst hrl
    go_enter Tryz.func16, Tryz.ntmps16
    go_upto_region 2 with fail
    rw [← HW0.out]
    go_wp2_with fail
    refine HR.out.mono ?_
    rintro e w' ⟨rfl, hw'⟩
    rw [hw']
    clear hw' w'
    go_wp2
    go_ret
    exact ⟨rfl, HG.out⟩
  · have hl : x.dead = false ∨ 0 < (s 3).un.length := by
      cases hdd : x.dead with
      | false => exact Or.inl rfl
      | true =>
        right
        have : (s 3).un ≠ [] := fun e => hd ⟨hdd, e⟩
        exact List.length_pos_iff.2 this
    have hra := read_any (n := n) hin0 hr (j := 3) (by omega) hn hl
    obtain ⟨m, hm⟩ : ∃ m, m = cutN n (s 3).un.length := ⟨_, rfl⟩
    rw [← hm] at hra
    rw [← hm]
    have hmU : m ≤ (s 3).un.length := by rw [hm]; unfold cutN; omega
    have hmn : (n > ((s 3).un.length : Int) ∧ m = (s 3).un.length) ∨ (¬ n > ((s 3).un.length : Int) ∧ (m : Int) = n) := by rw [hm]; unfold cutN; omega
    have hsl : (⟨(x.ln 3).text.toArray⟩ : ByteArray).extract (x.ln 3).read ((x.ln 3).read + m) = ⟨((s 3).un.take m).toArray⟩ := by rw [extract_text, hlr.un]
    rw [hun] at hmU hmn
    have hdr : x.dead = false ∨ ¬ (x.ln 3).read = (x.ln 3).text.length := by
      rcases hl with e | e
      · exact Or.inl e
      · right; omega
    have HMU : Hid (m ≤ (s 3).un.length) := by show m ≤ _; rw [hun]; exact hmU
    have HNL : Hid (¬ (F w.heap.size ∨ w.heap.size = xb)) := fun e => by
      rcases e with e | e
      · have := h.st.lt e; omega
      · have := h.xlt; omega
    have HR := hide hra
    have HB0 := hide hb0
    have HLB := hide hlb
    have HW0 := hide hw0
    clear h hr k1 k2 k3 hlr hin0 hb0 hlb hw0 hd hl hm hra hun
    go_enter Tryz.func16, Tryz.ntmps16
    go_upto_region 2 with fail
    rw [← HW0.out]
    go_wp2_with fail
    refine HR.out.mono ?_
    rintro e w1 ⟨⟨a, rfl, hby⟩, F1, hin1, hch1, hF1⟩
    have hwx : w.heap.size < w0.heap.size := lt_of_block HLB.out
    have hlb1 : w1.heap[w.heap.size]? = some (.cells #[.string ⟨(x.ln 3).text.toArray⟩, .int .i64 (x.ln 3).read, .int .i64 (x.ln 3).bodies, .int .i64 (x.ln 3).credit] 34 (0, 0)) := by
      rw [hch1.block _ hwx HNL.out]
      exact HLB.out
    obtain ⟨pv1, x1, p1, f1⟩ := hin1.xi
    have m30 : w1.cell? ⟨xb, 30, none⟩ = some (.bool x.dead) := x1.c30
    have m0 : w1.cell? ⟨w.heap.size, 0, none⟩ = some (.string ⟨(x.ln 3).text.toArray⟩) := by rw [cell_of_row _ _ _ _ _ _ hlb1]; rfl
    have m1 : w1.cell? ⟨w.heap.size, 1, none⟩ = some (.int .i64 (x.ln 3).read) := by rw [cell_of_row _ _ _ _ _ _ hlb1]; rfl
    have n0 : w1.drew.cell? ⟨w.heap.size, 0, none⟩ = some (.string ⟨(x.ln 3).text.toArray⟩) := m0
    have n1 : w1.drew.cell? ⟨w.heap.size, 1, none⟩ = some (.int .i64 (x.ln 3).read) := m1
    have hdb : Below w1.heap.size w1 w1.drew := Below.drew (Below.refl _ _)
    have hul : ((s 3).un.take m).length = m := by rw [List.length_take, Nat.min_eq_left HMU.out]
    have hbz : BytesIn w1.drew (.slice a m m) ((s 3).un.take m) := hby.chg (Chg.of_below (S := fun _ => False) hdb) (fun _ _ => id)
    have hcv : (convert 43 9 (.slice a m m)).run Tryz.prog w1.drew = .ok (.string ⟨((s 3).un.take m).toArray⟩) w1.drew := conv_str hbz
    have HIN1 := hide hin1
    have HX1 := hide x1
    have HEND : Hid (∀ wz, Chg (fun i => i = xb) w1 wz → XI wz xb (.pointer (some ⟨eb, 0, none⟩)) (x.read 3 m) pv1 → GoI w wz xb eb F (x.read 3 m) (gQ x.dead x.cf (d.owes m) (readS s 3 m))) := fun wz hc hx => (GoI.then hch1 hF1 (hin1.write hc hx p1 f1)).pre HB0.out
    clear hin1 hch1 hF1 hlb1 p1 f1 x1 hdb hul hbz hby z0 z30 l0 l1 q0 q1 q2 q3 x0
    have hrI : (x.ln 3).read ≤ (x.ln 3).text.length := hrd
    go_upto_region 3 with fail
    go_cut [41] (fun s41 wx => s41 = .bool false ∧ wx = w1)
    case first =>
      rcases hdr with hdr | hdr
      · rw [hdr] at m30
        go_wp2_with fail
        go_meet
        exact ⟨rfl, rfl⟩
      · have hdI : (((x.ln 3).read : Int) == ((x.ln 3).text.length : Int)) = false := by simp; omega
        cases hxd : x.dead
        all_goals rw [hxd] at m30
        all_goals go_wp2_with fail
        all_goals go_meet
        all_goals exact ⟨by first | rfl | (simp [hdI]), rfl⟩
    case rest =>
      obtain ⟨hs, hw⟩ := hcut
      subst hs
      rw [hw]
      clear hw hdr
      have hw1 : IntKind.i64.wrap (((x.ln 3).text.length : Int) - ((x.ln 3).read : Int)) = ((x.ln 3).text.length : Int) - ((x.ln 3).read : Int) := by rw [IntKind.wrap_i64]; omega
      have hw2 : IntKind.i64.wrap (((x.ln 3).read : Int) + (m : Int)) = ((x.ln 3).read : Int) + (m : Int) := by rw [IntKind.wrap_i64]; omega
      go_upto_if 60 with fail
      go_cut [2] (fun s2 wx => s2 = .int .i64 (m : Int) ∧ wx = w1)
      case first =>
        rcases hmn with ⟨hn1, hn3⟩ | ⟨hn1, hn3⟩
        · have hn4 : ((x.ln 3).text.length : Int) - ((x.ln 3).read : Int) < n := by omega
          go_wp2_with fail
          go_meet
          exact ⟨by rw [hn3], rfl⟩
        · have hn4 : ¬ ((x.ln 3).text.length : Int) - ((x.ln 3).read : Int) < n := by omega
          go_wp2_with fail
          go_meet
          exact ⟨by rw [hn3], rfl⟩
      case rest =>
        obtain ⟨hs, hw⟩ := hcut
        subst hs
        rw [hw]
        clear hw hmn hwL hn2 hn
        have hm1 : ((x.ln 3).read : Int) + (m : Int) ≤ ((x.ln 3).text.length : Int) := by omega
        generalize (s 3).un.take m = UT at *
        go_upto_region 7 with fail
        go_cut [85] (fun s85 wx => s85 = .bool false ∧ wx = w1.drew)
        case first =>
          go_region
          all_goals (go_wp2_with fail; go_meet; exact ⟨rfl, rfl⟩)
        case rest =>
          obtain ⟨hs, hw⟩ := hcut
          subst hs
          rw [hw]
          have e1 : w1.drew.drew.cell? ⟨w.heap.size, 1, none⟩ = some (.int .i64 (x.ln 3).read) := m1
          have e2 : w1.drew.cell? ⟨xb, 18, none⟩ = some (.int .i64 (x.ln 3).read) := HX1.out.c18
          have e3 : w1.drew.frozen? ⟨xb, 18, none⟩ = false := HX1.out.fr 18
          have e4 : w1.drew.drew.cell? ⟨xb, 18, none⟩ = some (.int .i64 (x.ln 3).read) := e2
          have e5 : w1.drew.drew.frozen? ⟨xb, 18, none⟩ = false := e3
          have HGO : Hid (GoI w (w1.setCell ⟨xb, 18, none⟩ (.int .i64 (((x.ln 3).read : Int) + (m : Int)))).drew.drew xb eb F (x.read 3 m) (gQ x.dead x.cf (d.owes m) (readS s 3 m))) := by
            refine HEND.out _ (Chg.drew (Chg.drew (chg_set (S := fun i => i = xb) (Chg.refl _ _) rfl))) ?_
            have : XI (w1.setCell ⟨xb, 18, none⟩ (.int .i64 (((x.ln 3).read : Int) + (m : Int)))) xb (.pointer (some ⟨eb, 0, none⟩)) (x.read 3 m) pv1 := HX1.out.set (by simp [XM.cells, XM.read, updL])
            exact this
          clear hw hcv n0 m0 m1 m30
          go_wp2_with fail
          go_region
          all_goals go_wp2
          all_goals go_ret
          all_goals exact ⟨rfl, HGO.out⟩
theorem kreads_X {w : World} {xb eb : Nat} {F : Nat → Prop} {x : XM} {d : Dn} {s : Nat → Sn} {N j : Nat} {n : Int} (h : In w xb eb F x (gQ x.dead x.cf d s)) (hr : Rel N x d s) (hN : N ≤ 9007199254740992) (hj : j < 4) (hn : 0 ≤ n) (hn2 : n ≤ 1099511627776) :
    Calls Tryz.prog 16 #[.pointer (some ⟨xb, 0, none⟩), .int .i64 (j : Int), .int .i64 n] w fun e w' => e = .returned (.bool true) ∧ ∃ m, m = cutN n (s j).un.length ∧ GoI w w' xb eb F (x.read j m) (gQ x.dead x.cf (d.owes m) (readS s j m)) ∧ Rel N (x.read j m) (d.owes m) (readS s j m) := by
  have hlr := hr.lns j hj
  have hun : (s j).un.length = (x.ln j).text.length - (x.ln j).read := by rw [hlr.un, List.length_drop]
  have hre := hr.readd hj (n := cutN n (s j).un.length) (by rw [hun]; unfold cutN; omega)
  rcases four_cases hj with rfl | rfl | rfl | rfl
  · exact (kreads_0 xb eb F x d s N n w h hr hN hn hn2).mono fun e w' ⟨h1, h2⟩ => ⟨h1, _, rfl, h2, hre⟩
  · exact (kreads_1 xb eb F x d s N n w h hr hN hn hn2).mono fun e w' ⟨h1, h2⟩ => ⟨h1, _, rfl, h2, hre⟩
  · exact (kreads_2 xb eb F x d s N n w h hr hN hn hn2).mono fun e w' ⟨h1, h2⟩ => ⟨h1, _, rfl, h2, hre⟩
  · exact (kreads_3 xb eb F x d s N n w h hr hN hn hn2).mono fun e w' ⟨h1, h2⟩ => ⟨h1, _, rfl, h2, hre⟩
end Go.Proofs.YtlhlmgfblbpdpaaGreatDoor
