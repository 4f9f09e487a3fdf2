import Derived.Test.YtdccldbefdfppaaGreatDoorQGaj
import Derived.Test.YtdccldbefdfppaaGreatDoorQGai
set_option linter.unusedVariables false
set_option linter.unusedSimpArgs false
/-
  Package ends: Read.
-/
namespace Go.Proofs.YtdccldbefdfppaaGreatDoor
set_option linter.unusedVariables false
set_option linter.unusedSimpArgs false
open Go.RowKit

def StM.taken (s : StM) (k : Nat) (v : Value) : StM := { s with owed := s.owed + k, unread := v }
def EndM.owes (m : EndM) (k : Nat) : EndM := { m with owed := m.owed + k }
end Go.Proofs.YtdccldbefdfppaaGreatDoor
/-
  (*ends.End).reset.
-/
namespace Go.Proofs.YtdccldbefdfppaaGreatDoor
set_option linter.unusedVariables false
set_option linter.unusedSimpArgs false
open Go.RowKit

def StM.dropped (s : StM) (by_ : Int) : StM := { s with reset := by_, unread := .slice none 0 0, waiting := .slice none 0 0 }
/-- A stream is given up; v: what is open then. -/
structure Dropd (w w' : World) (eb : Nat) (m : EndM) (L : List Str) (k u : Nat) (hk : k < L.length) (by_ : Int) (v : Value) : Prop where
  en : EnB w' eb ((m.owes u).opens v)
  st : StB w' L[k].1 (L[k].2.dropped by_)
  row : w'.ownsRow 0 124 1 v (L.length - 1) (opnCells (L.eraseIdx k))
  same : v.ownBlock = m.opn.ownBlock
  chg : Chg (fun j => j = eb ∨ j = L[k].1 ∨ m.opn.ownBlock = some j) w w'

set_option maxRecDepth 100000 in
set_option maxHeartbeats 1600000 in
theorem ereset_any (eb : Nat) (m : EndM) (L : List Str) (k u : Nat) (by_ : Int) (su : Option Addr) (cu : Nat) (w : World) (h : EnB w eb m) (ho : OpenS w m.opn L) (hL : L.length ≤ 1048576) (hk : k < L.length) (hb : by_ ≠ 0) (hu : L[k].2.unread = .slice su u cu) (hul : u ≤ 1048576) (hnd : ∀ j (h : j < L.length), j ≠ k → L[j].1 ≠ L[k].1) (b1 : -1152921504606846976 ≤ m.owed) (b2 : m.owed ≤ 1152921504606846976) :
    Calls Tryz.prog 134 #[.pointer (some ⟨eb, 0, none⟩), .pointer (some ⟨L[k].1, 0, none⟩), .int .i64 by_] w fun e w' => e = .returned (.tuple #[]) ∧ ∃ v, Dropd w w' eb m L k u hk by_ v := by
  have hs := ho.st _ (List.getElem_mem hk)
  have hne : eb ≠ L[k].1 := fun e => by
    have h1 := h.blk
    have h2 := hs.blk
    rw [← e, h1] at h2
    simp only [Option.some.injEq, Obj.cells.injEq] at h2
    exact absurd h2.2.1 (by decide)
  have hlt := h.lt
  have c6 := h.c6
  have f6 := h.fr 6
  have s10 := hs.c10
  have s11 := hs.c11
  have s12 := hs.c12
  have g10 := hs.fr 10
  have g11 := hs.fr 11
  have g12 := hs.fr 12
  rw [hu] at s11
  have hne1 := hne
  have hne2 : L[k].1 ≠ eb := fun e => hne e.symm
  -- the world in which settle is called
  have HSET : Hid (∀ W, W = ((((w.setCell ⟨L[k].1, 10, none⟩ (.int .i64 by_)).drew).setCell ⟨eb, 6, none⟩ (.int .i64 (m.owed + u))).setCell ⟨L[k].1, 11, none⟩ (.slice none 0 0)).setCell ⟨L[k].1, 12, none⟩ (.slice none 0 0) →
      Calls Tryz.prog 119 #[.pointer (some ⟨eb, 22, none⟩), .pointer (some ⟨L[k].1, 0, none⟩)] W fun e w' => e = .returned (.tuple #[]) ∧ ∃ v, Dropd w w' eb m L k u hk by_ v) := fun W hW => by
    have c1 : Chg (fun j => j = L[k].1) w (w.setCell ⟨L[k].1, 10, none⟩ (.int .i64 by_)) := chg_set (Chg.refl _ _) rfl
    have c2 : Chg (fun j => j = L[k].1) w ((w.setCell ⟨L[k].1, 10, none⟩ (.int .i64 by_)).drew) := c1.then_below ⟨rfl, rfl, rfl, Nat.le_refl _, fun _ _ => rfl⟩
    have e2 : EnB ((w.setCell ⟨L[k].1, 10, none⟩ (.int .i64 by_)).drew) eb m := h.chg c2 hne
    have s2 : StB ((w.setCell ⟨L[k].1, 10, none⟩ (.int .i64 by_)).drew) L[k].1 { L[k].2 with reset := by_ } := (StB.of (blk_set hs.blk) rfl : StB (w.setCell ⟨L[k].1, 10, none⟩ (.int .i64 by_)) L[k].1 { L[k].2 with reset := by_ }).below ⟨rfl, rfl, rfl, Nat.le_refl _, fun _ _ => rfl⟩
    have e3 : EnB (((w.setCell ⟨L[k].1, 10, none⟩ (.int .i64 by_)).drew).setCell ⟨eb, 6, none⟩ (.int .i64 (m.owed + u))) eb (m.owes u) := EnB.of (blk_set e2.blk) rfl
    have c3 : Chg (fun j => j = eb) ((w.setCell ⟨L[k].1, 10, none⟩ (.int .i64 by_)).drew) (((w.setCell ⟨L[k].1, 10, none⟩ (.int .i64 by_)).drew).setCell ⟨eb, 6, none⟩ (.int .i64 (m.owed + u))) := chg_set (Chg.refl _ _) rfl
    have s3 := s2.chg c3 hne2
    have c4 : Chg (fun j => j = L[k].1) (((w.setCell ⟨L[k].1, 10, none⟩ (.int .i64 by_)).drew).setCell ⟨eb, 6, none⟩ (.int .i64 (m.owed + u))) W := by rw [hW]; exact chg_set (chg_set (Chg.refl _ _) rfl) rfl
    have s4 : StB W L[k].1 (L[k].2.dropped by_) := by rw [hW]; exact StB.of (blk_set (blk_set s3.blk)) rfl
    have e4 : EnB W eb (m.owes u) := e3.chg c4 hne
    have cW : Chg (fun j => j = eb ∨ j = L[k].1) w W := ((c2.mono fun j _ e => Or.inr e).trans (c3.mono fun j _ e => Or.inr (Or.inl e))).trans (c4.mono fun j _ e => Or.inr (Or.inr e))
    have hcells : opnCells (L.set k (L[k].1, L[k].2.dropped by_)) = opnCells L := by
      unfold opnCells
      rw [List.map_set]
      have : (L.map fun p => Value.pointer (some ⟨p.1, 0, none⟩))[k]? = some (.pointer (some ⟨L[k].1, 0, none⟩)) := by simp [hk]
      obtain ⟨q1, q2⟩ := List.getElem?_eq_some_iff.1 this
      rw [← q2, List.set_getElem_self]
    have hrowne : ∀ j, m.opn.ownBlock = some j → ¬ (j = eb ∨ j = L[k].1) := fun j hj e => by
      rcases e with e | e
      · subst e; exact owns_ne ho.row h.blk (by decide) hj
      · rw [e] at hj; exact owns_ne ho.row hs.blk (by decide) hj
    have oW : OpenS W (m.owes u).opn (L.set k (L[k].1, L[k].2.dropped by_)) := by
      refine ⟨by rw [hcells, List.length_set]; exact owns_chg ho.row cW hrowne, fun p hp => ?_⟩
      obtain ⟨j, hj, hpj⟩ := List.mem_iff_getElem.1 hp
      rw [List.length_set] at hj
      rw [List.getElem_set] at hpj
      split at hpj
      · rw [← hpj]; exact s4
      · next hkj =>
        rw [← hpj]
        have hmj := List.getElem_mem hj
        have hjne := hnd j hj (fun e => hkj e.symm)
        have hsj := ho.st _ hmj
        refine hsj.chg cW ?_
        rintro (e | e)
        · have h1 := h.blk
          have h2 := hsj.blk
          rw [e, h1] at h2
          simp only [Option.some.injEq, Obj.cells.injEq] at h2
          exact absurd h2.2.1 (by decide)
        · exact hjne e
    have hk' : k < (L.set k (L[k].1, L[k].2.dropped by_)).length := by rw [List.length_set]; exact hk
    have hgk : (L.set k (L[k].1, L[k].2.dropped by_))[k] = (L[k].1, L[k].2.dropped by_) := by simp
    have hset := settle_yes eb (m.owes u) (L.set k (L[k].1, L[k].2.dropped by_)) k W e4 oW (by rw [List.length_set]; exact hL) hk' (by rw [hgk]; simp [StM.closed, StM.dropped, hb]) (fun j hj hjk => by
      rw [hgk, List.getElem_set, if_neg (fun e => hjk e.symm)]
      rw [List.length_set] at hj
      exact hnd j hj hjk)
    rw [hgk] at hset
    refine hset.mono ?_
    rintro e w' ⟨rfl, v, hS⟩
    refine ⟨rfl, v, ⟨hS.en, ?_, ?_, hS.same, ?_⟩⟩
    · refine s4.chg hS.chg ?_
      rintro (e | e)
      · exact hne2 e
      · exact hrowne _ e (Or.inr rfl)
    · have := hS.row
      rw [List.length_set, List.eraseIdx_set_eq] at this
      exact this
    · exact (cW.mono fun j _ e => by
        rcases e with e | e
        · exact Or.inl e
        · exact Or.inr (Or.inl e)).trans (hS.chg.mono fun j _ e => by
        rcases e with e | e
        · exact Or.inr (Or.inl e)
        · exact Or.inr (Or.inr (Or.inr e)))
  have q11 : (w.setCell ⟨L[k].1, 10, none⟩ (.int .i64 by_)).cell? ⟨L[k].1, 11, none⟩ = some (.slice su u cu) := by
    have q := (StB.of (blk_set hs.blk) rfl : StB (w.setCell ⟨L[k].1, 10, none⟩ (.int .i64 by_)) L[k].1 { L[k].2 with reset := by_ }).c11
    rw [q]
    exact congrArg some hu
  generalize hsbq : L[k].1 = sb at *
  clear h ho hs hnd hb hu
  go_enter Tryz.func134, Tryz.ntmps134
  go_upto_region 1 with fail
  have q6 : (w.setCell ⟨sb, 10, none⟩ (.int .i64 by_)).cell? ⟨eb, 6, none⟩ = some (.int .i64 m.owed) := by
    have cq : Chg (fun j => j = sb) w (w.setCell ⟨sb, 10, none⟩ (.int .i64 by_)) := chg_set (Chg.refl _ _) rfl
    rw [cq.cell (p := ⟨eb, 6, none⟩) hlt hne1]
    exact c6
  go_region_law (fail)
  all_goals go_wp2_with fail
  all_goals refine (HSET.out _ rfl).mono ?_
  all_goals rintro e w' ⟨rfl, v, hD⟩
  all_goals have HD := hide hD
  all_goals clear hD
  all_goals go_wp2
  all_goals exact bodyPost_end (results_none rfl _ _ _) rfl ⟨rfl, v, HD.out⟩
end Go.Proofs.YtdccldbefdfppaaGreatDoor
/-
  (*ends.End).Reset, and package sluice's.
-/
namespace Go.Proofs.YtdccldbefdfppaaGreatDoor
set_option linter.unusedVariables false
set_option linter.unusedSimpArgs false
open Go.RowKit

end Go.Proofs.YtdccldbefdfppaaGreatDoor
/-
  Package ends: makeData where nothing is to be sent; makeStreamCredit.
-/
namespace Go.Proofs.YtdccldbefdfppaaGreatDoor
set_option linter.unusedVariables false
set_option linter.unusedSimpArgs false
open Go.RowKit

set_option maxRecDepth 100000 in
set_option maxHeartbeats 800000 in
theorem makeData_no (eb : Nat) (m : EndM) (L : List Str) (nw : Str → Nat) (w : World) (h : EnB w eb m) (ho : OpenS w m.opn L) (hL : L.length ≤ 1048576) (hnw : ∀ p ∈ L, p.2.some? (nw p)) (h1 : -1152921504606846976 ≤ m.other) (h2 : m.other ≤ 1152921504606846976) (h3 : ∀ p ∈ L, -1152921504606846976 ≤ p.2.send ∧ p.2.send ≤ 1152921504606846976) (hno : nextS m.lastData (fun p => m.hasD p.2 (nw p)) L none = none) :
    Calls Tryz.prog 90 #[.pointer (some ⟨eb, 0, none⟩)] w fun e w' => e = .returned (.bool false) ∧ Below w.heap.size w w' := by
  have hn := nextToSend_any eb m L nw w h ho hL hnw h1 h2 h3
  rw [hno] at hn
  have HN := hide hn
  clear h ho hnw h3 hno hn
  go_enter Tryz.func90, Tryz.ntmps90
  go_wp2_with fail
  refine HN.out.mono ?_
  rintro e w1 ⟨rfl, hb⟩
  have HB := hide hb
  clear hb
  simp only [ptrO, Option.map_none]
  go_wp2
  go_ret
  exact ⟨rfl, HB.out⟩

/-- Is credit due for a stream? -/
def EndM.dueS (m : EndM) (s : StM) : Bool := !s.hasAll && dueB s.owed (m.own + s.receive) m.batch
def StM.granted (s : StM) : StM := { s with receive := s.receive + s.owed, owed := 0 }
/-- The first for which it is. -/
def firstDue (m : EndM) : List Str → Option Str
  | [] => none
  | p :: r => if m.dueS p.2 then some p else firstDue m r

/-- How makeStreamCredit ends. -/
def SCred (w w' : World) (eb : Nat) (m : EndM) (l : List UInt8) (o : Option Str) (e : Ending) : Prop := match o with
  | none => e = .returned (.bool false) ∧ Below w.heap.size w w'
  | some p => e = .returned (.bool true) ∧ ∃ v, EnB w' eb { m with out := v } ∧ StB w' p.1 p.2.granted ∧ w'.ownsRow 0 5 1 v (l ++ lay 6 0 p.2.number (four4 p.2.owed.toNat)).length ((l ++ lay 6 0 p.2.number (four4 p.2.owed.toNat)).map B) ∧ Chg (fun j => j = eb ∨ j = p.1 ∨ m.out.ownBlock = some j) w w' ∧ ∀ j, v.ownBlock = some j → m.out.ownBlock = some j ∨ w.heap.size ≤ j

set_option maxRecDepth 100000 in
set_option maxHeartbeats 1600000 in
theorem makeStreamCredit_any (eb : Nat) (m : EndM) (L : List Str) (l : List UInt8) (w : World) (h : EnB w eb m) (hg : m.greets = false) (ho : OpenS w m.opn L) (hL : L.length ≤ 1048576) (hrow : w.ownsRow 0 5 1 m.out l.length (l.map B)) (hl : l.length ≤ 1073741824) (h1 : -1152921504606846976 ≤ m.own) (h2 : m.own ≤ 1152921504606846976)
    (h3 : ∀ p ∈ L, -1152921504606846976 ≤ p.2.receive ∧ p.2.receive ≤ 1152921504606846976 ∧ 0 ≤ p.2.owed ∧ p.2.owed ≤ 4294967295 ∧ 0 ≤ p.2.number ∧ p.2.number ≤ 32767) :
    Calls Tryz.prog 87 #[.pointer (some ⟨eb, 0, none⟩)] w fun e w' => SCred w w' eb m l (firstDue m L) e := by
  obtain ⟨sr, cr, hv⟩ := slice_len ho.row
  have c23 := h.c23
  rw [hv] at c23
  rw [hv] at ho
  have HO := hide ho
  have H := hide h
  have hlt := h.lt
  have HRW : Hid (∀ wx, Below w.heap.size w wx → ∀ p ∈ L, Calls Tryz.prog 67 #[.pointer (some ⟨eb, 0, none⟩), .pointer (some ⟨p.1, 0, none⟩)] wx fun e w' => e = .returned (.int .i64 (m.own + p.2.receive)) ∧ Below wx.heap.size wx w') := fun wx hb p hp => receiveWindow_any eb p.1 m p.2 wx (h.below hb) ((ho.st p hp).below hb) h1 h2 (h3 p hp).1 (h3 p hp).2.1
  -- the credit itself
  have HPC : Hid (∀ wx, Below w.heap.size w wx → ∀ p ∈ L, Calls Tryz.prog 116 #[.pointer (some ⟨eb, 0, none⟩), .int .i64 p.2.number, .pointer (some ⟨p.1, 0, none⟩)] wx fun e w' => e = .returned (.tuple #[]) ∧ SCred w w' eb m l (some p) (.returned (.bool true))) := fun wx hb p hp => by
    obtain ⟨q1, q2, q3, q4, q5, q6⟩ := h3 p hp
    have hs := (ho.st p hp).below hb
    have he := h.below hb
    obtain ⟨n, hn⟩ : ∃ n : Nat, p.2.owed = n := ⟨p.2.owed.toNat, by omega⟩
    have hne : eb ≠ p.1 := fun e => by
      have h1 := he.blk
      have h2 := hs.blk
      rw [← e, h1] at h2
      simp only [Option.some.injEq, Obj.cells.injEq] at h2
      exact absurd h2.2.1 (by decide)
    have hrx := owns_chg hrow (Chg.of_below (S := fun _ => False) hb) (fun _ _ => id)
    have hos : m.out.ownBlock ≠ some p.1 := fun e => owns_ne hrx hs.blk (by decide) e
    have hc : Chg (fun j => j = p.1) wx ((wx.setCell ⟨p.1, 0 + 1, none⟩ (.int .i64 (p.2.receive + n))).setCell ⟨p.1, 0 + 2, none⟩ (.int .i64 0)) := chg_set (chg_set (Chg.refl _ _) rfl) rfl
    have hs1 : StB ((wx.setCell ⟨p.1, 0 + 1, none⟩ (.int .i64 (p.2.receive + n))).setCell ⟨p.1, 0 + 2, none⟩ (.int .i64 0)) p.1 p.2.granted := by
      refine StB.of (blk_set (blk_set hs.blk)) ?_
      unfold StM.granted; rw [← hn]; rfl
    refine (putCredit_any eb l wx p.1 0 p.2.number p.2.receive n m _ rfl (he.chg hc hne) hg hs.c1 (by rw [hs.c2, hn]) hs.fr q1 q2 (by omega) q5 q6 (owns_chg hrx hc (fun j hj e => hos (by rw [hj, e]))) hl).mono ?_
    rintro e w' ⟨rfl, v, hp'⟩
    have hch := (Chg.of_below (S := fun j => j = eb ∨ j = p.1 ∨ m.out.ownBlock = some j) hb).trans (hc.mono fun j _ e => Or.inr (Or.inr (Or.inl e)))
    refine ⟨rfl, rfl, v, hp'.b, hs1.chg hp'.chg (by rintro (e | e); exact hne e.symm; exact hos e), by rw [hn]; exact hp'.row, hch.trans (hp'.chg.mono fun j _ e => by
        rcases e with e | e
        · exact Or.inr (Or.inl e)
        · exact Or.inr (Or.inr (Or.inr e))), fun j hj => (hp'.fresh j hj).imp_right fun e => Nat.le_trans hch.size e⟩
  clear h ho hv hrow h3
  generalize hR : firstDue m L = R
  have HR := hide hR
  clear hR
  go_enter Tryz.func87, Tryz.ntmps87
  go_wp2
  go_loopw [11] (fun i wr => ∃ (k : Nat) (wv : World), wv = wr ∧ i = .int .i64 (k : Int) ∧ k ≤ L.length ∧ Below w.heap.size w wv ∧ firstDue m (L.drop k) = R) (fun i _ => L.length - (intOf i).toNat)
  case atStart => exact ⟨0, _, rfl, rfl, Nat.zero_le _, Below.refl _ _, HR.out⟩
  case round =>
    obtain ⟨k, wv, hwv, rfl, hk, hbel, hnx⟩ := hrel
    subst hwv
    by_cases hlk : k < L.length
    · obtain ⟨g, c, hv, hcell, hcap⟩ := (HO.out.below hbel).at hlk
      simp only [Value.slice.injEq] at hv
      obtain ⟨rfl, _, rfl⟩ := hv
      have hm := List.getElem_mem hlk
      rw [List.drop_eq_getElem_cons hlk, firstDue] at hnx
      have HRX : Hid (∀ wx, Below wv.heap.size wv wx → Calls Tryz.prog 67 #[.pointer (some ⟨eb, 0, none⟩), .pointer (some ⟨L[k].1, 0, none⟩)] wx fun e w' => e = .returned (.int .i64 (m.own + L[k].2.receive)) ∧ Below wx.heap.size wx w') := fun wx hb => HRW.out wx (hbel.trans (hb.mono hbel.size)) _ hm
      have HPX : Hid (∀ wx, Below wv.heap.size wv wx → Calls Tryz.prog 116 #[.pointer (some ⟨eb, 0, none⟩), .int .i64 L[k].2.number, .pointer (some ⟨L[k].1, 0, none⟩)] wx fun e w' => e = .returned (.tuple #[]) ∧ SCred w w' eb m l (some L[k]) (.returned (.bool true))) := fun wx hb => HPC.out wx (hbel.trans (hb.mono hbel.size)) _ hm
      have HST := hide ((HO.out.st _ hm).below hbel)
      have HE := hide (H.out.below hbel)
      generalize L[k] = p at hnx HRX HPX HST hcell
      obtain ⟨sb, st⟩ := p
      simp only at hnx HRX HPX HST hcell
      have s2 := HST.out.c2
      have s3 := HST.out.c3
      have s9 := HST.out.c9
      have b3 := HE.out.c3
      have hslt := HST.out.lt
      have helt := HE.out.lt
      have HNX := hide hnx
      have HBE := hide hbel
      clear hnx hbel hm
      obtain ⟨D, hD⟩ : ∃ D, D = m.dueS st := ⟨_, rfl⟩
      have HD := hide hD
      clear hD
      go_upto_region 4 with fail
      go_cut [34] (fun s34 wx => s34 = .bool D ∧ Below wv.heap.size wv wx)
      case first =>
        cases hh : st.hasAll with
        | true =>
          rw [hh] at s9
          have hd : D = false := by rw [HD.out]; simp [EndM.dueS, hh]
          subst hd
          go_quiet (fail)
          go_wp2_with fail
          go_meet
          exact ⟨rfl, bel_drewN (Below.refl _ _)⟩
        | false =>
          rw [hh] at s9
          have hd : D = dueB st.owed (m.own + st.receive) m.batch := by rw [HD.out]; simp [EndM.dueS, hh]
          have HDU := hide (isDue_any st.owed (m.own + st.receive) m.batch)
          rw [← hd] at HDU
          clear HPX HNX HD hd
          go_region_held3 (fun w' => w'.cell? ⟨sb, 9, none⟩ = some (.bool false) ∧ w'.cell? ⟨sb, 2, none⟩ = some (.int .i64 st.owed) ∧ w'.cell? ⟨eb, 3, none⟩ = some (.int .i64 m.batch)) (go_keep)
            (first
              | (go_at_call 67; refine (HRX.out wv.drew ⟨rfl, rfl, rfl, Nat.le_refl _, fun _ _ => rfl⟩).mono ?_; rintro e w1 ⟨rfl, hb1⟩; have hB1 : Below wv.heap.size wv w1 := ⟨hb1.os, hb1.tape, hb1.output, hb1.size, hb1.block⟩; have t9 : w1.cell? ⟨sb, 9, none⟩ = some (.bool false) := (by rw [(HST.out.below hB1).c9, hh]); have t2 := (HST.out.below hB1).c2; have t3 := (HE.out.below hB1).c3)
              | (go_at_call 115; refine (HDU.out _).mono ?_; rintro e w2 ⟨rfl, rfl⟩))
          all_goals (go_wp2_with fail; go_meet; exact ⟨rfl, hB1⟩)
      case rest =>
        obtain ⟨rfl, hbx⟩ := hcut
        obtain ⟨w4, hw4⟩ : ∃ w4, w4 = wc := ⟨wc, rfl⟩
        subst hw4
        have HX := hide hbx
        have s3' : w4.cell? ⟨sb, 3, none⟩ = some (.int .i64 st.number) := (HST.out.below hbx).c3
        clear hbx s2 s3 s9 b3
        cases D with
        | false =>
          have hn2 := HNX.out
          rw [← HD.out] at hn2
          have HN2 := hide hn2
          clear hn2
          go_wp2
          all_goals go_roundw
          case rel => exact ⟨k + 1, _, rfl, by go_num, by omega, HBE.out.trans (HX.out.mono HBE.out.size), by simpa using HN2.out⟩
          case measure => simp [intOf]; omega
        | true =>
          have hn2 := HNX.out
          rw [← HD.out] at hn2
          simp only [if_true] at hn2
          have HN2 := hide hn2
          clear hn2
          go_upto_region 5 with fail
          go_cut [] (fun wx => SCred w wx eb m l (some (sb, st)) (.returned (.bool true)))
          case first =>
            go_region_held3 (fun w' => w'.cell? ⟨sb, 3, none⟩ = some (.int .i64 st.number)) (go_keep)
              (first | (go_at_call 116; refine (HPX.out w4.drew (HX.out.trans ⟨rfl, rfl, rfl, Nat.le_refl _, fun _ _ => rfl⟩)).mono ?_; rintro e w' ⟨rfl, hsc⟩; have q3 : w'.cell? ⟨sb, 3, none⟩ = some (.int .i64 st.number) := (by obtain ⟨-, v, -, hst, -⟩ := hsc; exact hst.c3)))
            all_goals (go_wp2_with fail; go_meet; exact hsc)
          case rest =>
            have HC := hide hcut
            clear hcut
            go_wp2
            go_ret
            rw [← HN2.out]
            exact HC.out
    · have hke : k = L.length := by omega
      rw [List.drop_of_length_le (by omega), firstDue] at hnx
      have HNX := hide hnx
      have HBE := hide hbel
      clear hnx hbel
      go_wp2
      go_ret
      rw [← HNX.out]
      exact ⟨rfl, HBE.out⟩
end Go.Proofs.YtdccldbefdfppaaGreatDoor
/-
  Package ends: an end with all that it has: what holds between two calls.
-/
namespace Go.Proofs.YtdccldbefdfppaaGreatDoor
set_option linter.unusedVariables false
set_option linter.unusedSimpArgs false
open Go.RowKit

/-- A row that may begin further on in its block. -/
def RowAt (w : World) (e : TypeId) (size : Nat) (v : Value) (n : Nat) (xs : List Value) : Prop :=
  xs.length = n * size ∧ ((v = .slice none 0 0 ∧ n = 0) ∨ ∃ g o cap cur, v = .slice (some ⟨g, o, none⟩) n cap ∧ w.heap[g]? = some (.cells cur e (0, 0)) ∧ n ≤ cap ∧ cap ≤ maxLen ∧ o + cap * size ≤ cur.size ∧ (cur.toList.drop o).take (n * size) = xs)
theorem RowAt.of_owns {w : World} {e : TypeId} {size n : Nat} {v : Value} {xs : List Value} (h : w.ownsRow 0 e size v n xs) : RowAt w e size v n xs := by
  refine ⟨h.1, ?_⟩
  rcases h.2 with h1 | ⟨g, cap, cur, h1, h2, h3, h4, h5, h6, h7⟩
  · exact Or.inl h1
  · exact Or.inr ⟨g, 0, cap, cur, h1, h3, h4, h5, by rw [h6, Nat.zero_add]; exact Nat.le_refl _, by rw [List.drop_zero]; exact h7⟩
theorem RowAt.lt {w : World} {e : TypeId} {size n : Nat} {v : Value} {xs : List Value} (h : RowAt w e size v n xs) {j : Nat} (hj : v.ownBlock = some j) : j < w.heap.size := by
  rcases h.2 with ⟨h1, -⟩ | ⟨g, o, cap, cur, h1, h3, -⟩
  · subst h1; simp [Value.ownBlock] at hj
  · subst h1; simp [Value.ownBlock] at hj; subst hj; exact lt_of_block h3
theorem RowAt.chg {S : Nat → Prop} {w w' : World} {e : TypeId} {size n : Nat} {v : Value} {xs : List Value} (h : RowAt w e size v n xs) (hc : Chg S w w') (hs : ∀ j, v.ownBlock = some j → ¬ S j) : RowAt w' e size v n xs := by
  refine ⟨h.1, ?_⟩
  rcases h.2 with h1 | ⟨g, o, cap, cur, h1, h3, h4⟩
  · exact Or.inl h1
  · exact Or.inr ⟨g, o, cap, cur, h1, by rw [hc.block g (lt_of_block h3) (hs g (by subst h1; rfl))]; exact h3, h4⟩
theorem RowAt.ne {w : World} {e e' : TypeId} {size n b : Nat} {v : Value} {xs : List Value} {cs : Array Value} {fr : Nat × Nat} (h : RowAt w e size v n xs) (hb : w.heap[b]? = some (.cells cs e' fr)) (hne : e ≠ e') : v.ownBlock ≠ some b := by
  intro hj
  rcases h.2 with ⟨h1, -⟩ | ⟨g, o, cap, cur, h1, h3, -⟩
  · subst h1; simp [Value.ownBlock] at hj
  · subst h1; simp [Value.ownBlock] at hj; subst hj; rw [hb] at h3; simp only [Option.some.injEq, Obj.cells.injEq] at h3; exact hne h3.2.1.symm

/-- A stream: its block, its cells, what is unread, what waits. -/
structure GSt where
  sb : Nat
  st : StM
  un : List UInt8
  wa : List UInt8
def noSt : GSt := ⟨0, ⟨0, 0, 0, 0, .slice none 0 0, false, false, false, false, false, 0, .slice none 0 0, .slice none 0 0⟩, [], []⟩
def GSt.str (s : GSt) : Str := (s.sb, s.st)
/-- The stream of a number. -/
def atN (K : List GSt) (n : Int) : GSt := (K.find? fun s => s.st.number == n).getD noSt
def openS (K : List GSt) (L : List Int) : List Str := L.map fun n => (atN K n).str
/-- An answer that waits. -/
structure Ans where
  kind : Int
  flags : Int
  body : List UInt8
  bv : Value
def Ans.cells (a : Ans) : List Value := [.int .i64 a.kind, .int .i64 a.flags, .int .i64 0, a.bv]
/-- What an end is, and all that it has. L: the numbers of the streams that are open. -/
structure GEnd where
  m : EndM
  K : List GSt
  L : List Int
  out : List UInt8
  got : List UInt8
  ans : List Ans
  res : List Int
/-- Whose a block of bytes is: 0: what was made; 1: what the reader has; then two for each stream. -/
structure ApartE (T : Nat → Nat) (m : EndM) (K : List GSt) (A : List Ans) : Prop where
  out : ∀ j, m.out.ownBlock = some j → T j = 0
  got : ∀ j, m.got.ownBlock = some j → T j = 1
  un : ∀ p ∈ K, ∀ j, p.st.unread.ownBlock = some j → T j = 3 + 2 * p.sb
  wa : ∀ p ∈ K, ∀ j, p.st.waiting.ownBlock = some j → T j = 4 + 2 * p.sb
  an : ∀ a ∈ A, ∀ j, a.bv.ownBlock = some j → T j = 2
structure Inv (w : World) (eb mb : Nat) (g : GEnd) : Prop where
  en : EnB w eb g.m
  kn : KnownS w mb (g.K.map GSt.str)
  km : g.m.known = .map (some mb)
  nd : (g.K.map GSt.sb).Nodup
  nn : (g.K.map fun s => s.st.number).Nodup
  ln : g.L.Nodup
  has : ∀ n ∈ g.L, ∃ s ∈ g.K, s.st.number = n
  row : w.ownsRow 0 124 1 g.m.opn g.L.length (opnCells (openS g.K g.L))
  out : w.ownsRow 0 5 1 g.m.out g.out.length (g.out.map B)
  got : w.ownsRow 0 5 1 g.m.got g.got.length (g.got.map B)
  un : ∀ p ∈ g.K, w.ownsRow 0 5 1 p.st.unread p.un.length (p.un.map B)
  wa : ∀ p ∈ g.K, w.ownsRow 0 5 1 p.st.waiting p.wa.length (p.wa.map B)
  ans : RowAt w 48 4 g.m.answers g.ans.length (g.ans.flatMap Ans.cells)
  anb : ∀ a ∈ g.ans, w.ownsRow 0 5 1 a.bv a.body.length (a.body.map B)
  res : RowAt w 3 1 g.m.resets g.res.length (g.res.map fun i => .int .i64 i)
  ap : ∃ T, ApartE T g.m g.K g.ans
/-- The blocks of an end. -/
def Foot (eb mb : Nat) (g : GEnd) (j : Nat) : Prop := j = eb ∨ j = mb ∨ g.m.out.ownBlock = some j ∨ g.m.got.ownBlock = some j ∨ g.m.opn.ownBlock = some j ∨ g.m.answers.ownBlock = some j ∨ g.m.resets.ownBlock = some j ∨ (∃ a ∈ g.ans, a.bv.ownBlock = some j) ∨ ∃ p ∈ g.K, j = p.sb ∨ p.st.unread.ownBlock = some j ∨ p.st.waiting.ownBlock = some j
/-- One call on. -/
structure Next (w w' : World) (eb mb : Nat) (g g' : GEnd) : Prop where
  inv : Inv w' eb mb g'
  chg : Chg (Foot eb mb g) w w'
  grow : ∀ j, Foot eb mb g' j → Foot eb mb g j ∨ w.heap.size ≤ j

theorem find_nd {α : Type} (f : α → Int) : ∀ {K : List α}, (K.map f).Nodup → ∀ {s : α}, s ∈ K → K.find? (fun x => f x == f s) = some s
  | [], _, _, h => by cases h
  | x :: r, hn, s, hs => by
    rw [List.map_cons, List.nodup_cons] at hn
    rw [List.find?_cons]
    rcases List.mem_cons.1 hs with rfl | h
    · simp
    · have : f x ≠ f s := fun e => hn.1 (by rw [e]; exact List.mem_map.2 ⟨s, h, rfl⟩)
      simp only [beq_eq_false_iff_ne.2 this]
      exact find_nd f hn.2 h
theorem atN_mem {K : List GSt} (hn : (K.map fun s => s.st.number).Nodup) {s : GSt} (h : s ∈ K) : atN K s.st.number = s := by
  unfold atN
  rw [find_nd (fun s : GSt => s.st.number) hn h]
  rfl
theorem findK_str (K : List GSt) (n : Int) : findK (K.map GSt.str) n = (K.find? fun s => s.st.number == n).map GSt.str := by
  unfold findK
  induction K with
  | nil => rfl
  | cons x r ih =>
    rw [List.map_cons, List.find?_cons, List.find?_cons]
    show (match x.st.number == n with | true => _ | false => _) = _
    cases x.st.number == n
    · exact ih
    · rfl
theorem openS_length (K : List GSt) (L : List Int) : (openS K L).length = L.length := by simp [openS]

section
variable {w w' w'' : World} {eb mb : Nat} {g g' g'' : GEnd}
theorem Inv.st (h : Inv w eb mb g) {p : GSt} (hp : p ∈ g.K) : StB w p.sb p.st := h.kn.st p.str (List.mem_map.2 ⟨p, hp, rfl⟩)
theorem Inv.at (h : Inv w eb mb g) {n : Int} (hn : n ∈ g.L) : atN g.K n ∈ g.K ∧ (atN g.K n).st.number = n := by
  obtain ⟨s, hs, rfl⟩ := h.has n hn
  rw [atN_mem h.nn hs]
  exact ⟨hs, rfl⟩
theorem Inv.open (h : Inv w eb mb g) : OpenS w g.m.opn (openS g.K g.L) := ⟨by rw [openS_length]; exact h.row, fun p hp => by
  obtain ⟨n, hn, rfl⟩ := List.mem_map.1 hp
  exact h.st (h.at hn).1⟩
theorem block_ne {w : World} {a b : Nat} {cs cs' : Array Value} {t t' : TypeId} {f f' : Nat × Nat} (h : w.heap[a]? = some (.cells cs t f)) (h' : w.heap[b]? = some (.cells cs' t' f')) (hne : t ≠ t') : a ≠ b := fun e => by
  rw [e, h'] at h
  simp only [Option.some.injEq, Obj.cells.injEq] at h
  exact hne h.2.1.symm
theorem map_ne {w : World} {a b : Nat} {es : Array MapEntry} {c : Nat} {cs' : Array Value} {t' : TypeId} {f' : Nat × Nat} (h : w.heap[a]? = some (.map es c)) (h' : w.heap[b]? = some (.cells cs' t' f')) : a ≠ b := fun e => by
  rw [e, h'] at h
  cases h
theorem KnownS.ne_cells {mb b : Nat} {K : List Str} {cs : Array Value} {t : TypeId} {f : Nat × Nat} (h : KnownS w mb K) (h' : w.heap[b]? = some (.cells cs t f)) : mb ≠ b := by
  obtain ⟨es, c, hb, -⟩ := h.blk
  exact map_ne hb h'
theorem owns_mb {mb n e sz : Nat} {K : List Str} {v : Value} {xs : List Value} (h : KnownS w mb K) (h' : w.ownsRow 0 e sz v n xs) : v.ownBlock ≠ some mb := by
  intro hj
  rcases h'.2 with ⟨h1, -⟩ | ⟨g, cap, cur, h1, h2, h3, -⟩
  · subst h1; simp [Value.ownBlock] at hj
  · subst h1; simp [Value.ownBlock] at hj; exact h.ne_cells h3 hj.symm
theorem rowAt_mb {mb n e sz : Nat} {K : List Str} {v : Value} {xs : List Value} (h : KnownS w mb K) (h' : RowAt w e sz v n xs) : v.ownBlock ≠ some mb := by
  intro hj
  rcases h'.2 with ⟨h1, -⟩ | ⟨g, o, cap, cur, h1, h3, -⟩
  · subst h1; simp [Value.ownBlock] at hj
  · subst h1; simp [Value.ownBlock] at hj; exact h.ne_cells h3 hj.symm
theorem Inv.eb_mb (h : Inv w eb mb g) : mb ≠ eb := h.kn.ne_cells h.en.blk
theorem Inv.st_eb (h : Inv w eb mb g) {p : GSt} (hp : p ∈ g.K) : p.sb ≠ eb := block_ne (h.st hp).blk h.en.blk (by decide)
theorem Inv.st_mb (h : Inv w eb mb g) {p : GSt} (hp : p ∈ g.K) : mb ≠ p.sb := h.kn.ne_cells (h.st hp).blk
theorem rows_ne2 {e e' sz sz' n n' : Nat} {v v' : Value} {xs xs' : List Value} (h : w.ownsRow 0 e sz v n xs) (h' : RowAt w e' sz' v' n' xs') (hne : e ≠ e') {k : Nat} (hk : v.ownBlock = some k) : v'.ownBlock ≠ some k := by
  intro hk'
  rcases h.2 with ⟨h1, -⟩ | ⟨g, cap, cur, h1, h2, h3, -⟩
  · subst h1; simp [Value.ownBlock] at hk
  · subst h1; simp [Value.ownBlock] at hk; subst hk; exact h'.ne h3 (fun e => hne e.symm) hk'
theorem rows_ne3 {e e' sz sz' n n' : Nat} {v v' : Value} {xs xs' : List Value} (h : RowAt w e sz v n xs) (h' : RowAt w e' sz' v' n' xs') (hne : e ≠ e') {k : Nat} (hk : v.ownBlock = some k) : v'.ownBlock ≠ some k := by
  intro hk'
  rcases h.2 with ⟨h1, -⟩ | ⟨g, o, cap, cur, h1, h3, -⟩
  · subst h1; simp [Value.ownBlock] at hk
  · subst h1; simp [Value.ownBlock] at hk; subst hk; exact h'.ne h3 (fun e => hne e.symm) hk'

/-- Where the blocks are not touched, all is as it was. -/
theorem Inv.chg {S : Nat → Prop} (h : Inv w eb mb g) (hc : Chg S w w') (hs : ∀ j, Foot eb mb g j → ¬ S j) : Inv w' eb mb g where
  en := h.en.chg hc (hs _ (Or.inl rfl))
  kn := h.kn.chg hc (hs _ (Or.inr (Or.inl rfl))) (fun p hp => by
    obtain ⟨q, hq, rfl⟩ := List.mem_map.1 hp
    exact hs _ (Or.inr (Or.inr (Or.inr (Or.inr (Or.inr (Or.inr (Or.inr (Or.inr ⟨q, hq, Or.inl rfl⟩)))))))))
  km := h.km
  nd := h.nd
  nn := h.nn
  ln := h.ln
  has := h.has
  row := owns_chg h.row hc (fun j hj => hs j (by unfold Foot; simp [hj]))
  out := owns_chg h.out hc (fun j hj => hs j (by unfold Foot; simp [hj]))
  got := owns_chg h.got hc (fun j hj => hs j (by unfold Foot; simp [hj]))
  un := fun p hp => owns_chg (h.un p hp) hc (fun j hj => hs j (by unfold Foot; exact Or.inr (Or.inr (Or.inr (Or.inr (Or.inr (Or.inr (Or.inr (Or.inr ⟨p, hp, Or.inr (Or.inl hj)⟩)))))))))
  wa := fun p hp => owns_chg (h.wa p hp) hc (fun j hj => hs j (by unfold Foot; exact Or.inr (Or.inr (Or.inr (Or.inr (Or.inr (Or.inr (Or.inr (Or.inr ⟨p, hp, Or.inr (Or.inr hj)⟩)))))))))
  ans := h.ans.chg hc (fun j hj => hs j (by unfold Foot; simp [hj]))
  anb := fun a ha => owns_chg (h.anb a ha) hc (fun j hj => hs j (Or.inr (Or.inr (Or.inr (Or.inr (Or.inr (Or.inr (Or.inr (Or.inl ⟨a, ha, hj⟩)))))))))
  res := h.res.chg hc (fun j hj => hs j (by unfold Foot; simp [hj]))
  ap := h.ap
theorem Inv.below (h : Inv w eb mb g) (hb : Below w.heap.size w w') : Inv w' eb mb g := h.chg (Chg.of_below (S := fun _ => False) hb) (fun _ _ => id)
theorem Foot.lt (h : Inv w eb mb g) {j : Nat} (hj : Foot eb mb g j) : j < w.heap.size := by
  rcases hj with e | e | e | e | e | e | e | ⟨a, ha, e⟩ | ⟨p, hp, e | e | e⟩
  · rw [e]; exact h.en.lt
  · rw [e]; exact h.kn.lt
  · exact owns_lt h.out e
  · exact owns_lt h.got e
  · exact owns_lt h.row e
  · exact h.ans.lt e
  · exact h.res.lt e
  · exact owns_lt (h.anb a ha) e
  · rw [e]; exact (h.st hp).lt
  · exact owns_lt (h.un p hp) e
  · exact owns_lt (h.wa p hp) e
theorem Next.refl (h : Inv w eb mb g) : Next w w eb mb g g := ⟨h, Chg.refl _ _, fun _ hj => Or.inl hj⟩
theorem Next.of_below (h : Inv w eb mb g) (hb : Below w.heap.size w w') : Next w w' eb mb g g := ⟨h.below hb, Chg.of_below hb, fun _ hj => Or.inl hj⟩
theorem Next.trans (h : Next w w' eb mb g g') (h' : Next w' w'' eb mb g' g'') : Next w w'' eb mb g g'' where
  inv := h'.inv
  chg := h.chg.trans (h'.chg.mono fun j _ hj => (h.grow j hj).symm)
  grow := fun j hj => by
    rcases h'.grow j hj with a | a
    · exact h.grow j a
    · exact Or.inr (Nat.le_trans h.chg.size a)
theorem Next.pre (h : Next w' w'' eb mb g g') (hb : Below w.heap.size w w') : Next w w'' eb mb g g' where
  inv := h.inv
  chg := (Chg.of_below hb).trans (h.chg.mono fun j _ hj => Or.inr hj)
  grow := fun j hj => (h.grow j hj).imp_right fun a => Nat.le_trans hb.size a
theorem Next.then_below (h : Next w w' eb mb g g') (hb : Below w'.heap.size w' w'') : Next w w'' eb mb g g' := h.trans (Next.of_below h.inv hb)
/-- Bytes of others stay. -/
theorem Next.bytes (h : Next w w' eb mb g g') {bv : Value} {l : List UInt8} (hb : BytesIn w bv l) (hn : ∀ j, bv.ownBlock = some j → ¬ Foot eb mb g j) : BytesIn w' bv l ∧ ∀ j, bv.ownBlock = some j → ¬ Foot eb mb g' j := by
  refine ⟨hb.chg h.chg hn, fun j hj hf => ?_⟩
  rcases h.grow j hf with a | a
  · exact hn j hj a
  · have := hb.lt hj; omega

/-- Whose the blocks are, when some are new. -/
theorem Inv.apart (h : Inv w eb mb g) (tg : Nat → Nat) (m' : EndM) (K' : List GSt) (A' : List Ans) (ho : ∀ j, m'.out.ownBlock = some j → g.m.out.ownBlock = some j ∨ (w.heap.size ≤ j ∧ tg j = 0)) (hg : ∀ j, m'.got.ownBlock = some j → g.m.got.ownBlock = some j ∨ (w.heap.size ≤ j ∧ tg j = 1))
    (hu : ∀ p ∈ K', ∀ j, p.st.unread.ownBlock = some j → (∃ q ∈ g.K, q.sb = p.sb ∧ q.st.unread.ownBlock = some j) ∨ (w.heap.size ≤ j ∧ tg j = 3 + 2 * p.sb))
    (hw : ∀ p ∈ K', ∀ j, p.st.waiting.ownBlock = some j → (∃ q ∈ g.K, q.sb = p.sb ∧ q.st.waiting.ownBlock = some j) ∨ (w.heap.size ≤ j ∧ tg j = 4 + 2 * p.sb))
    (ha : ∀ a ∈ A', ∀ j, a.bv.ownBlock = some j → (∃ b ∈ g.ans, b.bv.ownBlock = some j) ∨ (w.heap.size ≤ j ∧ tg j = 2)) : ∃ T, ApartE T m' K' A' := by
  obtain ⟨T, hT⟩ := h.ap
  refine ⟨fun j => if j < w.heap.size then T j else tg j, ⟨?_, ?_, ?_, ?_, ?_⟩⟩
  · intro j hj
    rcases ho j hj with a | ⟨a, b⟩
    · simp only [owns_lt h.out a, if_true]; exact hT.out j a
    · simp only [Nat.not_lt.2 a, if_false]; exact b
  · intro j hj
    rcases hg j hj with a | ⟨a, b⟩
    · simp only [owns_lt h.got a, if_true]; exact hT.got j a
    · simp only [Nat.not_lt.2 a, if_false]; exact b
  · intro p hp j hj
    rcases hu p hp j hj with ⟨q, hq, e, a⟩ | ⟨a, b⟩
    · simp only [owns_lt (h.un q hq) a, if_true]; rw [← e]; exact hT.un q hq j a
    · simp only [Nat.not_lt.2 a, if_false]; exact b
  · intro p hp j hj
    rcases hw p hp j hj with ⟨q, hq, e, a⟩ | ⟨a, b⟩
    · simp only [owns_lt (h.wa q hq) a, if_true]; rw [← e]; exact hT.wa q hq j a
    · simp only [Nat.not_lt.2 a, if_false]; exact b
  · intro c hc j hj
    rcases ha c hc j hj with ⟨q, hq, a⟩ | ⟨a, b⟩
    · simp only [owns_lt (h.anb q hq) a, if_true]; exact hT.an q hq j a
    · simp only [Nat.not_lt.2 a, if_false]; exact b
/-- The blocks of bytes lie apart. -/
theorem Inv.out_got (h : Inv w eb mb g) {j : Nat} (hj : g.m.out.ownBlock = some j) : g.m.got.ownBlock ≠ some j := fun e => by
  obtain ⟨T, hT⟩ := h.ap
  have := hT.out j hj; have := hT.got j e; omega
theorem Inv.out_un (h : Inv w eb mb g) {p : GSt} (hp : p ∈ g.K) {j : Nat} (hj : p.st.unread.ownBlock = some j) : g.m.out.ownBlock ≠ some j := fun e => by
  obtain ⟨T, hT⟩ := h.ap
  have := hT.out j e; have := hT.un p hp j hj; omega
theorem Inv.out_wa (h : Inv w eb mb g) {p : GSt} (hp : p ∈ g.K) {j : Nat} (hj : p.st.waiting.ownBlock = some j) : g.m.out.ownBlock ≠ some j := fun e => by
  obtain ⟨T, hT⟩ := h.ap
  have := hT.out j e; have := hT.wa p hp j hj; omega
theorem Inv.got_un (h : Inv w eb mb g) {p : GSt} (hp : p ∈ g.K) {j : Nat} (hj : p.st.unread.ownBlock = some j) : g.m.got.ownBlock ≠ some j := fun e => by
  obtain ⟨T, hT⟩ := h.ap
  have := hT.got j e; have := hT.un p hp j hj; omega
theorem Inv.got_wa (h : Inv w eb mb g) {p : GSt} (hp : p ∈ g.K) {j : Nat} (hj : p.st.waiting.ownBlock = some j) : g.m.got.ownBlock ≠ some j := fun e => by
  obtain ⟨T, hT⟩ := h.ap
  have := hT.got j e; have := hT.wa p hp j hj; omega
theorem Inv.un_wa (h : Inv w eb mb g) {p q : GSt} (hp : p ∈ g.K) (hq : q ∈ g.K) {j : Nat} (hj : p.st.unread.ownBlock = some j) : q.st.waiting.ownBlock ≠ some j := fun e => by
  obtain ⟨T, hT⟩ := h.ap
  have := hT.un p hp j hj; have := hT.wa q hq j e; omega
theorem Inv.un_un (h : Inv w eb mb g) {p q : GSt} (hp : p ∈ g.K) (hq : q ∈ g.K) (hne : p.sb ≠ q.sb) {j : Nat} (hj : p.st.unread.ownBlock = some j) : q.st.unread.ownBlock ≠ some j := fun e => by
  obtain ⟨T, hT⟩ := h.ap
  have := hT.un p hp j hj; have := hT.un q hq j e; omega
theorem Inv.wa_wa (h : Inv w eb mb g) {p q : GSt} (hp : p ∈ g.K) (hq : q ∈ g.K) (hne : p.sb ≠ q.sb) {j : Nat} (hj : p.st.waiting.ownBlock = some j) : q.st.waiting.ownBlock ≠ some j := fun e => by
  obtain ⟨T, hT⟩ := h.ap
  have := hT.wa p hp j hj; have := hT.wa q hq j e; omega
theorem Inv.out_an (h : Inv w eb mb g) {a : Ans} (ha : a ∈ g.ans) {j : Nat} (hj : a.bv.ownBlock = some j) : g.m.out.ownBlock ≠ some j := fun e => by
  obtain ⟨T, hT⟩ := h.ap
  have := hT.out j e; have := hT.an a ha j hj; omega
theorem Inv.got_an (h : Inv w eb mb g) {a : Ans} (ha : a ∈ g.ans) {j : Nat} (hj : a.bv.ownBlock = some j) : g.m.got.ownBlock ≠ some j := fun e => by
  obtain ⟨T, hT⟩ := h.ap
  have := hT.got j e; have := hT.an a ha j hj; omega
theorem Inv.un_an (h : Inv w eb mb g) {a : Ans} (ha : a ∈ g.ans) {j : Nat} (hj : a.bv.ownBlock = some j) {p : GSt} (hp : p ∈ g.K) : p.st.unread.ownBlock ≠ some j := fun e => by
  obtain ⟨T, hT⟩ := h.ap
  have := hT.un p hp j e; have := hT.an a ha j hj; omega
theorem Inv.wa_an (h : Inv w eb mb g) {a : Ans} (ha : a ∈ g.ans) {j : Nat} (hj : a.bv.ownBlock = some j) {p : GSt} (hp : p ∈ g.K) : p.st.waiting.ownBlock ≠ some j := fun e => by
  obtain ⟨T, hT⟩ := h.ap
  have := hT.wa p hp j e; have := hT.an a ha j hj; omega
theorem inj_nd {α β : Type} (f : α → β) : ∀ {K : List α}, (K.map f).Nodup → ∀ {s t : α}, s ∈ K → t ∈ K → f s = f t → s = t
  | [], _, _, _, h, _, _ => by cases h
  | x :: r, hn, s, t, hs, ht, e => by
    rw [List.map_cons, List.nodup_cons] at hn
    rcases List.mem_cons.1 hs with rfl | h1
    · rcases List.mem_cons.1 ht with rfl | h2
      · rfl
      · exact absurd (List.mem_map.2 ⟨t, h2, e.symm⟩) hn.1
    · rcases List.mem_cons.1 ht with rfl | h2
      · exact absurd (List.mem_map.2 ⟨s, h1, e⟩) hn.1
      · exact inj_nd f hn.2 h1 h2 e
theorem Inv.same (h : Inv w eb mb g) {p q : GSt} (hp : p ∈ g.K) (hq : q ∈ g.K) (he : p.sb = q.sb) : p = q := inj_nd GSt.sb h.nd hp hq he
/-- Bytes of an end are not among what others have. -/
theorem Inv.foot_st (h : Inv w eb mb g) {p : GSt} (hp : p ∈ g.K) : Foot eb mb g p.sb := Or.inr (Or.inr (Or.inr (Or.inr (Or.inr (Or.inr (Or.inr (Or.inr ⟨p, hp, Or.inl rfl⟩)))))))
theorem foot_un {p : GSt} (hp : p ∈ g.K) {j : Nat} (hj : p.st.unread.ownBlock = some j) : Foot eb mb g j := Or.inr (Or.inr (Or.inr (Or.inr (Or.inr (Or.inr (Or.inr (Or.inr ⟨p, hp, Or.inr (Or.inl hj)⟩)))))))
theorem foot_wa {p : GSt} (hp : p ∈ g.K) {j : Nat} (hj : p.st.waiting.ownBlock = some j) : Foot eb mb g j := Or.inr (Or.inr (Or.inr (Or.inr (Or.inr (Or.inr (Or.inr (Or.inr ⟨p, hp, Or.inr (Or.inr hj)⟩)))))))

/-- What was made is more; the cells that are numbers, the answers and the resets may have changed, and numbers of streams. -/
theorem Inv.onEnd {S : Nat → Prop} {m' : EndM} {o' : List UInt8} {A' : List Ans} {R' : List Int} (h : Inv w eb mb g) (hc : Chg S w w') (hs : ∀ j, S j → j = eb ∨ g.m.out.ownBlock = some j) (hen : EnB w' eb m') (hk : m'.known = g.m.known) (hp : m'.opn = g.m.opn) (hg : m'.got = g.m.got) (ho : w'.ownsRow 0 5 1 m'.out o'.length (o'.map B)) (hfr : ∀ j, m'.out.ownBlock = some j → g.m.out.ownBlock = some j ∨ w.heap.size ≤ j)
    (ha : RowAt w 48 4 m'.answers A'.length (A'.flatMap Ans.cells)) (haa : ∀ a ∈ A', a ∈ g.ans) (hab : ∀ j, m'.answers.ownBlock = some j → g.m.answers.ownBlock = some j) (hr : RowAt w 3 1 m'.resets R'.length (R'.map fun i => .int .i64 i)) (hrb : ∀ j, m'.resets.ownBlock = some j → g.m.resets.ownBlock = some j) :
    Next w w' eb mb g { g with m := m', out := o', ans := A', res := R' } where
  inv := {
    en := hen
    kn := h.kn.chg hc (fun e => by
      rcases hs _ e with a | a
      · exact h.eb_mb a
      · exact owns_mb h.kn h.out a) (fun p hp' e => by
      obtain ⟨q, hq, rfl⟩ := List.mem_map.1 hp'
      rcases hs _ e with a | a
      · exact h.st_eb hq a
      · exact owns_ne h.out (h.st hq).blk (by decide) a)
    km := by rw [hk]; exact h.km
    nd := h.nd
    nn := h.nn
    ln := h.ln
    has := h.has
    row := by
      rw [hp]
      refine owns_chg h.row hc (fun j hj e => ?_)
      rcases hs _ e with a | a
      · rw [a] at hj; exact owns_ne h.row h.en.blk (by decide) hj
      · exact rows_ne h.out h.row (by decide) a hj
    out := ho
    got := by
      rw [hg]
      refine owns_chg h.got hc (fun j hj e => ?_)
      rcases hs _ e with a | a
      · rw [a] at hj; exact owns_ne h.got h.en.blk (by decide) hj
      · exact h.out_got a hj
    un := fun p hp' => owns_chg (h.un p hp') hc (fun j hj e => by
      rcases hs _ e with a | a
      · rw [a] at hj; exact owns_ne (h.un p hp') h.en.blk (by decide) hj
      · exact h.out_un hp' hj a)
    wa := fun p hp' => owns_chg (h.wa p hp') hc (fun j hj e => by
      rcases hs _ e with a | a
      · rw [a] at hj; exact owns_ne (h.wa p hp') h.en.blk (by decide) hj
      · exact h.out_wa hp' hj a)
    ans := ha.chg hc (fun j hj e => by
      rcases hs _ e with a | a
      · rw [a] at hj; exact ha.ne h.en.blk (by decide) hj
      · exact rows_ne2 h.out ha (by decide) a hj)
    anb := fun a ha' => owns_chg (h.anb a (haa a ha')) hc (fun j hj e => by
      rcases hs _ e with b | b
      · rw [b] at hj; exact owns_ne (h.anb a (haa a ha')) h.en.blk (by decide) hj
      · exact h.out_an (haa a ha') hj b)
    res := hr.chg hc (fun j hj e => by
      rcases hs _ e with a | a
      · rw [a] at hj; exact hr.ne h.en.blk (by decide) hj
      · exact rows_ne2 h.out hr (by decide) a hj)
    ap := h.apart (fun _ => 0) m' g.K A' (fun j hj => (hfr j hj).imp_right fun a => ⟨a, rfl⟩) (fun j hj => Or.inl (by rw [← hg]; exact hj)) (fun p hp' j hj => Or.inl ⟨p, hp', rfl, hj⟩) (fun p hp' j hj => Or.inl ⟨p, hp', rfl, hj⟩) (fun a ha' j hj => Or.inl ⟨a, haa a ha', hj⟩) }
  chg := hc.mono fun j _ e => by
    rcases hs _ e with a | a
    · exact Or.inl a
    · exact Or.inr (Or.inr (Or.inl a))
  grow := fun j hj => by
    unfold Foot at hj ⊢
    rcases hj with e | e | e | e | e | e | e | ⟨a, ha', e⟩ | e
    · simp [e]
    · simp [e]
    · rcases hfr j e with a | a
      · simp [a]
      · exact Or.inr a
    · simp only [hg] at e; simp [e]
    · simp only [hp] at e; simp [e]
    · simp [hab j e]
    · simp [hrb j e]
    · exact Or.inl (Or.inr (Or.inr (Or.inr (Or.inr (Or.inr (Or.inr (Or.inr (Or.inl ⟨a, haa a ha', e⟩))))))))
    · exact Or.inl (Or.inr (Or.inr (Or.inr (Or.inr (Or.inr (Or.inr (Or.inr (Or.inr e))))))))
end
end Go.Proofs.YtdccldbefdfppaaGreatDoor
/-
  Package ends: what an end makes next, without where things lie.
-/
namespace Go.Proofs.YtdccldbefdfppaaGreatDoor
set_option linter.unusedVariables false
set_option linter.unusedSimpArgs false
open Go.RowKit

/-- Of a slice just whether it is nil. -/
def nilV (v : Value) : Value := match v with
  | .slice none _ _ => .slice none 0 0
  | _ => .tuple #[]
/-- Is it nil, and empty? -/
def nilU (v : Value) : Value := match v with
  | .slice none 0 0 => .slice none 0 0
  | _ => .tuple #[]
theorem nilU_nil {v : Value} (h : nilU v = .slice none 0 0) : v = .slice none 0 0 := by
  unfold nilU at h
  split at h
  · rfl
  · cases h
/-- Of heads: are they nil, are they none? -/
def headV (v : Value) : Value := match v with
  | .slice none 0 0 => .slice none 0 0
  | .slice _ 0 _ => .slice none 0 1
  | _ => .tuple #[]
theorem headV_none {v : Value} (h : headV v ≠ .tuple #[]) : ∃ a c, v = .slice a 0 c := by
  unfold headV at h
  split at h
  · exact ⟨_, _, rfl⟩
  · exact ⟨_, _, rfl⟩
  · exact absurd rfl h
def EndM.bare (m : EndM) : EndM := { m with known := .slice none 0 0, opn := .slice none 0 0, got := .slice none 0 0, hlen := 0, hkind := 0, hflags := 0, hstream := 0, bbytes := .slice none 0 0, utab := nilU m.utab, out := .slice none 0 0, answers := nilV m.answers, resets := nilV m.resets, ptab := .slice none 0 0, pwait := nilU m.pwait }
def StM.bare (s : StM) : StM := { s with heads := headV s.heads, unread := .slice none 0 0, waiting := .slice none 0 0 }
def GSt.bare (s : GSt) : GSt := ⟨0, s.st.bare, s.un, s.wa⟩
def Ans.bare (a : Ans) : Ans := { a with bv := .slice none 0 0 }
def GEnd.bare (g : GEnd) : GEnd := ⟨g.m.bare, g.K.map GSt.bare, g.L, g.out, g.got, g.ans.map Ans.bare, g.res⟩
/-- The stream of a number is changed. -/
def updN (n : Int) (f : GSt → GSt) (K : List GSt) : List GSt := K.map fun s => if s.st.number = n then f s else s
theorem atN_bare (K : List GSt) (n : Int) : atN (K.map GSt.bare) n = (atN K n).bare := by
  unfold atN
  induction K with
  | nil => rfl
  | cons s r ih =>
    rw [List.map_cons, List.find?_cons, List.find?_cons]
    show ((match s.st.number == n with | true => some s.bare | false => _).getD noSt) = _
    cases s.st.number == n
    · exact ih
    · rfl
theorem updN_bare (n : Int) (f : GSt → GSt) (hf : ∀ s, (f s).bare = f s.bare) (K : List GSt) : (updN n f K).map GSt.bare = updN n f (K.map GSt.bare) := by
  unfold updN
  rw [List.map_map, List.map_map]
  apply List.map_congr_left
  intro s _
  show (if s.st.number = n then f s else s).bare = if s.st.number = n then f s.bare else s.bare
  split
  · exact hf s
  · rfl
theorem updN_const {n : Int} {f : GSt → GSt} {K : List GSt} (hn : (K.map fun s => s.st.number).Nodup) {s : GSt} (hs : s ∈ K) (he : s.st.number = n) : updN n (fun _ => f s) K = updN n f K := by
  unfold updN
  apply List.map_congr_left
  intro x hx
  by_cases e : x.st.number = n
  · rw [if_pos e, if_pos e, inj_nd (fun s : GSt => s.st.number) hn hs hx (by simp only [he, e])]
  · rw [if_neg e, if_neg e]
/-- The first open stream for which credit is due. -/
def firstDueN (m : EndM) (K : List GSt) : List Int → Option Int
  | [] => none
  | n :: r => if m.dueS (atN K n).st then some n else firstDueN m K r
theorem firstDue_openS (m : EndM) (K : List GSt) : ∀ L : List Int, firstDue m (openS K L) = (firstDueN m K L).map fun n => (atN K n).str
  | [] => rfl
  | n :: r => by
    show (if m.dueS (atN K n).st then some (atN K n).str else firstDue m (openS K r)) = _
    rw [firstDue_openS m K r, firstDueN]
    split <;> rfl
theorem firstDueN_mem {m : EndM} {K : List GSt} : ∀ {L : List Int} {n : Int}, firstDueN m K L = some n → n ∈ L
  | [], _, h => by cases h
  | k :: r, n, h => by
    rw [firstDueN] at h
    split at h
    · injection h with h; rw [h]; exact List.mem_cons_self
    · exact List.mem_cons_of_mem _ (firstDueN_mem h)
theorem firstDueN_bare (m : EndM) (K : List GSt) : ∀ L : List Int, firstDueN m.bare (K.map GSt.bare) L = firstDueN m K L
  | [] => rfl
  | n :: r => by
    rw [firstDueN, firstDueN, atN_bare, firstDueN_bare m K r]
    rfl
def GSt.granted (s : GSt) : GSt := { s with st := s.st.granted }
/-- The frames that a live end makes, each if it is there. -/
def GEnd.oFirst (g : GEnd) : Option GEnd := if g.m.told then none else some { g with m := g.m.setd, out := g.out ++ lay 3 0 0 (four4 g.m.wanted.toNat) }
def GEnd.oAnswer (g : GEnd) : Option GEnd := match g.ans with
  | [] => none
  | a :: r => some { g with ans := r, out := g.out ++ lay a.kind a.flags 0 a.body }
def GEnd.oSettings (g : GEnd) : Option GEnd := if (g.m.waits || g.m.wanted == g.m.made) then none else some { g with m := g.m.setd, out := g.out ++ lay 3 0 0 (four4 g.m.wanted.toNat) }
def GEnd.oPing (g : GEnd) : Option GEnd := if (g.m.under && !g.m.pinged) then some { g with m := g.m.pingd, out := g.out ++ lay 4 0 0 (four4 g.m.pnum) } else none
def GEnd.oCredit (g : GEnd) : Option GEnd := if dueB g.m.owed g.m.receive g.m.batch then some { g with m := g.m.granted, out := g.out ++ lay 6 0 0 (four4 g.m.owed.toNat) } else none
def GEnd.oStream (g : GEnd) : Option GEnd := (firstDueN g.m g.K g.L).map fun n => { g with K := updN n GSt.granted g.K, out := g.out ++ lay 6 0 n (four4 (atN g.K n).st.owed.toNat) }
def GEnd.oReset (g : GEnd) : Option GEnd := match g.res with
  | [] => none
  | n :: r => some { g with res := r, out := g.out ++ lay 2 0 n [0] }
/-- The next frame that a live end makes, if nothing is to be announced or sent. -/
def GEnd.next (g : GEnd) : Option GEnd := g.oFirst.or (g.oAnswer.or (g.oSettings.or (g.oPing.or (g.oCredit.or (g.oStream.or g.oReset)))))
theorem or_map {α β : Type} (f : α → β) (a b : Option α) : (a.or b).map f = (a.map f).or (b.map f) := by cases a <;> rfl
theorem next_bare (g : GEnd) : g.next.map GEnd.bare = g.bare.next := by
  have h1 : g.oFirst.map GEnd.bare = g.bare.oFirst := by
    unfold GEnd.oFirst
    rw [show g.bare.m.told = g.m.told from rfl]
    cases g.m.told <;> rfl
  have h2 : g.oAnswer.map GEnd.bare = g.bare.oAnswer := by
    unfold GEnd.oAnswer
    rw [show g.bare.ans = g.ans.map Ans.bare from rfl]
    cases g.ans <;> rfl
  have h3 : g.oSettings.map GEnd.bare = g.bare.oSettings := by
    unfold GEnd.oSettings
    rw [show (g.bare.m.waits || g.bare.m.wanted == g.bare.m.made) = (g.m.waits || g.m.wanted == g.m.made) from rfl]
    cases (g.m.waits || g.m.wanted == g.m.made) <;> rfl
  have h4 : g.oPing.map GEnd.bare = g.bare.oPing := by
    unfold GEnd.oPing
    rw [show (g.bare.m.under && !g.bare.m.pinged) = (g.m.under && !g.m.pinged) from rfl]
    cases (g.m.under && !g.m.pinged) <;> rfl
  have h5 : g.oCredit.map GEnd.bare = g.bare.oCredit := by
    unfold GEnd.oCredit
    rw [show dueB g.bare.m.owed g.bare.m.receive g.bare.m.batch = dueB g.m.owed g.m.receive g.m.batch from rfl]
    cases dueB g.m.owed g.m.receive g.m.batch <;> rfl
  have h6 : g.oStream.map GEnd.bare = g.bare.oStream := by
    unfold GEnd.oStream
    rw [show firstDueN g.bare.m g.bare.K g.bare.L = firstDueN g.m g.K g.L from firstDueN_bare _ _ _]
    cases firstDueN g.m g.K g.L with
    | none => rfl
    | some n =>
      simp only [Option.map_some]
      unfold GEnd.bare
      simp only [atN_bare, updN_bare n GSt.granted (fun s => rfl)]
      rfl
  have h7 : g.oReset.map GEnd.bare = g.bare.oReset := by
    unfold GEnd.oReset
    rw [show g.bare.res = g.res from rfl]
    cases g.res <;> rfl
  unfold GEnd.next
  simp only [or_map, h1, h2, h3, h4, h5, h6, h7]

/-- Numbers within bounds. -/
structure FineB (g : GEnd) : Prop where
  greets : g.m.greets = false
  wanted : 0 ≤ g.m.wanted ∧ g.m.wanted ≤ 1000
  owed : 0 ≤ g.m.owed ∧ g.m.owed ≤ 4294967295
  receive : -1099511627776 ≤ g.m.receive ∧ g.m.receive + g.m.owed ≤ 1099511627776
  pnum : g.m.pnum < 4294967296
  own : -1099511627776 ≤ g.m.own ∧ g.m.own ≤ 1099511627776
  other : -1099511627776 ≤ g.m.other ∧ g.m.other ≤ 1099511627776
  ans : ∀ a ∈ g.ans, 0 ≤ a.kind ∧ a.kind ≤ 255 ∧ 0 ≤ a.flags ∧ a.flags ≤ 255 ∧ a.body.length ≤ 64
  res : ∀ n ∈ g.res, 0 ≤ n ∧ n ≤ 32767
  st : ∀ s ∈ g.K, (-1099511627776 ≤ s.st.receive ∧ s.st.receive + s.st.owed ≤ 1099511627776) ∧ (0 ≤ s.st.owed ∧ s.st.owed ≤ 4294967295) ∧ (0 ≤ s.st.number ∧ s.st.number ≤ 32767) ∧ (-1099511627776 ≤ s.st.send ∧ s.st.send ≤ 1099511627776)
  few : g.L.length ≤ 1048576
/-- Numbers within bounds; nothing is to be announced or sent. -/
structure Fine (g : GEnd) : Prop where
  greets : g.m.greets = false
  wanted : 0 ≤ g.m.wanted ∧ g.m.wanted ≤ 1000
  owed : 0 ≤ g.m.owed ∧ g.m.owed ≤ 4294967295
  receive : -1099511627776 ≤ g.m.receive ∧ g.m.receive + g.m.owed ≤ 1099511627776
  pnum : g.m.pnum < 4294967296
  own : -1099511627776 ≤ g.m.own ∧ g.m.own ≤ 1099511627776
  other : -1099511627776 ≤ g.m.other ∧ g.m.other ≤ 1099511627776
  ans : ∀ a ∈ g.ans, 0 ≤ a.kind ∧ a.kind ≤ 255 ∧ 0 ≤ a.flags ∧ a.flags ≤ 255 ∧ a.body.length ≤ 64
  res : ∀ n ∈ g.res, 0 ≤ n ∧ n ≤ 32767
  st : ∀ s ∈ g.K, (-1099511627776 ≤ s.st.receive ∧ s.st.receive + s.st.owed ≤ 1099511627776) ∧ (0 ≤ s.st.owed ∧ s.st.owed ≤ 4294967295) ∧ (0 ≤ s.st.number ∧ s.st.number ≤ 32767) ∧ (-1099511627776 ≤ s.st.send ∧ s.st.send ≤ 1099511627776) ∧ s.st.announced = true ∧ g.m.hasD s.st s.wa.length = false
  few : g.L.length ≤ 1048576
theorem Fine.toB {g : GEnd} (h : Fine g) : FineB g where
  greets := h.greets
  wanted := h.wanted
  owed := h.owed
  receive := h.receive
  pnum := h.pnum
  own := h.own
  other := h.other
  ans := h.ans
  res := h.res
  st := fun s hs => ⟨(h.st s hs).1, (h.st s hs).2.1, (h.st s hs).2.2.1, (h.st s hs).2.2.2.1⟩
  few := h.few
theorem Fine.bare {g : GEnd} (h : Fine g) : Fine g.bare where
  greets := h.greets
  wanted := h.wanted
  owed := h.owed
  receive := h.receive
  pnum := h.pnum
  own := h.own
  other := h.other
  ans := fun a ha => by obtain ⟨b, hb, rfl⟩ := List.mem_map.1 ha; exact h.ans b hb
  res := h.res
  st := fun s hs => by obtain ⟨b, hb, rfl⟩ := List.mem_map.1 hs; exact h.st b hb
  few := h.few
theorem Fine.of_bare {g : GEnd} (h : Fine g.bare) : Fine g where
  greets := h.greets
  wanted := h.wanted
  owed := h.owed
  receive := h.receive
  pnum := h.pnum
  own := h.own
  other := h.other
  ans := fun a ha => h.ans a.bare (List.mem_map.2 ⟨a, ha, rfl⟩)
  res := h.res
  st := fun s hs => h.st s.bare (List.mem_map.2 ⟨s, hs, rfl⟩)
  few := h.few
theorem or_some {α : Type} {a b : Option α} {q : α} (h : a.or b = some q) : a = some q ∨ b = some q := by
  cases a with
  | none => exact Or.inr (by simpa using h)
  | some x => exact Or.inl (by simpa using h)
theorem Fine.next {g q : GEnd} (h : Fine g) (hn : g.next = some q) : Fine q := by
  rcases or_some hn with hn | hn
  · unfold GEnd.oFirst at hn
    split at hn
    · cases hn
    · injection hn with hn; subst hn
      exact ⟨h.greets, h.wanted, h.owed, h.receive, h.pnum, h.own, h.other, h.ans, h.res, h.st, h.few⟩
  rcases or_some hn with hn | hn
  · unfold GEnd.oAnswer at hn
    split at hn
    · cases hn
    · rename_i a r ha
      injection hn with hn; subst hn
      exact ⟨h.greets, h.wanted, h.owed, h.receive, h.pnum, h.own, h.other, fun b hb => h.ans b (by rw [ha]; exact List.mem_cons_of_mem _ hb), h.res, h.st, h.few⟩
  rcases or_some hn with hn | hn
  · unfold GEnd.oSettings at hn
    split at hn
    · cases hn
    · injection hn with hn; subst hn
      exact ⟨h.greets, h.wanted, h.owed, h.receive, h.pnum, h.own, h.other, h.ans, h.res, h.st, h.few⟩
  rcases or_some hn with hn | hn
  · unfold GEnd.oPing at hn
    split at hn
    · injection hn with hn; subst hn
      exact ⟨h.greets, h.wanted, h.owed, h.receive, h.pnum, h.own, h.other, h.ans, h.res, h.st, h.few⟩
    · cases hn
  rcases or_some hn with hn | hn
  · unfold GEnd.oCredit at hn
    split at hn
    · injection hn with hn; subst hn
      have h1 := h.owed; have h2 := h.receive
      exact ⟨h.greets, h.wanted, ⟨by show (0 : Int) ≤ 0; omega, by show (0 : Int) ≤ _; omega⟩, ⟨by show _ ≤ g.m.receive + g.m.owed; omega, by show g.m.receive + g.m.owed + 0 ≤ _; omega⟩, h.pnum, h.own, h.other, h.ans, h.res, h.st, h.few⟩
    · cases hn
  rcases or_some hn with hn | hn
  · unfold GEnd.oStream at hn
    cases hd : firstDueN g.m g.K g.L with
    | none => rw [hd] at hn; cases hn
    | some n =>
      rw [hd, Option.map_some] at hn
      injection hn with hn; subst hn
      refine ⟨h.greets, h.wanted, h.owed, h.receive, h.pnum, h.own, h.other, h.ans, h.res, ?_, h.few⟩
      intro s hs
      obtain ⟨b, hb, rfl⟩ := List.mem_map.1 hs
      have hq := h.st b hb
      by_cases e : b.st.number = n
      · simp only [e, if_true]
        obtain ⟨q1, q2, q3, q4, q5, q6⟩ := hq
        exact ⟨⟨by show _ ≤ b.st.receive + b.st.owed; omega, by show b.st.receive + b.st.owed + 0 ≤ _; omega⟩, ⟨by show (0 : Int) ≤ 0; omega, by show (0 : Int) ≤ _; omega⟩, q3, q4, q5, q6⟩
      · simp only [e, if_false]
        exact hq
  · unfold GEnd.oReset at hn
    split at hn
    · cases hn
    · rename_i n r hr
      injection hn with hn; subst hn
      exact ⟨h.greets, h.wanted, h.owed, h.receive, h.pnum, h.own, h.other, h.ans, fun b hb => h.res b (by rw [hr]; exact List.mem_cons_of_mem _ hb), h.st, h.few⟩
end Go.Proofs.YtdccldbefdfppaaGreatDoor
/-
  Package ends: what the calls do to an end with all that it has.
-/
namespace Go.Proofs.YtdccldbefdfppaaGreatDoor
set_option linter.unusedVariables false
set_option linter.unusedSimpArgs false
open Go.RowKit

section
variable {w w' : World} {eb mb : Nat} {g : GEnd}
/-- A frame was made. -/
theorem Inv.put {m' : EndM} {new : List UInt8} {v : Value} (h : Inv w eb mb g) (h1 : m'.known = g.m.known) (h2 : m'.opn = g.m.opn) (h3 : m'.got = g.m.got) (h4 : m'.out = g.m.out) (h5 : m'.answers = g.m.answers) (h6 : m'.resets = g.m.resets) (hp : Put w w' eb m' g.out new v) :
    Next w w' eb mb g { g with m := { m' with out := v }, out := g.out ++ new } := by
  have hc := hp.chg
  rw [h4] at hc
  exact h.onEnd (S := fun j => j = eb ∨ g.m.out.ownBlock = some j) hc (fun j e => e) hp.b h1 h2 h3 hp.row (fun j hj => by have := hp.fresh j hj; rw [h4] at this; exact this) (by rw [show ({ m' with out := v } : EndM).answers = m'.answers from rfl, h5]; exact h.ans) (fun a ha => ha) (fun j hj => by rw [← h5]; exact hj) (by rw [show ({ m' with out := v } : EndM).resets = m'.resets from rfl, h6]; exact h.res) (fun j hj => by rw [← h6]; exact hj)

theorem upd_nums {n : Int} {f : GSt → GSt} {K : List GSt} (hf : ∀ s ∈ K, s.st.number = n → (f s).st.number = n) : ((updN n f K).map fun s => s.st.number) = K.map fun s => s.st.number := by
  unfold updN
  rw [List.map_map]
  apply List.map_congr_left
  intro s hs
  show (if s.st.number = n then f s else s).st.number = _
  split
  · rename_i e; rw [hf s hs e, e]
  · rfl
theorem upd_sbs {n : Int} {f : GSt → GSt} {K : List GSt} (hf : ∀ s ∈ K, s.st.number = n → (f s).sb = s.sb) : (updN n f K).map GSt.sb = K.map GSt.sb := by
  unfold updN
  rw [List.map_map]
  apply List.map_congr_left
  intro s hs
  show (if s.st.number = n then f s else s).sb = _
  split
  · rename_i e; exact hf s hs e
  · rfl
theorem mem_upd {n : Int} {f : GSt → GSt} {K : List GSt} {x : GSt} : x ∈ updN n f K ↔ ∃ s ∈ K, (if s.st.number = n then f s else s) = x := List.mem_map
theorem atN_upd {n : Int} {f : GSt → GSt} {K : List GSt} (hn : (K.map fun s => s.st.number).Nodup) (hf : ∀ s ∈ K, s.st.number = n → (f s).st.number = n) {x : GSt} (hx : x ∈ K) : atN (updN n f K) x.st.number = if x.st.number = n then f x else x := by
  have h1 : ((updN n f K).map fun s => s.st.number).Nodup := by rw [upd_nums hf]; exact hn
  have h2 := atN_mem h1 (mem_upd.2 ⟨x, hx, rfl⟩)
  have h3 : (if x.st.number = n then f x else x).st.number = x.st.number := by
    split
    · rename_i e; rw [hf x hx e, e]
    · rfl
  rw [h3] at h2
  exact h2

/-- A stream is changed: its numbers, what is unread of it, what waits; and the end's cells. -/
theorem Inv.onSt {S : Nat → Prop} {m' : EndM} {s s' : GSt} {L' : List Int} {o' : List UInt8} (tg : Nat) (h : Inv w eb mb g) (hs : s ∈ g.K) (hc : Chg S w w') (hS : ∀ j, S j → j = eb ∨ j = s.sb ∨ g.m.opn.ownBlock = some j ∨ g.m.out.ownBlock = some j ∨ s.st.unread.ownBlock = some j ∨ s.st.waiting.ownBlock = some j)
    (hen : EnB w' eb m') (hst : StB w' s.sb s'.st) (hsb : s'.sb = s.sb) (hnum : s'.st.number = s.st.number) (hk : m'.known = g.m.known) (hgot : m'.got = g.m.got) (hans : m'.answers = g.m.answers) (hres : m'.resets = g.m.resets)
    (hrow : w'.ownsRow 0 124 1 m'.opn L'.length (opnCells (openS g.K L'))) (hrb : ∀ j, m'.opn.ownBlock = some j → g.m.opn.ownBlock = some j ∨ w.heap.size ≤ j) (hL : L'.Sublist g.L)
    (ho : w'.ownsRow 0 5 1 m'.out o'.length (o'.map B)) (hob : ∀ j, m'.out.ownBlock = some j → g.m.out.ownBlock = some j ∨ (w.heap.size ≤ j ∧ tg = 0))
    (hu : w'.ownsRow 0 5 1 s'.st.unread s'.un.length (s'.un.map B)) (hub : ∀ j, s'.st.unread.ownBlock = some j → s.st.unread.ownBlock = some j ∨ (w.heap.size ≤ j ∧ tg = 3 + 2 * s.sb))
    (hw : w'.ownsRow 0 5 1 s'.st.waiting s'.wa.length (s'.wa.map B)) (hwb : ∀ j, s'.st.waiting.ownBlock = some j → s.st.waiting.ownBlock = some j ∨ (w.heap.size ≤ j ∧ tg = 4 + 2 * s.sb)) :
    Next w w' eb mb g { g with m := m', K := updN s.st.number (fun _ => s') g.K, L := L', out := o' } := by
  have heq : ∀ x ∈ g.K, x.st.number = s.st.number → x = s := fun x hx e => by rw [← atN_mem h.nn hx, e, atN_mem h.nn hs]
  have hf : ∀ x ∈ g.K, x.st.number = s.st.number → ((fun _ => s') x : GSt).st.number = s.st.number := fun x hx e => hnum
  have hfb : ∀ x ∈ g.K, x.st.number = s.st.number → ((fun _ => s') x : GSt).sb = x.sb := fun x hx e => by rw [heq x hx e]; exact hsb
  have hx : ∀ x ∈ g.K, x.st.number ≠ s.st.number → x.sb ≠ s.sb := fun x hx e e' => e (by rw [h.same hx hs e'])
  have hmem : ∀ y ∈ updN s.st.number (fun _ => s') g.K, y = s' ∨ (y ∈ g.K ∧ y.sb ≠ s.sb) := fun y hy => by
    obtain ⟨x, hxk, e⟩ := mem_upd.1 hy
    by_cases e2 : x.st.number = s.st.number
    · rw [if_pos e2] at e; exact Or.inl e.symm
    · rw [if_neg e2] at e; subst e; exact Or.inr ⟨hxk, hx x hxk e2⟩
  have neb : ∀ j, ¬ S j ∨ S j := fun j => (Classical.em (S j)).symm
  refine ⟨⟨hen, ⟨?_, ?_⟩, by rw [hk]; exact h.km, by rw [upd_sbs hfb]; exact h.nd, by rw [upd_nums hf]; exact h.nn, h.ln.sublist hL, ?_, ?_, ho, ?_, ?_, ?_, ?_, ?_, ?_, ?_⟩, ?_, ?_⟩
  · obtain ⟨es, clock, hb, he, hbn⟩ := h.kn.blk
    refine ⟨es, clock, ?_, ?_, hbn⟩
    · rw [hc.block mb h.kn.lt (fun e => ?_)]
      · exact hb
      · rcases hS _ e with a | a | a | a | a | a
        · exact h.eb_mb a
        · exact h.st_mb hs a
        · exact owns_mb h.kn h.row a
        · exact owns_mb h.kn h.out a
        · exact owns_mb h.kn (h.un s hs) a
        · exact owns_mb h.kn (h.wa s hs) a
    · rw [he, List.map_map, List.map_map]
      unfold updN
      rw [List.map_map]
      apply List.map_congr_left
      intro x hxk
      show knownE x.str = knownE (if x.st.number = s.st.number then s' else x).str
      split
      · rename_i e
        rw [heq x hxk e]
        unfold knownE GSt.str
        simp only [hsb, hnum]
      · rfl
  · intro p hp
    obtain ⟨y, hy, rfl⟩ := List.mem_map.1 hp
    rcases hmem y hy with rfl | ⟨hyk, hyne⟩
    · show StB w' y.sb y.st
      rw [hsb]; exact hst
    · refine (h.st hyk).chg hc (fun e => ?_)
      rcases hS _ e with a | a | a | a | a | a
      · exact h.st_eb hyk a
      · exact hyne a
      · exact owns_ne h.row (h.st hyk).blk (by decide) a
      · exact owns_ne h.out (h.st hyk).blk (by decide) a
      · exact owns_ne (h.un s hs) (h.st hyk).blk (by decide) a
      · exact owns_ne (h.wa s hs) (h.st hyk).blk (by decide) a
  · intro n hn
    obtain ⟨x, hxk, e⟩ := h.has n (hL.subset hn)
    refine ⟨_, mem_upd.2 ⟨x, hxk, rfl⟩, ?_⟩
    split
    · rename_i e2; rw [hnum, ← e2, e]
    · exact e
  · have e : opnCells (openS (updN s.st.number (fun _ => s') g.K) L') = opnCells (openS g.K L') := by
      unfold opnCells openS
      rw [List.map_map, List.map_map]
      apply List.map_congr_left
      intro n hn
      obtain ⟨x, hxk, e⟩ := h.has n (hL.subset hn)
      subst e
      show Value.pointer (some ⟨(atN (updN s.st.number (fun _ => s') g.K) x.st.number).sb, 0, none⟩) = Value.pointer (some ⟨(atN g.K x.st.number).sb, 0, none⟩)
      rw [atN_upd h.nn hf hxk, atN_mem h.nn hxk]
      split
      · rename_i e2; rw [heq x hxk e2, hsb]
      · rfl
    show w'.ownsRow 0 124 1 m'.opn L'.length (opnCells (openS (updN s.st.number (fun _ => s') g.K) L'))
    rw [e]
    exact hrow
  · show w'.ownsRow 0 5 1 m'.got _ _
    rw [hgot]
    refine owns_chg h.got hc (fun j hj e => ?_)
    rcases hS _ e with a | a | a | a | a | a
    · rw [a] at hj; exact owns_ne h.got h.en.blk (by decide) hj
    · rw [a] at hj; exact owns_ne h.got (h.st hs).blk (by decide) hj
    · exact rows_ne h.got h.row (by decide) hj a
    · exact h.out_got a hj
    · exact h.got_un hs a hj
    · exact h.got_wa hs a hj
  · intro y hy
    rcases hmem y hy with rfl | ⟨hyk, hyne⟩
    · exact hu
    · refine owns_chg (h.un y hyk) hc (fun j hj e => ?_)
      rcases hS _ e with a | a | a | a | a | a
      · rw [a] at hj; exact owns_ne (h.un y hyk) h.en.blk (by decide) hj
      · rw [a] at hj; exact owns_ne (h.un y hyk) (h.st hs).blk (by decide) hj
      · exact rows_ne (h.un y hyk) h.row (by decide) hj a
      · exact h.out_un hyk hj a
      · exact h.un_un hs hyk (fun e => hyne e.symm) a hj
      · exact h.un_wa hyk hs hj a
  · intro y hy
    rcases hmem y hy with rfl | ⟨hyk, hyne⟩
    · exact hw
    · refine owns_chg (h.wa y hyk) hc (fun j hj e => ?_)
      rcases hS _ e with a | a | a | a | a | a
      · rw [a] at hj; exact owns_ne (h.wa y hyk) h.en.blk (by decide) hj
      · rw [a] at hj; exact owns_ne (h.wa y hyk) (h.st hs).blk (by decide) hj
      · exact rows_ne (h.wa y hyk) h.row (by decide) hj a
      · exact h.out_wa hyk hj a
      · exact h.un_wa hs hyk a hj
      · exact h.wa_wa hs hyk (fun e => hyne e.symm) a hj
  · show RowAt w' _ _ m'.answers _ _
    rw [hans]
    refine h.ans.chg hc (fun j hj e => ?_)
    rcases hS _ e with a | a | a | a | a | a
    · rw [a] at hj; exact h.ans.ne h.en.blk (by decide) hj
    · rw [a] at hj; exact h.ans.ne (h.st hs).blk (by decide) hj
    · exact rows_ne2 h.row h.ans (by decide) a hj
    · exact rows_ne2 h.out h.ans (by decide) a hj
    · exact rows_ne2 (h.un s hs) h.ans (by decide) a hj
    · exact rows_ne2 (h.wa s hs) h.ans (by decide) a hj
  · intro b hb
    refine owns_chg (h.anb b hb) hc (fun j hj e => ?_)
    rcases hS _ e with a | a | a | a | a | a
    · rw [a] at hj; exact owns_ne (h.anb b hb) h.en.blk (by decide) hj
    · rw [a] at hj; exact owns_ne (h.anb b hb) (h.st hs).blk (by decide) hj
    · exact rows_ne (h.anb b hb) h.row (by decide) hj a
    · exact h.out_an hb hj a
    · exact h.un_an hb hj hs a
    · exact h.wa_an hb hj hs a
  · show RowAt w' _ _ m'.resets _ _
    rw [hres]
    refine h.res.chg hc (fun j hj e => ?_)
    rcases hS _ e with a | a | a | a | a | a
    · rw [a] at hj; exact h.res.ne h.en.blk (by decide) hj
    · rw [a] at hj; exact h.res.ne (h.st hs).blk (by decide) hj
    · exact rows_ne2 h.row h.res (by decide) a hj
    · exact rows_ne2 h.out h.res (by decide) a hj
    · exact rows_ne2 (h.un s hs) h.res (by decide) a hj
    · exact rows_ne2 (h.wa s hs) h.res (by decide) a hj
  · refine h.apart (fun _ => tg) m' _ g.ans hob (fun j hj => Or.inl (by rw [← hgot]; exact hj)) ?_ ?_ (fun a ha j hj => Or.inl ⟨a, ha, hj⟩)
    · intro y hy j hj
      rcases hmem y hy with rfl | ⟨hyk, hyne⟩
      · rcases hub j hj with a | ⟨a, b⟩
        · exact Or.inl ⟨s, hs, hsb.symm, a⟩
        · exact Or.inr ⟨a, by rw [hsb]; exact b⟩
      · exact Or.inl ⟨y, hyk, rfl, hj⟩
    · intro y hy j hj
      rcases hmem y hy with rfl | ⟨hyk, hyne⟩
      · rcases hwb j hj with a | ⟨a, b⟩
        · exact Or.inl ⟨s, hs, hsb.symm, a⟩
        · exact Or.inr ⟨a, by rw [hsb]; exact b⟩
      · exact Or.inl ⟨y, hyk, rfl, hj⟩
  · refine hc.mono fun j _ e => ?_
    rcases hS _ e with a | a | a | a | a | a
    · exact Or.inl a
    · rw [a]; exact h.foot_st hs
    · unfold Foot; simp [a]
    · unfold Foot; simp [a]
    · exact foot_un hs a
    · exact foot_wa hs a
  · intro j hj
    rcases hj with e | e | e | e | e | e | e | e | ⟨y, hy, e⟩
    · exact Or.inl (Or.inl e)
    · exact Or.inl (Or.inr (Or.inl e))
    · rcases hob j e with a | a
      · exact Or.inl (by unfold Foot; simp [a])
      · exact Or.inr a.1
    · simp only [hgot] at e; exact Or.inl (by unfold Foot; simp [e])
    · rcases hrb j e with a | a
      · exact Or.inl (by unfold Foot; simp [a])
      · exact Or.inr a
    · simp only [hans] at e; exact Or.inl (by unfold Foot; simp [e])
    · simp only [hres] at e; exact Or.inl (by unfold Foot; simp [e])
    · exact Or.inl (Or.inr (Or.inr (Or.inr (Or.inr (Or.inr (Or.inr (Or.inr (Or.inl e))))))))
    · rcases hmem y hy with rfl | ⟨hyk, hyne⟩
      · rcases e with e | e | e
        · rw [hsb] at e; rw [e]; exact Or.inl (h.foot_st hs)
        · rcases hub j e with a | a
          · exact Or.inl (foot_un hs a)
          · exact Or.inr a.1
        · rcases hwb j e with a | a
          · exact Or.inl (foot_wa hs a)
          · exact Or.inr a.1
      · exact Or.inl (Or.inr (Or.inr (Or.inr (Or.inr (Or.inr (Or.inr (Or.inr (Or.inr ⟨y, hyk, e⟩))))))))
end
end Go.Proofs.YtdccldbefdfppaaGreatDoor
