import Derived.Test.YtiphkngfbpdeoaaGreatDoorVGac
import Derived.Test.YtiphkngfbpdeoaaGreatDoorVGaa
import Derived.Lib.BufferWrite
import Derived.Lib.UnsafeStr
import Derived.Lib.Hide
import Derived.Laws.MakeOwn
set_option linter.unusedVariables false
set_option linter.unusedSimpArgs false
namespace Go.Proofs.YtiphkngfbpdeoaaGreatDoor
set_option linter.unusedVariables false
set_option linter.unusedSimpArgs false
open Go.RowKit
structure TbTo (w w' : World) (b : Nat) (cs cs' : Array Value) (tP : TypeId) (lim : Nat) (tv tv' : Value) (tab' : List HP) : Prop where
  st : TbS w' b cs' tP lim tv' tab'
  cs3 : ∀ i, 3 ≤ i → cs'[i]? = cs[i]?
  chg : Chg (TouchT b tv) w w'
  own : ∀ j, tv'.ownBlock = some j → tv.ownBlock = some j ∨ w.heap.size ≤ j
set_option maxRecDepth 100000 in
set_option maxHeartbeats 1600000 in
theorem tresize_any (b : Nat) (cs : Array Value) (tP : TypeId) (lim : Nat) (tv : Value) (tab : List HP) (n : Nat) (w : World) (ht : TbS w b cs tP lim tv tab) (hn : n ≤ 256) :
    Calls Tryz.prog 176 #[.pointer (some ⟨b, 0, none⟩), .int .i64 n] w fun e w' => e = .returned (.tuple #[]) ∧ ∃ cs' tv', TbTo w w' b cs cs' tP n tv tv' (shr tab n) := by
  have hsz : szT tab ≤ 256 := Nat.le_trans ht.fit ht.small
  have hc1 : Chg (fun j => j = b) w (w.setCell ⟨b, 0, none⟩ (.int .i64 (n : Int))) := (Chg.refl (fun j => j = b) w).setCell (p := ⟨b, 0, none⟩) (Or.inr rfl) _
  have hro := owns_chg ht.row hc1 (fun j hj e => by subst e; exact owns_ne ht.row ht.tb.blk (fun e => ht.tb.ne e.symm) hj)
  have hsh := shrink_any b (cs.setIfInBounds 0 (.int .i64 (n : Int))) tP n tv tab (n : Int) _ (ht.tb.set0 n) hro hsz (by omega) (by omega)
  obtain ⟨z0, z1, z2⟩ := ht.tb.cells
  have y0 := ht.tb.free 0
  have HSH := hide hsh
  have HC1 := hide hc1
  clear hsh hc1 hro z1 z2
  go_enter Tryz.func176, Tryz.ntmps176
  go_wp2_with fail
  refine HSH.out.mono ?_
  rintro e w1 ⟨rfl, cs', tv', h1⟩
  have H1 := hide h1
  clear h1
  go_wp2
  refine bodyPost_end (results_none rfl _ _ _) rfl ⟨rfl, cs', tv', ⟨H1.out.tb, H1.out.row, ?_, hn⟩, fun i hi => ?_, (HC1.out.mono fun j _ e => Or.inl e).trans (H1.out.chg.mono fun j _ e => Or.inr e), fun j hj => ?_⟩
  · have := shr_size tab (n : Int) (by omega)
    omega
  · rw [H1.out.cs3 i hi, set_ne (by omega)]
  · rcases H1.out.own j hj with e | e
    · exact Or.inl e
    · exact Or.inr (Nat.le_trans HC1.out.size e)
theorem hp_one (h : HP) : ∀ u ∈ hpCells [h], u.oneCell' = true := by
  intro u hu
  simp [hpCells] at hu
  rcases hu with rfl | rfl <;> rfl
theorem lies_pair (w : World) (h : HP) : Lies (w.alloc (.cells #[.string h.n, .string h.v] 147)) (.slice (some ⟨w.heap.size, 0, none⟩) 1 1) 1 (hpCells [h]) := by
  refine Or.inr ⟨_, _, rfl, fun j u hu => ?_⟩
  have hh := heap_alloc_new w (.cells #[.string h.n, .string h.v] 147)
  have e : (⟨w.heap.size, 0, none⟩ : Addr).add j = ⟨w.heap.size, j, none⟩ := by unfold Addr.add; split <;> simp_all
  rw [e, cell_of_row _ _ _ _ _ _ hh, ← hu]
  simp [hpCells]
theorem add_end {w wa w1 w2 : World} {b : Nat} {cs cs1 : Array Value} {tP : TypeId} {lim : Nat} {tv tv1 tv2 : Value} {tab : List HP} {h : HP} {o : Obj} (hb : Below w.heap.size w wa) (h1 : Shr wa w1 b cs cs1 tP lim tv tv1 tab) (hf : szT tab + tk h ≤ lim) (hl : lim ≤ 256)
    (hown : w2.ownsRow 0 147 2 tv2 (tab.length + 1) (hpCells tab ++ hpCells [h])) (hg : (w1.alloc o).drew.grownBy w2 tv1.ownBlock) (hfr : tv2.ownBlock = tv1.ownBlock ∨ tv2.ownBlock = some (w1.heap.size + 1)) :
    TbB w2 b cs1 tP lim (szT tab) tv1 ∧ TbTo w ((w2.setCell ⟨b, 2, none⟩ tv2).setCell ⟨b, 1, none⟩ (.int .i64 (szT (tab ++ [h]) : Int))) b cs ((cs1.setIfInBounds 2 tv2).setIfInBounds 1 (.int .i64 (szT (tab ++ [h]) : Int))) tP lim tv tv2 (tab ++ [h]) := by
  have hne : tv1.ownBlock ≠ some b := owns_ne h1.row h1.tb.blk (fun e => h1.tb.ne e.symm)
  have hc : Chg (fun j => tv1.ownBlock = some j) w1 w2 := (((Chg.refl _ _).alloc o).drew).trans (Chg.of_grown hg (fun j hj => Or.inr hj))
  have hb2 := h1.tb.chg hc hne
  have hne2 : tv2.ownBlock ≠ some b := owns_ne hown hb2.blk (fun e => hb2.ne e.symm)
  have hc2 : Chg (fun j => j = b) w2 ((w2.setCell ⟨b, 2, none⟩ tv2).setCell ⟨b, 1, none⟩ (.int .i64 (szT (tab ++ [h]) : Int))) := ((Chg.refl (fun j => j = b) w2).setCell (p := ⟨b, 2, none⟩) (Or.inr rfl) _).setCell (p := ⟨b, 1, none⟩) (Or.inr rfl) _
  have hsz : szT (tab ++ [h]) = szT tab + tk h := by rw [szT_append, szT_cons]; simp [szT]
  have hs1 := h1.chg.size
  have hs0 := hb.size
  refine ⟨hb2, ⟨⟨(hb2.set2 tv2).set1 _, ?_, by omega, hl⟩, fun i hi => ?_, ?_, fun j hj => ?_⟩⟩
  · rw [List.length_append, hpCells_append]
    exact owns_chg hown hc2 (fun j hj e => by subst e; exact hne2 hj)
  · rw [set_ne (by omega), set_ne (by omega)]
    exact h1.cs3 i hi
  · refine (((Chg.of_below hb).trans (h1.chg.mono fun j _ e => Or.inr e)).trans (hc.mono fun j _ e => ?_)).trans (hc2.mono fun j _ e => Or.inr (Or.inl e))
    rcases h1.own j e with a | a
    · exact Or.inr (Or.inr a)
    · exact Or.inl (Nat.le_trans hs0 a)
  · have : tv1.ownBlock = some j ∨ w1.heap.size ≤ j := by
      rcases hfr with e | e
      · rw [e] at hj; exact Or.inl hj
      · rw [e] at hj; simp at hj; exact Or.inr (by omega)
    rcases this with e | e
    · rcases h1.own j e with a | a
      · exact Or.inl a
      · exact Or.inr (Nat.le_trans hs0 a)
    · exact Or.inr (by omega)
set_option maxRecDepth 100000 in
set_option maxHeartbeats 800000 in
theorem add_any (b : Nat) (cs : Array Value) (tP : TypeId) (lim : Nat) (tv : Value) (tab : List HP) (h : HP) (w : World) (ht : TbS w b cs tP lim tv tab) (hn : h.n.size ≤ 268435456) (hv : h.v.size ≤ 268435456) :
    Calls Tryz.prog 179 #[.pointer (some ⟨b, 0, none⟩), .agg #[.string h.n, .string h.v]] w fun e w' => e = .returned (.tuple #[]) ∧ ∃ cs' tv', TbTo w w' b cs cs' tP lim tv tv' (addT tab lim h) := by
  obtain ⟨i0, hi, hz0, hz1, hz2⟩ := info_parts Tryz.info147
  have hsz : szT tab ≤ 256 := Nat.le_trans ht.fit ht.small
  have hlim := ht.small
  have hfit := ht.fit
  have htk : tk h = h.n.size + h.v.size + 8 := rfl
  have hbx := (Below.refl w.heap.size w).alloc (Nat.le_refl _) (.cells #[.string h.n, .string h.v] 147)
  have hh := heap_alloc_new w (.cells #[.string h.n, .string h.v] 147)
  have HRM := hide (fun wx => room_any h wx (by omega) (by omega))
  have hlp := fun wx => lies_pair wx h
  have hon := hp_one h
  have hadd : addT tab lim h = if tk h ≤ lim then shr tab ((lim : Int) - tk h) ++ [h] else shr tab ((lim : Int) - tk h) := rfl
  have hall : lim < tk h → shr tab ((lim : Int) - tk h) = [] := fun e => by unfold shr; rw [goneN_all _ _ (by omega)]; simp
  have hszs : tk h ≤ lim → szT (shr tab ((lim : Int) - tk h)) + tk h ≤ lim := fun e => by have := shr_size tab ((lim : Int) - tk h) (by omega); omega
  have HADD := hide hadd
  have HALL := hide hall
  have HSZS := hide hszs
  have HT := hide ht
  have HBX := hide hbx
  have HHB := hide hh
  have HLP := hide hlp
  have HON := hide hon
  have htb : tk h ≤ 536870920 := by omega
  clear htk
  generalize hte : tk h = t at HRM htb HADD HALL HSZS
  have HTE := hide hte
  clear hte
  clear ht hbx hh hadd hall hszs hlp hon
  go_enter Tryz.func179, Tryz.ntmps179
  go_wp2_with fail
  refine (HRM.out _).mono ?_
  rintro e w1 ⟨rfl, hb1⟩
  have hbel : Below w.heap.size w w1 := HBX.out.trans (hb1.mono HBX.out.size)
  have hbox : w1.heap[w.heap.size]? = some (.cells #[.string h.n, .string h.v] 147 (0, 0)) := by rw [hb1.block _ (lt_of_block HHB.out)]; exact HHB.out
  have ht1 := HT.out.below hbel
  obtain ⟨z0, z1, z2⟩ := ht1.tb.cells
  have hbl : b ≠ w.heap.size := by have := HT.out.tb.lt; omega
  have hsh := shrink_any b cs tP lim tv tab ((lim : Int) - (t : Int)) w1 ht1.tb ht1.row hsz (by omega) (by omega)
  have hvb : tv.ownBlock ≠ some w.heap.size := fun e => by have := owns_lt HT.out.row e; omega
  have HSH := hide hsh
  have HB1 := hide hbel
  have HBOX := hide hbox
  have HVB := hide hvb
  clear hsh hbel hbox hb1 ht1 hvb z1 z2
  go_wp2_with fail
  refine HSH.out.mono ?_
  rintro e w2 ⟨rfl, cs1, tv1, h2⟩
  have hbox2 : w2.heap[w.heap.size]? = some (.cells #[.string h.n, .string h.v] 147 (0, 0)) := by
    rw [h2.chg.block _ (lt_of_block HBOX.out) (by rintro (e | e); exact hbl e.symm; exact HVB.out e)]; exact HBOX.out
  obtain ⟨z0, z1, z2⟩ := h2.tb.cells
  have y1 := h2.tb.free 1
  have y2 := h2.tb.free 2
  have q0 : w2.cell? ⟨w.heap.size, 0, none⟩ = some (.string h.n) := by rw [cell_of_row _ _ _ _ _ _ hbox2]; rfl
  have q1 : w2.cell? ⟨w.heap.size, 1, none⟩ = some (.string h.v) := by rw [cell_of_row _ _ _ _ _ _ hbox2]; rfl
  have H2 := hide h2
  clear h2 hbox2
  by_cases hle : t ≤ lim
  · have hsum := HSZS.out hle
    obtain ⟨tab1, htab1⟩ : ∃ tab1, tab1 = shr tab ((lim : Int) - (t : Int)) := ⟨_, rfl⟩
    rw [← htab1] at hsum H2 z1
    have HTAB := hide htab1
    clear htab1
    have hlen1 : tab1.length ≤ 32 := by have := szT_len tab1; omega
    obtain ⟨s1, c1, hs1⟩ := slice_len H2.out.row
    subst hs1
    have HOWN : Hid ((w2.alloc (.cells #[.string h.n, .string h.v] 147)).drew.ownsRow 0 147 2 (.slice s1 tab1.length c1) tab1.length (hpCells tab1)) := H2.out.row.alloc _
    have HLI : Hid (Lies (w2.alloc (.cells #[.string h.n, .string h.v] 147)).drew (.slice (some ⟨w2.heap.size, 0, none⟩) 1 1) 1 (hpCells [h])) := HLP.out w2
    have z2a : (w2.alloc (.cells #[.string h.n, .string h.v] 147)).cell? ⟨b, 2, none⟩ = some (.slice s1 tab1.length c1) := (H2.out.tb.chg ((Chg.refl (fun _ => False) w2).alloc _) id).cells.2.2
    have HN1 : Hid (tab1.length + 1 ≤ maxLen) := by show _ ≤ _; unfold maxLen; omega
    have HN2 : Hid ((tab1.length + 1) * 32 ≤ 140737488355328) := by show _ ≤ _; omega
    have HSS : Hid (szT (tab1 ++ [h]) = szT tab1 + t) := by show _ = _; rw [szT_append, szT_cons, HTE.out]; simp [szT]
    have HSF : Hid (szT tab1 + tk h ≤ lim) := by show _ ≤ _; rw [HTE.out]; exact hsum
    go_wp2
    go_region_law (refine step_app rfl (.tmp 25) (.tmp 27) 83 rfl 147 i0 (.agg #[.string ⟨#[]⟩, .string ⟨#[]⟩]) 2 32 Tryz.underlying83 hi hz0 hz1 hz2 rfl (by decide) (.slice s1 tab1.length c1) tab1.length (hpCells tab1) (by simp [Act.eval]) HOWN.out (.slice (some ⟨w2.heap.size, 0, none⟩) 1 1) 1 (hpCells [h]) (by simp [Act.eval]) rfl HLI.out HON.out HN1.out HN2.out ?_; intro tv2 w3 hown3 hg3 hf3; obtain ⟨s3, c3, hs3⟩ := slice_len hown3; subst hs3; obtain ⟨p1, p2⟩ := add_end HB1.out H2.out HSF.out hlim hown3 hg3 (by simpa using hf3); obtain ⟨x0, x1, x2⟩ := p1.cells; have u1 := p1.free 1; have u2 := p1.free 2; have HP2 := hide p2; clear hown3 hg3 hf3 p1 p2)
    all_goals go_wp2
    all_goals refine bodyPost_end (results_none rfl _ _ _) rfl ⟨rfl, (cs1.setIfInBounds 2 (.slice s3 (tab1.length + 1) c3)).setIfInBounds 1 (.int .i64 (szT (tab1 ++ [h]) : Int)), .slice s3 (tab1.length + 1) c3, ?_⟩
    all_goals have ha := HADD.out
    all_goals rw [if_pos hle, ← HTAB.out] at ha
    all_goals rw [ha]
    all_goals have h9 := HP2.out
    all_goals rw [HSS.out] at h9 ⊢
    all_goals exact h9
  · have hd : decide ((t : Int) ≤ (lim : Int)) = false := by simp; omega
    go_wp2
    refine bodyPost_end (results_none rfl _ _ _) rfl ⟨rfl, cs1, tv1, ?_⟩
    have ha := HADD.out
    rw [if_neg hle] at ha
    rw [ha]
    have hal := HALL.out (by omega)
    have h3 := H2.out
    refine ⟨⟨h3.tb, h3.row, ?_, hlim⟩, h3.cs3, (Chg.of_below HB1.out).trans (h3.chg.mono fun j _ e => Or.inr e), fun j hj => ?_⟩
    · rw [hal]; exact Nat.zero_le _
    · rcases h3.own j hj with e | e
      · exact Or.inl e
      · exact Or.inr (Nat.le_trans HB1.out.size e)
end Go.Proofs.YtiphkngfbpdeoaaGreatDoor
namespace Go.Proofs.YtiphkngfbpdeoaaGreatDoor
set_option linter.unusedVariables false
set_option linter.unusedSimpArgs false
open Go.RowKit
theorem decB_four {bs : List Bool} {c : UInt8} {r : List Bool} (h : decB bs = some (c, r)) : r.length + 4 ≤ bs.length := by
  unfold decB at h
  split at h
  · cases h
  · split at h
    · split at h
      · cases h
      · simp at h; rw [← h.2, List.length_drop]; omega
    · split at h
      · cases h
      · split at h
        · split at h
          · cases h
          · simp at h; rw [← h.2, List.length_drop]; omega
        · split at h
          · cases h
          · split at h
            · cases h
            · simp at h; rw [← h.2, List.length_drop]; omega
theorem unpB_len (n : Nat) : ∀ (bs : List Bool) (t : List UInt8), bs.length ≤ n → unpB bs = some t → 4 * t.length ≤ bs.length := by
  induction n with
  | zero =>
    intro bs t hn h
    have hb : bs = [] := List.eq_nil_of_length_eq_zero (by omega)
    subst hb
    rw [unpB_fill (by decide)] at h
    cases h
    simp
  | succ n ih =>
    intro bs t hn h
    cases hf : fillB bs with
    | true => rw [unpB_fill hf] at h; cases h; simp
    | false =>
      cases hd : decB bs with
      | none => rw [unpB_none hf hd] at h; cases h
      | some cr =>
        obtain ⟨c, r⟩ := cr
        rw [unpB_next hf hd] at h
        have h4 := decB_four hd
        cases hr : unpB r with
        | none => rw [hr] at h; cases h
        | some z =>
          rw [hr] at h
          simp at h
          rw [← h]
          have := ih r z (by omega) hr
          simp
          omega
theorem rdMore_len : ∀ f i n l n' q, rdMore f i n l = some (n', q) → q.length ≤ l.length := by
  intro f
  induction f with
  | zero => intro i n l n' q h9; simp [rdMore] at h9
  | succ f ih =>
    intro i n l n' q h9
    cases l with
    | nil => simp [rdMore] at h9
    | cons x t =>
      simp only [rdMore] at h9
      split at h9
      · cases h9
      · split at h9
        · simp at h9; rw [← h9.2]; simp
        · have := ih _ _ _ _ _ h9; simp; omega
theorem rdCnt_len {k : Nat} {c : UInt8} {r : List UInt8} {n : Nat} {q : List UInt8} (h9 : rdCnt k c r = some (n, q)) : q.length ≤ r.length := by
  unfold rdCnt at h9
  split at h9
  · simp at h9; rw [← h9.2]; exact Nat.le_refl _
  · exact rdMore_len _ _ _ _ _ _ h9
theorem rdTxt_len {l t r : List UInt8} (h : rdTxt l = some (t, r)) : t.length ≤ 2 * l.length ∧ r.length ≤ l.length := by
  cases l with
  | nil => simp [rdTxt] at h
  | cons c s =>
    simp only [rdTxt] at h
    cases hc : rdCnt 7 c s with
    | none => rw [hc] at h; cases h
    | some nq =>
      obtain ⟨n, q⟩ := nq
      have hq := rdCnt_len hc
      rw [hc] at h
      simp only at h
      split at h
      · cases h
      · split at h
        · cases hu : unpB (bitsB (q.take n)) with
          | none => rw [hu] at h; cases h
          | some z =>
            rw [hu] at h
            simp at h
            have h4 := unpB_len _ _ _ (Nat.le_refl _) hu
            rw [bitsB_length, List.length_take] at h4
            rw [← h.1, ← h.2, List.length_drop, List.length_cons]
            omega
        · simp at h
          rw [← h.1, ← h.2, List.length_drop, List.length_take, List.length_cons]
          omega
def TxsR (w w' : World) (sb : Nat) (rv : Value) (q : Option (HP × List UInt8)) (e : Ending) : Prop :=
  (∃ h r rv', q = some (h, r) ∧ e = .returned (.agg #[.string h.n, .string h.v]) ∧ SrTo w w' sb rv rv' r) ∨ (q = none ∧ Gone e ∧ Chg (fun j => j = sb) w w')
theorem SrS.alloc {w : World} {sb : Nat} {rv : Value} {l : List UInt8} (h : SrS w sb rv l) (o : Obj) : SrS (w.alloc o) sb rv l := h.below ((Below.refl _ _).alloc (Nat.le_refl _) _)
theorem SrTo.set {w w1 : World} {sb : Nat} {rv r1 : Value} {l1 : List UInt8} (h : SrTo w w1 sb rv r1 l1) {b o : Nat} (hb : w.heap.size ≤ b) (hsb : sb < w.heap.size) (hr : ∀ j, rv.ownBlock = some j → j < w.heap.size) (u : Value) : SrTo w (w1.setCell ⟨b, o, none⟩ u) sb rv r1 l1 := by
  have hc : Chg (fun j => j = b) w1 (w1.setCell ⟨b, o, none⟩ u) := (Chg.refl (fun j => j = b) w1).setCell (p := ⟨b, o, none⟩) (Or.inr rfl) _
  exact ⟨h.st.chg hc (by omega) (fun j hj e => by have := hr j (h.own j hj); omega), h.chg.trans (hc.mono fun j _ e => Or.inl (by omega)), h.own⟩
theorem ba_same (b : ByteArray) : (.string ⟨b.data.toList.toArray⟩ : Value) = .string b := by rw [ba_back]
set_option maxRecDepth 100000 in
set_option maxHeartbeats 800000 in
theorem takeTexts_any (ub : Nat) (cs : Array Value) (tP : TypeId) (lim : Nat) (tv : Value) (tab : List HP) (sb : Nat) (rv : Value) (l : List UInt8) (n : Nat) (w : World) (hgl : Gl w) (ht : TbS w ub cs tP lim tv tab) (h : SrS w sb rv l) (hl : l.length ≤ 268435456) (hsb : 7 ≤ sb) (hn : n ≤ 1099511627776) :
    Calls Tryz.prog 178 #[.pointer (some ⟨ub, 0, none⟩), .pointer (some ⟨sb, 0, none⟩), .int .i64 n] w fun e w' => TxsR w w' sb rv (rdTxs tab n l) e := by
  have hba : Below w.heap.size w ((w.alloc (.cells #[.string ⟨#[]⟩, .string ⟨#[]⟩] 147)).alloc (.cells #[.string ⟨#[]⟩, .string ⟨#[]⟩] 147)) := ((Below.refl _ _).alloc (Nat.le_refl _) _).alloc (by simp) _
  have hga := hgl.below hba
  have hta := ht.below hba
  have hsa := h.below hba
  have hslt := lt_of_block h.blk
  have hrl : ∀ j, rv.ownBlock = some j → j < w.heap.size := fun j hj => h.bytes.lt hj
  have hrd : rdTxs tab n l = match (if 0 < n then (match (numd tab)[n - 1]? with
      | none => none
      | some x => some (x.n.data.toList, l)) else rdTxt l) with
    | none => none
    | some (nm, q) => match rdTxt q with
      | none => none
      | some (vl, s) => some (⟨⟨nm.toArray⟩, ⟨vl.toArray⟩⟩, s) := rfl
  have hA : ((w.alloc (.cells #[.string ⟨#[]⟩, .string ⟨#[]⟩] 147)).alloc (.cells #[.string ⟨#[]⟩, .string ⟨#[]⟩] 147)).heap[w.heap.size]? = some (.cells #[.string ⟨#[]⟩, .string ⟨#[]⟩] 147 (0, 0)) := by
    rw [Below.heap_alloc _ _ _ (by simp)]; exact heap_alloc_new w _
  have hB : ((w.alloc (.cells #[.string ⟨#[]⟩, .string ⟨#[]⟩] 147)).alloc (.cells #[.string ⟨#[]⟩, .string ⟨#[]⟩] 147)).heap[w.heap.size + 1]? = some (.cells #[.string ⟨#[]⟩, .string ⟨#[]⟩] 147 (0, 0)) := by
    have := heap_alloc_new (w.alloc (.cells #[.string ⟨#[]⟩, .string ⟨#[]⟩] 147)) (.cells #[.string ⟨#[]⟩, .string ⟨#[]⟩] 147)
    simpa using this
  have HBA := hide hba
  have HGA := hide hga
  have HTA := hide hta
  have HSA := hide hsa
  have HRL := hide hrl
  have HRD := hide hrd
  have HAA := hide hA
  have HBB := hide hB
  clear hba hga hta hsa hrl hrd hgl ht h hA hB
  by_cases hpn : 0 < n ∧ (numd tab)[n - 1]? = none
  · obtain ⟨hn0, hx⟩ := hpn
    have hnl := List.getElem?_eq_none_iff.1 hx
    rw [numd_length] at hnl
    have HPB := hide (pair_bad ub cs tP lim tv tab n _ HTA.out hn (Or.inr (by omega)))
    have HE : Hid (rdTxs tab n l = none) := by show _ = _; rw [HRD.out, if_pos hn0, hx]
    clear hx
    go_enter Tryz.func178, Tryz.ntmps178
    go_wp2_with fail
    refine HPB.out.mono ?_
    rintro e w1 ⟨rfl, hb1⟩
    exact ⟨rfl, Or.inr ⟨HE.out, rfl, (Chg.of_below HBA.out).then_below hb1⟩⟩
  by_cases hbt : ¬ 0 < n ∧ rdTxt l = none
  · obtain ⟨hn0, hx⟩ := hbt
    have HTT := hide (takeText_any sb rv l _ HGA.out HSA.out hl hsb)
    rw [hx] at HTT
    have HE : Hid (rdTxs tab n l = none) := by show _ = _; rw [HRD.out, if_neg hn0, hx]
    clear hx hpn
    go_enter Tryz.func178, Tryz.ntmps178
    go_wp2_with fail
    refine HTT.out.mono ?_
    rintro e w1 (⟨t, r, rv', hq, _⟩ | ⟨_, he, hc1⟩)
    · cases hq
    · rw [he]
      exact ⟨rfl, Or.inr ⟨HE.out, rfl, (Chg.of_below HBA.out).trans (hc1.mono fun _ _ e => Or.inr e)⟩⟩
  have hnm : ∃ nm q, (if 0 < n then (match (numd tab)[n - 1]? with
      | none => none
      | some x => some (x.n.data.toList, l)) else rdTxt l) = some (nm, q) := by
    by_cases hn0 : 0 < n
    · rw [if_pos hn0]
      cases hx : (numd tab)[n - 1]? with
      | none => exact absurd ⟨hn0, hx⟩ hpn
      | some x => exact ⟨_, _, rfl⟩
    · rw [if_neg hn0]
      cases hx : rdTxt l with
      | none => exact absurd ⟨hn0, hx⟩ hbt
      | some tr => exact ⟨tr.1, tr.2, rfl⟩
  obtain ⟨nm, q, hnq⟩ := hnm
  have hrd := HRD.out
  rw [hnq] at hrd
  simp only at hrd
  have HRD2 := hide hrd
  have HNQ := hide hnq
  clear hrd hnq hpn hbt
  by_cases hn0 : 0 < n
  · have hnq := HNQ.out
    rw [if_pos hn0] at hnq
    cases hx : (numd tab)[n - 1]? with
    | none => rw [hx] at hnq; cases hnq
    | some x =>
      rw [hx] at hnq
      simp only [Option.some.injEq, Prod.mk.injEq] at hnq
      obtain ⟨hnm, hql⟩ := hnq
      have HPA := hide (pair_any ub cs tP lim tv tab n x _ HGA.out HTA.out hn0 hx)
      have hfd : ∀ (s t : ByteArray) (w : World), (Instr.field 147 (.agg #[.string s, .string t]) 0).run Tryz.prog w = .ok (.string s) w := fun _ _ _ => by kernel_rfl
      have HXN : Hid ((⟨nm.toArray⟩ : ByteArray) = x.n) := by show _ = _; rw [← hnm, ba_back]
      clear hx hnm
      subst hql
      go_enter Tryz.func178, Tryz.ntmps178
      go_wp2_with fail
      refine HPA.out.mono ?_
      rintro e w1 ⟨rfl, hb1⟩
      have hA1 : w1.heap[w.heap.size]? = some (.cells #[.string ⟨#[]⟩, .string ⟨#[]⟩] 147 (0, 0)) := by rw [hb1.block _ (lt_of_block HAA.out)]; exact HAA.out
      have hB1 : w1.heap[w.heap.size + 1]? = some (.cells #[.string ⟨#[]⟩, .string ⟨#[]⟩] 147 (0, 0)) := by rw [hb1.block _ (lt_of_block HBB.out)]; exact HBB.out
      have c0 : w1.cell? ⟨w.heap.size + 1, 0, none⟩ = some (.string ⟨#[]⟩) := by rw [cell_of_row _ _ _ _ _ _ hB1]; rfl
      have f0 : w1.frozen? ⟨w.heap.size + 1, 0, none⟩ = false := by simp [World.frozen?, hB1]
      have HB1 := hide hb1
      have HA1 := hide hA1
      have HBB1 := hide hB1
      clear hb1 hA1 hB1
      have hst : SrTo w w1 sb rv rv l := SrTo.before (HBA.out.trans (HB1.out.mono HBA.out.size)) ⟨HSA.out.below HB1.out, Chg.refl _ _, fun _ e => e⟩
      have hc9 : Chg (fun j => j = w.heap.size + 1) w1 (w1.setCell ⟨w.heap.size + 1, 0, none⟩ (.string x.n)) := (Chg.refl (fun j => j = w.heap.size + 1) w1).setCell (p := ⟨w.heap.size + 1, 0, none⟩) (Or.inr rfl) _
      have hcut : ∃ rv1, SrTo w (w1.setCell ⟨w.heap.size + 1, 0, none⟩ (.string x.n)) sb rv rv1 l ∧ l.length ≤ l.length ∧ Gl (w1.setCell ⟨w.heap.size + 1, 0, none⟩ (.string x.n)) ∧ (w1.setCell ⟨w.heap.size + 1, 0, none⟩ (.string x.n)).heap[w.heap.size]? = some (.cells #[.string ⟨#[]⟩, .string ⟨#[]⟩] 147 (0, 0)) ∧ (w1.setCell ⟨w.heap.size + 1, 0, none⟩ (.string x.n)).heap[w.heap.size + 1]? = some (.cells #[.string ⟨nm.toArray⟩, .string ⟨#[]⟩] 147 (0, 0)) := by
        refine ⟨rv, hst.set (by omega) hslt HRL.out _, Nat.le_refl _, (HGA.out.below HB1.out).chg hc9 (fun j hj e => by omega), ?_, ?_⟩
        · rw [hc9.block _ (lt_of_block HA1.out) (by omega)]; exact HA1.out
        · rw [HXN.out]
          exact block_setCell (i := 0) HBB1.out
      clear hst hc9 HA1 HBB1 HB1
      go_wp2_with fail
      generalize hwc : w1.setCell ⟨w.heap.size + 1, 0, none⟩ (.string x.n) = wc at hcut ⊢
      clear hwc c0 f0
      obtain ⟨rv1, hs1, hql, hg1, hA1, hB1⟩ := hcut
      have HTT := hide (takeText_any sb rv1 l wc hg1 hs1.st (by omega) hsb)
      have HS1 := hide hs1
      have HA1 := hide hA1
      have HB1 := hide hB1
      clear hs1 hg1 hA1 hB1
      refine HTT.out.mono ?_
      rintro e w2 (⟨t, r, rv2, hq, rfl, hs2⟩ | ⟨hq, he, hc2⟩)
      · have hA2 : w2.heap[w.heap.size]? = some (.cells #[.string ⟨#[]⟩, .string ⟨#[]⟩] 147 (0, 0)) := by rw [hs2.chg.block _ (lt_of_block HA1.out) (by omega)]; exact HA1.out
        have hB2 : w2.heap[w.heap.size + 1]? = some (.cells #[.string ⟨nm.toArray⟩, .string ⟨#[]⟩] 147 (0, 0)) := by rw [hs2.chg.block _ (lt_of_block HB1.out) (by omega)]; exact HB1.out
        have c0 : w2.cell? ⟨w.heap.size + 1, 0, none⟩ = some (.string ⟨nm.toArray⟩) := by rw [cell_of_row _ _ _ _ _ _ hB2]; rfl
        have c1 : w2.cell? ⟨w.heap.size + 1, 1, none⟩ = some (.string ⟨#[]⟩) := by rw [cell_of_row _ _ _ _ _ _ hB2]; rfl
        have f1 : w2.frozen? ⟨w.heap.size + 1, 1, none⟩ = false := by simp [World.frozen?, hB2]
        have a0 : w2.cell? ⟨w.heap.size, 0, none⟩ = some (.string ⟨#[]⟩) := by rw [cell_of_row _ _ _ _ _ _ hA2]; rfl
        have a1 : w2.cell? ⟨w.heap.size, 1, none⟩ = some (.string ⟨#[]⟩) := by rw [cell_of_row _ _ _ _ _ _ hA2]; rfl
        have g0 : w2.frozen? ⟨w.heap.size, 0, none⟩ = false := by simp [World.frozen?, hA2]
        have g1 : w2.frozen? ⟨w.heap.size, 1, none⟩ = false := by simp [World.frozen?, hA2]
        have hrr := HRD2.out
        rw [hq] at hrr
        have HRR := hide hrr
        have HS2 := hide (HS1.out.trans hs2)
        clear hs2 hA2 hB2 hrr hq
        go_wp2
        refine bodyPost_ret (v := .agg #[.string ⟨nm.toArray⟩, .string ⟨t.toArray⟩]) ?_ rfl (Or.inl ⟨_, r, rv2, HRR.out, rfl, ?_⟩)
        · simp [results, Tryz.results178, go_sem, a0, a1]
        · exact ((HS2.out.set (by omega) hslt HRL.out _).set (by omega) hslt HRL.out _).set (by omega) hslt HRL.out _
      · have hrr := HRD2.out
        rw [hq] at hrr
        rw [he]
        exact ⟨rfl, Or.inr ⟨hrr, rfl, HS1.out.chg.trans (hc2.mono fun _ _ e => Or.inr e)⟩⟩
  · have hnq := HNQ.out
    rw [if_neg hn0] at hnq
    have hlen := (rdTxt_len hnq).2
    have HTT := hide (takeText_any sb rv l _ HGA.out HSA.out hl hsb)
    rw [hnq] at HTT
    clear hnq
    go_enter Tryz.func178, Tryz.ntmps178
    go_wp2_with fail
    refine HTT.out.mono ?_
    rintro e w1 (⟨t, r, rv1, hq, rfl, hs1⟩ | ⟨hq, _, _⟩)
    · simp only [Option.some.injEq, Prod.mk.injEq] at hq
      obtain ⟨rfl, rfl⟩ := hq
      have hA1 : w1.heap[w.heap.size]? = some (.cells #[.string ⟨#[]⟩, .string ⟨#[]⟩] 147 (0, 0)) := by rw [hs1.chg.block _ (lt_of_block HAA.out) (by omega)]; exact HAA.out
      have hB1 : w1.heap[w.heap.size + 1]? = some (.cells #[.string ⟨#[]⟩, .string ⟨#[]⟩] 147 (0, 0)) := by rw [hs1.chg.block _ (lt_of_block HBB.out) (by omega)]; exact HBB.out
      have c0 : w1.cell? ⟨w.heap.size + 1, 0, none⟩ = some (.string ⟨#[]⟩) := by rw [cell_of_row _ _ _ _ _ _ hB1]; rfl
      have f0 : w1.frozen? ⟨w.heap.size + 1, 0, none⟩ = false := by simp [World.frozen?, hB1]
      have HS1 := hide hs1
      have HA1 := hide hA1
      have HBB1 := hide hB1
      clear hs1 hA1 hB1
      have hst : SrTo w w1 sb rv rv1 q := SrTo.before HBA.out HS1.out
      have hc9 : Chg (fun j => j = w.heap.size + 1) w1 (w1.setCell ⟨w.heap.size + 1, 0, none⟩ (.string ⟨nm.toArray⟩)) := (Chg.refl (fun j => j = w.heap.size + 1) w1).setCell (p := ⟨w.heap.size + 1, 0, none⟩) (Or.inr rfl) _
      have hcut : ∃ rv1, SrTo w (w1.setCell ⟨w.heap.size + 1, 0, none⟩ (.string ⟨nm.toArray⟩)) sb rv rv1 q ∧ q.length ≤ l.length ∧ Gl (w1.setCell ⟨w.heap.size + 1, 0, none⟩ (.string ⟨nm.toArray⟩)) ∧ (w1.setCell ⟨w.heap.size + 1, 0, none⟩ (.string ⟨nm.toArray⟩)).heap[w.heap.size]? = some (.cells #[.string ⟨#[]⟩, .string ⟨#[]⟩] 147 (0, 0)) ∧ (w1.setCell ⟨w.heap.size + 1, 0, none⟩ (.string ⟨nm.toArray⟩)).heap[w.heap.size + 1]? = some (.cells #[.string ⟨nm.toArray⟩, .string ⟨#[]⟩] 147 (0, 0)) := by
        refine ⟨rv1, hst.set (by omega) hslt HRL.out _, hlen, (HGA.out.sr HS1.out.chg hsb).chg hc9 (fun j hj e => by omega), ?_, ?_⟩
        · rw [hc9.block _ (lt_of_block HA1.out) (by omega)]; exact HA1.out
        · exact block_setCell (i := 0) HBB1.out
      clear hst hc9 HA1 HBB1 HS1
      go_wp2_with fail
      generalize hwc : w1.setCell ⟨w.heap.size + 1, 0, none⟩ (.string ⟨nm.toArray⟩) = wc at hcut ⊢
      clear hwc c0 f0
      obtain ⟨rv1, hs1, hql, hg1, hA1, hB1⟩ := hcut
      have HTT := hide (takeText_any sb rv1 q wc hg1 hs1.st (by omega) hsb)
      have HS1 := hide hs1
      have HA1 := hide hA1
      have HB1 := hide hB1
      clear hs1 hg1 hA1 hB1
      refine HTT.out.mono ?_
      rintro e w2 (⟨t, r, rv2, hq, rfl, hs2⟩ | ⟨hq, he, hc2⟩)
      · have hA2 : w2.heap[w.heap.size]? = some (.cells #[.string ⟨#[]⟩, .string ⟨#[]⟩] 147 (0, 0)) := by rw [hs2.chg.block _ (lt_of_block HA1.out) (by omega)]; exact HA1.out
        have hB2 : w2.heap[w.heap.size + 1]? = some (.cells #[.string ⟨nm.toArray⟩, .string ⟨#[]⟩] 147 (0, 0)) := by rw [hs2.chg.block _ (lt_of_block HB1.out) (by omega)]; exact HB1.out
        have c0 : w2.cell? ⟨w.heap.size + 1, 0, none⟩ = some (.string ⟨nm.toArray⟩) := by rw [cell_of_row _ _ _ _ _ _ hB2]; rfl
        have c1 : w2.cell? ⟨w.heap.size + 1, 1, none⟩ = some (.string ⟨#[]⟩) := by rw [cell_of_row _ _ _ _ _ _ hB2]; rfl
        have f1 : w2.frozen? ⟨w.heap.size + 1, 1, none⟩ = false := by simp [World.frozen?, hB2]
        have a0 : w2.cell? ⟨w.heap.size, 0, none⟩ = some (.string ⟨#[]⟩) := by rw [cell_of_row _ _ _ _ _ _ hA2]; rfl
        have a1 : w2.cell? ⟨w.heap.size, 1, none⟩ = some (.string ⟨#[]⟩) := by rw [cell_of_row _ _ _ _ _ _ hA2]; rfl
        have g0 : w2.frozen? ⟨w.heap.size, 0, none⟩ = false := by simp [World.frozen?, hA2]
        have g1 : w2.frozen? ⟨w.heap.size, 1, none⟩ = false := by simp [World.frozen?, hA2]
        have hrr := HRD2.out
        rw [hq] at hrr
        have HRR := hide hrr
        have HS2 := hide (HS1.out.trans hs2)
        clear hs2 hA2 hB2 hrr hq
        go_wp2
        refine bodyPost_ret (v := .agg #[.string ⟨nm.toArray⟩, .string ⟨t.toArray⟩]) ?_ rfl (Or.inl ⟨_, r, rv2, HRR.out, rfl, ?_⟩)
        · simp [results, Tryz.results178, go_sem, a0, a1]
        · exact ((HS2.out.set (by omega) hslt HRL.out _).set (by omega) hslt HRL.out _).set (by omega) hslt HRL.out _
      · have hrr := HRD2.out
        rw [hq] at hrr
        rw [he]
        exact ⟨rfl, Or.inr ⟨hrr, rfl, HS1.out.chg.trans (hc2.mono fun _ _ e => Or.inr e)⟩⟩
    · cases hq
end Go.Proofs.YtiphkngfbpdeoaaGreatDoor
namespace Go.Proofs.YtiphkngfbpdeoaaGreatDoor
set_option linter.unusedVariables false
set_option linter.unusedSimpArgs false
open Go.RowKit
structure UnTo (w w' : World) (ub : Nat) (cs cs' : Array Value) (tP : TypeId) (lim : Nat) (tv tv' : Value) (tab' : List HP) (sb : Nat) (rv rv' : Value) (l' : List UInt8) : Prop where
  st : TbS w' ub cs' tP lim tv' tab'
  cs3 : ∀ i, 3 ≤ i → cs'[i]? = cs[i]?
  sr : SrS w' sb rv' l'
  chg : Chg (fun j => j = sb ∨ TouchT ub tv j) w w'
  tfresh : ∀ j, tv'.ownBlock = some j → tv.ownBlock = some j ∨ w.heap.size ≤ j
  own : ∀ j, rv'.ownBlock = some j → rv.ownBlock = some j
structure Apart (ub sb : Nat) (tv rv : Value) : Prop where
  us : ub ≠ sb
  ts : tv.ownBlock ≠ some sb
  ru : rv.ownBlock ≠ some ub
  rt : ∀ j, rv.ownBlock = some j → tv.ownBlock ≠ some j
theorem SrTo.un {w w' : World} {ub : Nat} {cs : Array Value} {tP : TypeId} {lim : Nat} {tv : Value} {tab : List HP} {sb : Nat} {rv rv' : Value} {l' : List UInt8} (h : SrTo w w' sb rv rv' l') (ht : TbS w ub cs tP lim tv tab) (ha : Apart ub sb tv rv) : UnTo w w' ub cs cs tP lim tv tv tab sb rv rv' l' :=
  ⟨ht.chg h.chg ha.us (fun j hj e => ha.ts (e ▸ hj)), fun _ _ => rfl, h.st, h.chg.mono fun _ _ e => Or.inl e, fun _ e => Or.inl e, h.own⟩
theorem UnTo.below {w w1 w2 : World} {ub : Nat} {cs cs' : Array Value} {tP : TypeId} {lim : Nat} {tv tv' : Value} {tab' : List HP} {sb : Nat} {rv rv' : Value} {l' : List UInt8} (h : UnTo w w1 ub cs cs' tP lim tv tv' tab' sb rv rv' l') (hb : Below w1.heap.size w1 w2) : UnTo w w2 ub cs cs' tP lim tv tv' tab' sb rv rv' l' :=
  ⟨h.st.below hb, h.cs3, h.sr.below hb, h.chg.then_below hb, h.tfresh, h.own⟩
theorem UnTo.before {w w1 w2 : World} {ub : Nat} {cs cs' : Array Value} {tP : TypeId} {lim : Nat} {tv tv' : Value} {tab' : List HP} {sb : Nat} {rv rv' : Value} {l' : List UInt8} (hb : Below w.heap.size w w1) (h : UnTo w1 w2 ub cs cs' tP lim tv tv' tab' sb rv rv' l') : UnTo w w2 ub cs cs' tP lim tv tv' tab' sb rv rv' l' :=
  ⟨h.st, h.cs3, h.sr, (Chg.of_below hb).trans (h.chg.mono fun _ _ e => Or.inr e), fun j hj => (h.tfresh j hj).imp_right fun e => Nat.le_trans hb.size e, h.own⟩
theorem UnTo.turn {w w1 w2 : World} {ub : Nat} {cs cs1 cs' : Array Value} {tP : TypeId} {lim lim' : Nat} {tv tv1 tv' : Value} {tab tab' : List HP} {sb : Nat} {rv rv' : Value} {l' : List UInt8} (h : UnTo w w1 ub cs cs1 tP lim tv tv1 tab sb rv rv' l') (k : TbTo w1 w2 ub cs1 cs' tP lim' tv1 tv' tab') (ha : Apart ub sb tv1 rv') : UnTo w w2 ub cs cs' tP lim' tv tv' tab' sb rv rv' l' := by
  have hsz := h.chg.size
  refine ⟨k.st, fun i hi => (k.cs3 i hi).trans (h.cs3 i hi), h.sr.chg k.chg ?_ ?_, h.chg.trans (k.chg.mono ?_), fun j hj => ?_, h.own⟩
  · rintro (e | e)
    · exact ha.us e.symm
    · exact ha.ts e
  · rintro j hj (e | e)
    · exact ha.ru (e ▸ hj)
    · exact ha.rt j hj e
  · rintro j _ (e | e)
    · exact Or.inr (Or.inr (Or.inl e))
    · rcases h.tfresh j e with a | a
      · exact Or.inr (Or.inr (Or.inr a))
      · exact Or.inl a
  · rcases k.own j hj with e | e
    · exact h.tfresh j e
    · exact Or.inr (Nat.le_trans hsz e)
theorem UnTo.apart {w w' : World} {ub : Nat} {cs cs' : Array Value} {tP : TypeId} {lim : Nat} {tv tv' : Value} {tab' : List HP} {sb : Nat} {rv rv' : Value} {l l' : List UInt8} (h : UnTo w w' ub cs cs' tP lim tv tv' tab' sb rv rv' l') (ha : Apart ub sb tv rv) (hs : SrS w sb rv l) : Apart ub sb tv' rv' := by
  refine ⟨ha.us, ?_, fun e => ha.ru (h.own _ e), fun j hj e => ?_⟩
  · intro e
    rcases h.tfresh sb e with a | a
    · exact ha.ts a
    · have := lt_of_block hs.blk; omega
  · have hj' := h.own j hj
    rcases h.tfresh j e with a | a
    · exact ha.rt j hj' a
    · have := hs.bytes.lt hj'; omega
theorem UnTo.trans {w w1 w2 : World} {ub : Nat} {cs cs1 cs2 : Array Value} {tP : TypeId} {lim lim2 : Nat} {tv tv1 tv2 : Value} {tab tab2 : List HP} {sb : Nat} {rv r1 r2 : Value} {l1 l2 : List UInt8} (h : UnTo w w1 ub cs cs1 tP lim tv tv1 tab sb rv r1 l1) (k : UnTo w1 w2 ub cs1 cs2 tP lim2 tv1 tv2 tab2 sb r1 r2 l2) : UnTo w w2 ub cs cs2 tP lim2 tv tv2 tab2 sb rv r2 l2 := by
  have hsz := h.chg.size
  refine ⟨k.st, fun i hi => (k.cs3 i hi).trans (h.cs3 i hi), k.sr, h.chg.trans (k.chg.mono ?_), fun j hj => ?_, fun j hj => h.own j (k.own j hj)⟩
  · rintro j _ (e | e | e)
    · exact Or.inr (Or.inl e)
    · exact Or.inr (Or.inr (Or.inl e))
    · rcases h.tfresh j e with a | a
      · exact Or.inr (Or.inr (Or.inr a))
      · exact Or.inl a
  · rcases k.tfresh j hj with e | e
    · exact h.tfresh j e
    · exact Or.inr (Nat.le_trans hsz e)
theorem UnTo.gl {w w' : World} {ub : Nat} {cs cs' : Array Value} {tP : TypeId} {lim : Nat} {tv tv' : Value} {tab' : List HP} {sb : Nat} {rv rv' : Value} {l' : List UInt8} (h : UnTo w w' ub cs cs' tP lim tv tv' tab' sb rv rv' l') (hg : Gl w) (hub : 7 ≤ ub) (hsb : 7 ≤ sb) (htv : ∀ j, tv.ownBlock = some j → 7 ≤ j) : Gl w' := by
  refine hg.chg h.chg ?_
  rintro j hj (e | e | e)
  · omega
  · omega
  · have := htv j e; omega
theorem rdPair_len {tab : List HP} {lim : Nat} {l : List UInt8} {h : HP} {tab' : List HP} {q : List UInt8} (hq : rdPair tab lim l = some (h, tab', q)) (hf : ∀ x ∈ numd tab, x.n.size ≤ 256 ∧ x.v.size ≤ 256) (hl : l.length ≤ 134217728) : q.length ≤ l.length ∧ h.n.size ≤ 268435456 ∧ h.v.size ≤ 268435456 := by
  have htx : ∀ n r h q, rdTxs tab n r = some (h, q) → r.length ≤ 134217728 → q.length ≤ r.length ∧ h.n.size ≤ 268435456 ∧ h.v.size ≤ 268435456 := by
    intro n r h q h9 hr
    unfold rdTxs at h9
    by_cases hn : 0 < n
    · rw [if_pos hn] at h9
      cases hx : (numd tab)[n - 1]? with
      | none => rw [hx] at h9; cases h9
      | some x =>
        rw [hx] at h9
        simp only at h9
        cases ht : rdTxt r with
        | none => rw [ht] at h9; cases h9
        | some vs =>
          obtain ⟨vl, s⟩ := vs
          rw [ht] at h9
          simp only [Option.some.injEq, Prod.mk.injEq] at h9
          obtain ⟨l1, l2⟩ := rdTxt_len ht
          rw [← h9.1, ← h9.2]
          have hm := hf x (List.mem_of_getElem? hx)
          refine ⟨l2, ?_, ?_⟩
          · show (ByteArray.mk x.n.data.toList.toArray).size ≤ _
            rw [ba_back]; omega
          · show vl.length ≤ _; omega
    · rw [if_neg hn] at h9
      cases ht : rdTxt r with
      | none => rw [ht] at h9; cases h9
      | some ns =>
        obtain ⟨nm, s⟩ := ns
        rw [ht] at h9
        simp only at h9
        obtain ⟨l1, l2⟩ := rdTxt_len ht
        cases hv : rdTxt s with
        | none => rw [hv] at h9; cases h9
        | some vs =>
          obtain ⟨vl, s2⟩ := vs
          rw [hv] at h9
          simp only [Option.some.injEq, Prod.mk.injEq] at h9
          obtain ⟨l3, l4⟩ := rdTxt_len hv
          rw [← h9.1, ← h9.2]
          exact ⟨by omega, by show nm.length ≤ _; omega, by show vl.length ≤ _; omega⟩
  cases l with
  | nil => simp [rdPair] at hq
  | cons c r =>
    simp only [List.length_cons] at hl ⊢
    simp only [rdPair] at hq
    split at hq
    · cases hc : rdCnt 7 c r with
      | none => rw [hc] at hq; cases hq
      | some nq =>
        obtain ⟨n, s⟩ := nq
        have := rdCnt_len hc
        rw [hc] at hq
        simp only at hq
        split at hq
        · cases hq
        · cases hx : (numd tab)[n - 1]? with
          | none => rw [hx] at hq; cases hq
          | some x =>
            rw [hx] at hq
            simp only [Option.some.injEq, Prod.mk.injEq] at hq
            have hm := hf x (List.mem_of_getElem? hx)
            rw [← hq.1, ← hq.2.2]
            exact ⟨by omega, by omega, by omega⟩
    · split at hq
      · cases hc : rdCnt 6 c r with
        | none => rw [hc] at hq; cases hq
        | some nq =>
          obtain ⟨n, s⟩ := nq
          have h1 := rdCnt_len hc
          rw [hc] at hq
          simp only at hq
          cases ht : rdTxs tab n s with
          | none => rw [ht] at hq; cases hq
          | some hs =>
            obtain ⟨x, z⟩ := hs
            rw [ht] at hq
            simp only [Option.some.injEq, Prod.mk.injEq] at hq
            have := htx n s x z ht (by omega)
            rw [← hq.1, ← hq.2.2]
            exact ⟨by omega, this.2⟩
      · split at hq
        · cases hc : rdCnt 4 c r with
          | none => rw [hc] at hq; cases hq
          | some nq =>
            obtain ⟨n, s⟩ := nq
            have h1 := rdCnt_len hc
            rw [hc] at hq
            simp only at hq
            cases ht : rdTxs tab n s with
            | none => rw [ht] at hq; cases hq
            | some hs =>
              obtain ⟨x, z⟩ := hs
              rw [ht] at hq
              simp only [Option.some.injEq, Prod.mk.injEq] at hq
              have := htx n s x z ht (by omega)
              rw [← hq.1, ← hq.2.2]
              exact ⟨by omega, this.2⟩
        · cases hq
end Go.Proofs.YtiphkngfbpdeoaaGreatDoor
namespace Go.Proofs.YtiphkngfbpdeoaaGreatDoor
set_option linter.unusedVariables false
set_option linter.unusedSimpArgs false
open Go.RowKit
theorem numd_small {tab : List HP} (h : szT tab ≤ 256) : ∀ x ∈ numd tab, x.n.size ≤ 256 ∧ x.v.size ≤ 256 := by
  intro x hx
  unfold numd at hx
  rcases List.mem_append.1 hx with hx | hx
  · have : ∀ y ∈ fixed8, y.n.size ≤ 256 ∧ y.v.size ≤ 256 := by decide
    exact this x hx
  · have h1 := szT_mem (List.mem_reverse.1 hx)
    have h2 : tk x = x.n.size + x.v.size + 8 := rfl
    omega
theorem UnTo.set {w w1 : World} {ub : Nat} {cs cs' : Array Value} {tP : TypeId} {lim : Nat} {tv tv' : Value} {tab' : List HP} {sb : Nat} {rv rv' : Value} {l' : List UInt8} (h : UnTo w w1 ub cs cs' tP lim tv tv' tab' sb rv rv' l') {b o : Nat} (hb : w.heap.size ≤ b) (hub : ub < w.heap.size) (hsb : sb < w.heap.size) (hr : ∀ j, rv.ownBlock = some j → j < w.heap.size) (hne : tv'.ownBlock ≠ some b) (u : Value) : UnTo w (w1.setCell ⟨b, o, none⟩ u) ub cs cs' tP lim tv tv' tab' sb rv rv' l' := by
  have hc : Chg (fun j => j = b) w1 (w1.setCell ⟨b, o, none⟩ u) := (Chg.refl (fun j => j = b) w1).setCell (p := ⟨b, o, none⟩) (Or.inr rfl) _
  exact ⟨h.st.chg hc (by omega) (fun j hj e => hne (e ▸ hj)), h.cs3, h.sr.chg hc (by omega) (fun j hj e => by have := hr j (h.own j hj); omega), h.chg.trans (hc.mono fun j _ e => Or.inl (by omega)), h.tfresh, h.own⟩
theorem box_free {w w' : World} {b : Nat} {x y : Value} {t : TypeId} (hx : w.heap[b]? = some (.cells #[x, y] t (0, 0))) (hb : Below w.heap.size w w') : w'.cell? ⟨b, 0, none⟩ = some x ∧ w'.cell? ⟨b, 1, none⟩ = some y ∧ w'.frozen? ⟨b, 0, none⟩ = false ∧ w'.frozen? ⟨b, 1, none⟩ = false := by
  have h2 : w'.heap[b]? = some (.cells #[x, y] t (0, 0)) := by rw [hb.block _ (lt_of_block hx)]; exact hx
  refine ⟨by rw [cell_of_row _ _ _ _ _ _ h2]; rfl, by rw [cell_of_row _ _ _ _ _ _ h2]; rfl, by simp [World.frozen?, h2], by simp [World.frozen?, h2]⟩
theorem num_after {w w2 w3 : World} {ub : Nat} {cs : Array Value} {tP : TypeId} {lim : Nat} {tv : Value} {tab : List HP} {sb : Nat} {rv rv1 rv3 : Value} {r q : List UInt8} {o : Obj} (hg : Gl w2) (hx : w2.heap[w.heap.size]? = some o) (hs : SrTo w w2 sb rv rv1 r) (h3 : SrTo w2.drew w3 sb rv1 rv3 q) (hsb : 7 ≤ sb) (hsl : sb < w.heap.size) (ht : TbS w ub cs tP lim tv tab) (ha : Apart ub sb tv rv) :
    Gl w3 ∧ UnTo w w3 ub cs cs tP lim tv tv tab sb rv rv3 q ∧ w3.heap[w.heap.size]? = some o := by
  have hc : Chg (fun j => j = sb) w2 w3 := ((Chg.refl (fun j => j = sb) w2).drew).trans (h3.chg.mono fun j _ e => Or.inr e)
  refine ⟨hg.sr hc hsb, ((hs.trans ⟨h3.st, hc, h3.own⟩).un ht ha), ?_⟩
  rw [hc.block _ (lt_of_block hx) (by omega)]; exact hx
theorem txs_after {w w3 w4 : World} {ub : Nat} {cs : Array Value} {tP : TypeId} {lim : Nat} {tv : Value} {tab : List HP} {sb : Nat} {rv rv3 rv4 : Value} {s q : List UInt8} {o : Obj} (hx : w3.heap[w.heap.size]? = some o) (hs : UnTo w w3 ub cs cs tP lim tv tv tab sb rv rv3 s) (h4 : SrTo w3 w4 sb rv3 rv4 q) (hsl : sb < w.heap.size) (ht : TbS w ub cs tP lim tv tab) (ha : Apart ub sb tv rv) :
    w4.heap[w.heap.size]? = some o ∧ UnTo w w4 ub cs cs tP lim tv tv tab sb rv rv4 q := by
  refine ⟨?_, ?_⟩
  · rw [h4.chg.block _ (lt_of_block hx) (by omega)]; exact hx
  · have ha3 : Apart ub sb tv rv3 := ⟨ha.us, ha.ts, fun e => ha.ru (hs.own _ e), fun j hj => ha.rt j (hs.own j hj)⟩
    have h5 := h4.un hs.st ha3
    exact ⟨h5.st, fun _ _ => rfl, h5.sr, hs.chg.trans (h5.chg.mono fun j _ e => Or.inr e), fun _ e => Or.inl e, fun j hj => hs.own j (h4.own j hj)⟩
theorem Chg.drop_drew {S : Nat → Prop} {w w' : World} (h : Chg S w w') : Chg S w.drew w' := ⟨h.os, h.tape, h.output, h.size, h.block⟩
theorem add_after {w wb w6 : World} {ub : Nat} {cs cs6 : Array Value} {tP : TypeId} {lim : Nat} {tv tv6 : Value} {tab tab6 : List HP} {sb : Nat} {rv rvb : Value} {q : List UInt8} {o o2 : Obj} (hx : wb.heap[w.heap.size]? = some o) (hu : UnTo w wb ub cs cs tP lim tv tv tab sb rv rvb q) (h6 : TbTo (wb.alloc o2).drew w6 ub cs cs6 tP lim tv tv6 tab6) (hub : ub < w.heap.size) (htl : tv.ownBlock ≠ some w.heap.size) (ht : TbS w ub cs tP lim tv tab) (ha : Apart ub sb tv rv) :
    w6.heap[w.heap.size]? = some o ∧ w6.heap[wb.heap.size]? = some o2 ∧ UnTo w w6 ub cs cs6 tP lim tv tv6 tab6 sb rv rvb q ∧ tv6.ownBlock ≠ some w.heap.size := by
  have hsz := hu.chg.size
  have hx0 := lt_of_block hx
  have hc : Chg (TouchT ub tv) wb w6 := (((Chg.refl _ wb).alloc o2).drew).trans (h6.chg.mono fun j _ e => Or.inr e)
  have hs2 : (wb.alloc o2).drew.heap.size = wb.heap.size + 1 := by simp
  refine ⟨?_, ?_, ?_, ?_⟩
  · rw [hc.block _ hx0 (by rintro (e | e); omega; exact htl e)]; exact hx
  · rw [h6.chg.block wb.heap.size (by omega) ?_]
    · exact heap_alloc_new wb o2
    · rintro (e | e)
      · omega
      · have := owns_lt ht.row e; omega
  · have ha3 : Apart ub sb tv rvb := ⟨ha.us, ha.ts, fun e => ha.ru (hu.own _ e), fun j hj => ha.rt j (hu.own j hj)⟩
    exact hu.turn ⟨h6.st, h6.cs3, hc, fun j hj => (h6.own j hj).imp_right fun e => by omega⟩ ha3
  · intro e
    rcases h6.own _ e with a | a
    · exact htl a
    · omega
set_option maxRecDepth 100000 in
set_option maxHeartbeats 800000 in
theorem takePair_num (ub : Nat) (cs : Array Value) (tP : TypeId) (lim : Nat) (tv : Value) (tab : List HP) (sb : Nat) (rv : Value) (c : UInt8) (r : List UInt8) (n : Nat) (h : HP) (q : List UInt8) (w : World) (hgl : Gl w) (ht : TbS w ub cs tP lim tv tab) (hs : SrS w sb rv (c :: r)) (ha : Apart ub sb tv rv) (hl : (c :: r).length ≤ 134217728) (hsb : 7 ≤ sb)
    (hc : 128 ≤ c.toNat) (hcnt : rdCnt 7 c r = some (n, q)) (hn : n ≠ 0) (hx : (numd tab)[n - 1]? = some h) :
    Calls Tryz.prog 148 #[.pointer (some ⟨ub, 0, none⟩), .pointer (some ⟨sb, 0, none⟩)] w fun e w' => e = .returned (.agg #[.string h.n, .string h.v]) ∧ ∃ cs' tv' rv', UnTo w w' ub cs cs' tP lim tv tv' tab sb rv rv' q := by
  have hc8 : c.toNat ≤ 255 := Nat.le_of_lt_succ c.toNat_lt
  have hbA : Below w.heap.size w (w.alloc (.cells #[.string ⟨#[]⟩, .string ⟨#[]⟩] 147)) := (Below.refl _ _).alloc (Nat.le_refl _) _
  have hbox := heap_alloc_new w (.cells #[.string ⟨#[]⟩, .string ⟨#[]⟩] 147)
  have htk := stake_ok sb rv c r _ (hs.below hbA) (by omega)
  have hub := lt_of_block ht.tb.blk
  have hsl := lt_of_block hs.blk
  have hrl : ∀ j, rv.ownBlock = some j → j < w.heap.size := fun j hj => hs.bytes.lt hj
  have htl : tv.ownBlock ≠ some w.heap.size := fun e => by have := owns_lt ht.row e; omega
  have HFB : Hid (∀ wx, Calls Tryz.prog 173 #[fm 128 7, .int .u8 c.toNat] wx fun e w' => e = .returned (.bool true) ∧ Below wx.heap.size wx w') := fun wx => by
    have := fbegins_any 128 7 c wx (by decide)
    rwa [show decide (c.toNat / 2 ^ 7 = 128 / 2 ^ 7) = true from by simp; omega] at this
  have HCN : Hid (∀ rv' wx, SrS wx sb rv' r → Calls Tryz.prog 174 #[.pointer (some ⟨sb, 0, none⟩), .int .u8 c.toNat, fm 128 7] wx fun e w' => ∃ rv'', e = .returned (.int .i64 (n : Int)) ∧ SrTo wx w' sb rv' rv'' q) := fun rv' wx hh => by
    refine (takeCount_any sb rv' r c 128 7 wx hh (by decide) (by simp only [List.length_cons] at hl; omega)).mono ?_
    rintro e w' (⟨N, r', rv'', e1, _, e2, e3⟩ | ⟨e1, _⟩)
    · rw [hcnt] at e1
      simp only [Option.some.injEq, Prod.mk.injEq] at e1
      rw [e1.1, e1.2]
      exact ⟨rv'', e2, e3⟩
    · rw [hcnt] at e1; cases e1
  have HPA := hide (fun wx hg hh => pair_any ub cs tP lim tv tab n h wx hg hh (by omega) hx)
  have HTK := hide htk
  have HBA := hide hbA
  have HBX := hide hbox
  have HG := hide hgl
  have HT := hide ht
  have HA := hide ha
  have HRL := hide hrl
  have HTL := hide htl
  clear htk hbA hbox hgl ht hs ha hrl htl hx hn hcnt
  generalize c.toNat = x at *
  go_enter Tryz.func148, Tryz.ntmps148
  go_wp2_with fail
  refine HTK.out.mono ?_
  rintro e w1 ⟨rv1, rfl, hs1⟩
  have hg1 := (HG.out.below HBA.out).sr hs1.chg hsb
  have hx1 : w1.heap[w.heap.size]? = some (.cells #[.string ⟨#[]⟩, .string ⟨#[]⟩] 147 (0, 0)) := by rw [hs1.chg.block _ (lt_of_block HBX.out) (by omega)]; exact HBX.out
  have hs1' : SrTo w w1 sb rv rv1 r := SrTo.before HBA.out hs1
  obtain ⟨g0, g1⟩ := hg1.num
  have HG1 := hide hg1
  have HX1 := hide hx1
  have HS1 := hide hs1'
  clear hs1 hs1' hg1 hx1
  go_wp2_with fail
  refine (HFB.out _).mono ?_
  rintro e w2 ⟨rfl, hb2⟩
  have hg2 := HG1.out.below hb2
  have hx2 : w2.heap[w.heap.size]? = some (.cells #[.string ⟨#[]⟩, .string ⟨#[]⟩] 147 (0, 0)) := by rw [hb2.block _ (lt_of_block HX1.out)]; exact HX1.out
  have hs2 := HS1.out.below hb2
  obtain ⟨g0, g1⟩ := hg2.num
  have HG2 := hide hg2
  have HX2 := hide hx2
  have HS2 := hide hs2
  clear hb2 hg2 hx2 hs2
  have hsd : SrS w2.drew sb rv1 r := HS2.out.st.chg ((Chg.refl (fun _ => False) _).drew) id (fun _ _ => id)
  have hcn := HCN.out rv1 w2.drew hsd
  have HCD := hide hcn
  clear hsd hcn
  go_wp2
  go_region_law (first
    | (refine step_call rfl 174 Tryz.f174 Tryz.func174 (by kernel_rfl) rfl [.tmp 16, .tmp 17, .tmp 18] #[223, 5, 221] rfl [.pointer (some ⟨sb, 0, none⟩), .int .u8 (x : Int), fm 128 7] (by simp [Act.eval, Act.put, fm]) HCD.out ?_; rintro e w3 ⟨rv3, rfl, hs3⟩; refine ⟨_, rfl, ?_⟩; have HW3 := hide (num_after HG2.out HX2.out HS2.out hs3 hsb hsl HT.out HA.out); clear hs3)
    | (refine step_call rfl 177 Tryz.f177 Tryz.func177 (by kernel_rfl) rfl [.tmp 15, .tmp 19] #[85, 3] rfl [.pointer (some ⟨ub, 0, none⟩), .int .i64 (n : Int)] (by simp [Act.eval, Act.put]) (HPA.out w3 HW3.out.1 HW3.out.2.1.st) ?_; rintro e w4 ⟨rfl, hb4⟩; refine ⟨_, rfl, ?_⟩; obtain ⟨k0, k1, k2, k3⟩ := box_free HW3.out.2.2 hb4; have HU4 := hide (HW3.out.2.1.below hb4); clear hb4))
  all_goals go_wp2
  all_goals refine bodyPost_ret (v := .agg #[.string h.n, .string h.v]) ?_ rfl ⟨rfl, cs, tv, rv3, ?_⟩
  all_goals first
    | (simp [results, Tryz.results148, go_sem, k0, k1]; done)
    | exact (HU4.out.set (by omega) hub hsl HRL.out HTL.out _).set (by omega) hub hsl HRL.out HTL.out _
set_option maxRecDepth 100000 in
set_option maxHeartbeats 800000 in
theorem takePair_not (ub : Nat) (cs : Array Value) (tP : TypeId) (lim : Nat) (tv : Value) (tab : List HP) (sb : Nat) (rv : Value) (c : UInt8) (r : List UInt8) (n : Nat) (s : List UInt8) (h : HP) (q : List UInt8) (w : World) (hgl : Gl w) (ht : TbS w ub cs tP lim tv tab) (hs : SrS w sb rv (c :: r)) (ha : Apart ub sb tv rv) (hl : (c :: r).length ≤ 134217728) (hsb : 7 ≤ sb)
    (hc : c.toNat < 16) (hcnt : rdCnt 4 c r = some (n, s)) (hx : rdTxs tab n s = some (h, q)) (hhn : h.n.size ≤ 268435456) (hhv : h.v.size ≤ 268435456) :
    Calls Tryz.prog 148 #[.pointer (some ⟨ub, 0, none⟩), .pointer (some ⟨sb, 0, none⟩)] w fun e w' => e = .returned (.agg #[.string h.n, .string h.v]) ∧ ∃ cs' tv' rv', UnTo w w' ub cs cs' tP lim tv tv' tab sb rv rv' q := by
  have hc8 : c.toNat ≤ 255 := Nat.le_of_lt_succ c.toNat_lt
  have hbA : Below w.heap.size w (w.alloc (.cells #[.string ⟨#[]⟩, .string ⟨#[]⟩] 147)) := (Below.refl _ _).alloc (Nat.le_refl _) _
  have hbox := heap_alloc_new w (.cells #[.string ⟨#[]⟩, .string ⟨#[]⟩] 147)
  have htk := stake_ok sb rv c r _ (hs.below hbA) (by omega)
  have hub := lt_of_block ht.tb.blk
  have hsl := lt_of_block hs.blk
  have hrl : ∀ j, rv.ownBlock = some j → j < w.heap.size := fun j hj => hs.bytes.lt hj
  have htl : tv.ownBlock ≠ some w.heap.size := fun e => by have := owns_lt ht.row e; omega
  have HF7 : Hid (∀ wx, Calls Tryz.prog 173 #[fm 128 7, .int .u8 c.toNat] wx fun e w' => e = .returned (.bool false) ∧ Below wx.heap.size wx w') := fun wx => by
    have := fbegins_any 128 7 c wx (by decide)
    rwa [show decide (c.toNat / 2 ^ 7 = 128 / 2 ^ 7) = false from by simp; omega] at this
  have HF6 : Hid (∀ wx, Calls Tryz.prog 173 #[fm 64 6, .int .u8 c.toNat] wx fun e w' => e = .returned (.bool false) ∧ Below wx.heap.size wx w') := fun wx => by
    have := fbegins_any 64 6 c wx (by decide)
    rwa [show decide (c.toNat / 2 ^ 6 = 64 / 2 ^ 6) = false from by simp; omega] at this
  have HF4 : Hid (∀ wx, Calls Tryz.prog 173 #[fm 0 4, .int .u8 c.toNat] wx fun e w' => e = .returned (.bool true) ∧ Below wx.heap.size wx w') := fun wx => by
    have := fbegins_any 0 4 c wx (by decide)
    rwa [show decide (c.toNat / 2 ^ 4 = 0 / 2 ^ 4) = true from by simp; omega] at this
  have hsq := rdCnt_len hcnt
  simp only [List.length_cons] at hl
  have hnN : n ≤ 8388608 ∨ True := Or.inr trivial
  have HCN : Hid (∀ rv' wx, SrS wx sb rv' r → Calls Tryz.prog 174 #[.pointer (some ⟨sb, 0, none⟩), .int .u8 c.toNat, fm 0 4] wx fun e w' => ∃ rv'', n ≤ 8388608 ∧ e = .returned (.int .i64 (n : Int)) ∧ SrTo wx w' sb rv' rv'' s) := fun rv' wx hh => by
    refine (takeCount_any sb rv' r c 0 4 wx hh (by decide) (by omega)).mono ?_
    rintro e w' (⟨N, r', rv'', e1, e0, e2, e3⟩ | ⟨e1, _⟩)
    · rw [hcnt] at e1
      simp only [Option.some.injEq, Prod.mk.injEq] at e1
      rw [e1.1, e1.2]
      exact ⟨rv'', e0, e2, e3⟩
    · rw [hcnt] at e1; cases e1
  have HTX : Hid (∀ rv' wx, Gl wx → TbS wx ub cs tP lim tv tab → SrS wx sb rv' s → n ≤ 8388608 → Calls Tryz.prog 178 #[.pointer (some ⟨ub, 0, none⟩), .pointer (some ⟨sb, 0, none⟩), .int .i64 n] wx fun e w' => ∃ rv'', e = .returned (.agg #[.string h.n, .string h.v]) ∧ SrTo wx w' sb rv' rv'' q) := fun rv' wx hg hh1 hh hn9 => by
    refine (takeTexts_any ub cs tP lim tv tab sb rv' s n wx hg hh1 hh (by omega) hsb (by omega)).mono ?_
    rintro e w' (⟨h', r', rv'', e1, e2, e3⟩ | ⟨e1, _⟩)
    · rw [hx] at e1
      simp only [Option.some.injEq, Prod.mk.injEq] at e1
      rw [e1.1, e1.2]
      exact ⟨rv'', e2, e3⟩
    · rw [hx] at e1; cases e1
  have HTK := hide htk
  have HBA := hide hbA
  have HBX := hide hbox
  have HG := hide hgl
  have HT := hide ht
  have HA := hide ha
  have HRL := hide hrl
  have HTL := hide htl
  clear htk hbA hbox hgl ht hs ha hrl htl hx hcnt hnN
  generalize c.toNat = x at *
  go_enter Tryz.func148, Tryz.ntmps148
  go_wp2_with fail
  refine HTK.out.mono ?_
  rintro e w1 ⟨rv1, rfl, hs1⟩
  have hg1 := (HG.out.below HBA.out).sr hs1.chg hsb
  have hx1 : w1.heap[w.heap.size]? = some (.cells #[.string ⟨#[]⟩, .string ⟨#[]⟩] 147 (0, 0)) := by rw [hs1.chg.block _ (lt_of_block HBX.out) (by omega)]; exact HBX.out
  have hs1' : SrTo w w1 sb rv rv1 r := SrTo.before HBA.out hs1
  obtain ⟨g0, g1⟩ := hg1.num
  have HG1 := hide hg1
  have HX1 := hide hx1
  have HS1 := hide hs1'
  clear hs1 hs1' hg1 hx1
  go_wp2_with fail
  refine (HF7.out _).mono ?_
  rintro e w2 ⟨rfl, hb⟩
  have hg := HG1.out.below hb
  have hx : w2.heap[w.heap.size]? = some (.cells #[.string ⟨#[]⟩, .string ⟨#[]⟩] 147 (0, 0)) := by rw [hb.block _ (lt_of_block HX1.out)]; exact HX1.out
  have hs := HS1.out.below hb
  clear g0 g1
  obtain ⟨g0, g1⟩ := hg.add
  have HG2 := hide hg
  have HX2 := hide hx
  have HS2 := hide hs
  clear hb hg hx hs
  go_wp2_with fail
  refine (HF6.out _).mono ?_
  rintro e w3 ⟨rfl, hb⟩
  have hg := HG2.out.below hb
  have hx : w3.heap[w.heap.size]? = some (.cells #[.string ⟨#[]⟩, .string ⟨#[]⟩] 147 (0, 0)) := by rw [hb.block _ (lt_of_block HX2.out)]; exact HX2.out
  have hs := HS2.out.below hb
  clear g0 g1
  obtain ⟨g0, g1⟩ := hg.nta
  have HG3 := hide hg
  have HX3 := hide hx
  have HS3 := hide hs
  clear hb hg hx hs
  go_wp2_with fail
  refine (HF4.out _).mono ?_
  rintro e w4 ⟨rfl, hb⟩
  have hg := HG3.out.below hb
  have hx : w4.heap[w.heap.size]? = some (.cells #[.string ⟨#[]⟩, .string ⟨#[]⟩] 147 (0, 0)) := by rw [hb.block _ (lt_of_block HX3.out)]; exact HX3.out
  have hs := HS3.out.below hb
  clear g0 g1
  obtain ⟨g0, g1⟩ := hg.nta
  have HG4 := hide hg
  have HX4 := hide hx
  have HS4 := hide hs
  clear hb hg hx hs
  go_wp2_with fail
  refine (HCN.out rv1 _ HS4.out.st).mono ?_
  rintro e wa ⟨rva, hn9, rfl, hsa⟩
  obtain ⟨hga, hua, hxa⟩ := num_after (w3 := wa) HG4.out HX4.out HS4.out ⟨hsa.st, hsa.chg.drop_drew, hsa.own⟩ hsb hsl HT.out HA.out
  have hta := HTX.out rva wa hga hua.st hua.sr hn9
  have HTT := hide hta
  have HUA := hide hua
  have HXA := hide hxa
  have HGA := hide hga
  clear hsa hga hua hxa hta g0 g1
  go_wp2_with fail
  refine HTT.out.mono ?_
  rintro e wb ⟨rvb, rfl, hsb9⟩
  obtain ⟨hxb, hub9⟩ := txs_after HXA.out HUA.out hsb9 hsl HT.out HA.out
  obtain ⟨k0, k1, k2, k3⟩ := box_free hxb (Below.refl _ _)
  have HUB := hide hub9
  have HXB := hide hxb
  clear hsb9 hub9 hxb
  go_wp2
  refine bodyPost_ret (v := .agg #[.string h.n, .string h.v]) ?_ rfl ⟨rfl, cs, tv, rvb, ?_⟩
  · simp [results, Tryz.results148, go_sem, k0, k1]
  · exact (HUB.out.set (by omega) hub hsl HRL.out HTL.out _).set (by omega) hub hsl HRL.out HTL.out _
set_option maxRecDepth 100000 in
set_option maxHeartbeats 800000 in
theorem takePair_add (ub : Nat) (cs : Array Value) (tP : TypeId) (lim : Nat) (tv : Value) (tab : List HP) (sb : Nat) (rv : Value) (c : UInt8) (r : List UInt8) (n : Nat) (s : List UInt8) (h : HP) (q : List UInt8) (w : World) (hgl : Gl w) (ht : TbS w ub cs tP lim tv tab) (hs : SrS w sb rv (c :: r)) (ha : Apart ub sb tv rv) (hl : (c :: r).length ≤ 134217728) (hsb : 7 ≤ sb)
    (hc : 64 ≤ c.toNat) (hc2 : c.toNat < 128) (hcnt : rdCnt 6 c r = some (n, s)) (hx : rdTxs tab n s = some (h, q)) (hhn : h.n.size ≤ 268435456) (hhv : h.v.size ≤ 268435456) :
    Calls Tryz.prog 148 #[.pointer (some ⟨ub, 0, none⟩), .pointer (some ⟨sb, 0, none⟩)] w fun e w' => e = .returned (.agg #[.string h.n, .string h.v]) ∧ ∃ cs' tv' rv', UnTo w w' ub cs cs' tP lim tv tv' (addT tab lim h) sb rv rv' q := by
  have hc8 : c.toNat ≤ 255 := Nat.le_of_lt_succ c.toNat_lt
  have hbA : Below w.heap.size w (w.alloc (.cells #[.string ⟨#[]⟩, .string ⟨#[]⟩] 147)) := (Below.refl _ _).alloc (Nat.le_refl _) _
  have hbox := heap_alloc_new w (.cells #[.string ⟨#[]⟩, .string ⟨#[]⟩] 147)
  have htk := stake_ok sb rv c r _ (hs.below hbA) (by omega)
  have hub := lt_of_block ht.tb.blk
  have hsl := lt_of_block hs.blk
  have hrl : ∀ j, rv.ownBlock = some j → j < w.heap.size := fun j hj => hs.bytes.lt hj
  have htl : tv.ownBlock ≠ some w.heap.size := fun e => by have := owns_lt ht.row e; omega
  have HF7 : Hid (∀ wx, Calls Tryz.prog 173 #[fm 128 7, .int .u8 c.toNat] wx fun e w' => e = .returned (.bool false) ∧ Below wx.heap.size wx w') := fun wx => by
    have := fbegins_any 128 7 c wx (by decide)
    rwa [show decide (c.toNat / 2 ^ 7 = 128 / 2 ^ 7) = false from by simp; omega] at this
  have HF6 : Hid (∀ wx, Calls Tryz.prog 173 #[fm 64 6, .int .u8 c.toNat] wx fun e w' => e = .returned (.bool true) ∧ Below wx.heap.size wx w') := fun wx => by
    have := fbegins_any 64 6 c wx (by decide)
    rwa [show decide (c.toNat / 2 ^ 6 = 64 / 2 ^ 6) = true from by simp; omega] at this
  have hsq := rdCnt_len hcnt
  simp only [List.length_cons] at hl
  have hnN : n ≤ 8388608 ∨ True := Or.inr trivial
  have HCN : Hid (∀ rv' wx, SrS wx sb rv' r → Calls Tryz.prog 174 #[.pointer (some ⟨sb, 0, none⟩), .int .u8 c.toNat, fm 64 6] wx fun e w' => ∃ rv'', n ≤ 8388608 ∧ e = .returned (.int .i64 (n : Int)) ∧ SrTo wx w' sb rv' rv'' s) := fun rv' wx hh => by
    refine (takeCount_any sb rv' r c 64 6 wx hh (by decide) (by omega)).mono ?_
    rintro e w' (⟨N, r', rv'', e1, e0, e2, e3⟩ | ⟨e1, _⟩)
    · rw [hcnt] at e1
      simp only [Option.some.injEq, Prod.mk.injEq] at e1
      rw [e1.1, e1.2]
      exact ⟨rv'', e0, e2, e3⟩
    · rw [hcnt] at e1; cases e1
  have HTX : Hid (∀ rv' wx, Gl wx → TbS wx ub cs tP lim tv tab → SrS wx sb rv' s → n ≤ 8388608 → Calls Tryz.prog 178 #[.pointer (some ⟨ub, 0, none⟩), .pointer (some ⟨sb, 0, none⟩), .int .i64 n] wx fun e w' => ∃ rv'', e = .returned (.agg #[.string h.n, .string h.v]) ∧ SrTo wx w' sb rv' rv'' q) := fun rv' wx hg hh1 hh hn9 => by
    refine (takeTexts_any ub cs tP lim tv tab sb rv' s n wx hg hh1 hh (by omega) hsb (by omega)).mono ?_
    rintro e w' (⟨h', r', rv'', e1, e2, e3⟩ | ⟨e1, _⟩)
    · rw [hx] at e1
      simp only [Option.some.injEq, Prod.mk.injEq] at e1
      rw [e1.1, e1.2]
      exact ⟨rv'', e2, e3⟩
    · rw [hx] at e1; cases e1
  have HTK := hide htk
  have HBA := hide hbA
  have HBX := hide hbox
  have HG := hide hgl
  have HT := hide ht
  have HA := hide ha
  have HRL := hide hrl
  have HTL := hide htl
  have HAD := hide (fun wx hh => add_any ub cs tP lim tv tab h wx hh hhn hhv)
  clear htk hbA hbox hgl ht hs ha hrl htl hx hcnt hnN
  generalize c.toNat = x at *
  go_enter Tryz.func148, Tryz.ntmps148
  go_wp2_with fail
  refine HTK.out.mono ?_
  rintro e w1 ⟨rv1, rfl, hs1⟩
  have hg1 := (HG.out.below HBA.out).sr hs1.chg hsb
  have hx1 : w1.heap[w.heap.size]? = some (.cells #[.string ⟨#[]⟩, .string ⟨#[]⟩] 147 (0, 0)) := by rw [hs1.chg.block _ (lt_of_block HBX.out) (by omega)]; exact HBX.out
  have hs1' : SrTo w w1 sb rv rv1 r := SrTo.before HBA.out hs1
  obtain ⟨g0, g1⟩ := hg1.num
  have HG1 := hide hg1
  have HX1 := hide hx1
  have HS1 := hide hs1'
  clear hs1 hs1' hg1 hx1
  go_wp2_with fail
  refine (HF7.out _).mono ?_
  rintro e w2 ⟨rfl, hb⟩
  have hg := HG1.out.below hb
  have hx : w2.heap[w.heap.size]? = some (.cells #[.string ⟨#[]⟩, .string ⟨#[]⟩] 147 (0, 0)) := by rw [hb.block _ (lt_of_block HX1.out)]; exact HX1.out
  have hs := HS1.out.below hb
  clear g0 g1
  obtain ⟨g0, g1⟩ := hg.add
  have HG2 := hide hg
  have HX2 := hide hx
  have HS2 := hide hs
  clear hb hg hx hs
  go_wp2_with fail
  refine (HF6.out _).mono ?_
  rintro e w3 ⟨rfl, hb⟩
  have hg := HG2.out.below hb
  have hx : w3.heap[w.heap.size]? = some (.cells #[.string ⟨#[]⟩, .string ⟨#[]⟩] 147 (0, 0)) := by rw [hb.block _ (lt_of_block HX2.out)]; exact HX2.out
  have hs := HS2.out.below hb
  clear g0 g1
  obtain ⟨g0, g1⟩ := hg.add
  have HG3 := hide hg
  have HX3 := hide hx
  have HS3 := hide hs
  clear hb hg hx hs
  go_wp2_with fail
  refine (HCN.out rv1 _ HS3.out.st).mono ?_
  rintro e wa ⟨rva, hn9, rfl, hsa⟩
  obtain ⟨hga, hua, hxa⟩ := num_after (w3 := wa) HG3.out HX3.out HS3.out ⟨hsa.st, hsa.chg.drop_drew, hsa.own⟩ hsb hsl HT.out HA.out
  have hta := HTX.out rva wa hga hua.st hua.sr hn9
  have HTT := hide hta
  have HUA := hide hua
  have HXA := hide hxa
  have HGA := hide hga
  clear hsa hga hua hxa hta g0 g1
  go_wp2_with fail
  refine HTT.out.mono ?_
  rintro e wb ⟨rvb, rfl, hsb9⟩
  obtain ⟨hxb, hub9⟩ := txs_after HXA.out HUA.out hsb9 hsl HT.out HA.out
  obtain ⟨k0, k1, k2, k3⟩ := box_free hxb (Below.refl _ _)
  have HUB := hide hub9
  have HXB := hide hxb
  clear hsb9 hub9 hxb
  have htd : TbS (wb.alloc (.cells #[.string h.n, .string h.v] 147)).drew ub cs tP lim tv tab := HUB.out.st.chg (((Chg.refl (fun _ => False) wb).alloc _).drew) id (fun _ _ => id)
  have had := HAD.out _ htd
  have HAA := hide had
  clear htd had
  go_wp2
  go_region_law (refine step_call rfl 179 Tryz.f179 Tryz.func179 (by kernel_rfl) rfl [.tmp 34, .tmp 35] #[85, 147] rfl [.pointer (some ⟨ub, 0, none⟩), .agg #[.string h.n, .string h.v]] (by simp [Act.eval, Act.put]) HAA.out ?_; rintro e w6 ⟨rfl, cs6, tv6, h6⟩; refine ⟨_, rfl, ?_⟩; obtain ⟨m1, m2, m3, m4⟩ := add_after HXB.out HUB.out h6 hub HTL.out HT.out HA.out; obtain ⟨k0, k1, k2, k3⟩ := box_free m1 (Below.refl _ _); obtain ⟨j0, j1, j2, j3⟩ := box_free m2 (Below.refl _ _); have HM3 := hide m3; have HM4 := hide m4; clear h6 m1 m2 m3 m4)
  all_goals go_wp2
  all_goals refine bodyPost_ret (v := .agg #[.string h.n, .string h.v]) ?_ rfl ⟨rfl, cs6, tv6, rvb, ?_⟩
  all_goals first
    | (simp [results, Tryz.results148, go_sem, k0, k1]; done)
    | exact (HM3.out.set (by omega) hub hsl HRL.out HM4.out _).set (by omega) hub hsl HRL.out HM4.out _
theorem takePair_ok (ub : Nat) (cs : Array Value) (tP : TypeId) (lim : Nat) (tv : Value) (tab : List HP) (sb : Nat) (rv : Value) (l : List UInt8) (h : HP) (tab' : List HP) (q : List UInt8) (w : World) (hgl : Gl w) (ht : TbS w ub cs tP lim tv tab) (hs : SrS w sb rv l) (ha : Apart ub sb tv rv) (hl : l.length ≤ 134217728) (hsb : 7 ≤ sb) (hq : rdPair tab lim l = some (h, tab', q)) :
    Calls Tryz.prog 148 #[.pointer (some ⟨ub, 0, none⟩), .pointer (some ⟨sb, 0, none⟩)] w fun e w' => e = .returned (.agg #[.string h.n, .string h.v]) ∧ ∃ cs' tv' rv', UnTo w w' ub cs cs' tP lim tv tv' tab' sb rv rv' q := by
  obtain ⟨_, hhn, hhv⟩ := rdPair_len hq (numd_small (Nat.le_trans ht.fit ht.small)) hl
  cases l with
  | nil => simp [rdPair] at hq
  | cons c r =>
    simp only [rdPair] at hq
    split at hq
    · rename_i h1
      cases hc : rdCnt 7 c r with
      | none => rw [hc] at hq; cases hq
      | some nq =>
        obtain ⟨n, s⟩ := nq
        rw [hc] at hq
        simp only at hq
        split at hq
        · cases hq
        · rename_i hn
          cases hx : (numd tab)[n - 1]? with
          | none => rw [hx] at hq; cases hq
          | some x =>
            rw [hx] at hq
            simp only [Option.some.injEq, Prod.mk.injEq] at hq
            obtain ⟨rfl, rfl, rfl⟩ := hq
            exact takePair_num ub cs tP lim tv tab sb rv c r n x s w hgl ht hs ha hl hsb h1 hc hn hx
    · rename_i h1
      split at hq
      · rename_i h2
        cases hc : rdCnt 6 c r with
        | none => rw [hc] at hq; cases hq
        | some nq =>
          obtain ⟨n, s⟩ := nq
          rw [hc] at hq
          simp only at hq
          cases hx : rdTxs tab n s with
          | none => rw [hx] at hq; cases hq
          | some x =>
            obtain ⟨x, z⟩ := x
            rw [hx] at hq
            simp only [Option.some.injEq, Prod.mk.injEq] at hq
            obtain ⟨rfl, rfl, rfl⟩ := hq
            exact takePair_add ub cs tP lim tv tab sb rv c r n s x z w hgl ht hs ha hl hsb h2 (by omega) hc hx hhn hhv
      · split at hq
        · rename_i h3
          cases hc : rdCnt 4 c r with
          | none => rw [hc] at hq; cases hq
          | some nq =>
            obtain ⟨n, s⟩ := nq
            rw [hc] at hq
            simp only at hq
            cases hx : rdTxs tab n s with
            | none => rw [hx] at hq; cases hq
            | some x =>
              obtain ⟨x, z⟩ := x
              rw [hx] at hq
              simp only [Option.some.injEq, Prod.mk.injEq] at hq
              obtain ⟨rfl, rfl, rfl⟩ := hq
              exact takePair_not ub cs tP lim tv tab sb rv c r n s x z w hgl ht hs ha hl hsb h3 hc hx hhn hhv
        · cases hq
end Go.Proofs.YtiphkngfbpdeoaaGreatDoor
namespace Go.Proofs.YtiphkngfbpdeoaaGreatDoor
set_option linter.unusedVariables false
set_option linter.unusedSimpArgs false
open Go.RowKit
theorem SrS.drew {w : World} {sb : Nat} {rv : Value} {l : List UInt8} (h : SrS w sb rv l) : SrS w.drew sb rv l := h.chg ((Chg.refl (fun _ => False) _).drew) id (fun _ _ => id)
set_option maxRecDepth 100000 in
set_option maxHeartbeats 800000 in
theorem takeLimit_ok (ub : Nat) (cs : Array Value) (tP : TypeId) (lim : Nat) (tv : Value) (tab : List HP) (most : Nat) (sb : Nat) (rv : Value) (c : UInt8) (r : List UInt8) (n : Nat) (q : List UInt8) (w : World) (hgl : Gl w) (ht : TbS w ub cs tP lim tv tab) (hm : cs[3]? = some (.int .i64 (most : Int))) (hs : SrS w sb rv (c :: r)) (ha : Apart ub sb tv rv) (hl : (c :: r).length ≤ 134217728) (hsb : 7 ≤ sb)
    (hcnt : rdCnt 5 c r = some (n, q)) (hn : n ≤ most) (hmo : most ≤ 256) :
    Calls Tryz.prog 146 #[.pointer (some ⟨ub, 0, none⟩), .pointer (some ⟨sb, 0, none⟩)] w fun e w' => e = .returned (.tuple #[]) ∧ ∃ cs' tv' rv', UnTo w w' ub cs cs' tP n tv tv' (shr tab n) sb rv rv' q := by
  simp only [List.length_cons] at hl
  have htk := stake_ok sb rv c r _ hs.drew (by simp only [List.length_cons]; omega)
  have HCN : Hid (∀ rv' wx, SrS wx sb rv' r → Calls Tryz.prog 174 #[.pointer (some ⟨sb, 0, none⟩), .int .u8 c.toNat, fm 32 5] wx fun e w' => ∃ rv'', e = .returned (.int .i64 (n : Int)) ∧ SrTo wx w' sb rv' rv'' q) := fun rv' wx hh => by
    refine (takeCount_any sb rv' r c 32 5 wx hh (by decide) (by omega)).mono ?_
    rintro e w' (⟨N, r', rv'', e1, _, e2, e3⟩ | ⟨e1, _⟩)
    · rw [hcnt] at e1
      simp only [Option.some.injEq, Prod.mk.injEq] at e1
      rw [e1.1, e1.2]
      exact ⟨rv'', e2, e3⟩
    · rw [hcnt] at e1; cases e1
  have HRS := hide (fun wx hh => tresize_any ub cs tP lim tv tab n wx hh (by omega))
  obtain ⟨g0, g1⟩ := hgl.lim
  have HTK := hide htk
  have HG := hide hgl
  have HT := hide ht
  have HA := hide ha
  have HM := hide hm
  have hd : decide ((most : Int) < (n : Int)) = false := by simp; omega
  clear htk hgl ht hs ha hcnt hm
  have hc8 : c.toNat ≤ 255 := Nat.le_of_lt_succ c.toNat_lt
  generalize c.toNat = x at *
  go_enter Tryz.func146, Tryz.ntmps146
  go_wp2
  go_cut [4] (fun s4 wx => s4 = .int .i64 (n : Int) ∧ ∃ rv2, SrTo w wx sb rv rv2 q)
  case first =>
    go_region_law (first
      | (refine step_call rfl 175 Tryz.f175 Tryz.func175 (by kernel_rfl) rfl [.tmp 6] #[223] rfl [.pointer (some ⟨sb, 0, none⟩)] (by simp [Act.eval, Act.put]) HTK.out ?_; rintro e w1 ⟨rv1, rfl, hs1⟩; refine ⟨_, rfl, ?_⟩; obtain ⟨g2, g3⟩ := (HG.out.sr (w' := w1) ⟨hs1.chg.os, hs1.chg.tape, hs1.chg.output, hs1.chg.size, hs1.chg.block⟩ hsb).lim; have HS1 := hide hs1; clear hs1)
      | (refine step_call rfl 174 Tryz.f174 Tryz.func174 (by kernel_rfl) rfl [.tmp 5, .tmp 7, .tmp 8] #[223, 5, 221] rfl [.pointer (some ⟨sb, 0, none⟩), .int .u8 (x : Int), fm 32 5] (by simp [Act.eval, Act.put, fm]) (HCN.out rv1 w1 HS1.out.st) ?_; rintro e w2 ⟨rv2, rfl, hs2⟩; refine ⟨_, rfl, ?_⟩; have HS2 := hide (HS1.out.trans hs2); clear hs2))
    all_goals (go_wp2_with fail; go_meet; exact ⟨rfl, rv2, HS2.out.st, ⟨HS2.out.chg.os, HS2.out.chg.tape, HS2.out.chg.output, HS2.out.chg.size, HS2.out.chg.block⟩, HS2.out.own⟩)
  case rest =>
    obtain ⟨rfl, rv2, hs2⟩ := hcut
    have hu2 := hs2.un HT.out HA.out
    have c3 : wc.cell? ⟨ub, 3, none⟩ = some (.int .i64 (most : Int)) := by rw [cell_of_row _ _ _ _ _ _ hu2.st.tb.blk]; exact HM.out
    have hrs := HRS.out wc hu2.st
    have HR := hide hrs
    have HU := hide hu2
    clear hs2 hu2 hrs g0 g1
    go_wp2_with fail
    refine HR.out.mono ?_
    rintro e w3 ⟨rfl, cs3, tv3, h3⟩
    have H3 := hide (HU.out.turn h3 ⟨HA.out.us, HA.out.ts, fun e => HA.out.ru (HU.out.own _ e), fun j hj => HA.out.rt j (HU.out.own j hj)⟩)
    clear h3
    go_wp2
    exact bodyPost_end (results_none rfl _ _ _) rfl ⟨rfl, cs3, tv3, rv2, H3.out⟩
end Go.Proofs.YtiphkngfbpdeoaaGreatDoor
namespace Go.Proofs.YtiphkngfbpdeoaaGreatDoor
set_option linter.unusedVariables false
set_option linter.unusedSimpArgs false
open Go.RowKit
set_option maxRecDepth 100000 in
set_option maxHeartbeats 4000000 in
theorem slClone_any (s : ByteArray) (w : World) (hlim : s.size ≤ 281474976710656) :
    Calls Tryz.prog 138 #[.string s] w fun e w' => e = .returned (.string s) ∧ Below w.heap.size w w' := by
  by_cases h0 : s.size = 0
  · have hs : s = ⟨#[]⟩ := by
      apply ByteArray.ext
      exact Array.eq_empty_of_size_eq_zero h0
    subst hs
    go_enter Tryz.func138, Tryz.ntmps138
    go_wp2
    go_ret
    exact ⟨rfl, Below.refl _ _⟩
  · obtain ⟨i0, hi, hz0, hz1, hz2⟩ := info_parts Tryz.info5
    have hinfo : (Tryz.prog.info? 5).map (·.size) = some 1 := by rw [hi]; simp [hz1]
    have hco : Tryz.prog.cellsOf 5 = 1 := by simp [Program.cellsOf, hi, hz1]
    obtain ⟨M, hM⟩ : ∃ M, M = madeCells (Value.int .u8 0).cells (((s.size : Nat) : Int).toNat * i0.size) := ⟨_, rfl⟩
    have hMs : M.size = s.size := by rw [hM, size_madeCells, hz1]; simp
    have hmk : ∀ W : World, (Instr.makeSlice 38 (.int .i64 (s.size : Int)) (.int .i64 (s.size : Int))).run Tryz.prog W = .ok (.slice (some ⟨W.heap.size, 0, none⟩) s.size s.size) (W.alloc (.cells M 5)) := fun W => by
      have h := run_make (P := Tryz.prog) W 38 5 i0 (.int .u8 0) Tryz.underlying38 hi hz0 .i64 .i64 (s.size : Int) (s.size : Int) (by omega) (by omega) (by rw [hz2]; omega) (by omega)
      rw [← hM] at h
      simpa using h
    clear hM
    have hcp := Lib.run_copy_row_string (P := Tryz.prog) (w.alloc (.cells M 5)) 38 9 3 5 w.heap.size 0 s.size s.size s M 5 Tryz.underlying38 hinfo (heap_alloc_new w _) (Nat.le_refl _) (by omega)
    obtain ⟨Y, hY⟩ : ∃ Y, Y = (M.toList.take 0 ++ Lib.byteCells s.data.toList ++ M.toList.drop (0 + s.size)).toArray := ⟨_, rfl⟩
    rw [← hY] at hcp
    have hYl : Y.toList = Lib.byteCells s.data.toList := by
      rw [hY, List.toList_toArray, List.take_zero, List.nil_append, List.drop_of_length_le (by rw [Array.length_toList]; omega), List.append_nil]
    have hYs : Y.size = s.size := by rw [← Array.length_toList, hYl, Lib.byteCells_length, ← Lib.size_eq]
    have hgY : ((w.alloc (.cells M 5)).setRow w.heap.size Y).heap[w.heap.size]? = some (.cells Y 5 (0, 0)) := setRow_heap _ _ M _ 5 (0, 0) (heap_alloc_new w _)
    have hne : s.data.toList ≠ [] := fun e => h0 (by rw [Lib.size_eq, e]; rfl)
    have hUS := Lib.run_unsafeString_row (P := Tryz.prog) ((w.alloc (.cells M 5)).setRow w.heap.size Y) 228 3 9 5 Tryz.underlying228 hco w.heap.size Y.size (by unfold World.shape?; rw [hgY]) s.data.toList hne (by rw [← Lib.size_eq]; omega) (by rw [← Lib.size_eq]; omega)
      (fun j x hx => Lib.cells_of_row hgY Y.size j _ (by rw [List.take_of_length_le (by rw [Array.length_toList]; exact Nat.le_refl _), hYl]; simp [Lib.byteCells, hx]))
    rw [← Lib.size_eq] at hUS
    clear hY
    go_enter Tryz.func138, Tryz.ntmps138
    go_wp2
    go_ret
    have hb1 : Below w.heap.size w (w.alloc (.cells M 5)) := (Below.refl _ w).alloc (Nat.le_refl _) _
    have hb2 : Below w.heap.size (w.alloc (.cells M 5)) ((w.alloc (.cells M 5)).setRow w.heap.size Y) := ⟨rfl, rfl, rfl, by simp, fun k hk => setRow_other _ _ _ _ (by omega)⟩
    exact ⟨rfl, Lib.below_freeze (hb1.trans hb2) (p := ⟨w.heap.size, 0, none⟩) (Nat.le_refl _) _⟩
set_option maxRecDepth 100000 in
set_option maxHeartbeats 1600000 in
theorem clone_any (s : ByteArray) (w : World) (hlim : s.size ≤ 281474976710656) :
    Calls Tryz.prog 101 #[.string s] w fun e w' => e = .returned (.string s) ∧ Below w.heap.size w w' := by
  have H := hide (slClone_any s w hlim)
  go_enter Tryz.func101, Tryz.ntmps101
  go_wp2_with fail
  refine H.out.mono ?_
  rintro e w' ⟨rfl, hb⟩
  go_wp2
  go_ret
  exact ⟨rfl, hb⟩
end Go.Proofs.YtiphkngfbpdeoaaGreatDoor
namespace Go.Proofs.YtiphkngfbpdeoaaGreatDoor
set_option linter.unusedVariables false
set_option linter.unusedSimpArgs false
open Go.RowKit
theorem Laid.gl {w w' : World} {gv v : Value} {l : List UInt8} (h : Laid w gv w' v l) (hg : Gl w) (hgg : ∀ j, gv.ownBlock = some j → 7 ≤ j) : Gl w' := hg.chg h.chg (fun j hj e => by have := hgg j e; omega)
theorem Laid.gg {w w' : World} {gv v : Value} {l : List UInt8} (h : Laid w gv w' v l) (hg : Gl w) (hgg : ∀ j, gv.ownBlock = some j → 7 ≤ j) : ∀ j, v.ownBlock = some j → 7 ≤ j := fun j hj => by
  rcases h.fresh j hj with e | e
  · exact hgg j e
  · exact Nat.le_trans hg.lt e
theorem Laid.keep {w w' : World} {gv v : Value} {l : List UInt8} (h : Laid w gv w' v l) {q : Nat} {o : Obj} (hq : w.heap[q]? = some o) (hne : gv.ownBlock ≠ some q) : w'.heap[q]? = some o := by
  rw [h.chg.block q (Array.getElem?_eq_some_iff.1 hq).1 hne]; exact hq
theorem Laid.ne {w w' : World} {gv v : Value} {l : List UInt8} (h : Laid w gv w' v l) {q : Nat} (hq : q < w.heap.size) (hne : gv.ownBlock ≠ some q) : v.ownBlock ≠ some q := fun e => by
  rcases h.fresh q e with a | a
  · exact hne a
  · omega
theorem cnt_len (f k n : Nat) (hn : n ≤ 1048576) : (cnt f k n).length ≤ 1048580 := by
  have := tail7_len (n - (2 ^ k - 1))
  unfold cnt
  split
  · simp
  · rw [List.length_cons]; omega
theorem txt_le (t : List UInt8) (h : t.length ≤ 262144) : (txt t).length ≤ 2097152 := by
  have h1 := packB_len t
  unfold txt
  split
  · have := cnt_len 128 7 (bytesB (packB t)).length (by omega)
    rw [List.length_append]; omega
  · have := cnt_len 0 7 t.length (by omega)
    rw [List.length_append]; omega
set_option maxRecDepth 100000 in
set_option maxHeartbeats 800000 in
theorem appendTexts_any (pb : Nat) (cs : Array Value) (tP : TypeId) (lim : Nat) (tv : Value) (tab : List HP) (f k : Nat) (h : HP) (gv : Value) (l : List UInt8) (w : World) (hgl : Gl w) (ht : TbS w pb cs tP lim tv tab) (hown : w.ownsRow 0 5 1 gv l.length (l.map B)) (hgg : ∀ j, gv.ownBlock = some j → 7 ≤ j)
    (hl : l.length ≤ 134217728) (hn : h.n.size ≤ 262144) (hv : h.v.size ≤ 262144) (hk : k = 4 ∨ k = 5 ∨ k = 6 ∨ k = 7) (hf : f + 2 ^ k ≤ 256) (hz : f % 2 ^ k = 0) :
    Calls Tryz.prog 197 #[.pointer (some ⟨pb, 0, none⟩), gv, fm f k, .agg #[.string h.n, .string h.v]] w fun e w' => ∃ v, e = .returned v ∧ Laid w gv w' v (l ++ txs tab f k h) := by
  have hfew := ht.few
  have hbel : Below w.heap.size w ((w.alloc (.cells #[.int .u8 (f : Int), .int .i64 (k : Int)] 221)).alloc (.cells #[.string h.n, .string h.v] 147)) := ((Below.refl _ _).alloc (Nat.le_refl _) _).alloc (by simp) _
  have hfr : ((w.alloc (.cells #[.int .u8 (f : Int), .int .i64 (k : Int)] 221)).alloc (.cells #[.string h.n, .string h.v] 147)).heap[w.heap.size]? = some (.cells #[.int .u8 (f : Int), .int .i64 (k : Int)] 221 (0, 0)) := by
    rw [Below.heap_alloc _ _ _ (by simp)]; exact heap_alloc_new w _
  have hhd : ((w.alloc (.cells #[.int .u8 (f : Int), .int .i64 (k : Int)] 221)).alloc (.cells #[.string h.n, .string h.v] 147)).heap[w.heap.size + 1]? = some (.cells #[.string h.n, .string h.v] 147 (0, 0)) := by
    have := heap_alloc_new (w.alloc (.cells #[.int .u8 (f : Int), .int .i64 (k : Int)] 221)) (.cells #[.string h.n, .string h.v] 147)
    simpa using this
  have hfn := findName_any pb cs tP lim tv tab h.n ((w.alloc (.cells #[.int .u8 (f : Int), .int .i64 (k : Int)] 221)).alloc (.cells #[.string h.n, .string h.v] 147)).drew ((hgl.below hbel).below ⟨rfl, rfl, rfl, Nat.le_refl _, fun _ _ => rfl⟩) ((ht.below hbel).below ⟨rfl, rfl, rfl, Nat.le_refl _, fun _ _ => rfl⟩)
  have hgvl : ∀ j, gv.ownBlock = some j → j < w.heap.size := fun j hj => owns_lt hown hj
  have htx : txs tab f k h = cnt f k (nmF (numd tab) h.n) ++ ((if nmF (numd tab) h.n = 0 then txt h.n.data.toList else []) ++ txt h.v.data.toList) := rfl
  have hnm := nmF_le (numd tab) h.n
  rw [numd_length] at hnm
  generalize nmF (numd tab) h.n = N at hfn htx hnm
  have HFN := hide hfn
  have HBEL := hide hbel
  have HFR := hide hfr
  have HHD := hide hhd
  have HGL := hide hgl
  have HOW := hide hown
  have HGG := hide hgg
  have HGV := hide hgvl
  have HTX := hide htx
  have HKF := hide (And.intro hk (And.intro hf hz))
  clear hfn hbel hfr hhd hgl ht hown hgg hgvl htx hk hf hz
  go_enter Tryz.func197, Tryz.ntmps197
  go_wp2
  go_cut [9] (fun s9 wx => s9 = .int .i64 (N : Int) ∧ Below ((w.alloc (.cells #[.int .u8 (f : Int), .int .i64 (k : Int)] 221)).alloc (.cells #[.string h.n, .string h.v] 147)).heap.size ((w.alloc (.cells #[.int .u8 (f : Int), .int .i64 (k : Int)] 221)).alloc (.cells #[.string h.n, .string h.v] 147)) wx)
  case first =>
    go_region_law (refine step_call rfl 204 Tryz.f204 Tryz.func204 (by kernel_rfl) rfl [.tmp 12, .tmp 14] #[85, 9] rfl [.pointer (some ⟨pb, 0, none⟩), .string h.n] (by simp [Act.eval, Act.put]) HFN.out ?_; rintro e w1 ⟨rfl, hb1⟩; refine ⟨_, rfl, ?_⟩; have HB1 := hide hb1; clear hb1)
    all_goals (go_wp2_with fail; go_meet; exact ⟨rfl, HB1.out.os, HB1.out.tape, HB1.out.output, HB1.out.size, HB1.out.block⟩)
  case rest =>
    obtain ⟨rfl, hb1⟩ := hcut
    have hB1 : Below w.heap.size w wc := HBEL.out.trans (hb1.mono HBEL.out.size)
    have hg1 := HGL.out.below hB1
    have ho1 := owns_chg HOW.out (Chg.of_below (S := fun _ => False) hB1) (fun _ _ => id)
    have hf1 : wc.heap[w.heap.size]? = some (.cells #[.int .u8 (f : Int), .int .i64 (k : Int)] 221 (0, 0)) := by rw [hb1.block _ (lt_of_block HFR.out)]; exact HFR.out
    have hh1 : wc.heap[w.heap.size + 1]? = some (.cells #[.string h.n, .string h.v] 147 (0, 0)) := by rw [hb1.block _ (lt_of_block HHD.out)]; exact HHD.out
    have hac := appendCount_any f k N gv l wc ho1 (by omega) HKF.out.1 HKF.out.2.1 HKF.out.2.2 (by omega)
    have q0 : wc.cell? ⟨w.heap.size, 0, none⟩ = some (.int .u8 (f : Int)) := by rw [cell_of_row _ _ _ _ _ _ hf1]; rfl
    have q1 : wc.cell? ⟨w.heap.size, 1, none⟩ = some (.int .i64 (k : Int)) := by rw [cell_of_row _ _ _ _ _ _ hf1]; rfl
    have hcl := cnt_len f k N (by omega)
    have HB1 := hide hB1
    have HG1 := hide hg1
    have HH1 := hide hh1
    have HAC := hide hac
    clear hb1 hB1 hg1 ho1 hf1 hh1 hac
    go_wp2_with fail
    refine HAC.out.mono ?_
    rintro e w2 ⟨v2, rfl, hl2⟩
    have hnb : gv.ownBlock ≠ some (w.heap.size + 1) := fun e => by have := HGV.out _ e; omega
    have hh2 := hl2.keep HH1.out hnb
    have hnb2 := hl2.ne (lt_of_block HH1.out) hnb
    have hg2 := hl2.gl HG1.out HGG.out
    have hgg2 := hl2.gg HG1.out HGG.out
    have r0 : w2.cell? ⟨w.heap.size + 1, 0, none⟩ = some (.string h.n) := by rw [cell_of_row _ _ _ _ _ _ hh2]; rfl
    have r1 : w2.cell? ⟨w.heap.size + 1, 1, none⟩ = some (.string h.v) := by rw [cell_of_row _ _ _ _ _ _ hh2]; rfl
    have hll : (l ++ cnt f k N).length ≤ 134217728 + 1048580 := by rw [List.length_append]; omega
    obtain ⟨L2, hL2⟩ : ∃ L2, L2 = l ++ cnt f k N := ⟨_, rfl⟩
    rw [← hL2] at hl2 hll
    have HL2 := hide hl2
    have HE2 := hide hL2
    have HH2 := hide hh2
    have HNB2 := hide hnb2
    have HG2 := hide hg2
    have HGG2 := hide hgg2
    clear hl2 hL2 hh2 hnb hnb2 hg2 hgg2
    by_cases hN : N = 0
    · have hN' : ((N : Int) == 0) = true := by simp [hN]
      have HHN := hide hN
      have hat := appendText_any h.n v2 L2 w2 HG2.out HL2.out.own (by omega) hn
      have htl := txt_le h.n.data.toList hn
      have HAT := hide hat
      clear hat hN
      go_wp2_with fail
      refine HAT.out.mono ?_
      rintro e w3 ⟨v3, rfl, hl3⟩
      have hh3 := hl3.keep HH2.out HNB2.out
      have s1 : w3.cell? ⟨w.heap.size + 1, 1, none⟩ = some (.string h.v) := by rw [cell_of_row _ _ _ _ _ _ hh3]; rfl
      have hll3 : (L2 ++ txt h.n.data.toList).length ≤ 134217728 + 1048580 + 2097152 := by rw [List.length_append]; omega
      have hat3 := appendText_any h.v v3 _ w3 (hl3.gl HG2.out HGG2.out) hl3.own (by omega) hv
      have hfin := Laid.below HB1.out (HL2.out.trans hl3)
      have HAT3 := hide hat3
      have HFIN := hide hfin
      clear hat3 hl3 hh3 hfin
      go_wp2_with fail
      refine HAT3.out.mono ?_
      rintro e w4 ⟨v4, rfl, hl4⟩
      have HF4 := hide (HFIN.out.trans hl4)
      clear hl4
      go_wp2
      go_ret
      refine ⟨v4, rfl, ?_⟩
      rw [HTX.out, if_pos HHN.out]
      have h9 := HF4.out
      rw [HE2.out] at h9
      simpa [List.append_assoc] using h9
    · have hN' : ((N : Int) == 0) = false := by simp; omega
      have HHN := hide hN
      have hat3 := appendText_any h.v v2 L2 w2 HG2.out HL2.out.own (by omega) hv
      have hfin := Laid.below HB1.out HL2.out
      have HAT3 := hide hat3
      have HFIN := hide hfin
      clear hat3 hfin hN
      go_wp2_with fail
      refine HAT3.out.mono ?_
      rintro e w4 ⟨v4, rfl, hl4⟩
      have HF4 := hide (HFIN.out.trans hl4)
      clear hl4
      go_wp2
      go_ret
      refine ⟨v4, rfl, ?_⟩
      rw [HTX.out, if_neg HHN.out]
      have h9 := HF4.out
      rw [HE2.out] at h9
      simpa [List.append_assoc] using h9
end Go.Proofs.YtiphkngfbpdeoaaGreatDoor
