import Derived.Test.YtdccldbefdfppaaGreatDoorQGal
import Derived.Test.YtdccldbefdfppaaGreatDoorQGan
import Derived.Test.YtdccldbefdfppaaGreatDoorQGac
import Derived.Test.YtdccldbefdfppaaGreatDoorQEnMData
import Derived.Test.YtdccldbefdfppaaGreatDoorQGak
import Derived.BigRegion
import Derived.ArgAppend
set_option linter.unusedVariables false
set_option linter.unusedSimpArgs false
/-
  Package ends: a stream without heads is announced.
-/
namespace Go.Proofs.YtdccldbefdfppaaGreatDoor
set_option linter.unusedVariables false
set_option linter.unusedSimpArgs false
open Go.RowKit

set_option maxRecDepth 100000 in
set_option maxHeartbeats 800000 in
/-- An empty list is packed, where no limit waits. -/
theorem pack_none (eb : Nat) (m : EndM) (ha : Option Addr) (hc : Nat) (w : World) (h : EnB w eb m) (hp : m.pwait = .slice none 0 0) :
    Calls Tryz.prog 153 #[.pointer (some ⟨eb, 46, none⟩), .slice ha 0 hc] w fun e w' => e = .returned (.slice none 0 0) ∧ w' = w.setCell ⟨eb, 49, none⟩ (.slice none 0 0) := by
  have c49 := h.c49
  rw [hp] at c49
  have f49 := h.fr 49
  clear h hp
  go_enter Tryz.func153, Tryz.ntmps153
  go_wp2
  refine wp_loop_rounds 1 ?_
  rw [rounds_succ]
  go_wp2
  refine wp_loop_rounds 1 ?_
  rw [rounds_succ]
  go_wp2
  go_ret
  exact ⟨rfl, rfl⟩
def GSt.told (s : GSt) : GSt := { s with st := { s.st with announced := true, sentAll := s.st.last } }
set_option maxRecDepth 100000 in
set_option maxHeartbeats 3200000 in
theorem announce_none (eb mb : Nat) (g : GEnd) (s : GSt) (ha : Option Addr) (hc : Nat) (w : World) (h : Inv w eb mb g) (hs : s ∈ g.K) (hg : g.m.greets = false) (hl : g.out.length ≤ 1073741824) (hnum : 0 ≤ s.st.number ∧ s.st.number ≤ 32767) (hp : g.m.pwait = .slice none 0 0) (hhd : s.st.heads = .slice ha 0 hc) (hla : s.st.last = false) :
    Calls Tryz.prog 117 #[.pointer (some ⟨eb, 0, none⟩), .pointer (some ⟨s.sb, 0, none⟩)] w fun e w' => e = .returned (.tuple #[]) ∧ ∃ g', g'.bare = ({ g with K := updN s.st.number (fun x => x.told) g.K, out := g.out ++ lay 1 4 s.st.number [] } : GEnd).bare ∧ Next w w' eb mb g g' := by
  have hst := h.st hs
  have hdr : Below w.heap.size w w.drew := Below.drew (Below.refl _ _)
  have HPK := hide (pack_none eb g.m ha hc w.drew (h.en.below hdr) hp)
  obtain ⟨w1, hw1⟩ : ∃ w1, w1 = w.drew.setCell ⟨eb, 49, none⟩ (.slice none 0 0) := ⟨_, rfl⟩
  have hc1 : Chg (fun j => j = eb) w w1 := by rw [hw1]; exact (Chg.of_below hdr).trans ((chg_set (S := fun j => j = eb) (Chg.refl _ _) rfl).mono fun _ _ e => Or.inr e)
  have hen1 : EnB w1 eb g.m := ⟨by rw [hw1]; exact (blk_set (h.en.below hdr).blk).trans (by simp [EndM.cells, hp])⟩
  have hn1 := h.onM (m' := g.m) hc1 hen1 rfl rfl rfl rfl rfl rfl
  have hst1 := hn1.inv.st hs
  obtain ⟨w2, hw2⟩ : ∃ w2, w2 = w1.alloc (.cells #[.int .i64 1, .int .i64 4, .int .i64 s.st.number, .slice none 0 0] 48) := ⟨_, rfl⟩
  have hb2 : Below w1.heap.size w1 w2 := by rw [hw2]; exact (Below.refl _ _).alloc (Nat.le_refl _) _
  have hi2 := hn1.inv.below hb2
  have HPT := hide (en_put eb g.m g.out 1 4 s.st.number none [] 0 w2 hi2.en hg hi2.out hl (by omega) (by omega) (by omega) (by omega) hnum.1 hnum.2 (by simp) (Or.inl ⟨rfl, rfl⟩))
  have c4 : w.cell? ⟨s.sb, 4, none⟩ = some (.slice ha 0 hc) := by rw [hst.c4, hhd]
  have d4 : w.drew.cell? ⟨s.sb, 4, none⟩ = some (.slice ha 0 hc) := c4
  have e3 : w1.cell? ⟨s.sb, 3, none⟩ = some (.int .i64 s.st.number) := hst1.c3
  have al : Below w1.heap.size w1 (w1.alloc (.cells #[.int .i64 1, .int .i64 0, .int .i64 s.st.number, .slice none 0 0] 48)) := (Below.refl _ _).alloc (Nat.le_refl _) _
  have e5 : (w1.alloc (.cells #[.int .i64 1, .int .i64 0, .int .i64 s.st.number, .slice none 0 0] 48)).cell? ⟨s.sb, 5, none⟩ = some (.bool false) := by rw [(hst1.below al).c5, hla]
  have HI2 := hide hi2
  have HN1 := hide hn1
  have HB2 := hide hb2
  have HW1 := hide hw1
  have HW2 := hide hw2
  have HS := hide hs
  have HLA := hide hla
  clear h hs hst hdr hc1 hen1 hn1 hst1 hi2 hb2 hw1 hw2 al hhd hp hla
  go_enter Tryz.func117, Tryz.ntmps117
  go_upto_region 0 with fail
  go_cut [4] (fun s4 wx => s4 = .slice none 0 0 ∧ wx = w1)
  case first =>
    go_region_law (refine step_call rfl 153 Tryz.f153 Tryz.func153 (by kernel_rfl) rfl [.tmp 9, .tmp 13] #[96, 88] rfl [.pointer (some ⟨eb, 46, none⟩), .slice ha 0 hc] (by simp [Act.eval, Act.put]) HPK.out ?_; rintro e w' ⟨rfl, hw'⟩; refine ⟨_, rfl, ?_⟩; rw [hw', ← HW1.out]; clear hw' w')
    all_goals (go_wp2_with fail; go_meet; exact ⟨rfl, rfl⟩)
  case rest =>
    obtain ⟨hs4, hwx⟩ := hcut
    subst hs4
    rw [hwx]
    clear hwx
    go_wp2
    refine wp_loop_rounds 1 ?_
    rw [rounds_succ]
    have hor : bits .or .i64 0 4 = 4 := by decide
    go_wp2_with fail
    rw [← HW2.out]
    refine HPT.out.mono ?_
    rintro e w3 ⟨rfl, v, hp3⟩
    have hn3 := HI2.out.put (m' := g.m) rfl rfl rfl rfl rfl rfl hp3
    have hst3 := hn3.inv.st HS.out
    have y7 : w3.cell? ⟨s.sb, 7, none⟩ = some (.bool s.st.announced) := hst3.c7
    have f7 := hst3.fr 7
    obtain ⟨w4, hw4⟩ : ∃ w4, w4 = w3.setCell ⟨s.sb, 7, none⟩ (.bool true) := ⟨_, rfl⟩
    have hc4 : Chg (fun j => j = s.sb) w3 w4 := by rw [hw4]; exact chg_set (Chg.refl _ _) rfl
    have hst4 : StB w4 s.sb { s.st with announced := true } := ⟨by rw [hw4]; exact (blk_set hst3.blk).trans (by simp [StM.cells])⟩
    have y5 : w4.cell? ⟨s.sb, 5, none⟩ = some (.bool false) := by rw [hst4.c5]; exact congrArg (fun b => some (Value.bool b)) HLA.out
    have y8 : w4.cell? ⟨s.sb, 8, none⟩ = some (.bool s.st.sentAll) := hst4.c8
    have f8 := hst4.fr 8
    have hc5 : Chg (fun j => j = s.sb) w3 (w4.setCell ⟨s.sb, 8, none⟩ (.bool false)) := hc4.trans ((chg_set (S := fun j => j = s.sb) (Chg.refl _ _) rfl).mono fun _ _ e => Or.inr e)
    have hst5 : StB (w4.setCell ⟨s.sb, 8, none⟩ (.bool false)) s.sb s.told.st := ⟨(blk_set hst4.blk).trans (by simp [StM.cells, GSt.told, HLA.out])⟩
    have keep : ∀ {q : Nat} {v'' : Value} {xs : List Value} {ty : TypeId}, ty ≠ 127 → w3.ownsRow 0 ty 1 v'' q xs → (w4.setCell ⟨s.sb, 8, none⟩ (.bool false)).ownsRow 0 ty 1 v'' q xs := fun h2 hr => owns_chg hr hc5 (fun j hj e => by rw [e] at hj; exact owns_ne hr hst3.blk h2 hj)
    have hn5 := hn3.inv.onSt (S := fun j => j = s.sb) (m' := { g.m with out := v }) (s := s) (s' := s.told) (L' := g.L) (o' := g.out ++ lay 1 4 s.st.number []) 0 HS.out hc5 (fun j e => Or.inr (Or.inl e)) (hn3.inv.en.chg hc5 (fun e => hn3.inv.st_eb HS.out e.symm)) hst5 rfl rfl rfl rfl rfl rfl
      (keep (by decide) hn3.inv.row) (fun j hj => Or.inl hj) (List.Sublist.refl _) (keep (by decide) hn3.inv.out) (fun j hj => Or.inl hj) (keep (by decide) (hn3.inv.un s HS.out)) (fun j hj => Or.inl hj) (keep (by decide) (hn3.inv.wa s HS.out)) (fun j hj => Or.inl hj)
    have HEND : Hid (∃ g', g'.bare = ({ g with K := updN s.st.number (fun x => x.told) g.K, out := g.out ++ lay 1 4 s.st.number [] } : GEnd).bare ∧ Next w (w4.setCell ⟨s.sb, 8, none⟩ (.bool false)) eb mb g g') := by
      refine ⟨_, ?_, HN1.out.trans (((hn3.trans hn5).pre HB2.out))⟩
      unfold GEnd.bare
      simp only [GEnd.mk.injEq, true_and, and_true]
      refine ⟨rfl, ?_⟩
      rw [updN_const (f := fun x => x.told) hn3.inv.nn HS.out rfl]
    have HW4 := hide hw4
    clear hn3 hst3 hc4 hst4 hc5 hst5 keep hn5 hp3 hw4
    go_upto_region 13 with fail
    rw [← HW4.out]
    clear y7 f7
    go_wp2
    exact bodyPost_end (results_none rfl _ _ _) rfl ⟨rfl, HEND.out⟩
end Go.Proofs.YtdccldbefdfppaaGreatDoor
/-
  Package ends: Take, where nothing is to be announced or sent.
-/
namespace Go.Proofs.YtdccldbefdfppaaGreatDoor
set_option linter.unusedVariables false
set_option linter.unusedSimpArgs false
open Go.RowKit

/-- As many frames are made as are needed for n bytes. -/
def Runs (n : Int) (z1 : GEnd) (z2 : GEnd) : Prop := ∀ Z : GEnd → GEnd → Prop, (∀ (g : GEnd) (x1 : n ≤ g.out.length), Z g g) → (∀ (g : GEnd) (x1 : g.next = Option.none), Z g g) → (∀ (g q p : GEnd) (x1 : (g.out.length : Int) < n) (x2 : g.next = some q) (x3 : Z q p), Z g p) → Z z1 z2
theorem Runs.stop {n : Int} {g : GEnd} (x1 : n ≤ g.out.length) : Runs n g g := fun Z zk1 zk2 zk3 => zk1 g x1
theorem Runs.none {n : Int} {g : GEnd} (x1 : g.next = Option.none) : Runs n g g := fun Z zk1 zk2 zk3 => zk2 g x1
theorem Runs.step {n : Int} {g q p : GEnd} (x1 : (g.out.length : Int) < n) (x2 : g.next = some q) (x3 : Runs n q p) : Runs n g p := fun Z zk1 zk2 zk3 => zk3 g q p x1 x2 (x3 Z zk1 zk2 zk3)
theorem Runs.ind {n : Int} {motive : ∀ (z1 : GEnd) (z2 : GEnd), Runs n z1 z2 → Prop} (stop : ∀ {g : GEnd} (x1 : n ≤ g.out.length), motive g g (@Runs.stop n g x1)) (none : ∀ {g : GEnd} (x1 : g.next = Option.none), motive g g (@Runs.none n g x1)) (step : ∀ {g q p : GEnd} (x1 : (g.out.length : Int) < n) (x2 : g.next = some q) (x3 : Runs n q p) (ih : motive q p x3), motive g p (@Runs.step n g q p x1 x2 x3)) {z1 : GEnd} {z2 : GEnd} (zt : Runs n z1 z2) : motive z1 z2 zt := (zt (fun z1 z2 => ∃ zt : Runs n z1 z2, motive z1 z2 zt) (fun g x1 => ⟨_, @stop g x1⟩) (fun g x1 => ⟨_, @none g x1⟩) (fun g q p x1 x2 zy => zy.elim fun x3 zx => ⟨_, @step g q p x1 x2 x3 zx⟩)).elim fun _ zx => zx
theorem next_out {g q : GEnd} (hn : g.next = some q) : g.out.length < q.out.length := by
  have hk : ∀ l : List UInt8, ∀ k f s b, l.length < (l ++ lay k f s b).length := fun l k f s b => by rw [List.length_append, lay_length]; omega
  rcases or_some hn with hn | hn
  · unfold GEnd.oFirst at hn
    split at hn
    · cases hn
    · injection hn with hn; subst hn; exact hk _ _ _ _ _
  rcases or_some hn with hn | hn
  · unfold GEnd.oAnswer at hn
    split at hn
    · cases hn
    · injection hn with hn; subst hn; exact hk _ _ _ _ _
  rcases or_some hn with hn | hn
  · unfold GEnd.oSettings at hn
    split at hn
    · cases hn
    · injection hn with hn; subst hn; exact hk _ _ _ _ _
  rcases or_some hn with hn | hn
  · unfold GEnd.oPing at hn
    split at hn
    · injection hn with hn; subst hn; exact hk _ _ _ _ _
    · cases hn
  rcases or_some hn with hn | hn
  · unfold GEnd.oCredit at hn
    split at hn
    · injection hn with hn; subst hn; exact hk _ _ _ _ _
    · cases hn
  rcases or_some hn with hn | hn
  · unfold GEnd.oStream at hn
    cases hd : firstDueN g.m g.K g.L with
    | none => rw [hd] at hn; cases hn
    | some n => rw [hd, Option.map_some] at hn; injection hn with hn; subst hn; exact hk _ _ _ _ _
  · unfold GEnd.oReset at hn
    split at hn
    · cases hn
    · injection hn with hn; subst hn; exact hk _ _ _ _ _
theorem Runs.le {n : Int} {g p : GEnd} (h : Runs n g p) : g.out.length ≤ p.out.length := by
  induction h using Runs.ind with
  | stop _ => exact Nat.le_refl _
  | none _ => exact Nat.le_refl _
  | step _ h1 _ ih => have := next_out h1; omega
theorem next_fault {g q : GEnd} (hn : g.next = some q) : q.m.fault = g.m.fault := by
  rcases or_some hn with hn | hn
  · unfold GEnd.oFirst at hn
    split at hn
    · cases hn
    · injection hn with hn; subst hn; rfl
  rcases or_some hn with hn | hn
  · unfold GEnd.oAnswer at hn
    split at hn
    · cases hn
    · injection hn with hn; subst hn; rfl
  rcases or_some hn with hn | hn
  · unfold GEnd.oSettings at hn
    split at hn
    · cases hn
    · injection hn with hn; subst hn; rfl
  rcases or_some hn with hn | hn
  · unfold GEnd.oPing at hn
    split at hn
    · injection hn with hn; subst hn; rfl
    · cases hn
  rcases or_some hn with hn | hn
  · unfold GEnd.oCredit at hn
    split at hn
    · injection hn with hn; subst hn; rfl
    · cases hn
  rcases or_some hn with hn | hn
  · unfold GEnd.oStream at hn
    cases hd : firstDueN g.m g.K g.L with
    | none => rw [hd] at hn; cases hn
    | some n => rw [hd, Option.map_some] at hn; injection hn with hn; subst hn; rfl
  · unfold GEnd.oReset at hn
    split at hn
    · cases hn
    · injection hn with hn; subst hn; rfl

/-- How much has been made, as it lies. -/
def madeLen (w : World) (eb : Nat) : Nat := match w.cell? ⟨eb, 41, none⟩ with
  | some (.slice _ n _) => n
  | _ => 0
theorem Inv.madeLen {w : World} {eb mb : Nat} {g : GEnd} (h : Inv w eb mb g) : madeLen w eb = g.out.length := by
  obtain ⟨a, c, e⟩ := slice_len h.out
  unfold Go.Proofs.YtdccldbefdfppaaGreatDoor.madeLen
  rw [h.en.c41, e]
def oneIf (v : Value) : Nat := match v with
  | .bool true => 1
  | _ => 0
/-- How Take ends. -/
structure Taken (w w' : World) (eb mb : Nat) (g p : GEnd) (n : Int) (e : Ending) : Prop where
  eq : ∃ s, e = .returned (.slice s (cutN n p.out.length) (cutN n p.out.length)) ∧ BytesIn w' (.slice s (cutN n p.out.length) (cutN n p.out.length)) (p.out.take (cutN n p.out.length))
  next : ∃ g', g'.bare = { p with out := p.out.drop (cutN n p.out.length) } ∧ Next w w' eb mb g g'

theorem taken_of {w w1 w' : World} {eb mb : Nat} {g c : GEnd} {n : Int} {v' : Value} {e : Ending} (hn : Next w w1 eb mb g c) (hc : CutOff w1 w' eb 41 c.m.out v' c.out (cutN n c.out.length) e) : Taken w w' eb mb g c.bare n e := by
  obtain ⟨⟨s, he, hby, -⟩, w2, hw2, hb2, hrow⟩ := hc
  refine ⟨⟨s, he, hby⟩, ?_⟩
  subst hw2
  have hi := hn.inv.below hb2
  have hset : Chg (fun j => j = eb) w2 (w2.setCell ⟨eb, 41, none⟩ v') := chg_set (Chg.refl _ _) rfl
  have hr0 : w2.ownsRow 0 5 1 v' (c.out.drop (cutN n c.out.length)).length ((c.out.drop (cutN n c.out.length)).map B) := by
    rw [List.length_drop]
    exact owns_base hrow (fun _ _ => Nat.zero_le _)
  have hcc : Chg (fun j => j = eb) w1 (w2.setCell ⟨eb, 41, none⟩ v') := (Chg.of_below hb2).trans (hset.mono fun j _ e => Or.inr e)
  have hn2 := hn.inv.onEnd (S := fun j => j = eb) (w' := w2.setCell ⟨eb, 41, none⟩ v') (m' := { c.m with out := v' }) (A' := c.ans) (R' := c.res) (o' := c.out.drop (cutN n c.out.length)) hcc (fun j e => Or.inl e) (EnB.of (blk_set hi.en.blk) rfl) rfl rfl rfl
    (owns_chg hr0 hset (fun j hj e => by rw [e] at hj; exact owns_ne hr0 hi.en.blk (by decide) hj)) (fun j hj => Or.inr (hrow.lt j hj).1) hn.inv.ans (fun _ h => h) (fun _ h => h) hn.inv.res (fun _ h => h)
  refine ⟨_, ?_, hn.trans hn2⟩
  rfl

set_option maxRecDepth 100000 in
set_option maxHeartbeats 1600000 in
theorem i_take (eb mb : Nat) (g p : GEnd) (n : Int) (w : World) (h : Inv w eb mb g) (hf : Fine g) (hlive : g.m.fault = 0) (hr : Runs n g.bare p) (hl : p.out.length ≤ 1073741824) :
    Calls Tryz.prog 41 #[.pointer (some ⟨eb, 0, none⟩), .int .i64 n] w fun e w' => Taken w w' eb mb g p n e := by
  have H := hide h
  have HF := hide hf
  have HR := hide hr
  have HL := hide hlive
  clear h hf hr hlive
  go_enter Tryz.func41, Tryz.ntmps41
  go_wp2
  go_loopw [5] (fun i wr => ∃ (wv : World) (c : GEnd) (mo : Bool), wv = wr ∧ i = .bool mo ∧ Next w wv eb mb g c ∧ Fine c ∧ c.m.fault = 0 ∧ c.out.length ≤ p.out.length ∧ (if mo then Runs n c.bare p else c.bare = p)) (fun i wr => (p.out.length - madeLen wr eb) * 2 + oneIf i)
  case atStart => exact ⟨_, g, true, rfl, rfl, Next.refl H.out, HF.out, HL.out, HR.out.le, HR.out⟩
  case round =>
    obtain ⟨wv, c, mo, hwv, rfl, hnx, hfi, hfa, hle, hmo⟩ := hrel
    subst hwv
    have c41 := hnx.inv.en.c41
    obtain ⟨sa, ca, hsl⟩ := slice_len hnx.inv.out
    rw [hsl] at c41
    have hml := hnx.inv.madeLen
    have HNX := hide hnx
    have HFI := hide hfi
    have HFA := hide hfa
    have HML := hide hml
    have HSL := hide hsl
    have HMO := hide hmo
    clear hnx hfi hfa hml hsl hmo
    have HCUT : Hid (c.bare = p → ∀ wx, wx = wv → Calls Tryz.prog 64 #[.pointer (some ⟨eb, 41, none⟩), .int .i64 n] wx fun e w' => Taken w w' eb mb g p n e) := fun hcp wx hwx => by
      subst hwx
      have hlo : c.out.length ≤ 1073741824 := by omega
      refine (ecut_any eb 41 c.m.out c.out n _ HNX.out.inv.en.c41 (HNX.out.inv.en.fr 41) HNX.out.inv.en.lt HNX.out.inv.out (fun e => owns_ne HNX.out.inv.out HNX.out.inv.en.blk (by decide) e) hlo).mono ?_
      rintro e w' ⟨v', hc⟩
      have := taken_of HNX.out hc
      rw [hcp] at this
      exact this
    cases mo with
    | false =>
      have hcp := HMO.out
      simp only [Bool.false_eq_true, if_false] at hcp
      have HC := hide (HCUT.out hcp _ rfl)
      clear hcp HCUT
      go_wp2_with fail
      refine HC.out.mono ?_
      intro e w' ht
      obtain ⟨s, he, -⟩ := ht.eq
      have HT := hide ht
      clear ht
      subst he
      go_wp2
      go_ret
      exact HT.out
    | true =>
      have hru := HMO.out
      simp only [if_true] at hru
      have HRU := hide hru
      clear hru HMO
      by_cases hlt : (c.out.length : Int) < n
      · have hlo : c.out.length ≤ 1073741824 := by omega
        have hmk := i_makeNext eb mb c wv HNX.out.inv HFI.out hlo HFA.out
        have HMK := hide hmk
        clear hmk HCUT
        go_wp2_with fail
        refine HMK.out.mono ?_
        intro e w1 hm
        have hnb := next_bare c
        cases hcn : c.next with
        | none =>
          rw [hcn] at hm hnb
          obtain ⟨rfl, hb⟩ := hm
          have hcp : c.bare = p := by
            cases HRU.out using Runs.ind with
            | stop h1 => rfl
            | none h1 => rfl
            | step h1 h2 h3 => rw [← hnb] at h2; cases h2
          have hml1 : madeLen w1 eb = c.out.length := (HNX.out.then_below hb).inv.madeLen
          have HB := hide hb
          have HCP := hide hcp
          clear hb hcp hnb hcn
          go_wp2
          all_goals go_roundw
          case rel => exact ⟨_, c, false, rfl, rfl, HNX.out.then_below HB.out, HFI.out, HFA.out, hle, by simpa using HCP.out⟩
          case measure => rw [hml1, HML.out]; simp [oneIf]
        | some q =>
          rw [hcn] at hm hnb
          obtain ⟨rfl, g', hg', hn'⟩ := hm
          have hq := HFI.out.next hcn
          have hgo : g'.out = q.out := by have := congrArg GEnd.out hg'; exact this
          have hfi' : Fine g' := Fine.of_bare (by rw [hg']; exact hq.bare)
          have hfa' : g'.m.fault = 0 := by
            have e1 : g'.m.fault = g'.bare.m.fault := rfl
            rw [e1, hg']
            show q.m.fault = 0
            rw [next_fault hcn, HFA.out]
          have hru' : Runs n g'.bare p := by
            rw [hg']
            simp only [Option.map_some] at hnb
            cases HRU.out using Runs.ind with
            | stop h1 => exact absurd (show n ≤ (c.out.length : Int) from h1) (by omega)
            | none h1 => rw [← hnb] at h1; cases h1
            | step h1 h2 h3 =>
              rw [← hnb] at h2
              injection h2 with h2
              rw [h2]
              exact h3
          have hlt' := next_out hcn
          have hml1 : madeLen w1 eb = g'.out.length := hn'.inv.madeLen
          have hle' := hru'.le
          rw [show g'.bare.out = g'.out from rfl] at hle'
          rw [hgo] at hml1 hle'
          have HN' := hide hn'
          have HFI' := hide hfi'
          have HFA' := hide hfa'
          have HRU' := hide hru'
          have HGO := hide hgo
          clear hn' hfi' hfa' hru' hnb hcn hq hg' hgo
          go_wp2
          all_goals go_roundw
          case rel => exact ⟨_, g', true, rfl, rfl, HNX.out.trans HN'.out, HFI'.out, HFA'.out, by rw [HGO.out]; exact hle', by simpa using HRU'.out⟩
          case measure => rw [hml1, HML.out]; simp [oneIf]; omega
      · have hcp : c.bare = p := by
          cases HRU.out using Runs.ind with
          | stop h1 => rfl
          | none h1 => rfl
          | step h1 h2 h3 => exact absurd (show (c.out.length : Int) < n from h1) hlt
        have HC := hide (HCUT.out hcp _ rfl)
        clear hcp HCUT HRU
        go_wp2_with fail
        refine HC.out.mono ?_
        intro e w' ht
        obtain ⟨s, he, -⟩ := ht.eq
        have HT := hide ht
        clear ht
        subst he
        go_wp2
        go_ret
        exact HT.out
set_option maxHeartbeats 400000 in
theorem x_take (eb mb : Nat) (g p : GEnd) (n : Int) (w : World) (h : Inv w eb mb g) (hf : Fine g) (hlive : g.m.fault = 0) (hr : Runs n g.bare p) (hl : p.out.length ≤ 1073741824) :
    Calls Tryz.prog 19 #[.pointer (some ⟨eb, 0, none⟩), .int .i64 n] w fun e w' => Taken w w' eb mb g p n e := by
  have HC := hide (i_take eb mb g p n w h hf hlive hr hl)
  clear h hf hr hl hlive
  go_enter Tryz.func19, Tryz.ntmps19
  go_wp2_with fail
  refine HC.out.mono ?_
  intro e w' ht
  obtain ⟨s, he, -⟩ := ht.eq
  have HT := hide ht
  clear ht
  subst he
  go_wp2
  go_ret
  exact HT.out
end Go.Proofs.YtdccldbefdfppaaGreatDoor
/-
  Package ends: makeHeaders, whatever is to be announced; makeData; makeNext.
-/
namespace Go.Proofs.YtdccldbefdfppaaGreatDoor
set_option linter.unusedVariables false
set_option linter.unusedSimpArgs false
open Go.RowKit

set_option maxRecDepth 100000 in
set_option maxHeartbeats 1600000 in
theorem makeHeaders_any (eb : Nat) (m : EndM) (L : List Str) (w : World) (Q : Str → World → Prop) (h : EnB w eb m) (ho : OpenS w m.opn L) (hL : L.length ≤ 1048576) (ha : ∀ p ∈ L, p.2.announced = false → Calls Tryz.prog 117 #[.pointer (some ⟨eb, 0, none⟩), .pointer (some ⟨p.1, 0, none⟩)] w fun e w' => e = .returned (.tuple #[]) ∧ Q p w') :
    Calls Tryz.prog 89 #[.pointer (some ⟨eb, 0, none⟩)] w fun e w' => match L.find? (fun p => !p.2.announced) with
      | none => e = .returned (.bool false) ∧ Below w.heap.size w w'
      | some p => e = .returned (.bool true) ∧ Q p w' := by
  obtain ⟨sr, cr, hv⟩ := slice_len ho.row
  have c23 := h.c23
  rw [hv] at c23
  rw [hv] at ho
  have HO := hide ho
  have HA := hide ha
  generalize hR : L.find? (fun p => !p.2.announced) = R
  have HR := hide hR
  clear h ho ha hv hR
  go_enter Tryz.func89, Tryz.ntmps89
  go_wp2
  go_loopw [11] (fun i wr => ∃ k : Nat, i = .int .i64 (k : Int) ∧ k ≤ L.length ∧ wr = w ∧ (L.drop k).find? (fun p => !p.2.announced) = R) (fun i _ => L.length - (intOf i).toNat)
  case atStart => exact ⟨0, rfl, Nat.zero_le _, rfl, HR.out⟩
  case round =>
    obtain ⟨k, rfl, hk, rfl, hnx⟩ := hrel
    by_cases hlt : k < L.length
    · obtain ⟨g, c, hv, hcell, hcap⟩ := HO.out.at hlt
      simp only [Value.slice.injEq] at hv
      obtain ⟨rfl, _, rfl⟩ := hv
      have hm := List.getElem_mem hlt
      have s7 := (HO.out.st _ hm).c7
      rw [List.drop_eq_getElem_cons hlt, List.find?_cons] at hnx
      have HAN := hide (HA.out _ hm)
      cases han : L[k].2.announced with
      | true =>
        rw [han] at s7
        simp only [han, Bool.not_true] at hnx
        generalize L[k].1 = sb at hcell s7
        have HNX := hide hnx
        clear hm hnx HAN han
        go_wp2
        all_goals go_roundw
        case rel => exact ⟨k + 1, by go_num, by omega, trivial, HNX.out⟩
        case measure => simp [intOf]; omega
      | false =>
        rw [han] at s7
        simp only [han, Bool.not_false] at hnx
        have HAC := hide (HAN.out han)
        subst hnx
        obtain ⟨p, hp⟩ : ∃ p, p = L[k] := ⟨_, rfl⟩
        rw [← hp] at hcell s7 HAC
        obtain ⟨sb, st⟩ := p
        simp only at hcell s7 HAC
        have HP := hide hp
        clear hm HAN han HR hp
        go_wp2_with fail
        refine HAC.out.mono ?_
        rintro e w1 ⟨rfl, hq⟩
        have HQ := hide hq
        clear hq
        go_wp2
        go_ret
        have hq := HQ.out
        rw [HP.out] at hq
        exact ⟨rfl, hq⟩
    · have hke : k = L.length := by omega
      rw [hke, List.drop_length, List.find?_nil] at hnx
      subst hnx
      go_wp2
      go_ret
      exact ⟨rfl, Below.refl _ _⟩
end Go.Proofs.YtdccldbefdfppaaGreatDoor
/-
  Package ends: what an end makes next, announcing and sending too.
-/
namespace Go.Proofs.YtdccldbefdfppaaGreatDoor
set_option linter.unusedVariables false
set_option linter.unusedSimpArgs false
open Go.RowKit

/-- The first open stream that is not announced. -/
def firstNew (K : List GSt) : List Int → Option Int
  | [] => none
  | n :: r => if (atN K n).st.announced then firstNew K r else some n
/-- The open stream whose turn it is. -/
def nextN (m : EndM) (K : List GSt) : List Int → Option Int → Option Int
  | [], b => b
  | n :: r, b => if m.hasD (atN K n).st (atN K n).wa.length then if m.lastData < (atN K n).st.number then some n else nextN m K r (b.or (some n)) else nextN m K r b
def GEnd.oHead (g : GEnd) : Option GEnd := (firstNew g.K g.L).map fun n => { g with K := updN n GSt.told g.K, out := g.out ++ lay 1 4 n [] }
def GEnd.oData (g : GEnd) : Option GEnd := (nextN g.m g.K g.L none).map fun n => g.goes (atN g.K n)
def GEnd.nextG (g : GEnd) : Option GEnd := g.next.or (g.oHead.or g.oData)

theorem firstNew_find (K : List GSt) : ∀ L : List Int, (openS K L).find? (fun p => !p.2.announced) = (firstNew K L).map fun n => (atN K n).str
  | [] => rfl
  | n :: r => by
    show List.find? _ ((atN K n).str :: openS K r) = _
    rw [List.find?_cons, firstNew_find K r, firstNew]
    show (match !(atN K n).st.announced with | true => _ | false => _) = _
    cases (atN K n).st.announced <;> rfl
theorem firstNew_mem {K : List GSt} : ∀ {L : List Int} {n : Int}, firstNew K L = some n → n ∈ L ∧ (atN K n).st.announced = false
  | [], _, h => by cases h
  | k :: r, n, h => by
    rw [firstNew] at h
    split at h
    · exact ⟨List.mem_cons_of_mem _ (firstNew_mem h).1, (firstNew_mem h).2⟩
    · rename_i hk
      injection h with h; rw [← h]; exact ⟨List.mem_cons_self, by simpa using hk⟩
theorem firstNew_bare (K : List GSt) : ∀ L : List Int, firstNew (K.map GSt.bare) L = firstNew K L
  | [] => rfl
  | n :: r => by
    rw [firstNew, firstNew, atN_bare, firstNew_bare K r]
    rfl
theorem nextN_bare (m : EndM) (K : List GSt) : ∀ (L : List Int) (b : Option Int), nextN m.bare (K.map GSt.bare) L b = nextN m K L b
  | [], _ => rfl
  | n :: r, b => by
    rw [nextN, nextN, atN_bare, nextN_bare m K r, nextN_bare m K r]
    rfl
theorem nextN_mem {m : EndM} {K : List GSt} : ∀ {L : List Int} {b : Option Int} {n : Int}, nextN m K L b = some n → b = some n ∨ (n ∈ L ∧ m.hasD (atN K n).st (atN K n).wa.length = true)
  | [], _, _, h => Or.inl h
  | k :: r, b, n, h => by
    rw [nextN] at h
    split at h
    · rename_i hk
      split at h
      · injection h with h; rw [← h]; exact Or.inr ⟨List.mem_cons_self, hk⟩
      · rcases nextN_mem h with h | h
        · cases b with
          | none => simp at h; rw [← h]; exact Or.inr ⟨List.mem_cons_self, hk⟩
          | some x => exact Or.inl (by simpa using h)
        · exact Or.inr ⟨List.mem_cons_of_mem _ h.1, h.2⟩
    · rcases nextN_mem h with h | h
      · exact Or.inl h
      · exact Or.inr ⟨List.mem_cons_of_mem _ h.1, h.2⟩
theorem nextN_none {m : EndM} {K : List GSt} : ∀ {L : List Int} {b : Option Int}, nextN m K L b = none → ∀ n ∈ L, m.hasD (atN K n).st (atN K n).wa.length = false
  | [], _, _, _, h => by cases h
  | k :: r, b, h, n, hn => by
    rw [nextN] at h
    split at h
    · split at h
      · cases h
      · exfalso
        clear hn
        have : ∀ (L : List Int) (x : Int), nextN m K L (some x) ≠ none := by
          intro L
          induction L with
          | nil => intro x h; cases h
          | cons y t ih =>
            intro x h
            rw [nextN] at h
            split at h
            · split at h
              · cases h
              · exact ih _ (by simpa using h)
            · exact ih _ h
        cases b with
        | none => exact this _ _ (by simpa using h)
        | some x => exact this _ _ (by simpa using h)
    · rename_i hk
      rcases List.mem_cons.1 hn with rfl | hn
      · simpa using hk
      · exact nextN_none h n hn
theorem nextS_openS (m : EndM) (K : List GSt) : ∀ (L : List Int) (b : Option Int), (∀ n ∈ L, lenV' (atN K n).st.waiting = (atN K n).wa.length) → nextS m.lastData (fun p => m.hasD p.2 (lenV' p.2.waiting)) (openS K L) (b.map fun n => (atN K n).sb) = (nextN m K L b).map fun n => (atN K n).sb
  | [], _, _ => rfl
  | n :: r, b, h => by
    show nextS _ _ ((atN K n).str :: openS K r) _ = _
    have ih := nextS_openS m K r
    have hr : ∀ n ∈ r, lenV' (atN K n).st.waiting = (atN K n).wa.length := fun n hn => h n (List.mem_cons_of_mem _ hn)
    rw [nextS, nextN]
    show (if m.hasD (atN K n).st (lenV' (atN K n).st.waiting) = true then (if m.lastData < (atN K n).st.number then some (atN K n).sb else nextS m.lastData _ (openS K r) ((b.map fun n => (atN K n).sb).or (some (atN K n).sb))) else nextS m.lastData _ (openS K r) (b.map fun n => (atN K n).sb)) = _
    rw [h n List.mem_cons_self]
    by_cases h1 : m.hasD (atN K n).st (atN K n).wa.length = true
    · rw [if_pos h1, if_pos h1]
      by_cases h2 : m.lastData < (atN K n).st.number
      · rw [if_pos h2, if_pos h2]
        rfl
      · rw [if_neg h2, if_neg h2, ← ih (b.or (some n)) hr]
        cases b <;> rfl
    · rw [if_neg h1, if_neg h1]
      exact ih b hr
theorem goes_bare (g : GEnd) (s : GSt) : (g.goes s).bare = g.bare.goes s.bare := by
  unfold GEnd.goes GEnd.bare
  simp only [GEnd.mk.injEq, and_true]
  refine ⟨rfl, ?_, trivial, rfl⟩
  exact updN_bare _ (fun x => x.went (g.m.goN s) (g.m.goE s)) (fun x => rfl) g.K
theorem nextG_bare (g : GEnd) : g.nextG.map GEnd.bare = g.bare.nextG := by
  have h1 : g.oHead.map GEnd.bare = g.bare.oHead := by
    unfold GEnd.oHead
    rw [show firstNew g.bare.K g.bare.L = firstNew g.K g.L from firstNew_bare _ _]
    cases firstNew g.K g.L with
    | none => rfl
    | some n =>
      simp only [Option.map_some]
      unfold GEnd.bare
      simp only [updN_bare n GSt.told (fun s => rfl)]
  have h2 : g.oData.map GEnd.bare = g.bare.oData := by
    unfold GEnd.oData
    rw [show nextN g.bare.m g.bare.K g.bare.L none = nextN g.m g.K g.L none from nextN_bare _ _ _ _]
    cases nextN g.m g.K g.L none with
    | none => rfl
    | some n =>
      simp only [Option.map_some]
      rw [goes_bare, show g.bare.K = g.K.map GSt.bare from rfl, atN_bare]
  unfold GEnd.nextG
  simp only [or_map, h1, h2, next_bare]

theorem nilU_idem (v : Value) : nilU (nilU v) = nilU v := by
  have h : nilU v = .slice none 0 0 ∨ nilU v = .tuple #[] := by
    unfold nilU
    split
    · exact Or.inl rfl
    · exact Or.inr rfl
  rcases h with h | h <;> (rw [h]; rfl)
theorem headV_idem (v : Value) : headV (headV v) = headV v := by
  have h : headV v = .slice none 0 0 ∨ headV v = .slice none 0 1 ∨ headV v = .tuple #[] := by
    unfold headV
    split
    · exact Or.inl rfl
    · exact Or.inr (Or.inl rfl)
    · exact Or.inr (Or.inr rfl)
  rcases h with h | h | h <;> (rw [h]; rfl)
theorem FineB.bare {g : GEnd} (h : FineB g) : FineB g.bare where
  greets := h.greets
  wanted := h.wanted
  owed := h.owed
  receive := h.receive
  pnum := h.pnum
  own := h.own
  other := h.other
  ans := fun a ha => by obtain ⟨b, hb, rfl⟩ := List.mem_map.1 ha; exact h.ans b hb
  res := h.res
  st := fun s hs => by obtain ⟨b, hb, rfl⟩ := List.mem_map.1 hs; exact h.st b hb
  few := h.few
theorem FineB.of_bare {g : GEnd} (h : FineB g.bare) : FineB g where
  greets := h.greets
  wanted := h.wanted
  owed := h.owed
  receive := h.receive
  pnum := h.pnum
  own := h.own
  other := h.other
  ans := fun a ha => h.ans a.bare (List.mem_map.2 ⟨a, ha, rfl⟩)
  res := h.res
  st := fun s hs => h.st s.bare (List.mem_map.2 ⟨s, hs, rfl⟩)
  few := h.few
/-- As Fine, but streams may be announced, and bytes sent. -/
structure FineG (g : GEnd) : Prop where
  b : FineB g
  send : -1099511627776 ≤ g.m.send ∧ g.m.send ≤ 1099511627776
  pw : nilU g.m.pwait = .slice none 0 0
  nw : ∀ s ∈ g.K, s.st.announced = false → headV s.st.heads ≠ .tuple #[] ∧ s.st.last = false
  wa : ∀ s ∈ g.K, s.wa.length ≤ 1048576 ∧ s.st.hasAll = false ∧ s.st.reset = 0
theorem FineG.bare {g : GEnd} (h : FineG g) : FineG g.bare where
  b := h.b.bare
  send := h.send
  pw := (nilU_idem _).trans h.pw
  nw := fun s hs ha => by
    obtain ⟨b, hb, rfl⟩ := List.mem_map.1 hs
    refine ⟨fun e => (h.nw b hb ha).1 ((headV_idem _).symm.trans e), (h.nw b hb ha).2⟩
  wa := fun s hs => by obtain ⟨b, hb, rfl⟩ := List.mem_map.1 hs; exact h.wa b hb
theorem FineG.of_bare {g : GEnd} (h : FineG g.bare) : FineG g where
  b := h.b.of_bare
  send := h.send
  pw := (nilU_idem _).symm.trans h.pw
  nw := fun s hs ha => by
    have := h.nw s.bare (List.mem_map.2 ⟨s, hs, rfl⟩) ha
    exact ⟨fun e => this.1 ((headV_idem _).trans e), this.2⟩
  wa := fun s hs => h.wa s.bare (List.mem_map.2 ⟨s, hs, rfl⟩)
/-- What of the streams stays. -/
theorem FineG.of_eq {g q : GEnd} (h : FineG g) (hB : FineB q) (h1 : q.m.send = g.m.send) (h2 : q.m.pwait = g.m.pwait) (h3 : ∀ s ∈ q.K, ∃ t ∈ g.K, s.st.announced = t.st.announced ∧ s.st.heads = t.st.heads ∧ s.st.last = t.st.last ∧ s.wa = t.wa ∧ s.st.hasAll = t.st.hasAll ∧ s.st.reset = t.st.reset) : FineG q where
  b := hB
  send := by rw [h1]; exact h.send
  pw := by rw [h2]; exact h.pw
  nw := fun s hs ha => by
    obtain ⟨t, ht, e1, e2, e3, e4, e5, e6⟩ := h3 s hs
    rw [e2, e3]
    exact h.nw t ht (e1 ▸ ha)
  wa := fun s hs => by
    obtain ⟨t, ht, e1, e2, e3, e4, e5, e6⟩ := h3 s hs
    rw [e4, e5, e6]
    exact h.wa t ht
theorem goN_le (m : EndM) (s : GSt) : (m.goN s : Int) ≤ 64 ∧ m.goN s ≤ s.wa.length ∧ (0 < m.goN s → (m.goN s : Int) ≤ m.other + s.st.send ∧ (m.goN s : Int) ≤ m.send) := by
  unfold EndM.goN cutN
  omega
theorem atN_or (K : List GSt) (n : Int) : atN K n = noSt ∨ atN K n ∈ K := by
  unfold atN
  cases h : K.find? fun s => s.st.number == n with
  | none => exact Or.inl rfl
  | some s => exact Or.inr (List.mem_of_find?_eq_some h)
theorem FineG.next {g q : GEnd} (h : FineG g) (hnn : (g.K.map fun s => s.st.number).Nodup) (hn : g.nextG = some q) : FineG q := by
  have same : ∀ s ∈ g.K, ∃ t ∈ g.K, s.st.announced = t.st.announced ∧ s.st.heads = t.st.heads ∧ s.st.last = t.st.last ∧ s.wa = t.wa ∧ s.st.hasAll = t.st.hasAll ∧ s.st.reset = t.st.reset := fun s hs => ⟨s, hs, rfl, rfl, rfl, rfl, rfl, rfl⟩
  have b := h.b
  rcases or_some hn with hn | hn
  · rcases or_some hn with hn | hn
    · unfold GEnd.oFirst at hn
      split at hn
      · cases hn
      · injection hn with hn; subst hn
        exact h.of_eq ⟨b.greets, b.wanted, b.owed, b.receive, b.pnum, b.own, b.other, b.ans, b.res, b.st, b.few⟩ rfl rfl same
    rcases or_some hn with hn | hn
    · unfold GEnd.oAnswer at hn
      split at hn
      · cases hn
      · rename_i a r ha
        injection hn with hn; subst hn
        exact h.of_eq ⟨b.greets, b.wanted, b.owed, b.receive, b.pnum, b.own, b.other, fun x hx => b.ans x (by rw [ha]; exact List.mem_cons_of_mem _ hx), b.res, b.st, b.few⟩ rfl rfl same
    rcases or_some hn with hn | hn
    · unfold GEnd.oSettings at hn
      split at hn
      · cases hn
      · injection hn with hn; subst hn
        exact h.of_eq ⟨b.greets, b.wanted, b.owed, b.receive, b.pnum, b.own, b.other, b.ans, b.res, b.st, b.few⟩ rfl rfl same
    rcases or_some hn with hn | hn
    · unfold GEnd.oPing at hn
      split at hn
      · injection hn with hn; subst hn
        exact h.of_eq ⟨b.greets, b.wanted, b.owed, b.receive, b.pnum, b.own, b.other, b.ans, b.res, b.st, b.few⟩ rfl rfl same
      · cases hn
    rcases or_some hn with hn | hn
    · unfold GEnd.oCredit at hn
      split at hn
      · injection hn with hn; subst hn
        have h1 := b.owed; have h2 := b.receive
        exact h.of_eq ⟨b.greets, b.wanted, ⟨by show (0 : Int) ≤ 0; omega, by show (0 : Int) ≤ _; omega⟩, ⟨by show _ ≤ g.m.receive + g.m.owed; omega, by show g.m.receive + g.m.owed + 0 ≤ _; omega⟩, b.pnum, b.own, b.other, b.ans, b.res, b.st, b.few⟩ rfl rfl same
      · cases hn
    rcases or_some hn with hn | hn
    · unfold GEnd.oStream at hn
      cases hd : firstDueN g.m g.K g.L with
      | none => rw [hd] at hn; cases hn
      | some n =>
        rw [hd, Option.map_some] at hn
        injection hn with hn; subst hn
        refine h.of_eq ⟨b.greets, b.wanted, b.owed, b.receive, b.pnum, b.own, b.other, b.ans, b.res, ?_, b.few⟩ rfl rfl ?_
        · intro s hs
          obtain ⟨x, hx, rfl⟩ := List.mem_map.1 hs
          have hq := b.st x hx
          by_cases e : x.st.number = n
          · simp only [e, if_true]
            obtain ⟨q1, q2, q3, q4⟩ := hq
            exact ⟨⟨by show _ ≤ x.st.receive + x.st.owed; omega, by show x.st.receive + x.st.owed + 0 ≤ _; omega⟩, ⟨by show (0 : Int) ≤ 0; omega, by show (0 : Int) ≤ _; omega⟩, q3, q4⟩
          · simp only [e, if_false]
            exact hq
        · intro s hs
          obtain ⟨x, hx, rfl⟩ := List.mem_map.1 hs
          refine ⟨x, hx, ?_⟩
          by_cases e : x.st.number = n
          · simp [e, GSt.granted, StM.granted]
          · simp [e]
    · unfold GEnd.oReset at hn
      split at hn
      · cases hn
      · rename_i n r hr
        injection hn with hn; subst hn
        exact h.of_eq ⟨b.greets, b.wanted, b.owed, b.receive, b.pnum, b.own, b.other, b.ans, fun x hx => b.res x (by rw [hr]; exact List.mem_cons_of_mem _ hx), b.st, b.few⟩ rfl rfl same
  rcases or_some hn with hn | hn
  · unfold GEnd.oHead at hn
    cases hd : firstNew g.K g.L with
    | none => rw [hd] at hn; cases hn
    | some n =>
      rw [hd, Option.map_some] at hn
      injection hn with hn; subst hn
      refine ⟨⟨b.greets, b.wanted, b.owed, b.receive, b.pnum, b.own, b.other, b.ans, b.res, ?_, b.few⟩, h.send, h.pw, ?_, ?_⟩
      · intro s hs
        obtain ⟨x, hx, rfl⟩ := List.mem_map.1 hs
        have hq := b.st x hx
        split
        · exact hq
        · exact hq
      · intro s hs ha
        obtain ⟨x, hx, rfl⟩ := List.mem_map.1 hs
        have hq := h.nw x hx
        split at ha
        · cases ha
        · rename_i e
          simp only [e, if_false]
          exact hq ha
      · intro s hs
        obtain ⟨x, hx, rfl⟩ := List.mem_map.1 hs
        have hq := h.wa x hx
        split
        · exact hq
        · exact hq
  · unfold GEnd.oData at hn
    cases hd : nextN g.m g.K g.L none with
    | none => rw [hd] at hn; cases hn
    | some n =>
      rw [hd, Option.map_some] at hn
      injection hn with hn; subst hn
      have hk := goN_le g.m (atN g.K n)
      have hse := h.send
      refine ⟨⟨b.greets, b.wanted, b.owed, b.receive, b.pnum, b.own, b.other, b.ans, b.res, ?_, b.few⟩, ?_, h.pw, ?_, ?_⟩
      · intro s hs
        obtain ⟨x, hx, rfl⟩ := List.mem_map.1 hs
        have hq := b.st x hx
        split
        · rename_i e
          obtain ⟨q1, q2, q3, q4⟩ := hq
          refine ⟨q1, q2, q3, ?_⟩
          show _ ≤ x.st.send - (g.m.goN (atN g.K n) : Int) ∧ x.st.send - (g.m.goN (atN g.K n) : Int) ≤ _
          rcases atN_or g.K n with h0 | h0
          · have : (atN g.K n).wa.length = 0 := by rw [h0]; rfl
            omega
          · have hx2 : atN g.K n = x := inj_nd (fun s : GSt => s.st.number) hnn h0 hx e.symm
            have ho := b.other
            rw [hx2] at hk ⊢
            omega
        · exact hq
      · show _ ≤ g.m.send - (g.m.goN (atN g.K n) : Int) ∧ g.m.send - (g.m.goN (atN g.K n) : Int) ≤ _
        omega
      · intro s hs ha
        obtain ⟨x, hx, rfl⟩ := List.mem_map.1 hs
        have hq := h.nw x hx
        split at ha
        · rename_i e
          simp only [e, if_true]
          exact hq ha
        · rename_i e
          simp only [e, if_false]
          exact hq ha
      · intro s hs
        obtain ⟨x, hx, rfl⟩ := List.mem_map.1 hs
        have hq := h.wa x hx
        split
        · refine ⟨?_, hq.2⟩
          show (x.wa.drop _).length ≤ _
          rw [List.length_drop]
          omega
        · exact hq
end Go.Proofs.YtdccldbefdfppaaGreatDoor
/-
  Package ends: makeNext, announcing and sending too.
-/
namespace Go.Proofs.YtdccldbefdfppaaGreatDoor
set_option linter.unusedVariables false
set_option linter.unusedSimpArgs false
open Go.RowKit

section
variable {w w' : World} {eb mb : Nat} {g : GEnd} {e : Ending}
theorem i_makeHeadersG (h : Inv w eb mb g) (hf : FineG g) (hl : g.out.length ≤ 1073741824) : Calls Tryz.prog 89 #[.pointer (some ⟨eb, 0, none⟩)] w fun e w' => MadeO w w' eb mb g g.oHead e := by
  have hp := nilU_nil hf.pw
  refine (makeHeaders_any eb g.m (openS g.K g.L) w (fun p w' => ∃ g', g'.bare = ({ g with K := updN p.2.number (fun x => x.told) g.K, out := g.out ++ lay 1 4 p.2.number [] } : GEnd).bare ∧ Next w w' eb mb g g') h.en h.open (by rw [openS_length]; exact hf.b.few) (fun p hp' ha => ?_)).mono ?_
  · obtain ⟨n, hn, rfl⟩ := List.mem_map.1 hp'
    obtain ⟨hmem, hnum⟩ := h.at hn
    obtain ⟨h1, h2⟩ := hf.nw _ hmem ha
    obtain ⟨a, c, hh⟩ := headV_none h1
    exact announce_none eb mb g (atN g.K n) a c w h hmem hf.b.greets hl (hf.b.st _ hmem).2.2.1 hp hh h2
  · intro e w' hm
    rw [firstNew_find] at hm
    unfold GEnd.oHead
    cases hd : firstNew g.K g.L with
    | none => rw [hd] at hm; exact hm
    | some n =>
      rw [hd] at hm
      obtain ⟨he, g', h1, h2⟩ := hm
      refine ⟨he, g', ?_, h2⟩
      have hnum : (atN g.K n).str.2.number = n := (h.at (firstNew_mem hd).1).2
      rw [h1, hnum]
theorem i_makeDataG (h : Inv w eb mb g) (hf : FineG g) (hl : g.out.length ≤ 1073741824) : Calls Tryz.prog 90 #[.pointer (some ⟨eb, 0, none⟩)] w fun e w' => MadeO w w' eb mb g g.oData e := by
  have ho := hf.b.other
  have hlen : ∀ s ∈ g.K, lenV' s.st.waiting = s.wa.length ∧ s.st.some? s.wa.length := fun s hs => by
    obtain ⟨a, c, e⟩ := slice_len (h.wa s hs)
    exact ⟨by rw [e]; rfl, a, c, e⟩
  have hwv : ∀ p ∈ openS g.K g.L, p.2.some? (lenV' p.2.waiting) := fun p hp => by
    obtain ⟨n, hn, rfl⟩ := List.mem_map.1 hp
    obtain ⟨hmem, hnum⟩ := h.at hn
    obtain ⟨e1, e2⟩ := hlen _ hmem
    show (atN g.K n).st.some? (lenV' (atN g.K n).st.waiting)
    rw [e1]; exact e2
  have hse : ∀ p ∈ openS g.K g.L, -1099511627776 ≤ p.2.send ∧ p.2.send ≤ 1099511627776 := fun p hp => by
    obtain ⟨n, hn, rfl⟩ := List.mem_map.1 hp
    exact (hf.b.st _ (h.at hn).1).2.2.2
  have hns := nextS_openS g.m g.K g.L none (fun n hn => (hlen _ (h.at hn).1).1)
  unfold GEnd.oData
  cases hd : nextN g.m g.K g.L none with
  | none =>
    rw [hd] at hns
    exact makeData_no eb g.m (openS g.K g.L) (fun p => lenV' p.2.waiting) w h.en h.open (by rw [openS_length]; exact hf.b.few) hwv (by omega) (by omega) (fun p hp => by have := hse p hp; omega) hns
  | some n =>
    rw [hd] at hns
    have hn : n ∈ g.L := by
      rcases nextN_mem hd with h | h
      · cases h
      · exact h.1
    obtain ⟨hmem, hnum⟩ := h.at hn
    obtain ⟨w1, w2, w3⟩ := hf.wa _ hmem
    exact makeData_yes eb mb g (atN g.K n) w h hmem hf.b.few hf.b.greets hl w1 (hf.b.st _ hmem).2.2.1 w2 w3 hwv ho hse (hf.b.st _ hmem).2.2.2 hf.send hns
end

set_option maxRecDepth 100000 in
set_option maxHeartbeats 1600000 in
theorem i_makeNextG (eb mb : Nat) (g : GEnd) (w : World) (h : Inv w eb mb g) (hf : FineG g) (hl : g.out.length ≤ 1073741824) (hlive : g.m.fault = 0) :
    Calls Tryz.prog 63 #[.pointer (some ⟨eb, 0, none⟩)] w fun e w' => MadeO w w' eb mb g g.nextG e := by
  have HD := hide (isDead_any eb g.m w h.en)
  have hb : (g.m.fault == 0) = true := by simp [hlive]
  rw [hb] at HD
  have H1 := hide (i_makeFirst h hf.b hl)
  have H2 : Hid (∀ wx, Below w.heap.size w wx → Calls Tryz.prog 83 #[.pointer (some ⟨eb, 0, none⟩)] wx fun e w' => MadeO w w' eb mb g g.oAnswer e) := fun wx hx => (i_makeAnswer eb mb g wx (h.below hx) hf.b hl).mono fun e w' hm => hm.pre hx
  have H3 : Hid (∀ wx, Below w.heap.size w wx → Calls Tryz.prog 84 #[.pointer (some ⟨eb, 0, none⟩)] wx fun e w' => MadeO w w' eb mb g g.oSettings e) := fun wx hx => (i_makeSettings (h.below hx) hf.b hl).mono fun e w' hm => hm.pre hx
  have H4 : Hid (∀ wx, Below w.heap.size w wx → Calls Tryz.prog 85 #[.pointer (some ⟨eb, 0, none⟩)] wx fun e w' => MadeO w w' eb mb g g.oPing e) := fun wx hx => (i_makePing (h.below hx) hf.b hl).mono fun e w' hm => hm.pre hx
  have H5 : Hid (∀ wx, Below w.heap.size w wx → Calls Tryz.prog 86 #[.pointer (some ⟨eb, 0, none⟩)] wx fun e w' => MadeO w w' eb mb g g.oCredit e) := fun wx hx => (i_makeCredit (h.below hx) hf.b hl).mono fun e w' hm => hm.pre hx
  have H6 : Hid (∀ wx, Below w.heap.size w wx → Calls Tryz.prog 87 #[.pointer (some ⟨eb, 0, none⟩)] wx fun e w' => MadeO w w' eb mb g g.oStream e) := fun wx hx => (i_makeStreamCredit (h.below hx) hf.b hl).mono fun e w' hm => hm.pre hx
  have H7 : Hid (∀ wx, Below w.heap.size w wx → Calls Tryz.prog 88 #[.pointer (some ⟨eb, 0, none⟩)] wx fun e w' => MadeO w w' eb mb g g.oReset e) := fun wx hx => (i_makeReset eb mb g wx (h.below hx) hf.b hl).mono fun e w' hm => hm.pre hx
  have H8 : Hid (∀ wx, Below w.heap.size w wx → Calls Tryz.prog 89 #[.pointer (some ⟨eb, 0, none⟩)] wx fun e w' => MadeO w w' eb mb g g.oHead e) := fun wx hx => (i_makeHeadersG (h.below hx) hf hl).mono fun e w' hm => hm.pre hx
  have H9 : Hid (∀ wx, Below w.heap.size w wx → Calls Tryz.prog 90 #[.pointer (some ⟨eb, 0, none⟩)] wx fun e w' => MadeO w w' eb mb g g.oData e) := fun wx hx => (i_makeDataG (h.below hx) hf hl).mono fun e w' hm => hm.pre hx
  have HO : Hid (g.nextG = (g.oFirst.or (g.oAnswer.or (g.oSettings.or (g.oPing.or (g.oCredit.or (g.oStream.or g.oReset)))))).or (g.oHead.or g.oData)) := (rfl : g.nextG = _)
  clear h hf hl hlive hb
  generalize g.nextG = N at *
  generalize g.oFirst = o1 at *
  generalize g.oAnswer = o2 at *
  generalize g.oSettings = o3 at *
  generalize g.oPing = o4 at *
  generalize g.oCredit = o5 at *
  generalize g.oStream = o6 at *
  generalize g.oReset = o7 at *
  generalize g.oHead = o8 at *
  generalize g.oData = o9 at *
  go_enter Tryz.func63, Tryz.ntmps63
  go_wp2_with fail
  refine HD.out.mono ?_
  rintro e w1 ⟨rfl, hw1⟩
  rw [hw1]
  clear hw1 w1
  go_wp2_with fail
  refine H1.out.mono ?_
  intro e w1 hm
  cases o1 with
  | some q =>
    obtain ⟨rfl, hx⟩ := hm
    have HX := hide hx
    clear hx
    go_wp2
    go_ret
    rw [HO.out]
    exact ⟨rfl, HX.out⟩
  | none =>
    obtain ⟨rfl, hx⟩ := hm
    have HX := hide hx
    clear hx
    go_wp2_with fail
    refine (H2.out _ HX.out).mono ?_
    intro e w2 hm
    cases o2 with
    | some q =>
      obtain ⟨rfl, hx⟩ := hm
      have HX := hide hx
      clear hx
      go_wp2
      go_ret
      rw [HO.out]
      exact ⟨rfl, HX.out⟩
    | none =>
      obtain ⟨rfl, hx⟩ := hm
      have HX := hide hx
      clear hx
      go_wp2_with fail
      refine (H3.out _ HX.out).mono ?_
      intro e w3 hm
      cases o3 with
      | some q =>
        obtain ⟨rfl, hx⟩ := hm
        have HX := hide hx
        clear hx
        go_wp2
        go_ret
        rw [HO.out]
        exact ⟨rfl, HX.out⟩
      | none =>
        obtain ⟨rfl, hx⟩ := hm
        have HX := hide hx
        clear hx
        go_wp2_with fail
        refine (H4.out _ HX.out).mono ?_
        intro e w4 hm
        cases o4 with
        | some q =>
          obtain ⟨rfl, hx⟩ := hm
          have HX := hide hx
          clear hx
          go_wp2
          go_ret
          rw [HO.out]
          exact ⟨rfl, HX.out⟩
        | none =>
          obtain ⟨rfl, hx⟩ := hm
          have HX := hide hx
          clear hx
          go_wp2_with fail
          refine (H5.out _ HX.out).mono ?_
          intro e w5 hm
          cases o5 with
          | some q =>
            obtain ⟨rfl, hx⟩ := hm
            have HX := hide hx
            clear hx
            go_wp2
            go_ret
            rw [HO.out]
            exact ⟨rfl, HX.out⟩
          | none =>
            obtain ⟨rfl, hx⟩ := hm
            have HX := hide hx
            clear hx
            go_wp2_with fail
            refine (H6.out _ HX.out).mono ?_
            intro e w6 hm
            cases o6 with
            | some q =>
              obtain ⟨rfl, hx⟩ := hm
              have HX := hide hx
              clear hx
              go_wp2
              go_ret
              rw [HO.out]
              exact ⟨rfl, HX.out⟩
            | none =>
              obtain ⟨rfl, hx⟩ := hm
              have HX := hide hx
              clear hx
              go_wp2_with fail
              refine (H7.out _ HX.out).mono ?_
              intro e w7 hm
              cases o7 with
              | some q =>
                obtain ⟨rfl, hx⟩ := hm
                have HX := hide hx
                clear hx
                go_wp2
                go_ret
                rw [HO.out]
                exact ⟨rfl, HX.out⟩
              | none =>
                obtain ⟨rfl, hx⟩ := hm
                have HX := hide hx
                clear hx
                go_wp2_with fail
                refine (H8.out _ HX.out).mono ?_
                intro e w8 hm
                cases o8 with
                | some q =>
                  obtain ⟨rfl, hx⟩ := hm
                  have HX := hide hx
                  clear hx
                  go_wp2
                  go_ret
                  rw [HO.out]
                  exact ⟨rfl, HX.out⟩
                | none =>
                  obtain ⟨rfl, hx⟩ := hm
                  have HX := hide hx
                  clear hx
                  go_wp2_with fail
                  refine (H9.out _ HX.out).mono ?_
                  intro e w9 hm
                  cases o9 with
                  | some q =>
                    obtain ⟨rfl, hx⟩ := hm
                    have HX := hide hx
                    clear hx
                    go_wp2
                    go_ret
                    rw [HO.out]
                    exact ⟨rfl, HX.out⟩
                  | none =>
                    obtain ⟨rfl, hx⟩ := hm
                    have HX := hide hx
                    clear hx
                    go_wp2
                    go_ret
                    rw [HO.out]
                    exact ⟨rfl, HX.out⟩
end Go.Proofs.YtdccldbefdfppaaGreatDoor
/-
  Package ends: Take, announcing and sending too.
-/
namespace Go.Proofs.YtdccldbefdfppaaGreatDoor
set_option linter.unusedVariables false
set_option linter.unusedSimpArgs false
open Go.RowKit

/-- As many frames are made as are needed for n bytes. -/
def RunsG (n : Int) (z1 : GEnd) (z2 : GEnd) : Prop := ∀ Z : GEnd → GEnd → Prop, (∀ (g : GEnd) (x1 : n ≤ g.out.length), Z g g) → (∀ (g : GEnd) (x1 : g.nextG = Option.none), Z g g) → (∀ (g q p : GEnd) (x1 : (g.out.length : Int) < n) (x2 : g.nextG = some q) (x3 : Z q p), Z g p) → Z z1 z2
theorem RunsG.stop {n : Int} {g : GEnd} (x1 : n ≤ g.out.length) : RunsG n g g := fun Z zk1 zk2 zk3 => zk1 g x1
theorem RunsG.none {n : Int} {g : GEnd} (x1 : g.nextG = Option.none) : RunsG n g g := fun Z zk1 zk2 zk3 => zk2 g x1
theorem RunsG.step {n : Int} {g q p : GEnd} (x1 : (g.out.length : Int) < n) (x2 : g.nextG = some q) (x3 : RunsG n q p) : RunsG n g p := fun Z zk1 zk2 zk3 => zk3 g q p x1 x2 (x3 Z zk1 zk2 zk3)
theorem RunsG.ind {n : Int} {motive : ∀ (z1 : GEnd) (z2 : GEnd), RunsG n z1 z2 → Prop} (stop : ∀ {g : GEnd} (x1 : n ≤ g.out.length), motive g g (@RunsG.stop n g x1)) (none : ∀ {g : GEnd} (x1 : g.nextG = Option.none), motive g g (@RunsG.none n g x1)) (step : ∀ {g q p : GEnd} (x1 : (g.out.length : Int) < n) (x2 : g.nextG = some q) (x3 : RunsG n q p) (ih : motive q p x3), motive g p (@RunsG.step n g q p x1 x2 x3)) {z1 : GEnd} {z2 : GEnd} (zt : RunsG n z1 z2) : motive z1 z2 zt := (zt (fun z1 z2 => ∃ zt : RunsG n z1 z2, motive z1 z2 zt) (fun g x1 => ⟨_, @stop g x1⟩) (fun g x1 => ⟨_, @none g x1⟩) (fun g q p x1 x2 zy => zy.elim fun x3 zx => ⟨_, @step g q p x1 x2 x3 zx⟩)).elim fun _ zx => zx
theorem nextG_out {g q : GEnd} (hn : g.nextG = some q) : g.out.length < q.out.length := by
  have hk : ∀ l : List UInt8, ∀ k f s b, l.length < (l ++ lay k f s b).length := fun l k f s b => by rw [List.length_append, lay_length]; omega
  rcases or_some hn with hn | hn
  · exact next_out hn
  rcases or_some hn with hn | hn
  · unfold GEnd.oHead at hn
    cases hd : firstNew g.K g.L with
    | none => rw [hd] at hn; cases hn
    | some n => rw [hd, Option.map_some] at hn; injection hn with hn; subst hn; exact hk _ _ _ _ _
  · unfold GEnd.oData at hn
    cases hd : nextN g.m g.K g.L none with
    | none => rw [hd] at hn; cases hn
    | some n => rw [hd, Option.map_some] at hn; injection hn with hn; subst hn; exact hk _ _ _ _ _
theorem RunsG.le {n : Int} {g p : GEnd} (h : RunsG n g p) : g.out.length ≤ p.out.length := by
  induction h using RunsG.ind with
  | stop _ => exact Nat.le_refl _
  | none _ => exact Nat.le_refl _
  | step _ h1 _ ih => have := nextG_out h1; omega
theorem nextG_fault {g q : GEnd} (hn : g.nextG = some q) : q.m.fault = g.m.fault := by
  rcases or_some hn with hn | hn
  · exact next_fault hn
  rcases or_some hn with hn | hn
  · unfold GEnd.oHead at hn
    cases hd : firstNew g.K g.L with
    | none => rw [hd] at hn; cases hn
    | some n => rw [hd, Option.map_some] at hn; injection hn with hn; subst hn; rfl
  · unfold GEnd.oData at hn
    cases hd : nextN g.m g.K g.L none with
    | none => rw [hd] at hn; cases hn
    | some n => rw [hd, Option.map_some] at hn; injection hn with hn; subst hn; rfl

/-- How Take ends; what is handed out was the end's, or is new. -/
structure TakenG (w w' : World) (eb mb : Nat) (g p : GEnd) (n : Int) (e : Ending) : Prop where
  eq : ∃ s, e = .returned (.slice s (cutN n p.out.length) (cutN n p.out.length)) ∧ BytesIn w' (.slice s (cutN n p.out.length) (cutN n p.out.length)) (p.out.take (cutN n p.out.length)) ∧ ∀ j, (Value.slice s (cutN n p.out.length) (cutN n p.out.length)).ownBlock = some j → Foot eb mb g j ∨ w.heap.size ≤ j
  next : ∃ g', g'.bare = { p with out := p.out.drop (cutN n p.out.length) } ∧ Next w w' eb mb g g'
theorem takenG_of {w w1 w' : World} {eb mb : Nat} {g c : GEnd} {n : Int} {v' : Value} {e : Ending} (hn : Next w w1 eb mb g c) (hc : CutOff w1 w' eb 41 c.m.out v' c.out (cutN n c.out.length) e) : TakenG w w' eb mb g c.bare n e := by
  have ht := taken_of (n := n) hn hc
  obtain ⟨⟨s, he, hby, hob⟩, -⟩ := hc
  exact ⟨⟨s, he, hby, fun j hj => hn.grow j (Or.inr (Or.inr (Or.inl (hob j hj))))⟩, ht.next⟩
set_option maxRecDepth 100000 in
set_option maxHeartbeats 1600000 in
theorem i_takeG (eb mb : Nat) (g p : GEnd) (n : Int) (w : World) (h : Inv w eb mb g) (hf : FineG g) (hlive : g.m.fault = 0) (hr : RunsG n g.bare p) (hl : p.out.length ≤ 1073741824) :
    Calls Tryz.prog 41 #[.pointer (some ⟨eb, 0, none⟩), .int .i64 n] w fun e w' => TakenG w w' eb mb g p n e := by
  have H := hide h
  have HF := hide hf
  have HR := hide hr
  have HL := hide hlive
  clear h hf hr hlive
  go_enter Tryz.func41, Tryz.ntmps41
  go_wp2
  go_loopw [5] (fun i wr => ∃ (wv : World) (c : GEnd) (mo : Bool), wv = wr ∧ i = .bool mo ∧ Next w wv eb mb g c ∧ FineG c ∧ c.m.fault = 0 ∧ c.out.length ≤ p.out.length ∧ (if mo then RunsG n c.bare p else c.bare = p)) (fun i wr => (p.out.length - madeLen wr eb) * 2 + oneIf i)
  case atStart => exact ⟨_, g, true, rfl, rfl, Next.refl H.out, HF.out, HL.out, HR.out.le, HR.out⟩
  case round =>
    obtain ⟨wv, c, mo, hwv, rfl, hnx, hfi, hfa, hle, hmo⟩ := hrel
    subst hwv
    have c41 := hnx.inv.en.c41
    obtain ⟨sa, ca, hsl⟩ := slice_len hnx.inv.out
    rw [hsl] at c41
    have hml := hnx.inv.madeLen
    have HNX := hide hnx
    have HFI := hide hfi
    have HFA := hide hfa
    have HML := hide hml
    have HSL := hide hsl
    have HMO := hide hmo
    clear hnx hfi hfa hml hsl hmo
    have HCUT : Hid (c.bare = p → ∀ wx, wx = wv → Calls Tryz.prog 64 #[.pointer (some ⟨eb, 41, none⟩), .int .i64 n] wx fun e w' => TakenG w w' eb mb g p n e) := fun hcp wx hwx => by
      subst hwx
      have hlo : c.out.length ≤ 1073741824 := by omega
      refine (ecut_any eb 41 c.m.out c.out n _ HNX.out.inv.en.c41 (HNX.out.inv.en.fr 41) HNX.out.inv.en.lt HNX.out.inv.out (fun e => owns_ne HNX.out.inv.out HNX.out.inv.en.blk (by decide) e) hlo).mono ?_
      rintro e w' ⟨v', hc⟩
      have := takenG_of HNX.out hc
      rw [hcp] at this
      exact this
    cases mo with
    | false =>
      have hcp := HMO.out
      simp only [Bool.false_eq_true, if_false] at hcp
      have HC := hide (HCUT.out hcp _ rfl)
      clear hcp HCUT
      go_wp2_with fail
      refine HC.out.mono ?_
      intro e w' ht
      obtain ⟨s, he, -⟩ := ht.eq
      have HT := hide ht
      clear ht
      subst he
      go_wp2
      go_ret
      exact HT.out
    | true =>
      have hru := HMO.out
      simp only [if_true] at hru
      have HRU := hide hru
      clear hru HMO
      by_cases hlt : (c.out.length : Int) < n
      · have hlo : c.out.length ≤ 1073741824 := by omega
        have hmk := i_makeNextG eb mb c wv HNX.out.inv HFI.out hlo HFA.out
        have HMK := hide hmk
        clear hmk HCUT
        go_wp2_with fail
        refine HMK.out.mono ?_
        intro e w1 hm
        have hnb := nextG_bare c
        cases hcn : c.nextG with
        | none =>
          rw [hcn] at hm hnb
          obtain ⟨rfl, hb⟩ := hm
          have hcp : c.bare = p := by
            cases HRU.out using RunsG.ind with
            | stop h1 => rfl
            | none h1 => rfl
            | step h1 h2 h3 => rw [← hnb] at h2; cases h2
          have hml1 : madeLen w1 eb = c.out.length := (HNX.out.then_below hb).inv.madeLen
          have HB := hide hb
          have HCP := hide hcp
          clear hb hcp hnb hcn
          go_wp2
          all_goals go_roundw
          case rel => exact ⟨_, c, false, rfl, rfl, HNX.out.then_below HB.out, HFI.out, HFA.out, hle, by simpa using HCP.out⟩
          case measure => rw [hml1, HML.out]; simp [oneIf]
        | some q =>
          rw [hcn] at hm hnb
          obtain ⟨rfl, g', hg', hn'⟩ := hm
          have hq := HFI.out.next HNX.out.inv.nn hcn
          have hgo : g'.out = q.out := by have := congrArg GEnd.out hg'; exact this
          have hfi' : FineG g' := FineG.of_bare (by rw [hg']; exact hq.bare)
          have hfa' : g'.m.fault = 0 := by
            have e1 : g'.m.fault = g'.bare.m.fault := rfl
            rw [e1, hg']
            show q.m.fault = 0
            rw [nextG_fault hcn, HFA.out]
          have hru' : RunsG n g'.bare p := by
            rw [hg']
            simp only [Option.map_some] at hnb
            cases HRU.out using RunsG.ind with
            | stop h1 => exact absurd (show n ≤ (c.out.length : Int) from h1) (by omega)
            | none h1 => rw [← hnb] at h1; cases h1
            | step h1 h2 h3 =>
              rw [← hnb] at h2
              injection h2 with h2
              rw [h2]
              exact h3
          have hlt' := nextG_out hcn
          have hml1 : madeLen w1 eb = g'.out.length := hn'.inv.madeLen
          have hle' := hru'.le
          rw [show g'.bare.out = g'.out from rfl] at hle'
          rw [hgo] at hml1 hle'
          have HN' := hide hn'
          have HFI' := hide hfi'
          have HFA' := hide hfa'
          have HRU' := hide hru'
          have HGO := hide hgo
          clear hn' hfi' hfa' hru' hnb hcn hq hg' hgo
          go_wp2
          all_goals go_roundw
          case rel => exact ⟨_, g', true, rfl, rfl, HNX.out.trans HN'.out, HFI'.out, HFA'.out, by rw [HGO.out]; exact hle', by simpa using HRU'.out⟩
          case measure => rw [hml1, HML.out]; simp [oneIf]; omega
      · have hcp : c.bare = p := by
          cases HRU.out using RunsG.ind with
          | stop h1 => rfl
          | none h1 => rfl
          | step h1 h2 h3 => exact absurd (show (c.out.length : Int) < n from h1) hlt
        have HC := hide (HCUT.out hcp _ rfl)
        clear hcp HCUT HRU
        go_wp2_with fail
        refine HC.out.mono ?_
        intro e w' ht
        obtain ⟨s, he, -⟩ := ht.eq
        have HT := hide ht
        clear ht
        subst he
        go_wp2
        go_ret
        exact HT.out
set_option maxHeartbeats 400000 in
theorem x_takeG (eb mb : Nat) (g p : GEnd) (n : Int) (w : World) (h : Inv w eb mb g) (hf : FineG g) (hlive : g.m.fault = 0) (hr : RunsG n g.bare p) (hl : p.out.length ≤ 1073741824) :
    Calls Tryz.prog 19 #[.pointer (some ⟨eb, 0, none⟩), .int .i64 n] w fun e w' => TakenG w w' eb mb g p n e := by
  have HC := hide (i_takeG eb mb g p n w h hf hlive hr hl)
  clear h hf hr hl hlive
  go_enter Tryz.func19, Tryz.ntmps19
  go_wp2_with fail
  refine HC.out.mono ?_
  intro e w' ht
  obtain ⟨s, he, -⟩ := ht.eq
  have HT := hide ht
  clear ht
  subst he
  go_wp2
  go_ret
  exact HT.out
end Go.Proofs.YtdccldbefdfppaaGreatDoor
/-
  append onto a row that may begin inside its block.
-/
namespace Go.Proofs.YtdccldbefdfppaaGreatDoor
set_option linter.unusedVariables false
set_option linter.unusedSimpArgs false
open Go.RowKit

theorem heap_setCs_same (g : Nat) : ∀ (vs : List Value) (o : Nat) (w : World) (C : Array Value) (t : TypeId) (fr : Nat × Nat), w.heap[g]? = some (.cells C t fr) → ∃ C', (w.setCells g o vs).heap[g]? = some (.cells C' t fr) ∧ C'.size = C.size ∧ ∀ j, C'[j]? = if o ≤ j ∧ j < o + vs.length ∧ j < C.size then vs[j - o]? else C[j]?
  | [], o, w, C, t, fr, h => ⟨C, h, rfl, fun j => by rw [if_neg (by simp; omega)]⟩
  | v :: r, o, w, C, t, fr, h => by
    rw [World.setCells]
    obtain ⟨C', h1, h2, h3⟩ := heap_setCs_same g r (o + 1) (w.setCell ⟨g, o, none⟩ v) (C.setIfInBounds o v) t fr (block_setCell h)
    refine ⟨C', h1, by simpa using h2, fun j => ?_⟩
    rw [h3 j]
    simp only [Array.size_setIfInBounds, List.length_cons, Array.getElem?_setIfInBounds]
    by_cases hj : o = j
    · subst hj
      rw [if_neg (by omega)]
      by_cases hs : o < C.size
      · simp [hs]
      · simp [hs]
    · simp only [if_neg hj]
      by_cases hin : o + 1 ≤ j ∧ j < o + 1 + r.length ∧ j < C.size
      · rw [if_pos hin, if_pos (by omega)]
        have : j - o = (j - (o + 1)) + 1 := by omega
        rw [this, List.getElem?_cons_succ]
      · rw [if_neg hin, if_neg (by omega)]
theorem chg_setCs {S : Nat → Prop} {g : Nat} {a : World} (hp : S g) : ∀ (vs : List Value) (o : Nat) (w : World), Chg S a w → Chg S a (w.setCells g o vs)
  | [], _, _, h => h
  | v :: r, o, _, h => chg_setCs hp r (o + 1) _ (chg_set h hp)
theorem rowAt_app {P : Program} (w : World) (t ty e : TypeId) (i : TypeInfo) (z : Value) (size bytes : Nat) (ht : P.underlying t = some (.slice e)) (hi : P.info? e = some i) (hz : i.zero = some z)
    (hsize : i.size = size) (hby : i.bytes = bytes) (hzs : z.cells.size = size) (hsz : 0 < size)
    (v : Value) (n : Nat) (xs : List Value) (hrow : RowAt w e size v n xs)
    (ad : Addr) (m c : Nat) (news : List Value) (hl : news.length = m * size) (hcells : ∀ j u, news[j]? = some u → w.cell? (ad.add j) = some u) (h1 : ∀ u ∈ news, u.oneCell' = true)
    (h63 : n + m ≤ maxLen) (hbytes : (n + m) * bytes ≤ 140737488355328) (hm : 0 < m) :
    ∃ v' w', (Builtin.append_ #[t, t] ty #[v, .slice (some ad) m c]).run P w = .ok v' w' ∧ RowAt w' e size v' (n + m) (xs ++ news) ∧ Chg (fun j => v.ownBlock = some j) w w' ∧ (v'.ownBlock = v.ownBlock ∨ v'.ownBlock = some w.heap.size) ∧ ∃ g o cap, v' = .slice (some ⟨g, o, none⟩) (n + m) cap := by
  have hsmall : n + m ≤ 9223372036854775807 := by simp only [maxLen] at h63; omega
  subst hsize
  subst hby
  have hlx : (xs ++ news).length = (n + m) * i.size := by rw [List.length_append, hrow.1, hl, Nat.add_mul]
  rcases hrow.2 with ⟨rfl, rfl⟩ | ⟨g, o, cap, cur, rfl, hg, hnc, hcm, hcs, htake⟩
  · obtain ⟨v', w', hr, h2, h3, h4⟩ := run_app (P := P) w t ty e i z i.size i.bytes ht hi hz rfl rfl hzs hsz (.slice none 0 0) 0 [] (World.ownsRow_nil _ _ _ _) (.slice (some ad) m c) m news hl (Or.inr ⟨ad, c, rfl, hcells⟩) h1 h63 hbytes
    have hx0 : xs = [] := List.length_eq_zero_iff.1 (by rw [hrow.1, Nat.zero_mul])
    subst hx0
    refine ⟨v', w', hr, RowAt.of_owns h2, ⟨h3.os, h3.tape, h3.output, h3.size, fun j hj hs => h3.block j hj (fun e => hs e.symm)⟩, h4, ?_⟩
    rcases h2.2 with ⟨-, h0⟩ | ⟨g, cap, cur, h5, -⟩
    · omega
    · exact ⟨g, 0, cap, h5⟩
  · have hcell : ∀ j u, xs[j]? = some u → w.cell? ((⟨g, o, none⟩ : Addr).add j) = some u := fun j u hu => by
      rw [Addr.add_mid, cell_of_row _ _ _ _ _ _ hg]
      have hjl := (List.getElem?_eq_some_iff.1 hu).1
      rw [← htake, List.getElem?_take, if_pos (by rw [← hrow.1]; exact hjl), List.getElem?_drop, Array.getElem?_toList] at hu
      exact hu
    by_cases hroom : n + m ≤ cap
    · have hfit : o + (n + m) * i.size ≤ cur.size := by
        have := Nat.mul_le_mul_right i.size hroom
        omega
      rw [Nat.add_mul] at hfit
      have hr := run_append_room_cells (P := P) (w := w) t ty e i ht hi g o n cap ad m c news hl hcells h1 hroom (fun j hj => by rw [cell_of_row _ _ _ _ _ _ hg, Array.getElem?_eq_getElem (by omega)]; rfl) (fun j hj => by simp [World.frozen?, hg])
      obtain ⟨C', c1, c2, c3⟩ := heap_setCs_same g news (o + n * i.size) w cur e (0, 0) hg
      refine ⟨_, _, hr, ⟨hlx, Or.inr ⟨g, o, cap, C', rfl, c1, hroom, hcm, by rw [c2]; exact hcs, ?_⟩⟩, chg_setCs (S := fun j => (Value.slice (some ⟨g, o, none⟩) n cap).ownBlock = some j) rfl news _ w (Chg.refl _ _), Or.inl rfl, g, o, cap, rfl⟩
      apply List.ext_getElem?
      intro j
      rw [List.getElem?_take, List.getElem?_drop, Array.getElem?_toList, c3]
      by_cases hj : j < (n + m) * i.size
      · rw [if_pos hj]
        rw [Nat.add_mul] at hj
        by_cases hj2 : j < n * i.size
        · rw [if_neg (by omega), List.getElem?_append_left (by rw [hrow.1]; exact hj2), ← htake, List.getElem?_take, if_pos hj2, List.getElem?_drop, Array.getElem?_toList]
        · rw [if_pos (by omega), List.getElem?_append_right (by rw [hrow.1]; omega), hrow.1]
          congr 1
          omega
      · rw [if_neg hj, List.getElem?_eq_none (by rw [hlx]; omega)]
    · have hr := run_append_grow (P := P) w t ty e i z ht hi hz ⟨g, o, none⟩ n cap xs hrow.1 hcell ad m c news hl hcells (by omega) (by omega) (growslice_fits (by omega) hbytes)
      have hge := grownCap_ge w (n + m) cap e
      have hbl := heap_alloc_new w.drew (.cells (xs.toArray ++ news.toArray ++ Builtin.zeroCells z.cells (grownCap w (n + m) cap e - (n + m))) e)
      have hch : Chg (fun j => (Value.slice (some ⟨g, o, none⟩) n cap).ownBlock = some j) w (w.drew.alloc (.cells (xs.toArray ++ news.toArray ++ Builtin.zeroCells z.cells (grownCap w (n + m) cap e - (n + m))) e)) := Chg.of_below (((Below.refl _ _).drew).alloc (Nat.le_refl _) _)
      refine ⟨_, _, hr, ⟨hlx, Or.inr ⟨w.heap.size, 0, _, _, rfl, hbl, hge, grownCap_le_maxLen w (n + m) cap e h63, ?_, ?_⟩⟩, hch, Or.inr rfl, _, _, _, rfl⟩
      · rw [Array.size_append, Array.size_append, List.size_toArray, List.size_toArray]
        have hz2 : (Builtin.zeroCells z.cells (grownCap w (n + m) cap e - (n + m))).size = (grownCap w (n + m) cap e - (n + m)) * i.size := by rw [size_zeroCells, hzs]
        rw [hz2, hrow.1, hl, ← Nat.add_mul, ← Nat.add_mul]
        have : n + m + (grownCap w (n + m) cap e - (n + m)) = grownCap w (n + m) cap e := by omega
        rw [this]
        omega
      · rw [List.drop_zero, Array.toList_append, Array.toList_append, List.take_append_of_le_length (by simp [hrow.1, hl, Nat.add_mul])]
        rw [List.take_of_length_le (by simp [hrow.1, hl, Nat.add_mul])]
/-- As a step of a region that draws. -/
theorem step_appR {P : Program} {ops : Array Oper} {o : Oper} {a : Act} {w : World} {K : Act → World → Prop} {Q : Exit → Act → World → Prop} {E : Prop} (hgd : o.guard = none) (s y : Operand) (t : TypeId)
    (ho : o.op = .call { callee := .builtin .append, args := #[s, y], argTypes := #[t, t] })
    (e : TypeId) (i : TypeInfo) (z : Value) (size bytes : Nat) (ht : P.underlying t = some (.slice e)) (hi : P.info? e = some i) (hz : i.zero = some z)
    (hsize : i.size = size) (hby : i.bytes = bytes) (hzs : z.cells.size = size) (hsz : 0 < size)
    (v : Value) (n : Nat) (xs : List Value) (hs : a.eval s = v) (hrow : RowAt w e size v n xs)
    (ad : Addr) (m c : Nat) (news : List Value) (hx : a.eval y = .slice (some ad) m c) (hl : news.length = m * size) (hnews : ∀ j u, news[j]? = some u → w.cell? (ad.add j) = some u) (h1 : ∀ u ∈ news, u.oneCell' = true)
    (h63 : n + m ≤ maxLen) (hbytes : (n + m) * bytes ≤ 140737488355328) (hm : 0 < m)
    (hK : ∀ v' w', RowAt w' e size v' (n + m) (xs ++ news) → Chg (fun j => v.ownBlock = some j) w w' → (v'.ownBlock = v.ownBlock ∨ v'.ownBlock = some w.heap.size) → (∃ g o cap, v' = .slice (some ⟨g, o, none⟩) (n + m) cap) → K (a.put o.dst v') w') :
    if Region.wanted o (yielded ops a.tmps) = true then Oper.wp P o a w K Q else E := by
  have hw : Region.wanted o (yielded ops a.tmps) = true := by simp [Region.wanted, hgd]
  rw [if_pos hw]
  obtain ⟨v', w', hr, h2, h3, h4, h5⟩ := rowAt_app (P := P) w t o.type e i z size bytes ht hi hz hsize hby hzs hsz v n xs hrow ad m c news hl hnews h1 h63 hbytes hm
  unfold Oper.wp
  simp [execOp, ho, resolve, invoke, builtin, hs, hx, hr, Result.andThen]
  exact hK v' w' h2 h3 h4 h5
end Go.Proofs.YtdccldbefdfppaaGreatDoor
/-
  Package ends: an answer more; a Ping comes.
-/
namespace Go.Proofs.YtdccldbefdfppaaGreatDoor
set_option linter.unusedVariables false
set_option linter.unusedSimpArgs false
open Go.RowKit

set_option maxRecDepth 100000 in
set_option maxHeartbeats 1600000 in
theorem answer_any (eb mb : Nat) (g : GEnd) (x0 x1 : Int) (sb : Option Addr) (len cb : Nat) (w : World) (h : Inv w eb mb g) (hn : g.ans.length < 8) :
    Calls Tryz.prog 137 #[.pointer (some ⟨eb, 0, none⟩), .agg #[.int .i64 x0, .int .i64 x1, .int .i64 0, .slice sb len cb]] w fun e w' => e = .returned (.tuple #[]) ∧ ∃ gr go cr, EnB w' eb { g.m with answers := .slice (some ⟨gr, go, none⟩) (g.ans.length + 1) cr } ∧ RowAt w' 48 4 (.slice (some ⟨gr, go, none⟩) (g.ans.length + 1) cr) (g.ans.length + 1) (g.ans.flatMap Ans.cells ++ [.int .i64 x0, .int .i64 x1, .int .i64 0, .slice sb len cb]) ∧ Chg (fun j => j = eb ∨ g.m.answers.ownBlock = some j) w w' ∧ (g.m.answers.ownBlock = some gr ∨ w.heap.size ≤ gr) := by
  obtain ⟨i0, hi, hz0, hz1, hz2⟩ := info_parts Tryz.info48
  have c42 := h.en.c42
  obtain ⟨sa, ca, hv⟩ := h.ans.len
  have hrow := h.ans
  rw [hv] at c42 hrow
  rw [hv]
  have f42 := h.en.fr 42
  have hlt := h.en.lt
  have hne : (Value.slice sa g.ans.length ca).ownBlock ≠ some eb := by rw [← hv]; exact h.ans.ne h.en.blk (by decide)
  have HNE := hide hne
  have H := hide h.en
  have HROW : Hid (RowAt ((w.alloc (.cells #[.int .i64 x0, .int .i64 x1, .int .i64 0, .slice sb len cb] 48)).alloc (.cells #[.int .i64 x0, .int .i64 x1, .int .i64 0, .slice sb len cb] 48)).drew 48 4 (.slice sa g.ans.length ca) g.ans.length (g.ans.flatMap Ans.cells)) := hrow.chg (S := fun _ => False) (((Chg.refl (fun _ => False) w).alloc _).alloc _).drew (fun _ _ => id)
  have HLIE : Hid (∀ j u, ([.int .i64 x0, .int .i64 x1, .int .i64 0, .slice sb len cb] : List Value)[j]? = some u → ((w.alloc (.cells #[.int .i64 x0, .int .i64 x1, .int .i64 0, .slice sb len cb] 48)).alloc (.cells #[.int .i64 x0, .int .i64 x1, .int .i64 0, .slice sb len cb] 48)).drew.cell? ((⟨w.heap.size + 1, 0, none⟩ : Addr).add j) = some u) := fun j u hu => by
    have q := lies_row (w := w.alloc (.cells #[.int .i64 x0, .int .i64 x1, .int .i64 0, .slice sb len cb] 48)) (xs := [.int .i64 x0, .int .i64 x1, .int .i64 0, .slice sb len cb]) (t := 48) j u hu
    rw [show (w.alloc (.cells #[.int .i64 x0, .int .i64 x1, .int .i64 0, .slice sb len cb] 48)).heap.size = w.heap.size + 1 from by simp] at q
    exact q
  have hlen : (g.ans.length : Int) < 8 := by omega
  obtain ⟨m0, hm0⟩ : ∃ m0, m0 = g.m := ⟨_, rfl⟩
  rw [← hm0] at H ⊢
  generalize g.ans.flatMap Ans.cells = xs at *
  generalize g.ans.length = n at *
  clear h hv hrow hne hm0
  go_enter Tryz.func137, Tryz.ntmps137
  go_upto_region 3 with fail
  go_region_law (first
    | (refine step_appR rfl (.tmp 17) (.tmp 19) 39 rfl 48 i0 (.agg #[.int .i64 0, .int .i64 0, .int .i64 0, .slice none 0 0]) 4 48 Tryz.underlying39 hi hz0 hz1 hz2 rfl (by decide) (.slice sa n ca) n xs (by simp [Act.eval, Act.put]) HROW.out ⟨w.heap.size + 1, 0, none⟩ 1 1 [.int .i64 x0, .int .i64 x1, .int .i64 0, .slice sb len cb] (by simp [Act.eval, Act.put]) rfl HLIE.out (by intro u hu; simp only [List.mem_cons, List.not_mem_nil, or_false] at hu; rcases hu with rfl | rfl | rfl | rfl <;> rfl) (by unfold maxLen; omega) (by omega) (by decide) ?_; intro v3 w3 ho3 hg3 hfr3 hsh3; obtain ⟨gr, go, cr, hv3⟩ := hsh3; subst hv3; have hcg : Chg (fun j => (Value.slice sa n ca).ownBlock = some j) w w3 := (((Chg.refl (fun j => (Value.slice sa n ca).ownBlock = some j) w).alloc (.cells #[.int .i64 x0, .int .i64 x1, .int .i64 0, .slice sb len cb] 48)).alloc (.cells #[.int .i64 x0, .int .i64 x1, .int .i64 0, .slice sb len cb] 48)).drew.trans (hg3.mono fun j _ e => Or.inr e); have k42 : w3.cell? ⟨eb, 42, none⟩ = some (.slice sa n ca) := (by rw [hcg.cell (p := ⟨eb, 42, none⟩) hlt HNE.out]; exact c42); have g42 : w3.frozen? ⟨eb, 42, none⟩ = false := (by rw [hcg.frozen (p := ⟨eb, 42, none⟩) hlt HNE.out]; exact f42); have HO3 := hide ho3; have HCG := hide hcg; have HF3 := hide hfr3; clear ho3 hg3 hfr3 hcg))
  all_goals go_wp2
  all_goals
    have hE3 : EnB w3 eb m0 := H.out.chg HCG.out HNE.out
    have hset : Chg (fun j => j = eb) w3 (w3.setCell ⟨eb, 42, none⟩ (.slice (some ⟨gr, go, none⟩) (n + 1) cr)) := chg_set (Chg.refl _ _) rfl
    refine bodyPost_end (results_none rfl _ _ _) rfl ⟨rfl, gr, go, cr, EnB.of (blk_set hE3.blk) rfl, HO3.out.chg hset (fun j hj e => by rw [e] at hj; exact HO3.out.ne hE3.blk (by decide) hj), (HCG.out.mono fun _ _ e => Or.inr e).trans (hset.mono fun j _ e => Or.inr (Or.inl e)), ?_⟩
    rcases HF3.out with e | e
    · exact Or.inl e.symm
    · refine Or.inr ?_
      simp [Value.ownBlock] at e
      omega
/-- With an answer more. -/
theorem Inv.answers {w w' : World} {eb mb : Nat} {g : GEnd} {v : Value} {a : Ans} (h : Inv w eb mb g) (hc : Chg (fun j => j = eb ∨ g.m.answers.ownBlock = some j) w w') (hen : EnB w' eb { g.m with answers := v }) (hr : RowAt w' 48 4 v (g.ans.length + 1) (g.ans.flatMap Ans.cells ++ a.cells)) (hfr : ∀ j, v.ownBlock = some j → g.m.answers.ownBlock = some j ∨ w.heap.size ≤ j)
    (hb : w.ownsRow 0 5 1 a.bv a.body.length (a.body.map B)) (hbn : ∀ j, a.bv.ownBlock = some j → ¬ Foot eb mb g j) {w0 : World} {g0 : GEnd} (hn0 : Next w0 w eb mb g0 g) (hb0 : ∀ j, a.bv.ownBlock = some j → Foot eb mb g0 j ∨ w0.heap.size ≤ j) :
    Next w0 w' eb mb g0 { g with m := { g.m with answers := v }, ans := g.ans ++ [a] } := by
  have hrow : ∀ {k : Nat} {v' : Value} {xs : List Value} {ty : TypeId}, ty ≠ 103 → ty ≠ 48 → w.ownsRow 0 ty 1 v' k xs → w'.ownsRow 0 ty 1 v' k xs := fun hne hne2 hr => owns_chg hr hc (fun j hj e => by
    rcases e with e | e
    · rw [e] at hj; exact owns_ne hr h.en.blk hne hj
    · exact rows_ne2 hr h.ans hne2 hj e)
  have hmb : g.m.answers.ownBlock ≠ some mb := rowAt_mb h.kn h.ans
  refine ⟨⟨hen, h.kn.chg hc ?_ (fun p hp => ?_), h.km, h.nd, h.nn, h.ln, h.has, hrow (by decide) (by decide) h.row, hrow (by decide) (by decide) h.out, hrow (by decide) (by decide) h.got, fun p hp => hrow (by decide) (by decide) (h.un p hp), fun p hp => hrow (by decide) (by decide) (h.wa p hp), ?_, ?_, ?_, ?_⟩, hn0.chg.trans (hc.mono fun j _ e => ?_), ?_⟩
  · rintro (e | e)
    · exact h.eb_mb e
    · exact hmb e
  · obtain ⟨q, hq, rfl⟩ := List.mem_map.1 hp
    rintro (e | e)
    · exact h.st_eb hq e
    · exact h.ans.ne (h.st hq).blk (by decide) e
  · show RowAt w' 48 4 v (g.ans ++ [a]).length ((g.ans ++ [a]).flatMap Ans.cells)
    rw [List.length_append, List.flatMap_append]
    simpa using hr
  · intro b hbm
    rcases List.mem_append.1 hbm with hbm | hbm
    · exact hrow (by decide) (by decide) (h.anb b hbm)
    · rw [List.mem_singleton.1 hbm]
      exact hrow (by decide) (by decide) hb
  · refine h.res.chg hc (fun j hj e => ?_)
    rcases e with e | e
    · rw [e] at hj; exact h.res.ne h.en.blk (by decide) hj
    · exact rows_ne3 h.ans h.res (by decide) e hj
  · obtain ⟨T, hT⟩ := h.ap
    have hoff : ∀ j, Foot eb mb g j → (if a.bv.ownBlock = some j then 2 else T j) = T j := fun j hf => if_neg (fun e => hbn j e hf)
    refine ⟨fun j => if a.bv.ownBlock = some j then 2 else T j, ⟨fun j hj => ?_, fun j hj => ?_, fun p hp j hj => ?_, fun p hp j hj => ?_, fun b hbm j hj => ?_⟩⟩
    · rw [hoff j (Or.inr (Or.inr (Or.inl hj)))]; exact hT.out j hj
    · rw [hoff j (Or.inr (Or.inr (Or.inr (Or.inl hj))))]; exact hT.got j hj
    · rw [hoff j (foot_un (g := g) hp hj)]; exact hT.un p hp j hj
    · rw [hoff j (foot_wa (g := g) hp hj)]; exact hT.wa p hp j hj
    · rcases List.mem_append.1 hbm with hbm | hbm
      · rw [hoff j (Or.inr (Or.inr (Or.inr (Or.inr (Or.inr (Or.inr (Or.inr (Or.inl ⟨b, hbm, hj⟩))))))))]; exact hT.an b hbm j hj
      · rw [List.mem_singleton.1 hbm] at hj
        rw [if_pos hj]
  · have hf : Foot eb mb g j := by
      rcases e with e | e
      · exact Or.inl e
      · exact Or.inr (Or.inr (Or.inr (Or.inr (Or.inr (Or.inl e)))))
    rcases hn0.grow j hf with a | a
    · exact Or.inr a
    · exact Or.inl a
  · intro j hj
    have hold : Foot eb mb g j → Foot eb mb g0 j ∨ w0.heap.size ≤ j := hn0.grow j
    rcases hj with e | e | e | e | e | e | e | ⟨b, hbm, e⟩ | e
    · exact hold (Or.inl e)
    · exact hold (Or.inr (Or.inl e))
    · exact hold (Or.inr (Or.inr (Or.inl e)))
    · exact hold (Or.inr (Or.inr (Or.inr (Or.inl e))))
    · exact hold (Or.inr (Or.inr (Or.inr (Or.inr (Or.inl e)))))
    · rcases hfr j e with a | a
      · exact hold (Or.inr (Or.inr (Or.inr (Or.inr (Or.inr (Or.inl a))))))
      · exact Or.inr (Nat.le_trans hn0.chg.size a)
    · exact hold (Or.inr (Or.inr (Or.inr (Or.inr (Or.inr (Or.inr (Or.inl e)))))))
    · rcases List.mem_append.1 hbm with hbm | hbm
      · exact hold (Or.inr (Or.inr (Or.inr (Or.inr (Or.inr (Or.inr (Or.inr (Or.inl ⟨b, hbm, e⟩))))))))
      · rw [List.mem_singleton.1 hbm] at e
        exact hb0 j e
    · exact hold (Or.inr (Or.inr (Or.inr (Or.inr (Or.inr (Or.inr (Or.inr (Or.inr e))))))))
set_option maxRecDepth 100000 in
set_option maxHeartbeats 800000 in
/-- A Ping that wants an answer. -/
theorem comePing_any (eb mb : Nat) (g : GEnd) (f nv : Int) (sv : Option Addr) (cb : Nat) (body : List UInt8) (w : World) (h : Inv w eb mb g) (hf : 0 ≤ f ∧ f ≤ 255) (hak : hasB f 1 = false) (hn : g.ans.length < 8) (hb : w.ownsRow 0 5 1 (.slice sv body.length cb) body.length (body.map B)) (hbn : ∀ j, (Value.slice sv body.length cb).ownBlock = some j → ¬ Foot eb mb g j) {w0 : World} {g0 : GEnd} (hn0 : Next w0 w eb mb g0 g) (hb0 : ∀ j, (Value.slice sv body.length cb).ownBlock = some j → Foot eb mb g0 j ∨ w0.heap.size ≤ j) :
    Calls Tryz.prog 101 #[.pointer (some ⟨eb, 0, none⟩), .agg #[.int .i64 4, .int .i64 f, .int .i64 0, .slice sv body.length cb, .int .u32 nv]] w fun e w' => e = .returned (.tuple #[]) ∧ ∃ g', g'.bare = ({ g with m := { g.m with answers := .tuple #[] }, ans := g.ans ++ [⟨4, 1, body, .slice none 0 0⟩] } : GEnd).bare ∧ Next w0 w' eb mb g0 g' := by
  obtain ⟨len, hle⟩ : ∃ len, len = body.length := ⟨_, rfl⟩
  have hbA : Below w.heap.size w (w.alloc (.cells #[.int .i64 4, .int .i64 f, .int .i64 0, .slice sv body.length cb, .int .u32 nv] 176)) := (Below.refl _ _).alloc (Nat.le_refl _) _
  have hnew := heap_alloc_new w (.cells #[.int .i64 4, .int .i64 f, .int .i64 0, .slice sv body.length cb, .int .u32 nv] 176)
  have HH : Hid (∀ w, Calls Tryz.prog 98 #[.agg #[.int .i64 4, .int .i64 f, .int .i64 0, .slice sv body.length cb], .int .i64 1] w fun e w' => e = .returned (.bool false) ∧ Below w.heap.size w w') := fun w => by
    have := has_any 4 f 0 1 (.slice sv body.length cb) w hf.1 (by omega) (Or.inl rfl)
    rw [hak] at this
    exact this
  have HA : Hid (∀ w1, Below w.heap.size w w1 → Calls Tryz.prog 137 #[.pointer (some ⟨eb, 0, none⟩), .agg #[.int .i64 4, .int .i64 1, .int .i64 0, .slice sv body.length cb]] w1 fun e w' => e = .returned (.tuple #[]) ∧ ∃ g', g'.bare = ({ g with m := { g.m with answers := .tuple #[] }, ans := g.ans ++ [⟨4, 1, body, .slice none 0 0⟩] } : GEnd).bare ∧ Next w0 w' eb mb g0 g') := fun w1 hb1 => by
    have h1 := h.below hb1
    refine (answer_any eb mb g 4 1 sv body.length cb w1 h1 hn).mono ?_
    rintro e w' ⟨rfl, gr, go, cr, hen, hrow, hch, hfr⟩
    refine ⟨rfl, { g with m := { g.m with answers := .slice (some ⟨gr, go, none⟩) (g.ans.length + 1) cr }, ans := g.ans ++ [⟨4, 1, body, .slice sv body.length cb⟩] }, ?_, ?_⟩
    · unfold GEnd.bare
      simp only [GEnd.mk.injEq, true_and, and_true]
      refine ⟨rfl, ?_⟩
      rw [List.map_append, List.map_append]
      rfl
    · refine h1.answers (a := ⟨4, 1, body, .slice sv body.length cb⟩) hch hen hrow (fun j hj => ?_) (owns_chg hb (Chg.of_below (S := fun _ => False) hb1) (fun _ _ => id)) hbn (hn0.then_below hb1) hb0
      simp [Value.ownBlock] at hj
      subst hj
      exact hfr
  have HB := hide hbA
  have HC3 : Hid (∀ w1, Below (w.alloc (.cells #[.int .i64 4, .int .i64 f, .int .i64 0, .slice sv body.length cb, .int .u32 nv] 176)).heap.size (w.alloc (.cells #[.int .i64 4, .int .i64 f, .int .i64 0, .slice sv body.length cb, .int .u32 nv] 176)) w1 → w1.cell? ⟨w.heap.size, 3, none⟩ = some (.slice sv body.length cb)) := fun w1 hb1 => by
    rw [cell_of_row _ _ _ _ _ _ (kept_told hnew hb1)]
    rfl
  clear h hf hak hn hb hbn hn0 hb0 hbA hnew
  rw [← hle] at *
  clear hle
  go_enter Tryz.func101, Tryz.ntmps101
  go_wp2_with fail
  refine (HH.out _).mono ?_
  rintro e w1 ⟨rfl, hb1⟩
  have k3 := HC3.out w1 hb1
  have HB1 : Hid (Below w.heap.size w w1) := HB.out.trans (hb1.mono HB.out.size)
  clear hb1
  go_wp2_with fail
  refine (HA.out w1 HB1.out).mono ?_
  rintro e w2 ⟨rfl, hx⟩
  have HX := hide hx
  clear hx
  go_wp2
  exact bodyPost_end (results_none rfl _ _ _) rfl ⟨rfl, HX.out⟩
end Go.Proofs.YtdccldbefdfppaaGreatDoor
