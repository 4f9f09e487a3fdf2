import Derived.Test.YtiphkngfbpdeoaaGreatDoorVGam
import Derived.Test.YtiphkngfbpdeoaaGreatDoorVGaf
set_option linter.unusedVariables false
set_option linter.unusedSimpArgs false
namespace Go.Proofs.YtiphkngfbpdeoaaGreatDoor
set_option linter.unusedVariables false
set_option linter.unusedSimpArgs false
open Go.RowKit
section
variable {w w' : World} {eb mb : Nat} {g : GEnd} {e : Ending}
theorem MadeO.pre {o : Option GEnd} {w0 : World} (h : MadeO w w' eb mb g o e) (hb : Below w0.heap.size w0 w) : MadeO w0 w' eb mb g o e := by
  cases o with
  | none => exact ⟨h.1, hb.trans (h.2.mono hb.size)⟩
  | some q => obtain ⟨h1, g', h2, h3⟩ := h; exact ⟨h1, g', h2, h3.pre hb⟩
theorem MadeB.made {m' : EndM} {new : List UInt8} {c : Bool} (h : Inv w eb mb g) (hm : MadeB w w' eb g.m m' g.out new c e) (h1 : m'.known = g.m.known) (h2 : m'.opn = g.m.opn) (h3 : m'.got = g.m.got) (h4 : m'.out = g.m.out) (h5 : m'.answers = g.m.answers) (h6 : m'.resets = g.m.resets) {o : Option GEnd} (ho : o = if c then some { g with m := m', out := g.out ++ new } else none) : MadeO w w' eb mb g o e := by
  obtain ⟨he, hr⟩ := hm
  cases c with
  | false => simp only [Bool.false_eq_true, if_false] at hr ho; rw [ho]; exact ⟨he, hr⟩
  | true =>
    simp only [if_true] at hr ho
    obtain ⟨v, hp⟩ := hr
    rw [ho]
    refine ⟨he, _, ?_, h.put h1 h2 h3 h4 h5 h6 hp⟩
    rfl
theorem four4_toNat {n : Nat} {i : Int} (h : i = n) : four4 i.toNat = four4 n := by rw [h, Int.toNat_natCast]
theorem i_makeFirst (h : Inv w eb mb g) (hf : Fine g) (hl : g.out.length ≤ 1073741824) : Calls Tryz.prog 89 #[.pointer (some ⟨eb, 0, none⟩)] w fun e w' => MadeO w w' eb mb g g.oFirst e := by
  have hw := hf.wanted
  obtain ⟨n, hn⟩ : ∃ n : Nat, g.m.wanted = n := ⟨g.m.wanted.toNat, by omega⟩
  refine (makeFirst_any eb g.m g.out w n h.en hf.greets hn (by omega) h.out hl).mono ?_
  intro e w' hm
  refine hm.made h rfl rfl rfl rfl rfl rfl ?_
  unfold GEnd.oFirst
  rw [four4_toNat hn]
  cases g.m.told <;> rfl
theorem i_makeSettings (h : Inv w eb mb g) (hf : Fine g) (hl : g.out.length ≤ 1073741824) : Calls Tryz.prog 91 #[.pointer (some ⟨eb, 0, none⟩)] w fun e w' => MadeO w w' eb mb g g.oSettings e := by
  have hw := hf.wanted
  obtain ⟨n, hn⟩ : ∃ n : Nat, g.m.wanted = n := ⟨g.m.wanted.toNat, by omega⟩
  refine (makeSettings_any eb g.m g.out w n h.en hf.greets hn (by omega) h.out hl).mono ?_
  intro e w' hm
  refine hm.made h rfl rfl rfl rfl rfl rfl ?_
  unfold GEnd.oSettings
  rw [four4_toNat hn]
  cases (g.m.waits || g.m.wanted == g.m.made) <;> rfl
theorem i_makePing (h : Inv w eb mb g) (hf : Fine g) (hl : g.out.length ≤ 1073741824) : Calls Tryz.prog 92 #[.pointer (some ⟨eb, 0, none⟩)] w fun e w' => MadeO w w' eb mb g g.oPing e := by
  refine (makePing_any eb g.m g.out w h.en hf.greets hf.pnum h.out hl).mono ?_
  intro e w' hm
  refine hm.made h rfl rfl rfl rfl rfl rfl ?_
  unfold GEnd.oPing
  cases (g.m.under && !g.m.pinged) <;> rfl
theorem i_makeCredit (h : Inv w eb mb g) (hf : Fine g) (hl : g.out.length ≤ 1073741824) : Calls Tryz.prog 93 #[.pointer (some ⟨eb, 0, none⟩)] w fun e w' => MadeO w w' eb mb g g.oCredit e := by
  have hw := hf.owed
  have hr := hf.receive
  obtain ⟨n, hn⟩ : ∃ n : Nat, g.m.owed = n := ⟨g.m.owed.toNat, by omega⟩
  refine (makeCredit_any eb g.m g.out w n h.en hf.greets hn (by omega) (by omega) (by omega) h.out hl).mono ?_
  intro e w' hm
  refine hm.made h rfl rfl rfl rfl rfl rfl ?_
  unfold GEnd.oCredit
  rw [four4_toNat hn]
theorem updN_const {n : Int} {f : GSt → GSt} {K : List GSt} (hn : (K.map fun s => s.st.number).Nodup) {s : GSt} (hs : s ∈ K) (he : s.st.number = n) : updN n (fun _ => f s) K = updN n f K := by
  unfold updN
  apply List.map_congr_left
  intro x hx
  by_cases e : x.st.number = n
  · rw [if_pos e, if_pos e, inj_nd (fun s : GSt => s.st.number) hn hs hx (by simp only [he, e])]
  · rw [if_neg e, if_neg e]
theorem i_makeStreamCredit (h : Inv w eb mb g) (hf : Fine g) (hl : g.out.length ≤ 1073741824) : Calls Tryz.prog 94 #[.pointer (some ⟨eb, 0, none⟩)] w fun e w' => MadeO w w' eb mb g g.oStream e := by
  have ho := hf.own
  refine (makeStreamCredit_any eb g.m (openS g.K g.L) g.out w h.en hf.greets h.open (by rw [openS_length]; exact hf.few) h.out hl (by omega) (by omega) (fun p hp => ?_)).mono ?_
  · obtain ⟨n, hn, rfl⟩ := List.mem_map.1 hp
    obtain ⟨q1, q2, q3, q4, q5, q6⟩ := hf.st _ (h.at hn).1
    exact ⟨by show _ ≤ (atN g.K n).st.receive; omega, by show (atN g.K n).st.receive ≤ _; omega, q2.1, q2.2, q3.1, q3.2⟩
  · intro e w' hm
    rw [firstDue_openS] at hm
    unfold GEnd.oStream
    cases hd : firstDueN g.m g.K g.L with
    | none => rw [hd] at hm; exact hm
    | some n =>
      rw [hd] at hm
      obtain ⟨he, v, hen, hst, hrow, hc, hfr⟩ := hm
      have hn := firstDueN_mem hd
      obtain ⟨hmem, hnum⟩ := h.at hn
      have hne : ∀ j, ¬ (j = eb ∨ j = (atN g.K n).sb ∨ g.m.out.ownBlock = some j) ∨ (j = eb ∨ j = (atN g.K n).sb ∨ g.m.out.ownBlock = some j) := fun j => (Classical.em _).symm
      have keep : ∀ {k : Nat} {v' : Value} {xs : List Value} {ty : TypeId}, w.ownsRow 0 ty 1 v' k xs → (∀ j, v'.ownBlock = some j → j ≠ eb ∧ j ≠ (atN g.K n).sb ∧ g.m.out.ownBlock ≠ some j) → w'.ownsRow 0 ty 1 v' k xs := fun hr hj => owns_chg hr hc (fun j hjj e => by
        obtain ⟨a, b, c⟩ := hj j hjj
        rcases e with e | e | e
        · exact a e
        · exact b e
        · exact c e)
      refine ⟨he, _, ?_, h.onSt (S := fun j => j = eb ∨ j = (atN g.K n).sb ∨ g.m.out.ownBlock = some j) (m' := { g.m with out := v }) (s := atN g.K n) (s' := (atN g.K n).granted) (L' := g.L) (o' := g.out ++ lay 6 0 n (four4 (atN g.K n).st.owed.toNat)) 0 hmem hc ?_ hen hst rfl rfl rfl rfl rfl rfl ?_ (fun j hj => Or.inl hj) (List.Sublist.refl _) ?_ ?_ ?_ (fun j hj => Or.inl hj) ?_ (fun j hj => Or.inl hj)⟩
      · rw [hnum, updN_const h.nn hmem hnum]
        rfl
      · rintro j (e | e | e)
        · exact Or.inl e
        · exact Or.inr (Or.inl e)
        · exact Or.inr (Or.inr (Or.inr (Or.inl e)))
      · exact keep h.row (fun j hj => ⟨fun e => by rw [e] at hj; exact owns_ne h.row h.en.blk (by decide) hj, fun e => by rw [e] at hj; exact owns_ne h.row (h.st hmem).blk (by decide) hj, fun e => rows_ne h.out h.row (by decide) e hj⟩)
      · have e : (atN g.K n).str.2.number = n := hnum
        rw [e] at hrow
        exact hrow
      · intro j hj
        exact (hfr j hj).imp_right fun a => ⟨a, rfl⟩
      · exact keep (h.un (atN g.K n) hmem) (fun j hj => ⟨fun e => by rw [e] at hj; exact owns_ne (h.un _ hmem) h.en.blk (by decide) hj, fun e => by rw [e] at hj; exact owns_ne (h.un _ hmem) (h.st hmem).blk (by decide) hj, fun e => h.out_un hmem hj e⟩)
      · exact keep (h.wa (atN g.K n) hmem) (fun j hj => ⟨fun e => by rw [e] at hj; exact owns_ne (h.wa _ hmem) h.en.blk (by decide) hj, fun e => by rw [e] at hj; exact owns_ne (h.wa _ hmem) (h.st hmem).blk (by decide) hj, fun e => h.out_wa hmem hj e⟩)
def lenV' (v : Value) : Nat := match v with
  | .slice _ n _ => n
  | _ => 0
theorem nextS_none {ld : Int} {f : Str → Bool} : ∀ {L : List Str}, (∀ p ∈ L, f p = false) → nextS ld f L none = none
  | [], _ => rfl
  | p :: r, h => by
    rw [nextS, if_neg (by rw [h p List.mem_cons_self]; simp)]
    exact nextS_none fun q hq => h q (List.mem_cons_of_mem _ hq)
theorem i_makeHeaders (h : Inv w eb mb g) (hf : Fine g) : Calls Tryz.prog 96 #[.pointer (some ⟨eb, 0, none⟩)] w fun e w' => e = .returned (.bool false) ∧ Below w.heap.size w w' :=
  makeHeaders_no eb g.m (openS g.K g.L) w h.en h.open (by rw [openS_length]; exact hf.few) (fun p hp => by
    obtain ⟨n, hn, rfl⟩ := List.mem_map.1 hp
    exact (hf.st _ (h.at hn).1).2.2.2.2.1)
theorem i_makeData (h : Inv w eb mb g) (hf : Fine g) : Calls Tryz.prog 97 #[.pointer (some ⟨eb, 0, none⟩)] w fun e w' => e = .returned (.bool false) ∧ Below w.heap.size w w' := by
  have ho := hf.other
  have hlen : ∀ s ∈ g.K, lenV' s.st.waiting = s.wa.length ∧ s.st.some? s.wa.length := fun s hs => by
    obtain ⟨a, c, e⟩ := slice_len (h.wa s hs)
    exact ⟨by rw [e]; rfl, a, c, e⟩
  refine makeData_no eb g.m (openS g.K g.L) (fun p => lenV' p.2.waiting) w h.en h.open (by rw [openS_length]; exact hf.few) (fun p hp => ?_) (by omega) (by omega) (fun p hp => ?_) (nextS_none fun p hp => ?_)
  all_goals
    obtain ⟨n, hn, rfl⟩ := List.mem_map.1 hp
    obtain ⟨hmem, hnum⟩ := h.at hn
    obtain ⟨q1, q2, q3, q4, q5, q6⟩ := hf.st _ hmem
    obtain ⟨e1, e2⟩ := hlen _ hmem
  · show (atN g.K n).st.some? (lenV' (atN g.K n).st.waiting)
    rw [e1]; exact e2
  · exact ⟨by show _ ≤ (atN g.K n).st.send; omega, by show (atN g.K n).st.send ≤ _; omega⟩
  · show g.m.hasD (atN g.K n).st (lenV' (atN g.K n).st.waiting) = false
    rw [e1]; exact q6
end
set_option maxRecDepth 100000 in
set_option maxHeartbeats 1600000 in
theorem i_makeNext (eb mb : Nat) (g : GEnd) (w : World) (h : Inv w eb mb g) (hf : Fine g) (hl : g.out.length ≤ 1073741824) (hlive : g.m.fault = 0) :
    Calls Tryz.prog 67 #[.pointer (some ⟨eb, 0, none⟩)] w fun e w' => MadeO w w' eb mb g g.next e := by
  have HD := hide (isDead_any eb g.m w h.en)
  have hb : (g.m.fault == 0) = true := by simp [hlive]
  rw [hb] at HD
  have H1 := hide (i_makeFirst h hf hl)
  have H2 : Hid (∀ wx, Below w.heap.size w wx → Calls Tryz.prog 90 #[.pointer (some ⟨eb, 0, none⟩)] wx fun e w' => MadeO w w' eb mb g g.oAnswer e) := fun wx hx => (i_makeAnswer eb mb g wx (h.below hx) hf hl).mono fun e w' hm => hm.pre hx
  have H3 : Hid (∀ wx, Below w.heap.size w wx → Calls Tryz.prog 91 #[.pointer (some ⟨eb, 0, none⟩)] wx fun e w' => MadeO w w' eb mb g g.oSettings e) := fun wx hx => (i_makeSettings (h.below hx) hf hl).mono fun e w' hm => hm.pre hx
  have H4 : Hid (∀ wx, Below w.heap.size w wx → Calls Tryz.prog 92 #[.pointer (some ⟨eb, 0, none⟩)] wx fun e w' => MadeO w w' eb mb g g.oPing e) := fun wx hx => (i_makePing (h.below hx) hf hl).mono fun e w' hm => hm.pre hx
  have H5 : Hid (∀ wx, Below w.heap.size w wx → Calls Tryz.prog 93 #[.pointer (some ⟨eb, 0, none⟩)] wx fun e w' => MadeO w w' eb mb g g.oCredit e) := fun wx hx => (i_makeCredit (h.below hx) hf hl).mono fun e w' hm => hm.pre hx
  have H6 : Hid (∀ wx, Below w.heap.size w wx → Calls Tryz.prog 94 #[.pointer (some ⟨eb, 0, none⟩)] wx fun e w' => MadeO w w' eb mb g g.oStream e) := fun wx hx => (i_makeStreamCredit (h.below hx) hf hl).mono fun e w' hm => hm.pre hx
  have H7 : Hid (∀ wx, Below w.heap.size w wx → Calls Tryz.prog 95 #[.pointer (some ⟨eb, 0, none⟩)] wx fun e w' => MadeO w w' eb mb g g.oReset e) := fun wx hx => (i_makeReset eb mb g wx (h.below hx) hf hl).mono fun e w' hm => hm.pre hx
  have H8 : Hid (∀ wx, Below w.heap.size w wx → Calls Tryz.prog 96 #[.pointer (some ⟨eb, 0, none⟩)] wx fun e w' => e = .returned (.bool false) ∧ Below w.heap.size w w') := fun wx hx => (i_makeHeaders (h.below hx) hf).mono fun e w' hm => ⟨hm.1, hx.trans (hm.2.mono hx.size)⟩
  have H9 : Hid (∀ wx, Below w.heap.size w wx → Calls Tryz.prog 97 #[.pointer (some ⟨eb, 0, none⟩)] wx fun e w' => e = .returned (.bool false) ∧ Below w.heap.size w w') := fun wx hx => (i_makeData (h.below hx) hf).mono fun e w' hm => ⟨hm.1, hx.trans (hm.2.mono hx.size)⟩
  have HO : Hid (g.next = g.oFirst.or (g.oAnswer.or (g.oSettings.or (g.oPing.or (g.oCredit.or (g.oStream.or g.oReset)))))) := (rfl : g.next = _)
  clear h hf hl hlive hb
  generalize g.next = N at *
  generalize g.oFirst = o1 at *
  generalize g.oAnswer = o2 at *
  generalize g.oSettings = o3 at *
  generalize g.oPing = o4 at *
  generalize g.oCredit = o5 at *
  generalize g.oStream = o6 at *
  generalize g.oReset = o7 at *
  go_enter Tryz.func67, Tryz.ntmps67
  go_wp2_with fail
  refine HD.out.mono ?_
  rintro e w1 ⟨rfl, hw1⟩
  rw [hw1]
  clear hw1 w1
  go_wp2_with fail
  refine H1.out.mono ?_
  intro e w1 hm
  cases o1 with
  | some q =>
    obtain ⟨rfl, hx⟩ := hm
    have HX := hide hx
    clear hx
    go_wp2
    go_ret
    rw [HO.out]
    exact ⟨rfl, HX.out⟩
  | none =>
    obtain ⟨rfl, hx⟩ := hm
    have HX := hide hx
    clear hx
    go_wp2_with fail
    refine (H2.out _ HX.out).mono ?_
    intro e w2 hm
    cases o2 with
    | some q =>
      obtain ⟨rfl, hx⟩ := hm
      have HX := hide hx
      clear hx
      go_wp2
      go_ret
      rw [HO.out]
      exact ⟨rfl, HX.out⟩
    | none =>
      obtain ⟨rfl, hx⟩ := hm
      have HX := hide hx
      clear hx
      go_wp2_with fail
      refine (H3.out _ HX.out).mono ?_
      intro e w3 hm
      cases o3 with
      | some q =>
        obtain ⟨rfl, hx⟩ := hm
        have HX := hide hx
        clear hx
        go_wp2
        go_ret
        rw [HO.out]
        exact ⟨rfl, HX.out⟩
      | none =>
        obtain ⟨rfl, hx⟩ := hm
        have HX := hide hx
        clear hx
        go_wp2_with fail
        refine (H4.out _ HX.out).mono ?_
        intro e w4 hm
        cases o4 with
        | some q =>
          obtain ⟨rfl, hx⟩ := hm
          have HX := hide hx
          clear hx
          go_wp2
          go_ret
          rw [HO.out]
          exact ⟨rfl, HX.out⟩
        | none =>
          obtain ⟨rfl, hx⟩ := hm
          have HX := hide hx
          clear hx
          go_wp2_with fail
          refine (H5.out _ HX.out).mono ?_
          intro e w5 hm
          cases o5 with
          | some q =>
            obtain ⟨rfl, hx⟩ := hm
            have HX := hide hx
            clear hx
            go_wp2
            go_ret
            rw [HO.out]
            exact ⟨rfl, HX.out⟩
          | none =>
            obtain ⟨rfl, hx⟩ := hm
            have HX := hide hx
            clear hx
            go_wp2_with fail
            refine (H6.out _ HX.out).mono ?_
            intro e w6 hm
            cases o6 with
            | some q =>
              obtain ⟨rfl, hx⟩ := hm
              have HX := hide hx
              clear hx
              go_wp2
              go_ret
              rw [HO.out]
              exact ⟨rfl, HX.out⟩
            | none =>
              obtain ⟨rfl, hx⟩ := hm
              have HX := hide hx
              clear hx
              go_wp2_with fail
              refine (H7.out _ HX.out).mono ?_
              intro e w7 hm
              cases o7 with
              | some q =>
                obtain ⟨rfl, hx⟩ := hm
                have HX := hide hx
                clear hx
                go_wp2
                go_ret
                rw [HO.out]
                exact ⟨rfl, HX.out⟩
              | none =>
                obtain ⟨rfl, hx⟩ := hm
                have HX := hide hx
                clear hx
                go_wp2_with fail
                refine (H8.out _ HX.out).mono ?_
                rintro e w8 ⟨rfl, hx⟩
                have HY := hide hx
                clear hx
                go_wp2_with fail
                refine (H9.out _ HY.out).mono ?_
                rintro e w9 ⟨rfl, hx⟩
                have HZ := hide hx
                clear hx
                go_wp2
                go_ret
                rw [HO.out]
                exact ⟨rfl, HZ.out⟩
end Go.Proofs.YtiphkngfbpdeoaaGreatDoor
namespace Go.Proofs.YtiphkngfbpdeoaaGreatDoor
set_option linter.unusedVariables false
set_option linter.unusedSimpArgs false
open Go.RowKit
def Runs (n : Int) (z1 : GEnd) (z2 : GEnd) : Prop := ∀ Z : GEnd → GEnd → Prop, (∀ (g : GEnd) (x1 : n ≤ g.out.length), Z g g) → (∀ (g : GEnd) (x1 : g.next = Option.none), Z g g) → (∀ (g q p : GEnd) (x1 : (g.out.length : Int) < n) (x2 : g.next = some q) (x3 : Z q p), Z g p) → Z z1 z2
theorem Runs.stop {n : Int} {g : GEnd} (x1 : n ≤ g.out.length) : Runs n g g := fun Z zk1 zk2 zk3 => zk1 g x1
theorem Runs.none {n : Int} {g : GEnd} (x1 : g.next = Option.none) : Runs n g g := fun Z zk1 zk2 zk3 => zk2 g x1
theorem Runs.step {n : Int} {g q p : GEnd} (x1 : (g.out.length : Int) < n) (x2 : g.next = some q) (x3 : Runs n q p) : Runs n g p := fun Z zk1 zk2 zk3 => zk3 g q p x1 x2 (x3 Z zk1 zk2 zk3)
theorem Runs.ind {n : Int} {motive : ∀ (z1 : GEnd) (z2 : GEnd), Runs n z1 z2 → Prop} (stop : ∀ {g : GEnd} (x1 : n ≤ g.out.length), motive g g (@Runs.stop n g x1)) (none : ∀ {g : GEnd} (x1 : g.next = Option.none), motive g g (@Runs.none n g x1)) (step : ∀ {g q p : GEnd} (x1 : (g.out.length : Int) < n) (x2 : g.next = some q) (x3 : Runs n q p) (ih : motive q p x3), motive g p (@Runs.step n g q p x1 x2 x3)) {z1 : GEnd} {z2 : GEnd} (zt : Runs n z1 z2) : motive z1 z2 zt := (zt (fun z1 z2 => ∃ zt : Runs n z1 z2, motive z1 z2 zt) (fun g x1 => ⟨_, @stop g x1⟩) (fun g x1 => ⟨_, @none g x1⟩) (fun g q p x1 x2 zy => zy.elim fun x3 zx => ⟨_, @step g q p x1 x2 x3 zx⟩)).elim fun _ zx => zx
theorem next_out {g q : GEnd} (hn : g.next = some q) : g.out.length < q.out.length := by
  have hk : ∀ l : List UInt8, ∀ k f s b, l.length < (l ++ lay k f s b).length := fun l k f s b => by rw [List.length_append, lay_length]; omega
  rcases or_some hn with hn | hn
  · unfold GEnd.oFirst at hn
    split at hn
    · cases hn
    · injection hn with hn; subst hn; exact hk _ _ _ _ _
  rcases or_some hn with hn | hn
  · unfold GEnd.oAnswer at hn
    split at hn
    · cases hn
    · injection hn with hn; subst hn; exact hk _ _ _ _ _
  rcases or_some hn with hn | hn
  · unfold GEnd.oSettings at hn
    split at hn
    · cases hn
    · injection hn with hn; subst hn; exact hk _ _ _ _ _
  rcases or_some hn with hn | hn
  · unfold GEnd.oPing at hn
    split at hn
    · injection hn with hn; subst hn; exact hk _ _ _ _ _
    · cases hn
  rcases or_some hn with hn | hn
  · unfold GEnd.oCredit at hn
    split at hn
    · injection hn with hn; subst hn; exact hk _ _ _ _ _
    · cases hn
  rcases or_some hn with hn | hn
  · unfold GEnd.oStream at hn
    cases hd : firstDueN g.m g.K g.L with
    | none => rw [hd] at hn; cases hn
    | some n => rw [hd, Option.map_some] at hn; injection hn with hn; subst hn; exact hk _ _ _ _ _
  · unfold GEnd.oReset at hn
    split at hn
    · cases hn
    · injection hn with hn; subst hn; exact hk _ _ _ _ _
theorem Runs.le {n : Int} {g p : GEnd} (h : Runs n g p) : g.out.length ≤ p.out.length := by
  induction h using Runs.ind with
  | stop _ => exact Nat.le_refl _
  | none _ => exact Nat.le_refl _
  | step _ h1 _ ih => have := next_out h1; omega
theorem next_fault {g q : GEnd} (hn : g.next = some q) : q.m.fault = g.m.fault := by
  rcases or_some hn with hn | hn
  · unfold GEnd.oFirst at hn
    split at hn
    · cases hn
    · injection hn with hn; subst hn; rfl
  rcases or_some hn with hn | hn
  · unfold GEnd.oAnswer at hn
    split at hn
    · cases hn
    · injection hn with hn; subst hn; rfl
  rcases or_some hn with hn | hn
  · unfold GEnd.oSettings at hn
    split at hn
    · cases hn
    · injection hn with hn; subst hn; rfl
  rcases or_some hn with hn | hn
  · unfold GEnd.oPing at hn
    split at hn
    · injection hn with hn; subst hn; rfl
    · cases hn
  rcases or_some hn with hn | hn
  · unfold GEnd.oCredit at hn
    split at hn
    · injection hn with hn; subst hn; rfl
    · cases hn
  rcases or_some hn with hn | hn
  · unfold GEnd.oStream at hn
    cases hd : firstDueN g.m g.K g.L with
    | none => rw [hd] at hn; cases hn
    | some n => rw [hd, Option.map_some] at hn; injection hn with hn; subst hn; rfl
  · unfold GEnd.oReset at hn
    split at hn
    · cases hn
    · injection hn with hn; subst hn; rfl
def madeLen (w : World) (eb : Nat) : Nat := match w.cell? ⟨eb, 41, none⟩ with
  | some (.slice _ n _) => n
  | _ => 0
theorem Inv.madeLen {w : World} {eb mb : Nat} {g : GEnd} (h : Inv w eb mb g) : madeLen w eb = g.out.length := by
  obtain ⟨a, c, e⟩ := slice_len h.out
  unfold Go.Proofs.YtiphkngfbpdeoaaGreatDoor.madeLen
  rw [h.en.c41, e]
def oneIf (v : Value) : Nat := match v with
  | .bool true => 1
  | _ => 0
structure Taken (w w' : World) (eb mb : Nat) (g p : GEnd) (n : Int) (e : Ending) : Prop where
  eq : ∃ s, e = .returned (.slice s (cutN n p.out.length) (cutN n p.out.length)) ∧ BytesIn w' (.slice s (cutN n p.out.length) (cutN n p.out.length)) (p.out.take (cutN n p.out.length))
  next : ∃ g', g'.bare = { p with out := p.out.drop (cutN n p.out.length) } ∧ Next w w' eb mb g g'
theorem taken_of {w w1 w' : World} {eb mb : Nat} {g c : GEnd} {n : Int} {v' : Value} {e : Ending} (hn : Next w w1 eb mb g c) (hc : CutOff w1 w' eb 41 c.m.out v' c.out (cutN n c.out.length) e) : Taken w w' eb mb g c.bare n e := by
  obtain ⟨⟨s, he, hby, -⟩, w2, hw2, hb2, hrow⟩ := hc
  refine ⟨⟨s, he, hby⟩, ?_⟩
  subst hw2
  have hi := hn.inv.below hb2
  have hset : Chg (fun j => j = eb) w2 (w2.setCell ⟨eb, 41, none⟩ v') := chg_set (Chg.refl _ _) rfl
  have hr0 : w2.ownsRow 0 5 1 v' (c.out.drop (cutN n c.out.length)).length ((c.out.drop (cutN n c.out.length)).map B) := by
    rw [List.length_drop]
    exact owns_base hrow (fun _ _ => Nat.zero_le _)
  have hcc : Chg (fun j => j = eb) w1 (w2.setCell ⟨eb, 41, none⟩ v') := (Chg.of_below hb2).trans (hset.mono fun j _ e => Or.inr e)
  have hn2 := hn.inv.onEnd (S := fun j => j = eb) (w' := w2.setCell ⟨eb, 41, none⟩ v') (m' := { c.m with out := v' }) (A' := c.ans) (R' := c.res) (o' := c.out.drop (cutN n c.out.length)) hcc (fun j e => Or.inl e) (EnB.of (blk_set hi.en.blk) rfl) rfl rfl rfl
    (owns_chg hr0 hset (fun j hj e => by rw [e] at hj; exact owns_ne hr0 hi.en.blk (by decide) hj)) (fun j hj => Or.inr (hrow.lt j hj).1) hn.inv.ans (fun _ h => h) (fun _ h => h) hn.inv.res (fun _ h => h)
  refine ⟨_, ?_, hn.trans hn2⟩
  rfl
set_option maxRecDepth 100000 in
set_option maxHeartbeats 1600000 in
theorem i_take (eb mb : Nat) (g p : GEnd) (n : Int) (w : World) (h : Inv w eb mb g) (hf : Fine g) (hlive : g.m.fault = 0) (hr : Runs n g.bare p) (hl : p.out.length ≤ 1073741824) :
    Calls Tryz.prog 50 #[.pointer (some ⟨eb, 0, none⟩), .int .i64 n] w fun e w' => Taken w w' eb mb g p n e := by
  have H := hide h
  have HF := hide hf
  have HR := hide hr
  have HL := hide hlive
  clear h hf hr hlive
  go_enter Tryz.func50, Tryz.ntmps50
  go_wp2
  go_loopw [5] (fun i wr => ∃ (wv : World) (c : GEnd) (mo : Bool), wv = wr ∧ i = .bool mo ∧ Next w wv eb mb g c ∧ Fine c ∧ c.m.fault = 0 ∧ c.out.length ≤ p.out.length ∧ (if mo then Runs n c.bare p else c.bare = p)) (fun i wr => (p.out.length - madeLen wr eb) * 2 + oneIf i)
  case atStart => exact ⟨_, g, true, rfl, rfl, Next.refl H.out, HF.out, HL.out, HR.out.le, HR.out⟩
  case round =>
    obtain ⟨wv, c, mo, hwv, rfl, hnx, hfi, hfa, hle, hmo⟩ := hrel
    subst hwv
    have c41 := hnx.inv.en.c41
    obtain ⟨sa, ca, hsl⟩ := slice_len hnx.inv.out
    rw [hsl] at c41
    have hml := hnx.inv.madeLen
    have HNX := hide hnx
    have HFI := hide hfi
    have HFA := hide hfa
    have HML := hide hml
    have HSL := hide hsl
    have HMO := hide hmo
    clear hnx hfi hfa hml hsl hmo
    have HCUT : Hid (c.bare = p → ∀ wx, wx = wv → Calls Tryz.prog 49 #[.pointer (some ⟨eb, 41, none⟩), .int .i64 n] wx fun e w' => Taken w w' eb mb g p n e) := fun hcp wx hwx => by
      subst hwx
      have hlo : c.out.length ≤ 1073741824 := by omega
      refine (ecut_any eb 41 c.m.out c.out n _ HNX.out.inv.en.c41 (HNX.out.inv.en.fr 41) HNX.out.inv.en.lt HNX.out.inv.out (fun e => owns_ne HNX.out.inv.out HNX.out.inv.en.blk (by decide) e) hlo).mono ?_
      rintro e w' ⟨v', hc⟩
      have := taken_of HNX.out hc
      rw [hcp] at this
      exact this
    cases mo with
    | false =>
      have hcp := HMO.out
      simp only [Bool.false_eq_true, if_false] at hcp
      have HC := hide (HCUT.out hcp _ rfl)
      clear hcp HCUT
      go_wp2_with fail
      refine HC.out.mono ?_
      intro e w' ht
      obtain ⟨s, he, -⟩ := ht.eq
      have HT := hide ht
      clear ht
      subst he
      go_wp2
      go_ret
      exact HT.out
    | true =>
      have hru := HMO.out
      simp only [if_true] at hru
      have HRU := hide hru
      clear hru HMO
      by_cases hlt : (c.out.length : Int) < n
      · have hlo : c.out.length ≤ 1073741824 := by omega
        have hmk := i_makeNext eb mb c wv HNX.out.inv HFI.out hlo HFA.out
        have HMK := hide hmk
        clear hmk HCUT
        go_wp2_with fail
        refine HMK.out.mono ?_
        intro e w1 hm
        have hnb := next_bare c
        cases hcn : c.next with
        | none =>
          rw [hcn] at hm hnb
          obtain ⟨rfl, hb⟩ := hm
          have hcp : c.bare = p := by
            cases HRU.out using Runs.ind with
            | stop h1 => rfl
            | none h1 => rfl
            | step h1 h2 h3 => rw [← hnb] at h2; cases h2
          have hml1 : madeLen w1 eb = c.out.length := (HNX.out.then_below hb).inv.madeLen
          have HB := hide hb
          have HCP := hide hcp
          clear hb hcp hnb hcn
          go_wp2
          all_goals go_roundw
          case rel => exact ⟨_, c, false, rfl, rfl, HNX.out.then_below HB.out, HFI.out, HFA.out, hle, by simpa using HCP.out⟩
          case measure => rw [hml1, HML.out]; simp [oneIf]
        | some q =>
          rw [hcn] at hm hnb
          obtain ⟨rfl, g', hg', hn'⟩ := hm
          have hq := HFI.out.next hcn
          have hgo : g'.out = q.out := by have := congrArg GEnd.out hg'; exact this
          have hfi' : Fine g' := Fine.of_bare (by rw [hg']; exact hq.bare)
          have hfa' : g'.m.fault = 0 := by
            have e1 : g'.m.fault = g'.bare.m.fault := rfl
            rw [e1, hg']
            show q.m.fault = 0
            rw [next_fault hcn, HFA.out]
          have hru' : Runs n g'.bare p := by
            rw [hg']
            simp only [Option.map_some] at hnb
            cases HRU.out using Runs.ind with
            | stop h1 => exact absurd (show n ≤ (c.out.length : Int) from h1) (by omega)
            | none h1 => rw [← hnb] at h1; cases h1
            | step h1 h2 h3 =>
              rw [← hnb] at h2
              injection h2 with h2
              rw [h2]
              exact h3
          have hlt' := next_out hcn
          have hml1 : madeLen w1 eb = g'.out.length := hn'.inv.madeLen
          have hle' := hru'.le
          rw [show g'.bare.out = g'.out from rfl] at hle'
          rw [hgo] at hml1 hle'
          have HN' := hide hn'
          have HFI' := hide hfi'
          have HFA' := hide hfa'
          have HRU' := hide hru'
          have HGO := hide hgo
          clear hn' hfi' hfa' hru' hnb hcn hq hg' hgo
          go_wp2
          all_goals go_roundw
          case rel => exact ⟨_, g', true, rfl, rfl, HNX.out.trans HN'.out, HFI'.out, HFA'.out, by rw [HGO.out]; exact hle', by simpa using HRU'.out⟩
          case measure => rw [hml1, HML.out]; simp [oneIf]; omega
      · have hcp : c.bare = p := by
          cases HRU.out using Runs.ind with
          | stop h1 => rfl
          | none h1 => rfl
          | step h1 h2 h3 => exact absurd (show (c.out.length : Int) < n from h1) hlt
        have HC := hide (HCUT.out hcp _ rfl)
        clear hcp HCUT HRU
        go_wp2_with fail
        refine HC.out.mono ?_
        intro e w' ht
        obtain ⟨s, he, -⟩ := ht.eq
        have HT := hide ht
        clear ht
        subst he
        go_wp2
        go_ret
        exact HT.out
set_option maxHeartbeats 400000 in
theorem x_take (eb mb : Nat) (g p : GEnd) (n : Int) (w : World) (h : Inv w eb mb g) (hf : Fine g) (hlive : g.m.fault = 0) (hr : Runs n g.bare p) (hl : p.out.length ≤ 1073741824) :
    Calls Tryz.prog 29 #[.pointer (some ⟨eb, 0, none⟩), .int .i64 n] w fun e w' => Taken w w' eb mb g p n e := by
  have HC := hide (i_take eb mb g p n w h hf hlive hr hl)
  clear h hf hr hl hlive
  go_enter Tryz.func29, Tryz.ntmps29
  go_wp2_with fail
  refine HC.out.mono ?_
  intro e w' ht
  obtain ⟨s, he, -⟩ := ht.eq
  have HT := hide ht
  clear ht
  subst he
  go_wp2
  go_ret
  exact HT.out
end Go.Proofs.YtiphkngfbpdeoaaGreatDoor
namespace Go.Proofs.YtiphkngfbpdeoaaGreatDoor
set_option linter.unusedVariables false
set_option linter.unusedSimpArgs false
open Go.RowKit
theorem step_fault_ne {got : List UInt8} {c : UInt8} {code : Int} (h : step got c = .fault code) : code ≠ 0 := by
  rcases step_fault h with ⟨-, h1, rfl⟩ | ⟨-, -, -, h1, rfl⟩
  · exact h1
  · exact h1
theorem feed_none {got l g' : List UInt8} (h : feed got l = ([], ⟨g', 0⟩)) : g' = got ++ l := by
  induction l generalizing got with
  | nil =>
    unfold feed at h
    simp only [Prod.mk.injEq, true_and, Rd.mk.injEq, and_true] at h
    rw [← h, List.append_nil]
  | cons c r ih =>
    unfold feed at h
    cases hs : step got c with
    | inl x =>
      rw [hs] at h
      cases x with
      | inl g1 =>
        simp only at h
        have h1 := ih h
        obtain ⟨h2, -⟩ := step_more hs
        rw [h1, h2]
        simp
      | inr f => simp at h
    | inr code =>
      rw [hs] at h
      simp only [Prod.mk.injEq, true_and, Rd.mk.injEq] at h
      exact absurd h.2 (step_fault_ne hs)
theorem feedR_of_feed {p q : GEnd} {f : Fr} (hg : p.m.greeted = 7) (hf : p.m.fault = 0) (hc : Come { p with got := [] } f q) : ∀ (l got : List UInt8), feed got l = ([f], ⟨[], 0⟩) → FeedR { p with got := got } l q := by
  intro l
  induction l with
  | nil =>
    intro got h
    unfold feed at h
    simp at h
  | cons c r ih =>
    intro got h
    unfold feed at h
    cases hs : step got c with
    | inl x =>
      rw [hs] at h
      cases x with
      | inl g1 => exact .more hg hf hs (ih g1 h)
      | inr f1 =>
        simp only [Prod.mk.injEq, List.cons.injEq] at h
        obtain ⟨⟨h1, h2⟩, h3⟩ := h
        subst h1
        have h4 : feed [] r = ([], ⟨[], 0⟩) := by rw [← h2, ← h3]
        have h5 := feed_none h4
        simp at h5
        subst h5
        exact .frame hg hf hs hc .nil
    | inr code =>
      rw [hs] at h
      simp at h
theorem feedR_lay {p q : GEnd} {k f s : Int} {body : List UInt8} (hr : Right k f s body) (hg : p.m.greeted = 7) (hf : p.m.fault = 0) (hgot : p.got = []) (hc : Come p ⟨k, f, s, body⟩ q) : FeedR p (lay k f s body) q := by
  have e : p = { p with got := [] } := by rw [← hgot]
  rw [e] at hc
  have := feedR_of_feed hg hf hc (lay k f s body) [] (feed_right hr)
  rw [e]
  exact this
theorem feedR_greet {p : GEnd} (hg : p.m.greeted = 0) (hf : p.m.fault = 0) : FeedR p greetB { p with m := { p.m with greeted := 7 } } := by
  refine .greet (k := 0) hg (by omega) hf rfl ?_
  refine .greet (k := 1) rfl (by omega) hf rfl ?_
  refine .greet (k := 2) rfl (by omega) hf rfl ?_
  refine .greet (k := 3) rfl (by omega) hf rfl ?_
  refine .greet (k := 4) rfl (by omega) hf rfl ?_
  refine .greet (k := 5) rfl (by omega) hf rfl ?_
  refine .greet (k := 6) rfl (by omega) hf rfl ?_
  exact .nil
end Go.Proofs.YtiphkngfbpdeoaaGreatDoor
namespace Go.Proofs.YtiphkngfbpdeoaaGreatDoor
set_option linter.unusedVariables false
set_option linter.unusedSimpArgs false
open Go.RowKit
def StE (w : World) (eb : Nat) (F : Nat → Prop) (p : GEnd) : Prop := ∃ mb g, Inv w eb mb g ∧ RdOk g ∧ g.bare = p ∧ ∀ j, F j ↔ Foot eb mb g j
def GoE (w w' : World) (eb : Nat) (F : Nat → Prop) (p : GEnd) : Prop := ∃ F', StE w' eb F' p ∧ Chg F w w' ∧ ∀ j, F' j → F j ∨ w.heap.size ≤ j
section
variable {w w' : World} {eb : Nat} {F : Nat → Prop} {p : GEnd}
theorem GoE.of {mb : Nat} {g g' : GEnd} {p' : GEnd} (hF : ∀ j, F j ↔ Foot eb mb g j) (hn : Next w w' eb mb g g') (hr : RdOk g') (hp : g'.bare = p') : GoE w w' eb F p' :=
  ⟨Foot eb mb g', ⟨mb, g', hn.inv, hr, hp, fun j => Iff.rfl⟩, hn.chg.mono fun j _ e => (hF j).2 e, fun j hj => (hn.grow j hj).imp_left (hF j).2⟩
theorem StE.lt (h : StE w eb F p) {j : Nat} (hj : F j) : j < w.heap.size := by
  obtain ⟨mb, g, hi, -, -, hF⟩ := h
  exact Foot.lt hi ((hF j).1 hj)
theorem StE.below (h : StE w eb F p) (hb : Below w.heap.size w w') : StE w' eb F p := by
  obtain ⟨mb, g, hi, hr, hp, hF⟩ := h
  exact ⟨mb, g, hi.below hb, hr, hp, hF⟩
theorem StE.chg {S : Nat → Prop} (h : StE w eb F p) (hc : Chg S w w') (hs : ∀ j, F j → ¬ S j) : StE w' eb F p := by
  obtain ⟨mb, g, hi, hr, hp, hF⟩ := h
  exact ⟨mb, g, hi.chg hc (fun j hj => hs j ((hF j).2 hj)), hr, hp, hF⟩
theorem bare_got {g : GEnd} (hp : g.bare = p) (h : p.got = []) : g.got = [] := by
  rw [← hp] at h
  exact h
theorem c_feed {q : GEnd} {bv : Value} {l : List UInt8} (h : StE w eb F p) (hf : FeedR p l q) (hq : q.m.fault = 0) (hgl : Gl w) (hge : ∀ j, j < 7 → ¬ F j) (hb : BytesIn w bv l) (hbn : ∀ j, bv.ownBlock = some j → ¬ F j) (hl : l.length ≤ 268435456) :
    Calls Tryz.prog 8 #[.pointer (some ⟨eb, 0, none⟩), bv] w fun e w' => e = .returned (.int .i64 0) ∧ GoE w w' eb F q := by
  obtain ⟨mb, g, hi, hr, hp, hF⟩ := h
  rw [← hp] at hf
  refine (x_feed eb mb g q bv l w hi hr hf hq hgl (fun j hj e => hge j hj ((hF j).2 e)) hb (fun j hj e => hbn j hj ((hF j).2 e)) hl).mono ?_
  rintro e w' ⟨rfl, g', h1, h2, h3⟩
  exact ⟨rfl, GoE.of hF h3 h2 h1⟩
theorem c_take {p' : GEnd} {n : Int} (h : StE w eb F p) (hf : Fine p) (hg : p.got = []) (hg' : p'.got = []) (hl : p.m.fault = 0) (hr : Runs n p p') (ho : p'.out.length ≤ 1073741824) :
    Calls Tryz.prog 29 #[.pointer (some ⟨eb, 0, none⟩), .int .i64 n] w fun e w' => (∃ s, e = .returned (.slice s (cutN n p'.out.length) (cutN n p'.out.length)) ∧ BytesIn w' (.slice s (cutN n p'.out.length) (cutN n p'.out.length)) (p'.out.take (cutN n p'.out.length))) ∧ GoE w w' eb F { p' with out := p'.out.drop (cutN n p'.out.length) } := by
  obtain ⟨mb, g, hi, hrd, hp, hF⟩ := h
  have hf' : Fine g := Fine.of_bare (by rw [hp]; exact hf)
  have hl' : g.m.fault = 0 := by rw [← hp] at hl; exact hl
  refine (x_take eb mb g p' n w hi hf' hl' (by rw [hp]; exact hr) ho).mono ?_
  rintro e w' ⟨h1, g', h2, h3⟩
  exact ⟨h1, GoE.of hF h3 (RdOk.nil (bare_got h2 hg')) h2⟩
theorem stE_at {mb : Nat} {g : GEnd} (hi : Inv w eb mb g) (hp : g.bare = p) {s : GSt} (hs : s ∈ p.K) : ∃ x ∈ g.K, x.bare = s ∧ findK (g.K.map GSt.str) s.st.number = some x.str := by
  obtain ⟨x, hx, rfl⟩ := mem_bare hp hs
  exact ⟨x, hx, rfl, hi.find hx⟩
theorem c_read_reset {s : GSt} {n : Int} (h : StE w eb F p) (hs : s ∈ p.K) (hr : s.st.reset ≠ 0) (hn : 0 ≤ n) :
    Calls Tryz.prog 10 #[.pointer (some ⟨eb, 0, none⟩), .int .i64 s.st.number, .int .i64 n] w fun e w' => e = .returned (.tuple #[.slice none 0 0, .bool false, .int .i64 6]) ∧ w' = w := by
  obtain ⟨mb, g, hi, hrd, hp, hF⟩ := h
  obtain ⟨x, hx, rfl, hfi⟩ := stE_at hi hp hs
  have hc := xRead_of (R := fun a b c w' => (a = .slice none 0 0 ∧ b = .bool false ∧ c = .int .i64 6) ∧ w' = w) eb x.st.number n w ((eRead_reset eb mb g.m _ x.st.number n x.str w hi.en hi.km hi.kn hn hfi hr).mono fun e w' h => ⟨_, _, _, h.1, ⟨rfl, rfl, rfl⟩, h.2⟩)
  refine hc.mono ?_
  rintro e w' ⟨a, b, c, rfl, ⟨rfl, rfl, rfl⟩, hw⟩
  exact ⟨rfl, hw⟩
theorem c_write_reset {s : GSt} {bv : Value} (h : StE w eb F p) (hs : s ∈ p.K) (hr : s.st.reset ≠ 0) (hl : p.m.fault = 0) :
    Calls Tryz.prog 21 #[.pointer (some ⟨eb, 0, none⟩), .int .i64 s.st.number, bv] w fun e w' => e = .returned (.tuple #[.int .i64 0, .int .i64 6]) ∧ w' = w := by
  obtain ⟨mb, g, hi, hrd, hp, hF⟩ := h
  obtain ⟨x, hx, rfl, hfi⟩ := stE_at hi hp hs
  have hl' : g.m.fault = 0 := by rw [← hp] at hl; exact hl
  have hr' : x.st.reset ≠ 0 := hr
  have hw6 : g.m.wcode (findK (g.K.map GSt.str) x.st.number) = 6 := by
    have hfi' : findK (g.K.map GSt.str) x.st.number = some x.str := hfi
    rw [hfi']
    simp [EndM.wcode, hl', GSt.str, hr']
  have he := eWrite_no eb mb g.m _ x.st.number bv w hi.en hi.km hi.kn (by rw [hw6]; omega)
  rw [hw6] at he
  have hc := xWrite_of (R := fun a c w' => (a = .int .i64 0 ∧ c = .int .i64 6) ∧ w' = w) eb x.st.number bv w (he.mono fun e w' h => ⟨_, _, h.1, ⟨rfl, rfl⟩, h.2⟩)
  refine hc.mono ?_
  rintro e w' ⟨a, c, rfl, ⟨rfl, rfl⟩, hw⟩
  exact ⟨rfl, hw⟩
theorem c_close_reset {s : GSt} (h : StE w eb F p) (hs : s ∈ p.K) (hr : s.st.reset ≠ 0) (hl : p.m.fault = 0) :
    Calls Tryz.prog 32 #[.pointer (some ⟨eb, 0, none⟩), .int .i64 s.st.number] w fun e w' => e = .returned (.int .i64 6) ∧ w' = w := by
  obtain ⟨mb, g, hi, hrd, hp, hF⟩ := h
  obtain ⟨x, hx, rfl, hfi⟩ := stE_at hi hp hs
  have hl' : g.m.fault = 0 := by rw [← hp] at hl; exact hl
  have hr' : x.st.reset ≠ 0 := hr
  have hfi' : findK (g.K.map GSt.str) x.st.number = some x.str := hfi
  have hw6 : g.m.wcode (some x.str) = 6 := by simp [EndM.wcode, hl', GSt.str, hr']
  have hc := xClose_any eb mb g.m _ x.st.number w hi.en hi.km hi.kn
  refine hc.mono ?_
  intro e w' hcl
  unfold Closed at hcl
  rw [hfi'] at hcl
  simp [hw6] at hcl
  exact hcl
end
end Go.Proofs.YtiphkngfbpdeoaaGreatDoor
namespace Go.Proofs.YtiphkngfbpdeoaaGreatDoor
set_option linter.unusedVariables false
set_option linter.unusedSimpArgs false
open Go.RowKit
set_option maxHeartbeats 400000 in
theorem xReset_of (eb : Nat) (n : Int) (w : World) {R : Int → World → Prop} (h : Calls Tryz.prog 45 #[.pointer (some ⟨eb, 0, none⟩), .int .i64 n] w fun e w' => ∃ a, e = .returned (.int .i64 a) ∧ R a w') :
    Calls Tryz.prog 22 #[.pointer (some ⟨eb, 0, none⟩), .int .i64 n] w fun e w' => ∃ a, e = .returned (.int .i64 a) ∧ R a w' := by
  have HC := hide h
  clear h
  go_enter Tryz.func22, Tryz.ntmps22
  go_wp2_with fail
  refine HC.out.mono ?_
  rintro e w' ⟨a, rfl, h⟩
  have H := hide h
  clear h
  go_wp2
  go_ret
  exact ⟨a, rfl, H.out⟩
section
variable {w w' : World} {eb : Nat} {F : Nat → Prop} {p : GEnd}
theorem c_reset_reset {s : GSt} (h : StE w eb F p) (hs : s ∈ p.K) (hr : s.st.reset ≠ 0) (hl : p.m.fault = 0) :
    Calls Tryz.prog 22 #[.pointer (some ⟨eb, 0, none⟩), .int .i64 s.st.number] w fun e w' => e = .returned (.int .i64 6) ∧ w' = w := by
  obtain ⟨mb, g, hi, hrd, hp, hF⟩ := h
  obtain ⟨x, hx, rfl, hfi⟩ := stE_at hi hp hs
  have hl' : g.m.fault = 0 := by rw [← hp] at hl; exact hl
  have hr' : x.st.reset ≠ 0 := hr
  have hw6 : g.m.xcode (findK (g.K.map GSt.str) x.st.number) = 6 := by
    have hfi' : findK (g.K.map GSt.str) x.st.number = some x.str := hfi
    rw [hfi']
    simp [EndM.xcode, hl', GSt.str, hr']
  have he := eReset_no eb mb g.m _ x.st.number w hi.en hi.km hi.kn (by rw [hw6]; omega)
  rw [hw6] at he
  have hc := xReset_of (R := fun a w' => a = 6 ∧ w' = w) eb x.st.number w (he.mono fun e w' h => ⟨_, h.1, rfl, h.2⟩)
  refine hc.mono ?_
  rintro e w' ⟨a, rfl, rfl, hw⟩
  exact ⟨rfl, hw⟩
theorem c_reset_first {k : Nat} (h : StE w eb F p) (hk : k < p.L.length) (hl : p.m.fault = 0) (hg : p.got = []) (ha : (atN p.K p.L[k]).st.announced = true) (hr : (atN p.K p.L[k]).st.reset = 0) (hcl : (atN p.K p.L[k]).st.closed = false) (hv : p.m.resets = .slice none 0 0) (hres : p.res = []) (hL : p.L.length ≤ 1048576) (hul : (atN p.K p.L[k]).un.length ≤ 1048576) (b : -1099511627776 ≤ p.m.owed ∧ p.m.owed ≤ 1099511627776) :
    Calls Tryz.prog 22 #[.pointer (some ⟨eb, 0, none⟩), .int .i64 p.L[k]] w fun e w' => e = .returned (.int .i64 0) ∧ GoE w w' eb F { p with m := { p.m.owes (atN p.K p.L[k]).un.length with resets := .tuple #[] }, K := updN p.L[k] (fun s => s.drop 1) p.K, L := p.L.eraseIdx k, res := [p.L[k]] } := by
  obtain ⟨mb, g, hi, hrd, hp, hF⟩ := h
  have hL1 : g.L = p.L := by have := congrArg GEnd.L hp; exact this
  have hk1 : k < g.L.length := by rw [hL1]; exact hk
  have hLk : g.L[k] = p.L[k] := by simp only [hL1]
  have hK1 : g.K.map GSt.bare = p.K := by have := congrArg GEnd.K hp; exact this
  have hat : (atN g.K p.L[k]).bare = atN p.K p.L[k] := by rw [← hK1, atN_bare]
  have q1 : (atN g.K p.L[k]).st.announced = true := by
    have : (atN g.K p.L[k]).bare.st.announced = true := by rw [hat]; exact ha
    exact this
  have q2 : (atN g.K p.L[k]).st.closed = false := by
    have : (atN g.K p.L[k]).bare.st.closed = false := by rw [hat]; exact hcl
    exact this
  have q3 : (atN g.K p.L[k]).un = (atN p.K p.L[k]).un := by
    have : (atN g.K p.L[k]).bare.un = (atN p.K p.L[k]).un := by rw [hat]
    exact this
  have q4 : (atN g.K p.L[k]).st.reset = 0 := by
    have : (atN g.K p.L[k]).bare.st.reset = 0 := by rw [hat]; exact hr
    exact this
  have m1 : g.m.fault = 0 := by have := congrArg (fun x : GEnd => x.m.fault) hp; exact this.trans hl
  have m2 : g.m.owed = p.m.owed := by have := congrArg (fun x : GEnd => x.m.owed) hp; exact this
  have m3 : g.m.resets = .slice none 0 0 := by
    have e2 : nilV g.m.resets = .slice none 0 0 := by have := congrArg (fun x : GEnd => x.m.resets) hp; exact this.trans hv
    rcases hi.res.2 with ⟨h1, -⟩ | ⟨a1, a2, a3, a4, h1, -⟩
    · exact h1
    · rw [h1] at e2; cases e2
  have m4 : g.res = [] := by have := congrArg GEnd.res hp; exact this.trans hres
  rw [← hLk] at q1 q2 q3 q4
  have he := eReset_first eb mb g k w hi hk1 m1 q1 q4 q2 m3 m4 (by rw [hL1]; exact hL) (by rw [q3, hLk]; exact hul) (by rw [m2]; exact b)
  rw [hLk] at he q3
  have hc := xReset_of (R := fun a w' => a = 0 ∧ GoE w w' eb F { p with m := { p.m.owes (atN p.K p.L[k]).un.length with resets := .tuple #[] }, K := updN p.L[k] (fun s => s.drop 1) p.K, L := p.L.eraseIdx k, res := [p.L[k]] }) eb p.L[k] w (he.mono fun e w' h => by
    obtain ⟨h1, g', h2, h3⟩ := h
    refine ⟨_, h1, rfl, ?_⟩
    have e3 : g'.bare = { p with m := { p.m.owes (atN p.K p.L[k]).un.length with resets := .tuple #[] }, K := updN p.L[k] (fun s => s.drop 1) p.K, L := p.L.eraseIdx k, res := [p.L[k]] } := by
      rw [h2, q3, hL1]
      have e4 : ({ g with m := { g.m.owes (atN p.K p.L[k]).un.length with resets := .tuple #[] }, K := updN p.L[k] (fun s => s.drop 1) g.K, L := p.L.eraseIdx k, res := [p.L[k]] } : GEnd).bare = { g.bare with m := { g.bare.m.owes (atN p.K p.L[k]).un.length with resets := .tuple #[] }, K := updN p.L[k] (fun s => s.drop 1) g.bare.K, L := p.L.eraseIdx k, res := [p.L[k]] } := by
        unfold GEnd.bare
        simp only [GEnd.mk.injEq, true_and, and_true]
        exact ⟨rfl, updN_bare _ (fun s => s.drop 1) (fun s => rfl) _⟩
      rw [e4, hp]
    exact GoE.of hF h3 (RdOk.nil (bare_got e3 hg)) e3)
  refine hc.mono ?_
  rintro e w' ⟨a, rfl, rfl, hgo⟩
  exact ⟨rfl, hgo⟩
def GSt.wrote (s : GSt) (b : List UInt8) : GSt := { s with wa := s.wa ++ b.take (roomN b.length s.wa.length) }
theorem c_write_ok {s : GSt} {sb : Option Addr} {cb : Nat} {b : List UInt8} (h : StE w eb F p) (hs : s ∈ p.K) (hl : p.m.fault = 0) (hg : p.got = []) (hr : s.st.reset = 0) (hla : s.st.last = false) (hsh : s.st.shut = false) (hwl : s.wa.length ≤ 100) (hb : BytesIn w (.slice sb b.length cb) b) (hbl : b.length ≤ 1073741824) :
    Calls Tryz.prog 21 #[.pointer (some ⟨eb, 0, none⟩), .int .i64 s.st.number, .slice sb b.length cb] w fun e w' => e = .returned (.tuple #[.int .i64 (roomN b.length s.wa.length), .int .i64 0]) ∧ GoE w w' eb F { p with K := updN s.st.number (fun s => s.wrote b) p.K } := by
  obtain ⟨mb, g, hi, hrd, hp, hF⟩ := h
  obtain ⟨x, hx, rfl, hfi⟩ := stE_at hi hp hs
  have hl' : g.m.fault = 0 := by rw [← hp] at hl; exact hl
  have hfi' : findK (g.K.map GSt.str) x.st.number = some x.str := hfi
  have q1 : x.st.reset = 0 := hr
  have q2 : x.st.last = false := hla
  have q3 : x.st.shut = false := hsh
  have hw0 : g.m.wcode (some x.str) = 0 := by simp [EndM.wcode, hl', GSt.str, q1, q2, q3]
  have he := eWrite_ok eb mb g.m _ x.st.number x.str sb cb x.wa b w hi.en hi.km hi.kn hfi' hw0 (hi.wa x hx) hwl hb hbl (fun e => owns_ne (hi.wa x hx) (hi.st hx).blk (by decide) e)
  have hc := xWrite_of (R := fun a c w' => (a = .int .i64 (roomN b.length x.wa.length) ∧ c = .int .i64 0) ∧ GoE w w' eb F { p with K := updN x.st.number (fun s => s.wrote b) p.K }) eb x.st.number (.slice sb b.length cb) w (he.mono fun e w' h => by
    obtain ⟨h1, v, hW⟩ := h
    refine ⟨_, _, h1, ⟨rfl, rfl⟩, ?_⟩
    have keep : ∀ {k : Nat} {v' : Value} {xs : List Value} {ty : TypeId}, w.ownsRow 0 ty 1 v' k xs → (∀ j, v'.ownBlock = some j → j ≠ x.sb ∧ x.st.waiting.ownBlock ≠ some j) → w'.ownsRow 0 ty 1 v' k xs := fun hr hj => owns_chg hr hW.chg (fun j hjj e => by
      obtain ⟨a, b⟩ := hj j hjj
      rcases e with e | e
      · exact a e
      · exact b e)
    have hn := hi.onSt (S := fun j => j = x.sb ∨ x.st.waiting.ownBlock = some j) (m' := g.m) (s := x) (s' := ⟨x.sb, { x.st with waiting := v }, x.un, x.wa ++ b.take (roomN b.length x.wa.length)⟩) (L' := g.L) (o' := g.out) (4 + 2 * x.sb) hx hW.chg (by
        rintro j (e | e)
        · exact Or.inr (Or.inl e)
        · exact Or.inr (Or.inr (Or.inr (Or.inr (Or.inr e))))) (hi.en.chg hW.chg (by
        rintro (e | e)
        · exact hi.st_eb hx e.symm
        · exact owns_ne (hi.wa x hx) hi.en.blk (by decide) e)) hW.st rfl rfl rfl rfl rfl rfl
      (keep hi.row (fun j hj => ⟨fun e => by rw [e] at hj; exact owns_ne hi.row (hi.st hx).blk (by decide) hj, fun e => rows_ne (hi.wa x hx) hi.row (by decide) e hj⟩)) (fun j hj => Or.inl hj) (List.Sublist.refl _)
      (keep hi.out (fun j hj => ⟨fun e => by rw [e] at hj; exact owns_ne hi.out (hi.st hx).blk (by decide) hj, fun e => hi.out_wa hx e hj⟩)) (fun j hj => Or.inl hj)
      (keep (hi.un x hx) (fun j hj => ⟨fun e => by rw [e] at hj; exact owns_ne (hi.un x hx) (hi.st hx).blk (by decide) hj, fun e => hi.un_wa hx hx hj e⟩)) (fun j hj => Or.inl hj)
      hW.row (fun j hj => (hW.fresh j hj).imp_right fun a => ⟨a, rfl⟩)
    refine GoE.of hF hn ?_ ?_
    · exact RdOk.nil (show g.got = [] from bare_got hp hg)
    · rw [← hp]
      unfold GEnd.bare
      simp only [GEnd.mk.injEq, true_and, and_true]
      rw [← updN_bare _ (fun s => s.wrote b) (fun s => rfl), ← updN_const (f := fun s => s.wrote b) hi.nn hx rfl]
      unfold updN
      rw [List.map_map, List.map_map]
      apply List.map_congr_left
      intro y hy
      show (if y.st.number = x.st.number then _ else y).bare = (if y.st.number = x.st.number then _ else y).bare
      split <;> rfl)
  refine hc.mono ?_
  rintro e w' ⟨a, c, rfl, ⟨rfl, rfl⟩, hgo⟩
  exact ⟨rfl, hgo⟩
def GSt.took (s : GSt) (k : Nat) : GSt := { s with st := { s.st with owed := s.st.owed + k }, un := s.un.drop k }
theorem c_read_any {s : GSt} {n : Int} (h : StE w eb F p) (hs : s ∈ p.K) (hl : p.m.fault = 0 ∨ s.st.hasAll = true ∨ 0 < s.un.length) (hg : p.got = []) (hr : s.st.reset = 0) (hn : 0 ≤ n) (hu : s.un.length ≤ 1048576) (b1 : -1099511627776 ≤ p.m.owed ∧ p.m.owed ≤ 1099511627776) (b2 : -1099511627776 ≤ s.st.owed ∧ s.st.owed ≤ 1099511627776) :
    Calls Tryz.prog 10 #[.pointer (some ⟨eb, 0, none⟩), .int .i64 s.st.number, .int .i64 n] w fun e w' => (∃ a, e = .returned (.tuple #[.slice a (cutN n s.un.length) (cutN n s.un.length), .bool (s.st.hasAll && (s.un.length - cutN n s.un.length == 0)), .int .i64 0]) ∧ BytesIn w' (.slice a (cutN n s.un.length) (cutN n s.un.length)) (s.un.take (cutN n s.un.length))) ∧ GoE w w' eb F { p with m := p.m.owes (cutN n s.un.length), K := updN s.st.number (fun x => x.took (cutN n s.un.length)) p.K } := by
  obtain ⟨mb, g, hi, hrd, hp, hF⟩ := h
  obtain ⟨x, hx, rfl, hfi⟩ := stE_at hi hp hs
  have hl' : g.m.fault = 0 ∨ x.str.2.hasAll = true ∨ 0 < x.un.length := by rw [← hp] at hl; exact hl
  have m2 : g.m.owed = p.m.owed := by have := congrArg (fun x : GEnd => x.m.owed) hp; exact this
  have q1 : x.st.owed = x.bare.st.owed := rfl
  have hfi' : findK (g.K.map GSt.str) x.st.number = some x.str := hfi
  have he := eRead_ok eb mb g.m _ x.st.number n x.str x.un w hi.en hi.km hi.kn hn hfi' hr hl' (hi.un x hx) hu (by omega) (by omega) (by rw [show x.str.2.owed = x.bare.st.owed from rfl]; omega) (by rw [show x.str.2.owed = x.bare.st.owed from rfl]; omega)
  have hc := xRead_of (R := fun a b c w' => (∃ s, a = .slice s (cutN n x.un.length) (cutN n x.un.length) ∧ b = .bool (x.st.hasAll && (x.un.length - cutN n x.un.length == 0)) ∧ c = .int .i64 0 ∧ BytesIn w' (.slice s (cutN n x.un.length) (cutN n x.un.length)) (x.un.take (cutN n x.un.length))) ∧ GoE w w' eb F { p with m := p.m.owes (cutN n x.un.length), K := updN x.st.number (fun y => y.took (cutN n x.un.length)) p.K }) eb x.st.number n w (he.mono fun e w' h => by
    obtain ⟨v, hR⟩ := h
    obtain ⟨s, h1, h2, -⟩ := hR.eq
    refine ⟨_, _, _, h1, ⟨s, rfl, rfl, rfl, h2⟩, ?_⟩
    have keep : ∀ {k : Nat} {v' : Value} {xs : List Value} {ty : TypeId}, w.ownsRow 0 ty 1 v' k xs → (∀ j, v'.ownBlock = some j → j ≠ eb ∧ j ≠ x.sb) → w'.ownsRow 0 ty 1 v' k xs := fun hr hj => owns_chg hr hR.chg (fun j hjj e => by
      obtain ⟨a, b⟩ := hj j hjj
      rcases e with e | e
      · exact a e
      · exact b e)
    have hrow : w'.ownsRow 0 5 1 v (x.un.drop (cutN n x.un.length)).length ((x.un.drop (cutN n x.un.length)).map B) := by
      rw [List.length_drop]
      exact owns_base hR.row (fun _ _ => Nat.zero_le _)
    have hn := hi.onSt (S := fun j => j = eb ∨ j = x.sb) (m' := g.m.owes (cutN n x.un.length)) (s := x) (s' := ⟨x.sb, x.st.taken (cutN n x.un.length) v, x.un.drop (cutN n x.un.length), x.wa⟩) (L' := g.L) (o' := g.out) (3 + 2 * x.sb) hx hR.chg (by
        rintro j (e | e)
        · exact Or.inl e
        · exact Or.inr (Or.inl e)) hR.en hR.st rfl rfl rfl rfl rfl rfl
      (keep hi.row (fun j hj => ⟨fun e => by rw [e] at hj; exact owns_ne hi.row hi.en.blk (by decide) hj, fun e => by rw [e] at hj; exact owns_ne hi.row (hi.st hx).blk (by decide) hj⟩)) (fun j hj => Or.inl hj) (List.Sublist.refl _)
      (keep hi.out (fun j hj => ⟨fun e => by rw [e] at hj; exact owns_ne hi.out hi.en.blk (by decide) hj, fun e => by rw [e] at hj; exact owns_ne hi.out (hi.st hx).blk (by decide) hj⟩)) (fun j hj => Or.inl hj)
      hrow (fun j hj => Or.inr ⟨(hR.row.lt j hj).1, rfl⟩)
      (keep (hi.wa x hx) (fun j hj => ⟨fun e => by rw [e] at hj; exact owns_ne (hi.wa x hx) hi.en.blk (by decide) hj, fun e => by rw [e] at hj; exact owns_ne (hi.wa x hx) (hi.st hx).blk (by decide) hj⟩)) (fun j hj => Or.inl hj)
    refine GoE.of hF hn ?_ ?_
    · exact RdOk.nil (show g.got = [] from bare_got hp hg)
    · rw [← hp]
      unfold GEnd.bare
      simp only [GEnd.mk.injEq, true_and, and_true]
      refine ⟨rfl, ?_⟩
      rw [← updN_bare _ (fun y => y.took (cutN n x.un.length)) (fun s => rfl), ← updN_const (f := fun y => y.took (cutN n x.un.length)) hi.nn hx rfl]
      unfold updN
      rw [List.map_map, List.map_map]
      apply List.map_congr_left
      intro y hy
      show (if y.st.number = x.st.number then _ else y).bare = (if y.st.number = x.st.number then _ else y).bare
      split <;> rfl)
  refine hc.mono ?_
  rintro e w' ⟨a, b, c, rfl, ⟨s, rfl, rfl, rfl, hby⟩, hgo⟩
  exact ⟨⟨s, rfl, hby⟩, hgo⟩
theorem c_read_ok {s : GSt} {n : Int} (h : StE w eb F p) (hs : s ∈ p.K) (hl : p.m.fault = 0) (hg : p.got = []) (hr : s.st.reset = 0) (hn : 0 ≤ n) (hu : s.un.length ≤ 1048576) (b1 : -1099511627776 ≤ p.m.owed ∧ p.m.owed ≤ 1099511627776) (b2 : -1099511627776 ≤ s.st.owed ∧ s.st.owed ≤ 1099511627776) :
    Calls Tryz.prog 10 #[.pointer (some ⟨eb, 0, none⟩), .int .i64 s.st.number, .int .i64 n] w fun e w' => (∃ a, e = .returned (.tuple #[.slice a (cutN n s.un.length) (cutN n s.un.length), .bool (s.st.hasAll && (s.un.length - cutN n s.un.length == 0)), .int .i64 0]) ∧ BytesIn w' (.slice a (cutN n s.un.length) (cutN n s.un.length)) (s.un.take (cutN n s.un.length))) ∧ GoE w w' eb F { p with m := p.m.owes (cutN n s.un.length), K := updN s.st.number (fun x => x.took (cutN n s.un.length)) p.K } := c_read_any h hs (Or.inl hl) hg hr hn hu b1 b2
end
end Go.Proofs.YtiphkngfbpdeoaaGreatDoor
namespace Go.Proofs.YtiphkngfbpdeoaaGreatDoor
set_option linter.unusedVariables false
set_option linter.unusedSimpArgs false
open Go.RowKit
def EndM.wants (m : EndM) (n : Int) : EndM := { m with wanted := n }
def EndM.setCode (m : EndM) (n : Int) : Int := if m.fault ≠ 0 then 7 else if withinB n 0 then 0 else 1
set_option maxRecDepth 100000 in
set_option maxHeartbeats 800000 in
theorem eSet_any (eb : Nat) (m : EndM) (n : Int) (w : World) (h : EnB w eb m) :
    Calls Tryz.prog 58 #[.pointer (some ⟨eb, 0, none⟩), .int .i64 n] w fun e w' => e = .returned (.int .i64 (m.setCode n)) ∧ (if m.setCode n = 0 then EnB w' eb (m.wants n) ∧ Chg (fun j => j = eb) w w' else w' = w) := by
  have HD := hide (isDead_any eb m w h)
  have HI := hide (isWithin_any n 0 w)
  have c7 := h.c7
  have f7 := h.fr 7
  have H := hide h
  clear h
  unfold EndM.setCode
  by_cases hf : m.fault = 0
  · have hb : (m.fault == 0) = true := by simp [hf]
    rw [hb] at HD
    obtain ⟨wb, hwb⟩ : ∃ wb, wb = withinB n 0 := ⟨_, rfl⟩
    rw [← hwb] at HI ⊢
    clear hwb
    cases wb
    all_goals (go_enter Tryz.func58, Tryz.ntmps58; go_wp2_with fail; refine HD.out.mono ?_; rintro e w' ⟨rfl, hw'⟩; rw [hw']; clear hw' w'; go_wp2_with fail; refine HI.out.mono ?_; rintro e w' ⟨rfl, hw'⟩; rw [hw']; clear hw' w'; go_wp2; go_ret)
    · simp [hf]
    · simp only [hf, ne_eq, not_true_eq_false, if_false, if_true]
      exact ⟨rfl, EnB.of (blk_set H.out.blk) rfl, by ((repeat (refine chg_set ?_ ?hs; (case hs => first | rfl | assumption | exact Or.inl rfl | exact Or.inr rfl))); first | exact Chg.refl _ _ | exact chg_drewN)⟩
  · have hb : (m.fault == 0) = false := by rw [beq_eq_false_iff_ne]; exact hf
    rw [hb] at HD
    go_enter Tryz.func58, Tryz.ntmps58
    go_wp2_with fail
    refine HD.out.mono ?_
    rintro e w' ⟨rfl, hw'⟩
    rw [hw']
    clear hw' w'
    go_wp2
    go_ret
    simp [hf]
def EndM.tickd (m : EndM) (n : Int) : EndM := { m with clock := m.clock + n }
end Go.Proofs.YtiphkngfbpdeoaaGreatDoor
namespace Go.Proofs.YtiphkngfbpdeoaaGreatDoor
set_option linter.unusedVariables false
set_option linter.unusedSimpArgs false
open Go.RowKit
set_option maxRecDepth 100000 in
set_option maxHeartbeats 800000 in
theorem eOpen_dead (eb : Nat) (m : EndM) (lv : Value) (b : Bool) (w : World) (h : EnB w eb m) (hd : m.fault ≠ 0) :
    Calls Tryz.prog 57 #[.pointer (some ⟨eb, 0, none⟩), lv, .bool b] w fun e w' => e = .returned (.tuple #[.int .i64 0, .int .i64 7]) ∧ w' = w := by
  have hdd := isDead_any eb m w h
  rw [show (!(m.fault == 0)) = true from by simp [hd]] at hdd
  have HD := hide hdd
  clear h hdd
  go_enter Tryz.func57, Tryz.ntmps57
  go_wp2_with fail
  refine HD.out.mono ?_
  rintro e w' ⟨rfl, hw'⟩
  rw [hw']
  clear hw' w'
  go_wp2
  refine bodyPost_ret (v := .tuple #[.int .i64 0, .int .i64 7]) ?_ rfl ⟨rfl, rfl⟩
  simp [results, Tryz.results57, go_sem]
set_option maxRecDepth 100000 in
set_option maxHeartbeats 800000 in
theorem xOpen_dead (eb : Nat) (m : EndM) (lv : Value) (b : Bool) (w : World) (h : EnB w eb m) (hd : m.fault ≠ 0) :
    Calls Tryz.prog 37 #[.pointer (some ⟨eb, 0, none⟩), lv, .bool b] w fun e w' => e = .returned (.tuple #[.int .i64 0, .int .i64 7]) ∧ w' = w := by
  have HC := hide (eOpen_dead eb m lv b w h hd)
  clear h hd
  go_enter Tryz.func37, Tryz.ntmps37
  go_wp2_with fail
  refine HC.out.mono ?_
  rintro e w' ⟨rfl, hw'⟩
  rw [hw']
  clear hw' w'
  go_wp2
  refine bodyPost_ret (v := .tuple #[.int .i64 0, .int .i64 7]) ?_ rfl ⟨rfl, rfl⟩
  simp [results, Tryz.results37, go_sem]
set_option maxHeartbeats 800000 in
theorem xSet_dead (eb : Nat) (m : EndM) (n : Int) (w : World) (h : EnB w eb m) (hd : m.fault ≠ 0) :
    Calls Tryz.prog 38 #[.pointer (some ⟨eb, 0, none⟩), .int .i64 n] w fun e w' => e = .returned (.int .i64 7) ∧ w' = w := by
  have hs := eSet_any eb m n w h
  have h7 : m.setCode n = 7 := by unfold EndM.setCode; rw [if_pos hd]
  rw [h7] at hs
  simp only [if_neg (show ¬ (7 : Int) = 0 from by decide)] at hs
  have HC := hide hs
  clear h hd hs h7
  go_enter Tryz.func38, Tryz.ntmps38
  go_wp2_with fail
  refine HC.out.mono ?_
  rintro e w' ⟨rfl, hw'⟩
  rw [hw']
  clear hw' w'
  go_wp2
  go_ret
  exact ⟨rfl, rfl⟩
set_option maxRecDepth 100000 in
set_option maxHeartbeats 800000 in
theorem eFeed_dead (eb : Nat) (m : EndM) (bv : Value) (l : List UInt8) (w : World) (h : EnB w eb m) (hd : m.fault ≠ 0) (hb : BytesIn w bv l) (hl : l.length ≤ 268435456) :
    Calls Tryz.prog 26 #[.pointer (some ⟨eb, 0, none⟩), bv] w fun e w' => e = .returned (.tuple #[]) ∧ w' = w := by
  have hdd := isDead_any eb m w h
  rw [show (!(m.fault == 0)) = true from by simp [hd]] at hdd
  have HD := hide hdd
  obtain ⟨sv, cv, hv, -⟩ := bytesIn_len hb
  subst hv
  cases l with
  | nil =>
    clear h hdd
    go_enter Tryz.func26, Tryz.ntmps26
    go_wp2
    refine wp_loop_rounds 1 ?_
    rw [rounds_succ]
    go_wp2
    exact bodyPost_end (results_none rfl _ _ _) rfl ⟨rfl, rfl⟩
  | cons c r =>
    rcases hb with ⟨-, h0⟩ | ⟨bb, off, cap, h1, h2, h3, h4⟩
    · cases h0
    · simp only [Value.slice.injEq, true_and] at h1
      obtain ⟨rfl, rfl⟩ := h1
      have hcell := h4 0 (by simp)
      rw [Nat.add_zero] at hcell
      have hn0 : (0 : Int) < ((c :: r).length : Int) := by simp
      generalize (c :: r).getD 0 0 = cc at *
      generalize (c :: r).length = LL at *
      clear h hdd h4
      go_enter Tryz.func26, Tryz.ntmps26
      go_wp2
      refine wp_loop_rounds 1 ?_
      rw [rounds_succ]
      go_wp2_with fail
      refine HD.out.mono ?_
      rintro e w' ⟨rfl, hw'⟩
      rw [hw']
      clear hw' w'
      go_wp2
      refine bodyPost_ret (v := .tuple #[]) ?_ rfl ⟨rfl, rfl⟩
      simp [results, Tryz.results26, go_sem]
end Go.Proofs.YtiphkngfbpdeoaaGreatDoor
namespace Go.Proofs.YtiphkngfbpdeoaaGreatDoor
set_option linter.unusedVariables false
set_option linter.unusedSimpArgs false
open Go.RowKit
def GEnd.oGoaway (g : GEnd) : Option GEnd := if g.m.fault = 7 ∨ g.m.parted = true then none else some { g with m := { g.m with parted := true }, out := g.out ++ lay 5 0 0 [UInt8.ofNat g.m.fault.toNat] }
theorem goaway_bare (g : GEnd) : g.oGoaway.map GEnd.bare = g.bare.oGoaway := by
  unfold GEnd.oGoaway
  rw [show g.bare.m.fault = g.m.fault from rfl, show g.bare.m.parted = g.m.parted from rfl]
  split <;> rfl
set_option maxRecDepth 100000 in
set_option maxHeartbeats 1600000 in
theorem i_makeGoaway (eb mb : Nat) (g : GEnd) (w : World) (h : Inv w eb mb g) (hg : g.m.greets = false) (hf : 0 ≤ g.m.fault ∧ g.m.fault ≤ 255) (hl : g.out.length ≤ 1073741824) :
    Calls Tryz.prog 88 #[.pointer (some ⟨eb, 0, none⟩)] w fun e w' => MadeO w w' eb mb g g.oGoaway e := by
  have c1 := h.en.c1
  have c40 := h.en.c40
  have f40 := h.en.fr 40
  have hlt := h.en.lt
  by_cases h7 : g.m.fault = 7
  · have e : g.oGoaway = none := by unfold GEnd.oGoaway; rw [if_pos (Or.inl h7)]
    rw [e]
    rw [h7] at c1
    clear h e
    go_enter Tryz.func88, Tryz.ntmps88
    go_wp2
    go_ret
    exact ⟨rfl, Below.refl _ _⟩
  · cases hp : g.m.parted with
    | true =>
      have e : g.oGoaway = none := by unfold GEnd.oGoaway; rw [if_pos (Or.inr hp)]
      rw [e]
      rw [hp] at c40
      have h7' : (g.m.fault == 7) = false := by simp [h7]
      clear h e
      go_enter Tryz.func88, Tryz.ntmps88
      go_wp2
      go_ret
      exact ⟨rfl, Below.refl _ _⟩
    | false =>
      have e : g.oGoaway = some { g with m := { g.m with parted := true }, out := g.out ++ lay 5 0 0 [UInt8.ofNat g.m.fault.toNat] } := by unfold GEnd.oGoaway; rw [if_neg (by rw [hp]; simp [h7])]
      rw [e]
      rw [hp] at c40
      have h7' : (g.m.fault == 7) = false := by simp [h7]
      have hwr : IntKind.u8.wrap g.m.fault = g.m.fault := by rw [IntKind.wrap_u8]; omega
      have hset : Chg (fun j => j = eb) w (w.setCell ⟨eb, 40, none⟩ (.bool true)) := chg_set (Chg.refl _ _) rfl
      have hen1 : EnB (w.setCell ⟨eb, 40, none⟩ (.bool true)) eb { g.m with parted := true } := EnB.of (blk_set h.en.blk) rfl
      have hb2 : Below (w.setCell ⟨eb, 40, none⟩ (.bool true)).heap.size (w.setCell ⟨eb, 40, none⟩ (.bool true)) ((w.setCell ⟨eb, 40, none⟩ (.bool true)).alloc (.cells #[.int .u8 g.m.fault] 5)) := (Below.refl _ _).alloc (Nat.le_refl _) _
      have hszs : (w.setCell ⟨eb, 40, none⟩ (.bool true)).heap.size = w.heap.size := by simp
      have hrow1 : ((w.setCell ⟨eb, 40, none⟩ (.bool true)).alloc (.cells #[.int .u8 g.m.fault] 5)).ownsRow 0 5 1 g.m.out g.out.length (g.out.map B) := by
        refine owns_chg (owns_chg h.out hset (fun j hj e => by rw [e] at hj; exact owns_ne h.out h.en.blk (by decide) hj)) (Chg.of_below (S := fun _ => False) hb2) (fun _ _ => id)
      have hby : BytesIn ((w.setCell ⟨eb, 40, none⟩ (.bool true)).alloc (.cells #[.int .u8 g.m.fault] 5)) (.slice (some ⟨w.heap.size, 0, none⟩) 1 1) [UInt8.ofNat g.m.fault.toNat] := by
        have hn := heap_alloc_new (w.setCell ⟨eb, 40, none⟩ (.bool true)) (.cells #[.int .u8 g.m.fault] 5)
        rw [hszs] at hn
        refine Or.inr ⟨w.heap.size, 0, 1, rfl, lt_of_block hn, Nat.le_refl _, fun i hi => ?_⟩
        have hi0 : i = 0 := by simp at hi; omega
        subst hi0
        rw [cell_of_row _ _ _ _ _ _ hn]
        have e3 : ((UInt8.ofNat g.m.fault.toNat).toNat : Int) = g.m.fault := by rw [UInt8.toNat_ofNat']; omega
        show some (Value.int .u8 g.m.fault) = some (Value.int .u8 ((UInt8.ofNat g.m.fault.toNat).toNat : Int))
        rw [e3]
      have HP := hide (en_put eb { g.m with parted := true } g.out 5 0 0 (some ⟨w.heap.size, 0, none⟩) [UInt8.ofNat g.m.fault.toNat] 1 _ (hen1.below hb2) hg hrow1 hl (by omega) (by omega) (by omega) (by omega) (by omega) (by omega) (by simp) hby)
      have HEND : Hid (∀ w' v, Put ((w.setCell ⟨eb, 40, none⟩ (.bool true)).alloc (.cells #[.int .u8 g.m.fault] 5)) w' eb { g.m with parted := true } g.out (lay 5 0 0 [UInt8.ofNat g.m.fault.toNat]) v → ∃ g', g'.bare = ({ g with m := { g.m with parted := true }, out := g.out ++ lay 5 0 0 [UInt8.ofNat g.m.fault.toNat] } : GEnd).bare ∧ Next w w' eb mb g g') := fun w' v hput => by
        refine ⟨{ g with m := { g.m with parted := true, out := v }, out := g.out ++ lay 5 0 0 [UInt8.ofNat g.m.fault.toNat] }, rfl, ?_⟩
        refine h.put (m' := { g.m with parted := true }) rfl rfl rfl rfl rfl rfl ⟨hput.b, hput.row, ?_, fun j hj => ?_⟩
        · exact ((hset.mono fun j _ e => Or.inl e).then_below hb2).trans (hput.chg.mono fun j _ e => Or.inr e)
        · rcases hput.fresh j hj with a | a
          · exact Or.inl a
          · refine Or.inr ?_
            have := hb2.size
            omega
      clear h e hset hen1 hb2 hrow1 hby
      generalize g.m.fault = code at *
      go_enter Tryz.func88, Tryz.ntmps88
      go_wp2_with fail
      refine HP.out.mono ?_
      rintro e w' ⟨rfl, v, hput⟩
      have HX := hide (HEND.out w' v hput)
      clear hput
      go_wp2
      go_ret
      exact ⟨rfl, HX.out⟩
set_option maxRecDepth 100000 in
set_option maxHeartbeats 800000 in
theorem i_makeNextD (eb mb : Nat) (g : GEnd) (w : World) (h : Inv w eb mb g) (hg : g.m.greets = false) (hd : g.m.fault ≠ 0) (hf : 0 ≤ g.m.fault ∧ g.m.fault ≤ 255) (hl : g.out.length ≤ 1073741824) :
    Calls Tryz.prog 67 #[.pointer (some ⟨eb, 0, none⟩)] w fun e w' => MadeO w w' eb mb g g.oGoaway e := by
  have hdd := isDead_any eb g.m w h.en
  rw [show (!(g.m.fault == 0)) = true from by simp [hd]] at hdd
  have HD := hide hdd
  have HG := hide (i_makeGoaway eb mb g w h hg hf hl)
  clear h hdd
  generalize g.oGoaway = og at *
  go_enter Tryz.func67, Tryz.ntmps67
  go_wp2_with fail
  refine HD.out.mono ?_
  rintro e w' ⟨rfl, hw'⟩
  rw [hw']
  clear hw' w'
  go_wp2_with fail
  refine HG.out.mono ?_
  intro e w1 hm
  cases og with
  | none =>
    obtain ⟨rfl, hb⟩ := hm
    have HB := hide hb
    clear hb
    go_wp2
    go_ret
    exact ⟨rfl, HB.out⟩
  | some q =>
    obtain ⟨rfl, hx⟩ := hm
    have HX := hide hx
    clear hx
    go_wp2
    go_ret
    exact ⟨rfl, HX.out⟩
structure TakenX (w w' : World) (eb mb : Nat) (g p : GEnd) (n : Int) (e : Ending) : Prop where
  eq : ∃ s, e = .returned (.slice s (cutN n p.out.length) (cutN n p.out.length)) ∧ BytesIn w' (.slice s (cutN n p.out.length) (cutN n p.out.length)) (p.out.take (cutN n p.out.length)) ∧ ∃ g', g'.bare = { p with out := p.out.drop (cutN n p.out.length) } ∧ Next w w' eb mb g g' ∧ ∀ j, (Value.slice s (cutN n p.out.length) (cutN n p.out.length)).ownBlock = some j → ¬ Foot eb mb g' j
theorem takenX_of {w w1 w' : World} {eb mb : Nat} {g c : GEnd} {n : Int} {v' : Value} {e : Ending} (hn : Next w w1 eb mb g c) (hc : CutOff w1 w' eb 41 c.m.out v' c.out (cutN n c.out.length) e) : TakenX w w' eb mb g c.bare n e := by
  obtain ⟨⟨s, he, hby, hap⟩, w2, hw2, hb2, hrow⟩ := hc
  subst hw2
  have hi := hn.inv.below hb2
  have hset : Chg (fun j => j = eb) w2 (w2.setCell ⟨eb, 41, none⟩ v') := chg_set (Chg.refl _ _) rfl
  have hr0 : w2.ownsRow 0 5 1 v' (c.out.drop (cutN n c.out.length)).length ((c.out.drop (cutN n c.out.length)).map B) := by
    rw [List.length_drop]
    exact owns_base hrow (fun _ _ => Nat.zero_le _)
  have hcc : Chg (fun j => j = eb) w1 (w2.setCell ⟨eb, 41, none⟩ v') := (Chg.of_below hb2).trans (hset.mono fun j _ e => Or.inr e)
  have hn2 := hn.inv.onEnd (S := fun j => j = eb) (w' := w2.setCell ⟨eb, 41, none⟩ v') (m' := { c.m with out := v' }) (A' := c.ans) (R' := c.res) (o' := c.out.drop (cutN n c.out.length)) hcc (fun j e => Or.inl e) (EnB.of (blk_set hi.en.blk) rfl) rfl rfl rfl
    (owns_chg hr0 hset (fun j hj e => by rw [e] at hj; exact owns_ne hr0 hi.en.blk (by decide) hj)) (fun j hj => Or.inr (hrow.lt j hj).1) hn.inv.ans (fun _ h => h) (fun _ h => h) hn.inv.res (fun _ h => h)
  refine ⟨⟨s, he, hby, _, ?_, hn.trans hn2, ?_⟩⟩
  · rfl
  · intro j hj hf
    have hj := hap j hj
    have hlt := owns_lt hn.inv.out hj
    rcases hf with e | e | e | e | e | e | e | ⟨a, ha, e⟩ | ⟨p, hp, e | e | e⟩
    · rw [e] at hj; exact owns_ne hn.inv.out hn.inv.en.blk (by decide) hj
    · rw [e] at hj; exact owns_mb hn.inv.kn hn.inv.out hj
    · have := (hrow.lt j e).1; omega
    · exact hn.inv.out_got hj e
    · exact rows_ne hn.inv.out hn.inv.row (by decide) hj e
    · exact rows_ne2 hn.inv.out hn.inv.ans (by decide) hj e
    · exact rows_ne2 hn.inv.out hn.inv.res (by decide) hj e
    · exact hn.inv.out_an ha e hj
    · rw [e] at hj; exact owns_ne hn.inv.out (hn.inv.st hp).blk (by decide) hj
    · exact hn.inv.out_un hp e hj
    · exact hn.inv.out_wa hp e hj
set_option maxRecDepth 100000 in
set_option maxHeartbeats 1600000 in
theorem i_takeD (eb mb : Nat) (g q : GEnd) (n : Int) (w : World) (h : Inv w eb mb g) (hg : g.m.greets = false) (hd : g.m.fault ≠ 0) (hf : 0 ≤ g.m.fault ∧ g.m.fault ≤ 255) (hq : (g.bare.oGoaway = none ∧ q = g.bare) ∨ g.bare.oGoaway = some q) (hl : q.out.length ≤ 1073741824) (hn : (q.out.length : Int) < n) :
    Calls Tryz.prog 50 #[.pointer (some ⟨eb, 0, none⟩), .int .i64 n] w fun e w' => TakenX w w' eb mb g q n e := by
  have hqn : q.oGoaway = none := by
    rcases hq with ⟨h1, h2⟩ | h1
    · rw [h2]; exact h1
    · unfold GEnd.oGoaway at h1
      split at h1
      · cases h1
      · injection h1 with h1
        subst h1
        unfold GEnd.oGoaway
        rw [if_pos (Or.inr rfl)]
  have hqo : g.out.length ≤ q.out.length ∧ (g.bare.oGoaway = some q → g.out.length < q.out.length) := by
    rcases hq with ⟨h1, h2⟩ | h1
    · rw [h2]; exact ⟨Nat.le_refl _, fun e => by rw [h1] at e; cases e⟩
    · unfold GEnd.oGoaway at h1
      split at h1
      · cases h1
      · injection h1 with h1
        subst h1
        have : g.out.length < (g.out ++ lay 5 0 0 [UInt8.ofNat g.m.fault.toNat]).length := by rw [List.length_append, lay_length]; omega
        exact ⟨Nat.le_of_lt this, fun _ => this⟩
  have hqm : q.m.greets = g.m.greets ∧ q.m.fault = g.m.fault := by
    rcases hq with ⟨h1, h2⟩ | h1
    · rw [h2]; exact ⟨rfl, rfl⟩
    · unfold GEnd.oGoaway at h1
      split at h1
      · cases h1
      · injection h1 with h1
        subst h1
        exact ⟨rfl, rfl⟩
  obtain ⟨ho1, ho2⟩ := hqo
  have H := hide h
  have HG := hide hg
  have HD := hide hd
  have HF := hide hf
  have HQ := hide hq
  have HQN := hide hqn
  have HQM := hide hqm
  have HO2 := hide ho2
  clear h hg hd hf hq hqn hqm ho2
  go_enter Tryz.func50, Tryz.ntmps50
  go_wp2
  go_loopw [5] (fun i wr => ∃ (wv : World) (c : GEnd) (mo : Bool), wv = wr ∧ i = .bool mo ∧ Next w wv eb mb g c ∧ (if mo then c.bare = g.bare ∨ c.bare = q else c.bare = q)) (fun i wr => (q.out.length - madeLen wr eb) * 2 + oneIf i)
  case atStart => exact ⟨_, g, true, rfl, rfl, Next.refl H.out, Or.inl rfl⟩
  case round =>
    obtain ⟨wv, c, mo, hwv, rfl, hnx, hmo⟩ := hrel
    subst hwv
    have c41 := hnx.inv.en.c41
    obtain ⟨sa, ca, hsl⟩ := slice_len hnx.inv.out
    rw [hsl] at c41
    have hml := hnx.inv.madeLen
    have hco : c.out.length ≤ q.out.length := by
      have e1 : ∀ {a : GEnd}, c.bare = a → c.out = a.out := fun {a} e => by have := congrArg GEnd.out e; exact this
      cases mo with
      | true =>
        simp only [if_true] at hmo
        rcases hmo with e | e
        · rw [e1 e]; exact ho1
        · rw [e1 e]; exact Nat.le_refl _
      | false =>
        simp only [Bool.false_eq_true, if_false] at hmo
        rw [e1 hmo]; exact Nat.le_refl _
    have HNX := hide hnx
    have HML := hide hml
    have HMO := hide hmo
    clear hnx hml hmo hsl
    cases mo with
    | false =>
      have hcp := HMO.out
      simp only [Bool.false_eq_true, if_false] at hcp
      have HC : Hid (Calls Tryz.prog 49 #[.pointer (some ⟨eb, 41, none⟩), .int .i64 n] wv fun e w' => TakenX w w' eb mb g q n e) := by
        refine (ecut_any eb 41 c.m.out c.out n _ HNX.out.inv.en.c41 (HNX.out.inv.en.fr 41) HNX.out.inv.en.lt HNX.out.inv.out (fun e => owns_ne HNX.out.inv.out HNX.out.inv.en.blk (by decide) e) (by omega)).mono ?_
        rintro e w' ⟨v', hc⟩
        have := takenX_of HNX.out hc
        rw [hcp] at this
        exact this
      clear hcp
      go_wp2_with fail
      refine HC.out.mono ?_
      intro e w' ht
      obtain ⟨s, he, -⟩ := ht.eq
      have HT := hide ht
      clear ht
      subst he
      go_wp2
      go_ret
      exact HT.out
    | true =>
      have hru := HMO.out
      simp only [if_true] at hru
      have hcm : c.m.greets = false ∧ c.m.fault = g.m.fault := by
        rcases hru with e | e
        · have e2 : c.bare.m = g.bare.m := by rw [e]
          exact ⟨(show c.m.greets = g.m.greets from (by have := congrArg (fun m : EndM => m.greets) e2; exact this)).trans HG.out, (by have := congrArg (fun m : EndM => m.fault) e2; exact this)⟩
        · have e2 : c.bare.m = q.m := by rw [e]
          exact ⟨(show c.m.greets = q.m.greets from (by have := congrArg (fun m : EndM => m.greets) e2; exact this)).trans (HQM.out.1.trans HG.out), (show c.m.fault = q.m.fault from (by have := congrArg (fun m : EndM => m.fault) e2; exact this)).trans HQM.out.2⟩
      have hlt : (c.out.length : Int) < n := by omega
      have HMK := hide (i_makeNextD eb mb c wv HNX.out.inv hcm.1 (by rw [hcm.2]; exact HD.out) (by rw [hcm.2]; exact HF.out) (by omega))
      have HRU := hide hru
      have hgb := goaway_bare c
      have HGB := hide hgb
      clear hru HMO hcm hgb
      go_wp2_with fail
      refine HMK.out.mono ?_
      intro e w1 hm
      cases hcn : c.oGoaway with
      | none =>
        rw [hcn] at hm
        obtain ⟨rfl, hb⟩ := hm
        have hgb2 := HGB.out
        rw [hcn] at hgb2
        have hcp : c.bare = q := by
          rcases HRU.out with e | e
          · rw [e] at hgb2
            rcases HQ.out with ⟨-, h2⟩ | h1
            · rw [e]; exact h2.symm
            · rw [h1] at hgb2; cases hgb2
          · exact e
        have hml1 : madeLen w1 eb = c.out.length := (HNX.out.then_below hb).inv.madeLen
        have HB := hide hb
        have HCP := hide hcp
        clear hb hcp hgb2 hcn
        go_wp2
        all_goals go_roundw
        case rel => exact ⟨_, c, false, rfl, rfl, HNX.out.then_below HB.out, by simpa using HCP.out⟩
        case measure => rw [hml1, HML.out]; simp [oneIf]
      | some d =>
        rw [hcn] at hm
        obtain ⟨rfl, g', hg', hn'⟩ := hm
        have hgb2 := HGB.out
        rw [hcn] at hgb2
        have hcp : g'.bare = q ∧ c.out.length < q.out.length := by
          rcases HRU.out with e | e
          · rw [e] at hgb2
            rcases HQ.out with ⟨h1, -⟩ | h1
            · rw [h1] at hgb2; cases hgb2
            · have h3 := HO2.out h1
              rw [h1] at hgb2
              simp only [Option.map_some, Option.some.injEq] at hgb2
              refine ⟨by rw [hg']; exact hgb2, ?_⟩
              have : c.out = g.out := by have := congrArg GEnd.out e; exact this
              rw [this]; exact h3
          · rw [e, HQN.out] at hgb2; cases hgb2
        have hgo : g'.out = q.out := by have := congrArg GEnd.out hcp.1; exact this
        have hml1 : madeLen w1 eb = q.out.length := by rw [hn'.inv.madeLen, hgo]
        have HN' := hide hn'
        have HCP := hide hcp.1
        have hcl := hcp.2
        clear hn' hg' hgb2 hcn hcp hgo
        go_wp2
        all_goals go_roundw
        case rel => exact ⟨_, g', true, rfl, rfl, HNX.out.trans HN'.out, Or.inr HCP.out⟩
        case measure => rw [hml1, HML.out]; simp [oneIf]; omega
set_option maxHeartbeats 400000 in
theorem x_takeD (eb mb : Nat) (g q : GEnd) (n : Int) (w : World) (h : Inv w eb mb g) (hg : g.m.greets = false) (hd : g.m.fault ≠ 0) (hf : 0 ≤ g.m.fault ∧ g.m.fault ≤ 255) (hq : (g.bare.oGoaway = none ∧ q = g.bare) ∨ g.bare.oGoaway = some q) (hl : q.out.length ≤ 1073741824) (hn : (q.out.length : Int) < n) :
    Calls Tryz.prog 29 #[.pointer (some ⟨eb, 0, none⟩), .int .i64 n] w fun e w' => TakenX w w' eb mb g q n e := by
  have HC := hide (i_takeD eb mb g q n w h hg hd hf hq hl hn)
  clear h hg hd hf hq hl hn
  go_enter Tryz.func29, Tryz.ntmps29
  go_wp2_with fail
  refine HC.out.mono ?_
  intro e w' ht
  obtain ⟨s, he, -⟩ := ht.eq
  have HT := hide ht
  clear ht
  subst he
  go_wp2
  go_ret
  exact HT.out
end Go.Proofs.YtiphkngfbpdeoaaGreatDoor
