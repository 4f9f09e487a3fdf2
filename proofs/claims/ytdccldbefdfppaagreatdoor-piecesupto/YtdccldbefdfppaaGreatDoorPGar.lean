import Derived.Test.YtdccldbefdfppaaGreatDoorPGaq
import Derived.Test.YtdccldbefdfppaaGreatDoorPGap
import Derived.Test.YtdccldbefdfppaaGreatDoorPGao
import Derived.BigRegion
import Derived.Deep.RegionWith
set_option linter.unusedVariables false
set_option linter.unusedSimpArgs false
namespace Go.Proofs.YtdccldbefdfppaaGreatDoor
open Go.RowKit
section
section
variable {w w' : World} {eb mb : Nat} {g : GEnd} {e : Ending}
theorem MadeO.pre {o : Option GEnd} {w0 : World} (h : MadeO w w' eb mb g o e) (hb : Below w0.heap.size w0 w) : MadeO w0 w' eb mb g o e := by
 cases o with
 | none => exact ⟨h.1, hb.trans (h.2.mono hb.size)⟩
 | some q => obtain ⟨h1, g', h2, h3⟩ := h; exact ⟨h1, g', h2, h3.pre hb⟩
theorem MadeB.made {m' : EndM} {new : List UInt8} {c : Bool} (h : Inv w eb mb g) (hm : MadeB w w' eb g.m m' g.out new c e) (h1 : m'.known = g.m.known) (h2 : m'.opn = g.m.opn) (h3 : m'.got = g.m.got) (h4 : m'.out = g.m.out) (h5 : m'.answers = g.m.answers) (h6 : m'.resets = g.m.resets) {o : Option GEnd} (ho : o = if c then some { g with m := m', out := g.out ++ new } else none) : MadeO w w' eb mb g o e := by
 obtain ⟨he, hr⟩ := hm
 cases c with
 | false => simp only [Bool.false_eq_true, if_false] at hr ho; rw [ho]; exact ⟨he, hr⟩
 | true =>
  simp only [if_true] at hr ho
  obtain ⟨v, hp⟩ := hr
  rw [ho]
  refine ⟨he, _, ?_, h.put h1 h2 h3 h4 h5 h6 hp⟩
  rfl
theorem four4_toNat {n : Nat} {i : Int} (h : i = n) : four4 i.toNat = four4 n := by rw [h, Int.toNat_natCast]
theorem i_makeFirst (h : Inv w eb mb g) (hf : FineB g) (hl : g.out.length ≤ 1073741824) : Calls Tryz.prog 82 #[.pointer (some ⟨eb, 0, none⟩)] w fun e w' => MadeO w w' eb mb g g.oFirst e := by
 have hw := hf.wanted
 obtain ⟨n, hn⟩ : ∃ n : Nat, g.m.wanted = n := ⟨g.m.wanted.toNat, by omega⟩
 refine (makeFirst_any eb g.m g.out w n h.en hf.greets hn (by omega) h.out hl).mono ?_
 intro e w' hm
 refine hm.made h rfl rfl rfl rfl rfl rfl ?_
 unfold GEnd.oFirst
 rw [four4_toNat hn]
 cases g.m.told <;> rfl
theorem i_makeSettings (h : Inv w eb mb g) (hf : FineB g) (hl : g.out.length ≤ 1073741824) : Calls Tryz.prog 84 #[.pointer (some ⟨eb, 0, none⟩)] w fun e w' => MadeO w w' eb mb g g.oSettings e := by
 have hw := hf.wanted
 obtain ⟨n, hn⟩ : ∃ n : Nat, g.m.wanted = n := ⟨g.m.wanted.toNat, by omega⟩
 refine (makeSettings_any eb g.m g.out w n h.en hf.greets hn (by omega) h.out hl).mono ?_
 intro e w' hm
 refine hm.made h rfl rfl rfl rfl rfl rfl ?_
 unfold GEnd.oSettings
 rw [four4_toNat hn]
 cases (g.m.waits || g.m.wanted == g.m.made) <;> rfl
theorem i_makePing (h : Inv w eb mb g) (hf : FineB g) (hl : g.out.length ≤ 1073741824) : Calls Tryz.prog 85 #[.pointer (some ⟨eb, 0, none⟩)] w fun e w' => MadeO w w' eb mb g g.oPing e := by
 refine (makePing_any eb g.m g.out w h.en hf.greets hf.pnum h.out hl).mono ?_
 intro e w' hm
 refine hm.made h rfl rfl rfl rfl rfl rfl ?_
 unfold GEnd.oPing
 cases (g.m.under && !g.m.pinged) <;> rfl
theorem i_makeCredit (h : Inv w eb mb g) (hf : FineB g) (hl : g.out.length ≤ 1073741824) : Calls Tryz.prog 86 #[.pointer (some ⟨eb, 0, none⟩)] w fun e w' => MadeO w w' eb mb g g.oCredit e := by
 have hw := hf.owed
 have hr := hf.receive
 obtain ⟨n, hn⟩ : ∃ n : Nat, g.m.owed = n := ⟨g.m.owed.toNat, by omega⟩
 refine (makeCredit_any eb g.m g.out w n h.en hf.greets hn (by omega) (by omega) (by omega) h.out hl).mono ?_
 intro e w' hm
 refine hm.made h rfl rfl rfl rfl rfl rfl ?_
 unfold GEnd.oCredit
 rw [four4_toNat hn]
theorem i_makeStreamCredit (h : Inv w eb mb g) (hf : FineB g) (hl : g.out.length ≤ 1073741824) : Calls Tryz.prog 87 #[.pointer (some ⟨eb, 0, none⟩)] w fun e w' => MadeO w w' eb mb g g.oStream e := by
 have ho := hf.own
 refine (makeStreamCredit_any eb g.m (openS g.K g.L) g.out w h.en hf.greets h.open (by rw [openS_length]; exact hf.few) h.out hl (by omega) (by omega) (fun p hp => ?_)).mono ?_
 ·obtain ⟨n, hn, rfl⟩ := List.mem_map.1 hp
  obtain ⟨q1, q2, q3, q4⟩ := hf.st _ (h.at hn).1
  exact ⟨by show _ ≤ (atN g.K n).st.receive; omega, by show (atN g.K n).st.receive ≤ _; omega, q2.1, q2.2, q3.1, q3.2⟩
 ·intro e w' hm
  rw [firstDue_openS] at hm
  unfold GEnd.oStream
  cases hd : firstDueN g.m g.K g.L with
  | none => rw [hd] at hm; exact hm
  | some n =>
   rw [hd] at hm
   obtain ⟨he, v, hen, hst, hrow, hc, hfr⟩ := hm
   have hn := firstDueN_mem hd
   obtain ⟨hmem, hnum⟩ := h.at hn
   have hne : ∀ j, ¬ (j = eb ∨ j = (atN g.K n).sb ∨ g.m.out.ownBlock = some j) ∨ (j = eb ∨ j = (atN g.K n).sb ∨ g.m.out.ownBlock = some j) := fun j => (Classical.em _).symm
   have keep : ∀ {k : Nat} {v' : Value} {xs : List Value} {ty : TypeId}, w.ownsRow 0 ty 1 v' k xs → (∀ j, v'.ownBlock = some j → j ≠ eb ∧ j ≠ (atN g.K n).sb ∧ g.m.out.ownBlock ≠ some j) → w'.ownsRow 0 ty 1 v' k xs := fun hr hj => owns_chg hr hc (fun j hjj e => by
    obtain ⟨a, b, c⟩ := hj j hjj
    rcases e with e | e | e
    ·exact a e
    ·exact b e
    ·exact c e)
   refine ⟨he, _, ?_, h.onSt (S := fun j => j = eb ∨ j = (atN g.K n).sb ∨ g.m.out.ownBlock = some j) (m' := { g.m with out := v }) (s := atN g.K n) (s' := (atN g.K n).granted) (L' := g.L) (o' := g.out ++ lay 6 0 n (four4 (atN g.K n).st.owed.toNat)) 0 hmem hc ?_ hen hst rfl rfl rfl rfl rfl rfl ?_ (fun j hj => Or.inl hj) (List.Sublist.refl _) ?_ ?_ ?_ (fun j hj => Or.inl hj) ?_ (fun j hj => Or.inl hj)⟩
   ·rw [hnum, updN_const h.nn hmem hnum]
    rfl
   ·rintro j (e | e | e)
    ·exact Or.inl e
    ·exact Or.inr (Or.inl e)
    ·exact Or.inr (Or.inr (Or.inr (Or.inl e)))
   ·exact keep h.row (fun j hj => ⟨fun e => by rw [e] at hj; exact owns_ne h.row h.en.blk (by decide) hj, fun e => by rw [e] at hj; exact owns_ne h.row (h.st hmem).blk (by decide) hj, fun e => rows_ne h.out h.row (by decide) e hj⟩)
   ·have e : (atN g.K n).str.2.number = n := hnum
    rw [e] at hrow
    exact hrow
   ·intro j hj
    exact (hfr j hj).imp_right fun a => ⟨a, rfl⟩
   ·exact keep (h.un (atN g.K n) hmem) (fun j hj => ⟨fun e => by rw [e] at hj; exact owns_ne (h.un _ hmem) h.en.blk (by decide) hj, fun e => by rw [e] at hj; exact owns_ne (h.un _ hmem) (h.st hmem).blk (by decide) hj, fun e => h.out_un hmem hj e⟩)
   ·exact keep (h.wa (atN g.K n) hmem) (fun j hj => ⟨fun e => by rw [e] at hj; exact owns_ne (h.wa _ hmem) h.en.blk (by decide) hj, fun e => by rw [e] at hj; exact owns_ne (h.wa _ hmem) (h.st hmem).blk (by decide) hj, fun e => h.out_wa hmem hj e⟩)
def lenV' (v : Value) : Nat := match v with
 | .slice _ n _ => n
 | _ => 0
theorem nextS_none {ld : Int} {f : Str → Bool} : ∀ {L : List Str}, (∀ p ∈ L, f p = false) → nextS ld f L none = none
 | [], _ => rfl
 | p :: r, h => by
  rw [nextS, if_neg (by rw [h p List.mem_cons_self]; simp)]
  exact nextS_none fun q hq => h q (List.mem_cons_of_mem _ hq)
theorem i_makeHeaders (h : Inv w eb mb g) (hf : Fine g) : Calls Tryz.prog 89 #[.pointer (some ⟨eb, 0, none⟩)] w fun e w' => e = .returned (.bool false) ∧ Below w.heap.size w w' :=
 makeHeaders_no eb g.m (openS g.K g.L) w h.en h.open (by rw [openS_length]; exact hf.few) (fun p hp => by
  obtain ⟨n, hn, rfl⟩ := List.mem_map.1 hp
  exact (hf.st _ (h.at hn).1).2.2.2.2.1)
theorem i_makeData (h : Inv w eb mb g) (hf : Fine g) : Calls Tryz.prog 90 #[.pointer (some ⟨eb, 0, none⟩)] w fun e w' => e = .returned (.bool false) ∧ Below w.heap.size w w' := by
 have ho := hf.other
 have hlen : ∀ s ∈ g.K, lenV' s.st.waiting = s.wa.length ∧ s.st.some? s.wa.length := fun s hs => by
  obtain ⟨a, c, e⟩ := slice_len (h.wa s hs)
  exact ⟨by rw [e]; rfl, a, c, e⟩
 refine makeData_no eb g.m (openS g.K g.L) (fun p => lenV' p.2.waiting) w h.en h.open (by rw [openS_length]; exact hf.few) (fun p hp => ?_) (by omega) (by omega) (fun p hp => ?_) (nextS_none fun p hp => ?_)
 all_goals
  obtain ⟨n, hn, rfl⟩ := List.mem_map.1 hp
  obtain ⟨hmem, hnum⟩ := h.at hn
  obtain ⟨q1, q2, q3, q4, q5, q6⟩ := hf.st _ hmem
  obtain ⟨e1, e2⟩ := hlen _ hmem
 ·show (atN g.K n).st.some? (lenV' (atN g.K n).st.waiting)
  rw [e1]; exact e2
 ·exact ⟨by show _ ≤ (atN g.K n).st.send; omega, by show (atN g.K n).st.send ≤ _; omega⟩
 ·show g.m.hasD (atN g.K n).st (lenV' (atN g.K n).st.waiting) = false
  rw [e1]; exact q6
end
set_option maxRecDepth 100000 in
set_option maxHeartbeats 1600000 in
theorem i_makeNext (eb mb : Nat) (g : GEnd) (w : World) (h : Inv w eb mb g) (hf : Fine g) (hl : g.out.length ≤ 1073741824) (hlive : g.m.fault = 0) :
  Calls Tryz.prog 63 #[.pointer (some ⟨eb, 0, none⟩)] w fun e w' => MadeO w w' eb mb g g.next e := by
 have HD := hide (isDead_any eb g.m w h.en)
 have hb : (g.m.fault == 0) = true := by simp [hlive]
 rw [hb] at HD
 have H1 := hide (i_makeFirst h hf.toB hl)
 have H2 : Hid (∀ wx, Below w.heap.size w wx → Calls Tryz.prog 83 #[.pointer (some ⟨eb, 0, none⟩)] wx fun e w' => MadeO w w' eb mb g g.oAnswer e) := fun wx hx => (i_makeAnswer eb mb g wx (h.below hx) hf.toB hl).mono fun e w' hm => hm.pre hx
 have H3 : Hid (∀ wx, Below w.heap.size w wx → Calls Tryz.prog 84 #[.pointer (some ⟨eb, 0, none⟩)] wx fun e w' => MadeO w w' eb mb g g.oSettings e) := fun wx hx => (i_makeSettings (h.below hx) hf.toB hl).mono fun e w' hm => hm.pre hx
 have H4 : Hid (∀ wx, Below w.heap.size w wx → Calls Tryz.prog 85 #[.pointer (some ⟨eb, 0, none⟩)] wx fun e w' => MadeO w w' eb mb g g.oPing e) := fun wx hx => (i_makePing (h.below hx) hf.toB hl).mono fun e w' hm => hm.pre hx
 have H5 : Hid (∀ wx, Below w.heap.size w wx → Calls Tryz.prog 86 #[.pointer (some ⟨eb, 0, none⟩)] wx fun e w' => MadeO w w' eb mb g g.oCredit e) := fun wx hx => (i_makeCredit (h.below hx) hf.toB hl).mono fun e w' hm => hm.pre hx
 have H6 : Hid (∀ wx, Below w.heap.size w wx → Calls Tryz.prog 87 #[.pointer (some ⟨eb, 0, none⟩)] wx fun e w' => MadeO w w' eb mb g g.oStream e) := fun wx hx => (i_makeStreamCredit (h.below hx) hf.toB hl).mono fun e w' hm => hm.pre hx
 have H7 : Hid (∀ wx, Below w.heap.size w wx → Calls Tryz.prog 88 #[.pointer (some ⟨eb, 0, none⟩)] wx fun e w' => MadeO w w' eb mb g g.oReset e) := fun wx hx => (i_makeReset eb mb g wx (h.below hx) hf.toB hl).mono fun e w' hm => hm.pre hx
 have H8 : Hid (∀ wx, Below w.heap.size w wx → Calls Tryz.prog 89 #[.pointer (some ⟨eb, 0, none⟩)] wx fun e w' => e = .returned (.bool false) ∧ Below w.heap.size w w') := fun wx hx => (i_makeHeaders (h.below hx) hf).mono fun e w' hm => ⟨hm.1, hx.trans (hm.2.mono hx.size)⟩
 have H9 : Hid (∀ wx, Below w.heap.size w wx → Calls Tryz.prog 90 #[.pointer (some ⟨eb, 0, none⟩)] wx fun e w' => e = .returned (.bool false) ∧ Below w.heap.size w w') := fun wx hx => (i_makeData (h.below hx) hf).mono fun e w' hm => ⟨hm.1, hx.trans (hm.2.mono hx.size)⟩
 have HO : Hid (g.next = g.oFirst.or (g.oAnswer.or (g.oSettings.or (g.oPing.or (g.oCredit.or (g.oStream.or g.oReset)))))) := (rfl : g.next = _)
 clear h hf hl hlive hb
 generalize g.next = N at *
 generalize g.oFirst = o1 at *
 generalize g.oAnswer = o2 at *
 generalize g.oSettings = o3 at *
 generalize g.oPing = o4 at *
 generalize g.oCredit = o5 at *
 generalize g.oStream = o6 at *
 generalize g.oReset = o7 at *
 go_enter Tryz.func63, Tryz.ntmps63
 go_wp2_with fail
 refine HD.out.mono ?_
 rintro e w1 ⟨rfl, hw1⟩
 rw [hw1]
 clear hw1 w1
 go_wp2_with fail
 refine H1.out.mono ?_
 intro e w1 hm
 cases o1 with
 | some q =>
  obtain ⟨rfl, hx⟩ := hm
  have HX := hide hx
  clear hx
  go_wp2
  go_ret
  rw [HO.out]
  exact ⟨rfl, HX.out⟩
 | none =>
  obtain ⟨rfl, hx⟩ := hm
  have HX := hide hx
  clear hx
  go_wp2_with fail
  refine (H2.out _ HX.out).mono ?_
  intro e w2 hm
  cases o2 with
  | some q =>
   obtain ⟨rfl, hx⟩ := hm
   have HX := hide hx
   clear hx
   go_wp2
   go_ret
   rw [HO.out]
   exact ⟨rfl, HX.out⟩
  | none =>
   obtain ⟨rfl, hx⟩ := hm
   have HX := hide hx
   clear hx
   go_wp2_with fail
   refine (H3.out _ HX.out).mono ?_
   intro e w3 hm
   cases o3 with
   | some q =>
    obtain ⟨rfl, hx⟩ := hm
    have HX := hide hx
    clear hx
    go_wp2
    go_ret
    rw [HO.out]
    exact ⟨rfl, HX.out⟩
   | none =>
    obtain ⟨rfl, hx⟩ := hm
    have HX := hide hx
    clear hx
    go_wp2_with fail
    refine (H4.out _ HX.out).mono ?_
    intro e w4 hm
    cases o4 with
    | some q =>
     obtain ⟨rfl, hx⟩ := hm
     have HX := hide hx
     clear hx
     go_wp2
     go_ret
     rw [HO.out]
     exact ⟨rfl, HX.out⟩
    | none =>
     obtain ⟨rfl, hx⟩ := hm
     have HX := hide hx
     clear hx
     go_wp2_with fail
     refine (H5.out _ HX.out).mono ?_
     intro e w5 hm
     cases o5 with
     | some q =>
      obtain ⟨rfl, hx⟩ := hm
      have HX := hide hx
      clear hx
      go_wp2
      go_ret
      rw [HO.out]
      exact ⟨rfl, HX.out⟩
     | none =>
      obtain ⟨rfl, hx⟩ := hm
      have HX := hide hx
      clear hx
      go_wp2_with fail
      refine (H6.out _ HX.out).mono ?_
      intro e w6 hm
      cases o6 with
      | some q =>
       obtain ⟨rfl, hx⟩ := hm
       have HX := hide hx
       clear hx
       go_wp2
       go_ret
       rw [HO.out]
       exact ⟨rfl, HX.out⟩
      | none =>
       obtain ⟨rfl, hx⟩ := hm
       have HX := hide hx
       clear hx
       go_wp2_with fail
       refine (H7.out _ HX.out).mono ?_
       intro e w7 hm
       cases o7 with
       | some q =>
        obtain ⟨rfl, hx⟩ := hm
        have HX := hide hx
        clear hx
        go_wp2
        go_ret
        rw [HO.out]
        exact ⟨rfl, HX.out⟩
       | none =>
        obtain ⟨rfl, hx⟩ := hm
        have HX := hide hx
        clear hx
        go_wp2_with fail
        refine (H8.out _ HX.out).mono ?_
        rintro e w8 ⟨rfl, hx⟩
        have HY := hide hx
        clear hx
        go_wp2_with fail
        refine (H9.out _ HY.out).mono ?_
        rintro e w9 ⟨rfl, hx⟩
        have HZ := hide hx
        clear hx
        go_wp2
        go_ret
        rw [HO.out]
        exact ⟨rfl, HZ.out⟩
end
section
def EndM.died (m : EndM) (code : Int) : EndM := { m with fault := code, greeted := 0, got := .slice none 0 0, hlen := 0, hkind := 0, hflags := 0, hstream := 0, begun := false, bstream := 0, bbytes := .slice none 0 0, blast := false, newest := 0, ulim := 0, usz := 0, utab := .slice none 0 0, umost := 0, parted := false, answers := .slice none 0 0, resets := .slice none 0 0, next := 0, lastData := 0, plim := 0, psz := 0, ptab := .slice none 0 0, pwait := .slice none 0 0 }
def GSt.mute (s : GSt) : GSt := { s with st := { s.st with waiting := .slice none 0 0 }, wa := [] }
def muteN (l : List Int) (K : List GSt) : List GSt := K.map fun s => if s.st.number ∈ l then s.mute else s
def GEnd.died (g : GEnd) (code : Int) : GEnd := ⟨g.m.died code, muteN g.L g.K, g.L, g.out, [], [], []⟩
theorem muteN_nil (K : List GSt) : muteN [] K = K := by unfold muteN; simp
theorem muteN_step (l : List Int) (n : Int) (K : List GSt) : updN n GSt.mute (muteN l K) = muteN (l ++ [n]) K := by
 unfold updN muteN
 rw [List.map_map]
 apply List.map_congr_left
 intro s _
 have e : s.mute.st.number = s.st.number := rfl
 simp only [Function.comp, List.mem_append, List.mem_singleton]
 by_cases h1 : s.st.number ∈ l
 ·simp only [h1, if_true, true_or, e]
  split <;> rfl
 ·simp only [h1, if_false, false_or]
theorem muteN_bare (l : List Int) (K : List GSt) : (muteN l K).map GSt.bare = muteN l (K.map GSt.bare) := by
 unfold muteN
 rw [List.map_map, List.map_map]
 apply List.map_congr_left
 intro s _
 show (if s.st.number ∈ l then s.mute else s).bare = if s.bare.st.number ∈ l then s.bare.mute else s.bare
 have e : s.bare.st.number = s.st.number := rfl
 rw [e]
 split <;> rfl
theorem died_bare (g : GEnd) (code : Int) : (g.died code).bare = g.bare.died code := by
 unfold GEnd.died GEnd.bare
 simp only [GEnd.mk.injEq, true_and, and_true]
 exact ⟨rfl, muteN_bare _ _, rfl⟩
theorem owns_nil8 (w : World) (e : TypeId) : w.ownsRow 0 e 1 (.slice none 0 0) 0 [] := ⟨rfl, .inl ⟨rfl, rfl⟩⟩
theorem rowAt_nil (w : World) (e : TypeId) (size : Nat) : RowAt w e size (.slice none 0 0) 0 [] := ⟨by simp, .inl ⟨rfl, rfl⟩⟩
section
variable {w w' : World} {eb mb : Nat} {g : GEnd}
structure GaveE (w : World) (eb mb : Nat) (g : GEnd) (wI : World) (m0 : EndM) (code : Int) : Prop where
 inv : Inv wI eb mb g
 en : EnB w eb m0
 same : m0.died code = g.m.died code
 chg : Chg (fun j => j = eb ∨ g.m.got.ownBlock = some j ∨ ¬ Foot eb mb g j) wI w
 few : g.L.length ≤ 1048576
theorem Inv.onDie {code : Int} (h : Inv w eb mb g) (hc : Chg (fun j => j = eb ∨ g.m.got.ownBlock = some j ∨ ¬ Foot eb mb g j) w w') (hen : EnB w' eb (g.m.died code)) : Inv w' eb mb { g with m := g.m.died code, got := [], ans := [], res := [] } := by
 refine ⟨hen, h.kn.chg hc (fun e => ?_) (fun p hp e => ?_), h.km, h.nd, h.nn, h.ln, h.has, ?_, ?_, owns_nil8 _ _, fun p hp => ?_, fun p hp => ?_, rowAt_nil _ _ _, fun a ha => (by cases ha), rowAt_nil _ _ _, ?_⟩
 ·rcases e with a | a | a
  ·exact h.eb_mb a
  ·exact owns_mb h.kn h.got a
  ·exact a (Or.inr (Or.inl rfl))
 ·obtain ⟨q, hq, rfl⟩ := List.mem_map.1 hp
  rcases e with a | a | a
  ·exact h.st_eb hq a
  ·exact owns_ne h.got (h.st hq).blk (by decide) a
  ·exact a (h.foot_st hq)
 ·refine owns_chg h.row hc (fun j hj e => ?_)
  rcases e with a | a | a
  ·rw [a] at hj; exact owns_ne h.row h.en.blk (by decide) hj
  ·exact rows_ne h.got h.row (by decide) a hj
  ·exact a (Or.inr (Or.inr (Or.inr (Or.inr (Or.inl hj)))))
 ·refine owns_chg h.out hc (fun j hj e => ?_)
  rcases e with a | a | a
  ·rw [a] at hj; exact owns_ne h.out h.en.blk (by decide) hj
  ·exact h.out_got hj a
  ·exact a (Or.inr (Or.inr (Or.inl hj)))
 ·refine owns_chg (h.un p hp) hc (fun j hj e => ?_)
  rcases e with a | a | a
  ·rw [a] at hj; exact owns_ne (h.un p hp) h.en.blk (by decide) hj
  ·exact h.got_un hp hj a
  ·exact a (foot_un (g := g) hp hj)
 ·refine owns_chg (h.wa p hp) hc (fun j hj e => ?_)
  rcases e with a | a | a
  ·rw [a] at hj; exact owns_ne (h.wa p hp) h.en.blk (by decide) hj
  ·exact h.got_wa hp hj a
  ·exact a (foot_wa (g := g) hp hj)
 ·exact h.apart (fun _ => 0) (g.m.died code) g.K [] (fun j hj => Or.inl hj) (fun j hj => by cases hj) (fun p hp' j hj => Or.inl ⟨p, hp', rfl, hj⟩) (fun p hp' j hj => Or.inl ⟨p, hp', rfl, hj⟩) (fun a ha' j hj => by cases ha')
theorem Inv.onMute {s : GSt} (h : Inv w eb mb g) (hs : s ∈ g.K) : Next w (w.setCell ⟨s.sb, 12, none⟩ (.slice none 0 0)) eb mb g { g with K := updN s.st.number GSt.mute g.K } := by
 have hc : Chg (fun j => j = s.sb) w (w.setCell ⟨s.sb, 12, none⟩ (.slice none 0 0)) := chg_set (Chg.refl _ _) rfl
 have keep : ∀ {k : Nat} {v' : Value} {xs : List Value} {ty : TypeId}, w.ownsRow 0 ty 1 v' k xs → (∀ j, v'.ownBlock = some j → j ≠ s.sb) → (w.setCell ⟨s.sb, 12, none⟩ (.slice none 0 0)).ownsRow 0 ty 1 v' k xs := fun hr hj => owns_chg hr hc (fun j hjj e => hj j hjj e)
 have hn := h.onSt (S := fun j => j = s.sb) (m' := g.m) (s := s) (s' := s.mute) (L' := g.L) (o' := g.out) 0 hs hc (fun j e => Or.inr (Or.inl e)) (h.en.chg hc (fun e => h.st_eb hs e.symm)) (StB.of (blk_set (h.st hs).blk) rfl) rfl rfl rfl rfl rfl rfl
  (keep h.row (fun j hj e => by rw [e] at hj; exact owns_ne h.row (h.st hs).blk (by decide) hj)) (fun j hj => Or.inl hj) (List.Sublist.refl _)
  (keep h.out (fun j hj e => by rw [e] at hj; exact owns_ne h.out (h.st hs).blk (by decide) hj)) (fun j hj => Or.inl hj)
  (keep (h.un s hs) (fun j hj e => by rw [e] at hj; exact owns_ne (h.un s hs) (h.st hs).blk (by decide) hj)) (fun j hj => Or.inl hj)
  (owns_nil8 _ _) (fun j hj => by cases hj)
 rw [updN_const (f := GSt.mute) h.nn hs rfl] at hn
 exact hn
end
theorem foot_died {eb mb : Nat} {g : GEnd} {code : Int} {j : Nat} (h : Foot eb mb { g with m := g.m.died code, got := [], ans := [], res := [] } j) : Foot eb mb g j := by
 unfold Foot at h ⊢
 rcases h with e | e | e | e | e | e | e | ⟨a, ha', e⟩ | e
 ·simp [e]
 ·simp [e]
 ·exact Or.inr (Or.inr (Or.inl e))
 ·cases e
 ·exact Or.inr (Or.inr (Or.inr (Or.inr (Or.inl e))))
 ·cases e
 ·cases e
 ·cases ha'
 ·exact Or.inr (Or.inr (Or.inr (Or.inr (Or.inr (Or.inr (Or.inr (Or.inr e)))))))
theorem foot_mute {eb mb : Nat} {g : GEnd} {n : Int} {j : Nat} (h : Foot eb mb { g with K := updN n GSt.mute g.K } j) : Foot eb mb g j := by
 unfold Foot at h ⊢
 rcases h with e | e | e | e | e | e | e | e | ⟨p, hp, e⟩
 ·exact Or.inl e
 ·exact Or.inr (Or.inl e)
 ·exact Or.inr (Or.inr (Or.inl e))
 ·exact Or.inr (Or.inr (Or.inr (Or.inl e)))
 ·exact Or.inr (Or.inr (Or.inr (Or.inr (Or.inl e))))
 ·exact Or.inr (Or.inr (Or.inr (Or.inr (Or.inr (Or.inl e)))))
 ·exact Or.inr (Or.inr (Or.inr (Or.inr (Or.inr (Or.inr (Or.inl e))))))
 ·exact Or.inr (Or.inr (Or.inr (Or.inr (Or.inr (Or.inr (Or.inr (Or.inl e)))))))
 ·refine Or.inr (Or.inr (Or.inr (Or.inr (Or.inr (Or.inr (Or.inr (Or.inr ?_)))))))
  obtain ⟨s, hs, rfl⟩ := List.mem_map.1 hp
  refine ⟨s, hs, ?_⟩
  split at e
  ·rcases e with e | e | e
   ·exact Or.inl e
   ·exact Or.inr (Or.inl e)
   ·cases e
  ·exact e
def GoingC (w : World) (eb : Nat) (m : EndM) : Prop := eb < w.heap.size ∧ w.cell? ⟨eb, 39, none⟩ = some (.bool m.greets) ∧ w.frozen? ⟨eb, 39, none⟩ = false ∧ w.cell? ⟨eb, 40, none⟩ = some (.bool m.parted) ∧ w.frozen? ⟨eb, 40, none⟩ = false ∧ w.cell? ⟨eb, 41, none⟩ = some (m.out) ∧ w.frozen? ⟨eb, 41, none⟩ = false ∧ w.cell? ⟨eb, 42, none⟩ = some (m.answers) ∧ w.frozen? ⟨eb, 42, none⟩ = false ∧ w.cell? ⟨eb, 43, none⟩ = some (m.resets) ∧ w.frozen? ⟨eb, 43, none⟩ = false ∧ w.cell? ⟨eb, 44, none⟩ = some (.int .i64 m.next) ∧ w.frozen? ⟨eb, 44, none⟩ = false ∧ w.cell? ⟨eb, 45, none⟩ = some (.int .i64 m.lastData) ∧ w.frozen? ⟨eb, 45, none⟩ = false ∧ w.cell? ⟨eb, 46, none⟩ = some (.int .i64 m.plim) ∧ w.frozen? ⟨eb, 46, none⟩ = false ∧ w.cell? ⟨eb, 47, none⟩ = some (.int .i64 m.psz) ∧ w.frozen? ⟨eb, 47, none⟩ = false ∧ w.cell? ⟨eb, 48, none⟩ = some (m.ptab) ∧ w.frozen? ⟨eb, 48, none⟩ = false ∧ w.cell? ⟨eb, 49, none⟩ = some (m.pwait) ∧ w.frozen? ⟨eb, 49, none⟩ = false
theorem EnB.going {w : World} {eb : Nat} {m : EndM} (h : EnB w eb m) : GoingC w eb m := ⟨h.lt, h.c39, h.fr 39, h.c40, h.fr 40, h.c41, h.fr 41, h.c42, h.fr 42, h.c43, h.fr 43, h.c44, h.fr 44, h.c45, h.fr 45, h.c46, h.fr 46, h.c47, h.fr 47, h.c48, h.fr 48, h.c49, h.fr 49⟩
def EndM.deaf (m : EndM) (code : Int) : EndM := { m with fault := code, greeted := 0, got := .slice none 0 0, hlen := 0, hkind := 0, hflags := 0, hstream := 0, begun := false, bstream := 0, bbytes := .slice none 0 0, blast := false, newest := 0, ulim := 0, usz := 0, utab := .slice none 0 0, umost := 0 }
theorem deaf_en {w : World} {eb : Nat} {m0 : EndM} (code : Int) (h : EnB w eb m0) : EnB ((((((((((((((((w.setCell ⟨eb, 1, none⟩ (.int .i64 code)).setCell ⟨eb, 24, none⟩ (.int .i64 0)).setCell ⟨eb, 25, none⟩ (.slice none 0 0)).setCell ⟨eb, 26, none⟩ (.int .i64 0)).setCell ⟨eb, 27, none⟩ (.int .i64 0)).setCell ⟨eb, 28, none⟩ (.int .i64 0)).setCell ⟨eb, 29, none⟩ (.int .i64 0)).setCell ⟨eb, 30, none⟩ (.bool false)).setCell ⟨eb, 31, none⟩ (.int .i64 0)).setCell ⟨eb, 32, none⟩ (.slice none 0 0)).setCell ⟨eb, 33, none⟩ (.bool false)).setCell ⟨eb, 34, none⟩ (.int .i64 0)).setCell ⟨eb, 35, none⟩ (.int .i64 0)).setCell ⟨eb, 36, none⟩ (.int .i64 0)).setCell ⟨eb, 37, none⟩ (.slice none 0 0)).setCell ⟨eb, 38, none⟩ (.int .i64 0)) eb (m0.deaf code) ∧ Chg (fun j => j = eb) w ((((((((((((((((w.setCell ⟨eb, 1, none⟩ (.int .i64 code)).setCell ⟨eb, 24, none⟩ (.int .i64 0)).setCell ⟨eb, 25, none⟩ (.slice none 0 0)).setCell ⟨eb, 26, none⟩ (.int .i64 0)).setCell ⟨eb, 27, none⟩ (.int .i64 0)).setCell ⟨eb, 28, none⟩ (.int .i64 0)).setCell ⟨eb, 29, none⟩ (.int .i64 0)).setCell ⟨eb, 30, none⟩ (.bool false)).setCell ⟨eb, 31, none⟩ (.int .i64 0)).setCell ⟨eb, 32, none⟩ (.slice none 0 0)).setCell ⟨eb, 33, none⟩ (.bool false)).setCell ⟨eb, 34, none⟩ (.int .i64 0)).setCell ⟨eb, 35, none⟩ (.int .i64 0)).setCell ⟨eb, 36, none⟩ (.int .i64 0)).setCell ⟨eb, 37, none⟩ (.slice none 0 0)).setCell ⟨eb, 38, none⟩ (.int .i64 0)) := by
 refine ⟨EnB.of (cs := _) (blk_set (blk_set (blk_set (blk_set (blk_set (blk_set (blk_set (blk_set (blk_set (blk_set (blk_set (blk_set (blk_set (blk_set (blk_set (blk_set h.blk)))))))))))))))) (by simp [EndM.cells, EndM.deaf]), ?_⟩
 exact (chg_set (chg_set (chg_set (chg_set (chg_set (chg_set (chg_set (chg_set (chg_set (chg_set (chg_set (chg_set (chg_set (chg_set (chg_set (chg_set (Chg.refl _ _) rfl) rfl) rfl) rfl) rfl) rfl) rfl) rfl) rfl) rfl) rfl) rfl) rfl) rfl) rfl) rfl)
theorem EnB.drewE {w : World} {eb : Nat} {m : EndM} (h : EnB w eb m) : EnB w.drew eb m := ⟨h.blk⟩
theorem dumb_en {wB : World} {eb : Nat} {m0 : EndM} (code : Int) (h : EnB wB eb (m0.deaf code)) : EnB ((((((((((((wB).setCell ⟨eb, 39, none⟩ (.bool m0.greets)).setCell ⟨eb, 40, none⟩ (.bool false)).setCell ⟨eb, 41, none⟩ (m0.out)).setCell ⟨eb, 42, none⟩ (.slice none 0 0)).setCell ⟨eb, 43, none⟩ (.slice none 0 0)).setCell ⟨eb, 44, none⟩ (.int .i64 0)).setCell ⟨eb, 45, none⟩ (.int .i64 0)).setCell ⟨eb, 46, none⟩ (.int .i64 0)).setCell ⟨eb, 47, none⟩ (.int .i64 0)).setCell ⟨eb, 48, none⟩ (.slice none 0 0)).setCell ⟨eb, 49, none⟩ (.slice none 0 0)) eb (m0.died code) ∧ Chg (fun j => j = eb) wB ((((((((((((wB).setCell ⟨eb, 39, none⟩ (.bool m0.greets)).setCell ⟨eb, 40, none⟩ (.bool false)).setCell ⟨eb, 41, none⟩ (m0.out)).setCell ⟨eb, 42, none⟩ (.slice none 0 0)).setCell ⟨eb, 43, none⟩ (.slice none 0 0)).setCell ⟨eb, 44, none⟩ (.int .i64 0)).setCell ⟨eb, 45, none⟩ (.int .i64 0)).setCell ⟨eb, 46, none⟩ (.int .i64 0)).setCell ⟨eb, 47, none⟩ (.int .i64 0)).setCell ⟨eb, 48, none⟩ (.slice none 0 0)).setCell ⟨eb, 49, none⟩ (.slice none 0 0)) := by
 refine ⟨EnB.of (cs := _) (blk_set (blk_set (blk_set (blk_set (blk_set (blk_set (blk_set (blk_set (blk_set (blk_set (blk_set h.blk))))))))))) (by simp [EndM.cells, EndM.deaf, EndM.died]), ?_⟩
 exact (chg_set (chg_set (chg_set (chg_set (chg_set (chg_set (chg_set (chg_set (chg_set (chg_set (chg_set (Chg.refl _ _) rfl) rfl) rfl) rfl) rfl) rfl) rfl) rfl) rfl) rfl) rfl)
theorem died_en {wB : World} {eb : Nat} {m0 : EndM} (code : Int) (h : EnB wB eb (m0.deaf code)) : EnB ((((((((((((wB).setCell ⟨eb, 39, none⟩ (.bool m0.greets)).setCell ⟨eb, 40, none⟩ (.bool false)).setCell ⟨eb, 41, none⟩ (m0.out)).setCell ⟨eb, 42, none⟩ (.slice none 0 0)).setCell ⟨eb, 43, none⟩ (.slice none 0 0)).setCell ⟨eb, 44, none⟩ (.int .i64 0)).setCell ⟨eb, 45, none⟩ (.int .i64 0)).setCell ⟨eb, 46, none⟩ (.int .i64 0)).setCell ⟨eb, 47, none⟩ (.int .i64 0)).setCell ⟨eb, 48, none⟩ (.slice none 0 0)).setCell ⟨eb, 49, none⟩ (.slice none 0 0)).drew eb (m0.died code) ∧ Chg (fun j => j = eb) wB ((((((((((((wB).setCell ⟨eb, 39, none⟩ (.bool m0.greets)).setCell ⟨eb, 40, none⟩ (.bool false)).setCell ⟨eb, 41, none⟩ (m0.out)).setCell ⟨eb, 42, none⟩ (.slice none 0 0)).setCell ⟨eb, 43, none⟩ (.slice none 0 0)).setCell ⟨eb, 44, none⟩ (.int .i64 0)).setCell ⟨eb, 45, none⟩ (.int .i64 0)).setCell ⟨eb, 46, none⟩ (.int .i64 0)).setCell ⟨eb, 47, none⟩ (.int .i64 0)).setCell ⟨eb, 48, none⟩ (.slice none 0 0)).setCell ⟨eb, 49, none⟩ (.slice none 0 0)).drew := ⟨EnB.drewE (dumb_en code h).1, (dumb_en code h).2.drew⟩
set_option maxRecDepth 100000 in
set_option maxHeartbeats 1600000 in
theorem eDie_any (eb mb : Nat) (g : GEnd) (wI : World) (m0 : EndM) (code : Int) (w : World) (h : GaveE w eb mb g wI m0 code) :
  Calls Tryz.prog 32 #[.pointer (some ⟨eb, 0, none⟩), .int .i64 code] w fun e w' => e = .returned (.tuple #[]) ∧ ∃ g', g'.bare = g.bare.died code ∧ RdOk g' ∧ Inv w' eb mb g' ∧ Chg (fun j => Foot eb mb g j) w w' ∧ ∀ j, Foot eb mb g' j → Foot eb mb g j := by
 have c1 := h.en.c1
 have f1 := h.en.fr 1
 have c24 := h.en.c24
 have f24 := h.en.fr 24
 have c25 := h.en.c25
 have f25 := h.en.fr 25
 have c26 := h.en.c26
 have f26 := h.en.fr 26
 have c27 := h.en.c27
 have f27 := h.en.fr 27
 have c28 := h.en.c28
 have f28 := h.en.fr 28
 have c29 := h.en.c29
 have f29 := h.en.fr 29
 have c30 := h.en.c30
 have f30 := h.en.fr 30
 have c31 := h.en.c31
 have f31 := h.en.fr 31
 have c32 := h.en.c32
 have f32 := h.en.fr 32
 have c33 := h.en.c33
 have f33 := h.en.fr 33
 have c34 := h.en.c34
 have f34 := h.en.fr 34
 have c35 := h.en.c35
 have f35 := h.en.fr 35
 have c36 := h.en.c36
 have f36 := h.en.fr 36
 have c37 := h.en.c37
 have f37 := h.en.fr 37
 have c38 := h.en.c38
 have f38 := h.en.fr 38
 have hlt := h.en.lt
 obtain ⟨hen1, hch1⟩ := deaf_en code h.en
 have HE1 := hide hen1
 have HC1 := hide hch1
 have H := hide h
 clear h hen1 hch1
 go_enter Tryz.func32, Tryz.ntmps32
 go_upto_region 2 with fail
 generalize (((((((((((((((w.setCell ⟨eb, 1, none⟩ (.int .i64 code)).setCell ⟨eb, 24, none⟩ (.int .i64 0)).setCell ⟨eb, 25, none⟩ (.slice none 0 0)).setCell ⟨eb, 26, none⟩ (.int .i64 0)).setCell ⟨eb, 27, none⟩ (.int .i64 0)).setCell ⟨eb, 28, none⟩ (.int .i64 0)).setCell ⟨eb, 29, none⟩ (.int .i64 0)).setCell ⟨eb, 30, none⟩ (.bool false)).setCell ⟨eb, 31, none⟩ (.int .i64 0)).setCell ⟨eb, 32, none⟩ (.slice none 0 0)).setCell ⟨eb, 33, none⟩ (.bool false)).setCell ⟨eb, 34, none⟩ (.int .i64 0)).setCell ⟨eb, 35, none⟩ (.int .i64 0)).setCell ⟨eb, 36, none⟩ (.int .i64 0)).setCell ⟨eb, 37, none⟩ (.slice none 0 0)).setCell ⟨eb, 38, none⟩ (.int .i64 0) = wB at *
 clear c1 f1 c24 f24 c25 f25 c26 f26 c27 f27 c28 f28 c29 f29 c30 f30 c31 f31 c32 f32 c33 f33 c34 f34 c35 f35 c36 f36 c37 f37 c38 f38
 obtain ⟨hen2, hch2⟩ := died_en code HE1.out
 have HE2 := hide hen2
 have HC2 := hide hch2
 have HG : Hid (GoingC wB.drew eb m0) := EnB.going (m := m0.deaf code) ⟨HE1.out.blk⟩
 clear hen2 hch2
 have hltB := HE1.out.lt
 obtain ⟨so, co, hso⟩ : ∃ so co, m0.out = .slice so g.out.length co := by
  obtain ⟨so, co, e⟩ := slice_len H.out.inv.out
  have e2 : (m0.died code).out = (g.m.died code).out := by rw [H.out.same]
  exact ⟨so, co, Eq.trans e2 e⟩
 unfold GoingC at HG
 have c39 : wB.cell? ⟨eb, 39, none⟩ = some (.bool m0.greets) := HE1.out.c39
 have f39 := HE1.out.fr 39
 have c40 : wB.cell? ⟨eb, 40, none⟩ = some (.bool m0.parted) := HE1.out.c40
 have f40 := HE1.out.fr 40
 have c41 : wB.cell? ⟨eb, 41, none⟩ = some (m0.out) := HE1.out.c41
 have f41 := HE1.out.fr 41
 have c42 : wB.cell? ⟨eb, 42, none⟩ = some (m0.answers) := HE1.out.c42
 have f42 := HE1.out.fr 42
 have c43 : wB.cell? ⟨eb, 43, none⟩ = some (m0.resets) := HE1.out.c43
 have f43 := HE1.out.fr 43
 have c44 : wB.cell? ⟨eb, 44, none⟩ = some (.int .i64 m0.next) := HE1.out.c44
 have f44 := HE1.out.fr 44
 have c45 : wB.cell? ⟨eb, 45, none⟩ = some (.int .i64 m0.lastData) := HE1.out.c45
 have f45 := HE1.out.fr 45
 have c46 : wB.cell? ⟨eb, 46, none⟩ = some (.int .i64 m0.plim) := HE1.out.c46
 have f46 := HE1.out.fr 46
 have c47 : wB.cell? ⟨eb, 47, none⟩ = some (.int .i64 m0.psz) := HE1.out.c47
 have f47 := HE1.out.fr 47
 have c48 : wB.cell? ⟨eb, 48, none⟩ = some (m0.ptab) := HE1.out.c48
 have f48 := HE1.out.fr 48
 have c49 : wB.cell? ⟨eb, 49, none⟩ = some (m0.pwait) := HE1.out.c49
 have f49 := HE1.out.fr 49
 rw [hso] at HG HE2 HC2
 rw [hso] at c41
 have HK1 : Hid (wB.drew.cell? ⟨eb, 39, none⟩ = some (.bool m0.greets) ∧ wB.drew.cell? ⟨eb, 41, none⟩ = some (.slice so g.out.length co)) := ⟨c39, c41⟩
 have HK2 := hide (show _ ∧ _ from ⟨HE2.out.c39, HE2.out.c41⟩)
 rw [show (m0.died code).greets = m0.greets from rfl, show (m0.died code).out = m0.out from rfl, hso] at HK2
 go_region_held3 (fun wx => wx.cell? ⟨eb, 39, none⟩ = some (.bool m0.greets) ∧ wx.cell? ⟨eb, 41, none⟩ = some (.slice so g.out.length co)) (first | with_reducible exact HK1.out | with_reducible exact HK2.out) (fail)
 generalize ((((((((((((wB).setCell ⟨eb, 39, none⟩ (.bool m0.greets)).setCell ⟨eb, 40, none⟩ (.bool false)).setCell ⟨eb, 41, none⟩ (.slice so g.out.length co)).setCell ⟨eb, 42, none⟩ (.slice none 0 0)).setCell ⟨eb, 43, none⟩ (.slice none 0 0)).setCell ⟨eb, 44, none⟩ (.int .i64 0)).setCell ⟨eb, 45, none⟩ (.int .i64 0)).setCell ⟨eb, 46, none⟩ (.int .i64 0)).setCell ⟨eb, 47, none⟩ (.int .i64 0)).setCell ⟨eb, 48, none⟩ (.slice none 0 0)).setCell ⟨eb, 49, none⟩ (.slice none 0 0)).drew = wD at *
 clear c39 f39 c40 f40 c41 f41 c42 f42 c43 f43 c44 f44 c45 f45 c46 f46 c47 f47 c48 f48 c49 f49 HK1 HK2 HG hltB hlt
 have hn1 : Inv wD eb mb { g with m := g.m.died code, got := [], ans := [], res := [] } := by
  refine H.out.inv.onDie (code := code) (H.out.chg.trans ((HC1.out.trans (HC2.out.mono fun j _ e => Or.inr e)).mono fun j _ e => Or.inr (Or.inl e))) ?_
  rw [← H.out.same]
  exact HE2.out
 have HL : Hid (g.L.length ≤ 1048576) := H.out.few
 have HCW : Hid (Chg (fun j => Foot eb mb g j) w wD) := (HC1.out.trans (HC2.out.mono fun j _ e => Or.inr e)).mono fun j _ e => Or.inl e
 clear HE2 HC2 HC1 HE1 H hso
 obtain ⟨g1, hg1⟩ : ∃ g1 : GEnd, g1 = { g with m := g.m.died code, got := [], ans := [], res := [] } := ⟨_, rfl⟩
 rw [← hg1] at hn1
 have hb1 : ({ g1.bare with K := muteN g1.L g1.bare.K } : GEnd) = g.bare.died code := by
  rw [hg1]
  rfl
 have HG1 : Hid (g1.got = []) := by rw [hg1]; rfl
 have HFG : Hid (∀ j, Foot eb mb g1 j → Foot eb mb g j) := fun j hj => by rw [hg1] at hj; exact foot_died hj
 have hL1 : g1.L.length ≤ 1048576 := by rw [hg1]; exact HL.out
 have HB1 := hide hb1
 clear hg1 hb1 HL
 replace hn1 := Next.refl hn1
 obtain ⟨sp, cp, hop⟩ := slice_len hn1.inv.row
 have c23 := hn1.inv.en.c23
 rw [hop] at c23
 have HN1 := hide hn1
 have HOP := hide hop
 clear hn1 hop
 go_wp2
 go_loopw [34] (fun i wr => ∃ (k : Nat) (wv : World) (c : GEnd), wv = wr ∧ i = .int .i64 (k : Int) ∧ k ≤ g1.L.length ∧ Next wD wv eb mb g1 c ∧ c.m.opn = g1.m.opn ∧ c.L = g1.L ∧ c.got = [] ∧ c.bare = { g1.bare with K := muteN (g1.L.take k) g1.bare.K } ∧ Chg (fun j => Foot eb mb g j) w wv ∧ ∀ j, Foot eb mb c j → Foot eb mb g j) (fun i _ => g1.L.length - (intOf i).toNat)
 case atStart => exact ⟨0, _, g1, rfl, rfl, Nat.zero_le _, HN1.out, rfl, rfl, HG1.out, by rw [List.take_zero, muteN_nil], HCW.out, HFG.out⟩
 case round =>
  obtain ⟨k, wv, c, hwv, rfl, hk, hnx, hco, hcL, hcg, hcb, hcw, hfg⟩ := hrel
  subst hwv
  by_cases hlk : k < g1.L.length
  ·have hkc : k < c.L.length := by rw [hcL]; exact hlk
   obtain ⟨gr, cr, e1, e2, e3⟩ := hnx.inv.open.at (k := k) (by rw [openS_length]; exact hkc)
   rw [hco, HOP.out, openS_length, hcL] at e1
   simp only [Value.slice.injEq, true_and] at e1
   obtain ⟨rfl, rfl⟩ := e1
   rw [openS_length, hcL] at e3
   have hLk : c.L[k] = g1.L[k] := by simp only [hcL]
   obtain ⟨hm, hmn⟩ := hnx.inv.at (n := c.L[k]) (List.getElem_mem hkc)
   have e4 : ((openS c.K c.L)[k]'(by rw [openS_length]; exact hkc)).1 = (atN c.K c.L[k]).sb := by simp [openS, GSt.str]
   rw [e4] at e2
   have hst := hnx.inv.st hm
   have hmu := hnx.inv.onMute hm
   have k12 := hst.c12
   have q12 := hst.fr 12
   have hslt := hst.lt
   have HNX := hide (hnx.trans hmu)
   have HREL : Hid (({ c with K := updN (atN c.K c.L[k]).st.number GSt.mute c.K } : GEnd).bare = { g1.bare with K := muteN (g1.L.take (k + 1)) g1.bare.K }) := by
    have e5 : ({ c with K := updN (atN c.K c.L[k]).st.number GSt.mute c.K } : GEnd).bare = { c.bare with K := updN (atN c.K c.L[k]).st.number GSt.mute c.bare.K } := by
     unfold GEnd.bare
     simp only [GEnd.mk.injEq, true_and, and_true]
     exact updN_bare _ GSt.mute (fun s => rfl) _
    rw [e5, hcb, hmn, hLk]
    simp only [GEnd.mk.injEq, true_and, and_true]
    rw [muteN_step, List.take_add_one, List.getElem?_eq_getElem hlk]
    rfl
   have HCW2 : Hid (Chg (fun j => Foot eb mb g j) w (wv.setCell ⟨(atN c.K c.L[k]).sb, 12, none⟩ (.slice none 0 0))) := chg_set hcw (hfg _ (hnx.inv.foot_st hm))
   have HFG2 : Hid (∀ j, Foot eb mb { c with K := updN (atN c.K c.L[k]).st.number GSt.mute c.K } j → Foot eb mb g j) := fun j hj => hfg j (foot_mute hj)
   have HCO := hide hco
   have HCL := hide hcL
   have HCG := hide hcg
   generalize (atN c.K c.L[k]).sb = sb at *
   clear hnx hco hcL hcg hcb hst hmu hm hmn e4 hcw hfg
   go_wp2
   all_goals go_roundw
   case rel => exact ⟨k + 1, _, _, rfl, by go_num, by omega, HNX.out, HCO.out, HCL.out, HCG.out, HREL.out, HCW2.out, HFG2.out⟩
   case measure => simp [intOf]; omega
  ·have hke : k = g1.L.length := by omega
   rw [hke, List.take_of_length_le (Nat.le_refl _), HB1.out] at hcb
   have HEND : Hid (∃ g', g'.bare = g.bare.died code ∧ RdOk g' ∧ Inv wv eb mb g' ∧ Chg (fun j => Foot eb mb g j) w wv ∧ ∀ j, Foot eb mb g' j → Foot eb mb g j) := ⟨c, hcb, RdOk.nil hcg, hnx.inv, hcw, hfg⟩
   clear hnx hco hcL hcg hcb hke hcw hfg
   go_wp2
   exact bodyPost_end (results_none rfl _ _ _) rfl ⟨rfl, HEND.out⟩
end
section
def EndM.ticks (m : EndM) : Int := max 1 (m.clock - m.start)
def EndM.answd (m : EndM) (n : Nat) : EndM :=
 if m.under && m.pinged && (n == m.pnum) then
  if m.bestB * m.ticks < m.count * m.bestT then
   if 2 * m.count < m.target then { m with under := false, bestB := m.count, bestT := m.ticks }
   else { m with under := false, bestB := m.count, bestT := m.ticks, target := min (2 * m.target) m.most }
  else { m with under := false }
 else m
set_option maxRecDepth 100000 in
set_option maxHeartbeats 1600000 in
theorem tanswer_no (eb : Nat) (m : EndM) (n : Nat) (w : World) (h : EnB w eb m) (hn : (m.under && m.pinged && (n == m.pnum)) = false) :
  Calls Tryz.prog 138 #[.pointer (some ⟨eb, 13, none⟩), .int .u32 n, .int .i64 m.clock] w fun e w' => e = .returned (.int .i64 0) ∧ w' = w := by
 have c17 := h.c17
 have c18 := h.c18
 have c19 := h.c19
 clear h
 have hne : m.under = true → m.pinged = true → ((n : Int) != (m.pnum : Int)) = true := fun h1 h2 => by
  rw [h1, h2] at hn
  simp at hn
  simp
  omega
 cases hu : m.under with
 | false =>
  rw [hu] at c18
  clear hn hne
  go_enter Tryz.func138, Tryz.ntmps138
  go_wp2
  go_ret
  exact ⟨rfl, rfl⟩
 | true =>
  rw [hu] at c18
  cases hp : m.pinged with
  | false =>
   rw [hp] at c19
   clear hn hne
   go_enter Tryz.func138, Tryz.ntmps138
   go_wp2
   go_ret
   exact ⟨rfl, rfl⟩
  | true =>
   rw [hp] at c19
   have hq := hne hu hp
   clear hn hne
   go_enter Tryz.func138, Tryz.ntmps138
   go_wp2
   go_ret
   exact ⟨rfl, rfl⟩
set_option maxRecDepth 100000 in
set_option maxHeartbeats 3200000 in
theorem tanswer_yes (eb : Nat) (m : EndM) (w : World) (h : EnB w eb m) (hu : m.under = true) (hp : m.pinged = true) (b1 : 0 ≤ m.count ∧ m.count ≤ 2147483647) (b2 : 0 ≤ m.clock ∧ m.clock ≤ 2147483647) (b3 : 0 ≤ m.start ∧ m.start ≤ 2147483647) (b4 : 0 ≤ m.bestB ∧ m.bestB ≤ 2147483647) (b5 : 0 ≤ m.bestT ∧ m.bestT ≤ 2147483647) (b6 : 0 ≤ m.target ∧ m.target ≤ 2147483647) (b7 : 0 ≤ m.most ∧ m.most ≤ 2147483647) :
  Calls Tryz.prog 138 #[.pointer (some ⟨eb, 13, none⟩), .int .u32 m.pnum, .int .i64 m.clock] w fun e w' => e = .returned (.int .i64 ((m.answd m.pnum).target - m.target)) ∧ EnB w' eb (m.answd m.pnum) ∧ Chg (fun j => j = eb) w w' := by
 have c17 := h.c17
 have c18 := h.c18
 have c19 := h.c19
 rw [hu] at c18
 rw [hp] at c19
 have f18 := h.fr 18
 have hlt := h.lt
 have hmx : max 1 (m.clock - m.start) = m.ticks := rfl
 have htk : 1 ≤ m.ticks ∧ m.ticks ≤ 2147483647 := by unfold EndM.ticks; omega
 have hwt : IntKind.i64.wrap (m.clock - m.start) = m.clock - m.start := by rw [IntKind.wrap_i64]; omega
 have hwc : IntKind.i64.wrap (2 * m.count) = 2 * m.count := by rw [IntKind.wrap_i64]; omega
 have hwd : IntKind.i64.wrap (min (2 * m.target) m.most - m.target) = min (2 * m.target) m.most - m.target := by rw [IntKind.wrap_i64]; omega
 have hwg : IntKind.i64.wrap (2 * m.target) = 2 * m.target := by rw [IntKind.wrap_i64]; omega
 have ha : (m.answd m.pnum = if m.bestB * m.ticks < m.count * m.bestT then
   if 2 * m.count < m.target then { m with under := false, bestB := m.count, bestT := m.ticks }
   else { m with under := false, bestB := m.count, bestT := m.ticks, target := min (2 * m.target) m.most }
  else { m with under := false }) := by unfold EndM.answd; rw [hu, hp]; simp
 have HA := hide ha
 clear ha
 obtain ⟨w1, hw1⟩ : ∃ w1, w1 = w.setCell ⟨eb, 18, none⟩ (.bool false) := ⟨_, rfl⟩
 have he1 : EnB w1 eb { m with under := false } := by rw [hw1]; exact EnB.of (blk_set h.blk) rfl
 have hc1 : Chg (fun j => j = eb) w w1 := by rw [hw1]; exact chg_set (Chg.refl _ _) rfl
 have HE1 := hide he1
 have HC1 := hide hc1
 have HW1 := hide hw1
 have hs1 : w1.heap.size = w.heap.size := by rw [hw1]; simp [World.setCell]
 clear h he1 hc1 hw1
 go_enter Tryz.func138, Tryz.ntmps138
 go_upto_region 4 with fail
 rw [← HW1.out]
 have d20 : w1.cell? ⟨eb, 20, none⟩ = some (.int .i64 m.start) := HE1.out.c20
 have d21 : w1.cell? ⟨eb, 21, none⟩ = some (.int .i64 m.count) := HE1.out.c21
 go_cut [7] (fun s7 wx => s7 = .pointer (some ⟨w.heap.size, 0, none⟩) ∧ Below w1.heap.size w1 wx ∧ wx.heap[w.heap.size]? = some (.cells #[.int .i64 m.count, .int .i64 m.ticks] 72 (0, 0)))
 case first =>
  go_region_law (fail)
  all_goals (go_wp2_with fail; go_meet)
  all_goals exact ⟨rfl, ((Below.refl _ _).alloc (Nat.le_refl _) _).drew, by rw [← hs1]; exact heap_alloc_new w1 _⟩
 case rest =>
  obtain ⟨rfl, hb2, hx2⟩ := hcut
  obtain ⟨w2, hw2⟩ : ∃ w2, w2 = wc := ⟨_, rfl⟩
  subst hw2
  have he2 := HE1.out.below hb2
  have k0 : w2.cell? ⟨w.heap.size, 0, none⟩ = some (.int .i64 m.count) := by rw [cell_of_row _ _ _ _ _ _ hx2]; rfl
  have k1 : w2.cell? ⟨w.heap.size, 1, none⟩ = some (.int .i64 m.ticks) := by rw [cell_of_row _ _ _ _ _ _ hx2]; rfl
  have d15 : w2.cell? ⟨eb, 15, none⟩ = some (.int .i64 m.bestB) := he2.c15
  have d16 : w2.cell? ⟨eb, 16, none⟩ = some (.int .i64 m.bestT) := he2.c16
  have HM : Hid (∀ wx, Below w2.heap.size w2 wx → Calls Tryz.prog 161 #[.agg #[.int .i64 m.count, .int .i64 m.ticks], .agg #[.int .i64 m.bestB, .int .i64 m.bestT]] wx fun e w' => e = .returned (.bool (decide (m.bestB * m.ticks < m.count * m.bestT))) ∧ Below w2.heap.size w2 w') := fun wx hx => by
   refine (isMore_any m.count m.ticks m.bestB m.bestT wx b1 ⟨by omega, htk.2⟩ b4 b5).mono ?_
   rintro e w' ⟨h1, h2⟩
   exact ⟨h1, hx.trans (h2.mono hx.size)⟩
  have HE2 := hide he2
  have HX2 := hide hx2
  have HB2 := hide hb2
  clear he2 hx2 hb2 d20 d21 c17 c18 c19 f18
  go_upto_region 5 with fail
  go_cut [56] (fun s56 wx => s56 = .bool (!decide (m.bestB * m.ticks < m.count * m.bestT)) ∧ Below w2.heap.size w2 wx)
  case first =>
   go_region_with (first
    | (go_at_call 161; refine (HM.out _ (by first | exact Below.refl _ _ | exact (Below.refl _ _).drew)).mono ?_; rintro e w' ⟨rfl, hb⟩; have HB := hide hb; clear hb))
   all_goals (go_wp2_with fail; go_meet)
   all_goals exact ⟨rfl, by first | exact HB.out | exact HB.out.drew⟩
  case rest =>
   obtain ⟨rfl, hb3⟩ := hcut
   obtain ⟨w3, hw3⟩ : ∃ w3, w3 = wc := ⟨_, rfl⟩
   subst hw3
   have he3 := HE2.out.below hb3
   have hx3 := kept_told HX2.out hb3
   have hc3 : Chg (fun j => j = eb) w w3 := HC1.out.then_below (HB2.out.trans (hb3.mono HB2.out.size))
   have k0 : w3.cell? ⟨w.heap.size, 0, none⟩ = some (.int .i64 m.count) := by rw [cell_of_row _ _ _ _ _ _ hx3]; rfl
   have k1 : w3.cell? ⟨w.heap.size, 1, none⟩ = some (.int .i64 m.ticks) := by rw [cell_of_row _ _ _ _ _ _ hx3]; rfl
   have f15 := he3.fr 15
   have f16 := he3.fr 16
   have hlt3 := he3.lt
   have e15 : w3.cell? ⟨eb, 15, none⟩ = some (.int .i64 m.bestB) := he3.c15
   have e16 : w3.cell? ⟨eb, 16, none⟩ = some (.int .i64 m.bestT) := he3.c16
   have HE3 := hide he3
   have HC3 := hide hc3
   have HX3 := hide hx3
   clear he3 hx3 hc3 hb3 HM HB2 HX2 HE2 d15 d16
   by_cases hmo : m.bestB * m.ticks < m.count * m.bestT
   ·rw [if_pos hmo] at HA
    have hd : decide (m.bestB * m.ticks < m.count * m.bestT) = true := decide_eq_true hmo
    rw [hd]
    clear hd hmo
    obtain ⟨w4, hw4⟩ : ∃ w4, w4 = (w3.setCell ⟨eb, 15, none⟩ (.int .i64 m.count)).setCell ⟨eb, 16, none⟩ (.int .i64 m.ticks) := ⟨_, rfl⟩
    have he4 : EnB w4 eb { m with under := false, bestB := m.count, bestT := m.ticks } := by rw [hw4]; exact EnB.of (blk_set (blk_set HE3.out.blk)) rfl
    have hc4 : Chg (fun j => j = eb) w3 w4 := by rw [hw4]; exact chg_set (chg_set (Chg.refl _ _) rfl) rfl
    have hx4 : w4.heap[w.heap.size]? = some (.cells #[.int .i64 m.count, .int .i64 m.ticks] 72 (0, 0)) := by
     rw [hc4.block _ (lt_of_block HX3.out) (by omega)]; exact HX3.out
    have m0 : w4.cell? ⟨w.heap.size, 0, none⟩ = some (.int .i64 m.count) := by rw [cell_of_row _ _ _ _ _ _ hx4]; rfl
    have m13 : w4.cell? ⟨eb, 13, none⟩ = some (.int .i64 m.target) := he4.c13
    have m14 : w4.cell? ⟨eb, 14, none⟩ = some (.int .i64 m.most) := he4.c14
    have g13 := he4.fr 13
    have hlt4 := he4.lt
    have HE4 := hide he4
    have HC4 : Hid (Chg (fun j => j = eb) w w4) := HC3.out.trans (hc4.mono fun j _ e => Or.inr e)
    have HW4 := hide hw4
    clear he4 hc4 hx4 hw4
    go_upto_region 8 with fail
    rw [← HW4.out]
    clear k0 k1 f15 f16 hlt3 e15 e16 HE3 HC3 HX3
    by_cases h2 : 2 * m.count < m.target
    ·rw [if_pos h2] at HA
     have HR : Hid (EnB w4.drew eb { m with under := false, bestB := m.count, bestT := m.ticks } ∧ Chg (fun j => j = eb) w w4.drew) := ⟨⟨HE4.out.blk⟩, HC4.out.drew⟩
     go_quiet (fail)
     go_wp2
     go_ret
     rw [HA.out]
     exact ⟨by simp, ⟨HE4.out.blk⟩, ⟨HC4.out.os, HC4.out.tape, HC4.out.output, HC4.out.size, HC4.out.block⟩⟩
    ·rw [if_neg h2] at HA
     go_quiet (fail)
     go_upto_region 11 with fail
     go_cut [] (fun wx => EnB wx eb { m with under := false, bestB := m.count, bestT := m.ticks, target := min (2 * m.target) m.most } ∧ Chg (fun j => j = eb) w wx)
     case first =>
      go_region_law (fail)
      all_goals (go_wp2_with fail; go_meet)
      all_goals exact ⟨EnB.of (blk_set (show (w4.drewN _).heap[eb]? = _ from HE4.out.blk)) rfl, chg_set (HC4.out.drewN _) rfl⟩
     case rest =>
      obtain ⟨he5, hc5⟩ := hcut
      have n13 : wc.cell? ⟨eb, 13, none⟩ = some (.int .i64 (min (2 * m.target) m.most)) := he5.c13
      have HE5 := hide he5
      have HC5 := hide hc5
      clear he5 hc5
      go_wp2
      go_ret
      rw [HA.out]
      exact ⟨rfl, HE5.out, HC5.out⟩
   ·rw [if_neg hmo] at HA
    have hd : decide (m.bestB * m.ticks < m.count * m.bestT) = false := decide_eq_false hmo
    rw [hd]
    clear hd hmo
    go_wp2
    go_ret
    rw [HA.out]
    exact ⟨by simp, HE3.out, HC3.out⟩
theorem tanswer_any (eb : Nat) (m : EndM) (n : Nat) (w : World) (h : EnB w eb m) (b1 : 0 ≤ m.count ∧ m.count ≤ 2147483647) (b2 : 0 ≤ m.clock ∧ m.clock ≤ 2147483647) (b3 : 0 ≤ m.start ∧ m.start ≤ 2147483647) (b4 : 0 ≤ m.bestB ∧ m.bestB ≤ 2147483647) (b5 : 0 ≤ m.bestT ∧ m.bestT ≤ 2147483647) (b6 : 0 ≤ m.target ∧ m.target ≤ 2147483647) (b7 : 0 ≤ m.most ∧ m.most ≤ 2147483647) :
  Calls Tryz.prog 138 #[.pointer (some ⟨eb, 13, none⟩), .int .u32 n, .int .i64 m.clock] w fun e w' => e = .returned (.int .i64 ((m.answd n).target - m.target)) ∧ EnB w' eb (m.answd n) ∧ Chg (fun j => j = eb) w w' := by
 cases hc : (m.under && m.pinged && (n == m.pnum)) with
 | false =>
  have e : m.answd n = m := by unfold EndM.answd; rw [hc]; rfl
  rw [e]
  refine (tanswer_no eb m n w h hc).mono ?_
  rintro e w' ⟨rfl, rfl⟩
  exact ⟨by simp, h, Chg.refl _ _⟩
 | true =>
  simp only [Bool.and_eq_true, beq_iff_eq] at hc
  obtain ⟨⟨h1, h2⟩, rfl⟩ := hc
  exact tanswer_yes eb m w h h1 h2 b1 b2 b3 b4 b5 b6 b7
theorem answd_same (m : EndM) (n : Nat) : (m.answd n).known = m.known ∧ (m.answd n).opn = m.opn ∧ (m.answd n).got = m.got ∧ (m.answd n).out = m.out ∧ (m.answd n).answers = m.answers ∧ (m.answd n).resets = m.resets ∧ (m.answd n).owed = m.owed := by
 unfold EndM.answd
 split
 ·split
  ·split <;> exact ⟨rfl, rfl, rfl, rfl, rfl, rfl, rfl⟩
  ·exact ⟨rfl, rfl, rfl, rfl, rfl, rfl, rfl⟩
 ·exact ⟨rfl, rfl, rfl, rfl, rfl, rfl, rfl⟩
end
section
def EndM.ponged (m : EndM) (n : Nat) : EndM := { m.answd n with owed := m.owed + ((m.answd n).target - m.target) }
theorem answd_bound (m : EndM) (n : Nat) (b6 : 0 ≤ m.target ∧ m.target ≤ 2147483647) (b7 : 0 ≤ m.most ∧ m.most ≤ 2147483647) : -2147483647 ≤ (m.answd n).target - m.target ∧ (m.answd n).target - m.target ≤ 2147483647 := by
 unfold EndM.answd
 split
 ·split
  ·split
   ·simp
   ·show -2147483647 ≤ min (2 * m.target) m.most - m.target ∧ min (2 * m.target) m.most - m.target ≤ 2147483647
    omega
  ·simp
 ·simp
set_option maxRecDepth 100000 in
set_option maxHeartbeats 1600000 in
theorem comePing_ack (eb mb : Nat) (g : GEnd) (f : Int) (n : Nat) (sv : Option Addr) (len cb : Nat) (w : World) (h : Inv w eb mb g) (hf : 0 ≤ f ∧ f ≤ 255) (hak : hasB f 1 = true) (b0 : -1099511627776 ≤ g.m.owed ∧ g.m.owed ≤ 1099511627776) (b1 : 0 ≤ g.m.count ∧ g.m.count ≤ 2147483647) (b2 : 0 ≤ g.m.clock ∧ g.m.clock ≤ 2147483647) (b3 : 0 ≤ g.m.start ∧ g.m.start ≤ 2147483647) (b4 : 0 ≤ g.m.bestB ∧ g.m.bestB ≤ 2147483647) (b5 : 0 ≤ g.m.bestT ∧ g.m.bestT ≤ 2147483647) (b6 : 0 ≤ g.m.target ∧ g.m.target ≤ 2147483647) (b7 : 0 ≤ g.m.most ∧ g.m.most ≤ 2147483647) :
  Calls Tryz.prog 101 #[.pointer (some ⟨eb, 0, none⟩), .agg #[.int .i64 4, .int .i64 f, .int .i64 0, .slice sv len cb, .int .u32 n]] w fun e w' => e = .returned (.tuple #[]) ∧ Next w w' eb mb g { g with m := g.m.ponged n } := by
 have hbA : Below w.heap.size w (w.alloc (.cells #[.int .i64 4, .int .i64 f, .int .i64 0, .slice sv len cb, .int .u32 n] 176)) := (Below.refl _ _).alloc (Nat.le_refl _) _
 have hnew := heap_alloc_new w (.cells #[.int .i64 4, .int .i64 f, .int .i64 0, .slice sv len cb, .int .u32 n] 176)
 have HH : Hid (∀ w, Calls Tryz.prog 98 #[.agg #[.int .i64 4, .int .i64 f, .int .i64 0, .slice sv len cb], .int .i64 1] w fun e w' => e = .returned (.bool true) ∧ Below w.heap.size w w') := fun w => by
  have := has_any 4 f 0 1 (.slice sv len cb) w hf.1 (by omega) (Or.inl rfl)
  rw [hak] at this
  exact this
 obtain ⟨q1, q2, q3, q4, q5, q6, q7⟩ := answd_same g.m n
 obtain ⟨d, hd⟩ : ∃ d, d = (g.m.answd n).target - g.m.target := ⟨_, rfl⟩
 have hdb := answd_bound g.m n b6 b7
 rw [← hd] at hdb
 have hwd : IntKind.i64.wrap (g.m.owed + d) = g.m.owed + d := by rw [IntKind.wrap_i64]; omega
 have HFIN : Hid (∀ w1 w2, Below w.heap.size w w1 → EnB w2 eb (g.m.answd n) → Chg (fun j => j = eb) w1 w2 → Next w (w2.setCell ⟨eb, 6, none⟩ (.int .i64 (g.m.owed + d))) eb mb g { g with m := g.m.ponged n }) := fun w1 w2 hb1 he hc => by
  refine ((h.below hb1).onM (m' := g.m.ponged n) (chg_set hc rfl) ?_ q1 q2 q3 q4 q5 q6).pre hb1
  rw [hd]
  exact EnB.of (blk_set he.blk) rfl
 have HT : Hid (∀ w1, Below w.heap.size w w1 → Calls Tryz.prog 138 #[.pointer (some ⟨eb, 13, none⟩), .int .u32 n, .int .i64 g.m.clock] w1 fun e w' => e = .returned (.int .i64 d) ∧ EnB w' eb (g.m.answd n) ∧ Chg (fun j => j = eb) w1 w') := fun w1 hb1 => by
  rw [hd]
  exact tanswer_any eb g.m n w1 (h.en.below hb1) b1 b2 b3 b4 b5 b6 b7
 have HEN : Hid (∀ w1, Below w.heap.size w w1 → w1.cell? ⟨eb, 6, none⟩ = some (.int .i64 g.m.owed) ∧ w1.cell? ⟨eb, 2, none⟩ = some (.int .i64 g.m.clock) ∧ w1.frozen? ⟨eb, 6, none⟩ = false ∧ eb < w1.heap.size) := fun w1 hb1 => ⟨(h.en.below hb1).c6, (h.en.below hb1).c2, (h.en.below hb1).fr 6, (h.en.below hb1).lt⟩
 have HC4 : Hid (∀ w1, Below (w.alloc (.cells #[.int .i64 4, .int .i64 f, .int .i64 0, .slice sv len cb, .int .u32 n] 176)).heap.size (w.alloc (.cells #[.int .i64 4, .int .i64 f, .int .i64 0, .slice sv len cb, .int .u32 n] 176)) w1 → w1.cell? ⟨w.heap.size, 4, none⟩ = some (.int .u32 n)) := fun w1 hb1 => by
  rw [cell_of_row _ _ _ _ _ _ (kept_told hnew hb1)]
  rfl
 have HB := hide hbA
 have HQ7 := hide q7
 clear h hf hak b0 b1 b2 b3 b4 b5 b6 b7 hnew hbA q1 q2 q3 q4 q5 q6 q7 hdb hd
 go_enter Tryz.func101, Tryz.ntmps101
 go_wp2_with fail
 refine (HH.out _).mono ?_
 rintro e w1 ⟨rfl, hb1⟩
 have k4 := HC4.out w1 hb1
 have hB1 : Below w.heap.size w w1 := HB.out.trans (hb1.mono HB.out.size)
 obtain ⟨c6, c2, f6, hlt1⟩ := HEN.out w1 hB1
 have HB1 := hide hB1
 clear hb1 hB1 HH HC4 HB HEN
 go_upto_region 2 with fail
 go_cut [] (fun wx => ∃ w2, EnB w2 eb (g.m.answd n) ∧ Chg (fun j => j = eb) w1 w2 ∧ wx = w2.setCell ⟨eb, 6, none⟩ (.int .i64 (g.m.owed + d)))
 case first =>
  go_region_law (refine step_call rfl 138 Tryz.f138 Tryz.func138 (by kernel_rfl) rfl [.tmp 14, .tmp 16, .tmp 20] #[77, 73, 3] rfl [.pointer (some ⟨eb, 13, none⟩), .int .u32 n, .int .i64 g.m.clock] (by simp [Act.eval, Act.put]) (HT.out w1.drew (HB1.out.drew)) ?_; rintro e w2 ⟨rfl, hE, hC⟩; refine ⟨_, rfl, ?_⟩; have v6 : w2.cell? ⟨eb, 6, none⟩ = some (.int .i64 g.m.owed) := (by rw [hE.c6, HQ7.out]); have x6 : w2.frozen? ⟨eb, 6, none⟩ = false := hE.fr 6; have hl2 : eb < w2.heap.size := hE.lt; have HE := hide hE; have HC : Hid (Chg (fun j => j = eb) w1 w2) := (⟨hC.os, hC.tape, hC.output, hC.size, hC.block⟩ : Chg (fun j => j = eb) w1 w2); clear hE hC)
  all_goals (go_wp2_with fail; go_meet; exact ⟨_, HE.out, HC.out, rfl⟩)
 case rest =>
  obtain ⟨w2, hE, hC, rfl⟩ := hcut
  have HN := hide (HFIN.out w1 w2 HB1.out hE hC)
  clear hE hC
  go_wp2
  refine bodyPost_ret (v := .tuple #[]) ?_ rfl ⟨rfl, HN.out⟩
  simp [results, Tryz.results101, go_sem]
end
section
abbrev ResX := Sum GX Int
def ResX.bare : ResX → ResX
 | .inl X => .inl X.bare
 | .inr c => .inr c
def GX.to (X : GX) (g : GEnd) : GX := { X with g := g }
def GX.begin (X : GX) : GX := X.to { X.g with m := { X.g.m with begun := true } }
def GX.died (X : GX) (code : Int) : GX := ⟨X.g.died code, 0, [], 0, [], X.hs⟩
def GEnd.there (g : GEnd) : Int := (g.L.length : Int) - (g.L.countP fun k => g.m.opensN k : Nat)
def padX (fl : Int) (b : List UInt8) : Nat := b.length - (cutB fl b).length
def GX.comeData (X : GX) (fl n : Int) (b : List UInt8) : ResX := match X.g.told? n with
 | none => .inr 11
 | some s =>
  if s.st.hasAll = true ∨ s.st.reset = 2 then .inr 11
  else if 1 ≤ (b.length : Int) ∧ (X.g.m.receive < (b.length : Int) ∨ (s.st.reset = 0 ∧ X.g.m.own + s.st.receive < (b.length : Int))) then .inr 12
  else if s.st.reset ≠ 0 then .inl (X.to { X.g with m := (X.g.m.got_ b.length).owes b.length })
  else .inl (X.to { X.g with m := (X.g.m.got_ b.length).owes (padX fl b), K := updN n (fun s => s.morep b.length (padX fl b) (cutB fl b) (hasB fl 1)) X.g.K, L := if s.st.sentAll && hasB fl 1 then X.g.L.erase n else X.g.L })
def GX.comePiece (X : GX) (n : Int) (bl : Bool) (l0 l : List UInt8) (last : Bool) : ResX :=
 if 700 < l0.length + l.length then .inr 13
 else if last = false then .inl (X.piece n bl (l0 ++ l))
 else match (Up.mk X.ul X.ut X.um).unpack (l0 ++ l) with
  | none => .inr 13
  | some (hs, lim, tab) => .inl (X.opened n bl hs lim tab)
def GX.comeHeaders (X : GX) (fl n : Int) (b : List UInt8) : ResX :=
 if X.g.m.opensN n = true ∨ n ≤ X.g.m.newest ∨ 4 ≤ X.g.there then .inr 11
 else X.comePiece n (hasB fl 1) [] b (hasB fl 4)
def GX.comeReset (X : GX) (n : Int) : ResX := match X.g.told? n with
 | none => .inr 11
 | some s => if s.st.closed = true then .inl X else .inl (X.to { X.g with m := X.g.m.owes s.un.length, K := updN n (fun s => s.drop 2) X.g.K, L := X.g.L.erase n })
def GX.comeSettings (X : GX) (fl : Int) (b : List UInt8) : ResX :=
 if hasB fl 1 = true then (if X.g.m.waits = true then .inl (X.to { X.g with m := X.g.m.acked }) else .inr 11)
 else if (X.g.K.any fun s => decide (2147483647 < num4 b + s.st.send)) = true then .inr 12
 else if 8 ≤ X.g.ans.length then .inr 14
 else .inl (X.to { X.g with m := { X.g.m with other := num4 b, answers := .tuple #[] }, ans := X.g.ans ++ [⟨3, 1, [], .slice none 0 0⟩] })
def GX.comePing (X : GX) (fl : Int) (b : List UInt8) : ResX :=
 if hasB fl 1 = true then .inl (X.to { X.g with m := X.g.m.ponged (num4 b).toNat })
 else if 8 ≤ X.g.ans.length then .inr 14
 else .inl (X.to { X.g with m := { X.g.m with answers := .tuple #[] }, ans := X.g.ans ++ [⟨4, 1, b, .slice none 0 0⟩] })
def GX.comeCredit (X : GX) (n : Int) (b : List UInt8) : ResX :=
 if n = 0 then (if 2147483647 < X.g.m.send + num4 b then .inr 12 else .inl (X.to { X.g with m := X.g.m.more (num4 b) }))
 else match X.g.told? n with
  | none => .inr 11
  | some s => if s.st.reset ≠ 0 then .inl X else if 2147483647 < X.g.m.other + s.st.send + num4 b then .inr 12 else .inl (X.to { X.g with K := updN n (fun x => x.credit (num4 b)) X.g.K })
def GX.come (X : GX) (f : Fr) : ResX :=
 if X.g.m.turn (decide (f.kind = 3) && !hasB f.flags 1) (if f.kind = 7 then f.stream else 0) = false then .inr 11
 else if f.kind = 0 then X.begin.comeData f.flags f.stream f.body
 else if f.kind = 1 then X.begin.comeHeaders f.flags f.stream f.body
 else if f.kind = 2 then X.begin.comeReset f.stream
 else if f.kind = 3 then X.begin.comeSettings f.flags f.body
 else if f.kind = 4 then X.begin.comePing f.flags f.body
 else if f.kind = 5 then .inl (X.begin.died 7)
 else if f.kind = 6 then X.begin.comeCredit f.stream f.body
 else if f.kind = 7 then X.begin.comePiece f.stream X.g.m.blast X.ub f.body (hasB f.flags 4)
 else .inl X.begin
def greetB : List UInt8 := [115, 108, 117, 105, 99, 101, 10]
def GX.byte (X : GX) (c : UInt8) : ResX :=
 if X.g.m.greeted < 7 then (if greetB[X.g.m.greeted.toNat]? = some c then .inl (X.to { X.g with m := { X.g.m with greeted := X.g.m.greeted + 1 } }) else .inr 9)
 else match step X.g.got c with
  | .inl (.inl l) => .inl (X.to { X.g with got := l })
  | .inl (.inr f) => (X.to { X.g with got := [] }).come f
  | .inr code => .inr code
def GX.fed1 (X : GX) (c : UInt8) : GX :=
 if X.g.m.fault = 0 then (match X.byte c with
  | .inl Y => Y
  | .inr code => X.died code)
 else X
def GX.fed (X : GX) (l : List UInt8) : GX := l.foldl GX.fed1 X
theorem fed_append (X : GX) (a b : List UInt8) : X.fed (a ++ b) = (X.fed a).fed b := List.foldl_append ..
def GSt.crude (s : GSt) : GSt := { s.bare with st := { s.bare.st with heads := .slice none 0 0 } }
def EndM.crude (m : EndM) : EndM := { m.bare with utab := .slice none 0 0, ptab := .slice none 0 0, bbytes := .slice none 0 0 }
theorem crude_eq (g : GEnd) : g.crude = ⟨g.m.crude, g.K.map GSt.crude, g.L, g.out, g.got, g.ans.map Ans.bare, g.res⟩ := by
 unfold GEnd.crude GEnd.bare
 simp only [List.map_map]
 rfl
theorem nilV_nilV (v : Value) : nilV (nilV v) = nilV v := by
 have h : nilV v = .slice none 0 0 ∨ nilV v = .tuple #[] := by
  unfold nilV
  split
  ·exact Or.inl rfl
  ·exact Or.inr rfl
 rcases h with h | h <;> rw [h] <;> rfl
theorem crude_crude (g : GEnd) : g.crude.crude = g.crude := by
 rw [crude_eq, crude_eq]
 simp only [List.map_map, GEnd.mk.injEq, true_and, and_true]
 refine ⟨?_, ?_, ?_⟩
 ·unfold EndM.crude EndM.bare
  simp only [nilV_nilV]
 ·exact List.map_congr_left fun s _ => rfl
 ·exact List.map_congr_left fun s _ => rfl
theorem gbare_bare (X : GX) : X.bare.bare = X.bare := by unfold GX.bare; simp only [crude_crude]
theorem told_crude (g : GEnd) (n : Int) : g.crude.told? n = (g.told? n).map GSt.crude := by
 rw [crude_eq]
 unfold GEnd.told?
 simp only
 induction g.K with
 | nil => rfl
 | cons s r ih =>
  rw [List.map_cons, List.find?_cons, List.find?_cons]
  show Option.filter _ (match s.st.number == n with | true => some s.crude | false => _) = _
  cases s.st.number == n
  ·exact ih
  ·show (if s.st.announced then _ else _) = Option.map _ (if s.st.announced then _ else _)
   cases s.st.announced <;> rfl
theorem updN_map {h : GSt → GSt} (hn : ∀ s, (h s).st.number = s.st.number) (n : Int) {f : GSt → GSt} (hf : ∀ s, h (f s) = f (h s)) (K : List GSt) : (updN n f K).map h = updN n f (K.map h) := by
 unfold updN
 rw [List.map_map, List.map_map]
 apply List.map_congr_left
 intro s _
 show h (if s.st.number = n then f s else s) = if (h s).st.number = n then f (h s) else h s
 rw [hn]
 split
 ·exact hf s
 ·rfl
theorem counted_crude (m : EndM) (n : Int) : (m.counted n).crude = m.crude.counted n := by
 unfold EndM.counted
 by_cases h1 : m.under = true
 ·rw [if_pos h1, if_pos (show m.crude.under = true from h1)]; rfl
 ·rw [if_neg h1, if_neg (show ¬ m.crude.under = true from h1)]
  by_cases h2 : 1 ≤ n ∧ m.target < m.most
  ·rw [if_pos h2, if_pos (show 1 ≤ n ∧ m.crude.target < m.crude.most from h2)]; rfl
  ·rw [if_neg h2, if_neg (show ¬ (1 ≤ n ∧ m.crude.target < m.crude.most) from h2)]
theorem got_crude (m : EndM) (n : Nat) : (m.got_ n).crude = m.crude.got_ n := counted_crude { m with receive := m.receive - n } n
theorem answd_crude (m : EndM) (n : Nat) : (m.answd n).crude = m.crude.answd n := by
 unfold EndM.answd
 by_cases h1 : (m.under && m.pinged && (n == m.pnum)) = true
 ·rw [if_pos h1, if_pos (show (m.crude.under && m.crude.pinged && (n == m.crude.pnum)) = true from h1)]
  by_cases h2 : m.bestB * m.ticks < m.count * m.bestT
  ·rw [if_pos h2, if_pos (show m.crude.bestB * m.crude.ticks < m.crude.count * m.crude.bestT from h2)]
   by_cases h3 : 2 * m.count < m.target
   ·rw [if_pos h3, if_pos (show 2 * m.crude.count < m.crude.target from h3)]; rfl
   ·rw [if_neg h3, if_neg (show ¬ 2 * m.crude.count < m.crude.target from h3)]; rfl
  ·rw [if_neg h2, if_neg (show ¬ m.crude.bestB * m.crude.ticks < m.crude.count * m.crude.bestT from h2)]; rfl
 ·rw [if_neg h1, if_neg (show ¬ (m.crude.under && m.crude.pinged && (n == m.crude.pnum)) = true from h1)]
theorem ponged_crude (m : EndM) (n : Nat) : (m.ponged n).crude = m.crude.ponged n := by
 unfold EndM.ponged
 rw [← answd_crude]
 rfl
section
variable (X : GX)
theorem bare_g : X.bare.g = X.g.crude := rfl
theorem bare_to (g : GEnd) : (X.to g).bare = X.bare.to g.crude := rfl
theorem bare_begin : X.begin.bare = X.bare.begin := rfl
theorem bare_there : X.bare.g.there = X.g.there := rfl
theorem bare_opened (n : Int) (bl : Bool) (hs : List HP) (lim : Nat) (tab : List HP) : (X.opened n bl hs lim tab).bare = X.bare.opened n bl hs lim tab := by
 unfold GX.opened GX.bare
 simp only [crude_eq, List.map_append]
 rfl
theorem bare_died (code : Int) : (X.died code).bare = X.bare.died code := by
 unfold GX.died GX.bare
 simp only [crude_eq, GEnd.died, GX.mk.injEq, GEnd.mk.injEq, true_and, and_true]
 refine ⟨rfl, ?_, rfl⟩
 unfold muteN
 rw [List.map_map, List.map_map]
 apply List.map_congr_left
 intro s _
 show (if s.st.number ∈ X.g.L then s.mute else s).crude = if s.crude.st.number ∈ X.g.L then s.crude.mute else s.crude
 have e : s.crude.st.number = s.st.number := rfl
 rw [e]
 split <;> rfl
theorem crude_upd (m : EndM) (n : Int) (f : GSt → GSt) (hf : ∀ s, (f s).crude = f s.crude) (g : GEnd) (L : List Int) : ({ g with m := m, K := updN n f g.K, L := L } : GEnd).crude = { g.crude with m := m.crude, K := updN n f g.crude.K, L := L } := by
 simp only [crude_eq]
 rw [updN_map (h := GSt.crude) (fun s => rfl) n hf]
theorem bare_comeData (fl n : Int) (b : List UInt8) : X.bare.comeData fl n b = (X.comeData fl n b).bare := by
 unfold GX.comeData
 rw [bare_g, told_crude]
 cases X.g.told? n with
 | none => rfl
 | some s =>
  simp only [Option.map_some]
  rw [show s.crude.st.hasAll = s.st.hasAll from rfl, show s.crude.st.reset = s.st.reset from rfl, show s.crude.st.receive = s.st.receive from rfl, show s.crude.st.sentAll = s.st.sentAll from rfl, show X.g.crude.m.receive = X.g.m.receive from rfl, show X.g.crude.m.own = X.g.m.own from rfl]
  split
  ·rfl
  split
  ·rfl
  split
  ·show Sum.inl _ = Sum.inl _
   rw [bare_to]
   simp only [crude_eq, ← got_crude]
   rfl
  ·show Sum.inl _ = Sum.inl _
   rw [bare_to, crude_upd]
   ·rw [show X.g.crude.L = X.g.L from rfl, show (((X.g.m.got_ b.length).owes (padX fl b)).crude) = (X.g.crude.m.got_ b.length).owes (padX fl b) from by show ((X.g.m.got_ b.length).crude).owes (padX fl b) = _; rw [got_crude]; rfl]
   ·exact fun s => rfl
theorem bare_comePiece (n : Int) (bl : Bool) (l0 l : List UInt8) (last : Bool) : X.bare.comePiece n bl l0 l last = (X.comePiece n bl l0 l last).bare := by
 unfold GX.comePiece
 split
 ·rfl
 split
 ·rfl
 rw [show X.bare.ul = X.ul from rfl, show X.bare.ut = X.ut from rfl, show X.bare.um = X.um from rfl]
 cases (Up.mk X.ul X.ut X.um).unpack (l0 ++ l) with
 | none => rfl
 | some r =>
  obtain ⟨hs, lim, tab⟩ := r
  show Sum.inl _ = Sum.inl _
  rw [bare_opened]
theorem bare_comeHeaders (fl n : Int) (b : List UInt8) : X.bare.comeHeaders fl n b = (X.comeHeaders fl n b).bare := by
 unfold GX.comeHeaders
 rw [bare_there, show X.bare.g.m.opensN n = X.g.m.opensN n from rfl, show X.bare.g.m.newest = X.g.m.newest from rfl]
 split
 ·rfl
 ·exact bare_comePiece X _ _ _ _ _
theorem bare_comeReset (n : Int) : X.bare.comeReset n = (X.comeReset n).bare := by
 unfold GX.comeReset
 rw [bare_g, told_crude]
 cases X.g.told? n with
 | none => rfl
 | some s =>
  simp only [Option.map_some]
  rw [show s.crude.st.closed = s.st.closed from rfl, show s.crude.un = s.un from rfl]
  split
  ·rfl
  ·show Sum.inl _ = Sum.inl _
   rw [bare_to, crude_upd]
   ·rfl
   ·exact fun s => rfl
theorem bare_comeSettings (fl : Int) (b : List UInt8) : X.bare.comeSettings fl b = (X.comeSettings fl b).bare := by
 unfold GX.comeSettings
 rw [bare_g]
 have e1 : (X.g.crude.K.any fun s => decide (2147483647 < num4 b + s.st.send)) = X.g.K.any fun s => decide (2147483647 < num4 b + s.st.send) := by
  rw [crude_eq]
  simp only [List.any_map]
  rfl
 have e2 : X.g.crude.ans.length = X.g.ans.length := by rw [crude_eq]; simp
 rw [e1, e2, show X.g.crude.m.waits = X.g.m.waits from rfl]
 split
 ·split
  ·rfl
  ·rfl
 split
 ·rfl
 split
 ·rfl
 ·show Sum.inl _ = Sum.inl _
  rw [bare_to]
  simp only [crude_eq, List.map_append]
  rfl
theorem bare_comePing (fl : Int) (b : List UInt8) : X.bare.comePing fl b = (X.comePing fl b).bare := by
 unfold GX.comePing
 rw [bare_g]
 have e2 : X.g.crude.ans.length = X.g.ans.length := by rw [crude_eq]; simp
 rw [e2]
 split
 ·show Sum.inl _ = Sum.inl _
  rw [bare_to]
  simp only [crude_eq, ponged_crude]
 split
 ·rfl
 ·show Sum.inl _ = Sum.inl _
  rw [bare_to]
  simp only [crude_eq, List.map_append]
  rfl
theorem bare_comeCredit (n : Int) (b : List UInt8) : X.bare.comeCredit n b = (X.comeCredit n b).bare := by
 unfold GX.comeCredit
 rw [bare_g, told_crude, show X.g.crude.m.send = X.g.m.send from rfl, show X.g.crude.m.other = X.g.m.other from rfl]
 split
 ·split
  ·rfl
  ·rfl
 cases X.g.told? n with
 | none => rfl
 | some s =>
  simp only [Option.map_some]
  rw [show s.crude.st.reset = s.st.reset from rfl, show s.crude.st.send = s.st.send from rfl]
  split
  ·rfl
  split
  ·rfl
  ·show Sum.inl _ = Sum.inl _
   rw [bare_to]
   have := crude_upd X.g.m n (fun x => x.credit (num4 b)) (fun s => rfl) X.g X.g.L
   show Sum.inl (X.bare.to _) = Sum.inl (X.bare.to ({ X.g with m := X.g.m, K := updN n (fun x => x.credit (num4 b)) X.g.K, L := X.g.L } : GEnd).crude)
   rw [this]
   rfl
theorem bare_come (f : Fr) : X.bare.come f = (X.come f).bare := by
 unfold GX.come
 rw [show ∀ a b, X.bare.g.m.turn a b = X.g.m.turn a b from fun _ _ => rfl, ← bare_begin, show X.bare.g.m.blast = X.g.m.blast from rfl, show X.bare.ub = X.ub from rfl]
 generalize X.g.m.turn (decide (f.kind = 3) && !hasB f.flags 1) (if f.kind = 7 then f.stream else 0) = tu
 split
 ·rfl
 split
 ·exact bare_comeData X.begin _ _ _
 split
 ·exact bare_comeHeaders X.begin _ _ _
 split
 ·exact bare_comeReset X.begin _
 split
 ·exact bare_comeSettings X.begin _ _
 split
 ·exact bare_comePing X.begin _ _
 split
 ·show Sum.inl _ = Sum.inl _
  rw [bare_died]
 split
 ·exact bare_comeCredit X.begin _ _
 split
 ·exact bare_comePiece X.begin _ _ _ _ _
 ·rfl
theorem bare_byte (c : UInt8) : X.bare.byte c = (X.byte c).bare := by
 unfold GX.byte
 rw [show X.bare.g.m.greeted = X.g.m.greeted from rfl, show X.bare.g.got = X.g.got from rfl]
 split
 ·split
  ·rfl
  ·rfl
 ·cases step X.g.got c with
  | inl x =>
   cases x with
   | inl l => rfl
   | inr f => exact bare_come (X.to { X.g with got := [] }) f
  | inr code => rfl
theorem bare_fed1 (c : UInt8) : X.bare.fed1 c = (X.fed1 c).bare := by
 unfold GX.fed1
 rw [show X.bare.g.m.fault = X.g.m.fault from rfl, bare_byte]
 split
 ·cases X.byte c with
  | inl Y => rfl
  | inr code => exact (bare_died X code).symm
 ·rfl
end
theorem bare_fed (l : List UInt8) : ∀ X : GX, X.bare.fed l = (X.fed l).bare := by
 induction l with
 | nil => intro X; rfl
 | cons c r ih =>
  intro X
  show (X.bare.fed1 c).fed r = ((X.fed1 c).fed r).bare
  rw [bare_fed1]
  exact ih _
end
section
def PieceP (w w' : World) (eb : Nat) (X : GX) (e : Ending) : Prop := Gone e ∧ (∃ m0, EnB w' eb m0 ∧ ∃ (lim : Int) (sz : Int) (tv : Value), m0 = { X.g.m with ulim := lim, usz := sz, utab := tv }) ∧ Chg (fun j => j = eb ∨ (X.g.m.utab.ownBlock = some j ∨ X.g.m.bbytes.ownBlock = some j)) w w'
set_option maxRecDepth 100000 in
set_option maxHeartbeats 3200000 in
theorem comePiece_noneX (eb mb : Nat) (X : GX) (n : Int) (bl : Bool) (bv : Value) (l0 l : List UInt8) (sv : Option Addr) (cb : Nat) (w : World) (h : InvX w eb mb X) (hgl : Gl w) (hge : ∀ j, j < 7 → ¬ FootX eb mb X j) (hq : (Up.mk X.ul X.ut X.um).unpack (l0 ++ l) = none) (hbv : w.ownsRow 0 5 1 bv l0.length (l0.map B)) (hbo : ∀ j, bv.ownBlock = some j → X.g.m.bbytes.ownBlock = some j) (hl : BytesIn w (.slice sv l.length cb) l) (hlen : l0.length + l.length ≤ 700) :
  Calls Tryz.prog 97 #[.pointer (some ⟨eb, 0, none⟩), .agg #[.int .i64 n, bv, .bool bl], .slice sv l.length cb, .bool true] w fun e w' => PieceP w w' eb X e := by
 obtain ⟨i0, hi, hz0, hz1, hz2⟩ := info_parts Tryz.info5
 have hlt := h.inv.en.lt
 obtain ⟨s0, c0, hs0⟩ := slice_len hbv
 subst hs0
 obtain ⟨wA, hwA⟩ : ∃ wA, wA = w.alloc (.cells #[.int .i64 n, .slice s0 l0.length c0, .bool bl] 87) := ⟨_, rfl⟩
 have hbA : Below w.heap.size w wA := by rw [hwA]; exact (Below.refl _ _).alloc (Nat.le_refl _) _
 have hbox : wA.heap[w.heap.size]? = some (.cells #[.int .i64 n, .slice s0 l0.length c0, .bool bl] 87 (0, 0)) := by rw [hwA]; exact heap_alloc_new w _
 have k0 : wA.cell? ⟨w.heap.size, 0, none⟩ = some (.int .i64 n) := by rw [cell_of_row _ _ _ _ _ _ hbox]; rfl
 have k1 : wA.cell? ⟨w.heap.size, 1, none⟩ = some (.slice s0 l0.length c0) := by rw [cell_of_row _ _ _ _ _ _ hbox]; rfl
 have k2 : wA.cell? ⟨w.heap.size, 2, none⟩ = some (.bool bl) := by rw [cell_of_row _ _ _ _ _ _ hbox]; rfl
 have HRA : Hid (wA.ownsRow 0 5 1 (.slice s0 l0.length c0) l0.length (l0.map B)) := owns_chg hbv (Chg.of_below (S := fun _ => False) hbA) (fun _ _ => id)
 have HLI : Hid (Lies wA (.slice sv l.length cb) l.length (l.map B)) := lies_of_bytesIn (hl.chg (Chg.of_below (S := fun _ => False) hbA) (fun _ _ => id))
 have HH := hide h
 have HBO := hide hbo
 have HBA := hide hbA
 have HBOX := hide hbox
 have HWA := hide hwA
 have HGL := hide hgl
 have HGE := hide hge
 have HQ := hide hq
 clear h hbv hbo hl hbA hbox hwA hgl hge hq
 go_enter Tryz.func97, Tryz.ntmps97
 go_upto_region 1 with fail
 rw [← HWA.out]
 go_wp2_with (at_builtin; refine wpList_app _ rfl (.tmp 10) (.tmp 11) 44 rfl 5 i0 (.int .u8 0) 1 1 Tryz.underlying44 hi hz0 hz1 hz2 rfl (by decide) (.slice s0 l0.length c0) l0.length (l0.map B) rfl HRA.out (.slice sv l.length cb) l.length (l.map B) rfl (by simp) HLI.out (by intro u hu; obtain ⟨x, -, rfl⟩ := List.mem_map.1 hu; rfl) (by unfold maxLen; omega) (by omega) ?_)
 intro v1 w1 hown1 hg1 hfr1
 obtain ⟨s1, c1, rfl⟩ := slice_len hown1
 have hc1 : Chg (fun j => (Value.slice s0 l0.length c0).ownBlock = some j) wA w1 := Chg.of_grown hg1 (fun j hj => hj)
 have hnb : ∀ j, (Value.slice s0 l0.length c0).ownBlock = some j → j ≠ w.heap.size := fun j hj e => by
  have := HH.out.blk_lt (Or.inr (Or.inl (HBO.out j hj)))
  omega
 have hbox1 : w1.heap[w.heap.size]? = some (.cells #[.int .i64 n, .slice s0 l0.length c0, .bool bl] 87 (0, 0)) := by
  rw [hc1.block w.heap.size (lt_of_block HBOX.out) (fun e => hnb _ e rfl)]
  exact HBOX.out
 have f1 : w1.cell? ⟨w.heap.size, 1, none⟩ = some (.slice s0 l0.length c0) := by rw [cell_of_row _ _ _ _ _ _ hbox1]; rfl
 have ff1 : w1.frozen? ⟨w.heap.size, 1, none⟩ = false := by simp [World.frozen?, hbox1]
 obtain ⟨w2, hw2⟩ : ∃ w2, w2 = w1.setCell ⟨w.heap.size, 1, none⟩ (.slice s1 (l0.length + l.length) c1) := ⟨_, rfl⟩
 have hbox2 : w2.heap[w.heap.size]? = some (.cells #[.int .i64 n, .slice s1 (l0.length + l.length) c1, .bool bl] 87 (0, 0)) := by rw [hw2, blk_set hbox1]; rfl
 have hs12 : Chg (fun j => j = w.heap.size) w1 w2 := by rw [hw2]; exact chg_set (Chg.refl _ _) rfl
 have hcw2 : Chg (fun j => X.g.m.bbytes.ownBlock = some j) w w2 := by
  have a1 : Chg (fun j => X.g.m.bbytes.ownBlock = some j) w w1 := (Chg.of_below HBA.out).trans (hc1.mono fun j _ e => Or.inr (HBO.out j e))
  exact a1.trans (hs12.mono fun j _ e => Or.inl (by omega))
 have hown2 : w2.ownsRow 0 5 1 (.slice s1 (l0.length + l.length) c1) (l0.length + l.length) (l0.map B ++ l.map B) := owns_chg hown1 hs12 (fun j hj e => by rw [e] at hj; exact owns_ne hown1 hbox1 (by decide) hj)
 have g0 : w2.cell? ⟨w.heap.size, 0, none⟩ = some (.int .i64 n) := by rw [cell_of_row _ _ _ _ _ _ hbox2]; rfl
 have g1 : w2.cell? ⟨w.heap.size, 1, none⟩ = some (.slice s1 (l0.length + l.length) c1) := by rw [cell_of_row _ _ _ _ _ _ hbox2]; rfl
 have g2 : w2.cell? ⟨w.heap.size, 2, none⟩ = some (.bool bl) := by rw [cell_of_row _ _ _ _ _ _ hbox2]; rfl
 have hen2 : EnB w2 eb X.g.m := HH.out.inv.en.chg hcw2 (fun e => HH.out.ne_eb (Or.inr (Or.inl e)) rfl)
 have hle7 : ((700 : Int) < (l0.length : Int) + (l.length : Int)) = False := eq_false (by omega)
 have hfr : ∀ j, (Value.slice s1 (l0.length + l.length) c1).ownBlock = some j → X.g.m.bbytes.ownBlock = some j ∨ w.heap.size ≤ j := fun j hj => by
  rcases hfr1 with e | e
  ·rw [e] at hj; exact Or.inl (HBO.out j hj)
  ·rw [e] at hj
   simp at hj
   have := HBA.out.size
   omega
 have hb2d : Below w2.heap.size w2 w2.drew := Below.drew (Below.refl _ _)
 have hby2 : BytesIn w2 (.slice s1 (l0.length + l.length) c1) (l0 ++ l) := bytesIn_of_owns (by rw [List.map_append]; exact hown2) (by rw [List.length_append])
 have hgl2 : Gl w2 := HGL.out.chg hcw2 (fun j hj e => HGE.out j hj (Or.inr (Or.inr (Or.inl e))))
 have htb2 : TbSZ w2 eb X.g.m.cells 103 X.ul X.g.m.utab X.ut := HH.out.tbs.chg hcw2 (fun e => HH.out.ne_eb (Or.inr (Or.inl e)) rfl) (fun j hj e => rows_ne HH.out.bb HH.out.tab (by decide) e hj)
 have hebg : 7 ≤ eb := Nat.le_of_not_lt (fun hlt => HGE.out eb hlt (Or.inl (Or.inl rfl)))
 have HUN : Hid (Calls Tryz.prog 132 #[.pointer (some ⟨eb, 35, none⟩), .slice s1 (l0.length + l.length) c1] w2.drew fun e w' => PieceP w w' eb X e) := by
  refine (bUnpack_badZ eb X.g.m.cells 103 X.ul X.g.m.utab X.ut X.um (.slice s1 (l0.length + l.length) c1) (l0 ++ l) w2.drew (hgl2.below hb2d) (htb2.below hb2d) (by show some (Value.int .i64 X.g.m.umost) = _; rw [HH.out.most]) HH.out.m256 (hby2.chg (Chg.of_below (S := fun _ => False) hb2d) (fun _ _ => id)) (fun e => owns_ne hown2 hen2.blk (by decide) e) (fun j hj e => rows_ne hown2 htb2.row (by decide) hj e) (by rw [List.length_append]; omega) hebg (fun j hj => Nat.le_of_not_lt (fun hlt => HGE.out j hlt (Or.inr (Or.inl hj)))) (by decide) HQ.out).mono ?_
  rintro e w' ⟨hgo, hc, lim', tab', cs', tv', hst, hcs3⟩
  have hcs : cs' = ({ X.g.m with ulim := (lim' : Int), usz := (szT tab' : Int), utab := tv' } : EndM).cells := by
   have e1 : ({ X.g.m with ulim := (lim' : Int), usz := (szT tab' : Int), utab := tv' } : EndM).cells = ((X.g.m.cells.setIfInBounds 35 (.int .i64 (lim' : Int))).setIfInBounds 36 (.int .i64 (szT tab' : Int))).setIfInBounds 37 tv' := rfl
   rw [e1]
   apply Array.ext_getElem?
   intro i
   by_cases h5 : i = 35
   ·subst h5
    rw [hst.tb.c0]
    rfl
   by_cases h6 : i = 36
   ·subst h6
    rw [hst.tb.c1]
    rfl
   by_cases h7 : i = 37
   ·subst h7
    rw [hst.tb.c2]
    rfl
   rw [hcs3 i (by omega), set_ne (by omega), set_ne (by omega), set_ne (by omega)]
  refine ⟨hgo, ⟨_, ⟨by rw [hst.tb.blk, hcs]⟩, _, _, _, rfl⟩, ?_⟩
  have a1 : Chg (fun j => j = eb ∨ (X.g.m.utab.ownBlock = some j ∨ X.g.m.bbytes.ownBlock = some j)) w w2.drew := (hcw2.mono fun j _ e => Or.inr (Or.inr e)).drew
  exact a1.trans (hc.mono fun j _ e => Or.inr (by
   rcases e with e | e
   ·exact Or.inl e
   ·exact Or.inr (Or.inl e)))
 have HW2 := hide hw2
 clear hown1 hg1 hfr1 hc1 hnb hbox1 hw2 hbox2 hs12 hcw2 hown2 hen2 hfr k0 k1 k2 hby2 hgl2 htb2 hebg hb2d
 go_upto_region 2 with fail
 rw [← HW2.out]
 clear f1 ff1
 have g1d : w2.drew.cell? ⟨w.heap.size, 1, none⟩ = some (.slice s1 (l0.length + l.length) c1) := g1
 go_upto_region 6 with fail
 go_region_law (refine step_gone rfl 132 Tryz.f132 Tryz.func132 (by kernel_rfl) rfl [.tmp 29, .tmp 31] #[92, 44] rfl [.pointer (some ⟨eb, 35, none⟩), .slice s1 (l0.length + l.length) c1] (by simp [Act.eval, Act.put]) HUN.out (fun e w3 he => ⟨_, he.1, rfl, rfl, he.2⟩) (.slice none 0 0) ?_; intro hf; have HFL : Hid False := hf; clear hf)
 all_goals exact HFL.out.elim
set_option maxRecDepth 100000 in
set_option maxHeartbeats 1600000 in
theorem comePiece_longX (eb mb : Nat) (X : GX) (n : Int) (bl : Bool) (bv : Value) (l0 l : List UInt8) (sv : Option Addr) (cb : Nat) (w : World) (h : InvX w eb mb X) (hbv : w.ownsRow 0 5 1 bv l0.length (l0.map B)) (hbo : ∀ j, bv.ownBlock = some j → X.g.m.bbytes.ownBlock = some j) (hl : BytesIn w (.slice sv l.length cb) l) (la : Bool) (hl0 : l0.length ≤ 700) (hl1 : l.length ≤ 1048576) (hlen : 700 < l0.length + l.length) :
  Calls Tryz.prog 97 #[.pointer (some ⟨eb, 0, none⟩), .agg #[.int .i64 n, bv, .bool bl], .slice sv l.length cb, .bool la] w fun e w' => PieceP w w' eb X e := by
 obtain ⟨i0, hi, hz0, hz1, hz2⟩ := info_parts Tryz.info5
 have hlt := h.inv.en.lt
 obtain ⟨s0, c0, hs0⟩ := slice_len hbv
 subst hs0
 obtain ⟨wA, hwA⟩ : ∃ wA, wA = w.alloc (.cells #[.int .i64 n, .slice s0 l0.length c0, .bool bl] 87) := ⟨_, rfl⟩
 have hbA : Below w.heap.size w wA := by rw [hwA]; exact (Below.refl _ _).alloc (Nat.le_refl _) _
 have hbox : wA.heap[w.heap.size]? = some (.cells #[.int .i64 n, .slice s0 l0.length c0, .bool bl] 87 (0, 0)) := by rw [hwA]; exact heap_alloc_new w _
 have k0 : wA.cell? ⟨w.heap.size, 0, none⟩ = some (.int .i64 n) := by rw [cell_of_row _ _ _ _ _ _ hbox]; rfl
 have k1 : wA.cell? ⟨w.heap.size, 1, none⟩ = some (.slice s0 l0.length c0) := by rw [cell_of_row _ _ _ _ _ _ hbox]; rfl
 have k2 : wA.cell? ⟨w.heap.size, 2, none⟩ = some (.bool bl) := by rw [cell_of_row _ _ _ _ _ _ hbox]; rfl
 have HRA : Hid (wA.ownsRow 0 5 1 (.slice s0 l0.length c0) l0.length (l0.map B)) := owns_chg hbv (Chg.of_below (S := fun _ => False) hbA) (fun _ _ => id)
 have HLI : Hid (Lies wA (.slice sv l.length cb) l.length (l.map B)) := lies_of_bytesIn (hl.chg (Chg.of_below (S := fun _ => False) hbA) (fun _ _ => id))
 have HH := hide h
 have HBO := hide hbo
 have HBA := hide hbA
 have HBOX := hide hbox
 have HWA := hide hwA
 clear h hbv hbo hl hbA hbox hwA
 go_enter Tryz.func97, Tryz.ntmps97
 go_upto_region 1 with fail
 rw [← HWA.out]
 go_wp2_with (at_builtin; refine wpList_app _ rfl (.tmp 10) (.tmp 11) 44 rfl 5 i0 (.int .u8 0) 1 1 Tryz.underlying44 hi hz0 hz1 hz2 rfl (by decide) (.slice s0 l0.length c0) l0.length (l0.map B) rfl HRA.out (.slice sv l.length cb) l.length (l.map B) rfl (by simp) HLI.out (by intro u hu; obtain ⟨x, -, rfl⟩ := List.mem_map.1 hu; rfl) (by unfold maxLen; omega) (by omega) ?_)
 intro v1 w1 hown1 hg1 hfr1
 obtain ⟨s1, c1, rfl⟩ := slice_len hown1
 have hc1 : Chg (fun j => (Value.slice s0 l0.length c0).ownBlock = some j) wA w1 := Chg.of_grown hg1 (fun j hj => hj)
 have hnb : ∀ j, (Value.slice s0 l0.length c0).ownBlock = some j → j ≠ w.heap.size := fun j hj e => by
  have := HH.out.blk_lt (Or.inr (Or.inl (HBO.out j hj)))
  omega
 have hbox1 : w1.heap[w.heap.size]? = some (.cells #[.int .i64 n, .slice s0 l0.length c0, .bool bl] 87 (0, 0)) := by
  rw [hc1.block w.heap.size (lt_of_block HBOX.out) (fun e => hnb _ e rfl)]
  exact HBOX.out
 have f1 : w1.cell? ⟨w.heap.size, 1, none⟩ = some (.slice s0 l0.length c0) := by rw [cell_of_row _ _ _ _ _ _ hbox1]; rfl
 have ff1 : w1.frozen? ⟨w.heap.size, 1, none⟩ = false := by simp [World.frozen?, hbox1]
 obtain ⟨w2, hw2⟩ : ∃ w2, w2 = w1.setCell ⟨w.heap.size, 1, none⟩ (.slice s1 (l0.length + l.length) c1) := ⟨_, rfl⟩
 have hbox2 : w2.heap[w.heap.size]? = some (.cells #[.int .i64 n, .slice s1 (l0.length + l.length) c1, .bool bl] 87 (0, 0)) := by rw [hw2, blk_set hbox1]; rfl
 have hs12 : Chg (fun j => j = w.heap.size) w1 w2 := by rw [hw2]; exact chg_set (Chg.refl _ _) rfl
 have hcw2 : Chg (fun j => X.g.m.bbytes.ownBlock = some j) w w2 := by
  have a1 : Chg (fun j => X.g.m.bbytes.ownBlock = some j) w w1 := (Chg.of_below HBA.out).trans (hc1.mono fun j _ e => Or.inr (HBO.out j e))
  exact a1.trans (hs12.mono fun j _ e => Or.inl (by omega))
 have hown2 : w2.ownsRow 0 5 1 (.slice s1 (l0.length + l.length) c1) (l0.length + l.length) (l0.map B ++ l.map B) := owns_chg hown1 hs12 (fun j hj e => by rw [e] at hj; exact owns_ne hown1 hbox1 (by decide) hj)
 have g0 : w2.cell? ⟨w.heap.size, 0, none⟩ = some (.int .i64 n) := by rw [cell_of_row _ _ _ _ _ _ hbox2]; rfl
 have g1 : w2.cell? ⟨w.heap.size, 1, none⟩ = some (.slice s1 (l0.length + l.length) c1) := by rw [cell_of_row _ _ _ _ _ _ hbox2]; rfl
 have g2 : w2.cell? ⟨w.heap.size, 2, none⟩ = some (.bool bl) := by rw [cell_of_row _ _ _ _ _ _ hbox2]; rfl
 have hen2 : EnB w2 eb X.g.m := HH.out.inv.en.chg hcw2 (fun e => HH.out.ne_eb (Or.inr (Or.inl e)) rfl)
 have hle7 : ((700 : Int) < (l0.length : Int) + (l.length : Int)) = True := eq_true (by omega)
 have HEND : Hid ((∃ m0, EnB w2 eb m0 ∧ ∃ (lim : Int) (sz : Int) (tv : Value), m0 = { X.g.m with ulim := lim, usz := sz, utab := tv }) ∧ Chg (fun j => j = eb ∨ (X.g.m.utab.ownBlock = some j ∨ X.g.m.bbytes.ownBlock = some j)) w w2) := ⟨⟨X.g.m, hen2, _, _, _, rfl⟩, hcw2.mono fun j _ e => Or.inr (Or.inr e)⟩
 have HW2 := hide hw2
 clear hown1 hg1 hfr1 hc1 hnb hbox1 hw2 hbox2 hs12 hcw2 hown2 hen2 k0 k1 k2
 go_upto_region 2 with fail
 rw [← HW2.out]
 clear f1 ff1
 go_wp2
 exact ⟨rfl, rfl, HEND.out⟩
end
end Go.Proofs.YtdccldbefdfppaaGreatDoor
