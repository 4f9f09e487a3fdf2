import Derived.Test.YtpmmpbklpclnhaaDoorBkFaceU
import Derived.Test.YtpmmpbklpclnhaaDoorBkShort
import Derived.Test.YtpmmpbklpclnhaaDoorBkBack
set_option linter.unusedVariables false
set_option linter.unusedSimpArgs false
/-
  sluicekeep: pick, sameHeads, tameHeads of none, back.
-/
namespace Go.Proofs.YtpmmpbklpclnhaaDoor
set_option linter.unusedVariables false
set_option linter.unusedSimpArgs false
open Go.RowKit

theorem pick_neg {c n : Int} (hc : c < 0) (hn : 0 < n) : 0 ≤ -(c + 1).tmod n ∧ -(c + 1).tmod n < n := by
  have e : -(c + 1).tmod n = (-(c + 1)) % n := by
    rw [← Int.neg_tmod]
    exact Int.tmod_eq_emod_of_nonneg (by omega)
  rw [e]
  exact ⟨Int.emod_nonneg _ (by omega), Int.emod_lt_of_pos _ hn⟩
set_option maxHeartbeats 400000 in
theorem pick_any (c : Int) (w : World) (hc : -9223372036854775808 ≤ c ∧ c ≤ 9223372036854775807) :
    Calls Tryd.prog 8 #[.int .i64 c, .int .i64 257] w fun e w' => ∃ r : Nat, e = .returned (.int .i64 (r : Int)) ∧ r ≤ 256 ∧ w' = w := by
  obtain ⟨hc1, hc2⟩ := hc
  by_cases hneg : c < 0
  · obtain ⟨h0, h1⟩ := pick_neg (n := 257) hneg (by decide)
    obtain ⟨r, hr⟩ : ∃ r : Nat, -(c + 1).tmod 257 = (r : Int) := ⟨(-(c + 1).tmod 257).toNat, by omega⟩
    have HR := hide hr
    have hr2 : r ≤ 256 := by omega
    clear h0 h1 hr
    go_enter Tryd.func8, Tryd.ntmps8
    go_wp2
    go_ret
    refine ⟨r, ?_, hr2, rfl⟩
    rw [← HR.out]
    rfl
  · obtain ⟨r, hr⟩ : ∃ r : Nat, c % 257 = (r : Int) := ⟨(c % 257).toNat, by omega⟩
    have HR := hide hr
    have hr2 : r ≤ 256 := by omega
    clear hr
    go_enter Tryd.func8, Tryd.ntmps8
    go_wp2
    go_ret
    refine ⟨r, ?_, hr2, rfl⟩
    rw [← HR.out]
    rfl

set_option maxRecDepth 100000 in
set_option maxHeartbeats 400000 in
theorem tameHeads_zero (s : Option Addr) (c : Nat) (w : World) :
    Calls Tryd.prog 10 #[.slice s 0 c] w fun e w' => e = .returned (.slice none 0 0) ∧ Below w.heap.size w w' := by
  go_enter Tryd.func10, Tryd.ntmps10
  go_wp2
  go_loopw [3, 4] (fun v i wr => v = .slice none 0 0 ∧ i = .int .i64 0 ∧ Below w.heap.size w wr) (fun _ _ _ => 0)
  case atStart => exact ⟨rfl, rfl, Below.refl _ _⟩
  case round =>
    obtain ⟨rfl, rfl, hb⟩ := hrel
    have HB := hide hb
    clear hb
    go_wp2
    go_ret
    exact ⟨rfl, HB.out⟩

set_option maxRecDepth 100000 in
set_option maxHeartbeats 800000 in
theorem sameHeads_eq (a b : Value) (hs : List HP) (w : World) (ha : HsIn w a hs) (hb : HsIn w b hs) (hl : hs.length ≤ 8) :
    Calls Tryd.prog 16 #[a, b] w fun e w' => e = .returned (.bool true) ∧ Below w.heap.size w w' := by
  obtain ⟨sa, ca, hav⟩ := ha.len
  obtain ⟨sb, cb, hbv⟩ := hb.len
  subst hav
  subst hbv
  have HA := hide ha
  have HB := hide hb
  clear ha hb
  go_enter Tryd.func16, Tryd.ntmps16
  go_wp2
  go_loopw [5] (fun i wr => ∃ k : Nat, i = .int .i64 (k : Int) ∧ k ≤ hs.length ∧ Below w.heap.size w wr) (fun i _ => hs.length - (intOf i).toNat)
  case atStart => exact ⟨0, rfl, Nat.zero_le _, Below.refl _ _⟩
  case round =>
    obtain ⟨k, rfl, hk, hbel⟩ := hrel
    by_cases hlt : k < hs.length
    · have ha := HA.out.chg (Chg.of_below (S := fun _ => False) hbel) (fun _ _ => id)
      have hb := HB.out.chg (Chg.of_below (S := fun _ => False) hbel) (fun _ _ => id)
      rcases ha with ⟨_, h0⟩ | ⟨ba, oa, ca', hva, _, ha⟩
      · rw [h0] at hlt; simp at hlt
      rcases hb with ⟨_, h0⟩ | ⟨bb, ob, cb', hvb, _, hb⟩
      · rw [h0] at hlt; simp at hlt
      simp only [Value.slice.injEq] at hva hvb
      obtain ⟨rfl, _, rfl⟩ := hva
      obtain ⟨rfl, _, rfl⟩ := hvb
      obtain ⟨a0, a1⟩ := ha k hlt
      obtain ⟨b0, b1⟩ := hb k hlt
      generalize hs[k] = x at a0 a1 b0 b1
      obtain ⟨xn, xv⟩ := x
      simp only at a0 a1 b0 b1
      have HBE := hide hbel
      clear ha hb hbel
      go_wp2
      go_quiet (fail)
      all_goals go_wp2
      all_goals go_roundw
      case rel => exact ⟨k + 1, by go_num, by omega, HBE.out.os, HBE.out.tape, HBE.out.output, HBE.out.size, HBE.out.block⟩
      case measure => simp [intOf]; omega
    · have HBE := hide hbel
      have hke : k = hs.length := by omega
      clear hbel
      go_wp2
      go_ret
      exact ⟨rfl, HBE.out⟩

/-- The limit behind all that waits. -/
def Pk.final (p : Pk) : Nat := p.wait.getLast?.getD p.lim
theorem limsK_lim (ls : List Nat) : ∀ (lim : Nat) (l : List HP), (limsK ls lim l).2.1 = ls.getLast?.getD lim := by
  induction ls with
  | nil => intro lim l; rfl
  | cons x r ih =>
    intro lim l
    simp only [limsK]
    rw [ih]
    cases r with
    | nil => rfl
    | cons y t =>
      cases hg : (y :: t).getLast? with
      | none => simp at hg
      | some z => rw [List.getLast?_cons_cons, hg]; rfl
theorem pack_final (p : Pk) (hs : List HP) : (p.pack hs).2.lim = p.final ∧ (p.pack hs).2.final = p.final := by
  obtain ⟨lim, tab, wait⟩ := p
  have h1 : ((Pk.mk lim tab wait).pack hs).2 = ⟨(limsK wait lim tab).2.1, (pairsK hs (limsK wait lim tab).2.2 (limsK wait lim tab).2.1).2, []⟩ := rfl
  rw [h1]
  exact ⟨limsK_lim _ _ _, limsK_lim _ _ _⟩
theorem resize_final (p : Pk) (n : Nat) : (p.resize n).final = n := by
  unfold Pk.final Pk.resize
  simp only
  split <;> split <;> rfl

/-- A packer and an unpacker that are alike. -/
structure BkS (w : World) (lo pb ub : Nat) (csP csU : Array Value) (tvP tvU lvP : Value) (p : Pk) : Prop where
  pk : PkS w pb csP tvP lvP p
  up : UpS w ub csU tvU ⟨p.lim, p.tab, 256⟩
  sep : ∀ j, tvP.ownBlock = some j → tvU.ownBlock ≠ some j
  plo : lo ≤ pb
  ulo : lo ≤ ub
  tp : ∀ j, tvP.ownBlock = some j → lo ≤ j
  tu : ∀ j, tvU.ownBlock = some j → lo ≤ j
theorem BkS.ne {w : World} {lo pb ub : Nat} {csP csU : Array Value} {tvP tvU lvP : Value} {p : Pk} (h : BkS w lo pb ub csP csU tvP tvU lvP p) : pb ≠ ub := by
  intro e
  have h1 := h.pk.st.tb.blk
  have h2 := h.up.st.tb.blk
  rw [e, h2] at h1
  simp at h1
/-- The list is somewhere else. -/
def Off (pb ub : Nat) (tvP tvU lv : Value) : Prop := ∀ j, lv.ownBlock = some j → ¬ TouchT pb tvP j ∧ ¬ TouchT ub tvU j
theorem pack_bytes {w : World} {pb : Nat} {csP : Array Value} {tvP lvP : Value} {p : Pk} {ls : List HP} (h : PkS w pb csP tvP lvP p) (hok : ∀ x ∈ ls, okH x) (h8 : ls.length ≤ 8) : (p.pack ls).1.length ≤ 134217728 ∧ szT (p.pack ls).2.tab ≤ (p.pack ls).2.lim := by
  have hf := h.st.fit
  have hs := h.st.small
  have hw := h.ok
  have hw2 := h.few
  clear h
  obtain ⟨lim, tab, wait⟩ := p
  simp only at hf hs hw hw2
  have hfit : ∀ (ls : List Nat) (lim : Nat) (tab : List HP), (∀ x ∈ ls, x ≤ 256) → szT tab ≤ lim → lim ≤ 256 → szT (limsK ls lim tab).2.2 ≤ (limsK ls lim tab).2.1 ∧ (limsK ls lim tab).2.1 ≤ 256 := by
    intro ls
    induction ls with
    | nil => intro lim tab _ h1 h2; exact ⟨h1, h2⟩
    | cons x t ih =>
      intro lim tab hx h1 h2
      simp only [limsK]
      refine ih x (shr tab x) (fun y hy => hx y (by simp [hy])) ?_ (hx x (by simp))
      have := shr_size tab (x : Int) (by omega)
      omega
  obtain ⟨f1, f2⟩ := hfit wait lim tab hw hf hs
  have e : (Pk.mk lim tab wait).pack ls = ((limsK wait lim tab).1 ++ (pairsK ls (limsK wait lim tab).2.2 (limsK wait lim tab).2.1).1, ⟨(limsK wait lim tab).2.1, (pairsK ls (limsK wait lim tab).2.2 (limsK wait lim tab).2.1).2, []⟩) := rfl
  rw [e]
  refine ⟨?_, pairsK_fit f1⟩
  have h1 := limsK_take hw wait.length lim tab
  rw [List.take_length] at h1
  have h2 := pairsK_le (hs := ls) f1 f2 (fun x hx => by have := hok x hx; exact ⟨by have := this.2.1; omega, by have := this.2.2; omega⟩)
  simp only [List.length_append]
  omega
/-- Behind Pack. -/
theorem back_mid {w w1 : World} {lo pb ub : Nat} {csP csU csP1 : Array Value} {tvP tvU lvP bv tvP1 lv : Value} {p : Pk} {ls : List HP} {Q : List UInt8 × Pk} (hgl : Gl w) (h : BkS w lo pb ub csP csU tvP tvU lvP p) (hlo : 7 ≤ lo) (hin : HsIn w lv ls) (hoff : Off pb ub tvP tvU lv) (hp : Packd w w1 pb tvP bv csP1 tvP1 Q) :
    Gl w1 ∧ UpS w1 ub csU tvU ⟨p.lim, p.tab, 256⟩ ∧ BytesIn w1 bv Q.1 ∧ bv.ownBlock ≠ some ub ∧ (∀ j, bv.ownBlock = some j → tvU.ownBlock ≠ some j) ∧ HsIn w1 lv ls := by
  have hne := h.ne
  have hul := h.up.st.tb.lt
  refine ⟨hgl.chg hp.chg ?_, h.up.chg hp.chg ?_ ?_, bytesIn_of_owns hp.own rfl, fun e => ?_, fun j hj e => ?_, hin.chg hp.chg (fun j hj => (hoff j hj).1)⟩
  · rintro j hj (e | e)
    · have := h.plo; omega
    · have := h.tp j e; omega
  · rintro (e | e)
    · exact hne e.symm
    · exact owns_ne h.pk.st.row h.up.st.tb.blk (by decide) e
  · rintro j hj (e | e)
    · exact owns_ne h.up.st.row h.pk.st.tb.blk (by decide) (e ▸ hj)
    · exact h.sep j e hj
  · have := (hp.own.lt _ e).1; omega
  · have h1 := (hp.own.lt j hj).1
    have h2 := owns_lt h.up.st.row e
    omega
/-- Behind Unpack. -/
theorem back_end {w w1 w2 : World} {lo pb ub : Nat} {csP csU csP1 csU2 : Array Value} {tvP tvU lvP bv tvP1 tvU2 lv lv2 : Value} {p : Pk} {ls : List HP} {Q : List UInt8 × Pk} (h : BkS w lo pb ub csP csU tvP tvU lvP p) (hlw : lo ≤ w.heap.size) (hin : HsIn w1 lv ls) (hoff : Off pb ub tvP tvU lv) (hp : Packd w w1 pb tvP bv csP1 tvP1 Q)
    (hu : Unpd w1 w2 ub csU csU2 55 Q.2.lim tvU tvU2 Q.2.tab lv2 ls) :
    BkS w2 lo pb ub csP1 csU2 tvP1 tvU2 (.slice none 0 0) Q.2 ∧ HsIn w2 lv2 ls ∧ HsIn w2 lv ls ∧ Chg (fun j => lo ≤ j) w w2 := by
  have hne := h.ne
  have hs1 := hp.chg.size
  have hP1 : ∀ j, tvP1.ownBlock = some j → ¬ TouchT ub tvU j := by
    rintro j hj (e | e)
    · rw [e] at hj
      have hub : w1.heap[ub]? = some (.cells csU 55 (0, 0)) := by
        rw [hp.chg.block ub h.up.st.tb.lt ?_]
        · exact h.up.st.tb.blk
        · rintro (e | e)
          · exact hne e.symm
          · exact owns_ne h.pk.st.row h.up.st.tb.blk (by decide) e
      exact owns_ne hp.st.st.row hub (by decide) hj
    · rcases hp.tfresh j hj with a | a
      · exact h.sep j a e
      · have := owns_lt h.up.st.row e; omega
  have hst : TbS w2 pb csP1 50 Q.2.lim tvP1 Q.2.tab := hp.st.st.chg hu.chg (by
    rintro (e | e)
    · exact hne e
    · have hpb := h.pk.st.tb.blk
      exact owns_ne h.up.st.row hpb (by decide) e) hP1
  have hwn : Q.2.wait.length = 0 := by
    have := hp.st.row.2
    rcases this with ⟨_, h0⟩ | ⟨g, cap, cur, e, _⟩
    · exact h0
    · simp at e
  refine ⟨⟨⟨hst, hp.st.c3, ?_, hp.st.few, hp.st.ok⟩, ⟨hu.st, (hu.cs3 3 (by omega)).trans h.up.c3, (hu.cs3 4 (by omega)).trans h.up.c4, Nat.le_refl _⟩, fun j hj e => ?_, h.plo, h.ulo, fun j hj => ?_, fun j hj => ?_⟩, hsIn_of_owns hu.row, hin.chg hu.chg (fun j hj => (hoff j hj).2), (hp.chg.mono ?_).trans (hu.chg.mono ?_)⟩
  · have hn : nCells Q.2.wait = [] := by unfold nCells; rw [List.eq_nil_of_length_eq_zero hwn]; rfl
    rw [hwn, hn]; exact World.ownsRow_nil _ _ _ _
  · rcases hu.tfresh j e with a | a
    · exact hP1 j hj (Or.inr a)
    · have := owns_lt hp.st.st.row hj; omega
  · rcases hp.tfresh j hj with a | a
    · exact h.tp j a
    · omega
  · rcases hu.tfresh j hj with a | a
    · exact h.tu j a
    · omega
  · rintro j _ (e | e)
    · have := h.plo; omega
    · exact h.tp j e
  · rintro j _ (e | e)
    · have := h.ulo; exact Or.inr (by omega)
    · exact Or.inr (h.tu j e)
theorem BkS.below {w w' : World} {lo pb ub : Nat} {csP csU : Array Value} {tvP tvU lvP : Value} {p : Pk} (h : BkS w lo pb ub csP csU tvP tvU lvP p) (hb : Below w.heap.size w w') : BkS w' lo pb ub csP csU tvP tvU lvP p :=
  ⟨⟨h.pk.st.below hb, h.pk.c3, owns_chg h.pk.row (Chg.of_below (S := fun _ => False) hb) (fun _ _ => id), h.pk.few, h.pk.ok⟩, ⟨h.up.st.below hb, h.up.c3, h.up.c4, h.up.most⟩, h.sep, h.plo, h.ulo, h.tp, h.tu⟩

set_option maxRecDepth 100000 in
set_option maxHeartbeats 1600000 in
theorem back_ok (lo pb ub : Nat) (csP csU : Array Value) (tvP tvU lvP : Value) (p : Pk) (lv : Value) (ls : List HP) (w : World) (hgl : Gl w) (h : BkS w lo pb ub csP csU tvP tvU lvP p) (hlo : 7 ≤ lo) (hlw : lo ≤ w.heap.size) (hin : HsIn w lv ls) (hoff : Off pb ub tvP tvU lv) (hlist : listB ls = true) :
    Calls Tryd.prog 7 #[.pointer (some ⟨pb, 0, none⟩), .pointer (some ⟨ub, 0, none⟩), lv, .int .i64 (p.final : Int)] w fun e w' => e = .returned (.bool true) ∧ (∃ csP' csU' tvP' tvU', BkS w' lo pb ub csP' csU' tvP' tvU' (.slice none 0 0) (p.pack ls).2) ∧ Chg (fun j => lo ≤ j) w w' := by
  have hl8 : ls.length ≤ 8 := by unfold listB at hlist; simp at hlist; exact hlist.1
  have hall : ∀ h ∈ ls, okH h := fun x hx => prB_ok (by unfold listB at hlist; simp at hlist; exact hlist.2 x hx)
  obtain ⟨hby, hfit⟩ := pack_bytes h.pk hall hl8
  have hpk := pack_ok pb csP tvP lvP p lv ls w hgl h.pk hin (fun j hj => (hoff j hj).1) hlist (Nat.le_trans hlo h.plo) (fun j hj => Nat.le_trans hlo (h.tp j hj))
  have hup := unpack_pack (p := p) (hs := ls) h.pk.ok h.pk.few hlist hall h.pk.st.fit h.pk.st.small
  obtain ⟨hf1, hf2⟩ := pack_final p ls
  obtain ⟨sl, cl, hlv⟩ := hin.len
  subst hlv
  have hfl : p.final ≤ 256 := by
    unfold Pk.final
    cases hw : p.wait.getLast? with
    | none => exact h.pk.st.small
    | some x => exact h.pk.ok x (List.mem_of_getLast? hw)
  have H := hide h
  have HIN := hide hin
  have HOFF := hide hoff
  have HGL := hide hgl
  have HPK := hide hpk
  have HUP := hide hup
  have HF1 := hide hf1
  rw [hf1] at hfit
  generalize p.final = L at hfit hfl HF1 ⊢
  clear h hin hoff hgl hpk hup hall hf1 hf2 hlist
  generalize hQ : p.pack ls = Q at *
  go_enter Tryd.func7, Tryd.ntmps7
  go_wp2_with fail
  refine HPK.out.mono ?_
  rintro e w1 ⟨bv, csP1, tvP1, rfl, hp1⟩
  obtain ⟨hg1, hu1, hb1, hbu, hbt, hin1⟩ := back_mid HGL.out H.out hlo HIN.out HOFF.out hp1
  have hun := unpack_ok ub csU tvU _ bv Q.1 ls Q.2.lim Q.2.tab w1 hg1 hu1 hb1 hbu hbt hby (Nat.le_trans hlo H.out.ulo) (fun j hj => Nat.le_trans hlo (H.out.tu j hj)) HUP.out
  obtain ⟨sb, cb, hbv⟩ := slice_len hp1.own
  subst hbv
  have HUN := hide hun
  have HP1 := hide hp1
  have HIN1 := hide hin1
  clear hun hp1 hg1 hu1 hb1 hbu hbt hin1
  go_wp2_with fail
  refine HUN.out.mono ?_
  rintro e w2 ⟨lv2, csU2, tvU2, rfl, hu2⟩
  obtain ⟨hb2, hr2, hl2, hc2⟩ := back_end H.out hlw HIN1.out HOFF.out HP1.out hu2
  have hsh := sameHeads_eq lv2 _ ls w2 hr2 hl2 hl8
  obtain ⟨s2, c2, hlv2⟩ := hr2.len
  subst hlv2
  have HSH := hide hsh
  have HB2 := hide hb2
  have HC2 := hide hc2
  clear hsh hb2 hc2 hr2 hl2 hu2
  go_wp2_with fail
  refine HSH.out.mono ?_
  rintro e w3 ⟨rfl, hb3⟩
  have hb2 := HB2.out.below hb3
  have hps := psize_any pb _ _ _ _ _ w3 hb2.pk.st
  have hus := usize_any ub _ _ _ _ _ w3 hb2.up.st
  simp only at hus
  have HPS := hide hps
  have HUS := hide hus
  have HB3 := hide hb2
  have HC3 := hide (HC2.out.then_below hb3)
  clear hps hus hb2 hb3
  generalize szT Q.2.tab = Z at HPS HUS hfit
  go_wp2_with fail
  refine HPS.out.mono ?_
  rintro e w4 ⟨rfl, hw4⟩
  rw [hw4]
  clear hw4 w4
  go_wp2_with fail
  refine HUS.out.mono ?_
  rintro e w4 ⟨rfl, hw4⟩
  rw [hw4]
  clear hw4 w4
  go_wp2
  go_ret
  exact ⟨rfl, ⟨csP1, csU2, tvP1, tvU2, HB3.out⟩, HC3.out⟩
end Go.Proofs.YtpmmpbklpclnhaaDoor
