import Derived.Test.YtpmmpbklpclnhaaDoorBkBackW
set_option linter.unusedVariables false
set_option linter.unusedSimpArgs false
/-
  sluicekeep.Back.
-/
namespace Go.Proofs.YtpmmpbklpclnhaaDoor
set_option linter.unusedVariables false
set_option linter.unusedSimpArgs false
open Go.RowKit

/-- Pairs that came in. -/
def HdIn (W : World) (s : Option Addr) (hs : List HP) : Prop :=
  hs.length ≤ 9223372036854775807 ∧ (∀ y ∈ hs, y.n.size ≤ 9223372036854775807 ∧ y.v.size ≤ 9223372036854775807) ∧
    (hs.length = 0 ∨ ∃ bb off, s = some ⟨bb, off, none⟩ ∧ bb < W.heap.size ∧ ∀ i (hi : i < hs.length), W.cell? ⟨bb, off + i * 2, none⟩ = some (.string hs[i].n) ∧ W.cell? ⟨bb, off + i * 2 + 1, none⟩ = some (.string hs[i].v))
theorem tame_any {W w : World} {s : Option Addr} {hs : List HP} (h : HdIn W s hs) (c : Nat) (hb : Below W.heap.size W w) :
    Calls Tryd.prog 10 #[.slice s hs.length c] w fun e w' => ∃ v, e = .returned v ∧ w'.ownsRow w.heap.size 33 2 v (tamed hs).length (hpCells (tamed hs)) ∧ Below w.heap.size w w' := by
  rcases Nat.eq_zero_or_pos hs.length with h0 | h0
  · rw [h0]
    refine (tameHeads_zero s c w).mono ?_
    rintro e w' ⟨rfl, hb'⟩
    have : tamed hs = [] := by rw [List.eq_nil_of_length_eq_zero h0]; rfl
    rw [this]
    exact ⟨_, rfl, World.ownsRow_nil _ _ _ _, hb'⟩
  · obtain ⟨hl, hok, hc⟩ := h
    rcases hc with e | ⟨bb, off, rfl, h1, h2⟩
    · omega
    · exact tameHeads_any bb off c hs w (Nat.lt_of_lt_of_le h1 hb.size) (fun i hi => by rw [hb.cell (p := ⟨bb, off + i * 2, none⟩) h1, hb.cell (p := ⟨bb, off + i * 2 + 1, none⟩) h1]; exact h2 i hi) hl hok
/-- One of the lists. -/
structure LV where
  s : Option Addr
  c : Nat
  hs : List HP
def LLIn (W : World) (s : Option Addr) (ll : List LV) : Prop :=
  ll.length = 0 ∨ ∃ bb off, s = some ⟨bb, off, none⟩ ∧ bb < W.heap.size ∧ ∀ i (hi : i < ll.length), W.cell? ⟨bb, off + i, none⟩ = some (.slice ll[i].s ll[i].hs.length ll[i].c) ∧ HdIn W ll[i].s ll[i].hs
def IsIn (W : World) (s : Option Addr) (xs : List Int) : Prop :=
  xs.length = 0 ∨ ∃ bb off, s = some ⟨bb, off, none⟩ ∧ bb < W.heap.size ∧ ∀ i (hi : i < xs.length), W.cell? ⟨bb, off + i, none⟩ = some (.int .i64 xs[i]) ∧ -9223372036854775808 ≤ xs[i] ∧ xs[i] ≤ 9223372036854775807

theorem BkS.off {w : World} {lo pb ub : Nat} {csP csU : Array Value} {tvP tvU lvP : Value} {p : Pk} (h : BkS w lo pb ub csP csU tvP tvU lvP p) {v : Value} (hv : ∀ j, v.ownBlock = some j → w.heap.size ≤ j) : Off pb ub tvP tvU v := by
  intro j hj
  have h1 := hv j hj
  have h2 := h.pk.st.tb.lt
  have h3 := h.up.st.tb.lt
  refine ⟨?_, ?_⟩
  · rintro (e | e)
    · omega
    · have := owns_lt h.pk.st.row e; omega
  · rintro (e | e)
    · omega
    · have := owns_lt h.up.st.row e; omega
theorem BkS.resized {w w' : World} {lo pb ub : Nat} {csP csU csP' : Array Value} {tvP tvU lvP lvP' : Value} {p : Pk} {n : Nat} (h : BkS w lo pb ub csP csU tvP tvU lvP p) (hp : PkS w' pb csP' tvP lvP' (p.resize n)) (hc : Chg (fun j => j = pb) w w') : BkS w' lo pb ub csP' csU tvP tvU lvP' (p.resize n) := by
  have hu := h.up.chg hc (fun e => h.ne e.symm) (fun j hj e => owns_ne h.up.st.row h.pk.st.tb.blk (by decide) (e ▸ hj))
  exact ⟨hp, hu, h.sep, h.plo, h.ulo, h.tp, h.tu⟩
theorem BkS.new {W w1 w2 : World} {pb ub : Nat} (hb1 : Below W.heap.size W w1) (hpw : W.heap.size ≤ pb) (hp : PkS w1 pb (newCs 256) (.slice none 0 0) (.slice none 0 0) ⟨256, [], []⟩) (hb2 : Below w1.heap.size w1 w2) (huw : w1.heap.size ≤ ub) (hu : UpS w2 ub (newUs 256) (.slice none 0 0) ⟨256, [], 256⟩) : BkS w2 W.heap.size pb ub (newCs 256) (newUs 256) (.slice none 0 0) (.slice none 0 0) (.slice none 0 0) ⟨256, [], []⟩ :=
  ⟨⟨hp.st.below hb2, hp.c3, World.ownsRow_nil _ _ _ _, hp.few, hp.ok⟩, hu, fun j hj => by simp [Value.ownBlock] at hj, hpw, Nat.le_trans hb1.size huw, fun j hj => by simp [Value.ownBlock] at hj, fun j hj => by simp [Value.ownBlock] at hj⟩

set_option maxRecDepth 100000 in
set_option maxHeartbeats 1600000 in
theorem back_walk (s1 : Option Addr) (c1 : Nat) (xs : List Int) (s2 : Option Addr) (c2 : Nat) (ll : List LV) (W : World) (hgl : Gl W) (h1 : IsIn W s1 xs) (hn1 : xs.length ≤ 35184372088832) (h2 : LLIn W s2 ll) (hn2 : ll.length ≤ 35184372088832) :
    Calls Tryd.prog 3 #[.slice s1 xs.length c1, .slice s2 ll.length c2] W fun e w' => e = .returned (.bool true) ∧ Below W.heap.size W w' := by
  have HNP := hide (newPacker_ok 256 W (by decide))
  have HNU := hide (fun wx => newUnpacker_ok 256 wx (by decide))
  have HGL := hide hgl
  have HG := hgl.lt
  have H1 := hide h1
  have H2 := hide h2
  clear hgl h1 h2
  go_enter Tryd.func3, Tryd.ntmps3
  go_wp2_with fail
  refine HNP.out.mono ?_
  rintro e w1 ⟨pb, rfl, hpw, hb1, hps⟩
  have HPS := hide hps
  have HB1 := hide hb1
  have HPW := hide hpw
  clear hps hb1 hpw
  go_wp2_with fail
  refine (HNU.out w1).mono ?_
  rintro e w2 ⟨ub, rfl, huw, hb2, hus⟩
  have hbk0 := BkS.new HB1.out HPW.out HPS.out hb2 huw hus
  have hB2 := HB1.out.trans (hb2.mono HB1.out.size)
  have hbA : Below w2.heap.size w2 (w2.alloc (.cells #[.string ⟨#[104, 111, 115, 116]⟩, .string ⟨#[101, 97, 116]⟩] 33)) := (Below.refl _ _).alloc (Nat.le_refl _) _
  have hBA := hB2.trans (hbA.mono hB2.size)
  have hbkA := hbk0.below hbA
  have hown := own_one w2 w2.heap.size (hp [104, 111, 115, 116] [101, 97, 116]) (Nat.le_refl _)
  have hlist : listB [hp [104, 111, 115, 116] [101, 97, 116]] = true := by unfold listB prB hp; simp only [ba_toList]; rfl
  have hbk := back_ok W.heap.size pb ub _ _ _ _ _ _ _ [hp [104, 111, 115, 116] [101, 97, 116]] _ (HGL.out.below hBA) hbkA HG hBA.size (hsIn_of_owns hown) (hbk0.off (v := .slice (some ⟨w2.heap.size, 0, none⟩) 1 1) (fun j hj => by simp [Value.ownBlock] at hj; omega)) hlist
  rw [show (((Pk.mk 256 [] []).final : Nat) : Int) = 256 from rfl] at hbk
  have HBK := hide hbk
  have HBA := hide hBA
  clear hbk hBA hbkA hown hbA hB2 hbk0 hb2 huw hus hlist
  go_wp2_with fail
  refine HBK.out.mono ?_
  rintro e w3 ⟨rfl, ⟨csP3, csU3, tvP3, tvU3, hbk3⟩, hc3⟩
  have HB3 := hide (below_by_chg HBA.out hc3 (fun j hj e => by omega))
  have HBK3 := hide hbk3
  have HF3 : Hid (((Pk.mk 256 [] []).pack [hp [104, 111, 115, 116] [101, 97, 116]]).2.final = 256) := (pack_final _ _).2
  generalize ((Pk.mk 256 [] []).pack [hp [104, 111, 115, 116] [101, 97, 116]]).2 = p3 at HBK3 HF3
  clear hbk3 hc3
  go_wp2
  go_loopw [9, 10, 11] (fun L ok i wr => ∃ (k : Nat) (p : Pk) (csP csU : Array Value) (tvP tvU lvP : Value), i = .int .i64 (k : Int) ∧ ok = .bool true ∧ L = .int .i64 (p.final : Int) ∧ k ≤ ll.length ∧ BkS wr W.heap.size pb ub csP csU tvP tvU lvP p ∧ Below W.heap.size W wr) (fun _ _ i _ => ll.length - (intOf i).toNat)
  case atStart => exact ⟨0, p3, csP3, csU3, tvP3, tvU3, _, rfl, rfl, by rw [HF3.out]; rfl, Nat.zero_le _, HBK3.out, HB3.out⟩
  case round =>
    obtain ⟨k, p, csP, csU, tvP, tvU, lvP, rfl, rfl, rfl, hk, hbk, hbel⟩ := hrel
    have HBKr := hide hbk
    have HBE := hide hbel
    clear hbk hbel HBK3 HB3 HF3
    by_cases hlt : k < ll.length
    · rcases H2.out with h0 | ⟨bb2, off2, hs2, hbb2, hll⟩
      · omega
      subst hs2
      obtain ⟨hll0, hll1⟩ := hll k hlt
      have HL0 := hide hll0
      have HL1 := hide hll1
      clear hll hll0 hll1
      generalize ll[k] = lk at HL0 HL1
      obtain ⟨sk, ck, hsk⟩ := lk
      simp only at HL0 HL1
      go_wp2
      go_loopw [9, 12] (fun L j wx => ∃ (y : Nat) (p : Pk) (csP csU : Array Value) (tvP tvU lvP : Value), j = .int .i64 (y : Int) ∧ y ≤ 70368744177664 ∧ L = .int .i64 (p.final : Int) ∧ BkS wx W.heap.size pb ub csP csU tvP tvU lvP p ∧ Below W.heap.size W wx) (fun _ j _ => xs.length - (intOf j).toNat)
      case atStart => exact ⟨k, p, csP, csU, tvP, tvU, lvP, rfl, by omega, rfl, HBKr.out, HBE.out⟩
      case round =>
        obtain ⟨y, q, csP5, csU5, tvP5, tvU5, lvP5, rfl, hy, rfl, hbk5, hb5⟩ := hrel
        have HBK5 := hide hbk5
        have HB5 := hide hb5
        clear hbk5 hb5 HBKr HBE
        by_cases hyx : y < xs.length
        · rcases H1.out with h0 | ⟨bb1, off1, hs1, hbb1, hxs⟩
          · omega
          subst hs1
          obtain ⟨hx0, hx1, hx2⟩ := hxs y hyx
          have d0 : wr.cell? ⟨bb1, off1 + y, none⟩ = some (.int .i64 xs[y]) := by rw [HB5.out.cell (p := ⟨bb1, off1 + y, none⟩) hbb1]; exact hx0
          generalize xs[y] = x at d0 hx0 hx1 hx2
          have hpi := pick_any x wr ⟨hx1, hx2⟩
          have HPI := hide hpi
          clear hxs hx0 hpi
          go_wp2_with fail
          refine HPI.out.mono ?_
          rintro e w6 ⟨r, rfl, hr, hw6⟩
          rw [hw6]
          clear hw6 w6
          have hrz := resize_any pb csP5 tvP5 lvP5 q r wr HBK5.out.pk hr
          have HRZ := hide hrz
          clear hrz
          go_wp2_with fail
          refine HRZ.out.mono ?_
          rintro e w6 ⟨rfl, csP6, lvP6, hp6, hc6, -⟩
          have HBK6 := hide (HBK5.out.resized hp6 hc6)
          have HB6 := hide (below_by_chg HB5.out hc6 (fun j hj e => by have := HBK5.out.plo; omega))
          have HFN := hide (resize_final q r)
          clear hp6 hc6
          go_wp2
          go_roundw
          case rel => exact ⟨y + ll.length, q.resize r, csP6, csU5, tvP5, tvU5, lvP6, by go_num, by omega, by rw [HFN.out], HBK6.out, HB6.out⟩
          case measure => simp [intOf]; omega
        · have d2 : wr.cell? ⟨bb2, off2 + k, none⟩ = some (.slice sk hsk.length ck) := by rw [HB5.out.cell (p := ⟨bb2, off2 + k, none⟩) hbb2]; exact HL0.out
          have htm := tame_any HL1.out ck HB5.out
          have HTM := hide htm
          clear htm
          go_wp2_with fail
          refine HTM.out.mono ?_
          rintro e w6 ⟨v6, rfl, hown6, hb6⟩
          have hB6 := HB5.out.trans (hb6.mono HB5.out.size)
          have hbk := back_ok W.heap.size pb ub csP5 csU5 tvP5 tvU5 lvP5 q v6 (tamed hsk) w6 (HGL.out.below hB6) (HBK5.out.below hb6) HG hB6.size (hsIn_of_owns hown6) (HBK5.out.off (fun j hj => (hown6.lt j hj).1)) (tamed_list hsk)
          obtain ⟨s6, c6, hv6⟩ := slice_len hown6
          subst hv6
          have HBKC := hide hbk
          have HB6 := hide hB6
          clear hbk hB6 hb6 hown6
          go_wp2_with fail
          refine HBKC.out.mono ?_
          rintro e w7 ⟨rfl, ⟨csP7, csU7, tvP7, tvU7, hbk7⟩, hc7⟩
          have HBK7 := hide hbk7
          have HB7 := hide (below_by_chg HB6.out hc7 (fun j hj e => by omega))
          have HFN := hide (pack_final q (tamed hsk)).2
          clear hbk7 hc7
          go_wp2
          go_roundw
          case rel => exact ⟨k + 1, (q.pack (tamed hsk)).2, csP7, csU7, tvP7, tvU7, _, by go_num, rfl, by rw [HFN.out], by omega, HBK7.out, HB7.out⟩
          case measure => simp [intOf]; omega
    · go_wp2
      go_ret
      exact ⟨rfl, HBE.out⟩
end Go.Proofs.YtpmmpbklpclnhaaDoor
