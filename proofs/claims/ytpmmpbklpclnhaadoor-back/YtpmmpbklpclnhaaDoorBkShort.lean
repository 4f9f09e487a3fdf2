import Derived.Test.YtpmmpbklpclnhaaDoorBkTame
set_option linter.unusedVariables false
set_option linter.unusedSimpArgs false
/-
  sluicekeep.Short.
-/
namespace Go.Proofs.YtpmmpbklpclnhaaDoor
set_option linter.unusedVariables false
set_option linter.unusedSimpArgs false
open Go.RowKit

theorem mostK_next {l : List HP} {k : Nat} (h : k < l.length) : mostK (l.take (k + 1)) = mostK (l.take k) + 3 + l[k].n.size + l[k].v.size := by
  rw [List.take_succ_eq_append_getElem h]
  generalize l.take k = a
  generalize l[k] = x
  unfold mostK
  rw [List.map_append, List.sum_append]
  simp
  omega
theorem szT_next {l : List HP} {k : Nat} (h : k < l.length) : szT (l.take (k + 1)) = szT (l.take k) + 8 + l[k].n.size + l[k].v.size := by
  rw [List.take_succ_eq_append_getElem h, szT_append, szT_cons]
  simp [szT, tk]
  omega
theorem mostK_le {l : List HP} (h : ∀ x ∈ l, okH x) (k : Nat) : mostK (l.take k) ≤ 83 * l.length := by
  have : ∀ r : List HP, (∀ x ∈ r, okH x) → mostK r ≤ 83 * r.length := by
    intro r
    induction r with
    | nil => intro _; simp [mostK]
    | cons x t ih =>
      intro hr
      have h1 := hr x (by simp)
      have h2 := ih (fun y hy => hr y (by simp [hy]))
      simp only [mostK, List.map_cons, List.sum_cons, List.length_cons] at h2 ⊢
      have := h1.2.1
      have := h1.2.2
      omega
  have h2 := this (l.take k) (fun x hx => h x (List.mem_of_mem_take hx))
  rw [List.length_take] at h2
  omega
theorem szT_le {l : List HP} (h : ∀ x ∈ l, okH x) (k : Nat) : szT (l.take k) ≤ 88 * l.length := by
  have : ∀ r : List HP, (∀ x ∈ r, okH x) → szT r ≤ 88 * r.length := by
    intro r
    induction r with
    | nil => intro _; simp [szT]
    | cons x t ih =>
      intro hr
      have h1 := hr x (by simp)
      have h2 := ih (fun y hy => hr y (by simp [hy]))
      rw [szT_cons, List.length_cons]
      have := h1.2.1
      have := h1.2.2
      unfold tk
      omega
  have h2 := this (l.take k) (fun x hx => h x (List.mem_of_mem_take hx))
  rw [List.length_take] at h2
  omega
theorem own_one (w : World) (lo : Nat) (h : HP) (hlo : lo ≤ w.heap.size) : (w.alloc (.cells #[.string h.n, .string h.v] 33)).ownsRow lo 33 2 (.slice (some ⟨w.heap.size, 0, none⟩) 1 1) 1 (hpCells [h]) :=
  ⟨rfl, Or.inr ⟨w.heap.size, 1, #[.string h.n, .string h.v], rfl, hlo, heap_alloc_new w _, Nat.le_refl _, by unfold maxLen; omega, rfl, rfl⟩⟩

/-- What Short says of two blocks. -/
theorem short_says {ls : List HP} (hok : ∀ x ∈ ls, okH x) (h8 : ls.length ≤ 8) : ls.length ≤ ((Pk.mk 256 [] []).pack ls).1.length ∧ ((Pk.mk 256 [] []).pack ls).1.length ≤ mostK ls ∧ (szT ls ≤ 256 → ((((Pk.mk 256 [] []).pack ls).2).pack ls).1.length = ls.length) := by
  have e1 : (Pk.mk 256 [] []).pack ls = ((pairsK ls [] 256).1, ⟨256, (pairsK ls [] 256).2, []⟩) := rfl
  have e2 : (Pk.mk 256 (pairsK ls [] 256).2 []).pack ls = ((pairsK ls (pairsK ls [] 256).2 256).1, ⟨256, (pairsK ls (pairsK ls [] 256).2 256).2, []⟩) := rfl
  rw [e1]
  simp only
  rw [e2]
  obtain ⟨a, b⟩ := pairsK_len (hs := ls) (l := []) (by simp; omega) hok
  refine ⟨a, b, fun hs => ?_⟩
  obtain ⟨c, f1, f2⟩ := pairsK_there (hs := ls) (l := []) (by simpa [szT] using hs)
  have hlen : (pairsK ls [] 256).2.length ≤ 50 := by
    have h1 := pairsK_table (hs := ls) (l := []) (by simp [szT])
    have h2 := szT_len (pairsK ls [] 256).2
    omega
  have := pairsK_again (hs := ls) (l := (pairsK ls [] 256).2) hlen (fun x hx => by rw [f1]; exact f2 x hx)
  exact this.1

set_option maxRecDepth 100000 in
set_option maxHeartbeats 800000 in
theorem short_none (s : Option Addr) (c : Nat) (w : World) (hgl : Gl w)  :
    Calls Tryd.prog 4 #[.slice s 0 c] w fun e w' => e = .returned (.bool true) ∧ Below w.heap.size w w' := by
  have HNP := hide (newPacker_ok 256 w (by decide))
  have HGL := hide hgl
  clear hgl
  go_enter Tryd.func4, Tryd.ntmps4
  go_wp2_with fail
  refine HNP.out.mono ?_
  rintro e w1 ⟨pb, rfl, hpb, hb1, hps⟩
  have HPW := hide hpb
  have HPB : Hid (7 ≤ pb) := Nat.le_trans HGL.out.lt hpb
  have HB1 := hide hb1
  have HPS1 := hide hps
  clear hpb hb1 hps
  obtain ⟨ls, hls⟩ : ∃ ls : List HP, ls = [hp [120] [101, 97, 116]] := ⟨_, rfl⟩
  have HLS : Hid (listB ls = true) := by show _ = _; rw [hls]; unfold listB prB hp; simp only [ba_toList]; rfl
  obtain ⟨w2, hw2⟩ : ∃ w2, w2 = w1.alloc (.cells #[.string ⟨#[120]⟩, .string ⟨#[101, 97, 116]⟩] 33) := ⟨_, rfl⟩
  have HLO : Hid (w2.ownsRow w.heap.size 33 2 (.slice (some ⟨w1.heap.size, 0, none⟩) 1 1) ls.length (hpCells ls)) := by
    show World.ownsRow _ _ _ _ _ _ _
    rw [hw2, hls]
    exact own_one w1 w.heap.size _ HB1.out.size
  have hb12 : Below w1.heap.size w1 w2 := by rw [hw2]; exact (Below.refl _ _).alloc (Nat.le_refl _) _
  have HB2 := hide (HB1.out.trans (hb12.mono HB1.out.size))
  have HPS : Hid (PkS w2 pb (newCs 256) (.slice none 0 0) (.slice none 0 0) ⟨256, [], []⟩) := ⟨HPS1.out.st.below hb12, HPS1.out.c3, World.ownsRow_nil _ _ _ _, HPS1.out.few, HPS1.out.ok⟩
  have HW2 := hide hw2
  clear hw2 hb12 hls
  go_wp2
  rw [← HW2.out]
  generalize Value.slice (some (⟨w1.heap.size, 0, none⟩ : Addr)) 1 1 = lvv at HLO ⊢
  have hok : ∀ x ∈ ls, okH x := fun x hx => prB_ok (by have := HLS.out; unfold listB at this; simp at this; exact this.2 x hx)
  have h8 : ls.length ≤ 8 := by have := HLS.out; unfold listB at this; simp at this; exact this.1
  obtain ⟨m1, m2, m3⟩ := short_says hok h8
  have hmo := mostK_le hok
  have hso := szT_le hok
  have HM1 := hide m1
  have HM2 := hide m2
  have HM3 := hide m3
  have HMO := hide hmo
  have HSO := hide hso
  have HOKL := hide hok
  clear m1 m2 m3 hmo hso hok
  obtain ⟨sl, cl, hlv⟩ := slice_len HLO.out
  subst hlv
  go_loopw [6, 7, 8] (fun m r i wr => ∃ k : Nat, i = .int .i64 (k : Int) ∧ k ≤ ls.length ∧ m = .int .i64 (mostK (ls.take k) : Int) ∧ r = .int .i64 (szT (ls.take k) : Int) ∧ Below w2.heap.size w2 wr) (fun _ _ i _ => ls.length - (intOf i).toNat)
  case atStart => exact ⟨0, rfl, Nat.zero_le _, rfl, rfl, Below.refl _ _⟩
  case round =>
    obtain ⟨k, rfl, hk, rfl, rfl, hbel⟩ := hrel
    have hmk := HMO.out k
    have hsk := HSO.out k
    by_cases hlt : k < ls.length
    · have hmn := mostK_next hlt
      have hsn := szT_next hlt
      have hro := owns_chg HLO.out (Chg.of_below (S := fun _ => False) hbel) (fun _ _ => id)
      obtain ⟨g, hgs, hcl⟩ := slice_some hro (by omega)
      subst hgs
      obtain ⟨e0, e1⟩ := hpCells_get hlt
      have d0 : wr.cell? ⟨g, k * 2, none⟩ = some (.string ls[k].n) := by rw [hro.cellAt _ (by have := hpCells_length ls; omega)]; exact e0
      have d1 : wr.cell? ⟨g, k * 2 + 1, none⟩ = some (.string ls[k].v) := by rw [hro.cellAt _ (by have := hpCells_length ls; omega)]; exact e1
      obtain ⟨-, o1, o2⟩ := HOKL.out ls[k] (List.getElem_mem _)
      generalize ls[k] = x at d0 d1 o1 o2 hmn hsn
      obtain ⟨xn, xv⟩ := x
      simp only at d0 d1 o1 o2 hmn hsn
      generalize mostK (ls.take k) = M at hmk hmn ⊢
      generalize szT (ls.take k) = Z at hsk hsn ⊢
      have HMN := hide hmn
      have HSN := hide hsn
      have HB := hide hbel
      clear hmn hsn hro e0 e1 hbel
      go_wp2
      go_quiet (fail)
      go_wp2
      go_quiet (fail)
      go_wp2
      go_roundw
      case rel => exact ⟨k + 1, by go_num, by omega, by rw [HMN.out]; go_num, by rw [HSN.out]; go_num, ⟨HB.out.os, HB.out.tape, HB.out.output, HB.out.size, HB.out.block⟩⟩
      case measure => simp [intOf]; omega
    · have hke : k = ls.length := by omega
      subst hke
      rw [List.take_length] at hmk hsk ⊢
      have hB : Below w.heap.size w wr := HB2.out.trans (hbel.mono HB2.out.size)
      have hps := HPS.out
      have hpr : PkS wr pb (newCs 256) (.slice none 0 0) (.slice none 0 0) ⟨256, [], []⟩ := ⟨hps.st.below hbel, hps.c3, World.ownsRow_nil _ _ _ _, hps.few, hps.ok⟩
      have hlo := owns_chg HLO.out (Chg.of_below (S := fun _ => False) hbel) (fun _ _ => id)
      have hne : (Value.slice sl ls.length cl).ownBlock ≠ some pb := owns_ne hlo hpr.st.tb.blk (by decide)
      have hpk := pack_ok pb _ _ _ _ _ ls wr (HGL.out.below hB) hpr (hsIn_of_owns hlo) (by rintro j hj (e | e); exact hne (e ▸ hj); simp [Value.ownBlock] at e) HLS.out HPB.out (by intro j hj; simp [Value.ownBlock] at hj)
      have HPK := hide hpk
      have HBW := hide hB
      have HLOW := hide hlo
      have HNE := hide hne
      have hm2 := HM2.out
      have hm1 := HM1.out
      have hm3 := HM3.out
      generalize mostK ls = M at hmk hm2 ⊢
      generalize szT ls = Z at hsk hm3 ⊢
      generalize hq1 : (Pk.mk 256 [] []).pack ls = Q1 at HPK hm1 hm2 hm3
      have HM3' := hide hm3
      clear hpk hB hlo hpr hps hne hbel hq1 hm3
      go_wp2_with fail
      refine HPK.out.mono ?_
      rintro e w3 ⟨va, cs3, tv3, rfl, hp3⟩
      have hg3 : Gl w3 := (HGL.out.below HBW.out).chg hp3.chg (by
        rintro j hj (e | e)
        · have := HPB.out; omega
        · simp [Value.ownBlock] at e)
      have hlo3 := owns_chg HLOW.out hp3.chg (by
        rintro j hj (e | e)
        · exact HNE.out (e ▸ hj)
        · simp [Value.ownBlock] at e)
      have hpk2 := pack_ok pb cs3 tv3 _ _ _ ls w3 hg3 hp3.st (hsIn_of_owns hlo3) (by
        rintro j hj (e | e)
        · exact HNE.out (e ▸ hj)
        · rcases hp3.tfresh j e with a | a
          · simp [Value.ownBlock] at a
          · have := owns_lt HLOW.out hj; omega) HLS.out HPB.out (by
        intro j hj
        rcases hp3.tfresh j hj with a | a
        · simp [Value.ownBlock] at a
        · exact Nat.le_trans (HGL.out.below HBW.out).lt a)
      obtain ⟨sa, ca, hva⟩ := slice_len hp3.own
      subst hva
      have HPK2 := hide hpk2
      have hB3 : Below w.heap.size w w3 := by
        have h9 := HBW.out
        refine ⟨hp3.chg.os.trans h9.os, hp3.chg.tape.trans h9.tape, hp3.chg.output.trans h9.output, Nat.le_trans h9.size hp3.chg.size, fun j hj => (hp3.chg.block j (Nat.lt_of_lt_of_le hj h9.size) ?_).trans (h9.block j hj)⟩
        rintro (e | e)
        · have := HPW.out; omega
        · simp [Value.ownBlock] at e
      have htf : ∀ j, tv3.ownBlock = some j → w.heap.size ≤ j := fun j hj => by
        rcases hp3.tfresh j hj with a | a
        · simp [Value.ownBlock] at a
        · exact Nat.le_trans HBW.out.size a
      have HB3 := hide hB3
      have HTF := hide htf
      clear hpk2 hB3 hp3 hg3 hlo3 htf
      go_wp2_with fail
      refine HPK2.out.mono ?_
      rintro e w4 ⟨vb, cs4, tv4, rfl, hp4⟩
      have hB4 : Below w.heap.size w w4 := by
        have h9 := HB3.out
        refine ⟨hp4.chg.os.trans h9.os, hp4.chg.tape.trans h9.tape, hp4.chg.output.trans h9.output, Nat.le_trans h9.size hp4.chg.size, fun j hj => (hp4.chg.block j (Nat.lt_of_lt_of_le hj h9.size) ?_).trans (h9.block j hj)⟩
        rintro (e | e)
        · have := HPW.out; omega
        · have := HTF.out j e; omega
      obtain ⟨sb, cb, hvb⟩ := slice_len hp4.own
      subst hvb
      have HB4 := hide hB4
      clear hB4 hp4
      by_cases hz : 256 < Z
      · go_wp2
        all_goals go_ret
        all_goals exact ⟨by simp_all, HB4.out⟩
      · have hbl := HM3'.out (by omega)
        go_wp2
        all_goals go_ret
        all_goals exact ⟨by simp_all, HB4.out⟩

set_option maxRecDepth 100000 in
set_option maxHeartbeats 800000 in
theorem short_some (bb off cap : Nat) (hs : List HP) (w : World) (hgl : Gl w) (hbb : bb < w.heap.size) (hcells : ∀ i (h : i < hs.length), w.cell? ⟨bb, off + i * 2, none⟩ = some (.string hs[i].n) ∧ w.cell? ⟨bb, off + i * 2 + 1, none⟩ = some (.string hs[i].v)) (hl : hs.length ≤ 9223372036854775807) (hok : ∀ h ∈ hs, h.n.size ≤ 9223372036854775807 ∧ h.v.size ≤ 9223372036854775807) (hpos : 0 < hs.length) :
    Calls Tryd.prog 4 #[.slice (some ⟨bb, off, none⟩) hs.length cap] w fun e w' => e = .returned (.bool true) ∧ Below w.heap.size w w' := by
  have HNP := hide (newPacker_ok 256 w (by decide))
  have HGL := hide hgl
  have HTH := hide (fun wx (hb : Below w.heap.size w wx) => tameHeads_any bb off cap hs wx (Nat.lt_of_lt_of_le hbb hb.size) (fun i hi => by rw [hb.cell (p := ⟨bb, off + i * 2, none⟩) hbb, hb.cell (p := ⟨bb, off + i * 2 + 1, none⟩) hbb]; exact hcells i hi) hl hok)
  have HTL := hide (tamed_list hs)
  clear hcells hok
  clear hgl
  go_enter Tryd.func4, Tryd.ntmps4
  go_wp2_with fail
  refine HNP.out.mono ?_
  rintro e w1 ⟨pb, rfl, hpb, hb1, hps⟩
  have HPW := hide hpb
  have HPB : Hid (7 ≤ pb) := Nat.le_trans HGL.out.lt hpb
  have HB1 := hide hb1
  have HPS1 := hide hps
  clear hpb hb1 hps
  have hbA : Below w1.heap.size w1 (w1.alloc (.cells #[.string ⟨#[120]⟩, .string ⟨#[101, 97, 116]⟩] 33)) := (Below.refl _ _).alloc (Nat.le_refl _) _
  have HBA := hide hbA
  have HTA := hide (HTH.out _ (HB1.out.trans (hbA.mono HB1.out.size)))
  clear hbA
  go_wp2_with fail
  refine HTA.out.mono ?_
  rintro e w2 ⟨lvv, rfl, hlo, hb2⟩
  have hb12 : Below w1.heap.size w1 w2 := HBA.out.trans (hb2.mono HBA.out.size)
  have HB2 := hide (HB1.out.trans (hb12.mono HB1.out.size))
  have HPS : Hid (PkS w2 pb (newCs 256) (.slice none 0 0) (.slice none 0 0) ⟨256, [], []⟩) := ⟨HPS1.out.st.below hb12, HPS1.out.c3, World.ownsRow_nil _ _ _ _, HPS1.out.few, HPS1.out.ok⟩
  obtain ⟨ls, hls⟩ : ∃ ls : List HP, ls = tamed hs := ⟨_, rfl⟩
  have HLS : Hid (listB ls = true) := by show _ = _; rw [hls]; exact HTL.out
  have HLO : Hid (w2.ownsRow w.heap.size 33 2 lvv ls.length (hpCells ls)) := by
    rw [hls]
    exact owns_base hlo (fun j hj => Nat.le_trans HB1.out.size (Nat.le_trans HBA.out.size (hlo.lt j hj).1))
  clear hlo hb2 hb12 hls
  go_wp2
  have hok : ∀ x ∈ ls, okH x := fun x hx => prB_ok (by have := HLS.out; unfold listB at this; simp at this; exact this.2 x hx)
  have h8 : ls.length ≤ 8 := by have := HLS.out; unfold listB at this; simp at this; exact this.1
  obtain ⟨m1, m2, m3⟩ := short_says hok h8
  have hmo := mostK_le hok
  have hso := szT_le hok
  have HM1 := hide m1
  have HM2 := hide m2
  have HM3 := hide m3
  have HMO := hide hmo
  have HSO := hide hso
  have HOKL := hide hok
  clear m1 m2 m3 hmo hso hok
  obtain ⟨sl, cl, hlv⟩ := slice_len HLO.out
  subst hlv
  go_loopw [6, 7, 8] (fun m r i wr => ∃ k : Nat, i = .int .i64 (k : Int) ∧ k ≤ ls.length ∧ m = .int .i64 (mostK (ls.take k) : Int) ∧ r = .int .i64 (szT (ls.take k) : Int) ∧ Below w2.heap.size w2 wr) (fun _ _ i _ => ls.length - (intOf i).toNat)
  case atStart => exact ⟨0, rfl, Nat.zero_le _, rfl, rfl, Below.refl _ _⟩
  case round =>
    obtain ⟨k, rfl, hk, rfl, rfl, hbel⟩ := hrel
    have hmk := HMO.out k
    have hsk := HSO.out k
    by_cases hlt : k < ls.length
    · have hmn := mostK_next hlt
      have hsn := szT_next hlt
      have hro := owns_chg HLO.out (Chg.of_below (S := fun _ => False) hbel) (fun _ _ => id)
      obtain ⟨g, hgs, hcl⟩ := slice_some hro (by omega)
      subst hgs
      obtain ⟨e0, e1⟩ := hpCells_get hlt
      have d0 : wr.cell? ⟨g, k * 2, none⟩ = some (.string ls[k].n) := by rw [hro.cellAt _ (by have := hpCells_length ls; omega)]; exact e0
      have d1 : wr.cell? ⟨g, k * 2 + 1, none⟩ = some (.string ls[k].v) := by rw [hro.cellAt _ (by have := hpCells_length ls; omega)]; exact e1
      obtain ⟨-, o1, o2⟩ := HOKL.out ls[k] (List.getElem_mem _)
      generalize ls[k] = x at d0 d1 o1 o2 hmn hsn
      obtain ⟨xn, xv⟩ := x
      simp only at d0 d1 o1 o2 hmn hsn
      generalize mostK (ls.take k) = M at hmk hmn ⊢
      generalize szT (ls.take k) = Z at hsk hsn ⊢
      have HMN := hide hmn
      have HSN := hide hsn
      have HB := hide hbel
      clear hmn hsn hro e0 e1 hbel
      go_wp2
      go_quiet (fail)
      go_wp2
      go_quiet (fail)
      go_wp2
      go_roundw
      case rel => exact ⟨k + 1, by go_num, by omega, by rw [HMN.out]; go_num, by rw [HSN.out]; go_num, ⟨HB.out.os, HB.out.tape, HB.out.output, HB.out.size, HB.out.block⟩⟩
      case measure => simp [intOf]; omega
    · have hke : k = ls.length := by omega
      subst hke
      rw [List.take_length] at hmk hsk ⊢
      have hB : Below w.heap.size w wr := HB2.out.trans (hbel.mono HB2.out.size)
      have hps := HPS.out
      have hpr : PkS wr pb (newCs 256) (.slice none 0 0) (.slice none 0 0) ⟨256, [], []⟩ := ⟨hps.st.below hbel, hps.c3, World.ownsRow_nil _ _ _ _, hps.few, hps.ok⟩
      have hlo := owns_chg HLO.out (Chg.of_below (S := fun _ => False) hbel) (fun _ _ => id)
      have hne : (Value.slice sl ls.length cl).ownBlock ≠ some pb := owns_ne hlo hpr.st.tb.blk (by decide)
      have hpk := pack_ok pb _ _ _ _ _ ls wr (HGL.out.below hB) hpr (hsIn_of_owns hlo) (by rintro j hj (e | e); exact hne (e ▸ hj); simp [Value.ownBlock] at e) HLS.out HPB.out (by intro j hj; simp [Value.ownBlock] at hj)
      have HPK := hide hpk
      have HBW := hide hB
      have HLOW := hide hlo
      have HNE := hide hne
      have hm2 := HM2.out
      have hm1 := HM1.out
      have hm3 := HM3.out
      generalize mostK ls = M at hmk hm2 ⊢
      generalize szT ls = Z at hsk hm3 ⊢
      generalize hq1 : (Pk.mk 256 [] []).pack ls = Q1 at HPK hm1 hm2 hm3
      have HM3' := hide hm3
      clear hpk hB hlo hpr hps hne hbel hq1 hm3
      go_wp2_with fail
      refine HPK.out.mono ?_
      rintro e w3 ⟨va, cs3, tv3, rfl, hp3⟩
      have hg3 : Gl w3 := (HGL.out.below HBW.out).chg hp3.chg (by
        rintro j hj (e | e)
        · have := HPB.out; omega
        · simp [Value.ownBlock] at e)
      have hlo3 := owns_chg HLOW.out hp3.chg (by
        rintro j hj (e | e)
        · exact HNE.out (e ▸ hj)
        · simp [Value.ownBlock] at e)
      have hpk2 := pack_ok pb cs3 tv3 _ _ _ ls w3 hg3 hp3.st (hsIn_of_owns hlo3) (by
        rintro j hj (e | e)
        · exact HNE.out (e ▸ hj)
        · rcases hp3.tfresh j e with a | a
          · simp [Value.ownBlock] at a
          · have := owns_lt HLOW.out hj; omega) HLS.out HPB.out (by
        intro j hj
        rcases hp3.tfresh j hj with a | a
        · simp [Value.ownBlock] at a
        · exact Nat.le_trans (HGL.out.below HBW.out).lt a)
      obtain ⟨sa, ca, hva⟩ := slice_len hp3.own
      subst hva
      have HPK2 := hide hpk2
      have hB3 : Below w.heap.size w w3 := by
        have h9 := HBW.out
        refine ⟨hp3.chg.os.trans h9.os, hp3.chg.tape.trans h9.tape, hp3.chg.output.trans h9.output, Nat.le_trans h9.size hp3.chg.size, fun j hj => (hp3.chg.block j (Nat.lt_of_lt_of_le hj h9.size) ?_).trans (h9.block j hj)⟩
        rintro (e | e)
        · have := HPW.out; omega
        · simp [Value.ownBlock] at e
      have htf : ∀ j, tv3.ownBlock = some j → w.heap.size ≤ j := fun j hj => by
        rcases hp3.tfresh j hj with a | a
        · simp [Value.ownBlock] at a
        · exact Nat.le_trans HBW.out.size a
      have HB3 := hide hB3
      have HTF := hide htf
      clear hpk2 hB3 hp3 hg3 hlo3 htf
      go_wp2_with fail
      refine HPK2.out.mono ?_
      rintro e w4 ⟨vb, cs4, tv4, rfl, hp4⟩
      have hB4 : Below w.heap.size w w4 := by
        have h9 := HB3.out
        refine ⟨hp4.chg.os.trans h9.os, hp4.chg.tape.trans h9.tape, hp4.chg.output.trans h9.output, Nat.le_trans h9.size hp4.chg.size, fun j hj => (hp4.chg.block j (Nat.lt_of_lt_of_le hj h9.size) ?_).trans (h9.block j hj)⟩
        rintro (e | e)
        · have := HPW.out; omega
        · have := HTF.out j e; omega
      obtain ⟨sb, cb, hvb⟩ := slice_len hp4.own
      subst hvb
      have HB4 := hide hB4
      clear hB4 hp4
      by_cases hz : 256 < Z
      · go_wp2
        all_goals go_ret
        all_goals exact ⟨by simp_all, HB4.out⟩
      · have hbl := HM3'.out (by omega)
        go_wp2
        all_goals go_ret
        all_goals exact ⟨by simp_all, HB4.out⟩
end Go.Proofs.YtpmmpbklpclnhaaDoor
