import Derived.Test.YtdccldbefdfppaaGreatDoorPGar
import Derived.Test.YtdccldbefdfppaaGreatDoorPGaa
import Derived.Test.YtdccldbefdfppaaGreatDoorPGat
import Derived.Test.YtdccldbefdfppaaGreatDoorPGas
import Derived.Test.YtdccldbefdfppaaGreatDoorPGau
import Derived.Test.YtdccldbefdfppaaGreatDoorPFxHead2
import Derived.Test.YtdccldbefdfppaaGreatDoorPGag
import Derived.BigRegion
import Derived.BigQuiet
import Derived.Deep.QuietTactic
set_option linter.unusedVariables false
set_option linter.unusedSimpArgs false
namespace Go.Proofs.YtdccldbefdfppaaGreatDoor
open Go.RowKit
section
set_option maxRecDepth 100000 in
set_option maxHeartbeats 1600000 in
theorem comeHeaders_p (eb mb : Nat) (g : GEnd) (f n : Int) (sv : Option Addr) (len cb : Nat) (w : World) (h : Inv w eb mb g) (hop : g.m.opensN n = false) (hnw : n ≤ g.m.newest) :
  Calls Tryz.prog 96 #[.pointer (some ⟨eb, 0, none⟩), .agg #[.int .i64 1, .int .i64 f, .int .i64 n, .slice sv len cb, .slice sv len cb]] w fun e w' => e = .panicked [{ v := .iface 41 (.int .i64 11), recovered := false }] ∧ Below w.heap.size w w' := by
 have hbA : Below w.heap.size w (w.alloc (.cells #[.int .i64 1, .int .i64 f, .int .i64 n, .slice sv len cb, .slice sv len cb] 165)) := (Below.refl _ _).alloc (Nat.le_refl _) _
 have hnew := heap_alloc_new w (.cells #[.int .i64 1, .int .i64 f, .int .i64 n, .slice sv len cb, .slice sv len cb] 165)
 obtain ⟨wA, hwA⟩ : ∃ wA, wA = w.alloc (.cells #[.int .i64 1, .int .i64 f, .int .i64 n, .slice sv len cb, .slice sv len cb] 165) := ⟨_, rfl⟩
 rw [← hwA] at hbA hnew
 have hA := h.below hbA
 have HOPN : Hid (∀ wx, EnB wx eb g.m → Calls Tryz.prog 76 #[.pointer (some ⟨eb, 0, none⟩), .int .i64 n] wx fun e w' => e = .returned (.bool false) ∧ w' = wx) := fun wx hx => by
  have := opens_any eb g.m n wx hx
  rw [show ((n.tmod 2 == 1) == g.m.first) = false from hop] at this
  exact this
 have HEN : Hid (∀ k, EnB (wA.drewN k) eb g.m) := fun k => ⟨by rw [show (wA.drewN k).heap = wA.heap from rfl]; exact hA.en.blk⟩
 have z2 : wA.cell? ⟨w.heap.size, 2, none⟩ = some (.int .i64 n) := by rw [cell_of_row _ _ _ _ _ _ hnew]; rfl
 have z34 := hA.en.c34
 have hltb : w.heap.size < wA.heap.size := lt_of_block hnew
 have HWA := hide hwA
 have HEND : Hid (Below w.heap.size w wA) := hbA
 clear h hA hbA hnew hop
 go_enter Tryz.func96, Tryz.ntmps96
 go_upto_region 1 with fail
 rw [← HWA.out]
 clear hwA
 go_quiet ((go_at_call 76; refine Calls.quiet_of_same (HOPN.out _ (HEN.out _))))
 go_wp2
 exact ⟨rfl, rfl, ⟨HEND.out.os, HEND.out.tape, HEND.out.output, HEND.out.size, HEND.out.block⟩⟩
set_option maxRecDepth 100000 in
set_option maxHeartbeats 1600000 in
theorem comeHeaders_mine (eb mb : Nat) (g : GEnd) (f n : Int) (sv : Option Addr) (len cb : Nat) (w : World) (h : Inv w eb mb g) (hop : g.m.opensN n = true) :
  Calls Tryz.prog 96 #[.pointer (some ⟨eb, 0, none⟩), .agg #[.int .i64 1, .int .i64 f, .int .i64 n, .slice sv len cb, .slice sv len cb]] w fun e w' => e = .panicked [{ v := .iface 41 (.int .i64 11), recovered := false }] ∧ Below w.heap.size w w' := by
 have hbA : Below w.heap.size w (w.alloc (.cells #[.int .i64 1, .int .i64 f, .int .i64 n, .slice sv len cb, .slice sv len cb] 165)) := (Below.refl _ _).alloc (Nat.le_refl _) _
 have hnew := heap_alloc_new w (.cells #[.int .i64 1, .int .i64 f, .int .i64 n, .slice sv len cb, .slice sv len cb] 165)
 obtain ⟨wA, hwA⟩ : ∃ wA, wA = w.alloc (.cells #[.int .i64 1, .int .i64 f, .int .i64 n, .slice sv len cb, .slice sv len cb] 165) := ⟨_, rfl⟩
 rw [← hwA] at hbA hnew
 have hA := h.below hbA
 have HOPN : Hid (∀ wx, EnB wx eb g.m → Calls Tryz.prog 76 #[.pointer (some ⟨eb, 0, none⟩), .int .i64 n] wx fun e w' => e = .returned (.bool true) ∧ w' = wx) := fun wx hx => by
  have := opens_any eb g.m n wx hx
  rw [show ((n.tmod 2 == 1) == g.m.first) = true from hop] at this
  exact this
 have HEN : Hid (∀ k, EnB (wA.drewN k) eb g.m) := fun k => ⟨by rw [show (wA.drewN k).heap = wA.heap from rfl]; exact hA.en.blk⟩
 have z2 : wA.cell? ⟨w.heap.size, 2, none⟩ = some (.int .i64 n) := by rw [cell_of_row _ _ _ _ _ _ hnew]; rfl
 have z34 := hA.en.c34
 have hltb : w.heap.size < wA.heap.size := lt_of_block hnew
 have HWA := hide hwA
 have HEND : Hid (Below w.heap.size w wA) := hbA
 clear h hA hbA hnew hop
 go_enter Tryz.func96, Tryz.ntmps96
 go_upto_region 1 with fail
 rw [← HWA.out]
 clear hwA
 go_quiet ((go_at_call 76; refine Calls.quiet_of_same (HOPN.out _ (HEN.out _))))
 go_wp2
 exact ⟨rfl, rfl, ⟨HEND.out.os, HEND.out.tape, HEND.out.output, HEND.out.size, HEND.out.block⟩⟩
set_option maxRecDepth 100000 in
set_option maxHeartbeats 1600000 in
theorem comeHeaders_many (eb mb : Nat) (g : GEnd) (f n : Int) (sv : Option Addr) (len cb : Nat) (w : World) (h : Inv w eb mb g) (hop : g.m.opensN n = false) (hnw : g.m.newest < n) (hL : g.L.length ≤ 1048576) (h4 : 4 ≤ ((g.L.length : Int) - (g.m.hereN (openS g.K g.L) : Nat))) :
  Calls Tryz.prog 96 #[.pointer (some ⟨eb, 0, none⟩), .agg #[.int .i64 1, .int .i64 f, .int .i64 n, .slice sv len cb, .slice sv len cb]] w fun e w' => e = .panicked [{ v := .iface 41 (.int .i64 11), recovered := false }] ∧ Below w.heap.size w w' := by
 have hbA : Below w.heap.size w (w.alloc (.cells #[.int .i64 1, .int .i64 f, .int .i64 n, .slice sv len cb, .slice sv len cb] 165)) := (Below.refl _ _).alloc (Nat.le_refl _) _
 have hnew := heap_alloc_new w (.cells #[.int .i64 1, .int .i64 f, .int .i64 n, .slice sv len cb, .slice sv len cb] 165)
 obtain ⟨wA, hwA⟩ : ∃ wA, wA = w.alloc (.cells #[.int .i64 1, .int .i64 f, .int .i64 n, .slice sv len cb, .slice sv len cb] 165) := ⟨_, rfl⟩
 rw [← hwA] at hbA hnew
 have hA := h.below hbA
 have HOPN : Hid (∀ wx, Below wA.heap.size wA wx → Calls Tryz.prog 76 #[.pointer (some ⟨eb, 0, none⟩), .int .i64 n] wx fun e w' => e = .returned (.bool false) ∧ w' = wx) := fun wx hx => by
  have := opens_any eb g.m n wx (hA.below hx).en
  rw [show ((n.tmod 2 == 1) == g.m.first) = false from hop] at this
  exact this
 have HOT : Hid (∀ wx, Below wA.heap.size wA wx → Calls Tryz.prog 131 #[.pointer (some ⟨eb, 0, none⟩)] wx fun e w' => e = .returned (.int .i64 ((g.L.length : Int) - (g.m.hereN (openS g.K g.L) : Nat))) ∧ Below wx.heap.size wx w') := fun wx hx => by
  have := openThere_any eb g.m (openS g.K g.L) wx (hA.below hx).en (hA.below hx).open (by rw [openS_length]; exact hL)
  rw [openS_length] at this
  exact this
 have HBOX : Hid (∀ wx, Below wA.heap.size wA wx → wx.cell? ⟨w.heap.size, 0, none⟩ = some (.int .i64 1) ∧ wx.cell? ⟨w.heap.size, 1, none⟩ = some (.int .i64 f) ∧ wx.cell? ⟨w.heap.size, 2, none⟩ = some (.int .i64 n) ∧ wx.cell? ⟨w.heap.size, 3, none⟩ = some (.slice sv len cb) ∧ wx.cell? ⟨w.heap.size, 4, none⟩ = some (.slice sv len cb) ∧ wx.cell? ⟨eb, 34, none⟩ = some (.int .i64 g.m.newest)) := fun wx hx => by
  have hb : wx.heap[w.heap.size]? = some (.cells #[.int .i64 1, .int .i64 f, .int .i64 n, .slice sv len cb, .slice sv len cb] 165 (0, 0)) := by rw [hx.block _ (lt_of_block hnew)]; exact hnew
  refine ⟨?_, ?_, ?_, ?_, ?_, (hA.below hx).en.c34⟩ <;> (rw [cell_of_row _ _ _ _ _ _ hb]; rfl)
 have hlt : eb < wA.heap.size := hA.en.lt
 have hltb : w.heap.size < wA.heap.size := lt_of_block hnew
 have hle : (n ≤ g.m.newest) = False := eq_false (by omega)
 have HWA := hide hwA
 generalize hZ : ((g.L.length : Int) - (g.m.hereN (openS g.K g.L) : Nat)) = Z at *
 have hz4 : ((4 : Int) ≤ Z) = True := eq_true (by omega)
 have HBA := hide hbA
 clear h hA hbA hnew hop hZ h4 hL
 go_enter Tryz.func96, Tryz.ntmps96
 go_upto_region 1 with fail
 rw [← HWA.out]
 clear hwA
 obtain ⟨z0, z1, z2, z3, z4, z34⟩ := HBOX.out wA (Below.refl _ _)
 go_cut [26] (fun s26 wx => s26 = .bool true ∧ Below wA.heap.size wA wx)
 case first =>
  go_region_held3 (fun w' => w'.cell? ⟨w.heap.size, 2, none⟩ = some (.int .i64 n) ∧ w'.cell? ⟨eb, 34, none⟩ = some (.int .i64 g.m.newest)) (go_keep)
   (first
    | (go_at_call 76; refine (HOPN.out wA.drew ⟨rfl, rfl, rfl, Nat.le_refl _, fun _ _ => rfl⟩).mono ?_; rintro e w' ⟨rfl, rfl⟩)
    | (go_at_call 131; refine (HOT.out wA.drew ⟨rfl, rfl, rfl, Nat.le_refl _, fun _ _ => rfl⟩).mono ?_; rintro e w1 ⟨rfl, hb1⟩; have hB1 : Below wA.heap.size wA w1 := ⟨hb1.os, hb1.tape, hb1.output, hb1.size, hb1.block⟩; have t2 := (HBOX.out w1 hB1).2.2.1; have t34 := (HBOX.out w1 hB1).2.2.2.2.2))
  all_goals (go_wp2_with fail; go_meet; exact ⟨by simp [hz4], hB1⟩)
 case rest =>
  obtain ⟨rfl, hbx⟩ := hcut
  have HX : Hid (Below w.heap.size w wc) := HBA.out.trans (hbx.mono HBA.out.size)
  clear hbx z0 z1 z2 z3 z4 z34
  go_wp2
  exact ⟨rfl, rfl, HX.out⟩
theorem comeHeaders_x (eb mb : Nat) (g : GEnd) (f n : Int) (sv : Option Addr) (len cb : Nat) (w : World) (h : Inv w eb mb g) (hL : g.L.length ≤ 1048576) (hx : g.m.opensN n = true ∨ n ≤ g.m.newest ∨ 4 ≤ ((g.L.length : Int) - (g.m.hereN (openS g.K g.L) : Nat))) :
  Calls Tryz.prog 96 #[.pointer (some ⟨eb, 0, none⟩), .agg #[.int .i64 1, .int .i64 f, .int .i64 n, .slice sv len cb, .slice sv len cb]] w fun e w' => e = .panicked [{ v := .iface 41 (.int .i64 11), recovered := false }] ∧ Below w.heap.size w w' := by
 cases ho : g.m.opensN n with
 | true => exact comeHeaders_mine eb mb g f n sv len cb w h ho
 | false =>
  by_cases h1 : n ≤ g.m.newest
  ·exact comeHeaders_p eb mb g f n sv len cb w h ho h1
  ·refine comeHeaders_many eb mb g f n sv len cb w h ho (by omega) hL ?_
   rcases hx with hx | hx | hx
   ·rw [ho] at hx; cases hx
   ·exact absurd hx h1
   ·exact hx
end
section
theorem Inv.here {w : World} {eb mb : Nat} {g : GEnd} (h : Inv w eb mb g) : g.m.hereN (openS g.K g.L) = g.L.countP fun k => g.m.opensN k := by
 unfold EndM.hereN openS
 rw [List.countP_map]
 apply List.countP_congr
 intro k hk
 show g.m.opensN (atN g.K k).st.number = true ↔ _
 rw [(h.at hk).2]
theorem Inv.there {w : World} {eb mb : Nat} {g : GEnd} (h : Inv w eb mb g) : ((g.L.length : Int) - (g.m.hereN (openS g.K g.L) : Nat)) = g.there := by rw [h.here]; rfl
theorem OkG.few {g : GEnd} (h : OkG g) : g.L.length ≤ 1048576 := by have := h.good.few; omega
theorem sumU_mem : ∀ {K : List GSt} {s : GSt}, s ∈ K → s.un.length ≤ sumU K
 | x :: r, s, hs => by
  have e : sumU (x :: r) = x.un.length + sumU r := by simp [sumU]
  rw [e]
  rcases List.mem_cons.1 hs with a | a
  ·subst a; omega
  ·have := sumU_mem a; omega
theorem GoodG.un {g : GEnd} (h : GoodG g) {s : GSt} (hs : s ∈ g.K) : s.un.length ≤ 1000 := by
 have h1 := sumU_mem hs
 have h2 := h.sum
 have h3 := h.m.receive
 have h4 := h.m.owed
 have h5 := h.m.tgt
 omega
section
variable {w : World} {eb mb : Nat} {X : GX}
theorem x_comeData (fl n : Int) (b : List UInt8) (sv : Option Addr) (cb : Nat) (cv : Value) (h : InvX w eb mb X) (ho : OkG X.g) (hf : 0 ≤ fl ∧ fl ≤ 255) (hb : b.length ≤ 64) (hbc : bodyCode 0 fl b = 0) (hbv : BytesIn w (.slice sv b.length cb) b) (hbn : ∀ j, (Value.slice sv b.length cb).ownBlock = some j → ¬ Foot eb mb X.g j) (hcv : ContV fl (.slice sv b.length cb) cv b) :
  Calls Tryz.prog 95 #[.pointer (some ⟨eb, 0, none⟩), .agg #[.int .i64 0, .int .i64 fl, .int .i64 n, .slice sv b.length cb, cv]] w fun e w' => Outc w eb mb X X (X.comeData fl n b) e w' := by
 have hL := ho.few
 have hG := ho.good
 obtain ⟨sc, cc, hc1, hc2, hc3⟩ : ∃ sc cc, cv = .slice sc (cutB fl b).length cc ∧ BytesIn w cv (cutB fl b) ∧ ∀ j, cv.ownBlock = some j → (Value.slice sv b.length cb).ownBlock = some j := by
  cases hp : hasB fl 8 with
  | true =>
   refine cut_in hp hbv hcv ?_
   unfold bodyCode at hbc
   simp only [if_true, hp] at hbc
   cases b with
   | nil => simp [padCode] at hbc
   | cons x r => simp
  | false =>
   have e : cutB fl b = b := by unfold cutB; rw [hp]; rfl
   have e2 : cv = .slice sv b.length cb := by
    unfold ContV at hcv
    rw [hp] at hcv
    simpa using hcv
   rw [e, e2]
   exact ⟨sv, cb, rfl, hbv, fun j hj => hj⟩
 subst hc1
 unfold GX.comeData
 cases ht : X.g.told? n with
 | none =>
  refine (comeData_noneP eb mb X.g fl n sv b.length cb sc _ cc w h.inv ht).mono ?_
  rintro e w' ⟨rfl, hb'⟩
  exact outc_below h rfl hL hb'
 | some s =>
  obtain ⟨hs, hn, ha⟩ := told_mem ht
  subst hn
  obtain ⟨a1, a2, a3, a4, a5, a6⟩ := ho.calm.st s hs
  have hS := hG.st s hs
  have hu := hG.un hs
  have hown := hG.m.own
  have hsm := hG.sum
  have hrc := hG.m.receive
  have how := hG.m.owed
  have htg := hG.m.tgt
  have hcn := hG.m.count
  have g1 := hS.rcv
  have g2 := hS.owed
  have g3 := hS.sum
  simp only
  by_cases h1 : s.st.hasAll = true ∨ s.st.reset = 2
  ·rw [if_pos h1]
   refine (comeData_goneP eb mb X.g s fl sv b.length cb sc _ cc w h.inv hs ha h1).mono ?_
   rintro e w' ⟨rfl, hb'⟩
   exact outc_below h rfl hL hb'
  rw [if_neg h1]
  have hh : s.st.hasAll = false := by cases e : s.st.hasAll <;> simp_all
  have hr : s.st.reset = 0 := by
   rcases a6 with e | e
   ·exact e
   ·exact absurd (Or.inr e) h1
  by_cases h2 : 1 ≤ (b.length : Int) ∧ (X.g.m.receive < (b.length : Int) ∨ (s.st.reset = 0 ∧ X.g.m.own + s.st.receive < (b.length : Int)))
  ·rw [if_pos h2]
   refine (comeData_flowP eb mb X.g s fl sv b.length cb sc _ cc w h.inv hs ha hh hr h2.1 (h2.2.imp_right fun e => e.2) (by omega) (by omega)).mono ?_
   rintro e w' ⟨rfl, hb'⟩
   exact outc_below h rfl hL hb'
  rw [if_neg h2, if_neg (by rw [hr]; simp)]
  have hcl : ({ s.st with hasAll := hasB fl 1 } : StM).closed = false := by unfold StM.closed; rw [hr, a2]; simp
  have hpx := padX_eq fl b
  refine (comeData_pad eb mb X.g s fl sv b.length cb sc (cutB fl b) cc (padX fl b) w h.inv hs ha hh hr hf hcl hc2 (fun j hj => hbn j (hc3 j hj)) hpx (by omega) (by omega) (by omega) (by omega) (by omega) (by omega) (by omega) (by omega) (by omega)).mono ?_
  rintro e w' ⟨rfl, hnx⟩
  rw [show (s.st.sentAll && hasB fl 1) = false from by rw [a2]; rfl]
  refine outc_same h rfl hnx ?_
  obtain ⟨q1, q2⟩ : ((X.g.m.got_ b.length).ulim = X.g.m.ulim ∧ (X.g.m.got_ b.length).usz = X.g.m.usz) ∧ (X.g.m.got_ b.length).utab = X.g.m.utab ∧ (X.g.m.got_ b.length).umost = X.g.m.umost ∧ (X.g.m.got_ b.length).bbytes = X.g.m.bbytes := by
   unfold EndM.got_ EndM.counted
   repeat' split
   all_goals exact ⟨⟨rfl, rfl⟩, rfl, rfl, rfl⟩
  exact SameX.upd (fun s => ⟨rfl, rfl⟩) q1.1 q1.2 q2.1 q2.2.1 q2.2.2
theorem x_comeReset (fl n : Int) (sv : Option Addr) (len cb : Nat) (h : InvX w eb mb X) (ho : OkG X.g) :
  Calls Tryz.prog 99 #[.pointer (some ⟨eb, 0, none⟩), .agg #[.int .i64 2, .int .i64 fl, .int .i64 n, .slice sv len cb]] w fun e w' => Outc w eb mb X X (X.comeReset n) e w' := by
 have hL := ho.few
 have hG := ho.good
 unfold GX.comeReset
 cases ht : X.g.told? n with
 | none =>
  refine (comeReset_none eb mb X.g fl n sv len cb w h.inv ht).mono ?_
  rintro e w' ⟨rfl, hb'⟩
  exact outc_below h rfl hL hb'
 | some s =>
  obtain ⟨hs, hn, ha⟩ := told_mem ht
  simp only
  by_cases hc : s.st.closed = true
  ·rw [if_pos hc]
   refine (comeReset_closed eb mb X.g s fl n sv len cb w h.inv ht hc).mono ?_
   rintro e w' ⟨rfl, hb'⟩
   exact outc_ok rfl rfl (NextX.of_below h hb')
  rw [if_neg hc]
  have hc : s.st.closed = false := by simpa using hc
  subst hn
  have hm : s.st.number ∈ X.g.L := (hG.st s hs).opn hc
  have hk : X.g.L.idxOf s.st.number < X.g.L.length := List.idxOf_lt_length_of_mem hm
  have hLk : X.g.L[X.g.L.idxOf s.st.number] = s.st.number := List.getElem_idxOf hk
  have hat : atN X.g.K s.st.number = s := by
   obtain ⟨h1, h2⟩ := h.inv.at hm
   exact inj_nd (fun s : GSt => s.st.number) hG.nn h1 hs h2
  have hu := hG.un hs
  have hsm := hG.sum
  have hrc := hG.m.receive
  have how := hG.m.owed
  have htg := hG.m.tgt
  have hcr := comeReset_ok eb mb X.g (X.g.L.idxOf s.st.number) fl sv len cb w h.inv hk (by rw [hLk, hat]; exact ha) (by rw [hLk, hat]; exact hc) hL (by rw [hLk, hat]; omega) (by omega)
  rw [hLk, hat, ← List.erase_eq_eraseIdx_of_idxOf (l := X.g.L) (a := s.st.number) rfl] at hcr
  refine hcr.mono ?_
  rintro e w' ⟨rfl, g', h1, h2, -⟩
  exact outc_same h rfl ⟨g', h1, h2⟩ (SameX.upd (fun s => ⟨rfl, rfl⟩) rfl rfl rfl rfl rfl)
theorem x_comeSettings (fl : Int) (b : List UInt8) (sv : Option Addr) (len cb : Nat) (h : InvX w eb mb X) (ho : OkG X.g) (hf : 0 ≤ fl ∧ fl ≤ 255) (hn : hasB fl 1 = false → 0 ≤ num4 b ∧ num4 b ≤ 2147483647) :
  Calls Tryz.prog 100 #[.pointer (some ⟨eb, 0, none⟩), .agg #[.int .i64 3, .int .i64 fl, .int .i64 0, .slice sv len cb, .int .i64 (if hasB fl 1 then 0 else num4 b)]] w fun e w' => Outc w eb mb X X (X.comeSettings fl b) e w' := by
 have hL := ho.few
 have hG := ho.good
 unfold GX.comeSettings
 cases hak : hasB fl 1 with
 | true =>
  simp only [if_true]
  cases hw : X.g.m.waits with
  | true =>
   refine (comeSettings_ack eb mb X.g fl 0 0 sv len cb w h.inv hw hf hak).mono ?_
   rintro e w' ⟨rfl, hn'⟩
   exact outc_same h rfl ⟨_, rfl, hn'⟩ ⟨rfl, rfl, rfl, rfl, rfl, fun s hs => ⟨s, hs, rfl, rfl⟩⟩
  | false =>
   refine (comeSettings_p eb X.g.m fl 0 0 sv len cb w h.inv.en hw hf hak).mono ?_
   rintro e w' ⟨rfl, hb'⟩
   exact outc_below h rfl hL hb'
 | false =>
  have hn := hn hak
  simp only [Bool.false_eq_true, if_false]
  have hsd : ∀ s ∈ X.g.K, -1099511627776 ≤ s.st.send ∧ s.st.send ≤ 1099511627776 := fun s hs => by
   have := (hG.st s hs).send
   omega
  by_cases hx : (X.g.K.any fun s => decide (2147483647 < num4 b + s.st.send)) = true
  ·rw [if_pos hx]
   refine (comeSettings_great eb mb X.g fl (num4 b) sv len cb w h.inv hf hak hn hsd ?_).mono ?_
   ·obtain ⟨s, hs, e⟩ := List.any_eq_true.1 hx
    exact ⟨s, hs, by simpa using e⟩
   rintro e w' ⟨rfl, hb'⟩
   exact outc_below h rfl hL hb'
  rw [if_neg hx]
  have hwin : ∀ s ∈ X.g.K, -1099511627776 ≤ s.st.send ∧ num4 b + s.st.send ≤ 2147483647 := fun s hs => by
   refine ⟨(hsd s hs).1, ?_⟩
   rcases Int.lt_or_le 2147483647 (num4 b + s.st.send) with a | a
   ·exact absurd (List.any_eq_true.2 ⟨s, hs, by simpa using a⟩) hx
   ·exact a
  by_cases h8 : 8 ≤ X.g.ans.length
  ·rw [if_pos h8]
   refine (comeSettings_calm eb mb X.g fl (num4 b) sv len cb w h.inv hf hak h8 hn hwin).mono ?_
   rintro e w' ⟨rfl, hb'⟩
   exact outc_below h rfl hL hb'
  rw [if_neg h8]
  refine (comeSettings_any eb mb X.g fl (num4 b) sv len cb w h.inv hf hak (by omega) hn hwin).mono ?_
  rintro e w' ⟨rfl, hn'⟩
  exact outc_same h rfl hn' ⟨rfl, rfl, rfl, rfl, rfl, fun s hs => ⟨s, hs, rfl, rfl⟩⟩
theorem x_comeCredit (fl n : Int) (b : List UInt8) (sv : Option Addr) (len cb : Nat) (h : InvX w eb mb X) (ho : OkG X.g) (hn : 0 ≤ num4 b ∧ num4 b ≤ 2147483647) :
  Calls Tryz.prog 102 #[.pointer (some ⟨eb, 0, none⟩), .agg #[.int .i64 6, .int .i64 fl, .int .i64 n, .slice sv len cb, .int .i64 (num4 b)]] w fun e w' => Outc w eb mb X X (X.comeCredit n b) e w' := by
 have hL := ho.few
 have hG := ho.good
 have hsn := hG.m.send
 have hoth := hG.m.other
 unfold GX.comeCredit
 by_cases h0 : n = 0
 ·subst h0
  rw [if_pos rfl]
  by_cases hg : 2147483647 < X.g.m.send + num4 b
  ·rw [if_pos hg]
   refine (comeCredit_p eb X.g.m fl (num4 b) sv len cb w h.inv.en hg (by omega) (by omega)).mono ?_
   rintro e w' ⟨rfl, hb'⟩
   exact outc_below h rfl hL hb'
  rw [if_neg hg]
  refine (comeCredit_conn eb mb X.g fl (num4 b) sv len cb w h.inv (by omega) hn.1 (by omega)).mono ?_
  rintro e w' ⟨rfl, hn'⟩
  exact outc_same h rfl ⟨_, rfl, hn'⟩ ⟨rfl, rfl, rfl, rfl, rfl, fun s hs => ⟨s, hs, rfl, rfl⟩⟩
 rw [if_neg h0]
 cases ht : X.g.told? n with
 | none =>
  refine (comeCredit_none eb mb X.g fl n (num4 b) sv len cb w h.inv h0 ht).mono ?_
  rintro e w' ⟨rfl, hb'⟩
  exact outc_below h rfl hL hb'
 | some s =>
  obtain ⟨hs, hnn, ha⟩ := told_mem ht
  simp only
  by_cases hr : s.st.reset ≠ 0
  ·rw [if_pos hr]
   refine (comeCredit_reset eb mb X.g s fl n (num4 b) sv len cb w h.inv h0 ht hr).mono ?_
   rintro e w' ⟨rfl, hb'⟩
   exact outc_ok rfl rfl (NextX.of_below h hb')
  rw [if_neg hr]
  have hr : s.st.reset = 0 := Decidable.not_not.1 hr
  have hsd := (hG.st s hs).send
  subst hnn
  by_cases hg : 2147483647 < X.g.m.other + s.st.send + num4 b
  ·rw [if_pos hg]
   refine (comeCredit_great eb mb X.g s fl (num4 b) sv len cb w h.inv hs h0 ha hr hg (by omega) (by omega) (by omega)).mono ?_
   rintro e w' ⟨rfl, hb'⟩
   exact outc_below h rfl hL hb'
  rw [if_neg hg]
  refine (comeCredit_st eb mb X.g s fl (num4 b) sv len cb w h.inv hs h0 ha hr (by omega) (by omega) (by omega) (by omega)).mono ?_
  rintro e w' ⟨rfl, hn'⟩
  rw [updN_const (f := fun x => x.credit (num4 b)) hG.nn hs rfl] at hn'
  exact outc_same h rfl ⟨_, rfl, hn'⟩ (SameX.upd (fun s => ⟨rfl, rfl⟩) rfl rfl rfl rfl rfl)
theorem x_comePiece (n : Int) (bl : Bool) (bv : Value) (l0 l : List UInt8) (la : Bool) (sv : Option Addr) (cb : Nat) (h : InvX w eb mb X) (ho : OkG X.g) (hgl : Gl w) (hge : ∀ j, j < 7 → ¬ FootX eb mb X j) (hn : 1 ≤ n ∧ n ≤ 32767) (hop : X.g.m.opensN n = false) (hnw : X.g.m.newest < n) (hbv : w.ownsRow 0 5 1 bv l0.length (l0.map B)) (hbo : ∀ j, bv.ownBlock = some j → X.g.m.bbytes.ownBlock = some j) (hl : BytesIn w (.slice sv l.length cb) l) (hl0 : l0.length ≤ 700) (hl1 : l.length ≤ 64) :
  Calls Tryz.prog 97 #[.pointer (some ⟨eb, 0, none⟩), .agg #[.int .i64 n, bv, .bool bl], .slice sv l.length cb, .bool la] w fun e w' => Outc w eb mb X X (X.comePiece n bl l0 l la) e w' := by
 have hL := ho.few
 have hG := ho.good
 have hno : ∀ s ∈ X.g.K, s.st.number ≠ n := fun s hs e => by
  have := (hG.st s hs).seen (by rw [e]; exact hop)
  omega
 unfold GX.comePiece
 by_cases h7 : 700 < l0.length + l.length
 ·rw [if_pos h7]
  refine (comePiece_longX eb mb X n bl bv l0 l sv cb w h hbv hbo hl la hl0 (by omega) h7).mono ?_
  intro e w' hp
  obtain ⟨rfl, hd⟩ := h.onPiece hL hp
  exact outc_no rfl hd
 rw [if_neg h7]
 cases la with
 | false =>
  rw [if_pos rfl]
  refine (comePiece_moreX eb mb X n bl bv l0 l sv cb w h hbv hbo hl (by omega)).mono ?_
  rintro e w' ⟨rfl, X', h1, h2⟩
  exact outc_ok rfl h1 h2
 | true =>
  rw [if_neg (by simp)]
  cases hu : (Up.mk X.ul X.ut X.um).unpack (l0 ++ l) with
  | none =>
   refine (comePiece_noneX eb mb X n bl bv l0 l sv cb w h hgl hge hu hbv hbo hl (by omega)).mono ?_
   intro e w' hp
   obtain ⟨rfl, hd⟩ := h.onPiece hL hp
   exact outc_no rfl hd
  | some r =>
   obtain ⟨hs, lim, tab⟩ := r
   have := hG.few
   refine (comePiece_lastX eb mb X n bl bv l0 l sv cb hs lim tab w h hgl hge hu hno hG.rise (by omega) hbv hbo hl (by omega)).mono ?_
   rintro e w' ⟨rfl, X', h1, h2⟩
   exact outc_ok rfl h1 h2
theorem x_comeHeaders (fl n : Int) (b : List UInt8) (sv : Option Addr) (cb : Nat) (h : InvX w eb mb X) (ho : OkG X.g) (hgl : Gl w) (hge : ∀ j, j < 7 → ¬ FootX eb mb X j) (hf : 0 ≤ fl ∧ fl ≤ 255) (hn : 1 ≤ n ∧ n ≤ 32767) (hl : BytesIn w (.slice sv b.length cb) b) (hl1 : b.length ≤ 64) :
  Calls Tryz.prog 96 #[.pointer (some ⟨eb, 0, none⟩), .agg #[.int .i64 1, .int .i64 fl, .int .i64 n, .slice sv b.length cb, .slice sv b.length cb]] w fun e w' => Outc w eb mb X X (X.comeHeaders fl n b) e w' := by
 have hL := ho.few
 have hG := ho.good
 have hth := h.inv.there
 unfold GX.comeHeaders
 by_cases hx : X.g.m.opensN n = true ∨ n ≤ X.g.m.newest ∨ 4 ≤ X.g.there
 ·rw [if_pos hx]
  refine (comeHeaders_x eb mb X.g fl n sv b.length cb w h.inv hL (by rw [hth]; exact hx)).mono ?_
  rintro e w' ⟨rfl, hb'⟩
  exact outc_below h rfl hL hb'
 rw [if_neg hx]
 have hop : X.g.m.opensN n = false := by cases e : X.g.m.opensN n <;> simp_all
 refine comeHeaders2 eb mb X.g fl n sv b.length cb (RX w eb mb X (X.comePiece n (hasB fl 1) [] b (hasB fl 4))) (SX w eb mb X X (X.comePiece n (hasB fl 1) [] b (hasB fl 4))) (codeOf (X.comePiece n (hasB fl 1) [] b (hasB fl 4))) w h.inv hf hop (by omega) hL (by rw [hth]; omega) ?_
 intro wx hbx
 have hnx := NextX.of_below h hbx
 refine (x_comePiece n (hasB fl 1) (.slice none 0 0) [] b (hasB fl 4) sv cb hnx.inv ho (hgl.below hbx) hge hn hop (by omega) (owns_none _ _ _) (fun j hj => by cases hj) (hl.chg (Chg.of_below (S := fun _ => False) hbx) (fun _ _ => id)) (by simp) hl1).mono ?_
 intro e w' ho'
 exact outc_pre ho' hnx rfl (fun c => rfl)
theorem x_comePong (fl : Int) (b : List UInt8) (sv : Option Addr) (len cb : Nat) (h : InvX w eb mb X) (ho : OkG X.g) (hf : 0 ≤ fl ∧ fl ≤ 255) (hak : hasB fl 1 = true) :
  Calls Tryz.prog 101 #[.pointer (some ⟨eb, 0, none⟩), .agg #[.int .i64 4, .int .i64 fl, .int .i64 0, .slice sv len cb, .int .u32 (num4 b)]] w fun e w' => Outc w eb mb X X (X.comePing fl b) e w' := by
 have hG := ho.good
 have h4 := num4_le4 b
 unfold GX.comePing
 rw [if_pos hak]
 have hsm := hG.sum
 have hrc := hG.m.receive
 have how := hG.m.owed
 have htg := hG.m.tgt
 have hck := hG.m.clock
 have hst := hG.m.start
 have ht0 : 0 ≤ X.g.m.target := by omega
 have he := comePing_ack eb mb X.g fl (num4 b).toNat sv len cb w h.inv hf hak (by omega) hG.m.count (by omega) (by omega) hG.m.bestB hG.m.bestT (by omega) (by omega)
 rw [show (((num4 b).toNat : Nat) : Int) = num4 b from by omega] at he
 refine he.mono ?_
 rintro e w' ⟨rfl, hn'⟩
 refine outc_same h rfl ⟨_, rfl, hn'⟩ ?_
 obtain ⟨q1, q2⟩ : ((X.g.m.answd (num4 b).toNat).ulim = X.g.m.ulim ∧ (X.g.m.answd (num4 b).toNat).usz = X.g.m.usz) ∧ (X.g.m.answd (num4 b).toNat).utab = X.g.m.utab ∧ (X.g.m.answd (num4 b).toNat).umost = X.g.m.umost ∧ (X.g.m.answd (num4 b).toNat).bbytes = X.g.m.bbytes := by
  unfold EndM.answd
  repeat' split
  all_goals exact ⟨⟨rfl, rfl⟩, rfl, rfl, rfl⟩
 exact ⟨q1.1, q1.2, q2.1, q2.2.1, q2.2.2, fun s hs => ⟨s, hs, rfl, rfl⟩⟩
end
theorem x_comePing {w0 w : World} {eb mb : Nat} {X0 : GX} {g : GEnd} (fl : Int) (b : List UInt8) (sv : Option Addr) (cb : Nat) (h0 : InvX w0 eb mb X0) (hn0 : Next w0 w eb mb X0.g g) (hs0 : SameX X0.g g) (ho : OkG g) (hf : 0 ≤ fl ∧ fl ≤ 255) (hak : hasB fl 1 = false) (hbv : w.ownsRow 0 5 1 (.slice sv b.length cb) b.length (b.map B)) (hbn : ∀ j, (Value.slice sv b.length cb).ownBlock = some j → ¬ Foot eb mb g j) (hb0 : ∀ j, (Value.slice sv b.length cb).ownBlock = some j → w0.heap.size ≤ j) :
  Calls Tryz.prog 101 #[.pointer (some ⟨eb, 0, none⟩), .agg #[.int .i64 4, .int .i64 fl, .int .i64 0, .slice sv b.length cb, .int .u32 (num4 b)]] w fun e w' => Outc w0 eb mb X0 (X0.to g) ((X0.to g).comePing fl b) e w' := by
 have hG := ho.good
 have hL := ho.few
 have hnX := h0.next hn0 hs0
 unfold GX.comePing
 rw [if_neg (by rw [hak]; simp)]
 show Calls _ _ _ _ fun e w' => Outc w0 eb mb X0 (X0.to g) (if 8 ≤ g.ans.length then _ else _) e w'
 by_cases h8 : 8 ≤ g.ans.length
 ·rw [if_pos h8]
  refine (comePing_p eb mb g fl (num4 b) sv b.length cb w hn0.inv hf hak h8).mono ?_
  rintro e w' ⟨rfl, hb'⟩
  exact outc_no rfl (DiesX.of (hnX.then_below hb') hL)
 rw [if_neg h8]
 refine (comePing_any eb mb g fl (num4 b) sv cb b w hn0.inv hf hak (by omega) hbv hbn hn0 (fun j hj => Or.inr (hb0 j hj))).mono ?_
 rintro e w' ⟨rfl, g', h1, h2⟩
 have hs' : SameX X0.g ({ g with m := { g.m with answers := .tuple #[] }, ans := g.ans ++ [⟨4, 1, b, .slice none 0 0⟩] } : GEnd) := ⟨hs0.ulim, hs0.usz, hs0.utab, hs0.umost, hs0.bbytes, hs0.heads⟩
 refine outc_ok rfl (Y' := X0.to g') ?_ (h0.next h2 (hs'.of_bare h1))
 unfold GX.bare GX.to
 simp only
 rw [crude_of_bare h1]
end
section
set_option maxRecDepth 100000 in
set_option maxHeartbeats 400000 in
theorem opensTalk_no (t : TypeId) (x : Value) (w : World) (ht : t = 162 ∨ t = 165 ∨ t = 170 ∨ t = 176 ∨ t = 178 ∨ t = 179 ∨ t = 181 ∨ t = 167) :
  Calls Tryz.prog 126 #[.iface t x] w fun e w' => e = .returned (.bool false) ∧ Below w.heap.size w w' := by
 have hta : ∀ (x : Value) (w : World), (Instr.typeAssert (.iface t x) 140 173 true).run Tryz.prog w = .ok (.tuple #[.agg #[.int .i64 0, .int .i64 0, .int .i64 0, .slice none 0 0, .int .i64 0], .bool false]) w := by
  rcases ht with rfl | rfl | rfl | rfl | rfl | rfl | rfl | rfl <;> exact fun _ _ => by kernel_rfl
 clear ht
 go_enter Tryz.func126, Tryz.ntmps126
 go_wp2
 go_ret
 exact ⟨rfl, (Below.refl _ _).alloc (Nat.le_refl _) _⟩
section
variable {w0 w : World} {eb mb : Nat} {X0 : GX} {g : GEnd}
theorem ahead_X {w1 : World} {g1 : GEnd} (h0 : InvX w0 eb mb X0) (hn : Next w0 w eb mb X0.g g) (hs : SameX X0.g g) (ho : OkG g) (ha : Ahead w w1 eb mb g g1) : NextX w0 w1 eb mb X0 (X0.to g1) ∧ SameX X0.g g1 ∧ Next w0 w1 eb mb X0.g g1 ∧ (X0.to g1).bare = (X0.to g).begin.bare ∧ OkG g1 := by
 obtain ⟨h1, h2⟩ := ha
 have hs1 : SameX X0.g ({ g with m := { g.m with begun := true } } : GEnd) := ⟨hs.ulim, hs.usz, hs.utab, hs.umost, hs.bbytes, hs.heads⟩
 have hs2 := hs1.of_bare h1
 have hn2 := hn.trans h2
 have hb : (X0.to g1).bare = (X0.to g).begin.bare := by
  unfold GX.bare GX.begin GX.to
  simp only
  rw [crude_of_bare h1]
 refine ⟨h0.next hn2 hs2, hs2, hn2, hb, ?_⟩
 have hob : OkG (X0.to g).begin.g := ⟨GoodG.begin (X := X0.to g) ho.good, ho.calm.st, ho.calm.res, (fun e => by cases e), ho.calm.their, ho.calm.told, ho.calm.out, ho.calm.next⟩
 exact hob.of_bare (X := (X0.to g).begin) (Y := X0.to g1) hb.symm
theorem ahead_out {w1 w' : World} {g1 : GEnd} {r r' : ResX} {e : Ending} (h0 : InvX w0 eb mb X0) (hn : Next w0 w eb mb X0.g g) (hs : SameX X0.g g) (ho : OkG g) (ha : Ahead w w1 eb mb g g1) (hr : r'.bare = r.bare) (h : Outc w1 eb mb (X0.to g1) (X0.to g1) r' e w') : Outc w0 eb mb X0 (X0.to g) r e w' := by
 obtain ⟨h1, h2, h3, h4, h5⟩ := ahead_X h0 hn hs ho ha
 refine outc_pre h h1 hr fun c => ?_
 rw [bare_died, h4, ← bare_died]
 rfl
end
theorem kinds (k : Int) (hk : 0 ≤ k) : k = 0 ∨ k = 1 ∨ k = 2 ∨ k = 3 ∨ k = 4 ∨ k = 5 ∨ k = 6 ∨ k = 7 ∨ 8 ≤ k := by omega
theorem x_come (eb mb : Nat) (X0 : GX) (g : GEnd) (f : Fr) (bv cv : Value) (w0 w : World) (h0 : InvX w0 eb mb X0) (hn : Next w0 w eb mb X0.g g) (hs : SameX X0.g g) (ho : OkG g) (hf : FrOk f) (hgl : Gl w0) (hge : ∀ j, j < 7 → ¬ FootX eb mb X0 j)
  (hbv : w.ownsRow 0 5 1 bv f.body.length (f.body.map B)) (hbn : ∀ j, bv.ownBlock = some j → ¬ Foot eb mb g j) (hb0 : ∀ j, bv.ownBlock = some j → w0.heap.size ≤ j) (hcv : f.kind = 0 → ContV f.flags bv cv f.body) :
  Calls Tryz.prog 69 #[.pointer (some ⟨eb, 0, none⟩), frV f.kind f.flags f.stream bv cv f.body] w fun e w' => Outc w0 eb mb X0 (X0.to g) ((X0.to g).come f) e w' := by
 obtain ⟨k, fl, n, b⟩ := f
 obtain ⟨sv, cb, hsv⟩ := slice_len hbv
 have hbl : b.length ≤ 64 := hf.len
 simp only at hsv hbv hcv
 subst hsv
 have hfl := hf.flags
 have hfl2 : 0 ≤ fl ∧ fl < 256 := by have := hfl; simp only at this; omega
 have hL := ho.few
 have hnX := h0.next hn hs
 have hby := bytesIn_of_owns hbv rfl
 -- out of turn
 have hout : ∀ (t : TypeId) (x : Value) (ot : Bool) (go : Int), (∀ w, Calls Tryz.prog 126 #[.iface t x] w fun e w' => e = .returned (.bool ot) ∧ Below w.heap.size w w') → (∀ w, Calls Tryz.prog 127 #[.iface t x] w fun e w' => e = .returned (.int .i64 go) ∧ Below w.heap.size w w') → (decide (k = 3) && !hasB fl 1) = ot → (if k = 7 then n else 0) = go →
   (Calls Tryz.prog 69 #[.pointer (some ⟨eb, 0, none⟩), .iface t x] w fun e w' => Outc w0 eb mb X0 (X0.to g) ((X0.to g).come ⟨k, fl, n, b⟩) e w') ∨ (g.m.turn ot go = true ∧ Calls Tryz.prog 94 #[.pointer (some ⟨eb, 0, none⟩), .iface t x] w fun e w' => e = .returned (.tuple #[]) ∧ Below w.heap.size w w') := fun t x ot go h1 h2 e1 e2 => by
  have hct := checkTurnX eb g.m t x ot go w hn.inv.en h1 h2
  cases htr : g.m.turn ot go with
  | false =>
   rw [htr] at hct
   refine Or.inl ((come_turnX eb t x w hct).mono ?_)
   rintro e w' ⟨rfl, hb'⟩
   refine outc_no ?_ (DiesX.of (hnX.then_below hb') hL)
   unfold GX.come
   simp only
   rw [e1, e2, show (X0.to g).g.m.turn ot go = false from htr, if_pos rfl]
  | true =>
   rw [htr] at hct
   exact Or.inr ⟨rfl, hct⟩
 have hrest : ∀ {ot : Bool} {go : Int}, g.m.turn ot go = true → (decide (k = 3) && !hasB fl 1) = ot → (if k = 7 then n else 0) = go → ¬ ((X0.to g).g.m.turn (decide (k = 3) && !hasB fl 1) (if k = 7 then n else 0) = false) := fun {ot go} h1 e1 e2 e => by
  rw [e1, e2] at e
  rw [show (X0.to g).g.m.turn ot go = true from h1] at e
  cases e
 have hby1 : ∀ {w1 : World} {g1 : GEnd}, Ahead w w1 eb mb g g1 → BytesIn w1 (.slice sv b.length cb) b ∧ ∀ j, (Value.slice sv b.length cb).ownBlock = some j → ¬ Foot eb mb g1 j := fun {w1 g1} ha => ha.2.bytes hby hbn
 have hgl1 : ∀ {w1 : World} {g1 : GEnd}, NextX w0 w1 eb mb X0 (X0.to g1) → Gl w1 ∧ ∀ j, j < 7 → ¬ FootX eb mb (X0.to g1) j := fun {w1 g1} hx => ⟨hgl.chg hx.chg hge, fun j hj hfj => by
  rcases hx.grow j hfj with a | a
  ·exact hge j hj a
  ·have := hgl.lt; omega⟩
 rcases kinds k hf.kind.1 with rfl | rfl | rfl | rfl | rfl | rfl | rfl | rfl | h8
 ·
  obtain ⟨sc, cl, cc, hcc⟩ : ∃ sc cl cc, cv = .slice sc cl cc := by
   have := hcv rfl
   unfold ContV at this
   split at this
   ·obtain ⟨g', off, cap, -, o, h2, -⟩ := this
    exact ⟨_, _, _, h2⟩
   ·exact ⟨_, _, _, this⟩
  rw [show frV 0 fl n (.slice sv b.length cb) cv b = .iface 162 (.agg #[.int .i64 0, .int .i64 fl, .int .i64 n, .slice sv b.length cb, cv]) from by unfold frV; simp]
  subst hcc
  rcases hout 162 (.agg #[.int .i64 0, .int .i64 fl, .int .i64 n, .slice sv b.length cb, .slice sc cl cc]) false 0 (fun w => opensTalk_no _ _ w (by simp)) (fun w => goesOn_no _ _ w (by simp)) rfl rfl with hx | ⟨htr, hT⟩
  ·exact hx
  have e1 : (X0.to g).come ⟨0, fl, n, b⟩ = (X0.to g).begin.comeData fl n b := by unfold GX.come; rw [if_neg (hrest htr rfl rfl), if_pos rfl]
  rw [e1]
  refine comeK_data eb mb g w (RX w0 eb mb X0 ((X0.to g).begin.comeData fl n b)) (SX w0 eb mb X0 (X0.to g) ((X0.to g).begin.comeData fl n b)) (codeOf ((X0.to g).begin.comeData fl n b)) fl n sv b.length cb sc cl cc hn.inv hT ?_
  intro w1 g1 ha
  obtain ⟨a1, a2, a3, a4, a5⟩ := ahead_X h0 hn hs ho ha
  obtain ⟨b1, b2⟩ := hby1 ha
  refine (x_comeData (X := X0.to g1) fl n b sv cb _ a1.inv a5 hfl hbl hf.body b1 b2 (hcv rfl)).mono ?_
  intro e w' hx
  exact ahead_out h0 hn hs ho ha (by rw [← bare_comeData, a4, bare_comeData]) hx
 ·
  rw [show frV 1 fl n (.slice sv b.length cb) cv b = .iface 165 (.agg #[.int .i64 1, .int .i64 fl, .int .i64 n, .slice sv b.length cb, .slice sv b.length cb]) from by unfold frV; simp]
  rcases hout 165 (.agg #[.int .i64 1, .int .i64 fl, .int .i64 n, .slice sv b.length cb, .slice sv b.length cb]) false 0 (fun w => opensTalk_no _ _ w (by simp)) (fun w => goesOn_no _ _ w (by simp)) rfl rfl with hx | ⟨htr, hT⟩
  ·exact hx
  have e1 : (X0.to g).come ⟨1, fl, n, b⟩ = (X0.to g).begin.comeHeaders fl n b := by unfold GX.come; rw [if_neg (hrest htr rfl rfl), if_neg (by simp), if_pos rfl]
  rw [e1]
  refine comeK_headers eb mb g w (RX w0 eb mb X0 ((X0.to g).begin.comeHeaders fl n b)) (SX w0 eb mb X0 (X0.to g) ((X0.to g).begin.comeHeaders fl n b)) (codeOf ((X0.to g).begin.comeHeaders fl n b)) fl n sv b.length cb hn.inv hT ?_
  intro w1 g1 ha
  obtain ⟨a1, a2, a3, a4, a5⟩ := ahead_X h0 hn hs ho ha
  obtain ⟨b1, b2⟩ := hby1 ha
  obtain ⟨c1, c2⟩ := hgl1 a1
  refine (x_comeHeaders (X := X0.to g1) fl n b sv cb a1.inv a5 c1 c2 hfl (hf.pos (Or.inr (Or.inl rfl))) b1 hbl).mono ?_
  intro e w' hx
  exact ahead_out h0 hn hs ho ha (by rw [← bare_comeHeaders, a4, bare_comeHeaders]) hx
 ·
  rw [show frV 2 fl n (.slice sv b.length cb) cv b = .iface 170 (.agg #[.int .i64 2, .int .i64 fl, .int .i64 n, .slice sv b.length cb]) from by unfold frV; simp]
  rcases hout 170 (.agg #[.int .i64 2, .int .i64 fl, .int .i64 n, .slice sv b.length cb]) false 0 (fun w => opensTalk_no _ _ w (by simp)) (fun w => goesOn_no _ _ w (by simp)) rfl rfl with hx | ⟨htr, hT⟩
  ·exact hx
  have e1 : (X0.to g).come ⟨2, fl, n, b⟩ = (X0.to g).begin.comeReset n := by unfold GX.come; rw [if_neg (hrest htr rfl rfl), if_neg (by simp), if_neg (by simp), if_pos rfl]
  rw [e1]
  refine comeK_reset eb mb g w (RX w0 eb mb X0 ((X0.to g).begin.comeReset n)) (SX w0 eb mb X0 (X0.to g) ((X0.to g).begin.comeReset n)) (codeOf ((X0.to g).begin.comeReset n)) fl n sv b.length cb hn.inv hT ?_
  intro w1 g1 ha
  obtain ⟨a1, a2, a3, a4, a5⟩ := ahead_X h0 hn hs ho ha
  refine (x_comeReset (X := X0.to g1) fl n sv b.length cb a1.inv a5).mono ?_
  intro e w' hx
  exact ahead_out h0 hn hs ho ha (by rw [← bare_comeReset, a4, bare_comeReset]) hx
 ·
  have hz : n = 0 := hf.zero (Or.inl rfl)
  subst hz
  rw [show frV 3 fl 0 (.slice sv b.length cb) cv b = .iface 173 (.agg #[.int .i64 3, .int .i64 fl, .int .i64 0, .slice sv b.length cb, .int .i64 (if hasB fl 1 then 0 else num4 b)]) from by unfold frV; simp]
  rcases hout 173 (.agg #[.int .i64 3, .int .i64 fl, .int .i64 0, .slice sv b.length cb, .int .i64 (if hasB fl 1 then 0 else num4 b)]) (!hasB fl 1) 0 (fun w => opensTalk_set 3 fl 0 sv b.length cb _ w hfl2.1 hfl2.2) (fun w => goesOn_no _ _ w (by simp)) rfl rfl with hx | ⟨htr, hT⟩
  ·exact hx
  have e1 : (X0.to g).come ⟨3, fl, 0, b⟩ = (X0.to g).begin.comeSettings fl b := by unfold GX.come; rw [if_neg (hrest htr rfl rfl), if_neg (by simp), if_neg (by simp), if_neg (by simp), if_pos rfl]
  rw [e1]
  refine comeK_settings eb mb g w (RX w0 eb mb X0 ((X0.to g).begin.comeSettings fl b)) (SX w0 eb mb X0 (X0.to g) ((X0.to g).begin.comeSettings fl b)) (codeOf ((X0.to g).begin.comeSettings fl b)) fl 0 sv b.length cb _ hn.inv hT ?_
  intro w1 g1 ha
  obtain ⟨a1, a2, a3, a4, a5⟩ := ahead_X h0 hn hs ho ha
  refine (x_comeSettings (X := X0.to g1) fl b sv b.length cb a1.inv a5 hfl (fun e => hf.num (Or.inl ⟨rfl, e⟩))).mono ?_
  intro e w' hx
  exact ahead_out h0 hn hs ho ha (by rw [← bare_comeSettings, a4, bare_comeSettings]) hx
 ·
  have hz : n = 0 := hf.zero (Or.inr (Or.inl rfl))
  subst hz
  rw [show frV 4 fl 0 (.slice sv b.length cb) cv b = .iface 176 (.agg #[.int .i64 4, .int .i64 fl, .int .i64 0, .slice sv b.length cb, .int .u32 (num4 b)]) from by unfold frV; simp]
  rcases hout 176 (.agg #[.int .i64 4, .int .i64 fl, .int .i64 0, .slice sv b.length cb, .int .u32 (num4 b)]) false 0 (fun w => opensTalk_no _ _ w (by simp)) (fun w => goesOn_no _ _ w (by simp)) rfl rfl with hx | ⟨htr, hT⟩
  ·exact hx
  have e1 : (X0.to g).come ⟨4, fl, 0, b⟩ = (X0.to g).begin.comePing fl b := by unfold GX.come; rw [if_neg (hrest htr rfl rfl), if_neg (by simp), if_neg (by simp), if_neg (by simp), if_neg (by simp), if_pos rfl]
  rw [e1]
  refine comeK_ping eb mb g w (RX w0 eb mb X0 ((X0.to g).begin.comePing fl b)) (SX w0 eb mb X0 (X0.to g) ((X0.to g).begin.comePing fl b)) (codeOf ((X0.to g).begin.comePing fl b)) fl 0 sv b.length cb _ hn.inv hT ?_
  intro w1 g1 ha
  obtain ⟨a1, a2, a3, a4, a5⟩ := ahead_X h0 hn hs ho ha
  cases hak : hasB fl 1 with
  | true =>
   refine (x_comePong (X := X0.to g1) fl b sv b.length cb a1.inv a5 hfl hak).mono ?_
   intro e w' hx
   exact ahead_out h0 hn hs ho ha (by rw [← bare_comePing, a4, bare_comePing]) hx
  | false =>
   obtain ⟨b1, b2⟩ := hby1 ha
   have hown : w1.ownsRow 0 5 1 (.slice sv b.length cb) b.length (b.map B) := owns_chg hbv ha.2.chg hbn
   refine (x_comePing (g := g1) fl b sv cb h0 a3 a2 a5 hfl hak hown b2 hb0).mono ?_
   intro e w' hx
   refine outc_pre hx (NextX.refl h0) (by rw [← bare_comePing, a4, bare_comePing]) fun c => ?_
   rw [bare_died, a4, ← bare_died]
   rfl
 ·
  rw [show frV 5 fl n (.slice sv b.length cb) cv b = .iface 178 (.agg #[.int .i64 5, .int .i64 fl, .int .i64 n, .slice sv b.length cb]) from by unfold frV; simp]
  rcases hout 178 (.agg #[.int .i64 5, .int .i64 fl, .int .i64 n, .slice sv b.length cb]) false 0 (fun w => opensTalk_no _ _ w (by simp)) (fun w => goesOn_no _ _ w (by simp)) rfl rfl with hx | ⟨htr, hT⟩
  ·exact hx
  have e1 : (X0.to g).come ⟨5, fl, n, b⟩ = .inl ((X0.to g).begin.died 7) := by unfold GX.come; rw [if_neg (hrest htr rfl rfl), if_neg (by simp), if_neg (by simp), if_neg (by simp), if_neg (by simp), if_neg (by simp), if_pos rfl]
  rw [e1]
  refine comeK_goaway eb mb g w (RX w0 eb mb X0 (.inl ((X0.to g).begin.died 7))) (SX w0 eb mb X0 (X0.to g) (.inl ((X0.to g).begin.died 7))) (codeOf (.inl ((X0.to g).begin.died 7))) fl n sv b.length cb hn.inv hT ?_
  intro w1 g1 ha
  obtain ⟨a1, a2, a3, a4, a5⟩ := ahead_X h0 hn hs ho ha
  refine (die_X w0 w1 eb mb X0 (X0.to g1) w1 g1.m 7 ⟨a1, a1.inv.inv.en, rfl, Chg.refl _ _, a5.few⟩).mono ?_
  rintro e w' ⟨rfl, X', q1, q2, q3, -⟩
  refine outc_ok (X := X0.to g) rfl ?_ q3
  rw [q1, bare_died, a4, ← bare_died]
 ·
  rw [show frV 6 fl n (.slice sv b.length cb) cv b = .iface 179 (.agg #[.int .i64 6, .int .i64 fl, .int .i64 n, .slice sv b.length cb, .int .i64 (num4 b)]) from by unfold frV; simp]
  rcases hout 179 (.agg #[.int .i64 6, .int .i64 fl, .int .i64 n, .slice sv b.length cb, .int .i64 (num4 b)]) false 0 (fun w => opensTalk_no _ _ w (by simp)) (fun w => goesOn_no _ _ w (by simp)) rfl rfl with hx | ⟨htr, hT⟩
  ·exact hx
  have e1 : (X0.to g).come ⟨6, fl, n, b⟩ = (X0.to g).begin.comeCredit n b := by unfold GX.come; rw [if_neg (hrest htr rfl rfl), if_neg (by simp), if_neg (by simp), if_neg (by simp), if_neg (by simp), if_neg (by simp), if_neg (by simp), if_pos rfl]
  rw [e1]
  refine comeK_credit eb mb g w (RX w0 eb mb X0 ((X0.to g).begin.comeCredit n b)) (SX w0 eb mb X0 (X0.to g) ((X0.to g).begin.comeCredit n b)) (codeOf ((X0.to g).begin.comeCredit n b)) fl n sv b.length cb _ hn.inv hT ?_
  intro w1 g1 ha
  obtain ⟨a1, a2, a3, a4, a5⟩ := ahead_X h0 hn hs ho ha
  refine (x_comeCredit (X := X0.to g1) fl n b sv b.length cb a1.inv a5 (hf.num (Or.inr rfl))).mono ?_
  intro e w' hx
  exact ahead_out h0 hn hs ho ha (by rw [← bare_comeCredit, a4, bare_comeCredit]) hx
 ·
  rw [show frV 7 fl n (.slice sv b.length cb) cv b = .iface 167 (.agg #[.int .i64 7, .int .i64 fl, .int .i64 n, .slice sv b.length cb, .slice sv b.length cb]) from by unfold frV; simp]
  rcases hout 167 (.agg #[.int .i64 7, .int .i64 fl, .int .i64 n, .slice sv b.length cb, .slice sv b.length cb]) false n (fun w => opensTalk_no _ _ w (by simp)) (fun w => goesOn_yes 7 fl n sv b.length cb w) rfl rfl with hx | ⟨htr, hT⟩
  ·exact hx
  have e1 : (X0.to g).come ⟨7, fl, n, b⟩ = (X0.to g).begin.comePiece n g.m.blast X0.ub b (hasB fl 4) := by unfold GX.come; rw [if_neg (hrest htr rfl rfl), if_neg (by simp), if_neg (by simp), if_neg (by simp), if_neg (by simp), if_neg (by simp), if_neg (by simp), if_neg (by simp), if_pos rfl]; rfl
  rw [e1]
  have hp := hf.pos (Or.inr (Or.inr (Or.inr rfl)))
  obtain ⟨hbg, hbs⟩ : g.m.begun = true ∧ g.m.bstream = n := by
   unfold EndM.turn at htr
   simp at htr
   exact ⟨htr.1, htr.2.symm⟩
  refine come2_continue eb mb g w (RX w0 eb mb X0 ((X0.to g).begin.comePiece n g.m.blast X0.ub b (hasB fl 4))) (SX w0 eb mb X0 (X0.to g) ((X0.to g).begin.comePiece n g.m.blast X0.ub b (hasB fl 4))) (codeOf ((X0.to g).begin.comePiece n g.m.blast X0.ub b (hasB fl 4))) fl n sv b.length cb hn.inv hbs hbg hfl ?_
  intro w1 g1 ha
  obtain ⟨a1, a2, a3, a4, a5⟩ := ahead_X h0 hn hs ho ha
  obtain ⟨b1, b2⟩ := hby1 ha
  obtain ⟨c1, c2⟩ := hgl1 a1
  have ebb : g.m.bbytes = g1.m.bbytes := hs.bbytes.trans a2.bbytes.symm
  have hmm : (X0.to g1).g.crude.m = (X0.to g).begin.g.crude.m := congrArg (fun x : GX => x.g.m) a4
  have e2 : g1.m.bstream = n := by have := congrArg EndM.bstream hmm; exact (show g1.m.bstream = g.m.bstream from this).trans hbs
  obtain ⟨d1, d2, d3⟩ := a5.good.blk (by rw [e2]; have := hp.1; simp only at this; omega)
  rw [e2] at d1 d2
  refine (x_comePiece (X := X0.to g1) n g.m.blast g.m.bbytes X0.ub b (hasB fl 4) sv cb a1.inv a5 c1 c2 hp d1 d2 (by rw [ebb]; exact a1.inv.bb) (fun j hj => by rw [ebb] at hj; exact hj) b1 h0.b700 hbl).mono ?_
  intro e w' hx
  exact ahead_out h0 hn hs ho ha (by rw [← bare_comePiece, a4, bare_comePiece]) hx
 ·
  rw [show frV k fl n (.slice sv b.length cb) cv b = .iface 181 (.agg #[.int .i64 k, .int .i64 fl, .int .i64 n, .slice sv b.length cb]) from by
   unfold frV
   rw [if_neg (by omega), if_neg (by omega), if_neg (by omega), if_neg (by omega), if_neg (by omega), if_neg (by omega), if_neg (by omega), if_neg (by omega)]]
  have d3 : (decide (k = 3) && !hasB fl 1) = false := by rw [show decide (k = 3) = false from by simp; omega]; rfl
  have d7 : (if k = 7 then n else 0) = 0 := if_neg (by omega)
  rcases hout 181 (.agg #[.int .i64 k, .int .i64 fl, .int .i64 n, .slice sv b.length cb]) false 0 (fun w => opensTalk_no _ _ w (by simp)) (fun w => goesOn_no _ _ w (by simp)) d3 d7 with hx | ⟨htr, hT⟩
  ·exact hx
  have e1 : (X0.to g).come ⟨k, fl, n, b⟩ = .inl (X0.to g).begin := by unfold GX.come; rw [if_neg (hrest htr d3 d7)]; simp only; rw [if_neg (by omega), if_neg (by omega), if_neg (by omega), if_neg (by omega), if_neg (by omega), if_neg (by omega), if_neg (by omega), if_neg (by omega)]
  rw [e1]
  refine comeK_other eb mb g w (RX w0 eb mb X0 (.inl (X0.to g).begin)) (SX w0 eb mb X0 (X0.to g) (.inl (X0.to g).begin)) (codeOf (.inl (X0.to g).begin)) fl n sv b.length cb k hn.inv hT ?_
  intro w1 g1 ha
  obtain ⟨a1, a2, a3, a4, a5⟩ := ahead_X h0 hn hs ho ha
  exact ⟨_, _, rfl, a4, a1⟩
end
section
theorem frV_iface (k f s : Int) (bv cv : Value) (l : List UInt8) : ∃ t x, frV k f s bv cv l = .iface t x := by
 unfold frV
 repeat' split
 all_goals exact ⟨_, _, rfl⟩
theorem SameX.got (g : GEnd) (l : List UInt8) : SameX g { g with got := l } := ⟨rfl, rfl, rfl, rfl, rfl, fun s hs => ⟨s, hs, rfl, rfl⟩⟩
theorem bare_gotX {X Y : GX} (h : X.bare = Y.bare) : X.g.got = Y.g.got := by
 have := congrArg (fun x : GX => x.g.got) h
 exact this
def ByteX (w : World) (eb mb : Nat) (X : GX) (c : UInt8) (e : Ending) (w' : World) : Prop :=
 (e = .returned (.tuple #[]) ∧ ∃ Y Y', X.byte c = .inl Y ∧ Y'.bare = Y.bare ∧ RdOk Y'.g ∧ NextX w w' eb mb X Y') ∨ (e = .panicked [{ v := .iface 41 (.int .i64 (codeOf (X.byte c))), recovered := false }] ∧ ∃ code, X.byte c = .inr code ∧ DiesX w w' eb mb X X code)
theorem greet_lt {k : Nat} (h : k < 7) : ∃ c, greetB[k]? = some c := by
 obtain rfl | rfl | rfl | rfl | rfl | rfl | rfl : k = 0 ∨ k = 1 ∨ k = 2 ∨ k = 3 ∨ k = 4 ∨ k = 5 ∨ k = 6 := by omega
 all_goals exact ⟨_, rfl⟩
set_option maxRecDepth 100000 in
set_option maxHeartbeats 1200000 in
theorem x_byte (eb mb : Nat) (X : GX) (c : UInt8) (w : World) (h : InvX w eb mb X) (hr : RdOk X.g) (ho : OkG X.g) (hgl : Gl w) (hge : ∀ j, j < 7 → ¬ FootX eb mb X j) :
  Calls Tryz.prog 55 #[.pointer (some ⟨eb, 0, none⟩), .int .u8 c.toNat] w fun e w' => ByteX w eb mb X c e w' := by
 have c24 := h.inv.en.c24
 have f24 := h.inv.en.fr 24
 have hlt := h.inv.en.lt
 have hgr := ho.good.m.greeted
 have hL := ho.few
 by_cases h7 : X.g.m.greeted < 7
 ·obtain ⟨k, hk⟩ : ∃ k : Nat, X.g.m.greeted = k := ⟨X.g.m.greeted.toNat, by omega⟩
  have hk7 : k < 7 := by omega
  obtain ⟨x, hx⟩ := greet_lt hk7
  by_cases hc : greetB[k]? = some c
  ·have hset : Chg (fun j => j = eb) w (w.setCell ⟨eb, 24, none⟩ (.int .i64 ((k : Int) + 1))) := chg_set (Chg.refl _ _) rfl
   have hn := h.inv.onEnd (S := fun j => j = eb) (m' := { X.g.m with greeted := (k : Int) + 1 }) (o' := X.g.out) (A' := X.g.ans) (R' := X.g.res) hset (fun j e => Or.inl e) (EnB.of (blk_set h.inv.en.blk) rfl) rfl rfl rfl (owns_chg h.inv.out hset (fun j hj e => by rw [e] at hj; exact owns_ne h.inv.out h.inv.en.blk (by decide) hj)) (fun j hj => Or.inl hj) h.inv.ans (fun _ h => h) (fun _ h => h) h.inv.res (fun _ h => h)
   have HEND : Hid (ByteX w eb mb X c (.returned (.tuple #[])) (w.setCell ⟨eb, 24, none⟩ (.int .i64 ((k : Int) + 1)))) := by
    refine Or.inl ⟨rfl, X.to { X.g with m := { X.g.m with greeted := X.g.m.greeted + 1 } }, X.to { X.g with m := { X.g.m with greeted := (k : Int) + 1 } }, ?_, by rw [hk], ⟨hr.got, hr.head⟩, h.next hn ⟨rfl, rfl, rfl, rfl, rfl, fun s hs => ⟨s, hs, rfl, rfl⟩⟩⟩
    unfold GX.byte
    rw [if_pos h7, if_pos (by rw [hk]; exact hc)]
   rw [hk] at c24
   clear h hr ho hgl hge hset hn hgr hL h7 hk hx
   obtain rfl | rfl | rfl | rfl | rfl | rfl | rfl : k = 0 ∨ k = 1 ∨ k = 2 ∨ k = 3 ∨ k = 4 ∨ k = 5 ∨ k = 6 := by omega
   all_goals
    simp only [greetB, List.getElem?_cons_zero, List.getElem?_cons_succ, Option.some.injEq] at hc
    subst hc
    clear hk7
    go_enter Tryz.func55, Tryz.ntmps55
    go_wp2
    refine bodyPost_ret (v := .tuple #[]) ?_ rfl HEND.out
    simp [results, Tryz.results55, go_sem]
  ·have HEND : Hid (ByteX w eb mb X c (faultE 9) w) := by
    have e1 : X.byte c = .inr 9 := by
     unfold GX.byte
     rw [if_pos h7, if_neg (by rw [hk]; exact hc)]
    exact Or.inr ⟨by rw [e1]; rfl, 9, e1, DiesX.of (NextX.refl h) hL⟩
   rw [hk] at c24
   have hne : ∀ y : UInt8, greetB[k]? = some y → ((c.toNat : Int) != (y.toNat : Int)) = true := fun y hy => by
    simp only [bne_iff_ne, ne_eq]
    intro e
    have e2 : c.toNat = y.toNat := by omega
    exact hc (by rw [hy, UInt8.toNat_inj.1 e2])
   clear h hr ho hgl hge hgr hL h7 hk hx hc
   obtain rfl | rfl | rfl | rfl | rfl | rfl | rfl : k = 0 ∨ k = 1 ∨ k = 2 ∨ k = 3 ∨ k = 4 ∨ k = 5 ∨ k = 6 := by omega
   ·have hn2 : ((c.toNat : Int) != (((⟨#[115, 108, 117, 105, 99, 101, 10]⟩ : ByteArray)[0]'(by decide)).toNat : Int)) = true := hne _ rfl
    clear hne hk7
    go_enter Tryz.func55, Tryz.ntmps55
    go_wp2
    exact ⟨rfl, HEND.out⟩
   ·have hn2 : ((c.toNat : Int) != (((⟨#[115, 108, 117, 105, 99, 101, 10]⟩ : ByteArray)[1]'(by decide)).toNat : Int)) = true := hne _ rfl
    clear hne hk7
    go_enter Tryz.func55, Tryz.ntmps55
    go_wp2
    exact ⟨rfl, HEND.out⟩
   ·have hn2 : ((c.toNat : Int) != (((⟨#[115, 108, 117, 105, 99, 101, 10]⟩ : ByteArray)[2]'(by decide)).toNat : Int)) = true := hne _ rfl
    clear hne hk7
    go_enter Tryz.func55, Tryz.ntmps55
    go_wp2
    exact ⟨rfl, HEND.out⟩
   ·have hn2 : ((c.toNat : Int) != (((⟨#[115, 108, 117, 105, 99, 101, 10]⟩ : ByteArray)[3]'(by decide)).toNat : Int)) = true := hne _ rfl
    clear hne hk7
    go_enter Tryz.func55, Tryz.ntmps55
    go_wp2
    exact ⟨rfl, HEND.out⟩
   ·have hn2 : ((c.toNat : Int) != (((⟨#[115, 108, 117, 105, 99, 101, 10]⟩ : ByteArray)[4]'(by decide)).toNat : Int)) = true := hne _ rfl
    clear hne hk7
    go_enter Tryz.func55, Tryz.ntmps55
    go_wp2
    exact ⟨rfl, HEND.out⟩
   ·have hn2 : ((c.toNat : Int) != (((⟨#[115, 108, 117, 105, 99, 101, 10]⟩ : ByteArray)[5]'(by decide)).toNat : Int)) = true := hne _ rfl
    clear hne hk7
    go_enter Tryz.func55, Tryz.ntmps55
    go_wp2
    exact ⟨rfl, HEND.out⟩
   ·have hn2 : ((c.toNat : Int) != (((⟨#[115, 108, 117, 105, 99, 101, 10]⟩ : ByteArray)[6]'(by decide)).toNat : Int)) = true := hne _ rfl
    clear hne hk7
    go_enter Tryz.func55, Tryz.ntmps55
    go_wp2
    exact ⟨rfl, HEND.out⟩
 ·have hg7 : X.g.m.greeted = 7 := by omega
  rw [hg7] at c24
  have hT := take_any eb 25 103 X.g.m.cells X.g.m.got X.g.got c w (h.inv.rdsg hr)
  have hby : X.byte c = match step X.g.got c with
   | .inl (.inl l) => .inl (X.to { X.g with got := l })
   | .inl (.inr f) => (X.to { X.g with got := [] }).come f
   | .inr code => .inr code := by
   unfold GX.byte
   rw [if_neg h7]
   cases step X.g.got c with
   | inl y => cases y <;> rfl
   | inr code => rfl
  cases hs : step X.g.got c with
  | inr code =>
   rw [hs] at hby
   have HT : Hid (Calls Tryz.prog 68 #[.pointer (some ⟨eb, 25, none⟩), .int .u8 c.toNat] w fun e w' => e = .panicked [{ v := .iface 41 (.int .i64 code), recovered := false }] ∧ ByteX w eb mb X c (.panicked [{ v := .iface 41 (.int .i64 code), recovered := false }]) w') := by
    refine hT.mono ?_
    rintro e w' (⟨g1, cs', gv', h1, -⟩ | ⟨code', h1, h2, h3⟩ | ⟨f, bv, cv, cs', gv', h1, -⟩)
    ·rw [hs] at h1; cases h1
    ·rw [hs] at h1
     simp only [Sum.inr.injEq] at h1
     subst h1
     exact ⟨h2, Or.inr ⟨by rw [hby]; rfl, code, hby, h.onGave hL h3⟩⟩
    ·rw [hs] at h1; cases h1
   clear h hr ho hgl hge hT hs hgr hL h7 hg7 hby
   go_enter Tryz.func55, Tryz.ntmps55
   go_wp2_with fail
   refine HT.out.mono ?_
   rintro e w' ⟨rfl, hx⟩
   have HX := hide hx
   clear hx
   go_wp2
   exact ⟨rfl, HX.out⟩
  | inl y =>
   cases y with
   | inl l =>
    rw [hs] at hby
    have HT : Hid (Calls Tryz.prog 68 #[.pointer (some ⟨eb, 25, none⟩), .int .u8 c.toNat] w fun e w' => e = .returned (.tuple #[.nilIface, .bool false]) ∧ ByteX w eb mb X c (.returned (.tuple #[])) w') := by
     refine hT.mono ?_
     rintro e w' (⟨g1, cs', gv', h1, h2, h3⟩ | ⟨code, h1, -⟩ | ⟨f, bv, cv, cs', gv', h1, -⟩)
     ·rw [hs] at h1
      simp only [Sum.inl.injEq] at h1
      subst h1
      obtain ⟨g2, e1, e2, e3, -⟩ := h.inv.onGot h3
      refine ⟨h2, Or.inl ⟨rfl, _, X.to g2, hby, ?_, e2, h.next e3 ((SameX.got _ _).of_bare e1)⟩⟩
      unfold GX.bare GX.to
      simp only
      rw [crude_of_bare e1]
     ·rw [hs] at h1; cases h1
     ·rw [hs] at h1; cases h1
    clear h hr ho hgl hge hT hs hgr hL h7 hg7 hby
    go_enter Tryz.func55, Tryz.ntmps55
    go_wp2_with fail
    refine HT.out.mono ?_
    rintro e w' ⟨rfl, hx⟩
    have HX := hide hx
    clear hx
    go_wp2
    exact bodyPost_end (results_none rfl _ _ _) rfl HX.out
   | inr f =>
    rw [hs] at hby
    have HT : Hid (Calls Tryz.prog 68 #[.pointer (some ⟨eb, 25, none⟩), .int .u8 c.toNat] w fun e w' => ∃ bv cv, e = .returned (.tuple #[frV f.kind f.flags f.stream bv cv f.body, .bool true]) ∧ Calls Tryz.prog 69 #[.pointer (some ⟨eb, 0, none⟩), frV f.kind f.flags f.stream bv cv f.body] w' fun e w'' => (e = .returned (.tuple #[]) ∧ ByteX w eb mb X c (.returned (.tuple #[])) w'') ∨ (e = .panicked [{ v := .iface 41 (.int .i64 (codeOf (X.byte c))), recovered := false }] ∧ ByteX w eb mb X c (.panicked [{ v := .iface 41 (.int .i64 (codeOf (X.byte c))), recovered := false }]) w'')) := by
     refine hT.mono ?_
     rintro e w' (⟨g1, cs', gv', h1, -⟩ | ⟨code, h1, -⟩ | ⟨f', bv, cv, cs', gv', h1, h2, h3, h4, h5, h6, h7⟩)
     ·rw [hs] at h1; cases h1
     ·rw [hs] at h1; cases h1
     ·rw [hs] at h1
      simp only [Sum.inl.injEq, Sum.inr.injEq] at h1
      subst h1
      refine ⟨bv, cv, h2, ?_⟩
      obtain ⟨g2, e1, e2, e3, e4⟩ := h.inv.onGot h6
      have hbn : ∀ j, bv.ownBlock = some j → ¬ Foot eb mb g2 j := fun j hj hf => by
       rcases e4 j hf with a | a
       ·have := Foot.lt h.inv a; have := h5 j hj; omega
       ·exact h7 j hj a
      have hb2 : (X.to g2).bare = (X.to { X.g with got := [] }).bare := by
       unfold GX.bare GX.to
       simp only
       rw [crude_of_bare e1]
      have ho1 : OkG (X.to { X.g with got := [] }).g := ⟨⟨ho.good.m, ho.good.sum, ho.good.rise, ho.good.here, ho.good.there, ho.good.blk, ho.good.nn, ho.good.st, ho.good.cls, ho.good.ans, ho.good.alen, ho.good.res⟩, ho.calm.st, ho.calm.res, ho.calm.first, ho.calm.their, ho.calm.told, ho.calm.out, ho.calm.next⟩
      have ho2 : OkG g2 := ho1.of_bare (X := X.to { X.g with got := [] }) (Y := X.to g2) hb2.symm
      refine (x_come eb mb X g2 f bv cv w w' h e3 ((SameX.got _ _).of_bare e1) ho2 (step_ok hr.got hs) hgl hge h4 hbn h5 h3).mono ?_
      have hcm : ((X.to g2).come f).bare = (X.byte c).bare := by rw [hby, ← bare_come, hb2, bare_come]
      intro e w'' hx
      rcases hx with ⟨rfl, Y, Y', q1, q2, q3⟩ | ⟨rfl, code, q1, q2⟩
      ·refine Or.inl ⟨rfl, Or.inl ?_⟩
       rw [q1] at hcm
       cases hz : X.byte c with
       | inr code => rw [hz] at hcm; cases hcm
       | inl Z =>
        rw [hz] at hcm
        have hcm : Y.bare = Z.bare := by simpa [ResX.bare] using hcm
        refine ⟨rfl, Z, Y', rfl, q2.trans hcm, RdOk.nil ?_, q3⟩
        have h8 : Z.g.got = [] := come_got (X := X.to { X.g with got := [] }) rfl (hby.symm.trans hz)
        rw [bare_gotX (q2.trans hcm)]; exact h8
      ·rw [q1] at hcm
       cases hz : X.byte c with
       | inl Z => rw [hz] at hcm; cases hcm
       | inr code' =>
        rw [hz] at hcm
        have hcm : code = code' := by simpa [ResX.bare] using hcm
        subst hcm
        refine Or.inr ⟨by rw [q1], Or.inr ⟨by rw [hz], code, hz, q2.as ?_⟩⟩
        rw [bare_died, hb2, ← bare_died]
        rfl
    clear h hr ho hgl hge hT hs hgr hL h7 hg7 hby
    go_enter Tryz.func55, Tryz.ntmps55
    go_wp2_with fail
    refine HT.out.mono ?_
    rintro e w' ⟨bv, cv, rfl, hx⟩
    have HX := hide hx
    clear hx
    obtain ⟨ty, x, hfv⟩ := frV_iface f.kind f.flags f.stream bv cv f.body
    rw [hfv] at HX ⊢
    go_wp2_with fail
    refine HX.out.mono ?_
    rintro e w'' (⟨rfl, hx⟩ | ⟨rfl, hx⟩)
    ·have HY := hide hx
     clear hx
     go_wp2
     exact bodyPost_end (results_none rfl _ _ _) rfl HY.out
    ·have HY := hide hx
     clear hx
     go_wp2
     exact ⟨rfl, HY.out⟩
end
section
theorem fed_cons (X : GX) (c : UInt8) (r : List UInt8) : X.fed (c :: r) = (X.fed1 c).fed r := rfl
theorem fed_bare {X Y : GX} (h : X.bare = Y.bare) (l : List UInt8) : (X.fed l).bare = (Y.fed l).bare := by rw [← bare_fed, h, bare_fed]
theorem fed_off {X : GX} (h : X.g.m.fault ≠ 0) (l : List UInt8) : X.fed l = X := by
 induction l with
 | nil => rfl
 | cons c r ih =>
  show (X.fed1 c).fed r = X
  have : X.fed1 c = X := by unfold GX.fed1; rw [if_neg h]
  rw [this]; exact ih
theorem bare_fault {X Y : GX} (h : X.bare = Y.bare) : X.g.m.fault = Y.g.m.fault := by have := congrArg (fun x : GX => x.g.m.fault) h; exact this
theorem byte_code {X : GX} {c : UInt8} {code : Int} (h : X.byte c = .inr code) : code = 9 ∨ code = 10 ∨ code = 11 ∨ code = 12 ∨ code = 13 ∨ code = 14 := by
 have hbc : ∀ k f b, bodyCode k f b = 0 ∨ bodyCode k f b = 9 := fun k f b => by
  unfold bodyCode
  repeat' split
  all_goals first
   | exact Or.inl rfl
   | exact padCode_cases _
   | (unfold numCode nCode; split <;> simp)
 unfold GX.byte at h
 split at h
 ·split at h
  ·cases h
  ·simp only [Sum.inr.injEq] at h; omega
 ·cases hs : step X.g.got c with
  | inr co =>
   rw [hs] at h
   simp only [Sum.inr.injEq] at h
   subst h
   unfold step at hs
   simp only at hs
   split at hs
   ·rename_i hx
    simp only [Sum.inr.injEq] at hs
    have := headCode_cases (hdOf (X.g.got ++ [c])).length (hdOf (X.g.got ++ [c])).kind (hdOf (X.g.got ++ [c])).flags (hdOf (X.g.got ++ [c])).stream
    unfold Hd.code at hs hx
    omega
   split at hs
   ·cases hs
   split at hs
   ·rename_i hx
    simp only [Sum.inr.injEq] at hs
    have := hbc (hdOf (X.g.got ++ [c])).kind (hdOf (X.g.got ++ [c])).flags ((X.g.got ++ [c]).drop 6)
    omega
   ·cases hs
  | inl y =>
   cases y with
   | inl l => rw [hs] at h; cases h
   | inr f =>
    rw [hs] at h
    simp only at h
    generalize (X.to { X.g with got := [] }) = Z at h
    have piece : ∀ {n bl l0 l la}, Z.begin.comePiece n bl l0 l la = .inr code → code = 13 := fun {n bl l0 l la} h => by
     unfold GX.comePiece at h
     repeat' split at h
     all_goals first
      | (cases h; done)
      | (simp only [Sum.inr.injEq] at h; omega)
    unfold GX.come at h
    generalize Z.g.m.turn (decide (f.kind = 3) && !hasB f.flags 1) (if f.kind = 7 then f.stream else 0) = tu at h
    split at h
    ·simp only [Sum.inr.injEq] at h; omega
    split at h
    ·unfold GX.comeData at h
     repeat' split at h
     all_goals first
      | (cases h; done)
      | (simp only [Sum.inr.injEq] at h; omega)
    split at h
    ·unfold GX.comeHeaders at h
     split at h
     ·simp only [Sum.inr.injEq] at h; omega
     ·have := piece h; omega
    split at h
    ·unfold GX.comeReset at h
     repeat' split at h
     all_goals first
      | (cases h; done)
      | (simp only [Sum.inr.injEq] at h; omega)
    split at h
    ·unfold GX.comeSettings at h
     repeat' split at h
     all_goals first
      | (cases h; done)
      | (simp only [Sum.inr.injEq] at h; omega)
    split at h
    ·unfold GX.comePing at h
     repeat' split at h
     all_goals first
      | (cases h; done)
      | (simp only [Sum.inr.injEq] at h; omega)
    split at h
    ·cases h
    split at h
    ·unfold GX.comeCredit at h
     repeat' split at h
     all_goals first
      | (cases h; done)
      | (simp only [Sum.inr.injEq] at h; omega)
    split at h
    ·have := piece h; omega
    ·cases h
def SoundX (X : GX) : Prop := X.g.m.fault = 0 → OkG X.g
theorem SoundX.of_bare {X Y : GX} (h : SoundX X) (e : X.bare = Y.bare) : SoundX Y := fun hf => (h (by rw [bare_fault e]; exact hf)).of_bare e
def FeedX (w : World) (eb mb : Nat) (X Q : GX) (e : Ending) (w' : World) : Prop :=
 (e = .returned (.tuple #[]) ∧ ∃ Y', Y'.bare = Q.bare ∧ RdOk Y'.g ∧ NextX w w' eb mb X Y') ∨ (e = .panicked [{ v := .iface 41 (.int .i64 Q.g.m.fault), recovered := false }] ∧ ∃ Z, (Z.died Q.g.m.fault).bare = Q.bare ∧ DiesX w w' eb mb X Z Q.g.m.fault)
set_option maxRecDepth 100000 in
set_option maxHeartbeats 1200000 in
theorem x_feedI (eb mb : Nat) (X : GX) (bv : Value) (l : List UInt8) (w : World) (h : InvX w eb mb X) (hr : RdOk X.g) (ho : SoundX X) (hgl : Gl w) (hge : ∀ j, j < 7 → ¬ FootX eb mb X j) (hb : BytesIn w bv l) (hbn : ∀ j, bv.ownBlock = some j → ¬ FootX eb mb X j) (hl : l.length ≤ 4611686018427387904) :
  Calls Tryz.prog 33 #[.pointer (some ⟨eb, 0, none⟩), bv] w fun e w' => FeedX w eb mb X (X.fed l) e w' := by
 obtain ⟨sv, cv, hv, -⟩ := bytesIn_len hb
 subst hv
 have H := hide h
 have HR := hide hr
 have HO := hide ho
 have HGL := hide hgl
 have HGE := hide hge
 have HB := hide hb
 have HBN := hide hbn
 clear h hr ho hgl hge hb hbn
 go_enter Tryz.func33, Tryz.ntmps33
 go_wp2
 go_loopw [8] (fun i wr => ∃ (k : Nat) (wv : World) (c : GX), wv = wr ∧ i = .int .i64 (k : Int) ∧ k ≤ l.length ∧ NextX w wv eb mb X c ∧ RdOk c.g ∧ SoundX c ∧ (c.fed (l.drop k)).bare = (X.fed l).bare) (fun i _ => l.length - (intOf i).toNat)
 case atStart => exact ⟨0, _, X, rfl, rfl, Nat.zero_le _, NextX.refl H.out, HR.out, HO.out, rfl⟩
 case round =>
  obtain ⟨k, wv, c, hwv, rfl, hk, hnx, hrd, hso, hfe⟩ := hrel
  subst hwv
  by_cases hlk : k < l.length
  ·have hd := isDead_any eb c.g.m wv hnx.inv.inv.en
   have hbyt : BytesIn wv (.slice sv l.length cv) l := HB.out.chg hnx.chg HBN.out
   have hgl1 := HGL.out.chg hnx.chg HGE.out
   have hge1 : ∀ j, j < 7 → ¬ FootX eb mb c j := fun j hj hf => by
    rcases hnx.grow j hf with a | a
    ·exact HGE.out j hj a
    ·have := HGL.out.lt; omega
   by_cases hfa : c.g.m.fault = 0
   ·rw [show (!(c.g.m.fault == 0)) = false from by rw [hfa]; rfl] at hd
    have hi : Calls Tryz.prog 55 #[.pointer (some ⟨eb, 0, none⟩), .int .u8 (l.getD k 0).toNat] wv fun e w' => (e = .returned (.tuple #[]) ∧ ∃ c1, NextX w w' eb mb X c1 ∧ RdOk c1.g ∧ SoundX c1 ∧ (c1.fed (l.drop (k + 1))).bare = (X.fed l).bare) ∨ (e = .panicked [{ v := .iface 41 (.int .i64 (X.fed l).g.m.fault), recovered := false }] ∧ FeedX w eb mb X (X.fed l) (.panicked [{ v := .iface 41 (.int .i64 (X.fed l).g.m.fault), recovered := false }]) w') := by
     have hok := hso hfa
     refine (x_byte eb mb c (l.getD k 0) wv hnx.inv hrd hok hgl1 hge1).mono ?_
     intro e w' hx
     rw [drop_cons hlk, fed_cons] at hfe
     rcases hx with ⟨rfl, Y, Y', q1, q2, q3, q4⟩ | ⟨rfl, code, q1, q2⟩
     ·refine Or.inl ⟨rfl, Y', hnx.trans q4, q3, ?_, ?_⟩
      ·refine SoundX.of_bare (X := Y) (fun hf => ?_) q2.symm
       rcases ok_byte hok hrd.got q1 with a | a
       ·exact a
       ·exact absurd hf a
      ·have e1 : c.fed1 (l.getD k 0) = Y := by unfold GX.fed1; rw [if_pos hfa, q1]
       rw [e1] at hfe
       rw [fed_bare q2]; exact hfe
     ·have e1 : c.fed1 (l.getD k 0) = c.died code := by unfold GX.fed1; rw [if_pos hfa, q1]
      have hc0 : code ≠ 0 := by have := byte_code q1; omega
      rw [e1, fed_off (show (c.died code).g.m.fault ≠ 0 from hc0)] at hfe
      have hff : (X.fed l).g.m.fault = code := (bare_fault hfe).symm
      refine Or.inr ⟨by rw [hff, q1]; rfl, Or.inr ⟨rfl, c, by rw [hff]; exact hfe, by rw [hff]; exact q2.pre hnx⟩⟩
    rcases hbyt with ⟨-, h0⟩ | ⟨bb, off, cap, h1, h2, h3, h4⟩
    ·rw [h0] at hlk; simp at hlk
    ·simp only [Value.slice.injEq] at h1
     obtain ⟨rfl, _, rfl⟩ := h1
     have hcell := h4 k hlk
     have HI := hide hi
     have HD := hide hd
     generalize l.getD k 0 = cc at *
     clear hi hd hnx hfe hrd hgl1 hge1 h4 hfa hso
     go_wp2_with fail
     refine HD.out.mono ?_
     rintro e w' ⟨rfl, hw'⟩
     rw [hw']
     clear hw' w'
     go_wp2_with fail
     refine HI.out.mono ?_
     rintro e w1 (⟨rfl, hx⟩ | ⟨rfl, hx⟩)
     ·obtain ⟨c1, hn1, hr1, hs1, hf1⟩ := hx
      have HR1 := hide hr1
      have HN1 := hide hn1
      have HS1 := hide hs1
      have HF1 := hide hf1
      clear hr1 hn1 hs1 hf1
      go_wp2
      all_goals go_roundw
      case rel => exact ⟨k + 1, _, c1, rfl, by go_num, by omega, HN1.out, HR1.out, HS1.out, HF1.out⟩
      case measure => simp [intOf]; omega
     ·have HX := hide hx
      clear hx
      go_wp2
      exact ⟨rfl, HX.out⟩
   ·rw [show (!(c.g.m.fault == 0)) = true from by simp [hfa]] at hd
    rw [fed_off hfa] at hfe
    have HEND : Hid (FeedX w eb mb X (X.fed l) (.returned (.tuple #[])) wv) := Or.inl ⟨rfl, c, hfe, hrd, hnx⟩
    rcases hbyt with ⟨-, h0⟩ | ⟨bb, off, cap, h1, h2, h3, h4⟩
    ·rw [h0] at hlk; simp at hlk
    ·simp only [Value.slice.injEq] at h1
     obtain ⟨rfl, _, rfl⟩ := h1
     have hcell := h4 k hlk
     have HD := hide hd
     generalize l.getD k 0 = cc at *
     clear hd hnx hfe hrd hgl1 hge1 h4 hfa hso
     go_wp2_with fail
     refine HD.out.mono ?_
     rintro e w' ⟨rfl, hw'⟩
     rw [hw']
     clear hw' w'
     go_wp2
     exact bodyPost_ret (results_none rfl _ _ _) rfl HEND.out
  ·have hke : k = l.length := by omega
   rw [List.drop_of_length_le (by omega)] at hfe
   have HEND : Hid (FeedX w eb mb X (X.fed l) (.returned (.tuple #[])) wv) := Or.inl ⟨rfl, c, hfe, hrd, hnx⟩
   clear hnx hrd hfe hke hso
   go_wp2
   exact bodyPost_end (results_none rfl _ _ _) rfl HEND.out
end
end Go.Proofs.YtdccldbefdfppaaGreatDoor
