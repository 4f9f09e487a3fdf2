import Derived.Test.YtdccldbefdfppaaGreatDoorQLgData
import Derived.Test.YtdccldbefdfppaaGreatDoorQGav
import Derived.BigRegion
set_option linter.unusedVariables false
set_option linter.unusedSimpArgs false
/-
  Ledger: drained.
-/
namespace Go.Proofs.YtdccldbefdfppaaGreatDoor
set_option linter.unusedVariables false
set_option linter.unusedSimpArgs false
open Go.RowKit

section
variable {w w' : World} {eb : Nat} {F : Nat → Prop} {p : GEnd}
theorem c_takeG {p' : GEnd} {n : Int} (h : StE w eb F p) (hf : FineG p) (hg' : p'.got = []) (hl : p.m.fault = 0) (hr : RunsG n p p') (ho : p'.out.length ≤ 1073741824) :
    Calls Tryz.prog 19 #[.pointer (some ⟨eb, 0, none⟩), .int .i64 n] w fun e w' => (∃ s, e = .returned (.slice s (cutN n p'.out.length) (cutN n p'.out.length)) ∧ BytesIn w' (.slice s (cutN n p'.out.length) (cutN n p'.out.length)) (p'.out.take (cutN n p'.out.length)) ∧ ∀ j, (Value.slice s (cutN n p'.out.length) (cutN n p'.out.length)).ownBlock = some j → F j ∨ w.heap.size ≤ j) ∧ GoE w w' eb F { p' with out := p'.out.drop (cutN n p'.out.length) } := by
  obtain ⟨mb, g, hi, hrd, hp, hF⟩ := h
  have hf' : FineG g := FineG.of_bare (by rw [hp]; exact hf)
  have hl' : g.m.fault = 0 := by rw [← hp] at hl; exact hl
  refine (x_takeG eb mb g p' n w hi hf' hl' (by rw [hp]; exact hr) ho).mono ?_
  rintro e w' ⟨⟨s, h1, h2, h3⟩, g', h4, h5⟩
  exact ⟨⟨s, h1, h2, fun j hj => (h3 j hj).imp_left (hF j).2⟩, GoE.of hF h5 (RdOk.nil (bare_got h4 hg')) h4⟩
end
theorem SplitS.atL {w w' w2 : World} {S : Nat → Prop} {fs : List Fr} {v : Value} {ps : List (Fr × Value)} (h : SplitS w w' fs v ps) (hb : Chg S w' w2) (hx : ∀ j, S j → j < w.heap.size) (hno : ∀ p ∈ ps, ∀ j, p.2.ownBlock = some j → ¬ S j) {i : Nat} (hi : i < fs.length) : ∃ g c bv, v = .slice (some ⟨g, 0, none⟩) fs.length c ∧ fs.length ≤ c ∧ w2.cell? ⟨g, i * 4, none⟩ = some (.int .i64 fs[i].kind) ∧ w2.cell? ⟨g, i * 4 + 1, none⟩ = some (.int .i64 fs[i].flags) ∧ w2.cell? ⟨g, i * 4 + 2, none⟩ = some (.int .i64 fs[i].stream) ∧ w2.cell? ⟨g, i * 4 + 3, none⟩ = some bv ∧ BytesIn w2 bv fs[i].body := by
  have hlen : ps.length = fs.length := by rw [← h.fst, List.length_map]
  have hip : i < ps.length := by omega
  have hr := h.row
  have hfi : ps[i].1 = fs[i] := by
    have := h.fst
    subst this
    simp
  rcases hr.2 with ⟨-, h0⟩ | ⟨g, cap, cur, h1, h2, h3, h4, h5, h6, h7⟩
  · omega
  · have hl := lt_of_block h3
    have hgx : ¬ S g := fun e => by have := owns_ge h.row (j := g) (by rw [h1]; rfl); have := hx g e; omega
    have hblk : w2.heap[g]? = some (.cells cur 48 (0, 0)) := by rw [hb.block g hl hgx]; exact h3
    have hc : ∀ j, j < 4 → w2.cell? ⟨g, i * 4 + j, none⟩ = (spC ps[i])[j]? := fun j hj => by
      rw [cell_of_row _ _ _ _ _ _ hblk, ← spC_get hip hj, ← h7, List.getElem?_take, if_pos (by omega), Array.getElem?_toList]
    have q0 := hc 0 (by omega)
    rw [Nat.add_zero] at q0
    refine ⟨g, cap, ps[i].2, by rw [h1, hlen], by omega, ?_, ?_, ?_, ?_, ?_⟩
    · rw [q0, ← hfi]; rfl
    · rw [hc 1 (by omega), ← hfi]; rfl
    · rw [hc 2 (by omega), ← hfi]; rfl
    · rw [hc 3 (by omega)]; rfl
    · rw [← hfi]
      exact ((h.body ps[i] (List.getElem_mem hip)).chg (Chg.of_below (S := fun _ => False) h.bel) (fun _ _ => id)).chg hb (fun j hj e => hno _ (List.getElem_mem hip) j hj e)
theorem LFrs.head {a b : LAcc} {fs : List Fr} {n : Nat} (h : LFrs a (fs.drop n) b) (hn : n < fs.length) : ∃ z, LBd a ∧ LNum a ∧ LFr a fs[n] z ∧ LFrs z (fs.drop (n + 1)) b := by
  rw [List.drop_eq_getElem_cons hn] at h
  cases h using LFrs.ind with
  | cons h1 h2 h3 h4 => exact ⟨_, h1, h2, h3, h4⟩
theorem LFrs.fits {a b : LAcc} {fs : List Fr} (h : LFrs a fs b) : ∀ f ∈ fs, FrFits f := by
  induction h using LFrs.ind with
  | nil => intro f hf; cases hf
  | cons _ _ h1 _ ih =>
    intro f hf
    rcases List.mem_cons.1 hf with rfl | hf
    · exact h1.1
    · exact ih f hf
/-- Between two moves. -/
structure LCalm (a : LAcc) (p : GEnd) : Prop where
  rel : LRel a p
  out : p.out = []
  ans : p.ans = []
  told : ∀ s ∈ p.K, s.st.announced = true
set_option maxRecDepth 100000 in
set_option maxHeartbeats 40000000 in
theorem ldrained_ok (ab eb : Nat) (G : Nat → Prop) (a : LAcc) (p : GEnd) (w : World) (h : LS w ab eb G a p) (hr : LRel a p) (ho : p.out = []) (hA : p.ans.length ≤ 8) :
    Calls Tryz.prog 11 #[.pointer (some ⟨ab, 0, none⟩)] w fun e w' => e = .returned (.bool true) ∧ ∃ a' p', GoL w w' ab eb G a' p' ∧ LCalm a' p' := by
  obtain ⟨F, fv, hin, hG⟩ := h
  obtain ⟨fs, a', p', r1, r2, r3, r4, r5, r6, r7⟩ := LRel.run 1000 a p hr (hr.mu hA) (by rw [ho]; simp)
  rw [ho, List.nil_append] at r3
  have hol : (layFs fs).length ≤ 1073741824 := by rw [← r3]; exact r7
  obtain ⟨d1, d2, d3⟩ := r5.done r2
  have ht := c_takeG (n := 1099511627776) hin.st hr.fine (p' := p') r5.e.got hr.e.live r1 (by rw [r3]; exact hol)
  rw [r3, cutN_all hol, List.take_of_length_le (Nat.le_refl _), List.drop_of_length_le (Nat.le_refl _)] at ht
  have HT := hide ht
  have HSP : Hid (∀ w1 sv, BytesIn w1 (.slice sv (layFs fs).length (layFs fs).length) (layFs fs) → Calls Tryz.prog 22 #[.slice sv (layFs fs).length (layFs fs).length] w1 fun e w' => ∃ v ps, e = .returned (.tuple #[v, .bool true]) ∧ SplitS w1 w' fs v ps ∧ ∀ p ∈ ps, ∀ j, p.2.ownBlock = some j → (Value.slice sv (layFs fs).length (layFs fs).length).ownBlock = some j) := fun w1 sv hb => ksplit_all sv _ fs w1 r4.fits (by omega) hb
  have hx0 := hin.ac.c0
  have HI := hide hin
  have HG := hide hG
  have HL4 := hide r4
  have HR5 := hide (r5.out (o := []))
  have HD1 := hide d1
  have HCA : Hid (LCalm a' { p' with out := [] }) := ⟨r5.out, rfl, d2, d3⟩
  have HBD := hide r5.bd
  obtain ⟨P, hP⟩ : ∃ P, P = { p' with out := ([] : List UInt8) } := ⟨_, rfl⟩
  rw [← hP] at HT HR5 HCA
  clear hin hG hr ht r1 r2 r3 r4 r5 r7 hol d1 d2 d3 hP ho hA
  go_enter Tryz.func11, Tryz.ntmps11
  go_wp2_with fail
  refine HT.out.mono ?_
  rintro e w1 ⟨⟨sv, rfl, hby, hob⟩, hgo⟩
  obtain ⟨F1, hst1, hch1, hF1⟩ := hgo
  have hal := HI.out.alt
  have hin1 : LIn w1 ab eb F1 fv a P := ⟨HI.out.ac.chg hch1 HI.out.nf, HI.out.fl.chg hch1 HI.out.ff, hst1, fun hf => by
      rcases hF1 ab hf with b | b
      · exact HI.out.nf b
      · omega, fun j hj hf => by
      rcases hF1 j hf with b | b
      · exact HI.out.ff j hj b
      · have := HI.out.vlt hj; omega, HI.out.gl.chg hch1 HI.out.ge, HI.out.ga, HI.out.gv, fun j hf => by
      rcases hF1 j hf with b | b
      · exact HI.out.gf j b
      · have := HI.out.ga; omega⟩
  have HS1 := hide (HSP.out w1 sv hby)
  have HOB : Hid (∀ j, (Value.slice sv (layFs fs).length (layFs fs).length).ownBlock = some j → ¬ (j = ab ∨ fv.ownBlock = some j)) := fun j hj e => by
    rcases hob j hj with b | b
    · rcases e with e | e
      · rw [e] at b; exact HI.out.nf b
      · exact HI.out.ff j e b
    · rcases e with e | e
      · omega
      · have := HI.out.vlt e; omega
  have HIN1 := hide hin1
  have HCH1 := hide hch1
  have HF1 := hide hF1
  clear hby hob hin1 hch1 hF1 hx0 hst1 HSP HT
  generalize (layFs fs).length = LL at *
  go_wp2_with fail
  refine HS1.out.mono ?_
  rintro e w2 ⟨v, ps, rfl, hsp, hso⟩
  obtain ⟨vs, vc, hvs⟩ := slice_len hsp.row
  have hpl : ps.length = fs.length := by rw [← hsp.fst, List.length_map]
  subst hvs
  rw [hpl]
  have HNB : Hid (∀ p ∈ ps, ∀ j, p.2.ownBlock = some j → ¬ (j = ab ∨ fv.ownBlock = some j)) := fun p hp j hj => HOB.out j (hso p hp j hj)
  have HXL : Hid (∀ j, (j = ab ∨ fv.ownBlock = some j) → j < w1.heap.size) := fun j e => by
    rcases e with e | e
    · rw [e]; exact HIN1.out.alt
    · exact HIN1.out.vlt e
  have HIN2 := hide (HIN1.out.below hsp.bel)
  have HSPL := hide hsp
  have hfl : fs.length ≤ 1048576 := by omega
  clear hsp hso
  go_wp2
  go_loopw [5, 6] (fun ok ix wr => ∃ (n : Nat) (wv : World) (av : LAcc), wv = wr ∧ ok = .bool true ∧ ix = .int .i64 (n : Int) ∧ n ≤ fs.length ∧ LIn wv ab eb F1 fv av P ∧ LFrs av (fs.drop n) a' ∧ Chg (fun j => j = ab ∨ fv.ownBlock = some j) w2 wv) (fun _ ix _ => fs.length - (intOf ix).toNat)
  case atStart => exact ⟨0, _, a, rfl, rfl, rfl, Nat.zero_le _, HIN2.out, HL4.out, Chg.refl _ _⟩
  case round =>
    obtain ⟨n, wv, av, hwv, rfl, rfl, hn, hiv, htv, hcv⟩ := hrel
    subst hwv
    by_cases hlk : n < fs.length
    · obtain ⟨gg, cc, bv, e1, e2, q0, q1, q2, q3, hbb⟩ := HSPL.out.atL hcv HXL.out HNB.out hlk
      rw [hpl] at e1
      simp only [Value.slice.injEq, true_and] at e1
      obtain ⟨rfl, rfl⟩ := e1
      obtain ⟨z, hbd, hnu, hfr, htr⟩ := htv.head hlk
      obtain ⟨sb, cb, hbv, -⟩ := bytesIn_len hbb
      subst hbv
      obtain ⟨ff, hfd, hfn⟩ := hfr
      have hkI : (0 : Int) ≤ (n : Int) := by omega
      have hkL : (n : Int) < (fs.length : Int) := by omega
      have HTR := hide htr
      have HCV := hide hcv
      by_cases hk0 : fs[n].kind = 0
      · have HDA := hide (ldata_ok ab eb F1 fv av z P fs[n] sb cb wv hiv hbd hnu (hfd hk0) hbb)
        clear hiv htv hcv hbb hfd hfn ff htr hbd hnu
        generalize fs[n] = f at *
        obtain ⟨fk, ffl, fst, fbd⟩ := f
        simp only at q0 q1 q2 q3 HDA hk0
        subst hk0
        generalize fbd.length = bl at *
        go_wp2_with fail
        refine HDA.out.mono ?_
        rintro e w3 ⟨rfl, hi3, hc3⟩
        have HI3 := hide hi3
        have HC3 := hide hc3
        clear hi3 hc3
        go_wp2
        all_goals go_roundw
        case rel => exact ⟨n + 1, _, z, rfl, rfl, by go_num, by omega, HI3.out, HTR.out, HCV.out.trans (HC3.out.mono fun j _ e => Or.inr e)⟩
        case measure => simp [intOf]; omega
      · have hz := hfn hk0
        subst hz
        have HIV := hide hiv
        have hkB : (fs[n].kind == 0) = false := by simp [hk0]
        clear hiv htv hcv hbb hfd hfn ff htr hbd hnu hk0
        generalize fs[n].kind = fk at *
        go_wp2
        all_goals go_roundw
        case rel => exact ⟨n + 1, _, _, rfl, rfl, by go_num, by omega, HIV.out, HTR.out, HCV.out⟩
        case measure => simp [intOf]; omega
    · have hne : n = fs.length := by omega
      have hxe : av = a' := by
        rw [hne, List.drop_of_length_le (Nat.le_refl _)] at htv
        cases htv using LFrs.ind
        rfl
      subst hxe
      have HIV := hide hiv
      have HCV := hide hcv
      have HRO := hide (lroom_any ab _ fv av wv hiv.ac HBD.out)
      clear hiv htv hcv hne
      go_wp2_with fail
      refine HRO.out.mono ?_
      rintro e w4 ⟨rfl, hb4⟩
      have hin4 := HIV.out.below hb4
      have HWS := hide (fun wx (hbx : Below w4.heap.size w4 wx) => c_windows0 (hin4.st.below hbx))
      have hsr : P.m.send = av.room := HR5.out.e.send
      rw [hsr] at HWS
      have x0 : w4.cell? ⟨ab, 0, none⟩ = some (.pointer (some ⟨eb, 0, none⟩)) := hin4.ac.c0
      have HIN4 := hide hin4
      have HB4 := hide hb4
      clear hin4 hb4 hsr
      generalize P.m.receive = RC at *
      go_wp2_with fail
      refine (HWS.out _ (Below.refl _ _)).mono ?_
      rintro e w5 ⟨rfl, hb5⟩
      have HB5 : Hid (Below wv.heap.size wv w5) := HB4.out.trans (hb5.mono HB4.out.size)
      have HIN5 := hide (HIN4.out.below hb5)
      clear hb5 x0 HWS HIN4 HB4
      have hroomB := HBD.out
      obtain ⟨RO, hRO⟩ : ∃ RO, RO = av.room := ⟨_, rfl⟩
      have HROE := hide hRO
      rw [← hRO]
      clear hRO hroomB
      have hfn : av.fl.length ≤ 8 := HBD.out.n
      have HEND : Hid (∀ wz, Below w5.heap.size w5 wz → ∃ a' p', GoL w wz ab eb G a' p' ∧ LCalm a' p') := fun wz hbz => by
        refine ⟨av, P, ?_, HCA.out⟩
        have hinz := HIN5.out.below hbz
        refine GoL.of HG.out hinz ?_ ?_
        · have c1 : Chg (LFoot ab F fv) w w1 := HCH1.out.mono fun j _ e => Or.inr (Or.inr e)
          have c2 : Chg (LFoot ab F fv) w w2 := c1.then_below HSPL.out.bel
          have c3 : Chg (LFoot ab F fv) w wv := c2.trans (HCV.out.mono fun j _ e => Or.inr (by
            rcases e with e | e
            · exact Or.inl e
            · exact Or.inr (Or.inl e)))
          exact (c3.then_below HB5.out).then_below hbz
        · intro j hj
          rcases hj with e | e | e
          · exact Or.inl (Or.inl e)
          · exact Or.inl (Or.inr (Or.inl e))
          · exact (HF1.out j e).imp_left fun b => Or.inr (Or.inr b)
      go_wp2
      go_loopw [11] (fun ix wr => ∃ (n : Nat) (wu : World), wu = wr ∧ ix = .int .i64 (n : Int) ∧ n ≤ av.fl.length ∧ Below w5.heap.size w5 wu) (fun ix _ => av.fl.length - (intOf ix).toNat)
      case atStart => exact ⟨0, _, rfl, rfl, Nat.zero_le _, Below.refl _ _⟩
      case round =>
        obtain ⟨n, wu, hwu, rfl, hn2, hbu⟩ := hrel
        subst hwu
        have hinu := HIN5.out.below hbu
        have HBU := hide hbu
        by_cases hlt : n < av.fl.length
        · have hx : av.fl[n]? = some av.fl[n] := List.getElem?_eq_getElem hlt
          have hlK : n < P.K.length := by rw [← HR5.out.len]; exact hlt
          have hFS := HR5.out.fs n _ _ hx (List.getElem?_eq_getElem hlK)
          have hdn := HD1.out _ (List.getElem_mem hlt)
          have hsm := List.getElem_mem hlK
          obtain ⟨g, cap, hFA⟩ := hinu.fl.at hx
          have c5 : wu.cell? ⟨ab, 5, none⟩ = some (.slice (some ⟨g, 0, none⟩) av.fl.length cap) := by rw [hinu.ac.c5, hFA.eq]
          have q0 := hFA.f0
          have q1 := hFA.f1
          have q2 : wu.cell? ⟨g, n * 6 + 2, none⟩ = some (.string ⟨av.fl[n].wr.toArray⟩) := hFA.f2
          have q3 := hFA.f3
          have q4 := hFA.f4
          have q5 := hFA.f5
          have hmb := HBD.out.fl _ (List.getElem_mem hlt)
          have hfw := HR5.out.fine.b
          have hst := hfw.st _ hsm
          have hnb := HR5.out.numB hsm
          generalize hxe : av.fl[n] = x at *
          generalize P.K[n] = s at *
          obtain ⟨wA, hwA⟩ : ∃ wA, wA = wu.alloc (.cells #[.int .i64 x.s, .int .i64 x.credit, .string ⟨x.wr.toArray⟩, .int .i64 x.sent, .bool x.closed, .bool x.over] 56) := ⟨_, rfl⟩
          have hxb : wA.heap[wu.heap.size]? = some (.cells #[.int .i64 x.s, .int .i64 x.credit, .string ⟨x.wr.toArray⟩, .int .i64 x.sent, .bool x.closed, .bool x.over] 56 (0, 0)) := by rw [hwA]; exact heap_alloc_new wu _
          have hbA : Below wu.heap.size wu wA := by rw [hwA]; exact (Below.refl _ _).alloc (Nat.le_refl _) _
          have hinA := hinu.below hbA
          have HWI := hide (lwindow_any ab _ fv av n x wA hinA.ac hinA.fl hx HBD.out)
          obtain ⟨WI, hWI⟩ : ∃ WI, WI = av.win x := ⟨_, rfl⟩
          have hsw : P.m.other + s.st.send = WI := by rw [HR5.out.e.other, hFS.send, hWI]; unfold LAcc.win; omega
          have HWX : Hid (∀ wx, Below wA.heap.size wA wx → Calls Tryz.prog 25 #[.pointer (some ⟨eb, 0, none⟩), .int .i64 x.s] wx fun e w' => e = .returned (.tuple #[.int .i64 WI, .int .i64 (P.m.own + s.st.receive), .int .i64 0]) ∧ Below wx.heap.size wx w') := fun wx hbx => by
            have := c_windows (s := s) ((hinA.below hbx).st) hsm (by omega) hfw.own (by have := hFS.rc; omega) hfw.other hst.2.2.2
            rw [hFS.num, hsw] at this
            exact this
          rw [← hWI] at HWI hdn
          rw [← HROE.out] at hdn
          have HXB := hide hxb
          have HINA := hide hinA
          have HWA := hide hwA
          have HBA := hide hbA
          have i1 : (0 : Int) ≤ (n : Int) := by omega
          have i2 : (n : Int) < (av.fl.length : Int) := by omega
          have hnl : n + 1 ≤ av.fl.length := by omega
          obtain ⟨hd1, hd2⟩ := hdn
          obtain ⟨m1, m2, m3, m4⟩ := hmb
          have htz : (ByteArray.mk x.wr.toArray).size = x.wr.length := by simp [ByteArray.size]
          generalize P.m.own + s.st.receive = RW at *
          clear hinu hFA hFS hsm hfw hst hnb hxe hinA hxb hwA hbA hbu hsw hWI hlK hlt hn2 m1 m4
          go_upto_region 18 with fail
          rw [← HWA.out]
          clear q0 q1 q2 q3 q4 q5 c5
          go_wp2_with fail
          refine HWI.out.mono ?_
          rintro e w6 ⟨rfl, hb6⟩
          have hin6 := HINA.out.below hb6
          have hxb6 := kept_told HXB.out hb6
          have y0 : w6.cell? ⟨ab, 0, none⟩ = some (.pointer (some ⟨eb, 0, none⟩)) := hin6.ac.c0
          have y1 : w6.cell? ⟨wu.heap.size, 0, none⟩ = some (.int .i64 x.s) := by rw [cell_of_row _ _ _ _ _ _ hxb6]; rfl
          have y0d : w6.drew.cell? ⟨ab, 0, none⟩ = some (.pointer (some ⟨eb, 0, none⟩)) := y0
          have y1d : w6.drew.cell? ⟨wu.heap.size, 0, none⟩ = some (.int .i64 x.s) := y1
          have HWX6 := hide (HWX.out w6.drew hb6.drew)
          have HB6 := hide hb6
          have HXB6 := hide hxb6
          clear hb6 hin6 hxb6 HWX HINA HXB HWI
          go_upto_region 19 with fail
          go_cut [8, 10] (fun s8 s10 wx => s8 = .int .i64 WI ∧ s10 = .int .i64 0 ∧ Below w6.heap.size w6 wx)
          case first =>
            go_region_law (refine step_call rfl 25 Tryz.f25 Tryz.func25 (by kernel_rfl) rfl [.tmp 88, .tmp 90] #[27, 3] rfl [.pointer (some ⟨eb, 0, none⟩), .int .i64 x.s] (by simp [Act.eval, Act.put]) HWX6.out ?_; rintro e w7 ⟨rfl, hb7⟩; refine ⟨_, rfl, ?_⟩; have HB7 : Hid (Below w6.heap.size w6 w7) := ⟨hb7.os, hb7.tape, hb7.output, hb7.size, hb7.block⟩; clear hb7)
            all_goals go_wp2_with fail
            all_goals go_meet
            all_goals exact ⟨rfl, rfl, HB7.out⟩
          case rest =>
            obtain ⟨h8, h10, hb7⟩ := hcut
            subst h8 h10
            obtain ⟨w7, hw7⟩ : ∃ w7, w7 = wc := ⟨wc, rfl⟩
            rw [← hw7] at hb7 ⊢
            clear hw7
            have hxb7 := kept_told HXB6.out hb7
            have z2 : w7.cell? ⟨wu.heap.size, 2, none⟩ = some (.string ⟨x.wr.toArray⟩) := by rw [cell_of_row _ _ _ _ _ _ hxb7]; rfl
            have z3 : w7.cell? ⟨wu.heap.size, 3, none⟩ = some (.int .i64 x.sent) := by rw [cell_of_row _ _ _ _ _ _ hxb7]; rfl
            have z4 : w7.cell? ⟨wu.heap.size, 4, none⟩ = some (.bool x.closed) := by rw [cell_of_row _ _ _ _ _ _ hxb7]; rfl
            have z5 : w7.cell? ⟨wu.heap.size, 5, none⟩ = some (.bool x.over) := by rw [cell_of_row _ _ _ _ _ _ hxb7]; rfl
            have HB7 : Hid (Below w5.heap.size w5 w7) := by
              have b1 := HBU.out.trans (HBA.out.mono HBU.out.size)
              have b2 := b1.trans (HB6.out.mono b1.size)
              exact b2.trans (hb7.mono b2.size)
            clear hb7 hxb7 HB6 HXB6 y0 y1 y0d y1d HWX6
            go_upto_region 22 with fail
            go_cut [115] (fun s115 wx => s115 = .bool false ∧ wx = w7)
            case first =>
              by_cases f1 : x.sent < x.wr.length
              · have g1 : ((x.sent : Int) < (x.wr.length : Int)) = True := eq_true (by omega)
                by_cases f2 : 0 < RO
                · have g2 : ((0 : Int) < RO) = True := eq_true f2
                  have g3 : ((0 : Int) < WI) = False := eq_false (fun f3 => hd1 ⟨f1, f2, f3⟩)
                  clear hd1 hd2 f1 f2
                  go_wp2_with fail
                  go_meet
                  exact ⟨rfl, rfl⟩
                · have g2 : ((0 : Int) < RO) = False := eq_false f2
                  clear hd1 hd2 f1 f2
                  go_wp2_with fail
                  go_meet
                  exact ⟨rfl, rfl⟩
              · have g1 : ((x.sent : Int) < (x.wr.length : Int)) = False := eq_false (by omega)
                clear hd1 hd2 f1
                go_wp2_with fail
                go_meet
                exact ⟨rfl, rfl⟩
            case rest =>
              obtain ⟨hs, hw⟩ := hcut
              subst hs
              rw [hw]
              clear hw
              go_upto_region 24 with fail
              go_cut [130] (fun s130 wx => s130 = .bool false ∧ wx = w7)
              case first =>
                cases hcl : x.closed with
                | false =>
                  rw [hcl] at z4
                  clear hd1 hd2 hcl
                  go_wp2_with fail
                  go_meet
                  exact ⟨rfl, rfl⟩
                | true =>
                  rw [hcl] at z4
                  by_cases f1 : x.sent = x.wr.length
                  · have g1 : ((x.sent : Int) == (x.wr.length : Int)) = true := by simp [f1]
                    have hov : x.over = true := by
                      cases ho : x.over with
                      | true => rfl
                      | false => exact absurd ⟨hcl, f1, ho⟩ hd2
                    rw [hov] at z5
                    clear hd1 hd2 hcl f1 hov
                    go_wp2_with fail
                    go_meet
                    exact ⟨rfl, rfl⟩
                  · have g1 : ((x.sent : Int) == (x.wr.length : Int)) = false := by simp; omega
                    clear hd1 hd2 hcl f1
                    go_wp2_with fail
                    go_meet
                    exact ⟨rfl, rfl⟩
              case rest =>
                obtain ⟨hs, hw⟩ := hcut
                subst hs
                rw [hw]
                clear hw hd1 hd2
                go_wp2
                all_goals go_roundw
                case rel => exact ⟨n + 1, _, rfl, by go_num, hnl, HB7.out⟩
                case measure => simp [intOf]; omega
        · have hne : n = av.fl.length := by omega
          subst hne
          have c5 := hinu.ac.c5
          obtain ⟨fs1, fc1, hfv⟩ := slice_len hinu.fl
          rw [hfv] at c5
          clear hinu
          go_wp2
          go_ret
          exact ⟨rfl, HEND.out _ HBU.out⟩
end Go.Proofs.YtdccldbefdfppaaGreatDoor
