import Derived.Test.YtjccnikmcoidhaaRdG
set_option linter.unusedVariables false
set_option linter.unusedSimpArgs false
/-
  (*frames.Reader).Take: one byte more.
-/
namespace Go.Proofs.Ytjccnikmcoidhaa
set_option linter.unusedVariables false
set_option linter.unusedSimpArgs false
open Go.RowKit

theorem len_four' {l k f s : Int} (h : headCode l k f s = 0) (hk : (k = 3 ∧ hasB f 1 = false) ∨ k = 4 ∨ k = 6) : l = 4 := by
  have h2 := (headCode_zero h).2.2.2
  unfold lFits at h2
  rcases hk with ⟨rfl, hf⟩ | rfl | rfl
  · rw [hf] at h2; simpa using h2
  · simpa using h2
  · simpa using h2
theorem endOf0 : endOf 0 = .returned (.tuple #[]) := rfl
theorem endOf_ne {c : Int} (h : c ≠ 0) : endOf c = .panicked [{ v := .iface 32 (.int .i64 c), recovered := false }] := by simp [endOf, h]

theorem flags_lt (l : List UInt8) : 0 ≤ (hdOf l).flags ∧ (hdOf l).flags < 256 := by
  unfold hdOf
  split
  · rename_i d _ _ _
    have := d.toNat_lt
    constructor <;> simp <;> omega
  · constructor <;> simp
theorem body_of_owns {w : World} {bv : Value} {l : List UInt8} (h : w.ownsRow 0 5 1 bv l.length (l.map B)) : BodyIn w bv l := by
  refine ⟨?_⟩
  have h0 := h
  rcases h.2 with ⟨e, hn⟩ | ⟨g, cap, cur, e, _, hg, hn, _⟩
  · exact Or.inl ⟨List.length_eq_zero_iff.1 hn, none, 0, e⟩
  · refine Or.inr ⟨g, 0, cap, e, owns_lt h0 (by rw [e]; rfl), hn, fun i hi => ?_⟩
    subst e
    have := h0.cells (g := g) rfl i (B (l.getD i 0)) (by simp [List.getD, hi])
    rw [← this]
    congr 1
    unfold Addr.add; split <;> simp_all

/-- What the head's cells are, once there is one. -/
def HdIs (l : List UInt8) (L K F S : Int) : Prop := 6 ≤ l.length → hdOf l = ⟨L, K, F, S⟩ ∧ headCode L K F S = 0

set_option maxRecDepth 100000 in
set_option maxHeartbeats 3200000 in
theorem take_walk (rb o : Nat) (T : TypeId) (cs : Array Value) (gv : Value) (L K F S : Int) (got : List UInt8) (c : UInt8) (w : World) (hr : RdG w rb o T cs gv L K F S) (hown : w.ownsRow 0 5 1 gv got.length (got.map B)) (hgl : got.length ≤ 70)
    (hhd : 6 ≤ got.length → hdOf (got ++ [c]) = ⟨L, K, F, S⟩ ∧ headCode L K F S = 0 ∧ (got.length : Int) < 6 + L)
    (P : Ending → World → Prop)
    (hbad : ∀ w' cs2 g cap L1 K1 F1 S1, Pushed w w' rb o T cs gv cs2 g cap (got ++ [c]) L1 K1 F1 S1 → got.length = 5 → (hdOf (got ++ [c])).code ≠ 0 → P (.panicked [{ v := .iface 32 (.int .i64 (hdOf (got ++ [c])).code), recovered := false }]) w')
    (hmore : ∀ w' cs2 g cap L1 K1 F1 S1, Pushed w w' rb o T cs gv cs2 g cap (got ++ [c]) L1 K1 F1 S1 → HdIs (got ++ [c]) L1 K1 F1 S1 → (got.length + 1 < 6 ∨ (got.length : Int) + 1 < 6 + L1) → P (.returned (.tuple #[.nilIface, .bool false])) w')
    (hdone : ∀ w3 w4 w' cs2 g cap L1 K1 F1 S1 bv e, Pushed w w3 rb o T cs gv cs2 g cap (got ++ [c]) L1 K1 F1 S1 → hdOf (got ++ [c]) = ⟨L1, K1, F1, S1⟩ → headCode L1 K1 F1 S1 = 0 → (got.length : Int) + 1 = 6 + L1 → Below w3.heap.size w3 w4 → w4.ownsRow 0 5 1 bv ((got ++ [c]).drop 6).length (((got ++ [c]).drop 6).map B) → (∀ k, bv.ownBlock = some k → w3.heap.size ≤ k) →
      Framed (w4.setCell ⟨rb, o, none⟩ (.slice (some ⟨g, 0, none⟩) 0 cap)) w' e K1 F1 S1 bv ((got ++ [c]).drop 6) → P (match e with | .returned v => .returned (.tuple #[v, .bool true]) | x => x) w') :
    Calls Try.prog 22 #[.pointer (some ⟨rb, o, none⟩), .int .u8 c.toNat] w P := by
  obtain ⟨i0, hi, hz0, hz1, hz2⟩ := info_parts Try.info5
  obtain ⟨c0, c1, c2, c3, c4⟩ := hr.cells
  have f0 := hr.free o
  have hrb := hr.lt
  have HBAD := hide hbad
  have HMORE := hide hmore
  have HDONE := hide hdone
  have HHD := hide hhd
  clear hbad hmore hdone hhd
  go_enter Try.func22, Try.ntmps22
  go_wp2_with (at_builtin; refine wpList_app _ rfl (.tmp 11) (.tmp 13) 24 rfl 5 i0 (.int .u8 0) 1 1 Try.underlying24 hi hz0 hz1 hz2 rfl (by decide) _ _ _ rfl (hown.alloc _) (.slice (some ⟨w.heap.size, 0, none⟩) 1 1) 1 [.int .u8 c.toNat] rfl rfl (lies_one (by simp)) ?c2 ?c3 ?c4 ?_)
  case c2 => intro u hu; simp at hu; subst hu; rfl
  case c3 => unfold maxLen; omega
  case c4 => omega
  intro v' w1 hown' hgrow hfr
  obtain ⟨hr1, g, cap, hv, hp⟩ := pushed hr hown hown' hgrow hfr
  subst hv
  obtain ⟨d0, -, -, -, -⟩ := hr1.cells
  have e0 := hr1.free o
  obtain ⟨w2, hw2⟩ : ∃ w2, w1.setCell ⟨rb, o, none⟩ (.slice (some ⟨g, 0, none⟩) (got.length + 1) cap) = w2 := ⟨_, rfl⟩
  rw [hw2] at hp
  generalize cs.setIfInBounds o (.slice (some ⟨g, 0, none⟩) (got.length + 1) cap) = cs2 at hp
  have hrd := hp.rd
  have hlen : (got ++ [c]).length = got.length + 1 := by simp
  rw [hlen] at hrd
  obtain ⟨p0, p1, p2, p3, p4⟩ := hrd.cells
  have HP := hide hp
  have hgl2 := hp.lt
  clear c0 c1 c2 c3 c4 hown' hgrow hfr hr1 hown hr hrd f0 hp
  go_upto_if 22 with fail
  go_cut [] (fun wx => ∃ cs3 L1 K1 F1 S1, Pushed w wx rb o T cs gv cs3 g cap (got ++ [c]) L1 K1 F1 S1 ∧ HdIs (got ++ [c]) L1 K1 F1 S1 ∧ (6 ≤ got.length + 1 → (got.length : Int) + 1 ≤ 6 + L1 ∧ -1000 ≤ L1 ∧ L1 ≤ 1000))
  case first =>
    by_cases h5 : got.length = 5
    · have h5a : got.length ≤ 5 := by omega
      have h5b : 5 ≤ got.length := by omega
      have H5 := hide h5
      have hs6 : ((got.length : Int) + 1 == 6) = true := by simp; omega
      obtain ⟨x0, x1, x2, x3, x4, x5, hx, y0, y1, y2, y3, y4, y5⟩ := six_cells HP.out (by omega)
      have HX := hide hx
      clear hx h5
      go_wp2_with fail
      refine (headOf_any g 0 (got.length + 1) cap x0 x1 x2 x3 x4 x5 w2 (by omega) y0 y1 y2 y3 y4 y5 hgl2).mono ?_
      rintro e w3 ⟨rfl, hb3⟩
      have hp3 := HP.out.below hb3
      obtain ⟨-, r1, r2, r3, r4⟩ := hp3.rd.cells
      have s1 := hp3.rd.free (o + 1)
      have s2 := hp3.rd.free (o + 2)
      have s3 := hp3.rd.free (o + 3)
      have s4 := hp3.rd.free (o + 4)
      have hp4 := hp3.head (be2 x0 x1) x2.toNat x3.toNat (be2 x4 x5)
      obtain ⟨w4, hw4⟩ : ∃ w4, ((((w3.setCell ⟨rb, o + 1, none⟩ (.int .i64 (be2 x0 x1))).setCell ⟨rb, o + 2, none⟩ (.int .i64 x2.toNat)).setCell ⟨rb, o + 3, none⟩ (.int .i64 x3.toNat)).setCell ⟨rb, o + 4, none⟩ (.int .i64 (be2 x4 x5))) = w4 := ⟨_, rfl⟩
      rw [hw4] at hp4
      obtain ⟨t0, t1, t2, t3, t4⟩ := hp4.rd.cells
      have HP4 := hide hp4
      clear p0 p1 p2 p3 p4 y0 y1 y2 y3 y4 y5 hp3 hp4
      go_wp2_with fail
      have hx3 : x3.toNat < 256 := x3.toNat_lt
      have hcode : (hdOf (got ++ [c])).code = headCode (be2 x0 x1) x2.toNat x3.toNat (be2 x4 x5) := by rw [HX.out]; rfl
      have HCODE := hide hcode
      have hckh := checkHead_any (be2 x0 x1) x2.toNat x3.toNat (be2 x4 x5) w4 (by omega) (by omega)
      have hbe : 0 ≤ be2 x0 x1 := by unfold be2; omega
      clear t0 t1 t2 t3 t4 hcode
      by_cases hz : headCode (be2 x0 x1) x2.toNat x3.toNat (be2 x4 x5) = 0
      · have hl64 := (headCode_zero hz).2.2.1
        rw [hz, endOf0] at hckh
        have HCK := hide hckh
        have HZ := hide hz
        clear hckh hz
        refine HCK.out.mono ?_
        rintro e w5 ⟨rfl, hb5⟩
        have HP5 := hide (HP4.out.below hb5)
        clear hb5
        go_wp2
        go_meet
        exact ⟨_, _, _, _, _, HP5.out, fun _ => ⟨HX.out, HZ.out⟩, fun _ => ⟨by omega, by omega, by omega⟩⟩
      · rw [endOf_ne hz] at hckh
        refine hckh.mono ?_
        rintro e w5 ⟨rfl, hb5⟩
        have h9 := HBAD.out w5 _ _ _ _ _ _ _ (HP4.out.below hb5) H5.out (by rw [HCODE.out]; exact hz)
        rw [HCODE.out] at h9
        exact ⟨rfl, h9⟩
    · have hs6 : ((got.length : Int) + 1 == 6) = false := by simp; omega
      go_wp2
      go_meet
      refine ⟨cs2, L, K, F, S, HP.out, fun h6 => ?_, fun h6 => ?_⟩
      · have := HHD.out (by omega); exact ⟨this.1, this.2.1⟩
      · have h7 := HHD.out (by omega)
        have h8 := (headCode_zero h7.2.1).2.2.1
        exact ⟨by omega, by omega, by omega⟩
  case rest =>
    obtain ⟨cs3, L1, K1, F1, S1, hp3, hh3, hle3⟩ := hcut
    obtain ⟨w3, hw3⟩ : ∃ w3, w3 = wc := ⟨wc, rfl⟩
    subst hw3
    have hrd := hp3.rd
    rw [hlen] at hrd
    clear p0 p1 p2 p3 p4 HP
    obtain ⟨p0, p1, p2, p3, p4⟩ := hrd.cells
    have p2' : w3.cell? ⟨rb, o + 1 + 1, none⟩ = some (.int .i64 K1) := p2
    have p3' : w3.cell? ⟨rb, o + 1 + 2, none⟩ = some (.int .i64 F1) := p3
    have p4' : w3.cell? ⟨rb, o + 1 + 3, none⟩ = some (.int .i64 S1) := p4
    have HP3 := hide hp3
    have HH3 := hide hh3
    have HLE := hide hle3
    have hgl3 := hp3.lt
    have hrb3 := hp3.rd.lt
    have hcap : got.length + 1 ≤ cap := by have := hp3.room; omega
    clear hrd hp3 hh3 hle3 d0 e0 hw2 hgl2
    by_cases hm : got.length + 1 < 6 ∨ (got.length : Int) + 1 < 6 + L1
    · have HM := hide hm
      by_cases hm1 : got.length + 1 < 6
      · have hd : decide ((got.length : Int) + 1 < 6) = true := by simp; omega
        clear hm
        go_wp2
        go_quiet (fail)
        go_wp2
        exact HMORE.out _ _ _ _ _ _ _ _ (HP3.out.below (below_drewN (Below.refl _ _) _)) HH3.out HM.out
      · have hm2 : (got.length : Int) + 1 < 6 + L1 := by omega
        obtain ⟨-, hL1a, hL1b⟩ := HLE.out (by omega)
        have hd : decide ((got.length : Int) + 1 < 6) = false := by simp; omega
        have hd2 : decide ((got.length : Int) + 1 < 6 + L1) = true := by simp; omega
        clear hm
        go_wp2
        go_quiet (fail)
        go_wp2
        exact HMORE.out _ _ _ _ _ _ _ _ (HP3.out.below (below_drewN (Below.refl _ _) _)) HH3.out HM.out
    · have h6 : 6 ≤ got.length + 1 := by omega
      obtain ⟨hL1x, hL1a, hL1b⟩ := HLE.out h6
      have hL1 : (got.length : Int) + 1 = 6 + L1 := by omega
      obtain ⟨hhd, hcode⟩ := HH3.out (by omega)
      have hd : decide ((got.length : Int) + 1 < 6) = false := by simp; omega
      have hd2 : decide ((got.length : Int) + 1 < 6 + L1) = false := by simp; omega
      have HL1 := hide hL1
      have HHD3 := hide hhd
      have HCODE := hide hcode
      clear hm hL1 hhd hcode hL1x
      go_wp2
      go_quiet (fail)
      go_wp2_with fail
      have hp4 := HP3.out.below (below_drewN (Below.refl _ _) nq)
      clear p0 p1 p2 p3 p4 p2' p3' p4' hgl3 hrb3 HP3
      generalize w3.drewN nq = w4 at hp4 ⊢
      have hrd := hp4.rd
      rw [hlen] at hrd
      obtain ⟨p0, p1, p2, p3, p4⟩ := hrd.cells
      have p2' : w4.cell? ⟨rb, o + 1 + 1, none⟩ = some (.int .i64 K1) := p2
      have p3' : w4.cell? ⟨rb, o + 1 + 2, none⟩ = some (.int .i64 F1) := p3
      have p4' : w4.cell? ⟨rb, o + 1 + 3, none⟩ = some (.int .i64 S1) := p4
      have HP4 := hide hp4
      have hgl4 := hp4.lt
      have hrb4 := hp4.rd.lt
      clear hrd hp4
      go_region
      all_goals go_wp2_with fail
      have hb5 : Below w4.heap.size w4 (w4.alloc (.cells #[.int .i64 K1, .int .i64 F1, .int .i64 S1, .slice none 0 0] 26)).drew := ((Below.refl _ _).alloc (Nat.le_refl _) _).drew
      have hf5 : (w4.alloc (.cells #[.int .i64 K1, .int .i64 F1, .int .i64 S1, .slice none 0 0] 26)).drew.heap[w4.heap.size]? = some (.cells #[.int .i64 K1, .int .i64 F1, .int .i64 S1, .slice none 0 0] 26 (0, 0)) := heap_alloc_new w4 _
      obtain ⟨w5, hw5⟩ : ∃ w5, w5 = (w4.alloc (.cells #[.int .i64 K1, .int .i64 F1, .int .i64 S1, .slice none 0 0] 26)).drew := ⟨_, rfl⟩
      rw [← hw5] at hb5 hf5 ⊢
      obtain ⟨N, hN⟩ : ∃ N, N = w4.heap.size := ⟨_, rfl⟩
      rw [← hN] at hf5 ⊢
      have hNa : N ≤ w4.heap.size := by omega
      have hNb : w4.heap.size ≤ N := by omega
      clear hN
      have hp5 := HP4.out.below hb5
      have hrd := hp5.rd
      rw [hlen] at hrd
      clear p0 p1 p2 p3 p4 p2' p3' p4' hw5
      obtain ⟨p0, -, -, -, -⟩ := hrd.cells
      obtain ⟨y0, y1, y2, y3, yf⟩ := frame_block hf5
      have yf3 := yf 3
      have hNlt := lt_of_block hf5
      have hg5 := hp5.lt
      have hNr : N ≠ rb := by omega
      have hNg : N ≠ g := by omega
      -- what is behind the append and the two stores
      have HAFT : Hid (∀ v' w6, w6.ownsRow 0 5 1 v' (0 + (got.length - 5)) ([] ++ ((got ++ [c]).drop 6).map B) → w5.drew.grownBy w6 (Value.slice none 0 0).ownBlock → (v'.ownBlock = (Value.slice none 0 0).ownBlock ∨ v'.ownBlock = some w5.drew.heap.size) →
          (∃ s6 n6 c6, v' = .slice s6 n6 c6) ∧ w6.heap[N]? = some (.cells #[.int .i64 K1, .int .i64 F1, .int .i64 S1, .slice none 0 0] 26 (0, 0)) ∧ w6.cell? ⟨rb, o, none⟩ = some (.slice (some ⟨g, 0, none⟩) (got.length + 1) cap) ∧ w6.frozen? ⟨rb, o, none⟩ = false ∧ g < w6.heap.size ∧ Below w4.heap.size w4 (w6.setCell ⟨N, 3, none⟩ v') ∧
          (w6.setCell ⟨N, 3, none⟩ v').ownsRow 0 5 1 v' ((got ++ [c]).drop 6).length (((got ++ [c]).drop 6).map B) ∧ (∀ k, v'.ownBlock = some k → w4.heap.size + 1 ≤ k)) := by
        intro v' w6 ho hg hfr
        have hb6 : Below w5.heap.size w5 w6 := ((Below.refl _ w5).drew).grown hg (Nat.le_refl _) (fun k h => by cases h)
        have hp6 := hp5.below hb6
        have hrd6 := hp6.rd
        rw [hlen] at hrd6
        have hvk : ∀ k, v'.ownBlock = some k → w4.heap.size + 1 ≤ k := fun k hk => by
          rcases hfr with e | e
          · rw [e] at hk; cases hk
          · rw [e] at hk
            have e2 : w5.drew.heap.size = k := by simpa using hk
            have e3 : w5.drew.heap.size = w5.heap.size := rfl
            omega
        have hvs : ∃ s6 n6 c6, v' = .slice s6 n6 c6 := by
          rcases ho.2 with ⟨e, _⟩ | ⟨a, b, d, e, _⟩
          · exact ⟨_, _, _, e⟩
          · exact ⟨_, _, _, e⟩
        have hbw : Below w4.heap.size w4 w6 := hb5.trans (hb6.mono (by omega))
        refine ⟨hvs, ?_, hrd6.cells.1, hrd6.free o, hp6.lt, hbw.setCell (by simp; omega) _, ?_, hvk⟩
        · rw [hb6.block N hNlt]; exact hf5
        · have hl6 : ((got ++ [c]).drop 6).length = got.length - 5 := by simp
          have ho2 : w6.ownsRow 0 5 1 v' ((got ++ [c]).drop 6).length (((got ++ [c]).drop 6).map B) := by
            rw [hl6]; simpa using ho
          exact owns_chg ho2 ((Chg.refl (fun k => k = N) w6).setCell (p := ⟨N, 3, none⟩) (Or.inr rfl) _) (fun k hk e => by have := hvk k hk; omega)
      have HLI : Hid (Lies w5.drew (.slice (some ⟨g, 6, none⟩) (got.length - 5) (cap - 6)) (got.length - 5) (((got ++ [c]).drop 6).map B)) := by
        refine Or.inr ⟨_, _, rfl, fun j u hu => ?_⟩
        have hj : j < got.length - 5 := by
          have := (List.getElem?_eq_some_iff.1 hu).1
          simp at this; omega
        have e : (⟨g, 6, none⟩ : Addr).add j = ⟨g, 6 + j, none⟩ := by unfold Addr.add; split <;> simp_all
        rw [e]
        show w5.cell? _ = _
        rw [hp5.cell (6 + j) (by simp; omega), ← hu, List.getElem?_map, List.getElem?_drop, List.getElem?_eq_getElem (by simp; omega), getD_lt _ _ _ (by simp; omega)]
        rfl
      have HP5 := hide hp5
      have HLN : Hid ((((got ++ [c]).drop 6).map B).length = (got.length - 5) * 1) := by show _ = _; simp
      have HONE : Hid (∀ u ∈ ((got ++ [c]).drop 6).map B, u.oneCell' = true) := bytes_one _
      have HML : Hid (0 + (got.length - 5) ≤ maxLen) := by show _ ≤ _; unfold maxLen; omega
      have HMB : Hid ((0 + (got.length - 5)) * 1 ≤ 140737488355328) := by show _ ≤ _; omega
      clear hrd hp5 yf
      have h6i : (6 : Int) ≤ (got.length : Int) + 1 := by omega
      have HFIN : Hid (∀ s6 n6 c6 (w6 : World), Below w4.heap.size w4 (w6.setCell ⟨N, 3, none⟩ (.slice s6 n6 c6)) → (w6.setCell ⟨N, 3, none⟩ (.slice s6 n6 c6)).ownsRow 0 5 1 (.slice s6 n6 c6) ((got ++ [c]).drop 6).length (((got ++ [c]).drop 6).map B) → (∀ k, (Value.slice s6 n6 c6).ownBlock = some k → w4.heap.size + 1 ≤ k) →
          Calls Try.prog 25 #[.agg #[.int .i64 K1, .int .i64 F1, .int .i64 S1, .slice s6 n6 c6]] ((w6.setCell ⟨N, 3, none⟩ (.slice s6 n6 c6)).setCell ⟨rb, o, none⟩ (.slice (some ⟨g, 0, none⟩) 0 cap)) fun e w' => (∃ ps, e = .panicked ps ∧ P e w') ∨ ∃ v, e = .returned v ∧ P (.returned (.tuple #[v, .bool true])) w') := by
        intro s6 n6 c6 w6 hb ho hk
        have hl6 : ((got ++ [c]).drop 6).length = got.length - 5 := by simp
        have hL1 := HL1.out
        have hL64 := (headCode_zero HCODE.out).2.2.1
        have hfl := flags_lt (got ++ [c])
        rw [HHD3.out] at hfl
        have ho2 := owns_chg ho ((Chg.refl (fun k => k = rb) _).setCell (p := ⟨rb, o, none⟩) (Or.inr rfl) (.slice (some ⟨g, 0, none⟩) 0 cap)) (fun k hkk e => by have := hk k hkk; omega)
        have hbody := body_of_owns ho2
        refine (frameOf_any _ _ K1 F1 S1 _ (by rw [hl6]; omega) hfl.1 hfl.2 hbody (fun h => by have := len_four' HCODE.out h; rw [hl6]; omega)).mono ?_
        intro e w7 hfr
        have hPx := HDONE.out w4 _ w7 _ g cap L1 K1 F1 S1 _ e HP4.out HHD3.out HCODE.out HL1.out hb ho (fun k hkk => by have := hk k hkk; omega) hfr
        rcases hfr.1 with ⟨_, rfl⟩ | ⟨_, cv, rfl, _⟩
        · exact Or.inl ⟨_, rfl, hPx⟩
        · exact Or.inr ⟨_, rfl, hPx⟩
      -- the rest: both ways to cut the body off
      by_cases hc6 : cap = 6
      · have hm0 : ((got ++ [c]).drop 6).map B = [] := by
          rw [List.drop_of_length_le (by simp; omega)]; rfl
        have h50 : got.length - 5 = 0 := by omega
        have HAF6 : Hid (∀ v' (w6 : World), w6.ownsRow 0 5 1 v' (0 + 0) ([] ++ []) → w5.drew.grownBy w6 (Value.slice none 0 0).ownBlock → (v'.ownBlock = (Value.slice none 0 0).ownBlock ∨ v'.ownBlock = some w5.drew.heap.size) → _) := fun v' w6 h => HAFT.out v' w6 (by rw [h50, hm0]; exact h)
        have HLI6 : Hid (Lies w5.drew (.slice (some ⟨g, 0, none⟩) 0 0) 0 []) := Or.inr ⟨_, _, rfl, fun j u hu => by simp at hu⟩
        clear HLI hm0 h50 HAFT
        subst hc6
        go_region_law (refine step_appd rfl (.tmp 73) (.tmp 78) 24 rfl 5 i0 (.int .u8 0) 1 1 Try.underlying24 hi hz0 hz1 hz2 rfl (by decide) (.slice none 0 0) 0 [] (by simp [Act.eval, Act.put]) (World.ownsRow_nil _ _ _ _) (.slice (some ⟨g, 0, none⟩) 0 0) 0 [] (by simp [Act.eval, Act.put]) rfl HLI6.out (fun u hu => by cases hu) (Nat.zero_le _) (Nat.zero_le _) ?_; intro v' w6 ho6 hg6 hfr6; obtain ⟨⟨s6, n6, c6, hv6⟩, hf6, p6, pf6, hgl6, hb6, ho7, hk7⟩ := HAF6.out v' w6 ho6 hg6 hfr6; subst hv6; obtain ⟨x0, x1, x2, x3, xf⟩ := frame_block hf6; have xf3 := xf 3; have HB6 := hide hb6; have HO7 := hide ho7; have HK7 := hide hk7; clear ho6 hg6 hfr6 hb6 ho7 hk7 xf)
        all_goals go_wp2_with fail
        all_goals refine (HFIN.out _ _ _ _ HB6.out HO7.out HK7.out).mono ?_
        all_goals rintro e w7 (⟨ps, rfl, hP⟩ | ⟨v, rfl, hP⟩)
        all_goals first
          | exact ⟨rfl, hP⟩
          | (have HPP := hide hP; clear hP; go_wp2; exact HPP.out)
      · go_region_law (refine step_appd rfl (.tmp 73) (.tmp 78) 24 rfl 5 i0 (.int .u8 0) 1 1 Try.underlying24 hi hz0 hz1 hz2 rfl (by decide) (.slice none 0 0) 0 [] (by simp [Act.eval, Act.put]) (World.ownsRow_nil _ _ _ _) (.slice (some ⟨g, 6, none⟩) (got.length - 5) (cap - 6)) (got.length - 5) (((got ++ [c]).drop 6).map B) (by simp [Act.eval, Act.put]) HLN.out HLI.out HONE.out HML.out HMB.out ?_; intro v' w6 ho6 hg6 hfr6; obtain ⟨⟨s6, n6, c6, hv6⟩, hf6, p6, pf6, hgl6, hb6, ho7, hk7⟩ := HAFT.out v' w6 ho6 hg6 hfr6; subst hv6; obtain ⟨x0, x1, x2, x3, xf⟩ := frame_block hf6; have xf3 := xf 3; have HB6 := hide hb6; have HO7 := hide ho7; have HK7 := hide hk7; clear ho6 hg6 hfr6 hb6 ho7 hk7 xf)
        all_goals go_wp2_with fail
        all_goals refine (HFIN.out _ _ _ _ HB6.out HO7.out HK7.out).mono ?_
        all_goals rintro e w7 (⟨ps, rfl, hP⟩ | ⟨v, rfl, hP⟩)
        all_goals first
          | exact ⟨rfl, hP⟩
          | (have HPP := hide hP; clear hP; go_wp2; exact HPP.out)
end Go.Proofs.Ytjccnikmcoidhaa
