/-
  (*sluicelaw.Books).keepFrames.
-/
import Derived.Test.YtckeblkadiehbaaGreatKeepFRel
import Derived.Deep.MidRow
namespace Go.Proofs.YtckeblkadiehbaaGreat
open Go.RowKit

theorem frame_ones (m : Int) (k : Nat) : ∀ u ∈ fillF m k, u.oneCell' = true := by
  induction k with
  | zero => simp [fillF]
  | succ k ih =>
    intro u hu
    simp only [fillF, List.mem_cons] at hu
    rcases hu with rfl | rfl | rfl | rfl | hu
    · rfl
    · rfl
    · rfl
    · rfl
    · exact ih u hu

theorem chg_setCells {S : Nat → Prop} {a : World} {g : Nat} (hp : a.heap.size ≤ g ∨ S g) : ∀ (vs : List Value) (o : Nat) (w : World), Chg S a w → Chg S a (w.setCells g o vs)
  | [], _, _, h => h
  | v :: r, o, _, h => chg_setCells hp r (o + 1) _ (h.setCell (p := ⟨g, o, none⟩) hp v)

theorem fill_stored {w : World} {base g n cap k : Nat} {m : Int} {xs : List Value} (h : w.ownsRow base 56 4 (.slice (some ⟨g, 0, none⟩) n cap) n (fillK m k xs)) (hk : k * 4 + 4 ≤ xs.length) :
    (w.setCells g (k * 4) [.int .i64 m, .int .i64 m, .int .i64 m, .slice none 0 0]).ownsRow base 56 4 (.slice (some ⟨g, 0, none⟩) n cap) n (fillK m (k + 1) xs) := by
  rw [← fillK_succ hk]
  exact ((((h.stored _ _).1.stored _ _).1.stored _ _).1.stored _ _).1

theorem take_fill {F0 : List Value} {M : Int} {n a c : Nat} (h : F0.length = n * 4) : F0 ++ fillF M a = (F0 ++ fillF M (a + c)).take ((n + a) * 4) := by
  rw [fillF_add, ← List.append_assoc, List.take_left']
  rw [List.length_append, h, fillF_length, Nat.add_mul]

set_option maxRecDepth 100000 in
set_option maxHeartbeats 6400000 in
theorem keepFrames_any (b : Nat) (cs : Array Value) (kv fv v : Value) (ps : List (Fr × Value)) (recs : List RecB) (frs : List FRec) (base : Nat) (w : World) (hb : w.heap[b]? = some (.cells cs 46 (0, 0))) (hkv : cs[9]? = some kv) (hfv : cs[12]? = some fv)
    (hrow : w.ownsRow 0 65 5 kv recs.length (recCells recs)) (hrowF : w.ownsRow 0 75 5 fv frs.length (frCells frs)) (hF : FrsOwn w base v ps) (hn : recs.length + ps.length ≤ 67108864) (hnf : frs.length ≤ 67108864) (hx : ∀ p ∈ ps, p.1.body.length ≤ 4294967296) :
    Calls Tryz.prog 32 #[.pointer (some ⟨b, 9, none⟩), v] w fun e w' => e = .returned (.tuple #[]) ∧ ∃ kv' fv' rs r, KeptF w w' b cs kv fv v ps recs frs kv' fv' rs r := by
  obtain ⟨i0, hi, hz0, hz1, hz2⟩ := info_parts Tryz.info56
  obtain ⟨j0, ji, jz0, jz1, jz2⟩ := info_parts Tryz.info75
  obtain ⟨sv, cv, rfl⟩ := slice_len hF.row
  obtain ⟨sf, cf, rfl⟩ := slice_len hrowF
  have HF := hide hF
  have HB := hide hb
  have HR := hide hrow
  have HRF := hide hrowF
  have HX := hide hx
  have hblt := lt_of_block hb
  clear hF hb hrow hrowF hx
  go_enter Tryz.func32, Tryz.ntmps32
  go_wp2
  go_loopw [4] (fun i wr => ∃ (k : Nat) (kvk : Value) (rs : List RecB), k ≤ ps.length ∧ i = .int .i64 k ∧ KLoop w wr b cs kv ps recs k kvk rs) (fun i _ => ps.length - (intOf i).toNat)
  case atStart =>
    refine ⟨0, kv, [], Nat.zero_le _, rfl, ⟨?_, by simpa using HR.out, rfl, by simp, by simp, by simp, Chg.refl _ _, fun j hj => Or.inl hj⟩⟩
    have e : cs.setIfInBounds 9 kv = cs := set_same hkv
    rw [e]; exact HB.out
  case round =>
    obtain ⟨k, kvk, rs, hk, rfl, hK⟩ := hrel
    have hrl := hK.len
    by_cases hlt : k < ps.length
    · have hbo := hK.body HF.out HB.out HR.out hlt
      obtain ⟨sq, cq, hq⟩ := slice_len hbo
      have hvr := vrow_at hK HF.out HB.out HR.out
      obtain ⟨g, hg, hcv⟩ := slice_some hvr (by omega)
      subst hg
      have hcell : wr.cell? ⟨g, k * 4 + 3, none⟩ = some ps[k].2 := by
        rw [hvr.cellAt _ (by have := cellsOf_length ps; omega)]
        exact (cellsOf_get4 hlt)
      rw [hq] at hcell
      have hc9 : (cs.setIfInBounds 9 kvk)[9]? = some kvk := set_at hkv
      have hkb := fun (w' : World) => kloop_next (w' := w') hK HF.out HX.out hlt
      rw [hq] at hbo
      have hlen := HX.out ps[k] (List.getElem_mem _)
      rw [hq] at hkb
      have HKB := hide hkb
      have HBO := hide hbo
      have HK := hide hK
      generalize ps[k].1.body = bd at hcell HBO HKB hlen
      clear hkb hbo hK hvr hq
      go_wp2_with fail
      refine (keepBytes_any b (cs.setIfInBounds 9 kvk) kvk (.slice sq bd.length cq) (recs ++ rs) bd base _ HK.out.blk hc9 HK.out.rowB HBO.out (by simp; omega) hlen).mono ?_
      rintro e w1 ⟨rfl, hkept⟩
      obtain ⟨kv', r, hK'⟩ := HKB.out w1 hkept
      have HK' := hide hK'
      clear hkept hK'
      go_wp2
      go_roundw
      case rel => exact ⟨k + 1, kv', _, by omega, by go_num, HK'.out⟩
      case measure => simp [intOf]; omega
    · have hke : k = ps.length := by omega
      subst hke
      obtain ⟨wo, hwo⟩ : ∃ wo, wo = wr := ⟨wr, rfl⟩
      subst hwo
      have hc12 : (cs.setIfInBounds 9 kvk)[12]? = some (.slice sf frs.length cf) := set_other hfv (by decide)
      have g12 : wo.cell? ⟨b, 12, none⟩ = some (.slice sf frs.length cf) := by rw [cell_of_row wo b _ _ _ _ hK.blk]; exact hc12
      have HC12 := hide hc12
      have HVR := hide (vrow_at hK HF.out HB.out HR.out)
      have HFR := hide (frow_at hK HF.out HB.out HR.out HRF.out)
      have hwo := hK.chg.size
      have HK := hide hK
      clear hK hlt hk hc12 hrl
      go_wp2
      obtain ⟨M, hM⟩ : ∃ M : Int, M = -1000 - (frs.length : Int) := ⟨_, rfl⟩
      rw [← hM]
      obtain ⟨wA, hwA⟩ : ∃ wA, wA = wo.alloc (.cells #[.int .i64 M, .int .i64 M, .int .i64 M, .slice none 0 0] 56) := ⟨_, rfl⟩
      have hfA : wA.heap[wo.heap.size]? = some (.cells #[.int .i64 M, .int .i64 M, .int .i64 M, .slice none 0 0] 56 (0, 0)) := by rw [hwA]; exact heap_alloc_new wo _
      have hcA : Chg (fun _ => False) wo wA := by rw [hwA]; exact (Chg.refl _ _).alloc _
      rw [← hwA]
      have HFA := hide hfA
      have HCA := hide hcA
      have hsA := lt_of_block hfA
      have hMb : -1000 - 67108864 ≤ M ∧ M ≤ -1000 := by omega
      clear hwA hfA hcA hM
      go_loopw [7] (fun i wr => ∃ k : Nat, k ≤ ps.length ∧ i = .int .i64 k ∧ Chg (fun j => (Value.slice sv ps.length cv).ownBlock = some j) wA wr ∧ wr.ownsRow base 56 4 (.slice sv ps.length cv) ps.length (fillK M k (cellsOf ps))) (fun i _ => ps.length - (intOf i).toNat)
      case atStart => exact ⟨0, Nat.zero_le _, rfl, Chg.refl _ _, by simpa [fillK, fillF] using owns_chg HVR.out HCA.out (fun _ _ => id)⟩
      case round =>
        obtain ⟨k, hk, rfl, hch, hown⟩ := hrel
        have hvlt : ∀ j, (Value.slice sv ps.length cv).ownBlock = some j → j < w.heap.size := fun j hj => owns_lt HF.out.row hj
        have hfr : wr.heap[wo.heap.size]? = some (.cells #[.int .i64 M, .int .i64 M, .int .i64 M, .slice none 0 0] 56 (0, 0)) := by
          rw [hch.block _ hsA (fun e => by have := hvlt _ e; omega)]; exact HFA.out
        obtain ⟨m0, m1, m2, m3, -⟩ := frame_block hfr
        by_cases hlt : k < ps.length
        · obtain ⟨g, hg, hcv⟩ := slice_some hown (by omega)
          subst hg
          have hfl := fillK_length (m := M) (cellsOf_length ps) hk
          have HTH : Hid (wr.there g (k * 4) 4) := fun i hi => ⟨by rw [hown.cellAt (k * 4 + i) (by omega), List.getElem?_eq_getElem (by omega)]; rfl, owns_free hown (k * 4 + i)⟩
          have HSZ : Hid ((Tryz.prog.info? 56).map (·.size) = some 4) := by show _ = _; rw [hi]; simp [hz1]
          have HS := hide (fill_stored hown (by have := cellsOf_length ps; omega))
          have HCH := hide (chg_setCells (S := fun j => (Value.slice (some ⟨g, 0, none⟩) ps.length cv).ownBlock = some j) (g := g) (Or.inr rfl) [.int .i64 M, .int .i64 M, .int .i64 M, .slice none 0 0] (k * 4) wr hch)
          clear hown hch hfl hfr hvlt
          have HON : Hid ((#[.int .i64 M, .int .i64 M, .int .i64 M, .slice none 0 0] : Array Value).all (·.oneCell') = true) := all_oneCell_toArray (frame_ones M 1)
          go_wp2_with (refine wpList_store_mid rfl 56 (.tmp 41) (.tmp 40) rfl g (k * 4) #[.int .i64 M, .int .i64 M, .int .i64 M, .slice none 0 0] rfl rfl HTH.out HSZ.out HON.out ?_)
          go_roundw
          case rel => exact ⟨k + 1, by omega, by go_num, HCH.out, HS.out⟩
          case measure => simp [intOf]; omega
        · have hke : k = ps.length := by omega
          subst hke
          rw [fillK_all (cellsOf_length ps)] at hown
          obtain ⟨F0, hF0⟩ : ∃ F, F = fillF M ps.length := ⟨_, rfl⟩
          have hown0 := owns_base hown (base' := 0) (fun _ _ => Nat.zero_le _)
          rw [← hF0] at hown0
          have HF0 := hide hF0
          have HCH := hide hch
          have HVL := hide hvlt
          have hsz0 := hch.size
          have hswr : wo.heap.size < wr.heap.size := by omega
          obtain ⟨N1, hN1⟩ : ∃ N, N = fillF M 1 := ⟨_, rfl⟩
          obtain ⟨N2, hN2⟩ : ∃ N, N = fillF M 2 := ⟨_, rfl⟩
          obtain ⟨N3, hN3⟩ : ∃ N, N = fillF M 3 := ⟨_, rfl⟩
          have HN1 := hide hN1
          have HN2 := hide hN2
          have HN3 := hide hN3
          have HO1 : Hid (∀ u ∈ N1, u.oneCell' = true) := by rw [hN1]; exact frame_ones M 1
          have HO2 : Hid (∀ u ∈ N2, u.oneCell' = true) := by rw [hN2]; exact frame_ones M 2
          have HO3 : Hid (∀ u ∈ N3, u.oneCell' = true) := by rw [hN3]; exact frame_ones M 3
          have HL1 : Hid (N1.length = 1 * 4) := by rw [hN1]; rfl
          have HL2 : Hid (N2.length = 2 * 4) := by rw [hN2]; rfl
          have HL3 : Hid (N3.length = 3 * 4) := by rw [hN3]; rfl
          have HE1 : Hid (∀ (W : World), ∀ j u, N1[j]? = some u → (W.alloc (.cells #[.int .i64 M, .int .i64 M, .int .i64 M, .slice none 0 0] 56)).cell? ((⟨W.heap.size, 0, none⟩ : Addr).add j) = some u) := by
            intro W; rw [hN1]; exact fun j u hu => lies_row (xs := fillF M 1) j u hu
          have HE2 : Hid (∀ (W : World), ∀ j u, N2[j]? = some u → (W.alloc (.cells #[.int .i64 M, .int .i64 M, .int .i64 M, .slice none 0 0, .int .i64 M, .int .i64 M, .int .i64 M, .slice none 0 0] 56)).cell? ((⟨W.heap.size, 0, none⟩ : Addr).add j) = some u) := by
            intro W; rw [hN2]; exact fun j u hu => lies_row (xs := fillF M 2) j u hu
          have HE3 : Hid (∀ (W : World), ∀ j u, N3[j]? = some u → (W.alloc (.cells #[.int .i64 M, .int .i64 M, .int .i64 M, .slice none 0 0, .int .i64 M, .int .i64 M, .int .i64 M, .slice none 0 0, .int .i64 M, .int .i64 M, .int .i64 M, .slice none 0 0] 56)).cell? ((⟨W.heap.size, 0, none⟩ : Addr).add j) = some u) := by
            intro W; rw [hN3]; exact fun j u hu => lies_row (xs := fillF M 3) j u hu
          clear hown hF0 hch hvlt hfr hN1 hN2 hN3 hk g12
          go_wp2_with (at_builtin; refine wpList_app_full _ rfl (.tmp 45) (.tmp 47) 22 rfl 56 i0 (.agg #[.int .i64 0, .int .i64 0, .int .i64 0, .slice none 0 0]) 4 48 Tryz.underlying22 hi hz0 hz1 hz2 rfl (by decide) _ _ _ rfl ((hown0.alloc _).alloc _) ⟨wr.heap.size + 1, 0, none⟩ 1 1 N1 rfl (by decide) HL1.out ?c0 HO1.out ?c2 ?c3 ?_)
          case c0 =>
            have := HE1.out (wr.alloc (.cells #[.slice sv ps.length cv, .slice none 0 0, .slice none 0 0, .slice none 0 0, .int .i64 M] 75))
            simpa using this
          case c2 => unfold maxLen; omega
          case c3 => omega
          intro va w1 hown1 hg1 happ1
          obtain ⟨hx2, hch2, hl2, ha2, -, hba⟩ := keepF_step (heap_alloc_new wr _) hsz0 (HCH.out.alloc _) (fun j hj => Or.inr hj) (hown0.alloc _) hown1 hg1 happ1 1
          have hra : ∀ g cap, Value.slice sv ps.length cv = .slice (some ⟨g, 0, none⟩) ps.length cap → ps.length + 1 ≤ cap → va = .slice (some ⟨g, 0, none⟩) (ps.length + 1) cap := fun g cap e h => happ1.room e h
          obtain ⟨sa, ca, rfl⟩ := slice_len hown1
          have hxw1 : w1.heap[wr.heap.size]? = some (.cells #[.slice sv ps.length cv, .slice none 0 0, .slice none 0 0, .slice none 0 0, .int .i64 M] 75 (0, 0)) := kept_block ((hown0.alloc _).alloc _) hg1 (alloc_block (heap_alloc_new wr _) _) (by decide)
          obtain ⟨y0, y1, y2, y3, y4, yf⟩ := lists_block hxw1
          have yf1 := yf 1
          obtain ⟨w2, hw2⟩ : ∃ w2, w1.setCell ⟨wr.heap.size, 1, none⟩ (.slice sa (ps.length + 1) ca) = w2 := ⟨_, rfl⟩
          rw [hw2] at hx2 hch2 hl2 ha2
          have hf2 : w2.heap[wo.heap.size]? = some (.cells #[.int .i64 M, .int .i64 M, .int .i64 M, .slice none 0 0] 56 (0, 0)) := by
            rw [hch2.block _ hsA (fun e => by have := HVL.out _ e; omega)]; exact HFA.out
          obtain ⟨n0, n1, n2, n3, -⟩ := frame_block hf2
          have HX2 := hide hx2
          have HC2 := hide hch2
          have HA2 := hide ha2
          have HRA := hide hra
          have HBA := hide hba
          clear hx2 hch2 ha2 hra hba hown1 hg1 happ1 hown0 hxw1 yf hf2 m0 m1 m2 m3
          go_wp2_with (at_builtin; refine wpList_app_full _ rfl (.tmp 50) (.tmp 53) 22 rfl 56 i0 (.agg #[.int .i64 0, .int .i64 0, .int .i64 0, .slice none 0 0]) 4 48 Tryz.underlying22 hi hz0 hz1 hz2 rfl (by decide) _ _ _ rfl (hl2.alloc _) ⟨w2.heap.size, 0, none⟩ 2 2 N2 rfl (by decide) HL2.out (HE2.out w2) HO2.out ?d2 ?d3 ?_)
          case d2 => unfold maxLen; omega
          case d3 => omega
          intro vb w3 hown3 hg3 happ3
          have hF0l : F0.length = ps.length * 4 := hl2.1
          obtain ⟨hx4, hch4, hl4, hb4, hk4, hbb⟩ := keepF_step HX2.out hsz0 HC2.out (fun j hj => Or.inr hj) hl2 hown3 hg3 happ3 2
          have ha4 := hk4 _ _ _ HA2.out (fun g cap e h => ⟨HRA.out g cap e (by omega), by omega, by rw [HN1.out, HN2.out]; exact take_fill (a := 1) (c := 1) hF0l⟩)
          have hrb : ∀ g cap, Value.slice sv ps.length cv = .slice (some ⟨g, 0, none⟩) ps.length cap → ps.length + 2 ≤ cap → vb = .slice (some ⟨g, 0, none⟩) (ps.length + 2) cap := fun g cap e h => happ3.room e h
          obtain ⟨sb, cb, rfl⟩ := slice_len hown3
          have hxw3 := kept_block (hl2.alloc _) hg3 (alloc_block HX2.out _) (by decide)
          obtain ⟨z0, z1, z2, z3, z4, zf⟩ := lists_block hxw3
          have zf2 := zf 2
          obtain ⟨w4, hw4⟩ : ∃ w4, w3.setCell ⟨wr.heap.size, 2, none⟩ (.slice sb (ps.length + 2) cb) = w4 := ⟨_, rfl⟩
          rw [hw4] at hx4 hch4 hl4 hb4 ha4
          have hf4 : w4.heap[wo.heap.size]? = some (.cells #[.int .i64 M, .int .i64 M, .int .i64 M, .slice none 0 0] 56 (0, 0)) := by
            rw [hch4.block _ hsA (fun e => by have := HVL.out _ e; omega)]; exact HFA.out
          obtain ⟨o0, o1, o2, o3, -⟩ := frame_block hf4
          have HX4 := hide hx4
          have HC4 := hide hch4
          have HA4 := hide ha4
          have HB4 := hide hb4
          have HRB := hide hrb
          have HBB := hide hbb
          have HF0L := hide hF0l
          clear hx4 hch4 ha4 hb4 hrb hbb hown3 hg3 happ3 hl2 hxw3 zf hk4 hf4 hF0l HX2 HC2 HA2 hw2 y0 y1 y2 y3 y4 yf1 n0 n1 n2 n3
          go_wp2_with (at_builtin; refine wpList_app_full _ rfl (.tmp 56) (.tmp 60) 22 rfl 56 i0 (.agg #[.int .i64 0, .int .i64 0, .int .i64 0, .slice none 0 0]) 4 48 Tryz.underlying22 hi hz0 hz1 hz2 rfl (by decide) _ _ _ rfl (hl4.alloc _) ⟨w4.heap.size, 0, none⟩ 3 3 N3 rfl (by decide) HL3.out (HE3.out w4) HO3.out ?e2 ?e3 ?_)
          case e2 => unfold maxLen; omega
          case e3 => omega
          intro vc w5 hown5 hg5 happ5
          obtain ⟨hx6, hch6, hl6, hc6, hk6, hbc⟩ := keepF_step HX4.out hsz0 HC4.out (fun j hj => Or.inr hj) hl4 hown5 hg5 happ5 3
          have ha6 := hk6 _ _ _ HA4.out (fun g cap e h => ⟨HRA.out g cap e (by omega), by omega, by rw [HN1.out, HN3.out]; exact take_fill (a := 1) (c := 2) HF0L.out⟩)
          have hb6 := hk6 _ _ _ HB4.out (fun g cap e h => ⟨HRB.out g cap e (by omega), by omega, by rw [HN2.out, HN3.out]; exact take_fill (a := 2) (c := 1) HF0L.out⟩)
          obtain ⟨sc, cc, rfl⟩ := slice_len hown5
          have hxw5 := kept_block (hl4.alloc _) hg5 (alloc_block HX4.out _) (by decide)
          obtain ⟨p0, p1, p2, p3, p4, pf⟩ := lists_block hxw5
          have pf3 := pf 3
          obtain ⟨w6, hw6⟩ : ∃ w6, w5.setCell ⟨wr.heap.size, 3, none⟩ (.slice sc (ps.length + 3) cc) = w6 := ⟨_, rfl⟩
          rw [hw6] at hx6 hch6 hl6 hc6 ha6 hb6
          have hch6o : Chg (fun j => (Value.slice sv ps.length cv).ownBlock = some j) wo w6 := (HCA.out.mono (fun _ _ => False.elim)).trans (hch6.mono (fun j _ hj => Or.inr hj))
          have HX6 := hide hx6
          have HC6 := hide hch6o
          have HA6 := hide ha6
          have HB6 := hide hb6
          have HC6' := hide hc6
          have HL6 := hide hl6
          have HBC := hide hbc
          obtain ⟨q0, q1, q2, q3, q4, qf⟩ := lists_block hx6
          have hb6w : w6.heap[b]? = some (.cells (cs.setIfInBounds 9 kvk) 46 (0, 0)) := by
            rw [hch6o.block b (lt_of_block HK.out.blk) (owns_ne HVR.out HK.out.blk (by decide))]; exact HK.out.blk
          have hrow6 := owns_chg HFR.out hch6o (fun j hj e => rows_ne HFR.out HVR.out (by decide) hj e)
          have hc12 : w6.cell? ⟨b, 12, none⟩ = some (.slice sf frs.length cf) := by rw [cell_of_row w6 b _ _ _ _ hb6w]; exact HC12.out
          have hf12 : w6.frozen? ⟨b, 12, none⟩ = false := by simp [World.frozen?, hb6w]
          have HB6w := hide hb6w
          clear hx6 hch6 hch6o ha6 hb6 hc6 hl6 hbc hown5 hg5 happ5 hl4 hxw5 pf hk6 HX4 HC4 HA4 HB4 hw4 z0 z1 z2 z3 z4 zf2 qf hb6w o0 o1 o2 o3
          have hbx : b ≠ wr.heap.size := by omega
          have HONE : Hid (∀ u ∈ [Value.slice sv ps.length cv, .slice sa (ps.length + 1) ca, .slice sb (ps.length + 2) cb, .slice sc (ps.length + 3) cc, .int .i64 M], u.oneCell' = true) := by
            intro u hu
            simp at hu
            rcases hu with rfl | rfl | rfl | rfl | rfl <;> rfl
          have HNA : Hid (frs.length + 1 ≤ maxLen) := by show _ ≤ _; unfold maxLen; omega
          have HNB : Hid ((frs.length + 1) * 104 ≤ 140737488355328) := by show _ ≤ _; omega
          obtain ⟨X, hX⟩ : ∃ X, X = [Value.slice sv ps.length cv, .slice sa (ps.length + 1) ca, .slice sb (ps.length + 2) cb, .slice sc (ps.length + 3) cc, .int .i64 M] := ⟨_, rfl⟩
          have HOWN : Hid ((w6.alloc (.cells #[.slice sv ps.length cv, .slice sa (ps.length + 1) ca, .slice sb (ps.length + 2) cb, .slice sc (ps.length + 3) cc, .int .i64 M] 75)).drew.ownsRow 0 75 5 (.slice sf frs.length cf) frs.length (frCells frs)) := hrow6.alloc _
          have HCEL : Hid (∀ j u, X[j]? = some u → (w6.alloc (.cells #[.slice sv ps.length cv, .slice sa (ps.length + 1) ca, .slice sb (ps.length + 2) cb, .slice sc (ps.length + 3) cc, .int .i64 M] 75)).drew.cell? ((⟨w6.heap.size, 0, none⟩ : Addr).add j) = some u) := by
            subst hX
            exact fun j u hu => lies_row j u hu
          have HBA6 : Hid ((w6.alloc (.cells #[.slice sv ps.length cv, .slice sa (ps.length + 1) ca, .slice sb (ps.length + 2) cb, .slice sc (ps.length + 3) cc, .int .i64 M] 75)).drew.heap[b]? = some (.cells (cs.setIfInBounds 9 kvk) 46 (0, 0))) := alloc_block HB6w.out _
          rw [← hX] at HONE
          have HXL : Hid (X.length = 1 * 5) := by rw [hX]; rfl
          have HXX := hide hX
          clear hX
          have c12a : (w6.alloc (.cells #[.slice sv ps.length cv, .slice sa (ps.length + 1) ca, .slice sb (ps.length + 2) cb, .slice sc (ps.length + 3) cc, .int .i64 M] 75)).cell? ⟨b, 12, none⟩ = some (.slice sf frs.length cf) := by
            rw [cell_of_row _ b _ _ _ _ (alloc_block HB6w.out _)]; exact HC12.out
          go_wp2
          go_region_law (refine step_app_full rfl (.tmp 67) (.tmp 69) 41 rfl 75 j0 (.agg #[.slice none 0 0, .slice none 0 0, .slice none 0 0, .slice none 0 0, .int .i64 0]) 5 104 Tryz.underlying41 ji jz0 jz1 jz2 rfl (by decide) (.slice sf frs.length cf) frs.length (frCells frs) (by simp [Act.eval]) HOWN.out ⟨w6.heap.size, 0, none⟩ 1 1 X (by simp [Act.eval]) (by decide) HXL.out HCEL.out HONE.out HNA.out HNB.out ?_; intro fv' w7 hown7 hg7 happ7; obtain ⟨sk', ck', hfv'⟩ := slice_len hown7; subst hfv'; have hb7 := kept_block HOWN.out hg7 HBA6.out (by decide); have c7 : w7.cell? ⟨b, 12, none⟩ = some (.slice sf frs.length cf) := (by rw [cell_of_row w7 b _ _ _ _ hb7]; exact HC12.out); have f7 : w7.frozen? ⟨b, 12, none⟩ = false := (by simp [World.frozen?, hb7]))
          all_goals go_wp2
          all_goals refine bodyPost_end (results_none rfl _ _ _) rfl ⟨rfl, ?_⟩
          all_goals
            have hfam : FamF w6 ⟨.slice sv ps.length cv, .slice sa (ps.length + 1) ca, .slice sb (ps.length + 2) cb, .slice sc (ps.length + 3) cc, M, ps.length⟩ := by
              refine ⟨?_, ?_, ?_, ?_⟩
              · have h := HL6.out; rw [HF0.out] at h; exact h
              · have h := HA6.out; rw [HF0.out, HN1.out, ← fillF_add] at h; exact h
              · have h := HB6.out; rw [HF0.out, HN2.out, ← fillF_add] at h; exact h
              · have h := HC6'.out; rw [HF0.out, HN3.out, ← fillF_add] at h; exact h
            obtain ⟨r, hr⟩ := keptF_end HK.out HF.out HB.out HR.out HRF.out HC6.out hfam (fun j hj => (HBA.out j hj).imp_right (fun h => by omega)) (fun j hj => (HBB.out j hj).imp_right (fun h => by omega)) (fun j hj => (HBC.out j hj).imp_right (fun h => by omega)) HXX.out hown7 hg7 happ7 hb7
            exact ⟨_, _, _, r, hr⟩
end Go.Proofs.YtckeblkadiehbaaGreat
