import Derived.Test.YtjccnikmcoidhaaChunksRel
import Derived.Lib.AppendStr
import Derived.Lib.SlBytesConst
import Derived.Deep.RegionHeld3
set_option linter.unusedVariables false
set_option linter.unusedSimpArgs false
/-
  sluicekeep.Chunks.
-/
namespace Go.Proofs.Ytjccnikmcoidhaa
open Go.RowKit
set_option linter.unusedSimpArgs false

set_option maxRecDepth 100000 in
set_option maxHeartbeats 6400000 in
theorem chunks_walk (sa : Option Addr) (cf : Nat) (qs : List (Fr × Value)) (tail : ByteArray) (cv : Value) (w : World) (hf : FsIn w sa qs) (hn : qs.length ≤ 1048576) (htl : tail.size ≤ 1048576) (hc : IntsArg w cv) :
    Calls Try.prog 3 #[.slice sa qs.length cf, .string tail, cv] w fun e w' => e = .returned (.bool true) ∧ Below w.heap.size w w' := by
  have kc := fun (w : World) (C : Array Value) (n c : Nat) => Lib.run_convert_bytes_const (P := Try.prog) w 24 5 C n c Try.underlying24 Try.underlying5
  obtain ⟨i0, hi, hz0, hz1, hz2⟩ := info_parts Try.info5
  obtain ⟨j0, ji, jz0, jz1, jz2⟩ := info_parts Try.info26
  have HF := hide hf
  have HC := hide hc
  clear hf hc
  go_enter Try.func3, Try.ntmps3
  go_wp2
  go_loopw [7, 8] (fun lv i wr => ∃ (k : Nat) (ps : List (Fr × Value)), k ≤ qs.length ∧ i = .int .i64 k ∧ L1 w wr k lv ps) (fun _ i _ => qs.length - (intOf i).toNat)
  case atStart => exact ⟨0, _, Nat.zero_le _, rfl, L1.start w⟩
  case round =>
    obtain ⟨k, ps, hk, rfl, hl1⟩ := hrel
    have hlen := hl1.len
    have hlen1 : ps.length ≤ k + 1 := by omega
    have hlen2 : k + 1 ≤ ps.length := by omega
    clear hlen
    by_cases hlt : k < qs.length
    · obtain ⟨fb, off, hsa, hfb, a0, a1, a2, a3⟩ := HF.out.cell k hlt
      subst hsa
      obtain ⟨q, hq⟩ : ∃ q, q = qs[k] := ⟨_, rfl⟩
      have hqm : q ∈ qs := by rw [hq]; exact List.getElem_mem _
      rw [← hq] at a0 a1 a2 a3
      obtain ⟨i1, i2, i3⟩ := HF.out.ok q hqm
      have hbq := (HF.out.body q hqm).chg (Chg.of_below (S := fun _ => False) hl1.bel)
      have b0 := (hl1.bel.cell (p := ⟨fb, off + k * 4, none⟩) hfb).trans a0
      have b1 := (hl1.bel.cell (p := ⟨fb, off + k * 4 + 1, none⟩) hfb).trans a1
      have b2 := (hl1.bel.cell (p := ⟨fb, off + k * 4 + 2, none⟩) hfb).trans a2
      have b3 := (hl1.bel.cell (p := ⟨fb, off + k * 4 + 3, none⟩) hfb).trans a3
      obtain ⟨⟨qk, qf, qst, qb⟩, qv⟩ := q
      simp only at b0 b1 b2 b3 i1 i2 i3 hbq
      obtain ⟨sq, cq, rfl⟩ := bytesA_len hbq
      have HL := hide hl1
      have HI := hide (show I64 qk ∧ I64 qf ∧ I64 qst from ⟨i1, i2, i3⟩)
      have HQ := hide hbq
      clear hl1 i1 i2 i3 hbq a0 a1 a2 a3 hq hqm HF
      go_wp2_with fail
      refine (tame_any qk qf qst sq qb cq wr HI.out.1 HI.out.2.1 HI.out.2.2 HQ.out).mono ?_
      rintro e w1 ⟨tk, tf, ts, tsa, tn, tc, tb, rfl, hto, htr, htb⟩
      have hrow := owns_chg HL.out.has.row (Chg.of_below (S := fun _ => False) htb) (fun _ _ => id)
      have HTO := hide hto
      have HTR := hide htr
      have HTB := hide htb
      clear hto htr htb b0 b1 b2 b3
      go_wp2_with (at_builtin; refine wpList_app _ rfl (.tmp 30) (.tmp 32) 22 rfl 26 j0 (.agg #[.int .i64 0, .int .i64 0, .int .i64 0, .slice none 0 0]) 4 48 Try.underlying22 ji jz0 jz1 jz2 rfl (by decide) _ _ _ rfl ((hrow.alloc _).alloc _) (.slice (some ⟨w1.heap.size + 1, 0, none⟩) 1 1) 1 (cellsOf [(⟨tk, tf, ts, tb⟩, .slice tsa tn tc)]) rfl rfl (lies_frame _ _ ⟨tk, tf, ts, tb⟩ _ _ _) (frame_one _ _ _ _) ?c3 ?c4 ?_)
      case c3 => unfold maxLen; omega
      case c4 => omega
      intro v' w2 hown2 hgrow2 hfr2
      have HN := hide (L1.next (fr := ⟨tk, tf, ts, tb⟩) HL.out HTR.out HTB.out HTO.out hown2 hgrow2 (by simpa using hfr2))
      clear hown2 hgrow2 hfr2 hrow
      go_wp2
      exact ⟨⟨k + 1, _, by omega, by go_num, HN.out⟩, by simp [intOf]; omega⟩
    · obtain ⟨g, cap, hlv, hcap⟩ := owned_slice hl1.has.row (by omega)
      subst hlv
      have HL := hide hl1
      clear hl1 HF
      go_wp2_with fail
      have hl1 := HL.out
      refine (wrote_any g cap ps wr hl1.has hl1.right (by omega)).mono ?_
      rintro e w1 ⟨v1, rfl, hown1, hb1⟩
      have hbd := layAll_le (fs := ps.map Prod.fst) (fun f hf => by
        obtain ⟨p, hp, rfl⟩ := List.mem_map.1 hf
        exact (hl1.right p hp).n)
      rw [List.length_map] at hbd
      obtain ⟨out, hout⟩ : ∃ out, layAll (ps.map Prod.fst) = out := ⟨_, rfl⟩
      rw [hout] at hown1 hbd
      have HOUT := hide hout
      have HB1 := hide hb1
      have hsz1 := hb1.size
      clear hl1 hout hb1
      go_wp2_with (at_builtin; refine Lib.wpList_append_own_string _ rfl (.tmp 41) (.tmp 42) 24 9 rfl wr.heap.size 5 i0 Try.underlying24 Try.underlying9 hi hz0 hz1 hz2 _ _ _ rfl hown1 tail rfl ?d1 ?d2 ?d3 ?_)
      case d1 => unfold maxLen; omega
      case d2 => omega
      case d3 => exact hsz1
      intro v2 w2 hown2 hg2 _
      have hge := layAll_ge (ps.map Prod.fst)
      rw [HOUT.out, List.length_map] at hge
      obtain ⟨ab, acap, hv2, hacap⟩ := owned_slice hown2 (by omega)
      subst hv2
      have hstr : (out ++ tail.data.toList).map B = out.map B ++ Lib.strCells tail := by simp [Lib.strCells]
      have hall : (out ++ tail.data.toList).length = out.length + tail.size := by simp [← ByteArray.size_data]
      obtain ⟨all, hALL⟩ : ∃ all, all = out ++ tail.data.toList := ⟨_, rfl⟩
      rw [← hALL] at hstr hall
      rw [← hstr] at hown2
      have htail : Tail w2 ab 0 acap all := ⟨(hown2.lt ab rfl).2, by omega, fun i hi => by rw [Nat.zero_add]; exact owns_cell hown2 (by omega)⟩
      have hb2 : Below wr.heap.size wr w2 := HB1.out.grown hg2 hsz1 (fun j hj => (hown1.lt j hj).1)
      have hl2 := HL.out.has.below hb2
      have hbw2 : Below w.heap.size w w2 := HL.out.bel.trans (hb2.mono HL.out.bel.size)
      have hs1 := sliced_any ab 0 acap (.slice none 0 0) all w2 htail (by omega) (Or.inl ⟨_, _, rfl⟩)
      rw [hall] at hs1
      have HS1 := hide hs1
      have HT2 := hide htail
      have HL2 := hide hl2
      have HALL := hide hALL
      have HLEN := hide hall
      clear hs1 htail hl2 hALL hall hstr hown2 hown1 hg2 hb2 HB1
      go_wp2_with fail
      refine HS1.out.mono ?_
      rintro e w3 ⟨tva, gva, psa, rfl, htda, hpa, hb3⟩
      have hbw3 := hbw2.trans (hb3.mono hbw2.size)
      have hs2 := sliced_any ab 0 acap cv all w3 ⟨Nat.lt_of_lt_of_le HT2.out.lt hb3.size, HT2.out.cap, fun i hi => (hb3.cell (p := ⟨ab, 0 + i, none⟩) HT2.out.lt).trans (HT2.out.cell i hi)⟩ (by rw [HLEN.out]; omega) (HC.out.below hbw3)
      rw [HLEN.out] at hs2
      have HS2 := hide hs2
      have HTA := hide htda
      have HPA := hide hpa
      have HB3 := hide hb3
      clear hs2 HS1 htda hpa hb3
      go_wp2_with fail
      refine HS2.out.mono ?_
      rintro e w4 ⟨tvb, gvb, psb, rfl, htdb, hpb, hb4⟩
      have hbw4 := hbw3.trans (hb4.mono hbw3.size)
      obtain ⟨ga, ca, gb, cb, hboth⟩ := both_of HL2.out HL.out.right (by omega) (by rw [HALL.out, HOUT.out]) HTA.out HPA.out HB3.out htdb hpb hb4
      obtain ⟨code, hcode⟩ : ∃ code, ((Rd.mk [] 0).feed all).2.code = code := ⟨_, rfl⟩
      rw [hcode] at hboth
      have hfew : psa.length ≤ 268435456 := by
        have h1 := congrArg List.length HPA.out
        rw [List.length_map] at h1
        have h2 := Rd.feed_few (Rd.mk [] 0) all
        have h3 := HLEN.out
        omega
      obtain ⟨ta0, ta1, ta2, -⟩ := told_block hboth.a
      obtain ⟨tb0, tb1, tb2, -⟩ := told_block hboth.b
      have hple := hboth.le
      have HBO := hide hboth
      clear hboth htdb hpb hb4 HTA HPA HB3 HS2 HT2 HL2 hcode
      have hd1 : decide ((psa.length : Int) < (ps.length : Int)) = false := by simp; omega
      have hd2 : ¬ psa.length < ps.length := by omega
      go_wp2_with fail
      go_quiet (fail)
      clear ta0 ta1 ta2 tb0 tb1 tb2 hd1
      go_wp2_with fail
      go_loopw [11, 14] (fun _ i wr => ∃ k : Nat, k ≤ psa.length ∧ i = .int .i64 k ∧ Below w4.heap.size w4 wr) (fun _ i _ => psa.length - (intOf i).toNat)
      case atStart => exact ⟨0, Nat.zero_le _, rfl, below_drewN (Below.refl _ _) _⟩
      case round =>
        obtain ⟨m, hm, rfl, hbm⟩ := hrel
        obtain ⟨ta0, ta1, ta2, -⟩ := told_block (told_below HBO.out.a hbm)
        obtain ⟨tb0, tb1, tb2, -⟩ := told_block (told_below HBO.out.b hbm)
        by_cases hlm : m < psa.length
        · have hha := HBO.out.ha.below hbm
          have hhb := HBO.out.hb.below hbm
          have hhl := HBO.out.hl.below hbm
          have hlmb : m < psb.length := by rw [HBO.out.len]; exact hlm
          obtain ⟨g1, c1, he1, hg1, hc1, x0, x1, x2, x3⟩ := hha.cells hlm
          simp only [Value.slice.injEq, Option.some.injEq, Addr.mk.injEq, and_true, true_and] at he1
          obtain ⟨rfl, rfl⟩ := he1
          obtain ⟨g2, c2, he2, hg2, hc2, y0, y1, y2, y3⟩ := hhb.cells hlmb
          simp only [Value.slice.injEq, Option.some.injEq, Addr.mk.injEq, and_true, true_and] at he2
          obtain ⟨rfl, -, rfl⟩ := he2
          have hsm := fst_eq HBO.out.same hlm hlmb
          rw [← hsm] at y0 y1 y2
          have hbx := hha.body psa[m] (List.getElem_mem _)
          have hby := hhb.body psb[m] (List.getElem_mem _)
          rw [← hsm] at hby
          obtain ⟨P, hP⟩ : ∃ P, P = psa[m] := ⟨_, rfl⟩
          obtain ⟨Q, hQ⟩ : ∃ Q, Q = psb[m].2 := ⟨_, rfl⟩
          rw [← hP] at x0 x1 x2 x3 y0 y1 y2 hbx hby
          rw [← hQ] at y3 hby
          have hPl := fun (h : m < ps.length) => (show P.1 = ps[m].1 from by rw [hP]; obtain ⟨r, hr⟩ := HBO.out.pre; exact fst_pre hr hlm h)
          obtain ⟨⟨fk, ff, fst, fb⟩, av⟩ := P
          simp only at x0 x1 x2 x3 y0 y1 y2 hbx hby hPl
          obtain ⟨s1, d1, rfl⟩ := bytesIn_len hbx
          obtain ⟨s2, d2, rfl⟩ := bytesIn_len hby
          have HBX := hide hbx
          have HBY := hide hby
          have HPL := hide hPl
          have HHL := hide hhl
          have HBM := hide hbm
          clear hbx hby hPl hhl hhb hha hP hQ hsm hbm ta1 ta2 tb1 tb2 hlmb
          have hm0 : (0 : Int) ≤ (m : Int) := by omega
          have hm1 : (m : Int) < (psa.length : Int) := by omega
          have hlta := lt_of_block (told_below HBO.out.a HBM.out)
          have hltb := lt_of_block (told_below HBO.out.b HBM.out)
          have hkeep : ∀ w' : World, Below wr.heap.size wr w' → w'.cell? ⟨w2.heap.size, 0, none⟩ = some (.slice (some ⟨ga, 0, none⟩) psa.length ca) ∧ w'.cell? ⟨w3.heap.size, 0, none⟩ = some (.slice (some ⟨gb, 0, none⟩) psa.length cb) ∧
              w'.cell? ⟨ga, m * 4, none⟩ = some (.int .i64 fk) ∧ w'.cell? ⟨ga, m * 4 + 1, none⟩ = some (.int .i64 ff) ∧ w'.cell? ⟨ga, m * 4 + 2, none⟩ = some (.int .i64 fst) ∧ w'.cell? ⟨ga, m * 4 + 3, none⟩ = some (.slice s1 fb.length d1) ∧
              w'.cell? ⟨gb, m * 4, none⟩ = some (.int .i64 fk) ∧ w'.cell? ⟨gb, m * 4 + 1, none⟩ = some (.int .i64 ff) ∧ w'.cell? ⟨gb, m * 4 + 2, none⟩ = some (.int .i64 fst) ∧ w'.cell? ⟨gb, m * 4 + 3, none⟩ = some (.slice s2 fb.length d2) := fun w' hb =>
            ⟨(hb.cell (p := ⟨w2.heap.size, 0, none⟩) hlta).trans ta0, (hb.cell (p := ⟨w3.heap.size, 0, none⟩) hltb).trans tb0,
              (hb.cell (p := ⟨ga, m * 4, none⟩) hg1).trans x0, (hb.cell (p := ⟨ga, m * 4 + 1, none⟩) hg1).trans x1, (hb.cell (p := ⟨ga, m * 4 + 2, none⟩) hg1).trans x2, (hb.cell (p := ⟨ga, m * 4 + 3, none⟩) hg1).trans x3,
              (hb.cell (p := ⟨gb, m * 4, none⟩) hg2).trans y0, (hb.cell (p := ⟨gb, m * 4 + 1, none⟩) hg2).trans y1, (hb.cell (p := ⟨gb, m * 4 + 2, none⟩) hg2).trans y2, (hb.cell (p := ⟨gb, m * 4 + 3, none⟩) hg2).trans y3⟩
          have HK := hide hkeep
          clear hkeep
          go_wp2_with fail
          go_region_held3 (fun w' => w'.cell? ⟨w2.heap.size, 0, none⟩ = some (.slice (some ⟨ga, 0, none⟩) psa.length ca) ∧ w'.cell? ⟨w3.heap.size, 0, none⟩ = some (.slice (some ⟨gb, 0, none⟩) psa.length cb) ∧
              w'.cell? ⟨ga, m * 4, none⟩ = some (.int .i64 fk) ∧ w'.cell? ⟨ga, m * 4 + 1, none⟩ = some (.int .i64 ff) ∧ w'.cell? ⟨ga, m * 4 + 2, none⟩ = some (.int .i64 fst) ∧ w'.cell? ⟨ga, m * 4 + 3, none⟩ = some (.slice s1 fb.length d1) ∧
              w'.cell? ⟨gb, m * 4, none⟩ = some (.int .i64 fk) ∧ w'.cell? ⟨gb, m * 4 + 1, none⟩ = some (.int .i64 ff) ∧ w'.cell? ⟨gb, m * 4 + 2, none⟩ = some (.int .i64 fst) ∧ w'.cell? ⟨gb, m * 4 + 3, none⟩ = some (.slice s2 fb.length d2)) (first | exact HSS.out | go_keep)
            (first | (go_at_call 7; refine (same_true fk ff fst s1 s2 fb.length d1 fb.length d2 fb _ ?_ ?_).mono ?_; exact HBX.out; exact HBY.out; rintro e w' ⟨rfl, hbs⟩; have HBS := hide hbs; have HSS := hide (HK.out w' ⟨hbs.os, hbs.tape, hbs.output, hbs.size, hbs.block⟩); clear hbs))
          have hbs : Below wr.heap.size wr w' := ⟨HBS.out.os, HBS.out.tape, HBS.out.output, HBS.out.size, HBS.out.block⟩
          have hbm' := HBM.out.trans (hbs.mono HBM.out.size)
          have HBM' := hide hbm'
          by_cases hml : m < ps.length
          · have hhl := HHL.out.below hbs
            obtain ⟨g3, c3, he3, hg3, hc3, v0, v1', v2, v3⟩ := hhl.cells hml
            simp only [Value.slice.injEq, Option.some.injEq, Addr.mk.injEq, and_true, true_and] at he3
            obtain ⟨rfl, rfl⟩ := he3
            have hpe := HPL.out hml
            rw [← hpe] at v0 v1' v2
            have hbl := hhl.body ps[m] (List.getElem_mem _)
            rw [← hpe] at hbl
            obtain ⟨R, hR⟩ : ∃ R, R = ps[m].2 := ⟨_, rfl⟩
            rw [← hR] at v3 hbl
            simp only at v0 v1' v2 hbl
            obtain ⟨s3, d3, rfl⟩ := bytesIn_len hbl
            have hbx' := HBX.out.chg (Chg.of_below (S := fun _ => False) hbs) (fun _ _ => id)
            have HBL := hide hbl
            have HBX' := hide hbx'
            obtain ⟨q0, q1, q2, q3, q4, q5, -⟩ := HSS.out
            have hga' : ga < w'.heap.size := Nat.lt_of_lt_of_le hg1 hbs.size
            have hta' : w2.heap.size < w'.heap.size := Nat.lt_of_lt_of_le hlta hbs.size
            have hm2 : (m : Int) < (ps.length : Int) := by omega
            have hkeep : ∀ w'' : World, Below w'.heap.size w' w'' → w''.cell? ⟨w2.heap.size, 0, none⟩ = some (.slice (some ⟨ga, 0, none⟩) psa.length ca) ∧
                w''.cell? ⟨ga, m * 4, none⟩ = some (.int .i64 fk) ∧ w''.cell? ⟨ga, m * 4 + 1, none⟩ = some (.int .i64 ff) ∧ w''.cell? ⟨ga, m * 4 + 2, none⟩ = some (.int .i64 fst) ∧ w''.cell? ⟨ga, m * 4 + 3, none⟩ = some (.slice s1 fb.length d1) ∧
                w''.cell? ⟨g, m * 4, none⟩ = some (.int .i64 fk) ∧ w''.cell? ⟨g, m * 4 + 1, none⟩ = some (.int .i64 ff) ∧ w''.cell? ⟨g, m * 4 + 2, none⟩ = some (.int .i64 fst) ∧ w''.cell? ⟨g, m * 4 + 3, none⟩ = some (.slice s3 fb.length d3) := fun w'' hb =>
              ⟨(hb.cell (p := ⟨w2.heap.size, 0, none⟩) hta').trans q0, (hb.cell (p := ⟨ga, m * 4, none⟩) hga').trans q2, (hb.cell (p := ⟨ga, m * 4 + 1, none⟩) hga').trans q3, (hb.cell (p := ⟨ga, m * 4 + 2, none⟩) hga').trans q4, (hb.cell (p := ⟨ga, m * 4 + 3, none⟩) hga').trans q5,
                (hb.cell (p := ⟨g, m * 4, none⟩) hg3).trans v0, (hb.cell (p := ⟨g, m * 4 + 1, none⟩) hg3).trans v1', (hb.cell (p := ⟨g, m * 4 + 2, none⟩) hg3).trans v2, (hb.cell (p := ⟨g, m * 4 + 3, none⟩) hg3).trans v3⟩
            have HK2 := hide hkeep
            clear hkeep hbl hR hpe hhl HHL HPL HBX HBY HBS HSS HK hbs hbm' hbx' x0 x1 x2 x3 y0 y1 y2 y3 ta0 tb0
            go_wp2_with fail
            go_region_held3 (fun w' => w'.cell? ⟨w2.heap.size, 0, none⟩ = some (.slice (some ⟨ga, 0, none⟩) psa.length ca) ∧
                w'.cell? ⟨ga, m * 4, none⟩ = some (.int .i64 fk) ∧ w'.cell? ⟨ga, m * 4 + 1, none⟩ = some (.int .i64 ff) ∧ w'.cell? ⟨ga, m * 4 + 2, none⟩ = some (.int .i64 fst) ∧ w'.cell? ⟨ga, m * 4 + 3, none⟩ = some (.slice s1 fb.length d1) ∧
                w'.cell? ⟨g, m * 4, none⟩ = some (.int .i64 fk) ∧ w'.cell? ⟨g, m * 4 + 1, none⟩ = some (.int .i64 ff) ∧ w'.cell? ⟨g, m * 4 + 2, none⟩ = some (.int .i64 fst) ∧ w'.cell? ⟨g, m * 4 + 3, none⟩ = some (.slice s3 fb.length d3)) (first | exact HSS2.out | go_keep)
              (first | (go_at_call 7; refine (same_true fk ff fst s1 s3 fb.length d1 fb.length d3 fb _ ?_ ?_).mono ?_; exact HBX'.out; exact HBL.out; rintro e w'' ⟨rfl, hbs⟩; have HBS2 := hide hbs; have HSS2 := hide (HK2.out w'' ⟨hbs.os, hbs.tape, hbs.output, hbs.size, hbs.block⟩); clear hbs))
            go_wp2
            have hb2 : Below w'.heap.size w' w'' := ⟨HBS2.out.os, HBS2.out.tape, HBS2.out.output, HBS2.out.size, HBS2.out.block⟩
            have hb3 := HBM'.out.trans (hb2.mono HBM'.out.size)
            go_roundw
            case rel => exact ⟨m + 1, by omega, by go_num, hb3⟩
            case measure => simp [intOf]; omega
          · clear HHL HPL HBX HBY HBS HSS HK hbs hbm' x0 x1 x2 x3 y0 y1 y2 y3 ta0 tb0
            go_wp2
            go_roundw
            case rel => exact ⟨m + 1, by omega, by go_num, HBM'.out⟩
            case measure => simp [intOf]; omega
        · have hbf : Below w.heap.size w wr := hbw4.trans (hbm.mono hbw4.size)
          have HBF := hide hbf
          clear hbf hbm
          by_cases ht : tail.data.toList = []
          · obtain ⟨hcz, hlz⟩ := HBO.out.none ht
            have hte : tail.toList.isEmpty = true := by rw [ByteArray.toList_eq, ht]; rfl
            have hcb : (code == 0) = true := by simp [hcz]
            have hlb : ((psa.length : Int) == (ps.length : Int)) = true := by simp [hlz]
            clear hcz hlz ht
            go_wp2
            all_goals go_ret
            all_goals exact ⟨rfl, HBF.out⟩
          · have hte : tail.toList.isEmpty = false := by
              rw [ByteArray.toList_eq]
              cases hl : tail.data.toList with
              | nil => exact absurd hl ht
              | cons _ _ => rfl
            clear ht
            go_wp2
            all_goals go_ret
            all_goals exact ⟨rfl, HBF.out⟩
end Go.Proofs.Ytjccnikmcoidhaa
