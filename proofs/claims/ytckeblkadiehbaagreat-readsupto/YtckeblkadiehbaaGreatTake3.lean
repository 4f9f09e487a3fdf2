/-
  (*frames.Reader).Take: the sixth byte, of a frame without a body.
-/
import Derived.Test.YtckeblkadiehbaaGreatTake2
namespace Go.Proofs.YtckeblkadiehbaaGreat
open Go.RowKit
set_option linter.unusedSimpArgs false

set_option maxRecDepth 100000 in
set_option maxHeartbeats 3200000 in
theorem take_six_done_bad (rb : Nat) (gv : Value) (L K F S : Int) (got : List UInt8) (c : UInt8) (w : World) (hr : RdB w rb gv L K F S 0) (hown : w.ownsRow 0 5 1 gv got.length (got.map B)) (hl : 5 ≤ got.length) (hl5 : got.length ≤ 5) (hc : (hdOf (got ++ [c])).code = 0) (hm : (hdOf (got ++ [c])).length = 0) (hbad : bodyCode (hdOf (got ++ [c])).kind (hdOf (got ++ [c])).flags ((got ++ [c]).drop 6) ≠ 0) :
    Calls Tryz.prog 70 #[.pointer (some ⟨rb, 0, none⟩), .int .u8 c.toNat] w fun e w' => e = .panicked [{ v := .iface 83 (.int .i64 (bodyCode (hdOf (got ++ [c])).kind (hdOf (got ++ [c])).flags ((got ++ [c]).drop 6))), recovered := false }] ∧ Gave w w' rb gv := by
  obtain ⟨i0, hi, hz0, hz1, hz2⟩ := info_parts Tryz.info5
  obtain ⟨c0, c1, c2, c3, c4, c5⟩ := hr.cells
  have f0 := hr.free 0
  have hrb := hr.lt
  go_enter Tryz.func70, Tryz.ntmps70
  go_wp2_with (at_builtin; refine wpList_app _ rfl (.tmp 12) (.tmp 14) 54 rfl 5 i0 (.int .u8 0) 1 1 Tryz.underlying54 hi hz0 hz1 hz2 rfl (by decide) _ _ _ rfl ((hown.alloc _).alloc _) (.slice (some ⟨w.heap.size + 1, 0, none⟩) 1 1) 1 [.int .u8 c.toNat] rfl rfl (lies_one (by simp)) ?c2 ?c3 ?c4 ?_)
  case c2 => intro u hu; simp at hu; subst hu; rfl
  case c3 => unfold maxLen; omega
  case c4 => omega
  intro v' w1 hown' hgrow hfr
  obtain ⟨hr1, g, cap, hv, hp⟩ := pushed hr hown hown' hgrow hfr
  subst hv
  obtain ⟨d0, -, -, -, -, -⟩ := hr1.cells
  have e0 := hr1.free 0
  obtain ⟨w2, hw2⟩ : ∃ w2, w1.setCell ⟨rb, 0, none⟩ (.slice (some ⟨g, 0, none⟩) (got.length + 1) cap) = w2 := ⟨_, rfl⟩
  rw [hw2] at hp
  have hnef := hp.nef
  have hrd := hp.rd
  have hlen : (got ++ [c]).length = got.length + 1 := by simp
  rw [hlen] at hrd
  clear hlen
  obtain ⟨p0, p1, p2, p3, p4, -⟩ := hrd.cells
  obtain ⟨z0, z1, z2, z3, zf⟩ := frame_block hp.fr
  have zf0 := zf 0
  have zf1 := zf 1
  have zf2 := zf 2
  have zf3 := zf 3
  clear c0 c1 c2 c3 c4 c5 hown' hgrow hfr hr1 hown hr hrd zf f0
  obtain ⟨x0, x1, x2, x3, x4, x5, hx, y0, y1, y2, y3, y4, y5⟩ := six_cells hp (by simp; omega)
  have hs6 : ((got.length : Int) + 1 == 6) = true := by simp; omega
  have hgl2 := hp.lt
  have HX : Hid (hdOf (got ++ [c]) = ⟨be2 x0 x1, x2.toNat, x3.toNat, be2 x4 x5⟩) := hx
  clear hx
  go_wp2_with fail
  refine (headOf_any g 0 (got.length + 1) cap x0 x1 x2 x3 x4 x5 w2 (by omega) y0 y1 y2 y3 y4 y5 hgl2).mono ?_
  rintro e w3 ⟨rfl, hb3⟩
  have hp3 := hp.below hb3
  have hrd3 := hp3.rd
  obtain ⟨-, r1, r2, r3, r4, -⟩ := hrd3.cells
  have s1 := hrd3.free 1
  have s2 := hrd3.free 2
  have s3 := hrd3.free 3
  have s4 := hrd3.free 4
  have hp4 := hp3.head hrb (be2 x0 x1) x2.toNat x3.toNat (be2 x4 x5)
  obtain ⟨w4, hw4⟩ : ∃ w4, ((((w3.setCell ⟨rb, 1, none⟩ (.int .i64 (be2 x0 x1))).setCell ⟨rb, 2, none⟩ (.int .i64 x2.toNat)).setCell ⟨rb, 3, none⟩ (.int .i64 x3.toNat)).setCell ⟨rb, 4, none⟩ (.int .i64 (be2 x4 x5))) = w4 := ⟨_, rfl⟩
  rw [hw4] at hp4
  have hrd4 := hp4.rd
  obtain ⟨t0, t1, t2, t3, t4, -⟩ := hrd4.cells
  clear p0 p1 p2 p3 p4 z0 z1 z2 z3 zf0 zf1 zf2 zf3 y0 y1 y2 y3 y4 y5 hrd4 hrd3
  go_wp2_with fail
  have hx3 : x3.toNat < 256 := x3.toNat_lt
  refine (checkHead_any (be2 x0 x1) x2.toNat x3.toNat (be2 x4 x5) w4 (by omega) (by omega)).mono ?_
  rintro e w5 ⟨he, hb5⟩
  have hp5 := hp4.below hb5
  have hcode : (hdOf (got ++ [c])).code = headCode (be2 x0 x1) x2.toNat x3.toNat (be2 x4 x5) := by rw [HX.out]; rfl
  rw [hcode] at hc
  rw [hc, endOf0] at he
  subst he
  have hlen : (hdOf (got ++ [c])).length = be2 x0 x1 := by rw [HX.out]
  rw [hlen] at hm
  have HH : Hid (headCode (be2 x0 x1) x2.toNat x3.toNat (be2 x4 x5) = 0) := hc
  have hm1 : be2 x0 x1 ≤ 0 := by omega
  have hm2 : 0 ≤ be2 x0 x1 := by omega
  clear hm
  clear hcode hlen t0 t1 t2 t3 t4 hc
  have hrd5 := hp5.rd
  have hlen : (got ++ [c]).length = got.length + 1 := by simp
  rw [hlen] at hrd5
  clear hlen
  obtain ⟨p0, p1, p2, p3, p4, -⟩ := hrd5.cells
  obtain ⟨z0, z1, z2, z3, zf⟩ := frame_block hp5.fr
  have zf0 := zf 0
  have zf1 := zf 1
  have zf2 := zf 2
  have zf3 := zf 3
  clear hrd5 zf
  have hx3' : (0 : Int) ≤ x3.toNat := by omega
  have hx3'' : (x3.toNat : Int) < 256 := by omega
  have HK : Hid ((hdOf (got ++ [c])).kind = x2.toNat ∧ (hdOf (got ++ [c])).flags = x3.toNat ∧ (hdOf (got ++ [c])).stream = be2 x4 x5) := by rw [HX.out]; exact ⟨rfl, rfl, rfl⟩
  have hd : decide ((got.length : Int) + 1 < 6) = false := by simp; omega
  have hd2 : decide ((got.length : Int) + 1 < 6 + be2 x0 x1) = false := by simp; omega
  have HB : Hid (((got ++ [c]).drop 6).length = 0) := by show _ = _; simp; omega
  have HV : Hid ((got ++ [c]).drop 6 = []) := by show _ = _; apply List.drop_of_length_le; simp; omega
  have hcap : 6 ≤ cap := by have := hp5.room; simp at this; omega
  have hgl5 := hp5.lt
  clear hp hp3 hp4 hb3 hb5 hw2 hw4 d0 e0
  rcases Nat.eq_or_lt_of_le hcap with h6 | h6
  · subst h6
    go_wp2
    go_quiet (fail)
    go_wp2_with fail
    have hck := checkBody_any g 0 (0) ((got ++ [c]).drop 6) (be2 x0 x1) x2.toNat x3.toNat (be2 x4 x5) (w5.drewN nq) (by rw [HB.out]; omega) (by rw [HB.out]; omega) hx3' hx3'' hgl5 (fun h => by have := len_four HH.out h; omega) (by rw [HV.out]; intro i hi; exact absurd hi (by simp))
    rw [HB.out] at hck
    refine hck.mono ?_
    clear hck
    rintro e w6 ⟨he, hb6⟩
    have hp6 := hp5.below (((below_drewN (Below.refl _ _) nq)).trans hb6)
    rw [HK.out.1, HK.out.2.1] at hbad
    rw [endOf_ne hbad] at he
    subst he
    exact ⟨rfl, by rw [HK.out.1, HK.out.2.1], _, _, _, _, _, hp6.rd, hp6.chg⟩
  · clear hcap
    go_wp2
    go_quiet (fail)
    go_wp2_with fail
    have hck := checkBody_any g 6 (cap - 6) ((got ++ [c]).drop 6) (be2 x0 x1) x2.toNat x3.toNat (be2 x4 x5) (w5.drewN nq) (by rw [HB.out]; omega) (by rw [HB.out]; omega) hx3' hx3'' hgl5 (fun h => by have := len_four HH.out h; omega) (by rw [HV.out]; intro i hi; exact absurd hi (by simp))
    rw [HB.out] at hck
    refine hck.mono ?_
    clear hck
    rintro e w6 ⟨he, hb6⟩
    have hp6 := hp5.below (((below_drewN (Below.refl _ _) nq)).trans hb6)
    rw [HK.out.1, HK.out.2.1] at hbad
    rw [endOf_ne hbad] at he
    subst he
    exact ⟨rfl, by rw [HK.out.1, HK.out.2.1], _, _, _, _, _, hp6.rd, hp6.chg⟩

set_option maxRecDepth 100000 in
set_option maxHeartbeats 3200000 in
theorem take_six_done_ok (rb : Nat) (gv : Value) (L K F S : Int) (got : List UInt8) (c : UInt8) (w : World) (hr : RdB w rb gv L K F S 0) (hown : w.ownsRow 0 5 1 gv got.length (got.map B)) (hl : 5 ≤ got.length) (hl5 : got.length ≤ 5) (hc : (hdOf (got ++ [c])).code = 0) (hm : (hdOf (got ++ [c])).length = 0) (hok : bodyCode (hdOf (got ++ [c])).kind (hdOf (got ++ [c])).flags ((got ++ [c]).drop 6) = 0) :
    Calls Tryz.prog 70 #[.pointer (some ⟨rb, 0, none⟩), .int .u8 c.toNat] w fun e w' => Ends w w' rb gv e (hdOf (got ++ [c])).kind (hdOf (got ++ [c])).flags (hdOf (got ++ [c])).stream ((got ++ [c]).drop 6) := by
  obtain ⟨i0, hi, hz0, hz1, hz2⟩ := info_parts Tryz.info5
  obtain ⟨c0, c1, c2, c3, c4, c5⟩ := hr.cells
  have f0 := hr.free 0
  have hrb := hr.lt
  go_enter Tryz.func70, Tryz.ntmps70
  go_wp2_with (at_builtin; refine wpList_app _ rfl (.tmp 12) (.tmp 14) 54 rfl 5 i0 (.int .u8 0) 1 1 Tryz.underlying54 hi hz0 hz1 hz2 rfl (by decide) _ _ _ rfl ((hown.alloc _).alloc _) (.slice (some ⟨w.heap.size + 1, 0, none⟩) 1 1) 1 [.int .u8 c.toNat] rfl rfl (lies_one (by simp)) ?c2 ?c3 ?c4 ?_)
  case c2 => intro u hu; simp at hu; subst hu; rfl
  case c3 => unfold maxLen; omega
  case c4 => omega
  intro v' w1 hown' hgrow hfr
  obtain ⟨hr1, g, cap, hv, hp⟩ := pushed hr hown hown' hgrow hfr
  subst hv
  obtain ⟨d0, -, -, -, -, -⟩ := hr1.cells
  have e0 := hr1.free 0
  obtain ⟨w2, hw2⟩ : ∃ w2, w1.setCell ⟨rb, 0, none⟩ (.slice (some ⟨g, 0, none⟩) (got.length + 1) cap) = w2 := ⟨_, rfl⟩
  rw [hw2] at hp
  have hnef := hp.nef
  have hrd := hp.rd
  have hlen : (got ++ [c]).length = got.length + 1 := by simp
  rw [hlen] at hrd
  clear hlen
  obtain ⟨p0, p1, p2, p3, p4, -⟩ := hrd.cells
  obtain ⟨z0, z1, z2, z3, zf⟩ := frame_block hp.fr
  have zf0 := zf 0
  have zf1 := zf 1
  have zf2 := zf 2
  have zf3 := zf 3
  clear c0 c1 c2 c3 c4 c5 hown' hgrow hfr hr1 hown hr hrd zf f0
  obtain ⟨x0, x1, x2, x3, x4, x5, hx, y0, y1, y2, y3, y4, y5⟩ := six_cells hp (by simp; omega)
  have hs6 : ((got.length : Int) + 1 == 6) = true := by simp; omega
  have hgl2 := hp.lt
  have HX : Hid (hdOf (got ++ [c]) = ⟨be2 x0 x1, x2.toNat, x3.toNat, be2 x4 x5⟩) := hx
  clear hx
  go_wp2_with fail
  refine (headOf_any g 0 (got.length + 1) cap x0 x1 x2 x3 x4 x5 w2 (by omega) y0 y1 y2 y3 y4 y5 hgl2).mono ?_
  rintro e w3 ⟨rfl, hb3⟩
  have hp3 := hp.below hb3
  have hrd3 := hp3.rd
  obtain ⟨-, r1, r2, r3, r4, -⟩ := hrd3.cells
  have s1 := hrd3.free 1
  have s2 := hrd3.free 2
  have s3 := hrd3.free 3
  have s4 := hrd3.free 4
  have hp4 := hp3.head hrb (be2 x0 x1) x2.toNat x3.toNat (be2 x4 x5)
  obtain ⟨w4, hw4⟩ : ∃ w4, ((((w3.setCell ⟨rb, 1, none⟩ (.int .i64 (be2 x0 x1))).setCell ⟨rb, 2, none⟩ (.int .i64 x2.toNat)).setCell ⟨rb, 3, none⟩ (.int .i64 x3.toNat)).setCell ⟨rb, 4, none⟩ (.int .i64 (be2 x4 x5))) = w4 := ⟨_, rfl⟩
  rw [hw4] at hp4
  have hrd4 := hp4.rd
  obtain ⟨t0, t1, t2, t3, t4, -⟩ := hrd4.cells
  clear p0 p1 p2 p3 p4 z0 z1 z2 z3 zf0 zf1 zf2 zf3 y0 y1 y2 y3 y4 y5 hrd4 hrd3
  go_wp2_with fail
  have hx3 : x3.toNat < 256 := x3.toNat_lt
  refine (checkHead_any (be2 x0 x1) x2.toNat x3.toNat (be2 x4 x5) w4 (by omega) (by omega)).mono ?_
  rintro e w5 ⟨he, hb5⟩
  have hp5 := hp4.below hb5
  have hcode : (hdOf (got ++ [c])).code = headCode (be2 x0 x1) x2.toNat x3.toNat (be2 x4 x5) := by rw [HX.out]; rfl
  rw [hcode] at hc
  rw [hc, endOf0] at he
  subst he
  have hlen : (hdOf (got ++ [c])).length = be2 x0 x1 := by rw [HX.out]
  rw [hlen] at hm
  have HH : Hid (headCode (be2 x0 x1) x2.toNat x3.toNat (be2 x4 x5) = 0) := hc
  have hm1 : be2 x0 x1 ≤ 0 := by omega
  have hm2 : 0 ≤ be2 x0 x1 := by omega
  clear hm
  clear hcode hlen t0 t1 t2 t3 t4 hc
  have hrd5 := hp5.rd
  have hlen : (got ++ [c]).length = got.length + 1 := by simp
  rw [hlen] at hrd5
  clear hlen
  obtain ⟨p0, p1, p2, p3, p4, -⟩ := hrd5.cells
  obtain ⟨z0, z1, z2, z3, zf⟩ := frame_block hp5.fr
  have zf0 := zf 0
  have zf1 := zf 1
  have zf2 := zf 2
  have zf3 := zf 3
  clear hrd5 zf
  have hx3' : (0 : Int) ≤ x3.toNat := by omega
  have hx3'' : (x3.toNat : Int) < 256 := by omega
  have HK : Hid ((hdOf (got ++ [c])).kind = x2.toNat ∧ (hdOf (got ++ [c])).flags = x3.toNat ∧ (hdOf (got ++ [c])).stream = be2 x4 x5) := by rw [HX.out]; exact ⟨rfl, rfl, rfl⟩
  have hd : decide ((got.length : Int) + 1 < 6) = false := by simp; omega
  have hd2 : decide ((got.length : Int) + 1 < 6 + be2 x0 x1) = false := by simp; omega
  have HB : Hid (((got ++ [c]).drop 6).length = 0) := by show _ = _; simp; omega
  have HV : Hid ((got ++ [c]).drop 6 = []) := by show _ = _; apply List.drop_of_length_le; simp; omega
  have hcap : 6 ≤ cap := by have := hp5.room; simp at this; omega
  have hgl5 := hp5.lt
  clear hp hp3 hp4 hb3 hb5 hw2 hw4 d0 e0
  rcases Nat.eq_or_lt_of_le hcap with h6 | h6
  · subst h6
    go_wp2
    go_quiet (fail)
    go_wp2_with fail
    have hck := checkBody_any g 0 (0) ((got ++ [c]).drop 6) (be2 x0 x1) x2.toNat x3.toNat (be2 x4 x5) (w5.drewN nq) (by rw [HB.out]; omega) (by rw [HB.out]; omega) hx3' hx3'' hgl5 (fun h => by have := len_four HH.out h; omega) (by rw [HV.out]; intro i hi; exact absurd hi (by simp))
    rw [HB.out] at hck
    refine hck.mono ?_
    clear hck
    rintro e w6 ⟨he, hb6⟩
    have hp6 := hp5.below (((below_drewN (Below.refl _ _) nq)).trans hb6)
    rw [HK.out.1, HK.out.2.1] at hok
    rw [hok, endOf0] at he
    subst he
    clear p0 p1 p2 p3 p4
    have hrd6 := hp6.rd
    have hlen : (got ++ [c]).length = got.length + 1 := by simp
    rw [hlen] at hrd6
    clear hlen
    obtain ⟨p0, p1, p2, p3, p4, -⟩ := hrd6.cells
    have hrb6 : rb < w6.heap.size := hp6.rd.lt
    have hsz6 := hp6.size
    clear hok hb6 zf0 zf1 zf2 zf3 z0 z1 z2 z3 hp5 hd hd2 hrd6 hgl5
    go_wp2
    go_region
    go_wp2_with (at_builtin; refine wpList_app _ rfl (.tmp 86) (.tmp 87) 54 rfl 5 i0 (.int .u8 0) 1 1 Tryz.underlying54 hi hz0 hz1 hz2 rfl (by decide) _ _ _ rfl (World.ownsRow_nil _ _ _ _) (.slice (some ⟨g, 0, none⟩) 0 0) 0 [] rfl ?d1 ?d2 ?d3 ?d4 ?d5 ?_)
    case d1 => rfl
    case d2 => exact Or.inr ⟨_, _, rfl, fun j u hu => by simp at hu⟩
    case d3 => intro u hu; cases hu
    case d4 => exact Nat.zero_le _
    case d5 => exact Nat.zero_le _
    intro v' w8 hown8 hgrow8 hfr8
    obtain ⟨hp8, hfb8, sa, n8, c8, hv8⟩ := told hp6 hown8 hgrow8
    subst hv8
    have hrd8 := hp8.rd
    have hlen : (got ++ [c]).length = got.length + 1 := by simp
    rw [hlen] at hrd8
    clear hlen
    clear p0 p1 p2 p3 p4
    obtain ⟨p0, p1, p2, p3, p4, -⟩ := hrd8.cells
    have rf := hrd8.free 0
    obtain ⟨z0, z1, z2, z3, zf⟩ := frame_block hp8.fr
    have zf0 := zf 0
    have zf1 := zf 1
    have zf2 := zf 2
    have zf3 := zf 3
    obtain ⟨y0, y1, y2, y3, yf⟩ := frame_block hfb8
    have yf3 := yf 3
    have hne1 : w6.heap.size ≠ rb := by omega
    have hne2 : w6.heap.size ≠ w.heap.size := by omega
    have hne3 : rb ≠ w.heap.size := by omega
    clear zf yf
    have hgN : g < w6.heap.size := hp6.lt
    have hown9 : w8.ownsRow 0 5 1 (.slice sa n8 c8) ((got ++ [c]).drop 6).length (((got ++ [c]).drop 6).map B) := by
      rw [HB.out, HV.out]; simpa using hown8
    have hfr9 : (Value.slice sa n8 c8).ownBlock = none ∨ (Value.slice sa n8 c8).ownBlock = some (w6.heap.size + 1) := hfr8
    have H := ends_of (k := x2.toNat) (f := x3.toNat) (s := be2 x4 x5) hp8 (by omega) hfb8 hown9 hfr9 hgN hrb _ rfl
    clear hown8 hown9 hfr8 hfr9 hgrow8 hrd8
    go_wp2
    rw [HK.out.1, HK.out.2.1, HK.out.2.2]
    refine bodyPost_ret (v := .tuple #[.agg #[.int .i64 x2.toNat, .int .i64 x3.toNat, .int .i64 (be2 x4 x5), .slice sa n8 c8], .bool true]) ?_ rfl ⟨_, _, _, _, _, _, rfl, H⟩
    simp [results, Tryz.results70, go_sem, z0, z1, z2, z3, p0, y0, y1, y2, y3, hne1, hne2, hne3]
  · clear hcap
    go_wp2
    go_quiet (fail)
    go_wp2_with fail
    have hck := checkBody_any g 6 (cap - 6) ((got ++ [c]).drop 6) (be2 x0 x1) x2.toNat x3.toNat (be2 x4 x5) (w5.drewN nq) (by rw [HB.out]; omega) (by rw [HB.out]; omega) hx3' hx3'' hgl5 (fun h => by have := len_four HH.out h; omega) (by rw [HV.out]; intro i hi; exact absurd hi (by simp))
    rw [HB.out] at hck
    refine hck.mono ?_
    clear hck
    rintro e w6 ⟨he, hb6⟩
    have hp6 := hp5.below (((below_drewN (Below.refl _ _) nq)).trans hb6)
    rw [HK.out.1, HK.out.2.1] at hok
    rw [hok, endOf0] at he
    subst he
    clear p0 p1 p2 p3 p4
    have hrd6 := hp6.rd
    have hlen : (got ++ [c]).length = got.length + 1 := by simp
    rw [hlen] at hrd6
    clear hlen
    obtain ⟨p0, p1, p2, p3, p4, -⟩ := hrd6.cells
    have hrb6 : rb < w6.heap.size := hp6.rd.lt
    have hsz6 := hp6.size
    clear hok hb6 zf0 zf1 zf2 zf3 z0 z1 z2 z3 hp5 hd hd2 hrd6 hgl5
    go_wp2
    go_region
    go_wp2_with (at_builtin; refine wpList_app _ rfl (.tmp 86) (.tmp 87) 54 rfl 5 i0 (.int .u8 0) 1 1 Tryz.underlying54 hi hz0 hz1 hz2 rfl (by decide) _ _ _ rfl (World.ownsRow_nil _ _ _ _) (.slice (some ⟨g, 6, none⟩) 0 (cap - 6)) 0 [] rfl ?d1 ?d2 ?d3 ?d4 ?d5 ?_)
    case d1 => rfl
    case d2 => exact Or.inr ⟨_, _, rfl, fun j u hu => by simp at hu⟩
    case d3 => intro u hu; cases hu
    case d4 => exact Nat.zero_le _
    case d5 => exact Nat.zero_le _
    intro v' w8 hown8 hgrow8 hfr8
    obtain ⟨hp8, hfb8, sa, n8, c8, hv8⟩ := told hp6 hown8 hgrow8
    subst hv8
    have hrd8 := hp8.rd
    have hlen : (got ++ [c]).length = got.length + 1 := by simp
    rw [hlen] at hrd8
    clear hlen
    clear p0 p1 p2 p3 p4
    obtain ⟨p0, p1, p2, p3, p4, -⟩ := hrd8.cells
    have rf := hrd8.free 0
    obtain ⟨z0, z1, z2, z3, zf⟩ := frame_block hp8.fr
    have zf0 := zf 0
    have zf1 := zf 1
    have zf2 := zf 2
    have zf3 := zf 3
    obtain ⟨y0, y1, y2, y3, yf⟩ := frame_block hfb8
    have yf3 := yf 3
    have hne1 : w6.heap.size ≠ rb := by omega
    have hne2 : w6.heap.size ≠ w.heap.size := by omega
    have hne3 : rb ≠ w.heap.size := by omega
    clear zf yf
    have hgN : g < w6.heap.size := hp6.lt
    have hown9 : w8.ownsRow 0 5 1 (.slice sa n8 c8) ((got ++ [c]).drop 6).length (((got ++ [c]).drop 6).map B) := by
      rw [HB.out, HV.out]; simpa using hown8
    have hfr9 : (Value.slice sa n8 c8).ownBlock = none ∨ (Value.slice sa n8 c8).ownBlock = some (w6.heap.size + 1) := hfr8
    have H := ends_of (k := x2.toNat) (f := x3.toNat) (s := be2 x4 x5) hp8 (by omega) hfb8 hown9 hfr9 hgN hrb _ rfl
    clear hown8 hown9 hfr8 hfr9 hgrow8 hrd8
    go_wp2
    rw [HK.out.1, HK.out.2.1, HK.out.2.2]
    refine bodyPost_ret (v := .tuple #[.agg #[.int .i64 x2.toNat, .int .i64 x3.toNat, .int .i64 (be2 x4 x5), .slice sa n8 c8], .bool true]) ?_ rfl ⟨_, _, _, _, _, _, rfl, H⟩
    simp [results, Tryz.results70, go_sem, z0, z1, z2, z3, p0, y0, y1, y2, y3, hne1, hne2, hne3]
end Go.Proofs.YtckeblkadiehbaaGreat
