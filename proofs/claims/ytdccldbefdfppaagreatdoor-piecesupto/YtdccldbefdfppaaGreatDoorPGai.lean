import Derived.Test.YtdccldbefdfppaaGreatDoorPGah
import Derived.Test.YtdccldbefdfppaaGreatDoorPGac
import Derived.Test.YtdccldbefdfppaaGreatDoorPGaf
import Derived.BigRegion
import Derived.MapKept
set_option linter.unusedVariables false
set_option linter.unusedSimpArgs false
namespace Go.Proofs.YtdccldbefdfppaaGreatDoor
open Go.RowKit
section
set_option maxHeartbeats 400000 in
theorem isNaN_any (n : Int) (w : World) : Calls Tryz.prog 110 #[.int .i64 n] w fun e w' => e = .returned (.bool false) ∧ w' = w := by
 go_enter Tryz.func110, Tryz.ntmps110
 go_wp2
 go_ret
 exact ⟨by simp, rfl⟩
def cmpZ (a b : Int) : Int := if a < b then -1 else if b < a then 1 else 0
set_option maxHeartbeats 800000 in
theorem cmpInt_any (a b : Int) (w : World) : Calls Tryz.prog 80 #[.int .i64 a, .int .i64 b] w fun e w' => e = .returned (.int .i64 (cmpZ a b)) ∧ w' = w := by
 have H1 := hide (isNaN_any a w)
 have H2 := hide (isNaN_any b w)
 unfold cmpZ
 by_cases h1 : a < b
 ·go_enter Tryz.func80, Tryz.ntmps80
  go_wp2_with fail
  refine H1.out.mono ?_
  rintro e w' ⟨rfl, hw'⟩
  rw [hw']
  clear hw' w'
  go_wp2_with fail
  refine H2.out.mono ?_
  rintro e w' ⟨rfl, hw'⟩
  rw [hw']
  clear hw' w'
  go_wp2
  go_ret
  exact ⟨by simp [h1], rfl⟩
 ·by_cases h2 : b < a
  all_goals
   go_enter Tryz.func80, Tryz.ntmps80
   go_wp2_with fail
   refine H1.out.mono ?_
   rintro e w' ⟨rfl, hw'⟩
   rw [hw']
   clear hw' w'
   go_wp2_with fail
   refine H2.out.mono ?_
   rintro e w' ⟨rfl, hw'⟩
   rw [hw']
   clear hw' w'
   go_wp2
   go_ret
   exact ⟨by simp [h1, h2], rfl⟩
set_option maxRecDepth 100000 in
set_option maxHeartbeats 800000 in
theorem sadd1_any (q1 q2 : Nat) (s1 s2 : StM) (w : World) (h1 : StB w q1 s1) (h2 : StB w q2 s2) : Calls Tryz.prog 79 #[.pointer (some ⟨q1, 0, none⟩), .pointer (some ⟨q2, 0, none⟩)] w fun e w' => e = .returned (.int .i64 (cmpZ s1.number s2.number)) ∧ Below w.heap.size w w' := by
 have c3 := h1.c3
 have d3 := h2.c3
 have HC : Hid (∀ w, Calls Tryz.prog 80 #[.int .i64 s1.number, .int .i64 s2.number] w fun e w' => e = .returned (.int .i64 (cmpZ s1.number s2.number)) ∧ w' = w) := fun w => cmpInt_any _ _ w
 clear h1 h2
 generalize cmpZ s1.number s2.number = Z at *
 go_enter Tryz.func79, Tryz.ntmps79
 go_upto_region 1 with fail
 go_cut [4] (fun s4 wx => s4 = .int .i64 Z ∧ Below w.heap.size w wx)
 case first =>
  go_region_held3 (fun w' => w'.cell? ⟨q1, 3, none⟩ = some (.int .i64 s1.number) ∧ w'.cell? ⟨q2, 3, none⟩ = some (.int .i64 s2.number)) (go_keep)
   (first | (go_at_call 80; refine (HC.out _).mono ?_; rintro e w' ⟨rfl, rfl⟩))
  all_goals (go_wp2_with fail; go_meet; exact ⟨rfl, ⟨rfl, rfl, rfl, Nat.le_refl _, fun _ _ => rfl⟩⟩)
 case rest =>
  obtain ⟨rfl, hbx⟩ := hcut
  have HX := hide hbx
  clear hbx
  go_wp2
  go_ret
  exact ⟨rfl, HX.out⟩
theorem cmpZ_ge {a b : Int} (h : b ≤ a) : (cmpZ a b < 0) = False := by
 unfold cmpZ
 simp only [eq_iff_iff, iff_false]
 split
 ·omega
 ·split <;> omega
set_option maxRecDepth 100000 in
set_option maxHeartbeats 1600000 in
theorem bLen64_any (n : Nat) (hn : n ≤ 12) (w : World) : Calls Tryz.prog 150 #[.int .u64 n] w fun e w' => ∃ k : Int, e = .returned (.int .i64 k) ∧ w' = w := by
 obtain rfl | rfl | rfl | rfl | rfl | rfl | rfl | rfl | rfl | rfl | rfl | rfl | rfl : n = 0 ∨ n = 1 ∨ n = 2 ∨ n = 3 ∨ n = 4 ∨ n = 5 ∨ n = 6 ∨ n = 7 ∨ n = 8 ∨ n = 9 ∨ n = 10 ∨ n = 11 ∨ n = 12 := by omega
 all_goals
  go_enter Tryz.func150, Tryz.ntmps150
  go_wp2
  go_ret
  exact ⟨_, rfl, rfl⟩
end
section
def insL (n : Int) : List Int → List Int
 | [] => [n]
 | x :: r => if n < x then n :: x :: r else x :: insL n r
def insS (p : Str) : List Str → List Str
 | [] => [p]
 | x :: r => if p.2.number < x.2.number then p :: x :: r else x :: insS p r
theorem insS_split (p : Str) : ∀ (A B : List Str), (∀ a ∈ A, a.2.number ≤ p.2.number) → (∀ b ∈ B, p.2.number < b.2.number) → insS p (A ++ B) = A ++ p :: B
 | [], [], _, _ => rfl
 | [], b :: r, _, h => by
  rw [List.nil_append, insS, if_pos (h b List.mem_cons_self)]; rfl
 | a :: A, B, h, hB => by
  rw [List.cons_append, insS, if_neg (by have := h a List.mem_cons_self; omega), insS_split p A B (fun x hx => h x (List.mem_cons_of_mem _ hx)) hB]
  rfl
theorem insL_length (p : Int) : ∀ L : List Int, (insL p L).length = L.length + 1
 | [] => rfl
 | x :: r => by
  rw [insL]
  split
  ·rfl
  ·simp [insL_length p r]
theorem insL_mem {p q : Int} : ∀ {L : List Int}, q ∈ insL p L ↔ q = p ∨ q ∈ L
 | [] => by simp [insL]
 | x :: r => by
  rw [insL]
  split
  ·simp
  ·simp only [List.mem_cons, insL_mem (L := r)]
   constructor
   ·rintro (h | h | h)
    ·exact Or.inr (Or.inl h)
    ·exact Or.inl h
    ·exact Or.inr (Or.inr h)
   ·rintro (h | h | h)
    ·exact Or.inr (Or.inl h)
    ·exact Or.inl h
    ·exact Or.inr (Or.inr h)
theorem insL_nodup {p : Int} : ∀ {L : List Int}, L.Nodup → p ∉ L → (insL p L).Nodup
 | [], _, _ => by simp [insL]
 | x :: r, h, hp => by
  rw [insL]
  split
  ·exact List.nodup_cons.2 ⟨hp, h⟩
  ·rw [List.nodup_cons] at h ⊢
   refine ⟨fun hm => ?_, insL_nodup h.2 (fun e => hp (List.mem_cons_of_mem _ e))⟩
   rcases insL_mem.1 hm with e | e
   ·exact hp (by rw [e]; exact List.mem_cons_self)
   ·exact h.1 e
def Rise (l : List Int) : Prop := l.Pairwise (· < ·)
theorem insL_rise {p : Int} : ∀ {L : List Int}, Rise L → p ∉ L → Rise (insL p L)
 | [], _, _ => by simp [insL, Rise]
 | x :: r, h, hp => by
  unfold Rise at h ⊢
  rw [insL]
  rw [List.pairwise_cons] at h
  split
  ·rename_i hlt
   refine List.pairwise_cons.2 ⟨?_, List.pairwise_cons.2 h⟩
   intro a ha
   rcases List.mem_cons.1 ha with e | e
   ·rw [e]; exact hlt
   ·have := h.1 a e; omega
  ·rename_i hge
   refine List.pairwise_cons.2 ⟨?_, insL_rise h.2 (fun e => hp (List.mem_cons_of_mem _ e))⟩
   intro a ha
   rcases insL_mem.1 ha with e | e
   ·have : p ≠ x := fun e => hp (by rw [e]; exact List.mem_cons_self)
    rw [e]; omega
   ·exact h.1 a e
theorem rise_at {l : List Int} (h : Rise l) {i j : Nat} (hij : i < j) (hj : j < l.length) : l[i]'(by omega) < l[j] := List.pairwise_iff_getElem.1 h i j (by omega) hj hij
theorem opnCells_swap (A B : List Str) (a x : Str) : ((opnCells (A ++ a :: x :: B)).set (A.length + 1) (.pointer (some ⟨a.1, 0, none⟩))).set A.length (.pointer (some ⟨x.1, 0, none⟩)) = opnCells (A ++ x :: a :: B) := by
 unfold opnCells
 simp only [List.map_append, List.map_cons]
 rw [List.set_append_right _ _ (by simp), List.set_append_right _ _ (by simp)]
 simp
set_option maxRecDepth 100000 in
set_option maxHeartbeats 3200000 in
theorem insSort_put (v : Value) (P : List Str) (x : Str) (w : World) (ho : OpenS w v (P ++ [x])) (hs : ∀ i j (h : j < P.length) (hij : i < j), (P[i]'(by omega)).2.number < P[j].2.number) (hL : P.length ≤ 11) :
  Calls Tryz.prog 141 #[v, .int .i64 0, .int .i64 ((P.length + 1 : Nat) : Int), .func (.func 79) #[] #[]] w fun e w' => e = .returned (.tuple #[]) ∧ Chg (fun j => v.ownBlock = some j) w w' ∧ OpenS w' v (insS x P) := by
 obtain ⟨sr, cr, hv⟩ := slice_len ho.row
 obtain ⟨N, hN⟩ : ∃ N, N = P.length + 1 := ⟨_, rfl⟩
 rw [← hN]
 have hlen : (P ++ [x]).length = N := by simp [hN]
 rw [hlen] at hv
 rw [hv] at ho
 rw [hv]
 obtain ⟨gg, hgg⟩ : ∃ gg, sr = some ⟨gg, 0, none⟩ := by
  obtain ⟨g1, c1, h1, -⟩ := ho.at (k := 0) (by omega)
  simp only [Value.slice.injEq] at h1
  exact ⟨g1, h1.1⟩
 subst hgg
 have HO := hide ho
 have HS := hide hs
 have HN := hide hN
 have hPN : (P.length : Int) < (N : Int) := by omega
 clear ho hs hv hN
 go_enter Tryz.func141, Tryz.ntmps141
 go_wp2
 go_loopw [8] (fun i wr => ∃ (k : Nat) (wv : World), wv = wr ∧ i = .int .i64 (k : Int) ∧ 1 ≤ k ∧ ((k ≤ P.length ∧ Below w.heap.size w wv) ∨ (k = N ∧ Chg (fun j => j = gg) w wv ∧ OpenS wv (.slice (some ⟨gg, 0, none⟩) N cr) (insS x P)))) (fun i _ => 2 + P.length - (intOf i).toNat)
 case atStart =>
  by_cases h1 : 1 ≤ P.length
  ·exact ⟨1, _, rfl, by go_num, Nat.le_refl _, Or.inl ⟨h1, Below.refl _ _⟩⟩
  ·have hP : P = [] := List.length_eq_zero_iff.1 (by omega)
   exact ⟨1, _, rfl, by go_num, Nat.le_refl _, Or.inr ⟨by rw [HN.out, hP]; rfl, Chg.refl _ _, by rw [hP]; rw [hP] at HO; exact HO.out⟩⟩
 case round =>
  obtain ⟨k, wv, hwv, rfl, hk1, hst⟩ := hrel
  subst hwv
  rcases hst with ⟨hk2, hbel⟩ | ⟨hkN, hch, hop⟩
  ·by_cases hlk : k < P.length
   ·have hNN := HN.out
    have hk0x : k < (P ++ [x]).length := by omega
    obtain ⟨gg', c, hvv, hcell, hcap⟩ := (HO.out.below hbel).at hk0x
    simp only [Value.slice.injEq, Option.some.injEq, Addr.mk.injEq, and_true, true_and] at hvv
    obtain ⟨rfl, -, rfl⟩ := hvv
    obtain ⟨q, hkq⟩ : ∃ q, k = q + 1 := ⟨k - 1, by omega⟩
    have hq1 : q < P.length := by omega
    obtain ⟨gg2, c2, hvv, hcell2, hcap2⟩ := (HO.out.below hbel).at (k := q) (by omega)
    simp only [Value.slice.injEq, Option.some.injEq, Addr.mk.injEq, and_true, true_and] at hvv
    obtain ⟨rfl, -, rfl⟩ := hvv
    rw [List.getElem_append_left hlk] at hcell
    rw [List.getElem_append_left hq1] at hcell2
    have hm1 : P[k] ∈ P ++ [x] := List.mem_append_left _ (List.getElem_mem hlk)
    have hm2 : P[q] ∈ P ++ [x] := List.mem_append_left _ (List.getElem_mem hq1)
    have hle : P[q].2.number ≤ P[k].2.number := Int.le_of_lt (HS.out q k hlk (by omega))
    have HC : Hid (∀ wx, Below wv.heap.size wv wx → Calls Tryz.prog 79 #[.pointer (some ⟨P[k].1, 0, none⟩), .pointer (some ⟨P[q].1, 0, none⟩)] wx fun e w' => e = .returned (.int .i64 (cmpZ P[k].2.number P[q].2.number)) ∧ Below wx.heap.size wx w') := fun wx hb => sadd1_any _ _ _ _ wx (((HO.out.st _ hm1).below hbel).below hb) (((HO.out.st _ hm2).below hbel).below hb)
    have hz := cmpZ_ge hle
    generalize cmpZ P[k].2.number P[q].2.number = Z at HC hz
    generalize P[k].1 = b1 at hcell HC
    generalize P[q].1 = b2 at hcell2 HC
    have hz0 : ¬ Z < 0 := by rw [hz]; exact id
    have HBE := hide hbel
    have hk0 : (0 < k) = True := eq_true (by omega)
    have hkn : ((k : Int) < (N : Int)) = True := eq_true (by omega)
    have hwr : IntKind.i64.wrap ((k : Int) - 1) = (q : Int) := by rw [IntKind.wrap_i64]; omega
    have i1 : (0 : Int) ≤ (q : Int) := by omega
    have i2 : (q : Int) < (N : Int) := by omega
    have i3 : (k : Int) < (N : Int) := by omega
    clear hbel hm1 hm2 hle hz hkq hNN
    go_wp2
    refine wp_loop_rounds 1 ?_
    rw [rounds_succ]
    go_upto_region 4 with fail
    go_cut [34] (fun s34 wx => s34 = .bool false ∧ Below wv.heap.size wv wx)
    case first =>
     go_region_held3 (fun w' => w'.cell? ⟨gg, k, none⟩ = some (.pointer (some ⟨b1, 0, none⟩)) ∧ w'.cell? ⟨gg, q, none⟩ = some (.pointer (some ⟨b2, 0, none⟩))) (go_keep)
      (first | (go_at_call 79; refine (HC.out wv.drew ⟨rfl, rfl, rfl, Nat.le_refl _, fun _ _ => rfl⟩).mono ?_; rintro e w1 ⟨rfl, hb1⟩; have hB1 : Below wv.heap.size wv w1 := ⟨hb1.os, hb1.tape, hb1.output, hb1.size, hb1.block⟩; have t1 : w1.cell? ⟨gg, k, none⟩ = some (.pointer (some ⟨b1, 0, none⟩)) := (by rw [Below.cell hB1 (p := ⟨gg, k, none⟩) (World.block_lt_of_cell? _ _ hcell)]; exact hcell); have t2 : w1.cell? ⟨gg, q, none⟩ = some (.pointer (some ⟨b2, 0, none⟩)) := (by rw [Below.cell hB1 (p := ⟨gg, q, none⟩) (World.block_lt_of_cell? _ _ hcell2)]; exact hcell2)))
     all_goals (go_wp2_with fail; go_meet; exact ⟨by simp [hz0], hB1⟩)
    case rest =>
     obtain ⟨rfl, hbx⟩ := hcut
     have HX := hide hbx
     clear hbx
     go_wp2
     all_goals go_roundw
     case rel => exact ⟨k + 1, _, rfl, by go_num, by omega, Or.inl ⟨by omega, HBE.out.trans (HX.out.mono HBE.out.size)⟩⟩
     case measure => simp [intOf]; omega
   ·obtain rfl : k = P.length := by omega
    have HBE := hide hbel
    clear hbel
    go_wp2
    go_loopw [9] (fun j wr => ∃ (k : Nat) (wz : World), wz = wr ∧ j = .int .i64 (k : Int) ∧ k ≤ P.length ∧ Chg (fun j => j = gg) w wz ∧ OpenS wz (.slice (some ⟨gg, 0, none⟩) N cr) (P.take k ++ x :: P.drop k) ∧ ∀ b ∈ P.drop k, x.2.number < b.2.number) (fun j _ => (intOf j).toNat)
    case atStart => exact ⟨P.length, _, rfl, by go_num, Nat.le_refl _, Chg.of_below HBE.out, by rw [List.take_length, List.drop_length]; exact HO.out.below HBE.out, fun b hb => by rw [List.drop_length] at hb; cases hb⟩
    case round =>
     obtain ⟨k, wz, hwz, rfl, hk, hch, hop, hgt⟩ := hrel
     subst hwz
     have HCH := hide hch
     have HOP := hide hop
     have HGT := hide hgt
     clear hch hop hgt HBE
     have hend : ∀ wx, Below wz.heap.size wz wx → (k = 0 ∨ ∃ q, ∃ hq : q < P.length, k = q + 1 ∧ P[q].2.number ≤ x.2.number) → Chg (fun j => j = gg) w wx ∧ OpenS wx (.slice (some ⟨gg, 0, none⟩) N cr) (insS x P) := fun wx hbx hc => by
      refine ⟨HCH.out.then_below hbx, ?_⟩
      have he : insS x P = P.take k ++ x :: P.drop k := by
       conv => lhs; rw [← List.take_append_drop k P]
       refine insS_split x _ _ ?_ HGT.out
       intro a ha
       rcases hc with rfl | ⟨q, hq, rfl, hle⟩
       ·simp at ha
       ·obtain ⟨i, hi, rfl⟩ := List.mem_iff_getElem.1 ha
        rw [List.length_take] at hi
        rw [List.getElem_take]
        by_cases hiq : i = q
        ·subst hiq; exact hle
        ·have := HS.out i q hq (by omega); omega
      rw [he]
      exact HOP.out.below hbx
     have HEND := hide hend
     clear hend
     by_cases hk0 : k = 0
     ·subst hk0
      go_upto_region 4 with fail
      go_cut [34] (fun s34 wx => s34 = .bool false ∧ Below wz.heap.size wz wx)
      case first =>
       go_region
       all_goals (go_wp2_with fail; go_meet; exact ⟨rfl, Below.drew (Below.refl _ _)⟩)
      case rest =>
       obtain ⟨rfl, hbx⟩ := hcut
       have HX := hide hbx
       clear hbx
       go_wp2
       all_goals go_roundw
       case rel => exact ⟨N, _, rfl, by rw [HN.out]; go_num, by have := HN.out; omega, Or.inr ⟨rfl, HEND.out _ HX.out (Or.inl rfl)⟩⟩
       case measure => have := HN.out; simp [intOf]; omega
     ·obtain ⟨q, hkq⟩ : ∃ q, k = q + 1 := ⟨k - 1, by omega⟩
      have hq1 : q < P.length := by omega
      have htk : P.take k = P.take q ++ [P[q]] := by rw [hkq, List.take_succ_eq_append_getElem hq1]
      have hdk : P.drop q = P[q] :: P.drop k := by rw [hkq]; exact List.drop_eq_getElem_cons hq1
      obtain ⟨A, hA⟩ : ∃ A, A = P.take q := ⟨_, rfl⟩
      obtain ⟨B, hB⟩ : ∃ B, B = P.drop k := ⟨_, rfl⟩
      have hAl : A.length = q := by rw [hA, List.length_take]; omega
      have hrowe : P.take k ++ x :: P.drop k = A ++ P[q] :: x :: B := by rw [htk, ← hA, ← hB, List.append_assoc]; rfl
      have hop2 := HOP.out
      rw [hrowe] at hop2
      have hlen2 : (A ++ P[q] :: x :: B).length = N := by
       have := hop2.row.1
       have h2 := slice_len hop2.row
       obtain ⟨s1, c1, h3⟩ := h2
       simp only [Value.slice.injEq] at h3
       exact h3.2.1.symm
      have hiA : k < (A ++ P[q] :: x :: B).length := by rw [List.length_append, List.length_cons, List.length_cons]; omega
      obtain ⟨gg', c, hvv, hcell, hcap⟩ := hop2.at hiA
      simp only [Value.slice.injEq, Option.some.injEq, Addr.mk.injEq, and_true, true_and] at hvv
      obtain ⟨rfl, -, rfl⟩ := hvv
      have hiq : q < (A ++ P[q] :: x :: B).length := by omega
      obtain ⟨gg2, c2, hvv, hcell2, hcap2⟩ := hop2.at hiq
      simp only [Value.slice.injEq, Option.some.injEq, Addr.mk.injEq, and_true, true_and] at hvv
      obtain ⟨rfl, -, rfl⟩ := hvv
      have e1 : (A ++ P[q] :: x :: B)[k] = x := by
       rw [List.getElem_append_right (by omega)]
       simp only [hAl, hkq, Nat.add_sub_cancel_left]
       rfl
      have e2 : (A ++ P[q] :: x :: B)[q] = P[q] := by
       rw [List.getElem_append_right (by omega)]
       simp only [hAl, Nat.sub_self]
       rfl
      rw [e1] at hcell
      rw [e2] at hcell2
      have hm1 : x ∈ A ++ P[q] :: x :: B := by simp
      have hm2 : P[q] ∈ A ++ P[q] :: x :: B := by simp
      have HC : Hid (∀ wx, Below wz.heap.size wz wx → Calls Tryz.prog 79 #[.pointer (some ⟨x.1, 0, none⟩), .pointer (some ⟨P[q].1, 0, none⟩)] wx fun e w' => e = .returned (.int .i64 (cmpZ x.2.number P[q].2.number)) ∧ Below wx.heap.size wx w') := fun wx hb => sadd1_any _ _ _ _ wx ((hop2.st _ hm1).below hb) ((hop2.st _ hm2).below hb)
      have hzz : (cmpZ x.2.number P[q].2.number < 0) ↔ x.2.number < P[q].2.number := by
       unfold cmpZ
       split
       ·simp_all
       ·split <;> simp_all
      have HZZ := hide hzz
      have HSW : Hid (∀ wx, Below wz.heap.size wz wx → x.2.number < P[q].2.number → ∀ wy, wy = (wx.setCell ⟨gg, k, none⟩ (.pointer (some ⟨P[q].1, 0, none⟩))).setCell ⟨gg, q, none⟩ (.pointer (some ⟨x.1, 0, none⟩)) → Chg (fun j => j = gg) w wy ∧ OpenS wy (.slice (some ⟨gg, 0, none⟩) N cr) (P.take q ++ x :: P.drop q) ∧ ∀ b ∈ P.drop q, x.2.number < b.2.number) := fun wx hbx hlt wy hwy => by
       have h1 := hop2.below hbx
       have hc : Chg (fun j => j = gg) wx wy := by rw [hwy]; exact chg_set (chg_set (Chg.refl _ _) rfl) rfl
       have hrow := h1.row
       rw [hlen2] at hrow
       have h2 := ((hrow.stored k (.pointer (some ⟨P[q].1, 0, none⟩))).1.stored q (.pointer (some ⟨x.1, 0, none⟩))).1
       rw [← hwy] at h2
       have he := opnCells_swap A B P[q] x
       rw [hAl, ← hkq] at he
       rw [he] at h2
       refine ⟨(HCH.out.then_below hbx).trans (hc.mono fun _ _ e => Or.inr e), ⟨?_, ?_⟩, ?_⟩
       ·rw [hdk, ← hA, ← hB]
        rw [show (A ++ x :: P[q] :: B).length = N from by rw [← hlen2]; simp]
        exact h2
       ·intro p hp
        have hp2 : p ∈ A ++ P[q] :: x :: B := by
         rw [hdk, ← hA, ← hB] at hp
         simp only [List.mem_append, List.mem_cons] at hp ⊢
         rcases hp with h | h | h | h
         ·exact Or.inl h
         ·exact Or.inr (Or.inr (Or.inl h))
         ·exact Or.inr (Or.inl h)
         ·exact Or.inr (Or.inr (Or.inr h))
        refine (h1.st p hp2).chg hc (fun e => ?_)
        exact owns_ne hrow (h1.st p hp2).blk (by decide) (by rw [e]; rfl)
       ·intro b hb
        rw [hdk] at hb
        rcases List.mem_cons.1 hb with e | e
        ·rw [e]; exact hlt
        ·exact HGT.out b e
      have HFR : Hid (∀ wx, Below wz.heap.size wz wx → ∀ i, wx.frozen? ⟨gg, i, none⟩ = false) := fun wx hbx i => by have h1 := (hop2.below hbx).row; rw [hlen2] at h1; exact owns_free h1 i
      have hle0 : Hid (∀ wx, Below wz.heap.size wz wx → ¬ x.2.number < P[q].2.number → Chg (fun j => j = gg) w wx ∧ OpenS wx (.slice (some ⟨gg, 0, none⟩) N cr) (insS x P)) := fun wx hbx hn => HEND.out wx hbx (Or.inr ⟨q, hq1, hkq, by omega⟩)
      have hwr : IntKind.i64.wrap ((k : Int) - 1) = (q : Int) := by rw [IntKind.wrap_i64]; omega
      have i1 : (0 : Int) ≤ (q : Int) := by omega
      have i2 : (q : Int) < (N : Int) := by omega
      have i3 : (k : Int) < (N : Int) := by omega
      have i4 : (0 < k) = True := eq_true (by omega)
      have hkq2 := hide hkq
      have HK0 := hide (And.intro hk hk0)
      generalize cmpZ x.2.number P[q].2.number = Z at HC HZZ hzz
      generalize P[q].1 = b2 at hcell2 HC HSW
      generalize x.1 = b1 at hcell HC HSW
      clear hrowe hop2 hlen2 hiA hiq e1 e2 hm1 hm2 hzz htk hdk hA hB hAl hk0 hkq HEND
      go_upto_region 4 with fail
      go_cut [34] (fun s34 wx => s34 = .bool (decide (Z < 0)) ∧ Below wz.heap.size wz wx)
      case first =>
       go_region_held3 (fun w' => w'.cell? ⟨gg, k, none⟩ = some (.pointer (some ⟨b1, 0, none⟩)) ∧ w'.cell? ⟨gg, q, none⟩ = some (.pointer (some ⟨b2, 0, none⟩))) (go_keep)
        (first | (go_at_call 79; refine (HC.out wz.drew ⟨rfl, rfl, rfl, Nat.le_refl _, fun _ _ => rfl⟩).mono ?_; rintro e w1 ⟨rfl, hb1⟩; have hB1 : Below wz.heap.size wz w1 := ⟨hb1.os, hb1.tape, hb1.output, hb1.size, hb1.block⟩; have t1 : w1.cell? ⟨gg, k, none⟩ = some (.pointer (some ⟨b1, 0, none⟩)) := (by rw [Below.cell hB1 (p := ⟨gg, k, none⟩) (World.block_lt_of_cell? _ _ hcell)]; exact hcell); have t2 : w1.cell? ⟨gg, q, none⟩ = some (.pointer (some ⟨b2, 0, none⟩)) := (by rw [Below.cell hB1 (p := ⟨gg, q, none⟩) (World.block_lt_of_cell? _ _ hcell2)]; exact hcell2)))
       all_goals (go_wp2_with fail; go_meet; exact ⟨rfl, hB1⟩)
      case rest =>
       obtain ⟨rfl, hbx⟩ := hcut
       obtain ⟨wy, hwy⟩ : ∃ wy, wy = wc := ⟨wc, rfl⟩
       rw [← hwy] at hbx ⊢
       clear hwy
       by_cases hz : Z < 0
       ·have hxl := HZZ.out.1 hz
        have hsw := HSW.out wy.drew (hbx.drew) hxl _ rfl
        have t1 : wy.cell? ⟨gg, k, none⟩ = some (.pointer (some ⟨b1, 0, none⟩)) := (by rw [Below.cell hbx (p := ⟨gg, k, none⟩) (World.block_lt_of_cell? _ _ hcell)]; exact hcell)
        have t2 : wy.cell? ⟨gg, q, none⟩ = some (.pointer (some ⟨b2, 0, none⟩)) := (by rw [Below.cell hbx (p := ⟨gg, q, none⟩) (World.block_lt_of_cell? _ _ hcell2)]; exact hcell2)
        have f1 := HFR.out wy hbx k
        have f2 := HFR.out wy hbx q
        have HSW2 := hide hsw
        clear hsw hbx hcell hcell2 HSW
        go_upto_region 6 with fail
        have d1 : wy.drew.cell? ⟨gg, k, none⟩ = some (.pointer (some ⟨b1, 0, none⟩)) := t1
        have d2 : wy.drew.cell? ⟨gg, q, none⟩ = some (.pointer (some ⟨b2, 0, none⟩)) := t2
        have d3 : wy.drew.frozen? ⟨gg, k, none⟩ = false := f1
        have d4 : wy.drew.frozen? ⟨gg, q, none⟩ = false := f2
        have e1 : (wy.setCell ⟨gg, k, none⟩ (.pointer (some ⟨b2, 0, none⟩))).cell? ⟨gg, q, none⟩ = some (.pointer (some ⟨b2, 0, none⟩)) := by
         rw [World.cell?_setCell_other wy (a := ⟨gg, k, none⟩) (b := ⟨gg, q, none⟩) _ (fun e => by simp at e; have := hkq2.out; omega)]
         exact t2
        have e2 : (wy.setCell ⟨gg, k, none⟩ (.pointer (some ⟨b2, 0, none⟩))).frozen? ⟨gg, q, none⟩ = false := by
         rw [World.frozen?_setCell]
         exact f2
        have e3 : (wy.setCell ⟨gg, k, none⟩ (.pointer (some ⟨b2, 0, none⟩))).drew.cell? ⟨gg, q, none⟩ = some (.pointer (some ⟨b2, 0, none⟩)) := e1
        have e4 : (wy.setCell ⟨gg, k, none⟩ (.pointer (some ⟨b2, 0, none⟩))).drew.frozen? ⟨gg, q, none⟩ = false := e2
        go_region
        go_wp2
        all_goals go_roundw
        case rel => exact ⟨q, _, rfl, rfl, by have := HK0.out.1; have := hkq2.out; omega, HSW2.out⟩
        case measure => have := hkq2.out; simp [intOf]; omega
       ·have HX := hide (hle0.out wy hbx (fun e => hz (HZZ.out.2 e)))
        clear hbx
        go_wp2
        all_goals go_roundw
        case rel => exact ⟨N, _, rfl, by rw [HN.out]; go_num, by have := HN.out; omega, Or.inr ⟨rfl, HX.out⟩⟩
        case measure => have := HN.out; simp [intOf]; omega
  ·have HC := hide hch
   have HP := hide hop
   clear hch hop
   subst hkN
   go_wp2
   exact bodyPost_end (results_none rfl _ _ _) rfl ⟨rfl, HC.out.mono (fun j _ e => by rw [e]; rfl), HP.out⟩
set_option maxRecDepth 100000 in
set_option maxHeartbeats 1600000 in
theorem pdq_put (v : Value) (P : List Str) (x : Str) (lim : Int) (w : World) (ho : OpenS w v (P ++ [x])) (hs : ∀ i j (h : j < P.length) (hij : i < j), (P[i]'(by omega)).2.number < P[j].2.number) (hL : P.length ≤ 11) :
  Calls Tryz.prog 108 #[v, .int .i64 0, .int .i64 ((P.length + 1 : Nat) : Int), .int .i64 lim, .func (.func 79) #[] #[]] w fun e w' => e = .returned (.tuple #[]) ∧ Chg (fun j => v.ownBlock = some j) w w' ∧ OpenS w' v (insS x P) := by
 have HC := hide (insSort_put v P x w ho hs hL)
 clear ho hs
 obtain ⟨N, hN⟩ : ∃ N, N = P.length + 1 := ⟨_, rfl⟩
 rw [← hN] at HC ⊢
 have hl2 : ((N : Int) ≤ 12) = True := eq_true (by omega)
 have hN12 : N ≤ 12 := by omega
 clear hN
 go_enter Tryz.func108, Tryz.ntmps108
 go_wp2
 refine wp_loop_rounds 1 ?_
 rw [rounds_succ]
 go_wp2_with fail
 refine HC.out.mono ?_
 rintro e w' ⟨rfl, hb⟩
 have HB := hide hb
 clear hb
 go_wp2
 refine bodyPost_ret (v := .tuple #[]) ?_ rfl ⟨rfl, HB.out⟩
 simp [results, Tryz.results108, go_sem]
set_option maxRecDepth 100000 in
set_option maxHeartbeats 800000 in
theorem bLen_any (n : Nat) (hn : n ≤ 12) (w : World) : Calls Tryz.prog 109 #[.int .u64 n] w fun e w' => ∃ k : Int, e = .returned (.int .i64 k) ∧ w' = w := by
 have HC := hide (bLen64_any n hn w)
 go_enter Tryz.func109, Tryz.ntmps109
 go_wp2_with fail
 refine HC.out.mono ?_
 rintro e w' ⟨k, rfl, hw'⟩
 rw [hw']
 clear hw' w'
 go_wp2
 go_ret
 exact ⟨_, rfl, rfl⟩
set_option maxRecDepth 100000 in
set_option maxHeartbeats 800000 in
theorem sortFunc_put (v : Value) (P : List Str) (x : Str) (w : World) (ho : OpenS w v (P ++ [x])) (hs : ∀ i j (h : j < P.length) (hij : i < j), (P[i]'(by omega)).2.number < P[j].2.number) (hL : P.length ≤ 11) :
  Calls Tryz.prog 78 #[v, .func (.func 79) #[] #[]] w fun e w' => e = .returned (.tuple #[]) ∧ Chg (fun j => v.ownBlock = some j) w w' ∧ OpenS w' v (insS x P) := by
 have HC : Hid (∀ lim, Calls Tryz.prog 108 #[v, .int .i64 0, .int .i64 ((P.length + 1 : Nat) : Int), .int .i64 lim, .func (.func 79) #[] #[]] w fun e w' => e = .returned (.tuple #[]) ∧ Chg (fun j => v.ownBlock = some j) w w' ∧ OpenS w' v (insS x P)) := fun lim => pdq_put v P x lim w ho hs hL
 obtain ⟨sr, cr, hv⟩ := slice_len ho.row
 obtain ⟨N, hN⟩ : ∃ N, N = P.length + 1 := ⟨_, rfl⟩
 rw [show (P ++ [x]).length = N from by simp [hN]] at hv
 have HB := hide (bLen_any N (by omega) w)
 rw [hv, ← hN] at HC
 rw [hv]
 have hw : IntKind.u64.wrap (N : Int) = N := by rw [IntKind.wrap_u64]; omega
 have hN12 : N ≤ 12 := by omega
 clear ho hs hv hN
 go_enter Tryz.func78, Tryz.ntmps78
 go_wp2_with fail
 refine HB.out.mono ?_
 rintro e w' ⟨k, rfl, hw'⟩
 rw [hw']
 clear hw' w'
 go_wp2_with fail
 refine (HC.out k).mono ?_
 rintro e w' ⟨rfl, hb⟩
 have HB := hide hb
 clear hb
 go_wp2
 exact bodyPost_end (results_none rfl _ _ _) rfl ⟨rfl, HB.out⟩
end
section
theorem dset_next {A xs : List Value} {i : Nat} (x : Value) (hA : A.length = i) (h : i < xs.length) : (A ++ xs.drop i).set i x = (A ++ [x]) ++ xs.drop (i + 1) := by
 rw [List.set_append_right _ _ (by omega), hA, Nat.sub_self, List.drop_eq_getElem_cons h, List.set_cons_zero, List.append_assoc]
 rfl
def delX (L : List Str) (k : Nat) : List Value := opnCells (L.eraseIdx k)
theorem delX_length {L : List Str} {k : Nat} (h : k < L.length) : (delX L k).length = L.length - 1 := by unfold delX; rw [opnCells_length, List.length_eraseIdx, if_pos h]
theorem delX_get {L : List Str} {k j : Nat} (h1 : k < j) (h2 : j < L.length) : (delX L k)[j - 1]? = some (.pointer (some ⟨L[j].1, 0, none⟩)) := by
 unfold delX opnCells
 rw [List.getElem?_map, List.getElem?_eraseIdx, if_neg (by omega), Nat.sub_add_cancel (by omega), List.getElem?_eq_getElem h2]
 rfl
def delC (L : List Str) (k : Nat) (cur : Array Value) (j : Nat) : Array Value := ((delX L k).take (j - 1) ++ cur.toList.drop (j - 1)).toArray
theorem delC_size {L : List Str} {k j cr : Nat} {cur : Array Value} (hk : k < L.length) (hj : j ≤ L.length) (hc : cur.size = cr) (hL : L.length ≤ cr) : (delC L k cur j).size = cr := by
 unfold delC
 have hcl : cur.toList.length = cr := by rw [Array.length_toList]; exact hc
 rw [List.size_toArray, List.length_append, List.length_take, List.length_drop, delX_length hk, hcl]
 omega
theorem delC_start {L : List Str} {k cr : Nat} {cur : Array Value} (hk : k < L.length) (ht : cur.toList.take L.length = opnCells L) : delC L k cur (k + 1) = cur := by
 unfold delC
 have h1 : (delX L k).take (k + 1 - 1) = cur.toList.take k := by
  unfold delX opnCells
  rw [Nat.add_sub_cancel, ← List.map_take, List.eraseIdx_eq_take_drop_succ, List.take_left' (by rw [List.length_take]; omega), List.map_take]
  have h2 : (L.map fun p => Value.pointer (some ⟨p.1, 0, none⟩)) = opnCells L := rfl
  rw [h2, ← ht, List.take_take, Nat.min_eq_left (by omega)]
 rw [h1, Nat.add_sub_cancel, List.take_append_drop]
theorem delC_get {L : List Str} {k j : Nat} {cur : Array Value} (hk : k < j) (hj : j < L.length) (hkl : k < L.length) (ht : cur.toList.take L.length = opnCells L) : (delC L k cur j)[j]? = some (.pointer (some ⟨L[j].1, 0, none⟩)) := by
 unfold delC
 have hcur : cur.toList[j]? = some (.pointer (some ⟨L[j].1, 0, none⟩)) := by
  have : (cur.toList.take L.length)[j]? = (opnCells L)[j]? := by rw [ht]
  rw [List.getElem?_take, if_pos hj] at this
  rw [this]
  simp [opnCells, hj]
 rw [List.getElem?_toArray, List.getElem?_append_right (by rw [List.length_take, delX_length hkl]; omega), List.length_take, delX_length hkl, List.getElem?_drop, Nat.min_eq_left (by omega), show j - 1 + (j - (j - 1)) = j by omega]
 exact hcur
theorem delC_set {L : List Str} {k j cr : Nat} {cur : Array Value} (hk : k < j) (hj : j < L.length) (hkl : k < L.length) (hc : cur.size = cr) (hL : L.length ≤ cr) : (delC L k cur j).setIfInBounds (j - 1) (.pointer (some ⟨L[j].1, 0, none⟩)) = delC L k cur (j + 1) := by
 unfold delC
 rw [List.setIfInBounds_toArray, dset_next _ (by rw [List.length_take, delX_length hkl]; omega) (by rw [Array.length_toList, hc]; omega)]
 rw [Nat.add_sub_cancel]
 have e : (delX L k).take (j - 1) ++ [.pointer (some ⟨L[j].1, 0, none⟩)] = (delX L k).take j := by
  have h := delX_get hk hj
  obtain ⟨h1, h2⟩ := List.getElem?_eq_some_iff.1 h
  have := List.take_succ_eq_append_getElem h1
  rw [Nat.sub_add_cancel (by omega)] at this
  rw [this, h2]
 rw [e, Nat.sub_add_cancel (by omega)]
set_option maxRecDepth 100000 in
set_option maxHeartbeats 3200000 in
theorem deleteFunc_hit (g cr k : Nat) (cur : Array Value) (L : List Str) (bx sb : Nat) (s2 : StM) (w : World) (hg : w.heap[g]? = some (.cells cur 124 (0, 0))) (hcs : cur.size = cr) (hL : L.length ≤ cr) (hm : cr ≤ maxLen) (ht : cur.toList.take L.length = opnCells L) (hst : ∀ p ∈ L, StB w p.1 p.2) (hs2 : StB w sb s2) (hb : bx ≠ g) (hx : w.cell? ⟨bx, 0, none⟩ = some (.pointer (some ⟨sb, 0, none⟩))) (hL2 : L.length ≤ 1048576) (hk : k < L.length) (hks : L[k].1 = sb) (hnd : ∀ j (h : j < L.length), j ≠ k → L[j].1 ≠ sb) :
  Calls Tryz.prog 155 #[.slice (some ⟨g, 0, none⟩) L.length cr, .func (.func 156) #[] #[.pointer (some ⟨bx, 0, none⟩)]] w fun e w' => e = .returned (.slice (some ⟨g, 0, none⟩) (L.length - 1) cr) ∧ w'.ownsRow 0 124 1 (.slice (some ⟨g, 0, none⟩) (L.length - 1) cr) (L.length - 1) (opnCells (L.eraseIdx k)) ∧ Chg (fun j => j = g) w w' := by
 have hidx : idxS sb L 0 = (k : Int) := by
  unfold idxS
  rw [List.drop_zero]
  have : L.findIdx? (fun p => p.1 == sb) = some k := by
   rw [List.findIdx?_eq_some_iff_getElem]
   refine ⟨hk, by simp [hks], fun j hj => ?_⟩
   have := hnd j (by omega) (by omega)
   simpa using this
  rw [this]
  simp
 have hrow : w.ownsRow 0 124 1 (.slice (some ⟨g, 0, none⟩) L.length cr) L.length (opnCells L) := ⟨by rw [opnCells_length]; omega, Or.inr ⟨g, cr, cur, rfl, Nat.zero_le _, hg, hL, hm, by omega, by rw [Nat.mul_one]; exact ht⟩⟩
 have hix := indexFuncS_any _ L bx sb w hrow hst s2 hs2 hx hL2
 rw [hidx] at hix
 have HIX := hide hix
 have hne : ∀ p ∈ L, p.1 ≠ g := fun p hp e => by
  have h1 := (hst p hp).blk
  rw [e, hg] at h1
  simp only [Option.some.injEq, Obj.cells.injEq] at h1
  exact absurd h1.2.1 (by decide)
 have hsg : sb ≠ g := fun e => by
  have h1 := hs2.blk
  rw [e, hg] at h1
  simp only [Option.some.injEq, Obj.cells.injEq] at h1
  exact absurd h1.2.1 (by decide)
 have hbl : bx < w.heap.size := World.block_lt_of_cell? w _ hx
 have HCL : Hid (∀ wx, Chg (fun j => j = g) w wx → ∀ p ∈ L, Calls Tryz.prog 156 #[.pointer (some ⟨p.1, 0, none⟩), .pointer (some ⟨bx, 0, none⟩)] wx fun e w' => e = .returned (.bool (p.1 == sb)) ∧ w' = wx) := fun wx hc p hp =>
  settle1_any p.1 bx sb p.2 s2 wx (by rw [hc.cell (p := ⟨bx, 0, none⟩) hbl (fun e => hb e)]; exact hx) ((hst p hp).chg hc (hne p hp)) (hs2.chg hc hsg)
 have HG := hide hg
 have HT := hide ht
 have HCS := hide hcs
 have HND := hide hnd
 clear hix hidx hrow hst hs2 hx hne hsg hnd ht hg hks hcs
 go_enter Tryz.func155, Tryz.ntmps155
 go_wp2_with fail
 refine HIX.out.mono ?_
 rintro e w' ⟨rfl, hw'⟩
 rw [hw']
 clear hw' w'
 have hkm : ((k : Int) == -1) = false := by rw [beq_eq_false_iff_ne]; omega
 go_wp2
 go_loopw [5, 6] (fun i j wr => ∃ (q : Nat) (wv : World), wv = wr ∧ j = .int .i64 ((q + 1 : Nat) : Int) ∧ i = .int .i64 (q : Int) ∧ k ≤ q ∧ q + 1 ≤ L.length ∧ Chg (fun j => j = g) w wv ∧ wv.heap[g]? = some (.cells (delC L k cur (q + 1)) 124 (0, 0))) (fun _ j _ => L.length - (intOf j).toNat)
 case atStart => exact ⟨k, _, rfl, by go_num, rfl, Nat.le_refl _, hk, Chg.refl _ _, by rw [delC_start (cr := cr) hk HT.out]; exact HG.out⟩
 case round =>
  obtain ⟨q, wv, hwv, rfl, rfl, hkq, hql, hch, hgv⟩ := hrel
  subst hwv
  by_cases hlq : q + 1 < L.length
  ·have hcell : wv.cell? ⟨g, q + 1, none⟩ = some (.pointer (some ⟨L[q + 1].1, 0, none⟩)) := by
    rw [cell_of_row wv g _ _ _ _ hgv]
    exact delC_get (by omega) hlq hk HT.out
   have hcl0 : (wv.cell? ⟨g, q, none⟩).isSome = true := by
    rw [cell_of_row wv g _ _ _ _ hgv]
    have hsz := delC_size (cur := cur) (j := q + 1) hk (by omega) HCS.out hL
    rw [Array.getElem?_eq_getElem (by omega)]
    rfl
   obtain ⟨z0, hz0⟩ := Option.isSome_iff_exists.1 hcl0
   have hfz : wv.frozen? ⟨g, q, none⟩ = false := by simp [World.frozen?, hgv]
   have HC := hide (HCL.out wv hch L[q + 1] (List.getElem_mem hlq))
   have hfalse : (L[q + 1].1 == sb) = false := by rw [beq_eq_false_iff_ne]; exact HND.out (q + 1) hlq (by omega)
   rw [hfalse] at HC
   have hset := delC_set (cur := cur) (cr := cr) (k := k) (j := q + 1) (by omega) hlq hk HCS.out hL
   rw [Nat.add_sub_cancel] at hset
   have HSET := hide hset
   have HCH := hide hch
   have HGV := hide hgv
   generalize L[q + 1].1 = ab at hcell HC HSET
   clear hset hch hgv hcl0 hfalse
   go_wp2_with fail
   refine HC.out.mono ?_
   rintro e w' ⟨rfl, hw'⟩
   rw [hw']
   clear hw' w'
   go_wp2
   all_goals go_roundw
   case rel => exact ⟨q + 1, _, rfl, by go_num, by go_num, by omega, by omega, chg_set HCH.out rfl, by rw [blk_set HGV.out, HSET.out]⟩
   case measure => simp [intOf]; omega
  ·have hqe : q + 1 = L.length := by omega
   have hcq : ¬ cr = q := by omega
   have hqc : q ≤ cr := by omega
   have hq1 : L.length - q = 1 := by omega
   have HCH := hide hch
   have HGV := hide hgv
   have hxl := delX_length hk
   have hsz := delC_size (cur := cur) (j := q + 1) hk (by omega) HCS.out hL
   have htk : (delC L k cur (q + 1)).toList.take q = delX L k := by
    unfold delC
    rw [Nat.add_sub_cancel]
    show (((delX L k).take q ++ cur.toList.drop q)).take q = _
    rw [List.take_left' (by rw [List.length_take]; omega), List.take_of_length_le (by omega)]
   obtain ⟨w5, hw5⟩ : ∃ w5, w5 = wv.setRow g ((delC L k cur (q + 1)).toList.take q ++ [Value.pointer none] ++ (delC L k cur (q + 1)).toList.drop (q + 1)).toArray := ⟨_, rfl⟩
   have hclr : (Builtin.clear_ #[79] 0 #[.slice (some ⟨g, q, none⟩) 1 (cr - q)]).run Tryz.prog wv = .ok (.tuple #[]) w5 := by
    rw [hw5]
    exact run_clear_pairs wv 79 0 124 (.pointer none) Tryz.underlying79 (fun _ => by kernel_rfl) [.pointer none] g q 1 (cr - q) (by simp [Builtin.zeroCells, Value.cells, Array.range]) (by omega) _ hgv (by rw [hsz]; simp; omega) (by simp [Value.oneCell'])
   have hg5 : w5.heap[g]? = some (.cells ((delC L k cur (q + 1)).toList.take q ++ [Value.pointer none] ++ (delC L k cur (q + 1)).toList.drop (q + 1)).toArray 124 (0, 0)) := by rw [hw5]; exact setRow_heap _ _ _ _ _ _ hgv
   have hc5 : Chg (fun j => j = g) w w5 := by rw [hw5]; exact hch.trans ((chg_setRow wv g _).mono fun j _ e => Or.inr e)
   have HROW : Hid (w5.ownsRow 0 124 1 (.slice (some ⟨g, 0, none⟩) (L.length - 1) cr) (L.length - 1) (opnCells (L.eraseIdx k))) := by
    refine ⟨by have : (opnCells (L.eraseIdx k)).length = L.length - 1 := hxl; omega, Or.inr ⟨g, cr, _, rfl, Nat.zero_le _, hg5, by omega, hm, ?_, ?_⟩⟩
    ·have h2 : (delC L k cur (q + 1)).toList.length = cr := by rw [Array.length_toList]; exact hsz
     rw [List.size_toArray, List.length_append, List.length_append, htk, hxl, List.length_drop, h2]
     simp
     omega
    ·rw [htk]
     show (delX L k ++ [Value.pointer none] ++ _).take ((L.length - 1) * 1) = delX L k
     rw [List.append_assoc, List.take_left' (by omega)]
   have HC5 := hide hc5
   have hqq : q = L.length - 1 := by omega
   have HQE := hide hqq
   clear hch hgv hqe hqq hw5 hg5 hc5 htk hsz hxl
   go_wp2
   go_ret
   exact ⟨by rw [← HQE.out]; rfl, HROW.out, HC5.out⟩
end
section
def EndM.opens (m : EndM) (v : Value) : EndM := { m with opn := v }
set_option maxRecDepth 100000 in
set_option maxHeartbeats 800000 in
theorem settle_no (eb sb : Nat) (st : StM) (w : World) (hs : StB w sb st) (hc : st.closed = false) :
  Calls Tryz.prog 119 #[.pointer (some ⟨eb, 22, none⟩), .pointer (some ⟨sb, 0, none⟩)] w fun e w' => e = .returned (.tuple #[]) ∧ Below w.heap.size w w' := by
 have hb : ∀ o, Below w.heap.size w (w.alloc o) := fun o => (Below.refl _ _).alloc (Nat.le_refl _) _
 have HC : Hid (∀ o, Calls Tryz.prog 133 #[.pointer (some ⟨sb, 0, none⟩)] (w.alloc o) fun e w' => e = .returned (.bool false) ∧ w' = w.alloc o) := fun o => by
  have := isClosed_any sb st _ (hs.below (hb o))
  rw [hc] at this
  exact this
 clear hs hb
 go_enter Tryz.func119, Tryz.ntmps119
 go_wp2_with fail
 refine (HC.out _).mono ?_
 rintro e w' ⟨rfl, hw'⟩
 rw [hw']
 clear hw' w'
 go_wp2
 exact bodyPost_end (results_none rfl _ _ _) rfl ⟨rfl, (Below.refl _ _).alloc (Nat.le_refl _) _⟩
structure Settled (w w' : World) (eb : Nat) (m : EndM) (L : List Str) (k : Nat) (v : Value) : Prop where
 en : EnB w' eb (m.opens v)
 row : w'.ownsRow 0 124 1 v (L.length - 1) (opnCells (L.eraseIdx k))
 same : v.ownBlock = m.opn.ownBlock
 chg : Chg (fun j => j = eb ∨ m.opn.ownBlock = some j) w w'
set_option maxRecDepth 100000 in
set_option maxHeartbeats 1600000 in
theorem settle_yes (eb : Nat) (m : EndM) (L : List Str) (k : Nat) (w : World) (h : EnB w eb m) (ho : OpenS w m.opn L) (hL : L.length ≤ 1048576) (hk : k < L.length) (hc : L[k].2.closed = true) (hnd : ∀ j (h : j < L.length), j ≠ k → L[j].1 ≠ L[k].1) :
  Calls Tryz.prog 119 #[.pointer (some ⟨eb, 22, none⟩), .pointer (some ⟨L[k].1, 0, none⟩)] w fun e w' => e = .returned (.tuple #[]) ∧ ∃ v, Settled w w' eb m L k v := by
 obtain ⟨hlen, hnil | ⟨g, cr, cur, hv, _, hg, hLc, hm, hcs, ht⟩⟩ := ho.row
 ·omega
 rw [Nat.mul_one] at hcs ht
 have hst := ho.st
 have hlt := h.lt
 have hgl := lt_of_block hg
 obtain ⟨W, hW⟩ : ∃ W, W = w.alloc (.cells #[.pointer (some ⟨L[k].1, 0, none⟩)] 124) := ⟨_, rfl⟩
 have hbW : Below w.heap.size w W := by rw [hW]; exact (Below.refl _ _).alloc (Nat.le_refl _) _
 have hxb : W.heap[w.heap.size]? = some (.cells #[.pointer (some ⟨L[k].1, 0, none⟩)] 124 (0, 0)) := by rw [hW]; exact heap_alloc_new w _
 have hx : W.cell? ⟨w.heap.size, 0, none⟩ = some (.pointer (some ⟨L[k].1, 0, none⟩)) := by rw [cell_of_row W _ _ _ _ _ hxb]; rfl
 have hgW := kept_told hg hbW
 have hsk := (hst _ (List.getElem_mem hk)).below hbW
 have hic := isClosed_any L[k].1 L[k].2 W hsk
 rw [hc] at hic
 have hdel := deleteFunc_hit g cr k cur L w.heap.size L[k].1 L[k].2 W hgW hcs hLc hm ht (fun p hp => (hst p hp).below hbW) hsk (by omega) hx hL hk rfl hnd
 have c23 := (h.below hbW).c23
 rw [hv] at c23
 have hneg : eb ≠ g := fun e => by
  have h1 := h.blk
  rw [e, hg] at h1
  simp only [Option.some.injEq, Obj.cells.injEq] at h1
  exact absurd h1.2.1 (by decide)
 have HIC := hide hic
 have HDEL := hide hdel
 have HE := hide (h.below hbW)
 have HV := hide hv
 have HBW := hide hbW
 have HNEG := hide hneg
 have HW := hide hW
 generalize L[k].1 = sb at HIC HDEL hx HW ⊢
 clear h ho hlen hv hg hLc hm hcs ht hst hW hbW hxb hgW hsk hic hdel hc hnd hneg
 go_enter Tryz.func119, Tryz.ntmps119
 go_upto_region 1 with fail
 rw [← HW.out]
 go_wp2_with fail
 refine HIC.out.mono ?_
 rintro e w' ⟨rfl, hw'⟩
 rw [hw']
 clear hw' w'
 go_wp2_with fail
 refine HDEL.out.mono ?_
 rintro e w1 ⟨rfl, hrow, hch⟩
 have he1 : EnB w1 eb m := HE.out.chg hch HNEG.out
 have d23 := he1.c23
 rw [HV.out] at d23
 have f23 := he1.fr 23
 have HE1 := hide he1
 have HROW := hide hrow
 have HCH := hide hch
 clear he1 hrow hch
 go_wp2
 refine bodyPost_end (results_none rfl _ _ _) rfl ⟨rfl, _, ⟨EnB.of (blk_set HE1.out.blk) rfl, owns_chg HROW.out (chg_set (S := fun j => j = eb) (Chg.refl _ _) rfl) (fun j hj e => ?_), by rw [HV.out]; rfl, chg_set (((Chg.of_below HBW.out).trans (HCH.out.mono fun j _ e => Or.inr (Or.inr (by rw [HV.out, e]; rfl))))) (Or.inl rfl)⟩⟩
 subst e
 exact owns_ne HROW.out HE1.out.blk (by decide) hj
end
section
def knownE (p : Str) : Value × Value := (.int .i64 p.2.number, .pointer (some ⟨p.1, 0, none⟩))
structure KnownS (w : World) (mb : Nat) (K : List Str) : Prop where
 blk : ∃ es clock, w.heap[mb]? = some (.map es clock) ∧ es.toList.map (fun e => (e.key, e.val)) = K.map knownE ∧ (∀ e ∈ es.toList, e.born < clock) ∧ (es.toList.map fun e => e.born).Nodup
 st : ∀ p ∈ K, StB w p.1 p.2
theorem KnownS.lt {w : World} {mb : Nat} {K : List Str} (h : KnownS w mb K) : mb < w.heap.size := by
 obtain ⟨es, clock, hb, _⟩ := h.blk
 exact (Array.getElem?_eq_some_iff.1 hb).1
theorem KnownS.chg {S : Nat → Prop} {w w' : World} {mb : Nat} {K : List Str} (h : KnownS w mb K) (hc : Chg S w w') (h1 : ¬ S mb) (h2 : ∀ p ∈ K, ¬ S p.1) : KnownS w' mb K := by
 have hlt := h.lt
 obtain ⟨es, clock, hb, he⟩ := h.blk
 exact ⟨⟨es, clock, by rw [hc.block mb hlt h1]; exact hb, he⟩, fun p hp => (h.st p hp).chg hc (h2 p hp)⟩
theorem KnownS.below {w w' : World} {mb : Nat} {K : List Str} (h : KnownS w mb K) (hb : Below w.heap.size w w') : KnownS w' mb K := h.chg (Chg.of_below (S := fun _ => False) hb) id (fun _ _ => id)
def findK (K : List Str) (n : Int) : Option Str := K.find? fun p => p.2.number == n
theorem findK_mem {K : List Str} {n : Int} {p : Str} (h : findK K n = some p) : p ∈ K ∧ p.2.number = n := ⟨List.mem_of_find?_eq_some h, by have := List.find?_some h; simpa using this⟩
theorem find_now (K : List Str) (n : Int) : ∀ (l : List MapEntry) (i : Nat), l.map (fun e => (e.key, e.val)) = K.map knownE → ∃ r, Instr.findNow (.int .i64) (.int .i64 n) l i = some r ∧ r.map (·.2) = (findK K n).map fun p => .pointer (some ⟨p.1, 0, none⟩) := by
 induction K with
 | nil =>
  intro l i h
  have : l = [] := by simpa using h
  subst this
  exact ⟨none, rfl, rfl⟩
 | cons p r ih =>
  intro l i h
  cases l with
  | nil => simp at h
  | cons e es =>
   simp only [List.map_cons, List.cons.injEq, knownE, Prod.mk.injEq] at h
   obtain ⟨⟨hk, hv⟩, ht⟩ := h
   unfold Instr.findNow
   rw [hk]
   simp only [Instr.sameNow, if_true, findK, List.find?_cons]
   by_cases hn : p.2.number = n
   ·have e1 : (n == p.2.number) = true := by simp [hn]
    have e2 : (p.2.number == n) = true := by simp [hn]
    rw [e1, e2]
    exact ⟨_, rfl, by simp [hv]⟩
   ·have e1 : (n == p.2.number) = false := by rw [beq_eq_false_iff_ne]; exact fun e => hn e.symm
    have e2 : (p.2.number == n) = false := by rw [beq_eq_false_iff_ne]; exact hn
    rw [e1, e2]
    exact ih es (i + 1) ht
theorem Tryz.zero124 : (Tryz.prog.info? 124).map (fun i => i.zero) = some (some (.pointer none)) := by kernel_rfl
theorem KnownS.lookup {w : World} {mb : Nat} {K : List Str} (h : KnownS w mb K) (n : Int) : (Instr.lookup 78 (.map (some mb)) (.int .i64 n) false).run Tryz.prog w = .ok (ptrO ((findK K n).map (·.1))) w := by
 obtain ⟨es, clock, hb, he, _⟩ := h.blk
 obtain ⟨r, hr, hv⟩ := find_now K n es.toList 0 he
 have hz : (zeroValue 124).run Tryz.prog w = .ok (.pointer none) w := by
  have := Tryz.zero124
  cases hi : Tryz.prog.info? 124 with
  | none => rw [hi] at this; simp at this
  | some i =>
   rw [hi] at this
   simp only [Option.map_some, Option.some.injEq] at this
   simp [zeroValue, typeInfo, Sem.run_bind, run_program, Result.andThen, hi, this]
 have hck : (Instr.checkKey es.isEmpty 10000 3 (.int .i64 n)).run Tryz.prog w = .ok () w := MapKept.run_checkKey (d := .int .i64) (k := .int .i64 n) Tryz.underlying3 (show IntKind.i64 = IntKind.i64 from rfl) _ _
 have hfk : (Instr.findKey 3 (.int .i64 n) es.toList).run Tryz.prog w = .ok r w := MapKept.run_findKey (d := .int .i64) Tryz.underlying3 hr
 cases r with
 | none =>
  have hf : findK K n = none := by
   cases hq : findK K n with
   | none => rfl
   | some p => rw [hq] at hv; simp at hv
  rw [hf]
  simp [Instr.lookup, run_underlying Tryz.underlying78, MapKept.run_getObj_map hb, hck, hfk, hz, Result.andThen, ptrO]
 | some q =>
  cases hq : findK K n with
  | none => rw [hq] at hv; simp at hv
  | some p =>
   rw [hq] at hv
   simp only [Option.map_some, Option.some.injEq] at hv
   simp [Instr.lookup, run_underlying Tryz.underlying78, MapKept.run_getObj_map hb, hck, hfk, Result.andThen, ptrO, hv]
set_option maxRecDepth 100000 in
set_option maxHeartbeats 800000 in
theorem announced_any (eb mb : Nat) (m : EndM) (K : List Str) (n : Int) (w : World) (h : EnB w eb m) (hm : m.known = .map (some mb)) (hK : KnownS w mb K) :
  Calls Tryz.prog 128 #[.pointer (some ⟨eb, 0, none⟩), .int .i64 n] w fun e w' => w' = w ∧ match findK K n with
   | some p => if p.2.announced then e = .returned (.pointer (some ⟨p.1, 0, none⟩)) else e = .panicked [{ v := .iface 41 (.int .i64 11), recovered := false }]
   | none => e = .panicked [{ v := .iface 41 (.int .i64 11), recovered := false }] := by
 have c22 := h.c22
 rw [hm] at c22
 have hlk := hK.lookup n
 cases hf : findK K n with
 | none =>
  rw [hf] at hlk
  simp only [Option.map_none, ptrO] at hlk
  clear h hm hK hf
  go_enter Tryz.func128, Tryz.ntmps128
  go_wp2
  all_goals exact ⟨rfl, rfl, rfl⟩
 | some p =>
  rw [hf] at hlk
  have s7 := (hK.st p (findK_mem hf).1).c7
  simp only [Option.map_some, ptrO] at hlk
  clear h hm hK hf
  cases ha : p.2.announced with
  | false =>
   rw [ha] at s7
   go_enter Tryz.func128, Tryz.ntmps128
   go_wp2
   all_goals exact ⟨rfl, rfl, rfl⟩
  | true =>
   rw [ha] at s7
   go_enter Tryz.func128, Tryz.ntmps128
   go_wp2
   go_ret
   exact ⟨rfl, rfl⟩
def EndM.wcode (m : EndM) (o : Option Str) : Int := if m.fault ≠ 0 then 7 else match o with
 | none => 4
 | some p => if p.2.reset ≠ 0 then 6 else if p.2.last || p.2.shut then 5 else 0
end
section
def StM.shutd (s : StM) : StM := { s with shut := true }
def Closed (w w' : World) (m : EndM) (K : List Str) (n : Int) (e : Ending) : Prop := e = .returned (.int .i64 (m.wcode (findK K n))) ∧ match findK K n with
 | none => w' = w
 | some p => if m.wcode (some p) = 0 then StB w' p.1 p.2.shutd ∧ Chg (fun j => j = p.1) w w' else w' = w
set_option maxHeartbeats 400000 in
theorem eFault_any (eb : Nat) (m : EndM) (w : World) (h : EnB w eb m) : Calls Tryz.prog 34 #[.pointer (some ⟨eb, 0, none⟩)] w fun e w' => e = .returned (.int .i64 m.fault) ∧ w' = w := by
 have c1 := h.c1
 clear h
 go_enter Tryz.func34, Tryz.ntmps34
 go_wp2
 go_ret
 exact ⟨rfl, rfl⟩
set_option maxHeartbeats 400000 in
theorem xFault_any (eb : Nat) (m : EndM) (w : World) (h : EnB w eb m) : Calls Tryz.prog 35 #[.pointer (some ⟨eb, 0, none⟩)] w fun e w' => e = .returned (.int .i64 m.fault) ∧ w' = w := by
 have HC := hide (eFault_any eb m w h)
 clear h
 go_enter Tryz.func35, Tryz.ntmps35
 go_wp2_with fail
 refine HC.out.mono ?_
 rintro e w' ⟨rfl, h⟩
 rw [h]
 clear h
 go_wp2
 go_ret
 exact ⟨rfl, rfl⟩
end
section
structure RecB where
 l : Value
 a : Value
 b : Value
 c : Value
 n : Nat
 len : Nat
structure FamB (w : World) (r : RecB) : Prop where
 l : w.ownsRow 0 5 1 r.l r.len ((marks r.n r.len).map B)
 a : w.ownsRow 0 5 1 r.a (r.len + 1) ((marks r.n (r.len + 1)).map B)
 b : w.ownsRow 0 5 1 r.b (r.len + 2) ((marks r.n (r.len + 2)).map B)
 c : w.ownsRow 0 5 1 r.c (r.len + 3) ((marks r.n (r.len + 3)).map B)
theorem FamB.chg {S : Nat → Prop} {w w' : World} {r : RecB} (h : FamB w r) (hc : Chg S w w') (hs : ∀ v ∈ [r.l, r.a, r.b, r.c], ∀ k, v.ownBlock = some k → ¬ S k) : FamB w' r :=
 ⟨owns_chg h.l hc (hs _ (by simp)), owns_chg h.a hc (hs _ (by simp)), owns_chg h.b hc (hs _ (by simp)), owns_chg h.c hc (hs _ (by simp))⟩
end
section
def fillF (m : Int) : Nat → List Value
 | 0 => []
 | k + 1 => .int .i64 m :: .int .i64 m :: .int .i64 m :: .slice none 0 0 :: fillF m k
end
end Go.Proofs.YtdccldbefdfppaaGreatDoor
