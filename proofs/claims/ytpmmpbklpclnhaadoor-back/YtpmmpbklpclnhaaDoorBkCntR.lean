import Derived.Test.YtpmmpbklpclnhaaDoorBkCnt
set_option linter.unusedVariables false
set_option linter.unusedSimpArgs false
/-
  Package blocks: source's takeCount.
-/
namespace Go.Proofs.YtpmmpbklpclnhaaDoor
set_option linter.unusedVariables false
set_option linter.unusedSimpArgs false
open Go.RowKit

theorem ofInt_i64 (a : Nat) (ha : a < 4611686018427387904) : (BitVec.ofInt 64 (a : Int)).toNat = a := by
  rw [BitVec.ofInt_natCast, BitVec.toNat_ofNat]; exact Nat.mod_eq_of_lt (by omega)
theorem i64_and_nat (a b : Nat) (ha : a < 4611686018427387904) (hb : b < 4611686018427387904) : bits .and .i64 (a : Int) (b : Int) = ((a &&& b : Nat) : Int) := by
  have hx : a &&& b < 2 ^ 62 := Nat.and_lt_two_pow _ (by omega)
  show IntKind.i64.wrap ((BitVec.ofInt 64 (a : Int) &&& BitVec.ofInt 64 (b : Int)).toNat : Int) = _
  rw [BitVec.toNat_and, ofInt_i64 a ha, ofInt_i64 b hb, IntKind.wrap_i64]
  omega
theorem i64_or_nat (a b : Nat) (ha : a < 4611686018427387904) (hb : b < 4611686018427387904) : bits .or .i64 (a : Int) (b : Int) = ((a ||| b : Nat) : Int) := by
  have hx : a ||| b < 2 ^ 62 := Nat.or_lt_two_pow (by omega) (by omega)
  show IntKind.i64.wrap ((BitVec.ofInt 64 (a : Int) ||| BitVec.ofInt 64 (b : Int)).toNat : Int) = _
  rw [BitVec.toNat_or, ofInt_i64 a ha, ofInt_i64 b hb, IntKind.wrap_i64]
  omega
theorem and_mask (c : UInt8) (k : Nat) (hk : k ≤ 8) : bits .and .i64 (c.toNat : Int) ((2 ^ k - 1 : Nat) : Int) = ((c.toNat % 2 ^ k : Nat) : Int) := by
  have h1 := c.toNat_lt
  have h2 : 2 ^ k ≤ 256 := Nat.le_trans (Nat.pow_le_pow_right (by omega) hk) (by decide)
  rw [i64_and_nat _ _ (by omega) (by omega), Nat.and_two_pow_sub_one_eq_mod]
theorem and127 (c : UInt8) : bits .and .u8 (c.toNat : Int) 127 = ((c.toNat % 128 : Nat) : Int) := by
  have h1 := c.toNat_lt
  have := u8_and_nat c.toNat 127 h1 (by decide)
  rw [show ((127 : Nat) : Int) = 127 from rfl] at this
  rw [this]
  have h2 := Nat.and_two_pow_sub_one_eq_mod c.toNat 7
  rw [show 2 ^ 7 - 1 = 127 from rfl, show 2 ^ 7 = 128 from rfl] at h2
  rw [h2]

/-- The end of takeCount. -/
def Counted (w w' : World) (sb : Nat) (rv : Value) (q : Option (Nat × List UInt8)) (e : Ending) : Prop :=
  (∃ N r rv', q = some (N, r) ∧ N ≤ 8388608 ∧ e = .returned (.int .i64 (N : Int)) ∧ SrTo w w' sb rv rv' r) ∨ (q = none ∧ Gone e ∧ Chg (fun j => j = sb) w w')

set_option maxRecDepth 100000 in
set_option maxHeartbeats 800000 in
theorem takeCount_any (sb : Nat) (rv : Value) (l : List UInt8) (c : UInt8) (f k : Nat) (w : World) (h : SrS w sb rv l) (hk : k = 4 ∨ k = 5 ∨ k = 6 ∨ k = 7) (hl : l.length ≤ 1099511627776) :
    Calls Tryd.prog 45 #[.pointer (some ⟨sb, 0, none⟩), .int .u8 c.toNat, fm f k] w fun e w' => Counted w w' sb rv (rdCnt k c l) e := by
  have hk8 : k ≤ 8 := by omega
  have hP : 2 ^ k - 1 ≤ 127 ∧ 1 ≤ 2 ^ k - 1 := by rcases hk with rfl | rfl | rfl | rfl <;> decide
  have hand := and_mask c k hk8
  have hrd : rdCnt k c l = if c.toNat % 2 ^ k < 2 ^ k - 1 then some (c.toNat % 2 ^ k, l) else rdMore 3 0 (c.toNat % 2 ^ k) l := rfl
  have hmd : c.toNat % 2 ^ k ≤ 2 ^ k - 1 := by have := Nat.mod_lt c.toNat (Nat.two_pow_pos k); omega
  have HM := hide (fun wx => most_any f k wx hk)
  have hc := Nat.le_of_lt_succ c.toNat_lt
  generalize c.toNat % 2 ^ k = M at hand hrd hmd
  generalize 2 ^ k - 1 = P at HM hP hand hrd hmd
  generalize c.toNat = x at hand hc
  have hbl : Below w.heap.size w (w.alloc (.cells #[.int .u8 (f : Int), .int .i64 (k : Int)] 69)) := (Below.refl _ _).alloc (Nat.le_refl _) _
  have hfr := heap_alloc_new w (.cells #[.int .u8 (f : Int), .int .i64 (k : Int)] 69)
  have H := hide h
  have HBL := hide hbl
  have HFR := hide hfr
  have HRD := hide hrd
  clear h hbl hfr hrd hk
  go_enter Tryd.func45, Tryd.ntmps45
  go_wp2_with fail
  refine (HM.out _).mono ?_
  rintro e w1 ⟨rfl, hb1⟩
  have hB1 : Below w.heap.size w w1 := HBL.out.trans (hb1.mono HBL.out.size)
  have hf1 : w1.heap[w.heap.size]? = some (.cells #[.int .u8 (f : Int), .int .i64 (k : Int)] 69 (0, 0)) := by rw [hb1.block _ (lt_of_block HFR.out)]; exact HFR.out
  have q0 : w1.cell? ⟨w.heap.size, 0, none⟩ = some (.int .u8 (f : Int)) := by rw [cell_of_row _ _ _ _ _ _ hf1]; rfl
  have q1 : w1.cell? ⟨w.heap.size, 1, none⟩ = some (.int .i64 (k : Int)) := by rw [cell_of_row _ _ _ _ _ _ hf1]; rfl
  have HB1 := hide hB1
  clear hb1 hB1 hf1
  go_wp2_with fail
  refine (HM.out _).mono ?_
  rintro e w2 ⟨rfl, hb2⟩
  have hB2 : Below w.heap.size w w2 := HB1.out.trans (hb2.mono HB1.out.size)
  have HB2 := hide hB2
  clear hb2 hB2 q0 q1
  by_cases hlt : M < P
  · have hr := HRD.out
    rw [if_pos hlt] at hr
    have HR := hide hr
    clear hr
    go_wp2
    go_ret
    rw [HR.out]
    exact Or.inl ⟨M, l, rv, rfl, by omega, rfl, SrTo.before HB2.out ⟨H.out.below HB2.out, Chg.refl _ _, fun j hj => hj⟩⟩
  · have hr := HRD.out
    rw [if_neg hlt] at hr
    have HR := hide hr
    clear hr
    have hst : SrTo w w2 sb rv rv l := SrTo.before HB2.out ⟨H.out.below HB2.out, Chg.refl _ _, fun j hj => hj⟩
    have HST := hide hst
    clear hst
    go_wp2
    go_loopw [7, 20] (fun nv i wr => ∃ (j n : Nat) (l' : List UInt8) (rv' : Value), i = .int .i64 (j : Int) ∧ nv = .int .i64 (n : Int) ∧ j ≤ 3 ∧ n ≤ 254 * 128 ^ j ∧ l'.length ≤ l.length ∧ rdCnt k c l = rdMore (3 - j) j n l' ∧ SrTo w wr sb rv rv' l') (fun _ i _ => 3 - (intOf i).toNat)
    case atStart => exact ⟨0, M, l, rv, rfl, rfl, by omega, by omega, Nat.le_refl _, HR.out, HST.out⟩
    case round =>
      obtain ⟨j, n, l', rv', rfl, rfl, hj, hn, hll, heq, hsr⟩ := hrel
      by_cases hj3 : j = 3
      · subst hj3
        have HEQ := hide heq
        have HSR := hide hsr
        clear heq hsr
        go_wp2
        refine ⟨rfl, Or.inr ⟨by rw [HEQ.out]; rfl, rfl, HSR.out.chg⟩⟩
      · cases l' with
        | nil =>
          have hbad := stake_bad sb rv' wr hsr.st
          have HEQ : Hid (rdCnt k c l = none) := by
            show _ = _
            rw [heq]
            obtain ⟨g, hg⟩ : ∃ g, 3 - j = g + 1 := ⟨2 - j, by omega⟩
            rw [hg]
            rfl
          have HBAD := hide hbad
          have HSR := hide hsr
          clear heq hsr hbad
          go_wp2_with fail
          refine HBAD.out.mono ?_
          rintro e w3 ⟨rfl, hw3⟩
          rw [hw3]
          exact ⟨rfl, Or.inr ⟨HEQ.out, rfl, HSR.out.chg⟩⟩
        | cons y r =>
          have hok := stake_ok sb rv' y r wr hsr.st (by omega)
          have heq2 : rdCnt k c l = if y.toNat = 0 ∧ 0 < j then none else if y.toNat < 128 then some (n + y.toNat % 128 * 2 ^ (7 * j), r) else rdMore (2 - j) (j + 1) (n + y.toNat % 128 * 2 ^ (7 * j)) r := by
            rw [heq]
            obtain ⟨g, hg⟩ : ∃ g, 3 - j = g + 1 := ⟨2 - j, by omega⟩
            have hg2 : 2 - j = g := by omega
            rw [hg, hg2]
            rfl
          have ha := and127 y
          have hy := Nat.le_of_lt_succ y.toNat_lt
          have hmod : y.toNat % 128 ≤ 127 := by omega
          have hlr : r.length ≤ l.length := by simp at hll; omega
          have hz0 : (y.toNat = 0) = (y.toNat = 0) := rfl
          generalize y.toNat = Y at hok heq2 ha hy hmod
          have HOK := hide hok
          have HEQ := hide heq2
          have HSR := hide hsr
          clear heq hsr hok heq2 hz0
          have hj012 : j = 0 ∨ j = 1 ∨ j = 2 := by omega
          generalize hYM : Y % 128 = YM at ha hmod HEQ
          have HYM := hide hYM
          clear hYM
          rcases hj012 with rfl | rfl | rfl
          · go_wp2_with fail
            refine HOK.out.mono ?_
            rintro e w3 ⟨rv3, rfl, hs3⟩
            have HS3 := hide (HSR.out.trans hs3)
            clear hs3
            have heq := HEQ.out
            clear HEQ
            rcases Nat.eq_zero_or_pos Y with hy0 | hy0
            · rw [if_neg (by omega), if_pos (by omega)] at heq
              have HE := hide heq
              clear heq
              subst hy0
              have hym0 : YM = 0 := by have := HYM.out; omega
              subst hym0
              have ha0 : bits .and .u8 0 127 = 0 := by decide
              clear ha
              go_wp2
              go_ret
              rw [HE.out]
              exact Or.inl ⟨_, _, rv3, rfl, by omega, by (first | rfl | (congr 2; simp; done) | (congr 2; simp; omega) | (congr 2; omega) | go_num), HS3.out⟩
            · by_cases hy1 : Y < 128
              · rw [if_neg (by omega), if_pos hy1] at heq
                have HE := hide heq
                clear heq
                go_wp2
                go_ret
                rw [HE.out]
                exact Or.inl ⟨_, _, rv3, rfl, by omega, by (first | rfl | (congr 2; simp; done) | (congr 2; simp; omega) | (congr 2; omega) | go_num), HS3.out⟩
              · rw [if_neg (by omega), if_neg hy1] at heq
                have HE := hide heq
                clear heq
                go_wp2
                go_roundw
                case rel => exact ⟨1, _, r, rv3, by go_num, by (first | rfl | (congr 1; simp; done) | (congr 1; simp; omega) | (congr 1; omega) | go_num), by omega, by omega, hlr, HE.out, HS3.out⟩
                case measure => simp [intOf]
          · go_wp2_with fail
            refine HOK.out.mono ?_
            rintro e w3 ⟨rv3, rfl, hs3⟩
            have HS3 := hide (HSR.out.trans hs3)
            clear hs3
            have heq := HEQ.out
            clear HEQ
            rcases Nat.eq_zero_or_pos Y with hy0 | hy0
            · rw [if_pos (by omega)] at heq
              have HE := hide heq
              clear heq
              subst hy0
              go_wp2
              exact ⟨rfl, Or.inr ⟨HE.out, rfl, HS3.out.chg⟩⟩
            · by_cases hy1 : Y < 128
              · rw [if_neg (by omega), if_pos hy1] at heq
                have HE := hide heq
                clear heq
                go_wp2
                go_ret
                rw [HE.out]
                exact Or.inl ⟨_, _, rv3, rfl, by omega, by (first | rfl | (congr 2; simp; done) | (congr 2; simp; omega) | (congr 2; omega) | go_num), HS3.out⟩
              · rw [if_neg (by omega), if_neg hy1] at heq
                have HE := hide heq
                clear heq
                go_wp2
                go_roundw
                case rel => exact ⟨2, _, r, rv3, by go_num, by (first | rfl | (congr 1; simp; done) | (congr 1; simp; omega) | (congr 1; omega) | go_num), by omega, by omega, hlr, HE.out, HS3.out⟩
                case measure => simp [intOf]
          · go_wp2_with fail
            refine HOK.out.mono ?_
            rintro e w3 ⟨rv3, rfl, hs3⟩
            have HS3 := hide (HSR.out.trans hs3)
            clear hs3
            have heq := HEQ.out
            clear HEQ
            rcases Nat.eq_zero_or_pos Y with hy0 | hy0
            · rw [if_pos (by omega)] at heq
              have HE := hide heq
              clear heq
              subst hy0
              go_wp2
              exact ⟨rfl, Or.inr ⟨HE.out, rfl, HS3.out.chg⟩⟩
            · by_cases hy1 : Y < 128
              · rw [if_neg (by omega), if_pos hy1] at heq
                have HE := hide heq
                clear heq
                go_wp2
                go_ret
                rw [HE.out]
                exact Or.inl ⟨_, _, rv3, rfl, by omega, by (first | rfl | (congr 2; simp; done) | (congr 2; simp; omega) | (congr 2; omega) | go_num), HS3.out⟩
              · rw [if_neg (by omega), if_neg hy1] at heq
                have HE := hide heq
                clear heq
                go_wp2
                go_roundw
                case rel => exact ⟨3, _, r, rv3, by go_num, by (first | rfl | (congr 1; simp; done) | (congr 1; simp; omega) | (congr 1; omega) | go_num), by omega, by omega, hlr, HE.out, HS3.out⟩
                case measure => simp [intOf]
end Go.Proofs.YtpmmpbklpclnhaaDoor
