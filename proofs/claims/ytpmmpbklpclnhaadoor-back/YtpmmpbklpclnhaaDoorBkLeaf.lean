import Derived.Test.YtpmmpbklpclnhaaDoorGen
import Derived.Test.YtpmmpbklpclnhaaDoorBkRead
import Derived.BigQuiet
import Derived.BigRegion
import Derived.Deep.QuietTactic
import Derived.Lib.Strings
import Derived.Lib.Walk
import Derived.Lib.Bytealg
import Derived.Laws.BitsAllLaws
set_option linter.unusedVariables false
set_option linter.unusedSimpArgs false
/-
  Package blocks: LimitFits, room, breaksPair, most, begins, codeOf; strings.IndexByte.
-/
namespace Go.Proofs.YtpmmpbklpclnhaaDoor
set_option linter.unusedVariables false
set_option linter.unusedSimpArgs false
open Go.RowKit

def limB (n : Int) : Bool := decide (0 ≤ n) && decide (n ≤ 256)

set_option maxRecDepth 100000 in
set_option maxHeartbeats 400000 in
theorem limitFits_any (n : Int) (w : World) : Calls Tryd.prog 12 #[.int .i64 n] w fun e w' => e = .returned (.bool (limB n)) ∧ w' = w := by
  go_enter Tryd.func12, Tryd.ntmps12
  go_wp2
  all_goals go_ret
  all_goals refine ⟨ret_bool ?_, rfl⟩
  all_goals simp [limB, *]
  omega

set_option maxRecDepth 100000 in
set_option maxHeartbeats 1600000 in
theorem room_any (h : HP) (w : World) (hn : h.n.size ≤ 1099511627776) (hv : h.v.size ≤ 1099511627776) :
    Calls Tryd.prog 40 #[.agg #[.string h.n, .string h.v]] w fun e w' => e = .returned (.int .i64 (tk h)) ∧ Below w.heap.size w w' := by
  obtain ⟨n, v⟩ := h
  simp only at hn hv
  go_enter Tryd.func40, Tryd.ntmps40
  go_wp2
  go_ret
  exact ⟨by simp [tk], (Below.refl _ _).alloc (Nat.le_refl _) _⟩

set_option maxRecDepth 100000 in
set_option maxHeartbeats 1600000 in
theorem breaksPair_any (h : HP) (w : World) (hn : h.n.size ≤ 281474976710656) (hv : h.v.size ≤ 281474976710656) :
    Calls Tryd.prog 28 #[.agg #[.string h.n, .string h.v]] w fun e w' => e = .returned (.bool (!prB h)) ∧ Below w.heap.size w w' := by
  obtain ⟨n, v⟩ := h
  simp only at hn hv
  have hpr : prB ⟨n, v⟩ = (!n.toList.isEmpty && decide (n.size ≤ 40) && decide (v.size ≤ 40)) := rfl
  have HPR := hide hpr
  clear hpr
  cases he : n.toList.isEmpty with
  | true =>
    go_enter Tryd.func28, Tryd.ntmps28
    go_wp2
    all_goals go_ret
    all_goals refine ⟨ret_bool ?_, (Below.refl _ _).alloc (Nat.le_refl _) _⟩
    all_goals (rw [HPR.out, he]; rfl)
  | false =>
    by_cases h1 : n.size ≤ 40
    · by_cases h2 : v.size ≤ 40
      · go_enter Tryd.func28, Tryd.ntmps28
        go_wp2
        all_goals go_ret
        all_goals refine ⟨ret_bool ?_, (Below.refl _ _).alloc (Nat.le_refl _) _⟩
        all_goals (rw [HPR.out, he]; simp [h1, h2]; try omega)
      · go_enter Tryd.func28, Tryd.ntmps28
        go_wp2
        all_goals go_ret
        all_goals refine ⟨ret_bool ?_, (Below.refl _ _).alloc (Nat.le_refl _) _⟩
        all_goals (rw [HPR.out, he]; simp [h1, h2]; try omega)
    · go_enter Tryd.func28, Tryd.ntmps28
      go_wp2
      all_goals go_ret
      all_goals refine ⟨ret_bool ?_, (Below.refl _ _).alloc (Nat.le_refl _) _⟩
      all_goals (rw [HPR.out, he]; simp [h1]; try omega)

/-- A form: its first bits, and in how many bits its count begins. -/
abbrev fm (f k : Nat) : Value := .agg #[.int .u8 (f : Int), .int .i64 (k : Int)]
set_option maxRecDepth 100000 in
set_option maxHeartbeats 1600000 in
theorem most_any (f k : Nat) (w : World) (hk : k = 4 ∨ k = 5 ∨ k = 6 ∨ k = 7) :
    Calls Tryd.prog 37 #[fm f k] w fun e w' => e = .returned (.int .i64 ((2 ^ k - 1 : Nat) : Int)) ∧ Below w.heap.size w w' := by
  rcases hk with rfl | rfl | rfl | rfl
  all_goals go_enter Tryd.func37, Tryd.ntmps37
  all_goals go_wp2
  all_goals go_ret
  all_goals exact ⟨by rfl, (Below.refl _ _).alloc (Nat.le_refl _) _⟩

set_option maxRecDepth 100000 in
set_option maxHeartbeats 1600000 in
theorem slIndexByte_any (s : ByteArray) (c : Int) (w : World) :
    Calls Tryd.prog 69 #[.string s, .int .u8 c] w fun e w' => e = .returned (.int .i64 (Lib.indexByte s.data.toList c.toNat.toUInt8)) ∧ w' = w := by
  go_enter Tryd.func69, Tryd.ntmps69
  go_wp2
  rw [run_callFunc_extern Tryd.func70 (by kernel_rfl) (by kernel_rfl) (by kernel_rfl) (e := Extern.BytealgIndexByte.indexByte) (by kernel_rfl), Lib.run_indexByteString]
  simp only [Result.andThen]
  rw [Oper.upon_value]
  go_wp2
  go_ret
  exact ⟨rfl, rfl⟩
set_option maxRecDepth 100000 in
set_option maxHeartbeats 1600000 in
theorem indexByte_any (s : ByteArray) (c : Int) (w : World) :
    Calls Tryd.prog 66 #[.string s, .int .u8 c] w fun e w' => e = .returned (.int .i64 (Lib.indexByte s.data.toList c.toNat.toUInt8)) ∧ w' = w := by
  go_enter Tryd.func66, Tryd.ntmps66
  go_wp2_with (go_at_call 69; refine (slIndexByte_any _ _ _).mono ?_; rintro e w' ⟨rfl, rfl⟩)
  go_ret
  exact ⟨rfl, rfl⟩

theorem lib_index (l : List UInt8) (c : UInt8) : Lib.indexByte l c = match pl l c with
    | some k => (k : Int)
    | none => -1 := by
  induction l with
  | nil => rfl
  | cons b r ih =>
    unfold pl at ih ⊢
    rw [Lib.indexByte, List.findIdx?_cons]
    by_cases hb : (b == c) = true
    · simp [hb]
    · have hb' : (b == c) = false := by simpa using hb
      rw [hb', ih]
      simp only [Bool.false_eq_true, if_false]
      cases r.findIdx? (fun x => x == c) with
      | none => simp
      | some k =>
        simp only [Option.map_some]
        have : (((k : Int)) == -1) = false := by rw [beq_eq_false_iff_ne]; omega
        rw [this]
        simp
theorem oft_index (c : UInt8) (w : World) : Calls Tryd.prog 66 #[.string ⟨#[101, 116, 97, 111, 105, 110, 115, 114]⟩, .int .u8 c.toNat] w fun e w' => e = .returned (.int .i64 (match pl oft c with
    | some k => (k : Int)
    | none => -1)) ∧ w' = w := by
  have h := indexByte_any ⟨#[101, 116, 97, 111, 105, 110, 115, 114]⟩ c.toNat w
  have e : (Lib.indexByte (ByteArray.mk #[101, 116, 97, 111, 105, 110, 115, 114]).data.toList ((c.toNat : Int)).toNat.toUInt8) = Lib.indexByte oft c := by
    congr 1
    simp
  rw [e, lib_index] at h
  exact h
theorem sel_index (c : UInt8) (w : World) : Calls Tryd.prog 66 #[.string ⟨#[98, 99, 100, 102, 103, 104, 107, 108, 109, 112, 117, 119, 121, 45, 47, 46]⟩, .int .u8 c.toNat] w fun e w' => e = .returned (.int .i64 (match pl sel c with
    | some k => (k : Int)
    | none => -1)) ∧ w' = w := by
  have h := indexByte_any ⟨#[98, 99, 100, 102, 103, 104, 107, 108, 109, 112, 117, 119, 121, 45, 47, 46]⟩ c.toNat w
  have e : (Lib.indexByte (ByteArray.mk #[98, 99, 100, 102, 103, 104, 107, 108, 109, 112, 117, 119, 121, 45, 47, 46]).data.toList ((c.toNat : Int)).toNat.toUInt8) = Lib.indexByte sel c := by
    congr 1
    simp
  rw [e, lib_index] at h
  exact h

/-- A byte's code as a number, and how many bits it has. -/
def codeN (c : UInt8) : Nat × Nat := match pl oft c with
  | some k => (k, 4)
  | none => match pl sel c with
    | some k => (32 + k, 6)
    | none => (768 + c.toNat, 10)
theorem codeN_bits (c : UInt8) : codeB c = natBits (codeN c).2 (codeN c).1 ∧ (codeN c).1 < 2 ^ (codeN c).2 ∧ (codeN c).2 ≤ 10 := by
  rcases h1 : pl oft c with _ | k
  · rcases h2 : pl sel c with _ | k
    · have e1 : codeB c = [true, true] ++ natBits 8 c.toNat := by unfold codeB; rw [h1]; simp only [h2]
      have e2 : codeN c = (768 + c.toNat, 10) := by unfold codeN; rw [h1]; simp only [h2]
      have hlt := c.toNat_lt
      rw [e1, e2]
      refine ⟨?_, by show 768 + c.toNat < 2 ^ 10; omega, by show 10 ≤ 10; omega⟩
      show _ = natBits (9 + 1) (768 + c.toNat)
      rw [natBits_high 9, natBits_high 8]
      have h1 : (768 + c.toNat) / 2 ^ 9 % 2 = 1 := by omega
      have h2 : (768 + c.toNat) / 2 ^ 8 % 2 = 1 := by omega
      have h3 : natBits 8 (768 + c.toNat) = natBits 8 c.toNat := natBits_add 8 3 c.toNat
      rw [h1, h2, h3]
      rfl
    · have e1 : codeB c = [true, false] ++ natBits 4 k := by unfold codeB; rw [h1]; simp only [h2]
      have e2 : codeN c = (32 + k, 6) := by unfold codeN; rw [h1]; simp only [h2]
      have hlt : k < 16 := pl_lt h2
      rw [e1, e2]
      refine ⟨?_, by show 32 + k < 2 ^ 6; omega, by show 6 ≤ 10; omega⟩
      show _ = natBits (5 + 1) (32 + k)
      rw [natBits_high 5, natBits_high 4]
      have h1 : (32 + k) / 2 ^ 5 % 2 = 1 := by omega
      have h2 : (32 + k) / 2 ^ 4 % 2 = 0 := by omega
      have h3 : natBits 4 (32 + k) = natBits 4 k := natBits_add 4 2 k
      rw [h1, h2, h3]
      rfl
  · have e1 : codeB c = [false] ++ natBits 3 k := by unfold codeB; rw [h1]
    have e2 : codeN c = (k, 4) := by unfold codeN; rw [h1]
    have hlt : k < 8 := pl_lt h1
    rw [e1, e2]
    refine ⟨?_, by show k < 2 ^ 4; omega, by show 4 ≤ 10; omega⟩
    show _ = natBits (3 + 1) k
    rw [natBits_high 3 k]
    have : k / 2 ^ 3 % 2 = 0 := by omega
    rw [this]
    rfl

set_option maxRecDepth 100000 in
set_option maxHeartbeats 1600000 in
theorem bcodeOf_any (c : UInt8) (w : World) :
    Calls Tryd.prog 62 #[.int .u8 c.toNat] w fun e w' => e = .returned (.tuple #[.int .u32 (codeN c).1, .int .i64 (codeN c).2]) ∧ w' = w := by
  have H1 := hide (oft_index c)
  have H2 := hide (sel_index c)
  have hcl : c.toNat ≤ 255 := Nat.le_of_lt_succ c.toNat_lt
  rcases h1 : pl oft c with _ | k
  · rcases h2 : pl sel c with _ | k
    · have HN : Hid (codeN c = (768 + c.toNat, 10)) := by show codeN c = _; unfold codeN; rw [h1]; simp only [h2]
      rw [h1] at H1
      rw [h2] at H2
      simp only at H1 H2
      clear h1 h2
      have hor : bits .or .u32 768 (c.toNat : Int) = ((768 + c.toNat : Nat) : Int) := by
        have h3 : ∀ j : Fin 256, 768 ||| j.val = 768 + j.val := by decide
        rw [← h3 ⟨c.toNat, c.toNat_lt⟩]
        exact u32_or_nat 768 c.toNat (by omega) (by omega)
      have HO := hide hor
      clear hor
      generalize c.toNat = x at *
      go_enter Tryd.func62, Tryd.ntmps62
      go_wp2_with (first | (go_at_call 66; refine (H1.out _).mono ?_; rintro e w' ⟨rfl, rfl⟩) | (go_at_call 66; refine (H2.out _).mono ?_; rintro e w' ⟨rfl, rfl⟩))
      rw [HN.out]
      refine bodyPost_ret (v := .tuple #[.int .u32 ((768 + x : Nat)), .int .i64 10]) ?_ rfl ⟨rfl, rfl⟩
      simp [results, Tryd.results62, go_sem, HO.out]
    · have HN : Hid (codeN c = (32 + k, 6)) := by show codeN c = _; unfold codeN; rw [h1]; simp only [h2]
      have hk : k < 16 := pl_lt h2
      have hor : bits .or .u32 32 (k : Int) = ((32 + k : Nat) : Int) := by
        have h3 : ∀ j : Fin 16, 32 ||| j.val = 32 + j.val := by decide
        rw [← h3 ⟨k, hk⟩]
        exact u32_or_nat 32 k (by omega) (by omega)
      have HO := hide hor
      clear hor
      rw [h1] at H1
      rw [h2] at H2
      simp only at H1 H2
      clear h1 h2
      generalize c.toNat = x at *
      go_enter Tryd.func62, Tryd.ntmps62
      go_wp2_with (first | (go_at_call 66; refine (H1.out _).mono ?_; rintro e w' ⟨rfl, rfl⟩) | (go_at_call 66; refine (H2.out _).mono ?_; rintro e w' ⟨rfl, rfl⟩))
      rw [HN.out]
      refine bodyPost_ret (v := .tuple #[.int .u32 ((32 + k : Nat)), .int .i64 6]) ?_ rfl ⟨rfl, rfl⟩
      simp [results, Tryd.results62, go_sem, HO.out]
  · have HN : Hid (codeN c = (k, 4)) := by show codeN c = _; unfold codeN; rw [h1]
    have hk : k < 8 := pl_lt h1
    rw [h1] at H1
    simp only at H1
    clear h1
    generalize c.toNat = x at *
    go_enter Tryd.func62, Tryd.ntmps62
    go_wp2_with (first | (go_at_call 66; refine (H1.out _).mono ?_; rintro e w' ⟨rfl, rfl⟩) | (go_at_call 66; refine (H2.out _).mono ?_; rintro e w' ⟨rfl, rfl⟩))
    rw [HN.out]
    refine bodyPost_ret (v := .tuple #[.int .u32 (k : Nat), .int .i64 4]) ?_ rfl ⟨rfl, rfl⟩
    simp [results, Tryd.results62, go_sem]
end Go.Proofs.YtpmmpbklpclnhaaDoor
