import Derived.Test.YtghongdbohjaaaaGreatDoorUGad
import Derived.Test.YtghongdbohjaaaaGreatDoorUGaa
import Derived.BigQuiet
import Derived.BigRegion
import Derived.Deep.QuietTactic
import Derived.Lib.Strings
import Derived.Lib.Walk
import Derived.Lib.Bytealg
import Derived.Laws.BitsAllLaws
import Derived.Deep.RegionWith
import Derived.Deep.DeepCutAuto
import Derived.Deep.RegionHeld3
import Derived.Deep.RegionLaw
import Derived.WalkKit
import Derived.WalkSpells
import Derived.WalkLawsBesides
import Derived.Laws.Bits128
import Derived.Lib.AppendStr
set_option linter.unusedVariables false
set_option linter.unusedSimpArgs false
/-
  sluiceref: NewPacker, Resize.
-/
namespace Go.Proofs.YtghongdbohjaaaaGreatDoor
set_option linter.unusedVariables false
set_option linter.unusedSimpArgs false
open Go.RowKit

theorem Tryz.info3 : (Tryz.prog.info? 3).map (fun i => (i.zero, i.size, i.bytes)) = some (some (.int .i64 0), 1, 8) := by kernel_rfl

set_option maxRecDepth 100000 in
set_option maxHeartbeats 800000 in
theorem rNewPacker_no (n : Int) (w : World) (hn : ¬ (0 ≤ n ∧ n ≤ 256)) :
    Calls Tryz.prog 34 #[.int .i64 n] w fun e w' => e = .returned (.tuple #[.pointer none, .int .i64 1]) ∧ w' = w := by
  by_cases h1 : n < 0
  · go_enter Tryz.func34, Tryz.ntmps34
    go_wp2
    go_ret2
    exact ⟨rfl, rfl⟩
  · have h2 : 256 < n := by omega
    clear hn
    go_enter Tryz.func34, Tryz.ntmps34
    go_wp2
    go_ret2
    exact ⟨rfl, rfl⟩
set_option maxRecDepth 100000 in
set_option maxHeartbeats 800000 in
theorem rNewPacker_ok (n : Nat) (w : World) (hn : n ≤ 256) :
    Calls Tryz.prog 34 #[.int .i64 n] w fun e w' => e = .returned (.tuple #[.pointer (some ⟨w.heap.size, 0, none⟩), .int .i64 0]) ∧ RpS w' w.heap.size (.slice none 0 0) (.slice none 0 0) [] n [] ∧ Below w.heap.size w w' := by
  go_enter Tryz.func34, Tryz.ntmps34
  go_wp2
  go_ret2
  exact ⟨rfl, ⟨heap_alloc_new w _, World.ownsRow_nil _ _ _ _, World.ownsRow_nil _ _ _ _, by intro c hc; simp at hc, hn, by simp⟩, (Below.refl _ _).alloc (Nat.le_refl _) _⟩
theorem nat_one (n : Nat) : ∀ u ∈ natCells [n], u.oneCell' = true := by
  intro u hu
  simp [natCells] at hu
  rw [hu]; rfl
set_option maxRecDepth 100000 in
set_option maxHeartbeats 1600000 in
theorem rResize_ok (pb : Nat) (lv tv : Value) (log : List Ch) (lim : Nat) (told : List Nat) (n : Nat) (w : World) (hp : RpS w pb lv tv log lim told) (hn : n ≤ 256) (ht : told.length ≤ 1073741824) :
    Calls Tryz.prog 36 #[.pointer (some ⟨pb, 0, none⟩), .int .i64 n] w fun e w' => e = .returned (.int .i64 0) ∧ ∃ tv', RpS w' pb lv tv' log lim (told ++ [n]) ∧ Chg (fun j => j = pb ∨ tv.ownBlock = some j) w w' ∧ (∀ j, tv'.ownBlock = some j → tv.ownBlock = some j ∨ w.heap.size ≤ j) := by
  obtain ⟨i0, hi, hz0, hz1, hz2⟩ := info_parts Tryz.info3
  obtain ⟨sl, cl, rfl⟩ := slice_len hp.rowT
  obtain ⟨c0, c1, c2, cf⟩ := read_blk hp.blk
  have H := hide hp
  clear hp c0 c1
  go_enter Tryz.func36, Tryz.ntmps36
  go_wp2_with (at_builtin; refine wpList_app _ rfl (.tmp 15) (.tmp 17) 67 rfl 3 i0 (.int .i64 0) 1 8 Tryz.underlying67 hi hz0 hz1 hz2 rfl (by decide) _ _ _ rfl (H.out.rowT.alloc _) (.slice (some ⟨w.heap.size, 0, none⟩) 1 1) 1 (natCells [n]) rfl rfl ?c1 ?c2 ?c3 ?c4 ?_)
  case c1 => exact Or.inr ⟨_, _, rfl, fun j u hu => lies_row (xs := natCells [n]) j u hu⟩
  case c2 => exact nat_one n
  case c3 => unfold maxLen; omega
  case c4 => omega
  intro tv' w2 hown2 hg2 hfr2
  obtain ⟨sl', cl', rfl⟩ := slice_len hown2
  have hb2 := kept_block (H.out.rowT.alloc _) hg2 (alloc_block H.out.blk _) (by decide)
  obtain ⟨q0, q1, q2, qf⟩ := read_blk hb2
  have qf2 := qf 2
  have hset : Chg (fun j => j = pb) w2 (w2.setCell ⟨pb, 2, none⟩ (.slice sl' (told.length + 1) cl')) := (Chg.refl (fun j => j = pb) w2).setCell (p := ⟨pb, 2, none⟩) (Or.inr rfl) _
  have c1 : Chg (fun j => (Value.slice sl told.length cl).ownBlock = some j) w w2 := ((Chg.refl _ w).alloc _).trans (Chg.of_grown hg2 (fun j hj => Or.inr hj))
  have hrL : w2.ownsRow 0 282 3 lv log.length (chCells log) := owns_chg H.out.rowL c1 (fun j hj e => rows_ne H.out.rowL H.out.rowT (by decide) hj e)
  have hE : RpS (w2.setCell ⟨pb, 2, none⟩ (.slice sl' (told.length + 1) cl')) pb lv (.slice sl' (told.length + 1) cl') log lim (told ++ [n]) ∧ Chg (fun j => j = pb ∨ (Value.slice sl told.length cl).ownBlock = some j) w (w2.setCell ⟨pb, 2, none⟩ (.slice sl' (told.length + 1) cl')) ∧ (∀ j, (Value.slice sl' (told.length + 1) cl').ownBlock = some j → (Value.slice sl told.length cl).ownBlock = some j ∨ w.heap.size ≤ j) := by
    refine ⟨⟨block_setCell hb2, owns_chg hrL hset (fun j hj e => by subst e; exact owns_ne hrL hb2 (by decide) hj), ?_, H.out.ok, H.out.limit.1, ?_⟩, (c1.mono fun j _ e => Or.inr e).trans (hset.mono fun j _ e => Or.inr (Or.inl e)), ?_⟩
    · have e1 : natCells (told ++ [n]) = natCells told ++ natCells [n] := by simp [natCells]
      rw [e1, List.length_append]
      exact owns_chg hown2 hset (fun j hj e => by subst e; exact owns_ne hown2 hb2 (by decide) hj)
    · intro x hx
      rcases List.mem_append.1 hx with hx | hx
      · exact H.out.limit.2 x hx
      · simp only [List.mem_cons, List.not_mem_nil, or_false] at hx; rw [hx]; exact hn
    · intro j hj
      rcases hfr2 with e | e
      · rw [e] at hj; exact Or.inl hj
      · rw [e] at hj; simp at hj; exact Or.inr (by omega)
  have HE := hide hE
  clear hown2 hg2 hfr2 hb2 hE qf hset c1 hrL c2 cf
  go_wp2
  go_ret
  exact ⟨rfl, _, HE.out⟩
end Go.Proofs.YtghongdbohjaaaaGreatDoor
/-
  Package blocks: LimitFits, room, breaksPair, most, begins, codeOf; strings.IndexByte.
-/
namespace Go.Proofs.YtghongdbohjaaaaGreatDoor
set_option linter.unusedVariables false
set_option linter.unusedSimpArgs false
open Go.RowKit

def limB (n : Int) : Bool := decide (0 ≤ n) && decide (n ≤ 256)

set_option maxRecDepth 100000 in
set_option maxHeartbeats 400000 in
theorem limitFits_any (n : Int) (w : World) : Calls Tryz.prog 72 #[.int .i64 n] w fun e w' => e = .returned (.bool (limB n)) ∧ w' = w := by
  go_enter Tryz.func72, Tryz.ntmps72
  go_wp2
  all_goals go_ret
  all_goals refine ⟨ret_bool ?_, rfl⟩
  all_goals simp [limB, *]
  omega

set_option maxRecDepth 100000 in
set_option maxHeartbeats 1600000 in
theorem room_any (h : HP) (w : World) (hn : h.n.size ≤ 1099511627776) (hv : h.v.size ≤ 1099511627776) :
    Calls Tryz.prog 213 #[.agg #[.string h.n, .string h.v]] w fun e w' => e = .returned (.int .i64 (tk h)) ∧ Below w.heap.size w w' := by
  obtain ⟨n, v⟩ := h
  simp only at hn hv
  go_enter Tryz.func213, Tryz.ntmps213
  go_wp2
  go_ret
  exact ⟨by simp [tk], (Below.refl _ _).alloc (Nat.le_refl _) _⟩

set_option maxRecDepth 100000 in
set_option maxHeartbeats 1600000 in
theorem breaksPair_any (h : HP) (w : World) (hn : h.n.size ≤ 281474976710656) (hv : h.v.size ≤ 281474976710656) :
    Calls Tryz.prog 137 #[.agg #[.string h.n, .string h.v]] w fun e w' => e = .returned (.bool (!prB h)) ∧ Below w.heap.size w w' := by
  obtain ⟨n, v⟩ := h
  simp only at hn hv
  have hpr : prB ⟨n, v⟩ = (!n.toList.isEmpty && decide (n.size ≤ 40) && decide (v.size ≤ 40)) := rfl
  have HPR := hide hpr
  clear hpr
  cases he : n.toList.isEmpty with
  | true =>
    go_enter Tryz.func137, Tryz.ntmps137
    go_wp2
    all_goals go_ret
    all_goals refine ⟨ret_bool ?_, (Below.refl _ _).alloc (Nat.le_refl _) _⟩
    all_goals (rw [HPR.out, he]; rfl)
  | false =>
    by_cases h1 : n.size ≤ 40
    · by_cases h2 : v.size ≤ 40
      · go_enter Tryz.func137, Tryz.ntmps137
        go_wp2
        all_goals go_ret
        all_goals refine ⟨ret_bool ?_, (Below.refl _ _).alloc (Nat.le_refl _) _⟩
        all_goals (rw [HPR.out, he]; simp [h1, h2]; try omega)
      · go_enter Tryz.func137, Tryz.ntmps137
        go_wp2
        all_goals go_ret
        all_goals refine ⟨ret_bool ?_, (Below.refl _ _).alloc (Nat.le_refl _) _⟩
        all_goals (rw [HPR.out, he]; simp [h1, h2]; try omega)
    · go_enter Tryz.func137, Tryz.ntmps137
      go_wp2
      all_goals go_ret
      all_goals refine ⟨ret_bool ?_, (Below.refl _ _).alloc (Nat.le_refl _) _⟩
      all_goals (rw [HPR.out, he]; simp [h1]; try omega)

/-- A form: its first bits, and in how many bits its count begins. -/
abbrev fm (f k : Nat) : Value := .agg #[.int .u8 (f : Int), .int .i64 (k : Int)]
set_option maxRecDepth 100000 in
set_option maxHeartbeats 1600000 in
theorem most_any (f k : Nat) (w : World) (hk : k = 4 ∨ k = 5 ∨ k = 6 ∨ k = 7) :
    Calls Tryz.prog 210 #[fm f k] w fun e w' => e = .returned (.int .i64 ((2 ^ k - 1 : Nat) : Int)) ∧ Below w.heap.size w w' := by
  rcases hk with rfl | rfl | rfl | rfl
  all_goals go_enter Tryz.func210, Tryz.ntmps210
  all_goals go_wp2
  all_goals go_ret
  all_goals exact ⟨by rfl, (Below.refl _ _).alloc (Nat.le_refl _) _⟩

set_option maxRecDepth 100000 in
set_option maxHeartbeats 1600000 in
theorem slIndexByte_any (s : ByteArray) (c : Int) (w : World) :
    Calls Tryz.prog 426 #[.string s, .int .u8 c] w fun e w' => e = .returned (.int .i64 (Lib.indexByte s.data.toList c.toNat.toUInt8)) ∧ w' = w := by
  go_enter Tryz.func426, Tryz.ntmps426
  go_wp2
  rw [run_callFunc_extern Tryz.func429 (by kernel_rfl) (by kernel_rfl) (by kernel_rfl) (e := Extern.BytealgIndexByte.indexByte) (by kernel_rfl), Lib.run_indexByteString]
  simp only [Result.andThen]
  rw [Oper.upon_value]
  go_wp2
  go_ret
  exact ⟨rfl, rfl⟩
set_option maxRecDepth 100000 in
set_option maxHeartbeats 1600000 in
theorem indexByte_any (s : ByteArray) (c : Int) (w : World) :
    Calls Tryz.prog 414 #[.string s, .int .u8 c] w fun e w' => e = .returned (.int .i64 (Lib.indexByte s.data.toList c.toNat.toUInt8)) ∧ w' = w := by
  go_enter Tryz.func414, Tryz.ntmps414
  go_wp2_with (go_at_call 426; refine (slIndexByte_any _ _ _).mono ?_; rintro e w' ⟨rfl, rfl⟩)
  go_ret
  exact ⟨rfl, rfl⟩

theorem lib_index (l : List UInt8) (c : UInt8) : Lib.indexByte l c = match pl l c with
    | some k => (k : Int)
    | none => -1 := by
  induction l with
  | nil => rfl
  | cons b r ih =>
    unfold pl at ih ⊢
    rw [Lib.indexByte, List.findIdx?_cons]
    by_cases hb : (b == c) = true
    · simp [hb]
    · have hb' : (b == c) = false := by simpa using hb
      rw [hb', ih]
      simp only [Bool.false_eq_true, if_false]
      cases r.findIdx? (fun x => x == c) with
      | none => simp
      | some k =>
        simp only [Option.map_some]
        have : (((k : Int)) == -1) = false := by rw [beq_eq_false_iff_ne]; omega
        rw [this]
        simp
theorem oft_index (c : UInt8) (w : World) : Calls Tryz.prog 414 #[.string ⟨#[101, 116, 97, 111, 105, 110, 115, 114]⟩, .int .u8 c.toNat] w fun e w' => e = .returned (.int .i64 (match pl oft c with
    | some k => (k : Int)
    | none => -1)) ∧ w' = w := by
  have h := indexByte_any ⟨#[101, 116, 97, 111, 105, 110, 115, 114]⟩ c.toNat w
  have e : (Lib.indexByte (ByteArray.mk #[101, 116, 97, 111, 105, 110, 115, 114]).data.toList ((c.toNat : Int)).toNat.toUInt8) = Lib.indexByte oft c := by
    congr 1
    simp
  rw [e, lib_index] at h
  exact h
theorem sel_index (c : UInt8) (w : World) : Calls Tryz.prog 414 #[.string ⟨#[98, 99, 100, 102, 103, 104, 107, 108, 109, 112, 117, 119, 121, 45, 47, 46]⟩, .int .u8 c.toNat] w fun e w' => e = .returned (.int .i64 (match pl sel c with
    | some k => (k : Int)
    | none => -1)) ∧ w' = w := by
  have h := indexByte_any ⟨#[98, 99, 100, 102, 103, 104, 107, 108, 109, 112, 117, 119, 121, 45, 47, 46]⟩ c.toNat w
  have e : (Lib.indexByte (ByteArray.mk #[98, 99, 100, 102, 103, 104, 107, 108, 109, 112, 117, 119, 121, 45, 47, 46]).data.toList ((c.toNat : Int)).toNat.toUInt8) = Lib.indexByte sel c := by
    congr 1
    simp
  rw [e, lib_index] at h
  exact h

/-- A byte's code as a number, and how many bits it has. -/
def codeN (c : UInt8) : Nat × Nat := match pl oft c with
  | some k => (k, 4)
  | none => match pl sel c with
    | some k => (32 + k, 6)
    | none => (768 + c.toNat, 10)
theorem codeN_bits (c : UInt8) : codeB c = natBits (codeN c).2 (codeN c).1 ∧ (codeN c).1 < 2 ^ (codeN c).2 ∧ (codeN c).2 ≤ 10 := by
  rcases h1 : pl oft c with _ | k
  · rcases h2 : pl sel c with _ | k
    · have e1 : codeB c = [true, true] ++ natBits 8 c.toNat := by unfold codeB; rw [h1]; simp only [h2]
      have e2 : codeN c = (768 + c.toNat, 10) := by unfold codeN; rw [h1]; simp only [h2]
      have hlt := c.toNat_lt
      rw [e1, e2]
      refine ⟨?_, by show 768 + c.toNat < 2 ^ 10; omega, by show 10 ≤ 10; omega⟩
      show _ = natBits (9 + 1) (768 + c.toNat)
      rw [natBits_high 9, natBits_high 8]
      have h1 : (768 + c.toNat) / 2 ^ 9 % 2 = 1 := by omega
      have h2 : (768 + c.toNat) / 2 ^ 8 % 2 = 1 := by omega
      have h3 : natBits 8 (768 + c.toNat) = natBits 8 c.toNat := natBits_add 8 3 c.toNat
      rw [h1, h2, h3]
      rfl
    · have e1 : codeB c = [true, false] ++ natBits 4 k := by unfold codeB; rw [h1]; simp only [h2]
      have e2 : codeN c = (32 + k, 6) := by unfold codeN; rw [h1]; simp only [h2]
      have hlt : k < 16 := pl_lt h2
      rw [e1, e2]
      refine ⟨?_, by show 32 + k < 2 ^ 6; omega, by show 6 ≤ 10; omega⟩
      show _ = natBits (5 + 1) (32 + k)
      rw [natBits_high 5, natBits_high 4]
      have h1 : (32 + k) / 2 ^ 5 % 2 = 1 := by omega
      have h2 : (32 + k) / 2 ^ 4 % 2 = 0 := by omega
      have h3 : natBits 4 (32 + k) = natBits 4 k := natBits_add 4 2 k
      rw [h1, h2, h3]
      rfl
  · have e1 : codeB c = [false] ++ natBits 3 k := by unfold codeB; rw [h1]
    have e2 : codeN c = (k, 4) := by unfold codeN; rw [h1]
    have hlt : k < 8 := pl_lt h1
    rw [e1, e2]
    refine ⟨?_, by show k < 2 ^ 4; omega, by show 4 ≤ 10; omega⟩
    show _ = natBits (3 + 1) k
    rw [natBits_high 3 k]
    have : k / 2 ^ 3 % 2 = 0 := by omega
    rw [this]
    rfl

set_option maxRecDepth 100000 in
set_option maxHeartbeats 1600000 in
theorem bcodeOf_any (c : UInt8) (w : World) :
    Calls Tryz.prog 374 #[.int .u8 c.toNat] w fun e w' => e = .returned (.tuple #[.int .u32 (codeN c).1, .int .i64 (codeN c).2]) ∧ w' = w := by
  have H1 := hide (oft_index c)
  have H2 := hide (sel_index c)
  have hcl : c.toNat ≤ 255 := Nat.le_of_lt_succ c.toNat_lt
  rcases h1 : pl oft c with _ | k
  · rcases h2 : pl sel c with _ | k
    · have HN : Hid (codeN c = (768 + c.toNat, 10)) := by show codeN c = _; unfold codeN; rw [h1]; simp only [h2]
      rw [h1] at H1
      rw [h2] at H2
      simp only at H1 H2
      clear h1 h2
      have hor : bits .or .u32 768 (c.toNat : Int) = ((768 + c.toNat : Nat) : Int) := by
        have h3 : ∀ j : Fin 256, 768 ||| j.val = 768 + j.val := by decide
        rw [← h3 ⟨c.toNat, c.toNat_lt⟩]
        exact u32_or_nat 768 c.toNat (by omega) (by omega)
      have HO := hide hor
      clear hor
      generalize c.toNat = x at *
      go_enter Tryz.func374, Tryz.ntmps374
      go_wp2_with (first | (go_at_call 414; refine (H1.out _).mono ?_; rintro e w' ⟨rfl, rfl⟩) | (go_at_call 414; refine (H2.out _).mono ?_; rintro e w' ⟨rfl, rfl⟩))
      rw [HN.out]
      refine bodyPost_ret (v := .tuple #[.int .u32 ((768 + x : Nat)), .int .i64 10]) ?_ rfl ⟨rfl, rfl⟩
      simp [results, Tryz.results374, go_sem, HO.out]
    · have HN : Hid (codeN c = (32 + k, 6)) := by show codeN c = _; unfold codeN; rw [h1]; simp only [h2]
      have hk : k < 16 := pl_lt h2
      have hor : bits .or .u32 32 (k : Int) = ((32 + k : Nat) : Int) := by
        have h3 : ∀ j : Fin 16, 32 ||| j.val = 32 + j.val := by decide
        rw [← h3 ⟨k, hk⟩]
        exact u32_or_nat 32 k (by omega) (by omega)
      have HO := hide hor
      clear hor
      rw [h1] at H1
      rw [h2] at H2
      simp only at H1 H2
      clear h1 h2
      generalize c.toNat = x at *
      go_enter Tryz.func374, Tryz.ntmps374
      go_wp2_with (first | (go_at_call 414; refine (H1.out _).mono ?_; rintro e w' ⟨rfl, rfl⟩) | (go_at_call 414; refine (H2.out _).mono ?_; rintro e w' ⟨rfl, rfl⟩))
      rw [HN.out]
      refine bodyPost_ret (v := .tuple #[.int .u32 ((32 + k : Nat)), .int .i64 6]) ?_ rfl ⟨rfl, rfl⟩
      simp [results, Tryz.results374, go_sem, HO.out]
  · have HN : Hid (codeN c = (k, 4)) := by show codeN c = _; unfold codeN; rw [h1]
    have hk : k < 8 := pl_lt h1
    rw [h1] at H1
    simp only at H1
    clear h1
    generalize c.toNat = x at *
    go_enter Tryz.func374, Tryz.ntmps374
    go_wp2_with (first | (go_at_call 414; refine (H1.out _).mono ?_; rintro e w' ⟨rfl, rfl⟩) | (go_at_call 414; refine (H2.out _).mono ?_; rintro e w' ⟨rfl, rfl⟩))
    rw [HN.out]
    refine bodyPost_ret (v := .tuple #[.int .u32 (k : Nat), .int .i64 4]) ?_ rfl ⟨rfl, rfl⟩
    simp [results, Tryz.results374, go_sem]
end Go.Proofs.YtghongdbohjaaaaGreatDoor
/-
  Package blocks: bitWriter's put and fill, packBits.
-/
namespace Go.Proofs.YtghongdbohjaaaaGreatDoor
set_option linter.unusedVariables false
set_option linter.unusedSimpArgs false
open Go.RowKit

/-- Bits in the middle of a number. -/
theorem val_mid (X : List Bool) (LL m : Nat) (hm : m ≤ X.length) (h8 : 8 ≤ m) (h : LL % 2 ^ X.length = valB X) : LL / 2 ^ (m - 8) % 256 = valB ((X.drop (X.length - m)).take 8) := by
  have hX : X = X.take (X.length - m) ++ ((X.drop (X.length - m)).take 8 ++ X.drop (X.length - m + 8)) := by
    have h1 : (X.drop (X.length - m)).drop 8 = X.drop (X.length - m + 8) := by rw [List.drop_drop]
    rw [← h1, List.take_append_drop, List.take_append_drop]
  generalize hA : X.take (X.length - m) = A at hX
  generalize hY : (X.drop (X.length - m)).take 8 = Y at hX
  generalize hZ : X.drop (X.length - m + 8) = Z at hX
  have hYl : Y.length = 8 := by rw [← hY, List.length_take, List.length_drop]; omega
  have hZl : Z.length = m - 8 := by rw [← hZ, List.length_drop]; omega
  have hv : valB X = valB A * 2 ^ (8 + (m - 8)) + (valB Y * 2 ^ (m - 8) + valB Z) := by
    rw [hX, valB_append, valB_append, List.length_append, hYl, hZl]
  have h1 : LL % 2 ^ m = valB Y * 2 ^ (m - 8) + valB Z := by
    have e : LL % 2 ^ m = LL % 2 ^ X.length % 2 ^ m := by
      rw [Nat.mod_mod_of_dvd]
      exact Nat.pow_dvd_pow 2 hm
    have hm2 : 8 + (m - 8) = m := by omega
    rw [e, h, hv, hm2, Nat.mul_comm (valB A), Nat.mul_add_mod]
    apply Nat.mod_eq_of_lt
    have hy := valB_lt Y
    have hz := valB_lt Z
    rw [hYl] at hy
    rw [hZl] at hz
    have hm3 : 2 ^ m = 2 ^ 8 * 2 ^ (m - 8) := by rw [← Nat.pow_add]; congr 1; omega
    rw [hm3]
    have h5 : (valB Y + 1) * 2 ^ (m - 8) ≤ 2 ^ 8 * 2 ^ (m - 8) := Nat.mul_le_mul_right _ hy
    rw [Nat.add_mul] at h5
    omega
  have hz := valB_lt Z
  rw [hZl] at hz
  have hp : 0 < 2 ^ (m - 8) := Nat.two_pow_pos _
  have hm3 : 2 ^ m = 2 ^ (m - 8) * 256 := by
    have : 2 ^ m = 2 ^ (m - 8 + 8) := by congr 1; omega
    rw [this, Nat.pow_add]
  have h6 : LL % 2 ^ m / 2 ^ (m - 8) = LL / 2 ^ (m - 8) % 256 := by rw [hm3, Nat.mod_mul_right_div_self]
  rw [← h6, h1, Nat.mul_comm, Nat.mul_add_div hp, Nat.div_eq_of_lt hz]
  omega

/-- .. behind more bits. -/
theorem val_more (X : List Bool) (L v n : Nat) (hn : n ≤ 32) (hX : X.length + n ≤ 32) (hv : v < 2 ^ n) (h : L % 2 ^ X.length = valB X) :
    (L * 2 ^ n % 4294967296 ||| v) % 2 ^ (X.length + n) = valB (X ++ natBits n v) ∧ (L * 2 ^ n % 4294967296 ||| v) < 4294967296 := by
  have e1 : L * 2 ^ n % 4294967296 = (L % 2 ^ (32 - n)) * 2 ^ n := by
    have : 4294967296 = 2 ^ (32 - n) * 2 ^ n := by rw [← Nat.pow_add]; have : 32 - n + n = 32 := by omega
                                                   rw [this]
    rw [this, Nat.mul_mod_mul_right]
  have e2 : (L % 2 ^ (32 - n)) * 2 ^ n ||| v = (L % 2 ^ (32 - n)) * 2 ^ n + v := by
    rw [← Nat.shiftLeft_eq, Nat.shiftLeft_add_eq_or_of_lt hv]
  rw [e1, e2]
  have e3 : X.length ≤ 32 - n := by omega
  have e4 : L % 2 ^ (32 - n) % 2 ^ X.length = valB X := by
    rw [Nat.mod_mod_of_dvd, h]
    exact Nat.pow_dvd_pow 2 e3
  have hlt : L % 2 ^ (32 - n) < 2 ^ (32 - n) := Nat.mod_lt _ (Nat.two_pow_pos _)
  generalize L % 2 ^ (32 - n) = M at e4 hlt
  constructor
  · rw [valB_append, natBits_length, valB_natBits, Nat.mod_eq_of_lt hv, ← e4, Nat.pow_add, Nat.mul_comm (2 ^ X.length), Nat.mod_mul]
    rw [Nat.mul_add_mod_self_right, Nat.mod_eq_of_lt hv, Nat.mul_comm M, Nat.mul_add_div (Nat.two_pow_pos n), Nat.div_eq_of_lt hv]
    rw [Nat.add_zero, Nat.mul_comm]
    omega
  · have h5 : (M + 1) * 2 ^ n ≤ 2 ^ (32 - n) * 2 ^ n := Nat.mul_le_mul_right _ hlt
    have h6 : 2 ^ (32 - n) * 2 ^ n = 4294967296 := by rw [← Nat.pow_add]; have : 32 - n + n = 32 := by omega
                                                      rw [this]
    rw [h6, Nat.add_mul] at h5
    omega
end Go.Proofs.YtghongdbohjaaaaGreatDoor
/-
  Package blocks: bitWriter's put.
-/
namespace Go.Proofs.YtghongdbohjaaaaGreatDoor
set_option linter.unusedVariables false
set_option linter.unusedSimpArgs false
open Go.RowKit

/-- A writer's block. -/
def BwB (w : World) (wb : Nat) (gv : Value) (L N : Nat) : Prop := w.heap[wb]? = some (.cells #[gv, .int .u32 (L : Int), .int .i64 (N : Int)] 474 (0, 0))
theorem BwB.cells {w : World} {wb : Nat} {gv : Value} {L N : Nat} (h : BwB w wb gv L N) : w.cell? ⟨wb, 0, none⟩ = some gv ∧ w.cell? ⟨wb, 1, none⟩ = some (.int .u32 (L : Int)) ∧ w.cell? ⟨wb, 2, none⟩ = some (.int .i64 (N : Int)) := by
  unfold BwB at h
  refine ⟨?_, ?_, ?_⟩ <;> rw [cell_of_row w wb _ _ _ _ h] <;> rfl
theorem BwB.free {w : World} {wb : Nat} {gv : Value} {L N : Nat} (h : BwB w wb gv L N) (o : Nat) : w.frozen? ⟨wb, o, none⟩ = false := by
  unfold BwB at h
  simp [World.frozen?, h]
theorem BwB.lt {w : World} {wb : Nat} {gv : Value} {L N : Nat} (h : BwB w wb gv L N) : wb < w.heap.size := lt_of_block h

/-- append in a region that draws its order. -/
theorem step_app {P : Program} {ops : Array Oper} {o : Oper} {a : Act} {w : World} {K : Act → World → Prop} {Q : Exit → Act → World → Prop} {E : Prop} (hgd : o.guard = none) (s y : Operand) (t : TypeId)
    (ho : o.op = .call { callee := .builtin .append, args := #[s, y], argTypes := #[t, t] })
    (e : TypeId) (i : TypeInfo) (z : Value) (size bytes : Nat) (ht : P.underlying t = some (.slice e)) (hi : P.info? e = some i) (hz : i.zero = some z)
    (hsize : i.size = size) (hby : i.bytes = bytes) (hzs : z.cells.size = size) (hsz : 0 < size)
    (v : Value) (n : Nat) (xs : List Value) (hs : a.eval s = v) (hown : w.ownsRow 0 e size v n xs)
    (x : Value) (m : Nat) (news : List Value) (hx : a.eval y = x) (hl : news.length = m * size) (hnews : Lies w x m news) (h1 : ∀ u ∈ news, u.oneCell' = true)
    (h63 : n + m ≤ maxLen) (hbytes : (n + m) * bytes ≤ 140737488355328)
    (hK : ∀ v' w', w'.ownsRow 0 e size v' (n + m) (xs ++ news) → w.grownBy w' v.ownBlock → (v'.ownBlock = v.ownBlock ∨ v'.ownBlock = some w.heap.size) → K (a.put o.dst v') w') :
    if Region.wanted o (yielded ops a.tmps) = true then Oper.wp P o a w K Q else E := by
  have hw : Region.wanted o (yielded ops a.tmps) = true := by simp [Region.wanted, hgd]
  rw [if_pos hw]
  obtain ⟨v', w', hr, h2, h3, h4⟩ := run_app (P := P) w t o.type e i z size bytes ht hi hz hsize hby hzs hsz v n xs hown x m news hl hnews h1 h63 hbytes
  unfold Oper.wp
  simp [execOp, ho, resolve, invoke, builtin, hs, hx, hr, Result.andThen]
  exact hK v' w' h2 h3 h4

/-- What a call on a writer may change. -/
def TouchB (wb : Nat) (gv : Value) (j : Nat) : Prop := j = wb ∨ gv.ownBlock = some j
theorem BwB.chg {S : Nat → Prop} {w w' : World} {wb : Nat} {gv : Value} {L N : Nat} (h : BwB w wb gv L N) (hc : Chg S w w') (hs : ¬ S wb) : BwB w' wb gv L N := by
  unfold BwB at h ⊢
  rw [hc.block wb (lt_of_block h) hs]; exact h
theorem BwB.set0 {w : World} {wb : Nat} {gv : Value} {L N : Nat} (h : BwB w wb gv L N) (u : Value) : BwB (w.setCell ⟨wb, 0, none⟩ u) wb u L N := block_setCell (i := 0) (u := u) h
theorem BwB.set1 {w : World} {wb : Nat} {gv : Value} {L N : Nat} (h : BwB w wb gv L N) (l : Nat) : BwB (w.setCell ⟨wb, 1, none⟩ (.int .u32 (l : Int))) wb gv l N := block_setCell (i := 1) (u := .int .u32 (l : Int)) h
theorem BwB.set2 {w : World} {wb : Nat} {gv : Value} {L N : Nat} (h : BwB w wb gv L N) (n : Nat) : BwB (w.setCell ⟨wb, 2, none⟩ (.int .i64 (n : Int))) wb gv L n := block_setCell (i := 2) (u := .int .i64 (n : Int)) h
/-- A round of put's loop. -/
theorem put_round {w wr w2 : World} {wb k m LL : Nat} {gv gv' v' : Value} {l : List UInt8} {c : UInt8} {x : Value} (hb : BwB wr wb gv' LL m) (h8 : 8 ≤ m) (how : wr.ownsRow 0 5 1 gv' k (l.map B)) (hch : Chg (TouchB wb gv) w wr) (hfr : ∀ j, gv'.ownBlock = some j → gv.ownBlock = some j ∨ w.heap.size ≤ j)
    (hx : x = .int .i64 ((m - 8 : Nat) : Int)) {o : Obj} (hown' : w2.ownsRow 0 5 1 v' (k + 1) (l.map B ++ [B c])) (hg : ((wr.setCell ⟨wb, 2, none⟩ x).alloc o).drew.grownBy w2 gv'.ownBlock) (hf : v'.ownBlock = gv'.ownBlock ∨ v'.ownBlock = some ((wr.setCell ⟨wb, 2, none⟩ x).alloc o).drew.heap.size) :
    BwB w2 wb gv' LL (m - 8) ∧ BwB (w2.setCell ⟨wb, 0, none⟩ v') wb v' LL (m - 8) ∧ (w2.setCell ⟨wb, 0, none⟩ v').ownsRow 0 5 1 v' (k + 1) ((l ++ [c]).map B) ∧ Chg (TouchB wb gv) w (w2.setCell ⟨wb, 0, none⟩ v') ∧ (∀ j, v'.ownBlock = some j → gv.ownBlock = some j ∨ w.heap.size ≤ j) := by
  subst hx
  have hne : gv'.ownBlock ≠ some wb := owns_ne how hb (by decide)
  have hc1 : Chg (fun j => j = wb) wr (wr.setCell ⟨wb, 2, none⟩ (.int .i64 ((m - 8 : Nat) : Int))) := (Chg.refl (fun j => j = wb) _).setCell (p := ⟨wb, 2, none⟩) (Or.inr rfl) _
  have hc2 : Chg (fun j => gv'.ownBlock = some j) (wr.setCell ⟨wb, 2, none⟩ (.int .i64 ((m - 8 : Nat) : Int))) w2 := (((Chg.refl _ _).alloc o).drew).trans (Chg.of_grown hg (fun j hj => Or.inr hj))
  have hb1 := hb.set2 (m - 8)
  have hb2 := hb1.chg hc2 hne
  have hv' : ∀ j, v'.ownBlock = some j → gv'.ownBlock = some j ∨ wr.heap.size ≤ j := by
    intro j hj
    rcases hf with e | e
    · rw [e] at hj; exact Or.inl hj
    · rw [e] at hj
      have e2 : ((wr.setCell ⟨wb, 2, none⟩ (.int .i64 ((m - 8 : Nat) : Int))).alloc o).drew.heap.size = wr.heap.size + 1 := by
        show ((wr.setCell ⟨wb, 2, none⟩ (.int .i64 ((m - 8 : Nat) : Int))).alloc o).heap.size = _
        simp [World.setCell]
      rw [e2] at hj
      simp at hj
      exact Or.inr (by omega)
  have hc3 : Chg (fun j => j = wb) w2 (w2.setCell ⟨wb, 0, none⟩ v') := (Chg.refl (fun j => j = wb) _).setCell (p := ⟨wb, 0, none⟩) (Or.inr rfl) _
  have hsz := hch.size
  have hsz1 := hc1.size
  refine ⟨hb2, hb2.set0 v', ?_, ((hch.trans (hc1.mono fun j _ e => Or.inr (Or.inl e))).trans (hc2.mono fun j _ e => ?_)).trans (hc3.mono fun j _ e => Or.inr (Or.inl e)), fun j hj => ?_⟩
  · rw [List.map_append]
    refine owns_chg hown' hc3 (fun j hj e => ?_)
    subst e
    exact owns_ne hown' hb2 (by decide) hj
  · rcases hfr j e with a | a
    · exact Or.inr (Or.inr a)
    · exact Or.inl a
  · rcases hv' j hj with a | a
    · exact hfr j a
    · exact Or.inr (by omega)

/-- A writer: the bits that were laid down. -/
def BwS (w : World) (wb : Nat) (gv : Value) (bs : List Bool) : Prop :=
  ∃ L N, BwB w wb gv L N ∧ L < 4294967296 ∧ N = bs.length % 8 ∧ L % 2 ^ N = valB (bs.drop (8 * (bs.length / 8))) ∧ w.ownsRow 0 5 1 gv (bs.length / 8) ((bytesB bs).map B)
def bwN (w : World) (wb : Nat) : Nat := match w.cell? ⟨wb, 2, none⟩ with
  | some (.int _ n) => n.toNat
  | _ => 0

theorem bwN_of {w : World} {wb : Nat} {gv : Value} {L N : Nat} (h : BwB w wb gv L N) : bwN w wb = N := by
  unfold bwN
  rw [h.cells.2.2]
  simp
theorem bytesB_next {l : List Bool} {k : Nat} (h : 8 * k + 8 ≤ l.length) : (bytesB l).take (k + 1) = (bytesB l).take k ++ [UInt8.ofNat (valB ((l.drop (8 * k)).take 8))] := by
  have hk : k < (bytesB l).length := by rw [bytesB_length]; omega
  rw [List.take_succ_eq_append_getElem hk]
  simp [bytesB]
theorem bytesB_more (a b : List Bool) : (bytesB (a ++ b)).take (a.length / 8) = bytesB a := by
  apply List.ext_getElem
  · simp [bytesB_length]; omega
  · intro i h1 h2
    rw [bytesB_length] at h2
    simp only [bytesB, List.getElem_take, List.getElem_map, List.getElem_range]
    congr 2
    rw [List.drop_append_of_le_length (by omega), List.take_append_of_le_length (by rw [List.length_drop]; omega)]

set_option maxRecDepth 100000 in
set_option maxHeartbeats 3200000 in
theorem put_any (wb : Nat) (gv : Value) (L N : Nat) (bs : List Bool) (v n : Nat) (w : World) (h : BwB w wb gv L N) (hL : L < 4294967296) (hN : N = bs.length % 8) (hX : L % 2 ^ N = valB (bs.drop (8 * (bs.length / 8))))
    (hown : w.ownsRow 0 5 1 gv (bs.length / 8) ((bytesB bs).map B)) (hv : v < 2 ^ n) (hn : n ≤ 10) (hlb : bs.length ≤ 1099511627776) :
    Calls Tryz.prog 373 #[.pointer (some ⟨wb, 0, none⟩), .int .u32 v, .int .i64 n] w fun e w' => e = .returned (.tuple #[]) ∧ ∃ gv', BwS w' wb gv' (bs ++ natBits n v) ∧ Chg (TouchB wb gv) w w' ∧ (∀ j, gv'.ownBlock = some j → gv.ownBlock = some j ∨ w.heap.size ≤ j) := by
  obtain ⟨i0, hi, hz0, hz1, hz2⟩ := info_parts Tryz.info5
  obtain ⟨c0, c1, c2⟩ := h.cells
  have f1 := h.free 1
  have f2 := h.free 2
  have hN8 : N < 8 := by omega
  have hv1 : v < 1024 := Nat.lt_of_lt_of_le hv (Nat.le_trans (Nat.pow_le_pow_right (by omega) hn) (by decide))
  have hXl : (bs.drop (8 * (bs.length / 8))).length = N := by rw [List.length_drop]; omega
  obtain ⟨q1, q2⟩ := val_more (bs.drop (8 * (bs.length / 8))) L v n (by omega) (by omega) hv (by rw [hXl]; exact hX)
  have hor : bits .or .u32 ((L : Int) * 2 ^ n % 4294967296) (v : Int) = ((L * 2 ^ n % 4294967296 ||| v : Nat) : Int) := by
    have := u32_or_nat (L * 2 ^ n % 4294967296) v (Nat.mod_lt _ (by decide)) (by omega)
    have e1 : ((L * 2 ^ n : Nat) : Int) = (L : Int) * 2 ^ n := by
      rw [Int.natCast_mul, Int.natCast_pow]
      rfl
    have e : ((L * 2 ^ n % 4294967296 : Nat) : Int) = (L : Int) * 2 ^ n % 4294967296 := by rw [← e1]; omega
    rw [← e]
    exact this
  generalize L * 2 ^ n % 4294967296 ||| v = LL at q1 q2 hor
  have hT : (bs.drop (8 * (bs.length / 8)) ++ natBits n v) = (bs ++ natBits n v).drop (8 * (bs.length / 8)) := by rw [List.drop_append_of_le_length (by omega)]
  rw [hT, hXl] at q1
  have hlen : (bs ++ natBits n v).length = 8 * (bs.length / 8) + N + n := by rw [List.length_append, natBits_length]; omega
  have hmore := bytesB_more bs (natBits n v)
  obtain ⟨bt, hbt⟩ : ∃ bt, bt = bs ++ natBits n v := ⟨_, rfl⟩
  rw [← hbt] at q1 hlen hmore ⊢
  obtain ⟨q, hq⟩ : ∃ q, q = bs.length / 8 := ⟨_, rfl⟩
  rw [← hq] at q1 hlen hmore hown
  rw [← hmore] at hown
  have HQ1 := hide q1
  have HH := hide h
  have HOWN := hide hown
  have HLEN := hide hlen
  have HQ := hide hq
  have HLB : Hid (8 * q + N + n ≤ 1099511627800) := by show _ ≤ _; omega
  clear hT hXl hX hbt hN hv q1 h hown hlen hmore hq
  go_enter Tryz.func373, Tryz.ntmps373
  go_wp2
  go_loopw [] (fun wr => ∃ k gv' m, 8 * k + m = 8 * q + N + n ∧ q ≤ k ∧ BwB wr wb gv' LL m ∧ wr.ownsRow 0 5 1 gv' k (((bytesB bt).take k).map B) ∧ Chg (TouchB wb gv) w wr ∧ (∀ j, gv'.ownBlock = some j → gv.ownBlock = some j ∨ w.heap.size ≤ j)) (fun wr => bwN wr wb)
  case atStart => exact ⟨q, gv, N + n, by omega, Nat.le_refl _, by have h9 := (HH.out.set1 LL).set2 (N + n); rw [show ((N + n : Nat) : Int) = (N : Int) + (n : Int) from by omega] at h9; exact h9, owns_chg HOWN.out (((Chg.refl (fun j => j = wb) w).setCell (p := ⟨wb, 1, none⟩) (Or.inr rfl) _).setCell (p := ⟨wb, 2, none⟩) (Or.inr rfl) _) (fun j hj e => by subst e; exact owns_ne HOWN.out HH.out (by decide) hj), ((Chg.refl _ w).setCell (p := ⟨wb, 1, none⟩) (Or.inr (Or.inl rfl)) _).setCell (p := ⟨wb, 2, none⟩) (Or.inr (Or.inl rfl)) _, fun j hj => Or.inl hj⟩
  case round =>
    obtain ⟨k, gv', m, hm, hqk, hb, how, hch, hfr⟩ := hrel
    obtain ⟨z0, z1, z2⟩ := hb.cells
    have y0 := hb.free 0
    have y1 := hb.free 1
    have y2 := hb.free 2
    by_cases h8 : 8 ≤ m
    · have hm2 : m ≤ 17 := by omega
      have hkb : k ≤ 1099511627776 ∨ True := Or.inr trivial
      have hby : IntKind.u8.wrap ((LL : Int) / 2 ^ ((m : Int) - 8).toNat) = ((UInt8.ofNat (valB ((bt.drop (8 * k)).take 8))).toNat : Int) := by
        have e1 : ((m : Int) - 8).toNat = m - 8 := by omega
        have e2 : ((LL : Int) / 2 ^ (m - 8)) = ((LL / 2 ^ (m - 8) : Nat) : Int) := by rw [Int.natCast_ediv, Int.natCast_pow]; rfl
        have e3 : (bt.drop (8 * q)).length = N + n := by rw [List.length_drop, HLEN.out]; omega
        have e4 := val_mid (bt.drop (8 * q)) LL m (by omega) h8 (by rw [e3]; exact HQ1.out)
        rw [List.drop_drop, e3] at e4
        have e5 : 8 * q + (N + n - m) = 8 * k := by omega
        rw [e5] at e4
        have e6 := Nat.mod_lt (LL / 2 ^ (m - 8)) (show 256 > 0 by decide)
        rw [e1, e2, IntKind.wrap_u8', ← e4, u8_ofNat e6]
        omega
      have HBY := hide hby
      have HM8 : Hid ((m : Int) - 8 = ((m - 8 : Nat) : Int)) := by show _ = _; omega
      have HL8 : Hid (8 * k + 8 ≤ bt.length) := by show _ ≤ _; have := HLEN.out; omega
      have HO : Hid (((wr.setCell ⟨wb, 2, none⟩ (.int .i64 ((m : Int) - 8))).alloc (.cells #[.int .u8 (IntKind.u8.wrap ((LL : Int) / 2 ^ ((m : Int) - 8).toNat))] 5)).drew.ownsRow 0 5 1 gv' k (((bytesB bt).take k).map B)) :=
        (owns_chg how ((Chg.refl (fun j => j = wb) wr).setCell (p := ⟨wb, 2, none⟩) (Or.inr rfl) _) (fun j hj e => by subst e; exact owns_ne how hb (by decide) hj)).alloc _
      have HLI : Hid (Lies ((wr.setCell ⟨wb, 2, none⟩ (.int .i64 ((m : Int) - 8))).alloc (.cells #[.int .u8 (IntKind.u8.wrap ((LL : Int) / 2 ^ ((m : Int) - 8).toNat))] 5)).drew (.slice (some ⟨wr.heap.size, 0, none⟩) 1 1) 1 [.int .u8 (IntKind.u8.wrap ((LL : Int) / 2 ^ ((m : Int) - 8).toNat))]) := by
        refine lies_one ?_
        have hh := heap_alloc_new (wr.setCell ⟨wb, 2, none⟩ (.int .i64 ((m : Int) - 8))) (.cells #[.int .u8 (IntKind.u8.wrap ((LL : Int) / 2 ^ ((m : Int) - 8).toNat))] 5)
        have hs : (wr.setCell ⟨wb, 2, none⟩ (.int .i64 ((m : Int) - 8))).heap.size = wr.heap.size := by simp [World.setCell]
        rw [hs] at hh
        exact cell_of_one hh
      have HN1 : Hid (k + 1 ≤ maxLen) := by show _ ≤ _; unfold maxLen; have := HLB.out; have := HLEN.out; omega
      have HN2 : Hid ((k + 1) * 1 ≤ 140737488355328) := by show _ ≤ _; have := HLB.out; have := HLEN.out; omega
      have HONE : Hid (∀ u ∈ [Value.int .u8 (IntKind.u8.wrap ((LL : Int) / 2 ^ ((m : Int) - 8).toNat))], u.oneCell' = true) := by
        intro u hu
        simp at hu
        subst hu
        rfl
      have z0a : ((wr.setCell ⟨wb, 2, none⟩ (.int .i64 ((m : Int) - 8))).alloc (.cells #[.int .u8 (IntKind.u8.wrap ((LL : Int) / 2 ^ ((m : Int) - 8).toNat))] 5)).cell? ⟨wb, 0, none⟩ = some gv' := by
        have hc9 : Chg (fun _ => False) (wr.setCell ⟨wb, 2, none⟩ (.int .i64 ((m : Int) - 8))) ((wr.setCell ⟨wb, 2, none⟩ (.int .i64 ((m : Int) - 8))).alloc (.cells #[.int .u8 (IntKind.u8.wrap ((LL : Int) / 2 ^ ((m : Int) - 8).toNat))] 5)) := (Chg.refl _ _).alloc _
        have h9 := hb.set2 (m - 8)
        rw [← HM8.out] at h9
        exact (h9.chg hc9 id).cells.1
      have HB' := hide hb
      have HOW := hide how
      have HCH := hide hch
      have HFR := hide hfr
      clear hb how hch hfr hby hkb
      go_wp2
      go_region_law (refine step_app rfl (.tmp 41) (.tmp 52) 54 rfl 5 i0 (.int .u8 0) 1 1 Tryz.underlying54 hi hz0 hz1 hz2 rfl (by decide) gv' k (((bytesB bt).take k).map B) (by simp [Act.eval]) HO.out (.slice (some ⟨wr.heap.size, 0, none⟩) 1 1) 1 [.int .u8 (IntKind.u8.wrap ((LL : Int) / 2 ^ ((m : Int) - 8).toNat))] (by simp [Act.eval]) rfl HLI.out HONE.out HN1.out HN2.out ?_; intro v' w2 hown2 hg2 hf2; rw [HBY.out] at hown2; obtain ⟨sv', cv', hv'⟩ := slice_len hown2; subst hv'; obtain ⟨p1, p2, p3, p4, p5⟩ := put_round HB'.out h8 HOW.out HCH.out HFR.out (by rw [HM8.out]) hown2 hg2 hf2; obtain ⟨d0, -, -⟩ := p1.cells; have d1 := p1.free 0)
      all_goals go_wp2
      all_goals refine ⟨⟨k + 1, _, m - 8, by omega, by omega, p2, ?_, p4, p5⟩, ?_⟩
      all_goals first
        | (rw [bytesB_next HL8.out]; exact p3)
        | (rw [bwN_of p2, bwN_of HB'.out]; omega)
    · have HB' := hide hb
      have HOW := hide how
      have HCH := hide hch
      have HFR := hide hfr
      clear hb how hch hfr
      go_wp2
      have hk : k = bt.length / 8 := by have := HLEN.out; omega
      have hm' : m = bt.length % 8 := by have := HLEN.out; omega
      have hmod : LL % 2 ^ m = valB (bt.drop (8 * (bt.length / 8))) := by
        have e3 : (bt.drop (8 * q)).length = N + n := by rw [List.length_drop, HLEN.out]; omega
        have hX : bt.drop (8 * q) = (bt.drop (8 * q)).take (N + n - m) ++ bt.drop (8 * k) := by
          have : bt.drop (8 * k) = (bt.drop (8 * q)).drop (N + n - m) := by rw [List.drop_drop]; congr 1; omega
          rw [this, List.take_append_drop]
        have hZl : (bt.drop (8 * k)).length = m := by rw [List.length_drop, HLEN.out]; omega
        have h1 := HQ1.out
        have h2 : LL % 2 ^ m = LL % 2 ^ (N + n) % 2 ^ m := by
          rw [Nat.mod_mod_of_dvd]
          exact Nat.pow_dvd_pow 2 (by omega)
        have h3 := valB_lt (bt.drop (8 * k))
        rw [hZl] at h3
        rw [h2, h1, hX, valB_append, hZl, Nat.mul_comm, Nat.mul_add_mod, Nat.mod_eq_of_lt h3, ← hk]
      refine bodyPost_end (results_none rfl _ _ _) rfl ⟨rfl, gv', ⟨LL, m, HB'.out, q2, hm', hmod, ?_⟩, HCH.out, HFR.out⟩
      have h := HOW.out
      rw [List.take_of_length_le (by rw [bytesB_length]; omega)] at h
      rw [← hk]
      exact h
end Go.Proofs.YtghongdbohjaaaaGreatDoor
/-
  A call of a Go function, in a region that draws its order.
-/
namespace Go.Proofs.YtghongdbohjaaaaGreatDoor
set_option linter.unusedVariables false
set_option linter.unusedSimpArgs false
open Go.RowKit

/-- A call of a Go function, in a region that draws its order. -/
theorem step_call {P : Program} {ops : Array Oper} {o : Oper} {a : Act} {w : World} {K : Act → World → Prop} {Q : Exit → Act → World → Prop} {E : Prop} (hgd : o.guard = none) (f : Nat) (fn : Func) (hfn : P.funcs[f]? = some fn) (hnm : (fn.name == "runtime.NumGoroutine") = false) (hbd : fn.body.isNone = false) (xs : List Operand) (ts : Array TypeId)
    (ho : o.op = .call { callee := .value (.func f), args := xs.toArray, argTypes := ts }) (vs : List Value) (hvs : xs.map a.eval = vs) {R : Ending → World → Prop} (hc : Calls P f vs.toArray w R)
    (hK : ∀ e w', R e w' → ∃ v, e = .returned v ∧ K (a.put o.dst v) w') :
    if Region.wanted o (yielded ops a.tmps) = true then Oper.wp P o a w K Q else E := by
  have hw : Region.wanted o (yielded ops a.tmps) = true := by simp [Region.wanted, hgd]
  rw [if_pos hw]
  unfold Oper.wp
  have he : (callFunc f vs.toArray).run P w = .ok (.enter f vs.toArray) w := by
    unfold callFunc
    simp only [Sem.run_bind, run_program, Result.andThen_ok, hfn, hnm, hbd, Bool.false_eq_true, if_false, Sem.run_pure]
  have hx : (execOp a.eval o).run P w = .ok (.enter f vs.toArray) w := by
    simp [execOp, ho, resolve, invoke, hvs, Act.eval, Deferred.ofValue, he]
  rw [hx, Oper.upon_enter]
  refine hc.mono ?_
  intro e w' hr
  obtain ⟨v, rfl, hk⟩ := hK e w' hr
  exact hk

/-- A call of a Go function that panics, in a region that draws its order. -/
theorem step_gone {P : Program} {ops : Array Oper} {o : Oper} {a : Act} {w : World} {K : Act → World → Prop} {Q : Exit → Act → World → Prop} {E : Prop} (hgd : o.guard = none) (f : Nat) (fn : Func) (hfn : P.funcs[f]? = some fn) (hnm : (fn.name == "runtime.NumGoroutine") = false) (hbd : fn.body.isNone = false) (xs : List Operand) (ts : Array TypeId)
    (ho : o.op = .call { callee := .value (.func f), args := xs.toArray, argTypes := ts }) (vs : List Value) (hvs : xs.map a.eval = vs) {R : Ending → World → Prop} (hc : Calls P f vs.toArray w R)
    (hK : ∀ e w', R e w' → ∃ ps, e = .panicked ps ∧ Q (.panic ps) a w') (v : Value) (hv : False → K (a.put o.dst v) w) :
    if Region.wanted o (yielded ops a.tmps) = true then Oper.wp P o a w K Q else E := by
  have hw : Region.wanted o (yielded ops a.tmps) = true := by simp [Region.wanted, hgd]
  rw [if_pos hw]
  unfold Oper.wp
  have he : (callFunc f vs.toArray).run P w = .ok (.enter f vs.toArray) w := by
    unfold callFunc
    simp only [Sem.run_bind, run_program, Result.andThen_ok, hfn, hnm, hbd, Bool.false_eq_true, if_false, Sem.run_pure]
  have hx : (execOp a.eval o).run P w = .ok (.enter f vs.toArray) w := by
    simp [execOp, ho, resolve, invoke, hvs, Act.eval, Deferred.ofValue, he]
  rw [hx, Oper.upon_enter]
  refine hc.mono ?_
  intro e w' hr
  obtain ⟨v, rfl, hk⟩ := hK e w' hr
  exact hk
/-- Where the walk never comes. -/
theorem step_never {P : Program} {ops : Array Oper} {o : Oper} {a : Act} {w : World} {K : Act → World → Prop} {Q : Exit → Act → World → Prop} {E : Prop} (hf : False) (v : Value) (hv : K (a.put o.dst v) w) : if Region.wanted o (yielded ops a.tmps) = true then Oper.wp P o a w K Q else E := hf.elim

/-- append onto a row of the program's own, in a region that draws its order. -/
theorem step_appd {P : Program} {ops : Array Oper} {o : Oper} {a : Act} {w : World} {K : Act → World → Prop} {Q : Exit → Act → World → Prop} {E : Prop} (hgd : o.guard = none) (s y : Operand) (t : TypeId)
    (ho : o.op = .call { callee := .builtin .append, args := #[s, y], argTypes := #[t, t] })
    (e : TypeId) (i : TypeInfo) (z : Value) (size bytes : Nat) (ht : P.underlying t = some (.slice e)) (hi : P.info? e = some i) (hz : i.zero = some z)
    (hsize : i.size = size) (hby : i.bytes = bytes) (hzs : z.cells.size = size) (hsz : 0 < size)
    (v : Value) (n : Nat) (xs : List Value) (hs : a.eval s = v) (hown : w.ownsRow 0 e size v n xs)
    (x : Value) (m : Nat) (news : List Value) (hx : a.eval y = x) (hl : news.length = m * size) (hnews : Lies w x m news) (h1 : ∀ u ∈ news, u.oneCell' = true)
    (h63 : n + m ≤ maxLen) (hbytes : (n + m) * bytes ≤ 140737488355328)
    (hK : ∀ v' w', w'.ownsRow 0 e size v' (n + m) (xs ++ news) → w.grownBy w' v.ownBlock → (v'.ownBlock = v.ownBlock ∨ v'.ownBlock = some w.heap.size) → K (a.put o.dst v') w') :
    if Region.wanted o (yielded ops a.tmps) = true then Oper.wp P o a w K Q else E := by
  have hw : Region.wanted o (yielded ops a.tmps) = true := by simp [Region.wanted, hgd]
  rw [if_pos hw]
  obtain ⟨v', w', hr, h2, h3, h4⟩ := run_app (P := P) w t o.type e i z size bytes ht hi hz hsize hby hzs hsz v n xs hown x m news hl hnews h1 h63 hbytes
  unfold Oper.wp
  simp [execOp, ho, resolve, invoke, builtin, hs, hx, hr, Result.andThen]
  exact hK v' w' h2 h3 h4
end Go.Proofs.YtghongdbohjaaaaGreatDoor
/-
  Package blocks: appendCount.
-/
namespace Go.Proofs.YtghongdbohjaaaaGreatDoor
set_option linter.unusedVariables false
set_option linter.unusedSimpArgs false
open Go.RowKit

/-- Bytes that are being laid down, beside a form that lies in the first new block. -/
structure CtR (w : World) (gv : Value) (f k : Nat) (wr : World) (v : Value) (l : List UInt8) : Prop where
  own : wr.ownsRow 0 5 1 v l.length (l.map B)
  chg : Chg (fun j => gv.ownBlock = some j) w wr
  fresh : ∀ j, v.ownBlock = some j → gv.ownBlock = some j ∨ w.heap.size ≤ j
  frm : wr.heap[w.heap.size]? = some (.cells #[.int .u8 (f : Int), .int .i64 (k : Int)] 287 (0, 0))

theorem CtR.below {w wr wx : World} {gv v : Value} {f k : Nat} {l : List UInt8} (h : CtR w gv f k wr v l) (hb : Below wr.heap.size wr wx) : CtR w gv f k wx v l :=
  ⟨owns_chg h.own (Chg.of_below (S := fun _ => False) hb) (fun _ _ => id), h.chg.then_below hb, h.fresh, by rw [hb.block _ (lt_of_block h.frm)]; exact h.frm⟩
theorem CtR.app {w wr wx : World} {gv v v' : Value} {f k : Nat} {l r : List UInt8} {o : Obj} (h : CtR w gv f k wr v l) (hown : wx.ownsRow 0 5 1 v' (l.length + r.length) (l.map B ++ r.map B)) (hg : (wr.alloc o).grownBy wx v.ownBlock) (hf : v'.ownBlock = v.ownBlock ∨ v'.ownBlock = some (wr.heap.size + 1)) : CtR w gv f k wx v' (l ++ r) := by
  have hc : Chg (fun j => v.ownBlock = some j) wr wx := ((Chg.refl _ _).alloc o).trans (Chg.of_grown hg (fun j hj => Or.inr hj))
  have hsz := h.chg.size
  refine ⟨by rw [List.length_append, List.map_append]; exact hown, h.chg.trans (hc.mono fun j _ e => ?_), fun j hj => ?_, ?_⟩
  · exact (h.fresh j e).symm
  · rcases hf with e | e
    · rw [e] at hj; exact h.fresh j hj
    · rw [e] at hj
      simp at hj
      exact Or.inr (by omega)
  · rw [hc.block _ (lt_of_block h.frm) (fun e => owns_ne h.own h.frm (by decide) e)]; exact h.frm
theorem CtR.drew {w wr : World} {gv v : Value} {f k : Nat} {l : List UInt8} (h : CtR w gv f k wr v l) : CtR w gv f k wr.drew v l := ⟨h.own, h.chg.drew, h.fresh, h.frm⟩

/-- The end of appendCount, and of the like. -/
structure Laid (w : World) (gv : Value) (w' : World) (v : Value) (l : List UInt8) : Prop where
  own : w'.ownsRow 0 5 1 v l.length (l.map B)
  chg : Chg (fun j => gv.ownBlock = some j) w w'
  fresh : ∀ j, v.ownBlock = some j → gv.ownBlock = some j ∨ w.heap.size ≤ j

theorem one_u8 (x : Int) : ∀ u ∈ [Value.int .u8 x], u.oneCell' = true := by
  intro u hu
  simp at hu
  subst hu
  rfl

set_option maxRecDepth 100000 in
set_option maxHeartbeats 1600000 in
theorem count_small (f k n : Nat) (gv : Value) (l : List UInt8) (w : World) (hown : w.ownsRow 0 5 1 gv l.length (l.map B)) (hl : l.length ≤ 1099511627776) (hk : k = 4 ∨ k = 5 ∨ k = 6 ∨ k = 7) (hf : f + 2 ^ k ≤ 256) (hz : f % 2 ^ k = 0) (hn : n < 2 ^ k - 1) :
    Calls Tryz.prog 138 #[gv, fm f k, .int .i64 n] w fun e w' => ∃ v, e = .returned v ∧ Laid w gv w' v (l ++ cnt f k n) := by
  obtain ⟨i0, hi, hz0, hz1, hz2⟩ := info_parts Tryz.info5
  have hfor : bits .or .u8 (f : Int) (n : Int) = ((f + n : Nat) : Int) := by
    have h1 : f ||| n = f + n := by
      have h2 : f = (f / 2 ^ k) <<< k := by
        rw [Nat.shiftLeft_eq, Nat.mul_comm]
        have := Nat.div_add_mod f (2 ^ k)
        omega
      rw [h2, ← Nat.shiftLeft_add_eq_or_of_lt (by omega)]
    rw [← h1]
    exact u8_or_nat f n (by have := Nat.two_pow_pos k; omega) (by omega)
  have hcn : cnt f k n = [UInt8.ofNat (f + n)] := by unfold cnt; rw [if_pos hn]
  have hfb : ((UInt8.ofNat (f + n)).toNat : Int) = ((f + n : Nat) : Int) := by rw [u8_ofNat (by omega)]
  have hm0 : CtR w gv f k (w.alloc (.cells #[.int .u8 (f : Int), .int .i64 (k : Int)] 287)) gv l := ⟨hown.alloc _, (Chg.refl _ _).alloc _, fun j hj => Or.inl hj, heap_alloc_new w _⟩
  have hP : 2 ^ k - 1 ≤ 127 := by rcases hk with rfl | rfl | rfl | rfl <;> decide
  have HM := hide (fun wx => most_any f k wx hk)
  have HCN := hide hcn
  have HFB := hide hfb
  have HFC : Hid ((f : Int) + (n : Int) = ((UInt8.ofNat (f + n)).toNat : Int)) := by show _ = _; rw [hfb]; omega
  have HM0 := hide hm0
  generalize 2 ^ k - 1 = P at HM hn hP
  clear hcn hfb hm0 hk hz hown hf
  go_enter Tryz.func138, Tryz.ntmps138
  go_wp2_with fail
  refine (HM.out _).mono ?_
  rintro e w1 ⟨rfl, hb1⟩
  have hm1 := HM0.out.below hb1
  have q0 : w1.cell? ⟨w.heap.size, 0, none⟩ = some (.int .u8 (f : Int)) := by rw [cell_of_row _ _ _ _ _ _ hm1.frm]; rfl
  have HM1 := hide hm1
  have hlt : w.heap.size < w1.heap.size := lt_of_block hm1.frm
  clear hm1 hb1
  go_wp2_with (at_builtin; refine wpList_app _ rfl (.tmp 12) (.tmp 18) 54 rfl 5 i0 (.int .u8 0) 1 1 Tryz.underlying54 hi hz0 hz1 hz2 rfl (by decide) _ _ _ rfl (HM1.out.own.alloc _) (.slice (some ⟨w1.heap.size, 0, none⟩) 1 1) 1 [.int .u8 ((f + n : Nat) : Int)] rfl rfl (lies_one (by simp)) (one_u8 _) ?c3 ?c4 ?_)
  case c3 => unfold maxLen; omega
  case c4 => omega
  intro v' w2 hown2 hg2 hf2
  rw [HFC.out] at hown2
  have h2 := HM1.out.app (r := [UInt8.ofNat (f + n)]) hown2 hg2 (by simpa using hf2)
  go_wp2
  go_ret
  rw [HCN.out]
  exact ⟨v', rfl, h2.own, h2.chg, h2.fresh⟩

theorem fits_or {f k n : Nat} (hf : f + 2 ^ k ≤ 256) (hz : f % 2 ^ k = 0) (hn : n < 2 ^ k) : bits .or .u8 (f : Int) (n : Int) = ((f + n : Nat) : Int) := by
  have h1 : f ||| n = f + n := by
    have h2 : f = (f / 2 ^ k) <<< k := by
      rw [Nat.shiftLeft_eq, Nat.mul_comm]
      have := Nat.div_add_mod f (2 ^ k)
      omega
    rw [h2, ← Nat.shiftLeft_add_eq_or_of_lt hn]
  rw [← h1]
  exact u8_or_nat f n (by have := Nat.two_pow_pos k; omega) (by omega)
theorem or128 {x : Nat} (h : x < 128) : bits .or .u8 128 (x : Int) = ((128 + x : Nat) : Int) := fits_or (f := 128) (k := 7) (by decide) (by decide) h

/-- What is left of a count. -/
theorem tail7_len (n : Nat) : (tail7 n).length ≤ n + 1 := by
  induction n using Nat.strongRecOn with
  | ind n ih =>
    by_cases h : 127 < n
    · rw [tail7_more h, List.length_cons]
      have := ih (n / 128) (by omega)
      omega
    · rw [tail7_last h]; simp

set_option maxRecDepth 100000 in
set_option maxHeartbeats 3200000 in
theorem count_great (f k n : Nat) (gv : Value) (l : List UInt8) (w : World) (hown : w.ownsRow 0 5 1 gv l.length (l.map B)) (hl : l.length ≤ 1099511627776) (hk : k = 4 ∨ k = 5 ∨ k = 6 ∨ k = 7) (hf : f + 2 ^ k ≤ 256) (hz : f % 2 ^ k = 0) (hn : 2 ^ k - 1 ≤ n) (hn2 : n ≤ 1048576) :
    Calls Tryz.prog 138 #[gv, fm f k, .int .i64 n] w fun e w' => ∃ v, e = .returned v ∧ Laid w gv w' v (l ++ cnt f k n) := by
  obtain ⟨i0, hi, hz0, hz1, hz2⟩ := info_parts Tryz.info5
  have hp := Nat.two_pow_pos k
  have hfor := fits_or hf hz (show 2 ^ k - 1 < 2 ^ k by omega)
  have hcn : l ++ cnt f k n = l ++ [UInt8.ofNat (f + (2 ^ k - 1))] ++ tail7 (n - (2 ^ k - 1)) := by unfold cnt; rw [if_neg (by omega)]; simp
  have hfb : ((UInt8.ofNat (f + (2 ^ k - 1))).toNat : Int) = ((f + (2 ^ k - 1) : Nat) : Int) := by rw [u8_ofNat (by omega)]
  have hm0 : CtR w gv f k (w.alloc (.cells #[.int .u8 (f : Int), .int .i64 (k : Int)] 287)) gv l := ⟨hown.alloc _, (Chg.refl _ _).alloc _, fun j hj => Or.inl hj, heap_alloc_new w _⟩
  have hP : 2 ^ k - 1 ≤ 127 := by rcases hk with rfl | rfl | rfl | rfl <;> decide
  have HM := hide (fun wx => most_any f k wx hk)
  generalize 2 ^ k - 1 = P at HM hn hP hfor hcn hfb
  have HCN := hide hcn
  have HFC : Hid (bits .or .u8 (f : Int) (IntKind.u8.wrap (P : Int)) = ((UInt8.ofNat (f + P)).toNat : Int)) := by
    show _ = _
    have h9 : IntKind.u8.wrap (P : Int) = (P : Int) := by rw [IntKind.wrap_u8']; omega
    rw [h9, hfb]
    exact hfor
  have HM0 := hide hm0
  have HN1 : Hid (l.length + 1 ≤ maxLen) := by show _ ≤ _; unfold maxLen; omega
  have HN2 : Hid ((l.length + 1) * 1 ≤ 140737488355328) := by show _ ≤ _; omega
  clear hcn hfb hm0 hk hz hown hf hp
  go_enter Tryz.func138, Tryz.ntmps138
  go_wp2_with fail
  refine (HM.out _).mono ?_
  rintro e w1 ⟨rfl, hb1⟩
  have hm1 := HM0.out.below hb1
  have q0 : w1.cell? ⟨w.heap.size, 0, none⟩ = some (.int .u8 (f : Int)) := by rw [cell_of_row _ _ _ _ _ _ hm1.frm]; rfl
  have q1 : w1.cell? ⟨w.heap.size, 1, none⟩ = some (.int .i64 (k : Int)) := by rw [cell_of_row _ _ _ _ _ _ hm1.frm]; rfl
  have HM1 := hide hm1
  have hlt : w.heap.size < w1.heap.size := lt_of_block hm1.frm
  clear hm1 hb1
  go_wp2
  go_cut [0] (fun s0 wx => CtR w gv f k wx s0 (l ++ [UInt8.ofNat (f + P)]))
  case first =>
    go_region_law (first
      | (refine step_call rfl 210 Tryz.f210 Tryz.func210 (by kernel_rfl) rfl [.tmp 23] #[287] rfl [fm f k] (by simp [Act.eval, fm]) (HM.out w1.drew) ?_; rintro e w2 ⟨rfl, hb2⟩; refine ⟨_, rfl, ?_⟩; have hm2 := HM1.out.drew.below hb2; have p0 : w2.cell? ⟨w.heap.size, 0, none⟩ = some (.int .u8 (f : Int)) := (by rw [cell_of_row _ _ _ _ _ _ hm2.frm]; rfl); have p1 : w2.cell? ⟨w.heap.size, 1, none⟩ = some (.int .i64 (k : Int)) := (by rw [cell_of_row _ _ _ _ _ _ hm2.frm]; rfl); have HM2 := hide hm2; clear hm2 hb2)
      | (refine step_app rfl (.tmp 20) (.tmp 27) 54 rfl 5 i0 (.int .u8 0) 1 1 Tryz.underlying54 hi hz0 hz1 hz2 rfl (by decide) gv l.length (l.map B) (by simp [Act.eval]) (HM2.out.own.alloc _) (.slice (some ⟨w2.heap.size, 0, none⟩) 1 1) 1 [.int .u8 (bits .or .u8 (f : Int) (IntKind.u8.wrap (P : Int)))] (by simp [Act.eval]) rfl (lies_one (by simp)) (one_u8 _) HN1.out HN2.out ?_; intro v' w3 hown3 hg3 hf3; rw [HFC.out] at hown3; have h3 := HM2.out.app (r := [UInt8.ofNat (f + P)]) hown3 hg3 (by simpa using hf3); have H3 := hide h3; clear hown3 hg3 hf3 h3))
    all_goals (go_wp2_with fail; go_meet; exact H3.out)
  case rest =>
    have q0 : wc.cell? ⟨w.heap.size, 0, none⟩ = some (.int .u8 (f : Int)) := by rw [cell_of_row _ _ _ _ _ _ hcut.frm]; rfl
    have q1 : wc.cell? ⟨w.heap.size, 1, none⟩ = some (.int .i64 (k : Int)) := by rw [cell_of_row _ _ _ _ _ _ hcut.frm]; rfl
    have HC := hide hcut
    clear hcut
    go_wp2_with fail
    refine (HM.out _).mono ?_
    rintro e w4 ⟨rfl, hb4⟩
    have H4 := hide (HC.out.below hb4)
    clear hb4 q0 q1
    go_wp2
    go_loopw [0, 7] (fun v x wr => ∃ l' y, x = .int .i64 (y : Nat) ∧ y ≤ 1048576 ∧ CtR w gv f k wr v l' ∧ l' ++ tail7 y = l ++ cnt f k n) (fun _ x _ => (intOf x).toNat)
    case atStart => exact ⟨_, n - P, by go_num, by omega, H4.out, HCN.out.symm⟩
    case round =>
      obtain ⟨l', y, rfl, hy, hct, heq⟩ := hrel
      have hll : l'.length ≤ 1100000000000 := by
        have h9 := congrArg List.length heq
        rw [HCN.out] at h9
        have := tail7_len (n - P)
        simp only [List.length_append, List.length_cons, List.length_nil] at h9
        omega
      obtain ⟨sv, cv, rfl⟩ := slice_len hct.own
      by_cases hg : 127 < y
      · have hy3 : bits .or .u8 128 ((y : Int) % 128) = ((UInt8.ofNat (128 + y % 128)).toNat : Int) := by
          have h9 := or128 (Nat.mod_lt y (show 128 > 0 by decide))
          have h8 : ((y % 128 : Nat) : Int) = (y : Int) % 128 := by omega
          rw [u8_ofNat (by omega), ← h9, h8]
        have hand := i64_and127 (y : Int)
        have hy4 : (y : Int) % 128 ≤ 127 := by omega
        rw [tail7_more hg] at heq
        have HY3 := hide hy3
        have HEQ := hide heq
        have HCT := hide hct
        clear heq hct hy3
        go_wp2_with (at_builtin; refine wpList_app _ rfl (.tmp 37) (.tmp 42) 54 rfl 5 i0 (.int .u8 0) 1 1 Tryz.underlying54 hi hz0 hz1 hz2 rfl (by decide) _ _ _ rfl (HCT.out.own.alloc _) (.slice (some ⟨wr.heap.size, 0, none⟩) 1 1) 1 [.int .u8 (bits .or .u8 128 ((y : Int) % 128))] rfl rfl (lies_one (by simp)) (one_u8 _) ?c3 ?c4 ?_)
        case c3 => unfold maxLen; omega
        case c4 => omega
        intro v' w5 hown5 hg5 hf5
        rw [HY3.out] at hown5
        have h5 := HCT.out.app (r := [UInt8.ofNat (128 + y % 128)]) hown5 hg5 (by simpa using hf5)
        have H5 := hide h5
        clear hown5 hg5 hf5 h5
        go_wp2
        go_roundw
        case rel => exact ⟨_, y / 128, by go_num, by omega, H5.out, by have := HEQ.out; simpa using this⟩
        case measure => simp [intOf]; omega
      · have hy3 : ((y : Nat) : Int) = ((UInt8.ofNat y).toNat : Int) := by rw [u8_ofNat (by omega)]
        rw [tail7_last hg] at heq
        have HY3 := hide hy3
        have HEQ := hide heq
        have HCT := hide hct
        clear heq hct hy3
        go_wp2_with (at_builtin; refine wpList_app _ rfl (.tmp 44) (.tmp 47) 54 rfl 5 i0 (.int .u8 0) 1 1 Tryz.underlying54 hi hz0 hz1 hz2 rfl (by decide) _ _ _ rfl (HCT.out.own.alloc _) (.slice (some ⟨wr.heap.size, 0, none⟩) 1 1) 1 [.int .u8 (y : Int)] rfl rfl (lies_one (by simp)) (one_u8 _) ?c3 ?c4 ?_)
        case c3 => unfold maxLen; omega
        case c4 => omega
        intro v' w5 hown5 hg5 hf5
        rw [HY3.out] at hown5
        have h5 := HCT.out.app (r := [UInt8.ofNat y]) hown5 hg5 (by simpa using hf5)
        have H5 := hide h5
        clear hown5 hg5 hf5 h5
        go_wp2
        go_ret
        rw [← HEQ.out]
        exact ⟨v', rfl, H5.out.own, H5.out.chg, H5.out.fresh⟩

theorem appendCount_any (f k n : Nat) (gv : Value) (l : List UInt8) (w : World) (hown : w.ownsRow 0 5 1 gv l.length (l.map B)) (hl : l.length ≤ 1099511627776) (hk : k = 4 ∨ k = 5 ∨ k = 6 ∨ k = 7) (hf : f + 2 ^ k ≤ 256) (hz : f % 2 ^ k = 0) (hn : n ≤ 1048576) :
    Calls Tryz.prog 138 #[gv, fm f k, .int .i64 n] w fun e w' => ∃ v, e = .returned v ∧ Laid w gv w' v (l ++ cnt f k n) := by
  by_cases h : n < 2 ^ k - 1
  · exact count_small f k n gv l w hown hl hk hf hz h
  · exact count_great f k n gv l w hown hl hk hf hz (by omega) hn
end Go.Proofs.YtghongdbohjaaaaGreatDoor
/-
  Package blocks: bitWriter's fill, packBits.
-/
namespace Go.Proofs.YtghongdbohjaaaaGreatDoor
set_option linter.unusedVariables false
set_option linter.unusedSimpArgs false
open Go.RowKit

theorem BwS.own {w : World} {wb : Nat} {gv : Value} {bs : List Bool} (h : BwS w wb gv bs) : w.ownsRow 0 5 1 gv (bs.length / 8) ((bytesB bs).map B) := by
  obtain ⟨L, N, _, _, _, _, h5⟩ := h
  exact h5
theorem put_S {w : World} {wb : Nat} {gv : Value} {bs : List Bool} (h : BwS w wb gv bs) (v n : Nat) (hv : v < 2 ^ n) (hn : n ≤ 10) (hlb : bs.length ≤ 1099511627776) :
    Calls Tryz.prog 373 #[.pointer (some ⟨wb, 0, none⟩), .int .u32 v, .int .i64 n] w fun e w' => e = .returned (.tuple #[]) ∧ ∃ gv', BwS w' wb gv' (bs ++ natBits n v) ∧ Chg (TouchB wb gv) w w' ∧ (∀ j, gv'.ownBlock = some j → gv.ownBlock = some j ∨ w.heap.size ≤ j) := by
  obtain ⟨L, N, h1, h2, h3, h4, h5⟩ := h
  exact put_any wb gv L N bs v n w h1 h2 h3 h4 h5 hv hn hlb
theorem put_lit {w : World} {wb : Nat} {gv : Value} {bs : List Bool} (h : BwS w wb gv bs) (v n : Nat) (V M : Int) (hV : V = v) (hM : M = n) (hv : v < 2 ^ n) (hn : n ≤ 10) (hlb : bs.length ≤ 1099511627776) (r : List Bool) (hr : natBits n v = r) :
    Calls Tryz.prog 373 #[.pointer (some ⟨wb, 0, none⟩), .int .u32 V, .int .i64 M] w fun e w' => e = .returned (.tuple #[]) ∧ ∃ gv', BwS w' wb gv' (bs ++ r) ∧ Chg (TouchB wb gv) w w' ∧ (∀ j, gv'.ownBlock = some j → gv.ownBlock = some j ∨ w.heap.size ≤ j) := by
  subst hV hM hr
  exact put_S h v n hv hn hlb

set_option maxRecDepth 100000 in
set_option maxHeartbeats 3200000 in
theorem fill_any (wb : Nat) (gv : Value) (bs : List Bool) (w : World) (h : BwS w wb gv bs) (hlb : bs.length ≤ 1099511627776) :
    Calls Tryz.prog 375 #[.pointer (some ⟨wb, 0, none⟩)] w fun e w' => e = .returned (.tuple #[]) ∧ ∃ gv', BwS w' wb gv' (bs ++ List.replicate (padN bs.length) true) ∧ Chg (TouchB wb gv) w w' ∧ (∀ j, gv'.ownBlock = some j → gv.ownBlock = some j ∨ w.heap.size ≤ j) := by
  have hput := put_lit h
  have H := hide h
  obtain ⟨L, N, h1, h2, h3, -, -⟩ := h
  obtain ⟨-, -, c2⟩ := h1.cells
  have HPUT := hide hput
  have HLB := hide hlb
  have hpad : padN bs.length = (8 - N) % 8 := by unfold padN; omega
  have HP := hide hpad
  clear hput h1 hpad hlb
  have hN : N = 0 ∨ N = 1 ∨ N = 2 ∨ N = 3 ∨ N = 4 ∨ N = 5 ∨ N = 6 ∨ N = 7 := by omega
  clear h3
  rcases hN with rfl | rfl | rfl | rfl | rfl | rfl | rfl | rfl
  · go_enter Tryz.func375, Tryz.ntmps375
    go_wp2
    refine bodyPost_end (results_none rfl _ _ _) rfl ⟨rfl, gv, ?_, Chg.refl _ _, fun j hj => Or.inl hj⟩
    rw [HP.out]
    simpa using H.out
  all_goals go_enter Tryz.func375, Tryz.ntmps375
  all_goals go_wp2_with fail
  · refine (HPUT.out 127 7 _ _ rfl rfl (by decide) (by decide) HLB.out (List.replicate 7 true) (by decide)).mono ?_
    rintro e w' ⟨rfl, hh⟩
    go_wp2
    exact bodyPost_end (results_none rfl _ _ _) rfl ⟨rfl, by rw [HP.out]; exact hh⟩
  · refine (HPUT.out 63 6 _ _ rfl rfl (by decide) (by decide) HLB.out (List.replicate 6 true) (by decide)).mono ?_
    rintro e w' ⟨rfl, hh⟩
    go_wp2
    exact bodyPost_end (results_none rfl _ _ _) rfl ⟨rfl, by rw [HP.out]; exact hh⟩
  · refine (HPUT.out 31 5 _ _ rfl rfl (by decide) (by decide) HLB.out (List.replicate 5 true) (by decide)).mono ?_
    rintro e w' ⟨rfl, hh⟩
    go_wp2
    exact bodyPost_end (results_none rfl _ _ _) rfl ⟨rfl, by rw [HP.out]; exact hh⟩
  · refine (HPUT.out 15 4 _ _ rfl rfl (by decide) (by decide) HLB.out (List.replicate 4 true) (by decide)).mono ?_
    rintro e w' ⟨rfl, hh⟩
    go_wp2
    exact bodyPost_end (results_none rfl _ _ _) rfl ⟨rfl, by rw [HP.out]; exact hh⟩
  · refine (HPUT.out 7 3 _ _ rfl rfl (by decide) (by decide) HLB.out (List.replicate 3 true) (by decide)).mono ?_
    rintro e w' ⟨rfl, hh⟩
    go_wp2
    exact bodyPost_end (results_none rfl _ _ _) rfl ⟨rfl, by rw [HP.out]; exact hh⟩
  · refine (HPUT.out 3 2 _ _ rfl rfl (by decide) (by decide) HLB.out (List.replicate 2 true) (by decide)).mono ?_
    rintro e w' ⟨rfl, hh⟩
    go_wp2
    exact bodyPost_end (results_none rfl _ _ _) rfl ⟨rfl, by rw [HP.out]; exact hh⟩
  · refine (HPUT.out 1 1 _ _ rfl rfl (by decide) (by decide) HLB.out (List.replicate 1 true) (by decide)).mono ?_
    rintro e w' ⟨rfl, hh⟩
    go_wp2
    exact bodyPost_end (results_none rfl _ _ _) rfl ⟨rfl, by rw [HP.out]; exact hh⟩

theorem tx_at {T : ByteArray} {k : Nat} (h : k < T.data.toList.length) (h' : k < T.size) : T[k] = T.data.toList[k] := rfl

set_option maxRecDepth 100000 in
set_option maxHeartbeats 3200000 in
theorem packBits_any (T : ByteArray) (w : World) (hl : T.size ≤ 4294967296) :
    Calls Tryz.prog 338 #[.string T] w fun e w' => ∃ v, e = .returned v ∧ w'.ownsRow w.heap.size 5 1 v (bytesB (packB T.data.toList)).length ((bytesB (packB T.data.toList)).map B) ∧ Below w.heap.size w w' := by
  obtain ⟨t, ht⟩ : ∃ t, t = T.data.toList := ⟨_, rfl⟩
  have htl : t.length = T.size := by rw [ht]; rfl
  rw [← ht]
  have HT := hide ht
  clear ht
  have hz : BwB (w.alloc (.cells #[.slice none 0 0, .int .u32 0, .int .i64 0] 474)) w.heap.size (.slice none 0 0) 0 0 := heap_alloc_new w _
  have hS0 : BwS (w.alloc (.cells #[.slice none 0 0, .int .u32 0, .int .i64 0] 474)) w.heap.size (.slice none 0 0) (rawB (t.take 0)) := by
    rw [List.take_zero]
    exact ⟨0, 0, hz, by decide, rfl, rfl, World.ownsRow_nil _ _ _ _⟩
  have HS0 := hide hS0
  clear hz hS0
  go_enter Tryz.func338, Tryz.ntmps338
  go_wp2
  go_loopw [7] (fun i wr => ∃ k gv, k ≤ t.length ∧ i = .int .i64 (k : Nat) ∧ BwS wr w.heap.size gv (rawB (t.take k)) ∧ Below w.heap.size w wr ∧ (∀ j, gv.ownBlock = some j → w.heap.size ≤ j)) (fun i _ => t.length - (intOf i).toNat)
  case atStart => exact ⟨0, _, Nat.zero_le _, rfl, HS0.out, (Below.refl _ _).alloc (Nat.le_refl _) _, fun j hj => by simp [Value.ownBlock] at hj⟩
  case round =>
    obtain ⟨k, gv, hk, rfl, hS, hbel, hfr⟩ := hrel
    have hraw := rawB_length (t.take k)
    rw [List.length_take] at hraw
    by_cases hlt : k < t.length
    · have hkT : k < T.size := by omega
      have hkT2 : k < T.data.toList.length := hkT
      have hTk : T[k] = t[k] := by
        have h1 : T[k] = T.data.toList[k] := rfl
        rw [h1]
        congr 1
        exact HT.out.symm
      have hcd := fun wx => bcodeOf_any t[k] wx
      obtain ⟨n1, n2, n3⟩ := codeN_bits t[k]
      have hput := put_S hS (codeN t[k]).1 (codeN t[k]).2 n2 n3 (by omega)
      rw [← n1, ← rawB_next hlt] at hput
      generalize codeN t[k] = C at hcd hput n2 n3
      rw [← hTk] at hcd
      have hC : C.1 ≤ 1023 := by have := Nat.lt_of_lt_of_le n2 (Nat.pow_le_pow_right (by omega) n3); omega
      obtain ⟨C1, C2⟩ := C
      simp only at hcd hput n2 n3 hC
      have HCD := hide hcd
      have HPUT := hide hput
      have HBE := hide hbel
      have HFR := hide hfr
      clear hcd hput hbel hfr hS n2 hTk n1
      go_wp2_with fail
      refine (HCD.out _).mono ?_
      rintro e w1 ⟨rfl, hw1⟩
      rw [hw1]
      clear hw1 w1
      go_wp2_with fail
      refine HPUT.out.mono ?_
      rintro e w1 ⟨rfl, gv', hS1, hch, hfr1⟩
      go_wp2
      go_roundw
      case rel =>
        have hb := HBE.out
        refine ⟨k + 1, gv', by omega, by go_num, hS1, ⟨hch.os.trans hb.os, hch.tape.trans hb.tape, hch.output.trans hb.output, Nat.le_trans hb.size hch.size, fun j hj => (hch.block j (Nat.lt_of_lt_of_le hj hb.size) ?_).trans (hb.block j hj)⟩, fun j hj => ?_⟩
        · rintro (e | e)
          · omega
          · have := HFR.out j e; omega
        · rcases hfr1 j hj with a | a
          · exact HFR.out j a
          · exact Nat.le_trans hb.size a
      case measure => simp [intOf]; omega
    · have hke : k = t.length := by omega
      subst hke
      rw [List.take_length] at hS hraw
      have hfill := fill_any w.heap.size gv _ wr hS (by omega)
      have HFILL := hide hfill
      have HBE := hide hbel
      have HFR := hide hfr
      clear hfill hbel hfr hS
      go_wp2_with fail
      refine HFILL.out.mono ?_
      rintro e w1 ⟨rfl, gv', hS1, hch, hfr1⟩
      obtain ⟨L, N, h1, h2, h3, h4, h5⟩ := hS1
      obtain ⟨z0, -, -⟩ := h1.cells
      have H5 := hide h5
      clear h1 h2 h3 h4 h5
      go_wp2
      go_ret
      have hb := HBE.out
      refine ⟨gv', rfl, ?_, ⟨hch.os.trans hb.os, hch.tape.trans hb.tape, hch.output.trans hb.output, Nat.le_trans hb.size hch.size, fun j hj => (hch.block j (Nat.lt_of_lt_of_le hj hb.size) ?_).trans (hb.block j hj)⟩⟩
      · rw [bytesB_length]
        refine owns_base H5.out (fun j hj => ?_)
        rcases hfr1 j hj with a | a
        · exact HFR.out j a
        · exact Nat.le_trans hb.size a
      · rintro (e | e)
        · omega
        · have := HFR.out j e; omega
end Go.Proofs.YtghongdbohjaaaaGreatDoor
/-
  Package blocks: its tables at package level; appendText.
-/
namespace Go.Proofs.YtghongdbohjaaaaGreatDoor
set_option linter.unusedVariables false
set_option linter.unusedSimpArgs false
open Go.RowKit

/-- What the package's variables hold. -/
structure Gl (w : World) : Prop where
  lim : w.cell? ⟨0, 0, none⟩ = some (.int .u8 32) ∧ w.cell? ⟨0, 1, none⟩ = some (.int .i64 5)
  num : w.cell? ⟨1, 0, none⟩ = some (.int .u8 128) ∧ w.cell? ⟨1, 1, none⟩ = some (.int .i64 7)
  nta : w.cell? ⟨2, 0, none⟩ = some (.int .u8 0) ∧ w.cell? ⟨2, 1, none⟩ = some (.int .i64 4)
  add : w.cell? ⟨3, 0, none⟩ = some (.int .u8 64) ∧ w.cell? ⟨3, 1, none⟩ = some (.int .i64 6)
  pck : w.cell? ⟨5, 0, none⟩ = some (.int .u8 128) ∧ w.cell? ⟨5, 1, none⟩ = some (.int .i64 7)
  pln : w.cell? ⟨6, 0, none⟩ = some (.int .u8 0) ∧ w.cell? ⟨6, 1, none⟩ = some (.int .i64 7)
  fix : ∀ i (h : i < fixed8.length), w.cell? ⟨4, 2 * i, none⟩ = some (.string fixed8[i].n) ∧ w.cell? ⟨4, 2 * i + 1, none⟩ = some (.string fixed8[i].v)
  lt : 7 ≤ w.heap.size
theorem Gl.chg {S : Nat → Prop} {w w' : World} (h : Gl w) (hc : Chg S w w') (hs : ∀ j, j < 7 → ¬ S j) : Gl w' := by
  have hl := h.lt
  have q : ∀ (g o : Nat), g < 7 → w'.cell? ⟨g, o, none⟩ = w.cell? ⟨g, o, none⟩ := fun g o hg => hc.cell (p := ⟨g, o, none⟩) (Nat.lt_of_lt_of_le hg hl) (hs g hg)
  refine ⟨?_, ?_, ?_, ?_, ?_, ?_, fun i hi => ?_, Nat.le_trans hl hc.size⟩
  · rw [q _ _ (by decide), q _ _ (by decide)]; exact h.lim
  · rw [q _ _ (by decide), q _ _ (by decide)]; exact h.num
  · rw [q _ _ (by decide), q _ _ (by decide)]; exact h.nta
  · rw [q _ _ (by decide), q _ _ (by decide)]; exact h.add
  · rw [q _ _ (by decide), q _ _ (by decide)]; exact h.pck
  · rw [q _ _ (by decide), q _ _ (by decide)]; exact h.pln
  · rw [q _ _ (by decide), q _ _ (by decide)]; exact h.fix i hi
theorem Gl.below {w w' : World} (h : Gl w) (hb : Below w.heap.size w w') : Gl w' := h.chg (Chg.of_below (S := fun _ => False) hb) (fun _ _ => id)

theorem Laid.below {w wx w' : World} {gv v : Value} {l : List UInt8} (hb : Below w.heap.size w wx) (h : Laid wx gv w' v l) : Laid w gv w' v l :=
  ⟨h.own, (Chg.of_below hb).trans (h.chg.mono fun j _ e => Or.inr e), fun j hj => (h.fresh j hj).imp_right fun e => Nat.le_trans hb.size e⟩
theorem Laid.trans {w w1 w2 : World} {gv v v2 : Value} {l l2 : List UInt8} (h : Laid w gv w1 v l) (k : Laid w1 v w2 v2 l2) : Laid w gv w2 v2 l2 :=
  ⟨k.own, h.chg.trans (k.chg.mono fun j _ e => (h.fresh j e).symm), fun j hj => by
    rcases k.fresh j hj with e | e
    · exact h.fresh j e
    · exact Or.inr (Nat.le_trans h.chg.size e)⟩
theorem Laid.app {w w1 w2 : World} {gv v v2 : Value} {l r : List UInt8} (h : Laid w gv w1 v l) (hown : w2.ownsRow 0 5 1 v2 (l.length + r.length) (l.map B ++ r.map B)) (hg : w1.grownBy w2 v.ownBlock) (hf : v2.ownBlock = v.ownBlock ∨ v2.ownBlock = some w1.heap.size) : Laid w gv w2 v2 (l ++ r) := by
  have hc : Chg (fun j => v.ownBlock = some j) w1 w2 := Chg.of_grown hg (fun j hj => hj)
  have hsz := h.chg.size
  refine ⟨by rw [List.length_append, List.map_append]; exact hown, h.chg.trans (hc.mono fun j _ e => (h.fresh j e).symm), fun j hj => ?_⟩
  rcases hf with e | e
  · rw [e] at hj; exact h.fresh j hj
  · rw [e] at hj
    simp at hj
    exact Or.inr (by omega)
theorem Laid.len {w w' : World} {gv v : Value} {l : List UInt8} (h : Laid w gv w' v l) : ∃ sv cv, v = .slice sv l.length cv := slice_len h.own

theorem run_app_str {P : Program} (w : World) (t u ty e : TypeId) (i : TypeInfo) (ht : P.underlying t = some (.slice e)) (hu : P.underlying u = some .string) (hi : P.info? e = some i) (hz : i.zero = some (.int .u8 0))
    (hsize : i.size = 1) (hby : i.bytes = 1) (v : Value) (n : Nat) (xs : List Value) (hown : w.ownsRow 0 e 1 v n xs) (s : ByteArray)
    (h63 : n + s.size ≤ maxLen) (hbytes : n + s.size ≤ 140737488355328) :
    ∃ v' w', (Builtin.append_ #[t, u] ty #[v, .string s]).run P w = .ok v' w' ∧ w'.ownsRow 0 e 1 v' (n + s.size) (xs ++ Lib.strCells s) ∧ w.grownBy w' v.ownBlock ∧
      (v'.ownBlock = v.ownBlock ∨ v'.ownBlock = some w.heap.size) := by
  obtain ⟨v', w', hr, h2, h3, h4⟩ := Lib.run_append_own_string (P := P) w 0 t u ty e i ht hu hi hz hsize hby v n xs hown s h63 hbytes (Nat.zero_le _)
  refine ⟨v', w', hr, h2, h3, ?_⟩
  have hsmall : n + s.size ≤ 9223372036854775807 := by simp only [maxLen] at h63; omega
  have hxl : xs.length = n := by simpa using hown.1
  rcases hown.2 with ⟨rfl, rfl⟩ | ⟨g, cap, cur, rfl, hbg, hg, hnc, hcm, hcs, htake⟩
  · by_cases hm : s.size = 0
    · exact Or.inl (by rw [h4.2 ⟨rfl, hm⟩])
    · have h := run_append_nil_string (P := P) w t u ty e i (.int .u8 0) ht hu hi hz s (by omega) (by omega) (by rw [hby]; omega)
      rw [h] at hr
      simp only [Result.ok.injEq] at hr
      exact Or.inr (by rw [← hr.1]; rfl)
  · by_cases hroom : n + s.size ≤ cap
    · have hcs' : cur.size = cap := by simpa using hcs
      have h := Lib.run_append_room_string (P := P) w t u ty e i ht hu hi hsize g n cap cur hg s hroom (by omega)
      rw [h] at hr
      simp only [Result.ok.injEq] at hr
      exact Or.inl (by rw [← hr.1]; rfl)
    · have holds : ∀ j u, xs[j]? = some u → w.cell? ((⟨g, 0, none⟩ : Addr).add j) = some u := hown.cells (g := g) rfl
      have h := Lib.run_append_grow_string (P := P) w t u ty e i (.int .u8 0) ht hu hi hz ⟨g, 0, none⟩ n cap xs (by rw [hsize]; simpa using hxl) holds s (by omega) (by omega) (by rw [hby]; exact growslice_fits (by omega) (by omega))
      rw [h] at hr
      simp only [Result.ok.injEq] at hr
      exact Or.inr (by rw [← hr.1]; rfl)
theorem wpList_app_str {P : Program} (w : World) {ops : Array Oper} {rest : List Oper} {o : Oper} {a : Act} {Q : Exit → Act → World → Prop} (hgd : o.guard = none) (sl x : Operand) (t u : TypeId)
    (ho : o.op = .call { callee := .builtin .append, args := #[sl, x], argTypes := #[t, u] })
    (e : TypeId) (i : TypeInfo) (ht : P.underlying t = some (.slice e)) (hu : P.underlying u = some .string) (hi : P.info? e = some i) (hz : i.zero = some (.int .u8 0))
    (hsize : i.size = 1) (hby : i.bytes = 1) (v : Value) (n : Nat) (xs : List Value) (hs : a.eval sl = v) (hown : w.ownsRow 0 e 1 v n xs) (s : ByteArray) (hx : a.eval x = .string s)
    (h63 : n + s.size ≤ maxLen) (hbytes : n + s.size ≤ 140737488355328)
    (h : ∀ v' w', w'.ownsRow 0 e 1 v' (n + s.size) (xs ++ Lib.strCells s) → w.grownBy w' v.ownBlock → (v'.ownBlock = v.ownBlock ∨ v'.ownBlock = some w.heap.size) → wpList P ops Q rest (a.put o.dst v') w') : wpList P ops Q (o :: rest) a w := by
  refine wpList_plain hgd fun K hK => ?_
  obtain ⟨v', w', hr, h2, h3, h4⟩ := run_app_str (P := P) w t u o.type e i ht hu hi hz hsize hby v n xs hown s h63 hbytes
  unfold Oper.wp execOp
  simp only [ho, resolve, invoke, builtin, Sem.run_bind, Sem.run_pure, Result.andThen_ok, List.map_toArray, List.map_cons, List.map_nil, hs, hx, hr]
  exact hK _ _ (h v' w' h2 h3 h4)
theorem strCells_eq (T : ByteArray) : Lib.strCells T = T.data.toList.map B := by simp [Lib.strCells]

theorem packB_len (t : List UInt8) : (bytesB (packB t)).length ≤ 2 * t.length + 1 := by
  rw [bytesB_length]
  unfold packB
  have h1 := rawB_length t
  have h2 := padN_lt (rawB t).length
  rw [List.length_append, List.length_replicate]
  omega
theorem lies_of_owns {w : World} {b : Nat} {v : Value} {l : List UInt8} (h : w.ownsRow b 5 1 v l.length (l.map B)) : Lies w v l.length (l.map B) := lies_of_bytesIn (bytesIn_of_owns h rfl)

set_option maxRecDepth 100000 in
set_option maxHeartbeats 3200000 in
theorem appendText_any (T : ByteArray) (gv : Value) (l : List UInt8) (w : World) (hgl : Gl w) (hown : w.ownsRow 0 5 1 gv l.length (l.map B)) (hl : l.length ≤ 268435456) (hT : T.size ≤ 262144) :
    Calls Tryz.prog 289 #[gv, .string T] w fun e w' => ∃ v, e = .returned v ∧ Laid w gv w' v (l ++ txt T.data.toList) := by
  obtain ⟨i0, hi, hz0, hz1, hz2⟩ := info_parts Tryz.info5
  have hpk := packBits_any T w (by omega)
  have hpl := packB_len T.data.toList
  have htl : T.data.toList.length = T.size := rfl
  have htx : txt T.data.toList = if (bytesB (packB T.data.toList)).length < T.data.toList.length then cnt 128 7 (bytesB (packB T.data.toList)).length ++ bytesB (packB T.data.toList) else cnt 0 7 T.data.toList.length ++ T.data.toList := rfl
  rw [htl] at htx hpl
  generalize bytesB (packB T.data.toList) = Q at hpk hpl htx
  have HPK := hide hpk
  have HGL := hide hgl
  have HOW := hide hown
  clear hpk hgl hown
  go_enter Tryz.func289, Tryz.ntmps289
  go_wp2_with fail
  refine HPK.out.mono ?_
  rintro e w1 ⟨v1, rfl, hq1, hb1⟩
  obtain ⟨sq, cq, hv1⟩ := slice_len hq1
  subst hv1
  have hg1 := HGL.out.below hb1
  have ho1 := owns_chg HOW.out (Chg.of_below (S := fun _ => False) hb1) (fun _ _ => id)
  obtain ⟨a0, a1⟩ := hg1.pck
  obtain ⟨p0, p1⟩ := hg1.pln
  have HQ1 := hide hq1
  have HB1 := hide hb1
  have HO1 := hide ho1
  have hgv := fun j (hj : gv.ownBlock = some j) => owns_lt HOW.out hj
  have HGV := hide hgv
  clear hq1 hb1 ho1 hg1 hgv
  by_cases hlt : Q.length < T.size
  · rw [if_pos hlt] at htx
    have HTX := hide htx
    have HAC := hide (appendCount_any 128 7 Q.length gv l w1 HO1.out (by omega) (by omega) (by decide) (by decide) (by omega))
    clear htx
    go_wp2_with fail
    refine HAC.out.mono ?_
    rintro e w2 ⟨v2, rfl, hl2⟩
    have hq2 := owns_chg HQ1.out hl2.chg (fun j hj e => by
      have h1 := (HQ1.out.lt j hj).1
      have h2 := HGV.out j e
      omega)
    have hc1 : (l ++ cnt 128 7 Q.length).length ≤ 268435456 + 1048576 + 16 := by
      have := tail7_len (Q.length - (2 ^ 7 - 1))
      rw [List.length_append]
      unfold cnt
      split
      · simp; omega
      · rw [List.length_cons]; omega
    obtain ⟨L2, hL2⟩ : ∃ L2, L2 = l ++ cnt 128 7 Q.length := ⟨_, rfl⟩
    rw [← hL2] at hl2 hc1
    have HEL := hide hL2
    clear hL2
    obtain ⟨s2, c2, hv2⟩ := hl2.len
    subst hv2
    have HL2 := hide hl2
    have HQ2 := hide hq2
    clear hl2 hq2
    go_wp2_with (at_builtin; refine wpList_app _ rfl (.tmp 17) (.tmp 18) 54 rfl 5 i0 (.int .u8 0) 1 1 Tryz.underlying54 hi hz0 hz1 hz2 rfl (by decide) _ _ _ rfl HL2.out.own _ Q.length (Q.map B) rfl (by simp) (lies_of_owns HQ2.out) (bytes_one _) ?c3 ?c4 ?_)
    case c3 => unfold maxLen; omega
    case c4 => omega
    intro v3 w3 hown3 hg3 hf3
    have h3 := HL2.out.app hown3 hg3 hf3
    have H3 := hide (Laid.below HB1.out h3)
    clear h3 hown3 hg3 hf3
    go_wp2
    go_ret
    refine ⟨v3, rfl, ?_⟩
    rw [HTX.out, ← List.append_assoc, ← HEL.out]
    exact H3.out
  · rw [if_neg hlt] at htx
    have HTX := hide htx
    have HAC := hide (appendCount_any 0 7 T.size gv l w1 HO1.out (by omega) (by omega) (by decide) (by decide) (by omega))
    clear htx
    go_wp2_with fail
    refine HAC.out.mono ?_
    rintro e w2 ⟨v2, rfl, hl2⟩
    have hc1 : (l ++ cnt 0 7 T.size).length ≤ 268435456 + 1048576 + 16 := by
      have := tail7_len (T.size - (2 ^ 7 - 1))
      rw [List.length_append]
      unfold cnt
      split
      · simp; omega
      · rw [List.length_cons]; omega
    obtain ⟨L2, hL2⟩ : ∃ L2, L2 = l ++ cnt 0 7 T.size := ⟨_, rfl⟩
    rw [← hL2] at hl2 hc1
    have HEL := hide hL2
    clear hL2
    obtain ⟨s2, c2, hv2⟩ := hl2.len
    subst hv2
    have HL2 := hide hl2
    clear hl2
    go_wp2_with (at_builtin; refine wpList_app_str _ rfl (.tmp 24) (.tmp 25) 54 9 rfl 5 i0 Tryz.underlying54 Tryz.underlying9 hi hz0 hz1 hz2 _ _ _ rfl HL2.out.own T rfl ?c3 ?c4 ?_)
    case c3 => unfold maxLen; omega
    case c4 => omega
    intro v3 w3 hown3 hg3 hf3
    rw [strCells_eq] at hown3
    have h3 := HL2.out.app (r := T.data.toList) hown3 hg3 hf3
    have H3 := hide (Laid.below HB1.out h3)
    clear h3 hown3 hg3 hf3
    go_wp2
    go_ret
    refine ⟨v3, rfl, ?_⟩
    rw [HTX.out, ← List.append_assoc, ← HEL.out]
    exact H3.out
end Go.Proofs.YtghongdbohjaaaaGreatDoor
