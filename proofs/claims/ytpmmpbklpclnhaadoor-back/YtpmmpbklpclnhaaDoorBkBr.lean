import Derived.Test.YtpmmpbklpclnhaaDoorBkCntR
set_option linter.unusedVariables false
set_option linter.unusedSimpArgs false
/-
  Package blocks: bitReader's left and take.
-/
namespace Go.Proofs.YtpmmpbklpclnhaaDoor
set_option linter.unusedVariables false
set_option linter.unusedSimpArgs false
open Go.RowKit

/-- A reader of bits: how many were read. -/
structure BrS (w : World) (rb : Nat) (av : Value) (b : List UInt8) (at_ : Nat) : Prop where
  blk : w.heap[rb]? = some (.cells #[av, .int .i64 (at_ : Int)] 108 (0, 0))
  bytes : BytesIn w av b
  ne : av.ownBlock ≠ some rb
  le : at_ ≤ 8 * b.length
theorem BrS.cells {w : World} {rb : Nat} {av : Value} {b : List UInt8} {at_ : Nat} (h : BrS w rb av b at_) : w.cell? ⟨rb, 0, none⟩ = some av ∧ w.cell? ⟨rb, 1, none⟩ = some (.int .i64 (at_ : Int)) := by
  refine ⟨?_, ?_⟩ <;> rw [cell_of_row w rb _ _ _ _ h.blk] <;> rfl
theorem BrS.free {w : World} {rb : Nat} {av : Value} {b : List UInt8} {at_ : Nat} (h : BrS w rb av b at_) (o : Nat) : w.frozen? ⟨rb, o, none⟩ = false := by
  have := h.blk
  simp [World.frozen?, this]
theorem BrS.chg {S : Nat → Prop} {w w' : World} {rb : Nat} {av : Value} {b : List UInt8} {at_ : Nat} (h : BrS w rb av b at_) (hc : Chg S w w') (h1 : ¬ S rb) (h2 : ∀ j, av.ownBlock = some j → ¬ S j) : BrS w' rb av b at_ :=
  ⟨by rw [hc.block rb (lt_of_block h.blk) h1]; exact h.blk, h.bytes.chg hc h2, h.ne, h.le⟩
theorem BrS.drewN {w : World} {rb : Nat} {av : Value} {b : List UInt8} {at_ : Nat} (h : BrS w rb av b at_) (n : Nat) : BrS (w.drewN n) rb av b at_ := h.chg ((Chg.refl (fun _ => False) _).drewN n) id (fun _ _ => id)
theorem BrS.set1 {w : World} {rb : Nat} {av : Value} {b : List UInt8} {at_ : Nat} (h : BrS w rb av b at_) (x : Nat) (hx : x ≤ 8 * b.length) : BrS (w.setCell ⟨rb, 1, none⟩ (.int .i64 (x : Int))) rb av b x :=
  ⟨block_setCell h.blk, h.bytes.chg ((Chg.refl (fun j => j = rb) w).setCell (p := ⟨rb, 1, none⟩) (Or.inr rfl) _) (fun j hj e => h.ne (e ▸ hj)), h.ne, hx⟩

theorem bit_at (c p : Nat) (hp : p < 8) : (natBits 8 c)[p]? = some (c / 2 ^ (7 - p) % 2 == 1) := by
  have h : natBits 8 c = [c / 2 ^ 7 % 2 == 1, c / 2 ^ 6 % 2 == 1, c / 2 ^ 5 % 2 == 1, c / 2 ^ 4 % 2 == 1, c / 2 ^ 3 % 2 == 1, c / 2 ^ 2 % 2 == 1, c / 2 ^ 1 % 2 == 1, c / 2 ^ 0 % 2 == 1] := by
    rw [natBits_high, natBits_high, natBits_high, natBits_high, natBits_high, natBits_high, natBits_high, natBits_high]
    rfl
  rw [h]
  have : p = 0 ∨ p = 1 ∨ p = 2 ∨ p = 3 ∨ p = 4 ∨ p = 5 ∨ p = 6 ∨ p = 7 := by omega
  rcases this with rfl | rfl | rfl | rfl | rfl | rfl | rfl | rfl <;> rfl
theorem bitsB_get {b : List UInt8} {p : Nat} (hp : p < 8 * b.length) : (bitsB b)[p]? = some ((b.getD (p / 8) 0).toNat / 2 ^ (7 - p % 8) % 2 == 1) := by
  induction b generalizing p with
  | nil => simp at hp
  | cons c r ih =>
    have e : bitsB (c :: r) = natBits 8 c.toNat ++ bitsB r := by simp [bitsB]
    rw [e]
    by_cases h8 : p < 8
    · rw [List.getElem?_append_left (by rw [natBits_length]; exact h8), bit_at _ _ h8]
      have h1 : p / 8 = 0 := by omega
      have h2 : p % 8 = p := by omega
      rw [h1, h2]
      rfl
    · rw [List.getElem?_append_right (by rw [natBits_length]; omega), natBits_length, ih (by simp at hp; omega)]
      have h1 : (p - 8) / 8 = p / 8 - 1 := by omega
      have h2 : (p - 8) % 8 = p % 8 := by omega
      obtain ⟨q, hq⟩ : ∃ q, p / 8 = q + 1 := ⟨p / 8 - 1, by omega⟩
      rw [h1, h2, hq]
      rfl
theorem take_bit {b : List UInt8} {at_ j : Nat} (hp : at_ + j < 8 * b.length) : valB (((bitsB b).drop at_).take (j + 1)) = 2 * valB (((bitsB b).drop at_).take j) + (b.getD ((at_ + j) / 8) 0).toNat / 2 ^ (7 - (at_ + j) % 8) % 2 := by
  have hl : j < ((bitsB b).drop at_).length := by rw [List.length_drop, bitsB_length]; omega
  rw [List.take_succ_eq_append_getElem hl, valB_next]
  have h1 := bitsB_get hp
  rw [List.getElem?_eq_getElem (by rw [bitsB_length]; exact hp)] at h1
  simp only [Option.some.injEq] at h1
  rw [List.getElem_drop, h1]
  congr 1
  generalize (b.getD ((at_ + j) / 8) 0).toNat / 2 ^ (7 - (at_ + j) % 8) = y
  rcases Nat.mod_two_eq_zero_or_one y with h | h <;> simp [h]

set_option maxRecDepth 100000 in
set_option maxHeartbeats 800000 in
theorem bleft_any (rb : Nat) (av : Value) (b : List UInt8) (at_ : Nat) (w : World) (h : BrS w rb av b at_) (hl : b.length ≤ 1099511627776) :
    Calls Tryd.prog 67 #[.pointer (some ⟨rb, 0, none⟩)] w fun e w' => e = .returned (.int .i64 ((8 * b.length - at_ : Nat) : Int)) ∧ ∃ k, w' = w.drewN k := by
  obtain ⟨c0, c1⟩ := h.cells
  obtain ⟨sv, cv, hv, _⟩ := bytesIn_len h.bytes
  subst hv
  have hle := h.le
  clear h
  go_enter Tryd.func67, Tryd.ntmps67
  go_wp2
  go_quiet (fail)
  go_wp2
  go_ret
  exact ⟨by go_num, _, rfl⟩

theorem or_bit (v t : Nat) (hv : v ≤ 1048576) (ht : t ≤ 1) : bits .or .i64 ((v : Int) * 2) (t : Int) = ((2 * v + t : Nat) : Int) := by
  have h1 := i64_or_nat (2 * v) t (by omega) (by omega)
  have h2 : 2 * v ||| t = 2 * v + t := by
    have := Nat.shiftLeft_add_eq_or_of_lt (a := v) (b := t) (i := 1) (by omega)
    rw [Nat.shiftLeft_eq] at this
    have e : v * 2 ^ 1 = 2 * v := by omega
    rw [e] at this
    exact this.symm
  rw [h2] at h1
  rw [← h1]
  congr 1
  omega
theorem and_one (y : Nat) (hy : y < 256) : bits .and .u8 (y : Int) 1 = ((y % 2 : Nat) : Int) := by
  have h1 := u8_and_nat y 1 hy (by decide)
  rw [Nat.and_one_is_mod] at h1
  exact h1

set_option maxRecDepth 100000 in
set_option maxHeartbeats 800000 in
theorem btake_ok (rb : Nat) (av : Value) (b : List UInt8) (at_ n : Nat) (w : World) (h : BrS w rb av b at_) (hl : b.length ≤ 1099511627776) (hn : at_ + n ≤ 8 * b.length) (hn8 : n ≤ 8) :
    Calls Tryd.prog 68 #[.pointer (some ⟨rb, 0, none⟩), .int .i64 n] w fun e w' => e = .returned (.int .i64 (valB (((bitsB b).drop at_).take n) : Int)) ∧ BrS w' rb av b (at_ + n) ∧ Chg (fun j => j = rb) w w' := by
  have hle := h.le
  have HL := hide (bleft_any rb av b at_ w h hl)
  have H := hide h
  clear h
  go_enter Tryd.func68, Tryd.ntmps68
  go_wp2_with fail
  refine HL.out.mono ?_
  rintro e w1 ⟨rfl, k1, hw1⟩
  have h1 : BrS w1 rb av b at_ := by rw [hw1]; exact H.out.drewN k1
  have hc1 : Chg (fun j => j = rb) w w1 := by rw [hw1]; exact (Chg.refl _ _).drewN k1
  have H1 := hide h1
  have HC1 := hide hc1
  clear hw1 h1 hc1
  go_wp2
  go_loopw [5, 13] (fun v i wr => ∃ j : Nat, i = .int .i64 (j : Int) ∧ v = .int .i64 (valB (((bitsB b).drop at_).take j) : Int) ∧ j ≤ n ∧ BrS wr rb av b (at_ + j) ∧ Chg (fun j => j = rb) w wr) (fun _ i _ => n - (intOf i).toNat)
  case atStart => exact ⟨0, rfl, rfl, Nat.zero_le _, H1.out, HC1.out⟩
  case round =>
    obtain ⟨j, rfl, rfl, hj, hb, hch⟩ := hrel
    by_cases hlt : j < n
    · obtain ⟨c0, c1⟩ := hb.cells
      have f1 := hb.free 1
      have htb := take_bit (b := b) (at_ := at_) (j := j) (by omega)
      have hvl := valB_lt (((bitsB b).drop at_).take j)
      have hvb : valB (((bitsB b).drop at_).take j) ≤ 256 := by
        have h9 : (((bitsB b).drop at_).take j).length ≤ 8 := by rw [List.length_take]; omega
        have h8 := Nat.pow_le_pow_right (show 2 > 0 by decide) h9
        omega
      rcases hb.bytes with ⟨_, h0⟩ | ⟨bb, off, cap, hv, g1, g2, g3⟩
      · rw [h0] at hn; simp at hn; omega
      · subst hv
        have d0 := g3 ((at_ + j) / 8) (by omega)
        generalize valB (((bitsB b).drop at_).take j) = V at hvb htb ⊢
        have hy := (b.getD ((at_ + j) / 8) 0).toNat_lt
        generalize (b.getD ((at_ + j) / 8) 0).toNat = Y at d0 htb hy
        have hyd : Y / 2 ^ (7 - (at_ + j) % 8) < 256 := Nat.lt_of_le_of_lt (Nat.div_le_self _ _) hy
        have hab : bits .and .u8 ((Y : Int) / 2 ^ (7 - (at_ + j) % 8)) 1 = ((Y / 2 ^ (7 - (at_ + j) % 8) % 2 : Nat) : Int) := by
          rw [← and_one _ hyd, Int.natCast_ediv, Int.natCast_pow]
          rfl
        have ht1 : Y / 2 ^ (7 - (at_ + j) % 8) % 2 ≤ 1 := by omega
        generalize Y / 2 ^ (7 - (at_ + j) % 8) % 2 = T at hab ht1 htb
        have hob := or_bit V T (by omega) ht1
        have HAB := hide hab
        have HTB := hide htb
        clear hab
        have HB := hide hb
        have HCH := hide hch
        clear hb hch htb g3 hvl
        go_wp2
        go_quiet (fail)
        rw [HAB.out]
        go_wp2
        go_roundw
        case rel =>
          have e9 : ((at_ + j : Nat) : Int) + 1 = ((at_ + (j + 1) : Nat) : Int) := by omega
          refine ⟨j + 1, by go_num, by rw [HTB.out]; go_num, by omega, ?_, ?_⟩
          · have h9 := (HB.out.drewN nq).set1 (at_ + (j + 1)) (by omega)
            simpa [← Int.add_assoc] using h9
          · exact (HCH.out.drewN nq).setCell (p := ⟨rb, 1, none⟩) (Or.inr rfl) _
        case measure => simp [intOf]; omega
    · have hje : j = n := by omega
      subst hje
      have HB := hide hb
      have HCH := hide hch
      clear hb hch
      go_wp2
      go_ret
      exact ⟨rfl, HB.out, HCH.out⟩
set_option maxRecDepth 100000 in
set_option maxHeartbeats 800000 in
theorem btake_bad (rb : Nat) (av : Value) (b : List UInt8) (at_ n : Nat) (w : World) (h : BrS w rb av b at_) (hl : b.length ≤ 1099511627776) (hn : 8 * b.length < at_ + n) (hn8 : n ≤ 8) :
    Calls Tryd.prog 68 #[.pointer (some ⟨rb, 0, none⟩), .int .i64 n] w fun e w' => Gone e ∧ ∃ k, w' = w.drewN k := by
  have hle := h.le
  have HL := hide (bleft_any rb av b at_ w h hl)
  clear h
  go_enter Tryd.func68, Tryd.ntmps68
  go_wp2_with fail
  refine HL.out.mono ?_
  rintro e w1 ⟨rfl, k1, hw1⟩
  have HW := hide hw1
  clear hw1
  go_wp2
  exact ⟨rfl, rfl, k1, HW.out⟩
end Go.Proofs.YtpmmpbklpclnhaaDoor
