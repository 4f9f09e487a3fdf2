import Derived.Test.YtpmmpbklpclnhaaDoorBkPack
set_option linter.unusedVariables false
set_option linter.unusedSimpArgs false
/-
  Blocks, read, without the program; what was packed comes back.
-/
namespace Go.Proofs.YtpmmpbklpclnhaaDoor
set_option linter.unusedVariables false
set_option linter.unusedSimpArgs false

theorem u8_ofNat {n : Nat} (h : n < 256) : (UInt8.ofNat n).toNat = n := by rw [UInt8.toNat_ofNat']; omega

/-- What follows a count's first byte: f bytes at most. -/
def rdMore : Nat → Nat → Nat → List UInt8 → Option (Nat × List UInt8)
  | 0, _, _, _ => none
  | _ + 1, _, _, [] => none
  | f + 1, i, n, c :: r => if c.toNat = 0 ∧ 0 < i then none else if c.toNat < 128 then some (n + c.toNat % 128 * 2 ^ (7 * i), r) else rdMore f (i + 1) (n + c.toNat % 128 * 2 ^ (7 * i)) r
def rdCnt (k : Nat) (c : UInt8) (r : List UInt8) : Option (Nat × List UInt8) := if c.toNat % 2 ^ k < 2 ^ k - 1 then some (c.toNat % 2 ^ k, r) else rdMore 3 0 (c.toNat % 2 ^ k) r

theorem rdMore_tail (f : Nat) : ∀ (i m x : Nat) (r : List UInt8), x < 2 ^ (7 * (f + 1)) → (0 < i → x ≠ 0) → rdMore (f + 1) i m (tail7 x ++ r) = some (m + x * 2 ^ (7 * i), r) := by
  induction f with
  | zero =>
    intro i m x r hx hi
    have hx' : x < 128 := by simpa using hx
    rw [tail7_last (by omega)]
    simp only [List.cons_append, List.nil_append, rdMore]
    rw [u8_ofNat (by omega), if_neg (by rintro ⟨a, b⟩; exact hi b a), if_pos hx', Nat.mod_eq_of_lt hx']
  | succ f ih =>
    intro i m x r hx hi
    by_cases h : 127 < x
    · rw [tail7_more h]
      simp only [List.cons_append, rdMore]
      rw [u8_ofNat (by omega), if_neg (by omega), if_neg (by omega)]
      have e7 : 7 * (f + 1 + 1) = 7 * (f + 1) + 7 := by omega
      rw [e7, Nat.pow_add] at hx
      have hx2 : x / 128 < 2 ^ (7 * (f + 1)) := by
        rw [Nat.div_lt_iff_lt_mul (by omega)]
        simpa using hx
      rw [ih (i + 1) _ (x / 128) r hx2 (fun _ => by omega)]
      have e1 : (128 + x % 128) % 128 = x % 128 := by omega
      have e2 : 7 * (i + 1) = 7 * i + 7 := by omega
      have e3 : x = x % 128 + x / 128 * 128 := by omega
      rw [e1, e2, Nat.pow_add]
      congr 2
      generalize 2 ^ (7 * i) = P
      have e4 : x / 128 * (P * 2 ^ 7) = x / 128 * 128 * P := by rw [Nat.mul_comm P, ← Nat.mul_assoc]
      rw [e4]
      conv => rhs; rw [e3, Nat.add_mul]
      omega
    · rw [tail7_last h]
      simp only [List.cons_append, List.nil_append, rdMore]
      rw [u8_ofNat (by omega), if_neg (by rintro ⟨a, b⟩; exact hi b a), if_pos (by omega), Nat.mod_eq_of_lt (by omega)]

theorem rdCnt_cnt {f k n : Nat} {r : List UInt8} (hf : f + 2 ^ k ≤ 256) (hz : f % 2 ^ k = 0) (hn : n < 2097152) : ∃ c q, cnt f k n = c :: q ∧ f ≤ c.toNat ∧ c.toNat < f + 2 ^ k ∧ rdCnt k c (q ++ r) = some (n, r) := by
  have hp : 0 < 2 ^ k := Nat.two_pow_pos k
  unfold cnt
  by_cases h : n < 2 ^ k - 1
  · rw [if_pos h]
    refine ⟨_, [], rfl, ?_, ?_, ?_⟩
    · rw [u8_ofNat (by omega)]; omega
    · rw [u8_ofNat (by omega)]; omega
    · unfold rdCnt
      rw [u8_ofNat (by omega)]
      have e : (f + n) % 2 ^ k = n := by rw [Nat.add_mod, hz, Nat.zero_add, Nat.mod_mod, Nat.mod_eq_of_lt (by omega)]
      rw [e, if_pos h]
      rfl
  · rw [if_neg h]
    refine ⟨_, _, rfl, ?_, ?_, ?_⟩
    · rw [u8_ofNat (by omega)]; omega
    · rw [u8_ofNat (by omega)]; omega
    · unfold rdCnt
      rw [u8_ofNat (by omega)]
      have e : (f + (2 ^ k - 1)) % 2 ^ k = 2 ^ k - 1 := by rw [Nat.add_mod, hz, Nat.zero_add, Nat.mod_mod, Nat.mod_eq_of_lt (by omega)]
      rw [e, if_neg (by omega)]
      rw [rdMore_tail 2 0 _ _ r (by omega) (by omega)]
      congr 2
      simp
      omega

theorem valB_natBits (k v : Nat) : valB (natBits k v) = v % 2 ^ k := by
  induction k generalizing v with
  | zero => simp [natBits, valB, Nat.mod_one]
  | succ k ih =>
    simp only [natBits]
    rw [valB_next, ih, Nat.pow_succ]
    have h1 : (v % 2 == 1).toNat = v % 2 := by
      rcases Nat.mod_two_eq_zero_or_one v with h | h <;> simp [h]
    rw [h1, Nat.mul_comm (2 ^ k) 2, Nat.mod_mul]
    omega

/-- The next byte of packed bits. -/
def decB (bs : List Bool) : Option (UInt8 × List Bool) :=
  if bs.length < 1 then none
  else if valB (bs.take 1) = 0 then (if bs.length < 4 then none else some (oft.getD (valB ((bs.drop 1).take 3)) 0, bs.drop 4))
  else if bs.length < 2 then none
  else if valB ((bs.drop 1).take 1) = 0 then (if bs.length < 6 then none else some (sel.getD (valB ((bs.drop 2).take 4)) 0, bs.drop 6))
  else if bs.length < 10 then none
  else if (codeB (UInt8.ofNat (valB ((bs.drop 2).take 8)))).length < 10 then none else some (UInt8.ofNat (valB ((bs.drop 2).take 8)), bs.drop 10)

theorem pl_get {l : List UInt8} {c : UInt8} {k : Nat} (h : pl l c = some k) : l.getD k 0 = c := by
  obtain ⟨h1, h2, _⟩ := List.findIdx?_eq_some_iff_getElem.1 h
  simp [List.getD, h1] at h2 ⊢
  exact h2

theorem decB_code (c : UInt8) (r : List Bool) : decB (codeB c ++ r) = some (c, r) := by
  unfold codeB
  split
  · next k hk =>
    have hlt := pl_lt hk
    have hlt' : k < 8 := hlt
    obtain ⟨b, hb⟩ : ∃ b, b = natBits 3 k := ⟨_, rfl⟩
    have hbl : b.length = 3 := by rw [hb, natBits_length]
    have hbv : valB b = k := by rw [hb, valB_natBits]; omega
    rw [← hb]
    unfold decB
    have e1 : ([false] ++ b ++ r).length = 4 + r.length := by simp [hbl]; omega
    rw [e1, if_neg (by omega), if_pos (by simp [valB]), if_neg (by omega)]
    have e2 : (([false] ++ b ++ r).drop 1).take 3 = b := by simp [← hbl]
    have e3 : ([false] ++ b ++ r).drop 4 = r := by
      have : 4 = ([false] ++ b).length := by simp [hbl]
      rw [this, List.drop_left]
    rw [e2, e3, hbv, pl_get hk]
  · next hno =>
    split
    · next k hk =>
      have hlt := pl_lt hk
      have hlt' : k < 16 := hlt
      obtain ⟨b, hb⟩ : ∃ b, b = natBits 4 k := ⟨_, rfl⟩
      have hbl : b.length = 4 := by rw [hb, natBits_length]
      have hbv : valB b = k := by rw [hb, valB_natBits]; omega
      rw [← hb]
      unfold decB
      have e1 : ([true, false] ++ b ++ r).length = 6 + r.length := by simp [hbl]; omega
      rw [e1, if_neg (by omega), if_neg (by simp [valB]), if_neg (by omega), if_pos (by simp [valB]), if_neg (by omega)]
      have e2 : (([true, false] ++ b ++ r).drop 2).take 4 = b := by simp [← hbl]
      have e3 : ([true, false] ++ b ++ r).drop 6 = r := by
        have : 6 = ([true, false] ++ b).length := by simp [hbl]
        rw [this, List.drop_left]
      rw [e2, e3, hbv, pl_get hk]
    · next hno2 =>
      obtain ⟨b, hb⟩ : ∃ b, b = natBits 8 c.toNat := ⟨_, rfl⟩
      have hbl : b.length = 8 := by rw [hb, natBits_length]
      have hc := c.toNat_lt
      have hbv : valB b = c.toNat := by rw [hb, valB_natBits]; omega
      have hcb : (codeB c).length = 10 := by unfold codeB; rw [hno]; simp only [hno2]; simp [natBits_length]
      rw [← hb]
      unfold decB
      have e1 : ([true, true] ++ b ++ r).length = 10 + r.length := by simp [hbl]; omega
      rw [e1, if_neg (by omega), if_neg (by simp [valB]), if_neg (by omega), if_neg (by simp [valB]), if_neg (by omega)]
      have e2 : (([true, true] ++ b ++ r).drop 2).take 8 = b := by simp [← hbl]
      have e3 : ([true, true] ++ b ++ r).drop 10 = r := by
        have : 10 = ([true, true] ++ b).length := by simp [hbl]
        rw [this, List.drop_left]
      have e4 : UInt8.ofNat c.toNat = c := by simp
      rw [e2, e3, hbv, e4, if_neg (by omega)]

theorem decB_shorter {bs : List Bool} {c : UInt8} {r : List Bool} (h : decB bs = some (c, r)) : r.length < bs.length := by
  unfold decB at h
  split at h
  · cases h
  · split at h
    · split at h
      · cases h
      · simp at h; rw [← h.2, List.length_drop]; omega
    · split at h
      · cases h
      · split at h
        · split at h
          · cases h
          · simp at h; rw [← h.2, List.length_drop]; omega
        · split at h
          · cases h
          · split at h
            · cases h
            · simp at h; rw [← h.2, List.length_drop]; omega

/-- Is it fill alone? -/
def fillB (bs : List Bool) : Bool := decide (bs.length < 8) && decide (valB bs + 1 = 2 ^ bs.length)
/-- Packed bits, unpacked. -/
def unpF : Nat → List Bool → Option (List UInt8)
  | 0, bs => if fillB bs then some [] else none
  | k + 1, bs => if fillB bs then some [] else (decB bs).bind fun x => (unpF k x.2).map (x.1 :: ·)
def unpB (bs : List Bool) : Option (List UInt8) := unpF bs.length bs
theorem unpF_eq : ∀ (k j : Nat) (bs : List Bool), bs.length ≤ k → bs.length ≤ j → unpF k bs = unpF j bs
  | 0, 0, _, _, _ => rfl
  | 0, j + 1, bs, h, _ => by
    have e : bs = [] := List.length_eq_zero_iff.1 (by omega)
    subst e
    rfl
  | k + 1, 0, bs, _, h => by
    have e : bs = [] := List.length_eq_zero_iff.1 (by omega)
    subst e
    rfl
  | k + 1, j + 1, bs, h1, h2 => by
    unfold unpF
    by_cases hf : fillB bs = true
    · rw [if_pos hf, if_pos hf]
    · rw [if_neg hf, if_neg hf]
      cases hd : decB bs with
      | none => rfl
      | some x =>
        have := decB_shorter (c := x.1) (r := x.2) hd
        show (unpF k x.2).map _ = (unpF j x.2).map _
        rw [unpF_eq k j x.2 (by omega) (by omega)]
theorem unpB_fill {bs : List Bool} (h : fillB bs = true) : unpB bs = some [] := by
  unfold unpB
  cases bs.length with
  | zero => rw [unpF, if_pos h]
  | succ k => rw [unpF, if_pos h]
theorem unpB_none {bs : List Bool} (h : fillB bs = false) (hd : decB bs = none) : unpB bs = none := by
  have h' : ¬ fillB bs = true := by simp [h]
  unfold unpB
  cases bs.length with
  | zero => rw [unpF, if_neg h']
  | succ k =>
    rw [unpF, if_neg h', hd]
    rfl
theorem unpB_next {bs : List Bool} {c : UInt8} {r : List Bool} (h : fillB bs = false) (hd : decB bs = some (c, r)) : unpB bs = (unpB r).map (c :: ·) := by
  have h' : ¬ fillB bs = true := by simp [h]
  have hs := decB_shorter hd
  unfold unpB
  cases hl : bs.length with
  | zero => omega
  | succ k =>
    rw [unpF, if_neg h', hd, unpF_eq r.length k r (Nat.le_refl _) (by omega)]
    rfl

theorem foldB_mono (l : List Bool) (v : Nat) : l.foldl (fun v b => 2 * v + b.toNat) v = v * 2 ^ l.length + valB l := by
  induction l generalizing v with
  | nil => simp [valB]
  | cons b r ih =>
    simp only [List.foldl_cons, List.length_cons, valB]
    rw [ih, ih (2 * 0 + b.toNat), Nat.pow_succ]
    have : (2 * v + b.toNat) * 2 ^ r.length = v * (2 ^ r.length * 2) + b.toNat * 2 ^ r.length := by
      rw [Nat.add_mul, Nat.mul_comm 2 v, Nat.mul_assoc, Nat.mul_comm 2 (2 ^ r.length)]
    simp only [Nat.mul_zero, Nat.zero_add]
    omega
theorem valB_append (a b : List Bool) : valB (a ++ b) = valB a * 2 ^ b.length + valB b := by
  unfold valB
  rw [List.foldl_append]
  exact foldB_mono b _
theorem valB_cons (b : Bool) (r : List Bool) : valB (b :: r) = b.toNat * 2 ^ r.length + valB r := by
  have := valB_append [b] r
  simpa [valB] using this
theorem fillB_false {a b : List Bool} (h : valB a + 1 < 2 ^ a.length) : fillB (a ++ b) = false := by
  unfold fillB
  rw [Bool.and_eq_false_iff]
  right
  rw [decide_eq_false_iff_not, valB_append, List.length_append, Nat.pow_add]
  intro e
  have h1 := valB_lt b
  have h2 : (valB a + 1 + 1) * 2 ^ b.length ≤ 2 ^ a.length * 2 ^ b.length := Nat.mul_le_mul_right _ h
  rw [Nat.add_mul, Nat.add_mul] at h2
  omega
theorem fillB_ones (n : Nat) (h : n < 8) : fillB (List.replicate n true) = true := by
  have : ∀ m, m < 8 → fillB (List.replicate m true) = true := by decide
  exact this n h
theorem fillB_code (c : UInt8) (r : List Bool) : fillB (codeB c ++ r) = false := by
  have hc : 8 ≤ (codeB c).length ∨ valB (codeB c) + 1 < 2 ^ (codeB c).length := by
    unfold codeB
    split
    · next k hk =>
      right
      have hlt : k < 8 := pl_lt hk
      rw [valB_append, valB_natBits, List.length_append, natBits_length]
      simp [valB]
      omega
    · split
      · next k hk =>
        right
        have hlt : k < 16 := pl_lt hk
        rw [valB_append, valB_natBits, List.length_append, natBits_length]
        simp [valB]
        omega
      · left; simp [natBits_length]
  rcases hc with h | h
  · unfold fillB
    rw [Bool.and_eq_false_iff]
    left
    rw [decide_eq_false_iff_not, List.length_append]
    omega
  · exact fillB_false h
theorem unpB_raw (t : List UInt8) (n : Nat) (h : n < 8) : unpB (rawB t ++ List.replicate n true) = some t := by
  induction t with
  | nil => exact unpB_fill (fillB_ones n h)
  | cons c r ih =>
    have e : rawB (c :: r) ++ List.replicate n true = codeB c ++ (rawB r ++ List.replicate n true) := by simp [rawB]
    rw [e, unpB_next (fillB_code _ _) (decB_code _ _), ih]
    rfl
theorem padN_lt (n : Nat) : padN n < 8 := by unfold padN; omega
theorem unpB_pack (t : List UInt8) : unpB (packB t) = some t := unpB_raw t _ (padN_lt _)
theorem packB_eight (t : List UInt8) : (packB t).length % 8 = 0 := by
  unfold packB padN
  rw [List.length_append, List.length_replicate]
  omega

theorem natBits_add (k x y : Nat) : natBits k (x * 2 ^ k + y) = natBits k y := by
  induction k generalizing x y with
  | zero => rfl
  | succ k ihk =>
    have h2 : (x * 2 ^ (k + 1) + y) / 2 = x * 2 ^ k + y / 2 := by rw [Nat.pow_succ, ← Nat.mul_assoc]; omega
    have h3 : (x * 2 ^ (k + 1) + y) % 2 = y % 2 := by rw [Nat.pow_succ, ← Nat.mul_assoc]; omega
    simp only [natBits]
    rw [h2, h3, ihk]
theorem natBits_valB (l : List Bool) : natBits l.length (valB l) = l := by
  induction l with
  | nil => rfl
  | cons b r ih =>
    have hr := valB_lt r
    have hp : 0 < 2 ^ r.length := Nat.two_pow_pos _
    rw [List.length_cons, natBits_high, valB_cons]
    have e1 : (b.toNat * 2 ^ r.length + valB r) / 2 ^ r.length = b.toNat := by
      rw [Nat.mul_comm, Nat.mul_add_div hp, Nat.div_eq_of_lt hr]; omega
    rw [e1, natBits_add, ih]
    cases b <;> rfl
theorem bitsB_append (a b : List UInt8) : bitsB (a ++ b) = bitsB a ++ bitsB b := by simp [bitsB]
theorem bytesB_cons8 (a r : List Bool) (h : a.length = 8) : bytesB (a ++ r) = UInt8.ofNat (valB a) :: bytesB r := by
  unfold bytesB
  have e : (a ++ r).length / 8 = r.length / 8 + 1 := by rw [List.length_append, h]; omega
  rw [e, List.range_succ_eq_map, List.map_cons, List.map_map]
  congr 1
  · simp [← h]
  · apply List.map_congr_left
    intro i _
    show UInt8.ofNat (valB (((a ++ r).drop (8 * (i + 1))).take 8)) = _
    have e2 : 8 * (i + 1) = a.length + 8 * i := by omega
    rw [e2, List.drop_append, List.drop_of_length_le (by omega)]
    simp
theorem bitsB_bytesB (l : List Bool) (h : l.length % 8 = 0) : bitsB (bytesB l) = l := by
  generalize hn : l.length = n at h
  induction n using Nat.strongRecOn generalizing l with
  | ind n ih =>
    by_cases h0 : n = 0
    · subst h0
      rw [List.eq_nil_of_length_eq_zero hn]
      rfl
    · have h8 : 8 ≤ n := by omega
      have e := List.take_append_drop 8 l
      have hl : (l.take 8).length = 8 := by rw [List.length_take]; omega
      rw [← e, bytesB_cons8 _ _ hl]
      have h3 := ih (n - 8) (by omega) (l.drop 8) (by rw [List.length_drop]; omega) (by omega)
      have h4 : bitsB (UInt8.ofNat (valB (l.take 8)) :: bytesB (l.drop 8)) = natBits 8 (UInt8.ofNat (valB (l.take 8))).toNat ++ bitsB (bytesB (l.drop 8)) := by simp [bitsB]
      have hv := valB_lt (l.take 8)
      rw [hl] at hv
      have h5 := natBits_valB (l.take 8)
      rw [hl] at h5
      rw [h4, u8_ofNat (by simpa using hv), h5, h3]
end Go.Proofs.YtpmmpbklpclnhaaDoor
