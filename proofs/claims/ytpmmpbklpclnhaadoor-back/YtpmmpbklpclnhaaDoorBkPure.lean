set_option linter.unusedVariables false
set_option linter.unusedSimpArgs false
/-
  Blocks as the program makes them, without the program: bytes, tables as queues. Nothing of the translation is imported.
-/
namespace Go.Proofs.YtpmmpbklpclnhaaDoor
set_option linter.unusedVariables false
set_option linter.unusedSimpArgs false

/-- A pair of texts. -/
structure HP where
  n : ByteArray
  v : ByteArray
def tk (h : HP) : Nat := h.n.size + h.v.size + 8
/-- The same pair. -/
def hpEq (x h : HP) : Bool := decide (x.n.toList = h.n.toList ∧ x.v.toList = h.v.toList)
/-- The least number of this very pair. -/
def pnF (l : List HP) (h : HP) : Option Nat := l.findIdx? (fun x => decide (x.n.toList = h.n.toList ∧ x.v.toList = h.v.toList))

/-- A number in k bits, the highest first. -/
def natBits : Nat → Nat → List Bool
  | 0, _ => []
  | k + 1, v => natBits k (v / 2) ++ [v % 2 == 1]
theorem natBits_length (k v : Nat) : (natBits k v).length = k := by
  induction k generalizing v with
  | zero => rfl
  | succ k ih => simp [natBits, ih]
theorem natBits_high (k v : Nat) : natBits (k + 1) v = (v / 2 ^ k % 2 == 1) :: natBits k v := by
  induction k generalizing v with
  | zero => simp [natBits]
  | succ k ih =>
    have e : v / 2 / 2 ^ k = v / 2 ^ (k + 1) := by rw [Nat.div_div_eq_div_mul, Nat.pow_succ, Nat.mul_comm]
    have h1 : natBits (k + 1 + 1) v = natBits (k + 1) (v / 2) ++ [v % 2 == 1] := rfl
    have h2 : natBits (k + 1) v = natBits k (v / 2) ++ [v % 2 == 1] := rfl
    rw [h1, ih, h2, e]
    rfl

def valB (l : List Bool) : Nat := l.foldl (fun v b => 2 * v + b.toNat) 0
theorem valB_next (l : List Bool) (b : Bool) : valB (l ++ [b]) = 2 * valB l + b.toNat := by simp [valB]
theorem foldB_lt (l : List Bool) (v : Nat) : l.foldl (fun v b => 2 * v + b.toNat) v < (v + 1) * 2 ^ l.length := by
  induction l generalizing v with
  | nil => simp
  | cons b r ih =>
    have h := ih (2 * v + b.toNat)
    simp only [List.foldl_cons, List.length_cons]
    have hb : b.toNat ≤ 1 := by cases b <;> simp
    have h2 : (2 * v + b.toNat + 1) * 2 ^ r.length ≤ (v + 1) * 2 ^ (r.length + 1) := by
      rw [Nat.pow_succ, Nat.mul_comm (2 ^ r.length) 2, ← Nat.mul_assoc]
      exact Nat.mul_le_mul_right _ (by omega)
    omega
theorem valB_lt (l : List Bool) : valB l < 2 ^ l.length := by
  have := foldB_lt l 0
  simpa [valB] using this

/-- The place of a byte in a text. -/
def pl (l : List UInt8) (c : UInt8) : Option Nat := l.findIdx? (fun x => x == c)
def oft : List UInt8 := [101, 116, 97, 111, 105, 110, 115, 114]
def sel : List UInt8 := [98, 99, 100, 102, 103, 104, 107, 108, 109, 112, 117, 119, 121, 45, 47, 46]
/-- The bits of a byte. -/
def codeB (c : UInt8) : List Bool := match pl oft c with
  | some k => [false] ++ natBits 3 k
  | none => match pl sel c with
    | some k => [true, false] ++ natBits 4 k
    | none => [true, true] ++ natBits 8 c.toNat
theorem pl_lt {l : List UInt8} {c : UInt8} {k : Nat} (h : pl l c = some k) : k < l.length := (List.findIdx?_eq_some_iff_getElem.1 h).1
theorem codeB_length (c : UInt8) : (codeB c).length ≤ 10 := by
  unfold codeB
  split
  · simp [natBits_length]
  · split <;> simp [natBits_length]

/-- The bytes of bits, eight by eight. -/
def bytesB (l : List Bool) : List UInt8 := (List.range (l.length / 8)).map fun i => UInt8.ofNat (valB ((l.drop (8 * i)).take 8))
theorem bytesB_length (l : List Bool) : (bytesB l).length = l.length / 8 := by simp [bytesB]
def rawB (t : List UInt8) : List Bool := t.flatMap codeB
/-- What the bits of a text are filled with. -/
def padN (n : Nat) : Nat := (8 - n % 8) % 8
/-- Packed bits. -/
def packB (t : List UInt8) : List Bool := rawB t ++ List.replicate (padN (rawB t).length) true
theorem rawB_length (t : List UInt8) : (rawB t).length ≤ 10 * t.length := by
  induction t with
  | nil => simp [rawB]
  | cons c r ih =>
    have h1 := codeB_length c
    simp only [rawB, List.flatMap_cons, List.length_append, List.length_cons] at ih ⊢
    omega
theorem rawB_next {t : List UInt8} {k : Nat} (h : k < t.length) : rawB (t.take (k + 1)) = rawB (t.take k) ++ codeB t[k] := by
  rw [List.take_succ_eq_append_getElem h]
  unfold rawB
  rw [List.flatMap_append, List.flatMap_cons, List.flatMap_nil, List.append_nil]
def bitsB (l : List UInt8) : List Bool := l.flatMap fun c => natBits 8 c.toNat
theorem bitsB_length (l : List UInt8) : (bitsB l).length = 8 * l.length := by
  induction l with
  | nil => rfl
  | cons c r ih =>
    simp only [bitsB, List.flatMap_cons, List.length_append, natBits_length, List.length_cons] at ih ⊢
    omega
theorem bitsB_next {l : List UInt8} {k : Nat} (h : k < l.length) : bitsB (l.take (k + 1)) = bitsB (l.take k) ++ natBits 8 l[k].toNat := by
  rw [List.take_succ_eq_append_getElem h]
  unfold bitsB
  rw [List.flatMap_append, List.flatMap_cons, List.flatMap_nil, List.append_nil]

def prB (h : HP) : Bool := !h.n.toList.isEmpty && decide (h.n.size ≤ 40) && decide (h.v.size ≤ 40)

def listB (hs : List HP) : Bool := decide (hs.length ≤ 8) && hs.all prB

/-- Bytes of a count behind its first. -/
def tail7F : Nat → Nat → List UInt8
  | 0, n => [UInt8.ofNat n]
  | k + 1, n => if 127 < n then UInt8.ofNat (128 + n % 128) :: tail7F k (n / 128) else [UInt8.ofNat n]
def tail7 (n : Nat) : List UInt8 := tail7F n n
theorem tail7F_eq : ∀ (k j n : Nat), n ≤ k → n ≤ j → tail7F k n = tail7F j n
  | 0, 0, _, _, _ => rfl
  | 0, j + 1, n, h, _ => by
    have e : n = 0 := by omega
    subst e
    rfl
  | k + 1, 0, n, _, h => by
    have e : n = 0 := by omega
    subst e
    rfl
  | k + 1, j + 1, n, h1, h2 => by
    unfold tail7F
    by_cases h : 127 < n
    · rw [if_pos h, if_pos h, tail7F_eq k j (n / 128) (by omega) (by omega)]
    · rw [if_neg h, if_neg h]
theorem tail7_more {n : Nat} (h : 127 < n) : tail7 n = UInt8.ofNat (128 + n % 128) :: tail7 (n / 128) := by
  obtain ⟨k, e⟩ : ∃ k, n = k + 1 := ⟨n - 1, by omega⟩
  subst e
  show tail7F (k + 1) (k + 1) = _
  rw [tail7F, if_pos h, tail7F_eq k ((k + 1) / 128) ((k + 1) / 128) (by omega) (Nat.le_refl _)]
  rfl
theorem tail7_last {n : Nat} (h : ¬ 127 < n) : tail7 n = [UInt8.ofNat n] := by
  unfold tail7
  cases n with
  | zero => rfl
  | succ k => rw [tail7F, if_neg h]
/-- A count in k bits, behind the first bits f. -/
def cnt (f k n : Nat) : List UInt8 := if n < 2 ^ k - 1 then [UInt8.ofNat (f + n)] else UInt8.ofNat (f + (2 ^ k - 1)) :: tail7 (n - (2 ^ k - 1))

/-- A table, the oldest pair first. -/
def szT (l : List HP) : Nat := (l.map tk).sum
theorem szT_cons (h : HP) (r : List HP) : szT (h :: r) = tk h + szT r := by simp [szT]
theorem szT_append (a b : List HP) : szT (a ++ b) = szT a + szT b := by simp [szT]
theorem szT_len (l : List HP) : 8 * l.length ≤ szT l := by
  induction l with
  | nil => simp [szT]
  | cons h r ih => rw [szT_cons]; simp [tk]; omega
/-- How many of the oldest pairs go. -/
def goneN : List HP → Int → Nat
  | [], _ => 0
  | h :: r, most => if most < (szT (h :: r) : Int) then goneN r most + 1 else 0
theorem goneN_le (l : List HP) (most : Int) : goneN l most ≤ l.length := by
  induction l with
  | nil => simp [goneN]
  | cons h r ih => simp only [goneN]; split <;> simp <;> omega
def shr (l : List HP) (most : Int) : List HP := l.drop (goneN l most)
def addT (l : List HP) (lim : Nat) (h : HP) : List HP := if tk h ≤ lim then shr l ((lim : Int) - tk h) ++ [h] else shr l ((lim : Int) - tk h)

theorem goneN_fits {l : List HP} {most : Int} (h : (szT l : Int) ≤ most) : goneN l most = 0 := by
  cases l with
  | nil => rfl
  | cons x r => simp only [goneN]; rw [if_neg (by omega)]
theorem shr_fits {l : List HP} {most : Int} (h : (szT l : Int) ≤ most) : shr l most = l := by unfold shr; rw [goneN_fits h]; rfl
theorem shr_size (l : List HP) (most : Int) (h0 : 0 ≤ most) : (szT (shr l most) : Int) ≤ most := by
  unfold shr
  induction l with
  | nil => simpa [goneN, szT] using h0
  | cons x r ih =>
    simp only [goneN]
    split
    · simpa using ih
    · simp only [List.drop_zero]; omega
theorem addT_size (l : List HP) (lim : Nat) (h : HP) (hl : szT l ≤ lim) : szT (addT l lim h) ≤ lim := by
  unfold addT
  split
  · next ht =>
    have := shr_size l ((lim : Int) - tk h) (by omega)
    rw [szT_append, szT_cons]
    simp [szT] at this ⊢
    omega
  · next ht =>
    have h1 : szT (shr l ((lim : Int) - tk h)) ≤ szT l := by
      unfold shr
      generalize goneN l ((lim : Int) - tk h) = k
      have h2 := congrArg szT (List.take_append_drop k l)
      rw [szT_append] at h2
      omega
    omega
/-- .. one that alone takes up more than the limit makes all others go. -/
theorem goneN_all (l : List HP) (most : Int) (h : most < 0) : goneN l most = l.length := by
  induction l with
  | nil => rfl
  | cons x r ih => simp only [goneN, ih, List.length_cons]; rw [if_pos (by omega)]

/-- The pairs that have numbers for ever. -/
def hp (n v : List UInt8) : HP := ⟨⟨n.toArray⟩, ⟨v.toArray⟩⟩
def fixed8 : List HP := [hp [112, 97, 116, 104] [47], hp [112, 97, 116, 104] [47, 105, 110, 100, 101, 120], hp [118, 101, 114, 98] [103, 101, 116], hp [118, 101, 114, 98] [112, 117, 116],
  hp [107, 105, 110, 100] [116, 101, 120, 116], hp [107, 105, 110, 100] [98, 121, 116, 101, 115], hp [104, 111, 115, 116] [], hp [108, 101, 110, 103, 116, 104] [48]]
def numd (l : List HP) : List HP := fixed8 ++ l.reverse
theorem numd_length (l : List HP) : (numd l).length = 8 + l.length := by simp [numd, fixed8]; omega
/-- The least number of a pair with this name; 0: none. -/
def nmF (l : List HP) (n : ByteArray) : Nat := match l.findIdx? (fun x => x.n.toList == n.toList) with
  | some i => i + 1
  | none => 0
theorem nmF_le (l : List HP) (n : ByteArray) : nmF l n ≤ l.length := by
  unfold nmF
  split
  · next i hi => have := (List.findIdx?_eq_some_iff_getElem.1 hi).1; omega
  · omega
/-- .. as a number: 0 is none. -/
def pnN (l : List HP) (h : HP) : Nat := match pnF l h with
  | some i => i + 1
  | none => 0
end Go.Proofs.YtpmmpbklpclnhaaDoor
