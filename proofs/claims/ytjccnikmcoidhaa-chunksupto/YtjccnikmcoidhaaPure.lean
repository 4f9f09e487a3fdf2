set_option linter.unusedVariables false
set_option linter.unusedSimpArgs false
/-
  Frames, without the program: what a head and a body may be, how bytes are read. Plain lists and numbers; nothing of the translation is imported.
-/
namespace Go.Proofs.Ytjccnikmcoidhaa

def sFits (k s : Int) : Bool := if k = 0 ∨ k = 1 ∨ k = 2 ∨ k = 7 then s != 0 else if k = 3 ∨ k = 4 ∨ k = 5 then s == 0 else true
def hasB (f b : Int) : Bool := decide (f / b % 2 = 1)
def lFits (l k f : Int) : Bool := if k = 2 ∨ k = 5 then l == 1 else if k = 3 then (if hasB f 1 then l == 0 else l == 4) else if k = 4 ∨ k = 6 then l == 4 else true
/-- The fault of a head: 0 is none. -/
def headCode (l k f s : Int) : Int := if 32767 < s ∨ sFits k s = false then 9 else if 64 < l ∨ lFits l k f = false then 10 else 0

theorem headCode_cases (l k f s : Int) : headCode l k f s = 0 ∨ headCode l k f s = 9 ∨ headCode l k f s = 10 := by
  unfold headCode; split <;> (try split) <;> simp

theorem headCode_zero {l k f s : Int} (h : headCode l k f s = 0) : s ≤ 32767 ∧ sFits k s = true ∧ l ≤ 64 ∧ lFits l k f = true := by
  unfold headCode at h
  by_cases a : 32767 < s ∨ sFits k s = false
  · rw [if_pos a] at h; omega
  · rw [if_neg a] at h
    by_cases b : 64 < l ∨ lFits l k f = false
    · rw [if_pos b] at h; omega
    · refine ⟨by omega, by simpa using fun e => a (Or.inr e), by omega, by simpa using fun e => b (Or.inr e)⟩
theorem len_four {l k f s : Int} (h : headCode l k f s = 0) (hk : (k = 3 ∧ hasB f 1 = false) ∨ k = 6) : l = 4 := by
  have hl := (headCode_zero h).2.2.2
  rcases hk with ⟨rfl, hb⟩ | rfl
  · simpa [lFits, hb] using hl
  · simpa [lFits] using hl

def be2 (a b : UInt8) : Int := 256 * (a.toNat : Int) + (b.toNat : Int)
def be4 (a b c d : UInt8) : Int := 16777216 * (a.toNat : Int) + 65536 * (b.toNat : Int) + 256 * (c.toNat : Int) + (d.toNat : Int)

/-- The number in the first four bytes. -/
def num4 : List UInt8 → Int
  | a :: b :: c :: d :: _ => be4 a b c d
  | _ => 0

structure Hd where
  length : Int
  kind : Int
  flags : Int
  stream : Int

def hdOf : List UInt8 → Hd
  | a :: b :: c :: d :: e :: f :: _ => ⟨be2 a b, c.toNat, d.toNat, be2 e f⟩
  | _ => ⟨0, 0, 0, 0⟩

def Hd.code (h : Hd) : Int := headCode h.length h.kind h.flags h.stream

/-- The fault of a padded body: 0 is none. -/
def padCode : List UInt8 → Int
  | [] => 9
  | p :: r => if r.length < p.toNat then 9 else if ((p :: r).drop (r.length + 1 - p.toNat)).all (· == 0) then 0 else 9

def nCode (v least : Int) : Int := if v < least ∨ 2147483647 < v then 9 else 0
def numCode (body : List UInt8) (least : Int) : Int := nCode (num4 body) least

def bodyCode (k f : Int) (body : List UInt8) : Int :=
  if k = 0 then (if hasB f 8 then padCode body else 0)
  else if k = 3 then (if hasB f 1 then 0 else numCode body 0)
  else if k = 6 then numCode body 1 else 0

theorem padCode_cases (b : List UInt8) : padCode b = 0 ∨ padCode b = 9 := by
  cases b with
  | nil => simp [padCode]
  | cons p r =>
    simp only [padCode]
    by_cases h : r.length < p.toNat
    · simp [h]
    · rw [if_neg h]; split
      · exact Or.inl rfl
      · exact Or.inr rfl
theorem numCode_cases (b : List UInt8) (n : Int) : numCode b n = 0 ∨ numCode b n = 9 := by unfold numCode nCode; split <;> simp
theorem bodyCode_cases (k f : Int) (b : List UInt8) : bodyCode k f b = 0 ∨ bodyCode k f b = 9 := by
  unfold bodyCode
  split
  · split
    · exact padCode_cases b
    · simp
  · split
    · split
      · simp
      · exact numCode_cases b 0
    · split
      · exact numCode_cases b 1
      · simp

/-- A frame that was told. -/
structure Fr where
  kind : Int
  flags : Int
  stream : Int
  body : List UInt8

/-- What one byte more does: what is gathered, the frame that ends, the fault. -/
abbrev Out := Sum (Sum (List UInt8) Fr) Int
abbrev Out.more (got : List UInt8) : Out := .inl (.inl got)
abbrev Out.frame (f : Fr) : Out := .inl (.inr f)
abbrev Out.fault (code : Int) : Out := .inr code

def step (got : List UInt8) (c : UInt8) : Out :=
  let g := got ++ [c]
  let h := hdOf g
  if g.length = 6 ∧ h.code ≠ 0 then .fault h.code
  else if g.length < 6 ∨ (g.length : Int) < 6 + h.length then .more g
  else if bodyCode h.kind h.flags (g.drop 6) ≠ 0 then .fault (bodyCode h.kind h.flags (g.drop 6))
  else .frame ⟨h.kind, h.flags, h.stream, g.drop 6⟩

/-- What a reader may have gathered. -/
def Got (g : List UInt8) : Prop := 6 ≤ g.length → (hdOf g).code = 0 ∧ (g.length : Int) < 6 + (hdOf g).length

/-- A reader: what is gathered, the fault (0: none). -/
structure Rd where
  got : List UInt8
  code : Int

/-- Bytes that are fed: the frames, the reader behind them. -/
def feed (got : List UInt8) : List UInt8 → List Fr × Rd
  | [] => ([], ⟨got, 0⟩)
  | c :: r => match step got c with
    | .inl (.inl g) => feed g r
    | .inl (.inr f) => let x := feed [] r; (f :: x.1, x.2)
    | .inr code => ([], ⟨[], code⟩)

def Rd.feed (r : Rd) (l : List UInt8) : List Fr × Rd := if r.code = 0 then Go.Proofs.Ytjccnikmcoidhaa.feed r.got l else ([], r)

/-- A number in a byte. -/
def ofI (x : Int) : UInt8 := UInt8.ofNat x.toNat
theorem ofI_toNat {x : Int} (h0 : 0 ≤ x) (h1 : x ≤ 255) : ((ofI x).toNat : Int) = x := by
  unfold ofI
  rw [UInt8.toNat_ofNat']
  omega

/-- The bytes of a frame. -/
def lay (k f s : Int) (body : List UInt8) : List UInt8 := [ofI ((body.length : Int) / 256), ofI (body.length : Int), ofI k, ofI f, ofI (s / 256), ofI (s % 256)] ++ body

end Go.Proofs.Ytjccnikmcoidhaa
