/-
  (*frames.Reader).Take, by what one byte more does.
-/
import Derived.Test.YtckeblkadiehbaaGreatTake3
namespace Go.Proofs.YtckeblkadiehbaaGreat
open Go.RowKit

/-- A reader without a fault, and what it has gathered. -/
def RdS (w : World) (rb : Nat) (gv : Value) (got : List UInt8) : Prop :=
  Got got ∧ w.ownsRow 0 5 1 gv got.length (got.map B) ∧ ∃ L K F S, RdB w rb gv L K F S 0 ∧ (6 ≤ got.length → hdOf got = ⟨L, K, F, S⟩)

/-- What a call leaves of the reader. -/
structure Left (w w' : World) (rb : Nat) (gv gv' : Value) (got : List UInt8) : Prop where
  st : RdS w' rb gv' got
  chg : Chg (Touch rb gv) w w'
  fresh : ∀ k, gv'.ownBlock = some k → gv.ownBlock = some k ∨ w.heap.size ≤ k

theorem hdOf_append {got : List UInt8} (h : 6 ≤ got.length) (c : UInt8) : hdOf (got ++ [c]) = hdOf got := by
  match got, h with
  | a :: b :: d :: e :: f :: g :: r, _ => rfl

theorem flags_lt (l : List UInt8) : 0 ≤ (hdOf l).flags ∧ (hdOf l).flags < 256 := by
  unfold hdOf
  split
  · rename_i d _ _ _
    have := d.toNat_lt
    constructor <;> simp <;> omega
  · constructor <;> simp

theorem length_nonneg (l : List UInt8) : 0 ≤ (hdOf l).length := by
  unfold hdOf
  split
  · simp only [be2]; omega
  · simp

theorem step_more {got g' : List UInt8} {c : UInt8} (h : step got c = .more g') : g' = got ++ [c] ∧ ¬ ((got ++ [c]).length = 6 ∧ (hdOf (got ++ [c])).code ≠ 0) ∧ ((got ++ [c]).length < 6 ∨ ((got ++ [c]).length : Int) < 6 + (hdOf (got ++ [c])).length) := by
  unfold step at h
  simp only at h
  by_cases a : (got ++ [c]).length = 6 ∧ (hdOf (got ++ [c])).code ≠ 0
  · rw [if_pos a] at h; cases h
  · rw [if_neg a] at h
    by_cases b : (got ++ [c]).length < 6 ∨ ((got ++ [c]).length : Int) < 6 + (hdOf (got ++ [c])).length
    · rw [if_pos b] at h
      simp only [Sum.inl.injEq] at h
      exact ⟨h.symm, a, b⟩
    · rw [if_neg b] at h
      split at h <;> cases h

theorem step_frame {got : List UInt8} {c : UInt8} {f : Fr} (h : step got c = .frame f) :
    f = ⟨(hdOf (got ++ [c])).kind, (hdOf (got ++ [c])).flags, (hdOf (got ++ [c])).stream, (got ++ [c]).drop 6⟩ ∧ ¬ ((got ++ [c]).length = 6 ∧ (hdOf (got ++ [c])).code ≠ 0) ∧ 6 ≤ (got ++ [c]).length ∧
      6 + (hdOf (got ++ [c])).length ≤ ((got ++ [c]).length : Int) ∧ bodyCode (hdOf (got ++ [c])).kind (hdOf (got ++ [c])).flags ((got ++ [c]).drop 6) = 0 := by
  unfold step at h
  simp only at h
  by_cases a : (got ++ [c]).length = 6 ∧ (hdOf (got ++ [c])).code ≠ 0
  · rw [if_pos a] at h; cases h
  · rw [if_neg a] at h
    by_cases b : (got ++ [c]).length < 6 ∨ ((got ++ [c]).length : Int) < 6 + (hdOf (got ++ [c])).length
    · rw [if_pos b] at h; cases h
    · rw [if_neg b] at h
      by_cases d : bodyCode (hdOf (got ++ [c])).kind (hdOf (got ++ [c])).flags ((got ++ [c]).drop 6) = 0
      · rw [if_neg (by simpa using d)] at h
        simp only [Sum.inl.injEq, Sum.inr.injEq] at h
        exact ⟨h.symm, a, by omega, by omega, d⟩
      · rw [if_pos d] at h; cases h

theorem step_fault {got : List UInt8} {c : UInt8} {code : Int} (h : step got c = .fault code) :
    ((got ++ [c]).length = 6 ∧ (hdOf (got ++ [c])).code ≠ 0 ∧ code = (hdOf (got ++ [c])).code) ∨
      (¬ ((got ++ [c]).length = 6 ∧ (hdOf (got ++ [c])).code ≠ 0) ∧ 6 ≤ (got ++ [c]).length ∧ 6 + (hdOf (got ++ [c])).length ≤ ((got ++ [c]).length : Int) ∧
        bodyCode (hdOf (got ++ [c])).kind (hdOf (got ++ [c])).flags ((got ++ [c]).drop 6) ≠ 0 ∧ code = bodyCode (hdOf (got ++ [c])).kind (hdOf (got ++ [c])).flags ((got ++ [c]).drop 6)) := by
  unfold step at h
  simp only at h
  by_cases a : (got ++ [c]).length = 6 ∧ (hdOf (got ++ [c])).code ≠ 0
  · rw [if_pos a] at h
    simp only [Sum.inr.injEq] at h
    exact Or.inl ⟨a.1, a.2, h.symm⟩
  · rw [if_neg a] at h
    by_cases b : (got ++ [c]).length < 6 ∨ ((got ++ [c]).length : Int) < 6 + (hdOf (got ++ [c])).length
    · rw [if_pos b] at h; cases h
    · rw [if_neg b] at h
      by_cases d : bodyCode (hdOf (got ++ [c])).kind (hdOf (got ++ [c])).flags ((got ++ [c]).drop 6) = 0
      · rw [if_neg (by simpa using d)] at h; cases h
      · rw [if_pos d] at h
        simp only [Sum.inr.injEq] at h
        exact Or.inr ⟨a, by omega, by omega, d, h.symm⟩

theorem take_more_any (rb : Nat) (gv : Value) (got g' : List UInt8) (c : UInt8) (w : World) (hr : RdS w rb gv got) (hs : step got c = .more g') :
    Calls Tryz.prog 70 #[.pointer (some ⟨rb, 0, none⟩), .int .u8 c.toNat] w fun e w' => e = .returned (.tuple #[.agg #[.int .i64 0, .int .i64 0, .int .i64 0, .slice none 0 0], .bool false]) ∧ ∃ gv', Left w w' rb gv gv' g' := by
  obtain ⟨hg, hown, L, K, F, S, hrd, hh⟩ := hr
  obtain ⟨rfl, h1, h2⟩ := step_more hs
  clear hs
  have hl : (got ++ [c]).length = got.length + 1 := by simp
  have fin : ∀ {w' : World} {L' K' F' S' : Int}, More w w' rb gv (got ++ [c]) L' K' F' S' → Got (got ++ [c]) → (6 ≤ (got ++ [c]).length → hdOf (got ++ [c]) = ⟨L', K', F', S'⟩) → ∃ gv', Left w w' rb gv gv' (got ++ [c]) := by
    rintro w' L' K' F' S' ⟨gv', a, b, d, e⟩ hg' hh'
    exact ⟨gv', ⟨hg', b, _, _, _, _, a, hh'⟩, d, e⟩
  by_cases h5 : got.length + 1 < 6
  · refine (take_short rb gv L K F S got c w hrd hown h5).mono ?_
    rintro e w' ⟨rfl, hm⟩
    exact ⟨rfl, fin hm (fun h => by omega) (fun h => by omega)⟩
  · have h3 : ((got ++ [c]).length : Int) < 6 + (hdOf (got ++ [c])).length := by omega
    by_cases h6 : got.length = 5
    · have hc : (hdOf (got ++ [c])).code = 0 := by
        by_cases e : (hdOf (got ++ [c])).code = 0
        · exact e
        · exact absurd ⟨by omega, e⟩ h1
      have hL : (hdOf (got ++ [c])).length ≤ 64 := (headCode_zero hc).2.2.1
      refine (take_six_more rb gv L K F S got c w hrd hown (by omega) (by omega) hc (by omega) hL).mono ?_
      rintro e w' ⟨rfl, hm⟩
      exact ⟨rfl, fin hm (fun _ => ⟨hc, h3⟩) (fun _ => rfl)⟩
    · have h6' : 6 ≤ got.length := by omega
      have he := hdOf_append h6' c
      have hg6 := hg h6'
      rw [he] at h3
      have hL := hh h6'
      have hL' : (hdOf got).length = L := by rw [hL]
      have hc := headCode_zero hg6.1
      refine (take_more rb gv L K F S got c w hrd hown h6' (by omega) (by omega)).mono ?_
      rintro e w' ⟨rfl, hm⟩
      exact ⟨rfl, fin hm (fun _ => by rw [he]; exact ⟨hg6.1, h3⟩) (fun _ => by rw [he]; exact hL)⟩

theorem take_fault_any (rb : Nat) (gv : Value) (got : List UInt8) (c : UInt8) (code : Int) (w : World) (hr : RdS w rb gv got) (hs : step got c = .fault code) :
    Calls Tryz.prog 70 #[.pointer (some ⟨rb, 0, none⟩), .int .u8 c.toNat] w fun e w' => e = .panicked [{ v := .iface 83 (.int .i64 code), recovered := false }] ∧ Gave w w' rb gv := by
  obtain ⟨hg, hown, L, K, F, S, hrd, hh⟩ := hr
  have hl : (got ++ [c]).length = got.length + 1 := by simp
  rcases step_fault hs with ⟨h1, h2, rfl⟩ | ⟨h1, h2, h3, h4, rfl⟩
  · exact take_six_bad rb gv L K F S got c w hrd hown (by omega) (by omega) h2
  · by_cases h6 : got.length = 5
    · have hc : (hdOf (got ++ [c])).code = 0 := by
        by_cases e : (hdOf (got ++ [c])).code = 0
        · exact e
        · exact absurd ⟨by omega, e⟩ h1
      have := length_nonneg (got ++ [c])
      exact take_six_done_bad rb gv L K F S got c w hrd hown (by omega) (by omega) hc (by omega) h4
    · have h6' : 6 ≤ got.length := by omega
      have he := hdOf_append h6' c
      have hg6 := hg h6'
      have hL := hh h6'
      have hf := flags_lt got
      rw [he] at h3 h4 ⊢
      rw [hL] at h3 h4 hg6 hf ⊢
      exact take_done_bad rb gv L K F S got c w hrd hown h6' (by have := hg6.2; simp at this h3; omega) hg6.1 hf.1 hf.2 h4

theorem got_nil : Got [] := fun h => by simp at h

theorem take_frame_any (rb : Nat) (gv : Value) (got : List UInt8) (c : UInt8) (f : Fr) (w : World) (hr : RdS w rb gv got) (hs : step got c = .frame f) :
    Calls Tryz.prog 70 #[.pointer (some ⟨rb, 0, none⟩), .int .u8 c.toNat] w fun e w' => ∃ bv gv', e = .returned (.tuple #[.agg #[.int .i64 f.kind, .int .i64 f.flags, .int .i64 f.stream, bv], .bool true]) ∧
      w'.ownsRow 0 5 1 bv f.body.length (f.body.map B) ∧ (∀ k, bv.ownBlock = some k → w.heap.size ≤ k) ∧ Left w w' rb gv gv' [] ∧ (∀ k, bv.ownBlock = some k → gv'.ownBlock ≠ some k) := by
  obtain ⟨hg, hown, L, K, F, S, hrd, hh⟩ := hr
  have hl : (got ++ [c]).length = got.length + 1 := by simp
  obtain ⟨rfl, h1, h2, h3, h4⟩ := step_frame hs
  clear hs
  have fin : ∀ {e : Ending} {w' : World} {K' F' S' : Int}, Ends w w' rb gv e K' F' S' ((got ++ [c]).drop 6) → ∃ bv gv', e = .returned (.tuple #[.agg #[.int .i64 K', .int .i64 F', .int .i64 S', bv], .bool true]) ∧
      w'.ownsRow 0 5 1 bv ((got ++ [c]).drop 6).length (((got ++ [c]).drop 6).map B) ∧ (∀ k, bv.ownBlock = some k → w.heap.size ≤ k) ∧ Left w w' rb gv gv' [] ∧ (∀ k, bv.ownBlock = some k → gv'.ownBlock ≠ some k) := by
    rintro e w' K' F' S' ⟨bv, gv', L1, K1, F1, S1, he, h5, h6, h7, h8, h9, h10, h11⟩
    exact ⟨bv, gv', he, h5, h6, ⟨⟨got_nil, by simpa using h8, _, _, _, _, h7, fun h => by simp at h⟩, h9, h10⟩, h11⟩
  by_cases h6 : got.length = 5
  · have hc : (hdOf (got ++ [c])).code = 0 := by
      by_cases e : (hdOf (got ++ [c])).code = 0
      · exact e
      · exact absurd ⟨by omega, e⟩ h1
    have := length_nonneg (got ++ [c])
    exact (take_six_done_ok rb gv L K F S got c w hrd hown (by omega) (by omega) hc (by omega) h4).mono fun e w' h => fin h
  · have h6' : 6 ≤ got.length := by omega
    have he := hdOf_append h6' c
    have hg6 := hg h6'
    have hL := hh h6'
    have hf := flags_lt got
    rw [he] at h3 h4 ⊢
    rw [hL] at h3 h4 hg6 hf ⊢
    exact (take_done_ok rb gv L K F S got c w hrd hown h6' (by have := hg6.2; simp at this h3; omega) hg6.1 hf.1 hf.2 h4).mono fun e w' h => fin h
end Go.Proofs.YtckeblkadiehbaaGreat
