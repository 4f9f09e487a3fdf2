/-
  sluiceref: Right, bytesOf, Lay, Write.
-/
import Derived.Test.YtckeblkadiehbaaGreatRefBody
namespace Go.Proofs.YtckeblkadiehbaaGreat
open Go.RowKit

/-- Is the frame right, as the document's own answer has it? -/
def rightB (k f s : Int) (body : List UInt8) : Bool := inB k && inB f && stR k s && leR body.length k f && decide (bodyCode k f body = 0)

theorem rightB_wOk (k f s : Int) (body : List UInt8) : rightB k f s body = wOk k f s body := by
  unfold wOk
  by_cases hf : fitsB k f s body.length = true
  · obtain ⟨hk0, hk1, hf0, hf1, hs0, hs1, hn⟩ := fits_bounds hf
    rw [hf, feed_lay hk0 hk1 hf0 hf1 hs0 hs1 hn]
    have e1 : inB k = true := by simp [inB, hk0, hk1]
    have e2 : inB f = true := by simp [inB, hf0, hf1]
    have e3 : stR k s = sFits k s := by simp [stR, hs0, hs1]
    have e4 : leR body.length k f = lFits body.length k f := by
      have : (body.length : Int) ≤ 64 := by omega
      simp [leR, this]
    unfold rightB
    rw [e1, e2, e3, e4]
    have hh : headCode body.length k f s = if sFits k s = false then 9 else if lFits body.length k f = false then 10 else 0 := by
      unfold headCode
      have a1 : (32767 < s ∨ sFits k s = false) ↔ sFits k s = false := ⟨fun h => h.resolve_left (by omega), Or.inr⟩
      have a2 : (64 < (body.length : Int) ∨ lFits body.length k f = false) ↔ lFits body.length k f = false := ⟨fun h => h.resolve_left (by omega), Or.inr⟩
      simp only [a1, a2]
    rw [hh]
    cases sFits k s with
    | false => simp
    | true =>
      cases lFits body.length k f with
      | false => simp
      | true =>
        by_cases hb : bodyCode k f body = 0
        · simp [hb]
        · simp [hb]
  · have hf' : fitsB k f s body.length = false := by simpa using hf
    rw [hf', Bool.false_and]
    cases hr : rightB k f s body with
    | false => rfl
    | true =>
      exfalso
      apply hf
      simp only [rightB, stR, leR, Bool.and_eq_true, decide_eq_true_eq] at hr
      simp only [fitsB, Bool.and_eq_true, decide_eq_true_eq]
      obtain ⟨⟨⟨⟨a, b⟩, ⟨c, d⟩, _⟩, g, _⟩, _⟩ := hr
      exact ⟨⟨⟨⟨a, b⟩, c⟩, d⟩, by omega⟩

set_option maxRecDepth 100000 in
set_option maxHeartbeats 1600000 in
theorem rRight_any (k f s : Int) (sa : Option Addr) (body : List UInt8) (cap : Nat) (w : World) (hl : body.length ≤ 4294967296) (hb : BytesA w (.slice sa body.length cap) body) :
    Calls Tryz.prog 66 #[.agg #[.int .i64 k, .int .i64 f, .int .i64 s, .slice sa body.length cap]] w fun e w' => e = .returned (.bool (rightB k f s body)) ∧ Below w.heap.size w w' := by
  have hch : ∀ o, BytesA (w.alloc o) (.slice sa body.length cap) body := fun o => hb.chg ((Chg.refl _ _).alloc _)
  have HC := hide hch
  clear hb hch
  by_cases hkf : 0 ≤ k ∧ k ≤ 255 ∧ 0 ≤ f ∧ f ≤ 255
  · obtain ⟨hk0, hk1, hf0, hf1⟩ := hkf
    have e1 : inB k = true := by simp [inB, hk0, hk1]
    have e2 : inB f = true := by simp [inB, hf0, hf1]
    unfold rightB
    rw [e1, e2]
    clear e1 e2
    have hf2 : f < 256 := by omega
    cases hst : stR k s with
    | false =>
      simp only [Bool.and_false, Bool.false_and]
      go_enter Tryz.func66, Tryz.ntmps66
      go_wp2_with (go_at_call 114; refine (streamRight_any k s _ hk0).mono ?_; rintro e w1 ⟨rfl, rfl⟩; rw [hst])
      go_ret
      exact ⟨rfl, (Below.refl _ _).alloc (Nat.le_refl _) _⟩
    | true =>
      cases hle : leR body.length k f with
      | false =>
        simp only [Bool.and_false, Bool.false_and]
        go_enter Tryz.func66, Tryz.ntmps66
        go_wp2_with (first
          | (go_at_call 114; refine (streamRight_any k s _ hk0).mono ?_; rintro e w1 ⟨rfl, rfl⟩; rw [hst])
          | (go_at_call 115; refine (lengthRight_any k f s _ sa body.length cap _ hf0 hf2).mono ?_; rintro e w2 ⟨rfl, hb2⟩; rw [hle]; obtain ⟨hc2, hf2'⟩ := bcell hb2))
        go_ret
        exact ⟨rfl, ((Below.refl _ _).alloc (Nat.le_refl _) _).trans (hb2.mono (by simp))⟩
      | true =>
        have hlb : body.length ≤ 64 ∧ lFits body.length k f = true := by
          simp only [leR, Bool.and_eq_true, decide_eq_true_eq] at hle
          exact ⟨by omega, hle.2⟩
        have HLF := hide hlb.2
        have hl64 := hlb.1
        clear hlb
        simp only [Bool.and_true, Bool.true_and]
        go_enter Tryz.func66, Tryz.ntmps66
        go_wp2_with (first
          | (go_at_call 114; refine (streamRight_any k s _ hk0).mono ?_; rintro e w1 ⟨rfl, rfl⟩; rw [hst])
          | (go_at_call 115; refine (lengthRight_any k f s _ sa body.length cap _ hf0 hf2).mono ?_; rintro e w2 ⟨rfl, hb2⟩; rw [hle]; obtain ⟨hc2, hf2'⟩ := bcell hb2)
          | (go_at_call 116; refine (bodyRight_any k f s sa body cap _ hf0 hf2 hl64 HLF.out ((HC.out _).chg (Chg.of_below hb2))).mono ?_; rintro e w3 ⟨rfl, hb3⟩))
        go_ret
        have hb2' : Below w.heap.size w w2 := ((Below.refl _ _).alloc (Nat.le_refl _) _).trans (hb2.mono (by simp))
        exact ⟨rfl, hb2'.trans (hb3.mono hb2'.size)⟩
  · have e : rightB k f s body = false := by
      cases hr : rightB k f s body with
      | false => rfl
      | true =>
        exfalso
        apply hkf
        simp only [rightB, inB, Bool.and_eq_true, decide_eq_true_eq] at hr
        omega
    rw [e]
    clear e
    go_enter Tryz.func66, Tryz.ntmps66
    go_wp2_with fail
    all_goals first | (go_ret; exact ⟨rfl, (Below.refl _ _).alloc (Nat.le_refl _) _⟩) | (exfalso; omega)
end Go.Proofs.YtckeblkadiehbaaGreat
