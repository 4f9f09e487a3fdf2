/-
  The document's way to read, all at once: what a reader makes of bytes, head by head.
-/
import Derived.Test.YtckeblkadiehbaaGreatPureKeep
namespace Go.Proofs.YtckeblkadiehbaaGreat

theorem feed_six (a b c d e f : UInt8) : feed [] [a, b, c, d, e, f] =
    if (hdOf [a, b, c, d, e, f]).code ≠ 0 then ([], ⟨[], (hdOf [a, b, c, d, e, f]).code⟩)
    else if (hdOf [a, b, c, d, e, f]).length = 0 then
      (if bodyCode (hdOf [a, b, c, d, e, f]).kind (hdOf [a, b, c, d, e, f]).flags [] = 0 then ([⟨(hdOf [a, b, c, d, e, f]).kind, (hdOf [a, b, c, d, e, f]).flags, (hdOf [a, b, c, d, e, f]).stream, []⟩], ⟨[], 0⟩)
       else ([], ⟨[], bodyCode (hdOf [a, b, c, d, e, f]).kind (hdOf [a, b, c, d, e, f]).flags []⟩))
    else ([], ⟨[a, b, c, d, e, f], 0⟩) := by
  have e0 : [a, b, c, d, e, f] = [a, b, c, d, e] ++ [f] := rfl
  have hn : 0 ≤ (hdOf [a, b, c, d, e, f]).length := by simp only [hdOf, be2]; omega
  have h5 : feed [] [a, b, c, d, e, f] = feed [a, b, c, d, e] [f] := by
    rw [e0, feed_append, feed_short [] _ (by simp)]
    show ([] ++ (Rd.feed ⟨[] ++ [a, b, c, d, e], 0⟩ [f]).1, (Rd.feed ⟨[] ++ [a, b, c, d, e], 0⟩ [f]).2) = _
    unfold Rd.feed
    rw [if_pos rfl]
    simp
  rw [h5]
  by_cases hc : (hdOf [a, b, c, d, e, f]).code ≠ 0
  · have hs : step [a, b, c, d, e] f = .fault (hdOf [a, b, c, d, e, f]).code := by
      unfold step
      simp only [List.cons_append, List.nil_append]
      rw [if_pos ⟨rfl, hc⟩]
    simp only [feed, hs]
    rw [if_pos hc]
  · rw [if_neg hc]
    by_cases hl : (hdOf [a, b, c, d, e, f]).length = 0
    · rw [if_pos hl]
      by_cases hb : bodyCode (hdOf [a, b, c, d, e, f]).kind (hdOf [a, b, c, d, e, f]).flags [] = 0
      · have hs : step [a, b, c, d, e] f = .frame ⟨(hdOf [a, b, c, d, e, f]).kind, (hdOf [a, b, c, d, e, f]).flags, (hdOf [a, b, c, d, e, f]).stream, []⟩ := by
          unfold step
          simp only [List.cons_append, List.nil_append, List.length_cons, List.length_nil, List.drop_succ_cons, List.drop_zero]
          rw [if_neg (fun h => hc h.2), if_neg (by omega), if_neg (by simpa using hb)]
        simp only [feed, hs]
        rw [if_pos hb]
      · have hs : step [a, b, c, d, e] f = .fault (bodyCode (hdOf [a, b, c, d, e, f]).kind (hdOf [a, b, c, d, e, f]).flags []) := by
          unfold step
          simp only [List.cons_append, List.nil_append, List.length_cons, List.length_nil, List.drop_succ_cons, List.drop_zero]
          rw [if_neg (fun h => hc h.2), if_neg (by omega), if_pos (by simpa using hb)]
        simp only [feed, hs]
        rw [if_neg hb]
    · rw [if_neg hl]
      have hs : step [a, b, c, d, e] f = .more [a, b, c, d, e, f] := by
        unfold step
        simp only [List.cons_append, List.nil_append, List.length_cons, List.length_nil]
        rw [if_neg (fun h => hc h.2), if_pos (by omega)]
      simp only [feed, hs]

theorem hd_six (a b c d e f : UInt8) (r : List UInt8) : hdOf (a :: b :: c :: d :: e :: f :: r) = hdOf [a, b, c, d, e, f] := rfl

/-- A body that is not whole yet. -/
theorem feed_wait (got l : List UInt8) (h6 : 6 ≤ got.length) (hl : ((got.length + l.length : Nat) : Int) < 6 + (hdOf got).length) : feed got l = ([], ⟨got ++ l, 0⟩) := by
  induction l generalizing got with
  | nil => simp [feed]
  | cons c r ih =>
    have hh : hdOf (got ++ [c]) = hdOf got := by
      match got, h6 with
      | a :: b :: d :: e :: f :: g :: r, _ => rfl
    simp only [List.length_cons] at hl
    have hs : step got c = .more (got ++ [c]) := by
      unfold step
      simp only [hh]
      simp only [List.length_append, List.length_cons, List.length_nil]
      rw [if_neg (by omega), if_pos (by omega)]
    simp only [feed, hs]
    rw [ih (got ++ [c]) (by simp; omega) (by rw [hh]; simp; omega)]
    simp

theorem feed_split (a b c d e f : UInt8) (r : List UInt8) : feed [] (a :: b :: c :: d :: e :: f :: r) = ((feed [] [a, b, c, d, e, f]).1 ++ ((feed [] [a, b, c, d, e, f]).2.feed r).1, ((feed [] [a, b, c, d, e, f]).2.feed r).2) :=
  feed_append [] [a, b, c, d, e, f] r

theorem rf_head {l : List UInt8} (h6 : 6 ≤ l.length) (hc : (hdOf l).code ≠ 0) : feed [] l = ([], ⟨[], (hdOf l).code⟩) := by
  match l, h6 with
  | a :: b :: c :: d :: e :: f :: r, _ =>
    rw [hd_six] at hc ⊢
    rw [feed_split, feed_six, if_pos hc, Rd.feed_dead hc]
    rfl

theorem rf_wait {l : List UInt8} (h6 : 6 ≤ l.length) (hc : (hdOf l).code = 0) (hl : (l.length : Int) < 6 + (hdOf l).length) : feed [] l = ([], ⟨l, 0⟩) := by
  match l, h6 with
  | a :: b :: c :: d :: e :: f :: r, _ =>
    rw [hd_six] at hc hl
    simp only [List.length_cons] at hl
    rw [feed_split, feed_six, if_neg (by simpa using hc), if_neg (by omega)]
    have e1 : (Rd.mk [a, b, c, d, e, f] 0).feed r = feed [a, b, c, d, e, f] r := by unfold Rd.feed; rw [if_pos rfl]
    rw [e1, feed_wait _ r (by simp) (by simp only [List.length_cons, List.length_nil]; omega)]
    simp

theorem rf_body {l : List UInt8} {n : Nat} (h6 : 6 ≤ l.length) (hc : (hdOf l).code = 0) (hn : (hdOf l).length = (n : Int)) (hl : 6 + n ≤ l.length) :
    feed [] l = if bodyCode (hdOf l).kind (hdOf l).flags ((l.drop 6).take n) = 0 then (⟨(hdOf l).kind, (hdOf l).flags, (hdOf l).stream, (l.drop 6).take n⟩ :: (feed [] (l.drop (6 + n))).1, (feed [] (l.drop (6 + n))).2)
      else ([], ⟨[], bodyCode (hdOf l).kind (hdOf l).flags ((l.drop 6).take n)⟩) := by
  match l, h6 with
  | a :: b :: c :: d :: e :: f :: r, _ =>
    rw [hd_six] at hc hn ⊢
    have hr : n ≤ r.length := by simp only [List.length_cons] at hl; omega
    have hd1 : (a :: b :: c :: d :: e :: f :: r).drop 6 = r := rfl
    have hd2 : (a :: b :: c :: d :: e :: f :: r).drop (6 + n) = r.drop n := by rw [← List.drop_drop]; rfl
    rw [hd1, hd2, feed_split, feed_six, if_neg (by simpa using hc)]
    have dead : ∀ (z : Int) (q : List UInt8), z ≠ 0 → (([] : List Fr) ++ ((Rd.mk [] z).feed q).1, ((Rd.mk [] z).feed q).2) = (([], ⟨[], z⟩) : List Fr × Rd) := fun z q hz => by rw [Rd.feed_dead hz]; rfl
    have live : ∀ (g q : List UInt8), (Rd.mk g 0).feed q = feed g q := fun g q => by unfold Rd.feed; rw [if_pos rfl]
    by_cases h0 : n = 0
    · subst h0
      rw [if_pos (by rw [hn]; rfl), List.take_zero, List.drop_zero]
      by_cases hb : bodyCode (hdOf [a, b, c, d, e, f]).kind (hdOf [a, b, c, d, e, f]).flags [] = 0
      · rw [if_pos hb, if_pos hb]
        simp only [live]
        rfl
      · rw [if_neg hb, if_neg hb]
        exact dead _ _ hb
    · rw [if_neg (by rw [hn]; omega)]
      simp only [live, List.nil_append]
      have e2 : r = r.take n ++ r.drop n := (List.take_append_drop n r).symm
      have e3 : feed [a, b, c, d, e, f] r = feed [a, b, c, d, e, f] (r.take n ++ r.drop n) := by rw [List.take_append_drop]
      rw [e3, feed_append, feed_body [a, b, c, d, e, f] (r.take n) n (by simp) hn (by simp; omega) (by simp; omega)]
      have e4 : ([a, b, c, d, e, f] ++ r.take n).drop 6 = r.take n := rfl
      rw [e4]
      by_cases hb : bodyCode (hdOf [a, b, c, d, e, f]).kind (hdOf [a, b, c, d, e, f]).flags (r.take n) = 0
      · rw [if_pos hb, if_pos hb]
        simp only [live]
        rfl
      · rw [if_neg hb, if_neg hb]
        exact dead _ _ hb
end Go.Proofs.YtckeblkadiehbaaGreat
