import Derived.Test.YtjccnikmcoidhaaPure
set_option linter.unusedVariables false
set_option linter.unusedSimpArgs false
/-
  Frames that are right are read as they were written; bytes in pieces tell what they tell as a whole.
-/
namespace Go.Proofs.Ytjccnikmcoidhaa

theorem feed_code (got l : List UInt8) : (feed got l).2.code ≠ 0 → (feed got l).2.got = [] := by
  induction l generalizing got with
  | nil => intro h; exact absurd rfl h
  | cons c r ih =>
    simp only [feed]
    split
    · exact ih _
    · exact ih _
    · intro _; rfl

theorem feed_append (got a b : List UInt8) : feed got (a ++ b) = ((feed got a).1 ++ ((feed got a).2.feed b).1, ((feed got a).2.feed b).2) := by
  induction a generalizing got with
  | nil =>
    have : (Rd.mk got 0).feed b = feed got b := by show (if (0 : Int) = 0 then _ else _) = _; rw [if_pos rfl]
    simp [feed, this]
  | cons c r ih =>
    simp only [List.cons_append, feed]
    split
    · exact ih _
    · simp [ih]
    · rename_i code hs
      have hc : code ≠ 0 := by
        unfold step at hs
        simp only at hs
        split at hs
        · rename_i h; simp only [Sum.inr.injEq] at hs; rw [← hs]; exact h.2
        · split at hs
          · cases hs
          · split at hs
            · rename_i h; simp only [Sum.inr.injEq] at hs; rw [← hs]; exact h
            · cases hs
      have : (Rd.mk [] code).feed b = ([], ⟨[], code⟩) := by show (if code = 0 then _ else _) = _; rw [if_neg hc]
      simp [this]

theorem Rd.feed_append (r : Rd) (a b : List UInt8) : r.feed (a ++ b) = ((r.feed a).1 ++ ((r.feed a).2.feed b).1, ((r.feed a).2.feed b).2) := by
  unfold Rd.feed
  by_cases h : r.code = 0
  · simp only [h, if_true]
    exact Go.Proofs.Ytjccnikmcoidhaa.feed_append _ _ _
  · simp [h]

theorem Rd.feed_nil (r : Rd) : r.feed [] = ([], r) := by
  unfold Rd.feed
  by_cases h : r.code = 0
  · rw [if_pos h]
    show ([], Rd.mk r.got 0) = ([], r)
    rw [← h]
  · rw [if_neg h]

theorem Rd.feed_dead {r : Rd} (h : r.code ≠ 0) (l : List UInt8) : r.feed l = ([], r) := by unfold Rd.feed; rw [if_neg h]

/-- Is the frame right, by the table? -/
structure Right (k f s : Int) (body : List UInt8) : Prop where
  k0 : 0 ≤ k
  k1 : k ≤ 255
  f0 : 0 ≤ f
  f1 : f ≤ 255
  s0 : 0 ≤ s
  s1 : s ≤ 32767
  st : sFits k s = true
  n : body.length ≤ 64
  ln : lFits body.length k f = true
  bd : bodyCode k f body = 0

theorem lay_length (k f s : Int) (body : List UInt8) : (lay k f s body).length = 6 + body.length := by simp [lay]; omega
theorem lay_drop (k f s : Int) (body : List UInt8) : (lay k f s body).drop 6 = body := rfl

theorem hdOf_lay {k f s : Int} {body r : List UInt8} (hk0 : 0 ≤ k) (hk1 : k ≤ 255) (hf0 : 0 ≤ f) (hf1 : f ≤ 255) (hs0 : 0 ≤ s) (hs1 : s ≤ 32767) (hn : body.length ≤ 64) :
    hdOf ([ofI ((body.length : Int) / 256), ofI (body.length : Int), ofI k, ofI f, ofI (s / 256), ofI (s % 256)] ++ r) = ⟨body.length, k, f, s⟩ := by
  simp only [hdOf, List.cons_append, be2]
  rw [ofI_toNat (by omega) (by omega), ofI_toNat (by omega) (by omega), ofI_toNat hk0 hk1, ofI_toNat hf0 hf1, ofI_toNat (by omega) (by omega), ofI_toNat (by omega) (by omega)]
  congr 1 <;> omega

theorem feed_short (got l : List UInt8) (h : got.length + l.length < 6) : feed got l = ([], ⟨got ++ l, 0⟩) := by
  induction l generalizing got with
  | nil => simp [feed]
  | cons c r ih =>
    have hs : step got c = .more (got ++ [c]) := by
      unfold step
      simp only [List.length_append, List.length_cons, List.length_nil] at h ⊢
      rw [if_neg (by omega), if_pos (by omega)]
    simp only [feed, hs]
    rw [ih _ (by simp at h ⊢; omega)]
    simp

/-- Behind a head that is right: the body is gathered, and then looked at. -/
theorem feed_body (got l : List UInt8) (n : Nat) (h6 : 6 ≤ got.length) (hc : (hdOf got).length = (n : Int)) (hl : got.length + l.length = 6 + n) (hlt : got.length < 6 + n) :
    feed got l = if bodyCode (hdOf got).kind (hdOf got).flags ((got ++ l).drop 6) = 0 then ([⟨(hdOf got).kind, (hdOf got).flags, (hdOf got).stream, (got ++ l).drop 6⟩], ⟨[], 0⟩) else ([], ⟨[], bodyCode (hdOf got).kind (hdOf got).flags ((got ++ l).drop 6)⟩) := by
  induction l generalizing got with
  | nil => simp at hl; omega
  | cons c r ih =>
    have hh : hdOf (got ++ [c]) = hdOf got := by
      match got, h6 with
      | a :: b :: d :: e :: f :: g :: r, _ => rfl
    by_cases hr : r = []
    · subst hr
      simp only [List.length_cons, List.length_nil] at hl
      by_cases hb : bodyCode (hdOf got).kind (hdOf got).flags ((got ++ [c]).drop 6) = 0
      · have hs : step got c = .frame ⟨(hdOf got).kind, (hdOf got).flags, (hdOf got).stream, (got ++ [c]).drop 6⟩ := by
          unfold step
          simp only [hh]
          simp only [List.length_append, List.length_cons, List.length_nil]
          rw [if_neg (by omega), if_neg (by omega), if_neg (by simpa using hb)]
        simp only [feed, hs]
        rw [if_pos hb]
      · have hs : step got c = .fault (bodyCode (hdOf got).kind (hdOf got).flags ((got ++ [c]).drop 6)) := by
          unfold step
          simp only [hh]
          simp only [List.length_append, List.length_cons, List.length_nil]
          rw [if_neg (by omega), if_neg (by omega), if_pos hb]
        simp only [feed, hs]
        rw [if_neg hb]
    · have hrl : 0 < r.length := List.length_pos_iff.2 hr
      simp only [List.length_cons] at hl
      have hs : step got c = .more (got ++ [c]) := by
        unfold step
        simp only [hh]
        simp only [List.length_append, List.length_cons, List.length_nil]
        rw [if_neg (by omega), if_pos (by omega)]
      simp only [feed, hs]
      have := ih (got ++ [c]) (by simp; omega) (by rw [hh]; exact hc) (by simp; omega) (by simp; omega)
      rw [this, hh]
      simp only [List.append_assoc, List.cons_append, List.nil_append]

/-- What a reader makes of the bytes of a frame that fits. -/
theorem feed_lay {k f s : Int} {body : List UInt8} (hk0 : 0 ≤ k) (hk1 : k ≤ 255) (hf0 : 0 ≤ f) (hf1 : f ≤ 255) (hs0 : 0 ≤ s) (hs1 : s ≤ 32767) (hn : body.length ≤ 64) :
    feed [] (lay k f s body) = if headCode body.length k f s ≠ 0 then ([], ⟨[], headCode body.length k f s⟩) else if bodyCode k f body = 0 then ([⟨k, f, s, body⟩], ⟨[], 0⟩) else ([], ⟨[], bodyCode k f body⟩) := by
  obtain ⟨x0, hx0⟩ : ∃ x, x = ofI ((body.length : Int) / 256) := ⟨_, rfl⟩
  have hd : ∀ r, hdOf ([ofI ((body.length : Int) / 256), ofI (body.length : Int), ofI k, ofI f, ofI (s / 256), ofI (s % 256)] ++ r) = ⟨body.length, k, f, s⟩ := fun r => hdOf_lay hk0 hk1 hf0 hf1 hs0 hs1 hn
  have e : lay k f s body = [ofI ((body.length : Int) / 256), ofI (body.length : Int), ofI k, ofI f, ofI (s / 256)] ++ (ofI (s % 256) :: body) := rfl
  rw [e, feed_append, feed_short [] _ (by simp)]
  have h1 : (Rd.mk ([] ++ [ofI ((body.length : Int) / 256), ofI (body.length : Int), ofI k, ofI f, ofI (s / 256)]) 0).feed (ofI (s % 256) :: body) =
      feed [ofI ((body.length : Int) / 256), ofI (body.length : Int), ofI k, ofI f, ofI (s / 256)] (ofI (s % 256) :: body) := by
    show (if (0 : Int) = 0 then _ else _) = _
    rw [if_pos rfl]; rfl
  rw [h1]
  have hd0 : hdOf ([ofI ((body.length : Int) / 256), ofI (body.length : Int), ofI k, ofI f, ofI (s / 256)] ++ [ofI (s % 256)]) = ⟨body.length, k, f, s⟩ := by
    have := hd []; simpa using this
  have hcode : Hd.code ⟨body.length, k, f, s⟩ = headCode body.length k f s := rfl
  simp only [List.nil_append, feed]
  by_cases hh : headCode body.length k f s ≠ 0
  · have hs : step [ofI ((body.length : Int) / 256), ofI (body.length : Int), ofI k, ofI f, ofI (s / 256)] (ofI (s % 256)) = .fault (headCode body.length k f s) := by
      unfold step
      simp only [hd0, hcode]
      rw [if_pos ⟨rfl, hh⟩]
    rw [hs, if_pos hh]
  · rw [if_neg hh]
    by_cases hb : body = []
    · subst hb
      simp only [List.length_nil] at *
      have hs : step [ofI (((0 : Nat) : Int) / 256), ofI ((0 : Nat) : Int), ofI k, ofI f, ofI (s / 256)] (ofI (s % 256)) =
          if bodyCode k f [] = 0 then .frame ⟨k, f, s, []⟩ else .fault (bodyCode k f []) := by
        unfold step
        simp only [hd0, hcode]
        rw [if_neg (fun h => hh h.2), if_neg (by simp)]
        by_cases hz : bodyCode k f [] = 0
        · rw [if_neg (by simpa using hz), if_pos hz]; rfl
        · rw [if_pos (by simpa using hz), if_neg hz]; rfl
      rw [hs]
      by_cases hz : bodyCode k f [] = 0
      · simp [hz, feed]
      · simp [hz]
    · have hbl : 0 < body.length := List.length_pos_iff.2 hb
      have hs : step [ofI ((body.length : Int) / 256), ofI (body.length : Int), ofI k, ofI f, ofI (s / 256)] (ofI (s % 256)) = .more ([ofI ((body.length : Int) / 256), ofI (body.length : Int), ofI k, ofI f, ofI (s / 256)] ++ [ofI (s % 256)]) := by
        unfold step
        simp only [hd0, hcode]
        rw [if_neg (fun h => hh h.2), if_pos (Or.inr (by simp; omega))]
      rw [hs]
      simp only
      rw [feed_body _ body body.length (by simp) (by rw [hd0]) (by simp) (by simp; omega), hd0]
      simp only [List.cons_append, List.nil_append, List.drop_succ_cons, List.drop_zero]

theorem headCode_of {l k f s : Int} (h1 : s ≤ 32767) (h2 : sFits k s = true) (h3 : l ≤ 64) (h4 : lFits l k f = true) : headCode l k f s = 0 := by
  have a1 : ¬ (32767 < s ∨ sFits k s = false) := by
    rintro (a | a)
    · omega
    · rw [h2] at a; cases a
  have a2 : ¬ (64 < l ∨ lFits l k f = false) := by
    rintro (a | a)
    · omega
    · rw [h4] at a; cases a
  unfold headCode
  rw [if_neg a1, if_neg a2]

theorem feed_right {k f s : Int} {body : List UInt8} (h : Right k f s body) : feed [] (lay k f s body) = ([⟨k, f, s, body⟩], ⟨[], 0⟩) := by
  rw [feed_lay h.k0 h.k1 h.f0 h.f1 h.s0 h.s1 h.n, if_neg (by simpa using headCode_of h.s1 h.st (by have := h.n; omega) h.ln), if_pos h.bd]
end Go.Proofs.Ytjccnikmcoidhaa
