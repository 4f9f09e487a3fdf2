import Derived.Test.YtjccnikmcoidhaaTake
set_option linter.unusedVariables false
set_option linter.unusedSimpArgs false
/-
  (*frames.Reader).Take, by what one byte more does.
-/
namespace Go.Proofs.Ytjccnikmcoidhaa
open Go.RowKit

/-- A reader without a fault, and what it has gathered, wherever it lies. -/
def RdSG (w : World) (rb o : Nat) (T : TypeId) (cs : Array Value) (gv : Value) (got : List UInt8) : Prop :=
  Got got ∧ w.ownsRow 0 5 1 gv got.length (got.map B) ∧ ∃ L K F S, RdG w rb o T cs gv L K F S ∧ (6 ≤ got.length → hdOf got = ⟨L, K, F, S⟩)
/-- What a call leaves of it. -/
structure LeftG (w w' : World) (rb o : Nat) (T : TypeId) (cs cs' : Array Value) (gv gv' : Value) (got : List UInt8) : Prop where
  st : RdSG w' rb o T cs' gv' got
  alike : Alike o cs cs'
  chg : Chg (Touch rb gv) w w'
  fresh : ∀ k, gv'.ownBlock = some k → gv.ownBlock = some k ∨ w.heap.size ≤ k
/-- The end of a call that gives up. -/
def GaveG (w w' : World) (rb o : Nat) (T : TypeId) (cs : Array Value) (gv : Value) : Prop := ∃ cs' gv' L K F S, RdG w' rb o T cs' gv' L K F S ∧ Alike o cs cs' ∧ Chg (Touch rb gv) w w'

theorem hdOf_append {got : List UInt8} (h : 6 ≤ got.length) (c : UInt8) : hdOf (got ++ [c]) = hdOf got := by
  match got, h with
  | a :: b :: d :: e :: f :: g :: r, _ => rfl

theorem length_nonneg (l : List UInt8) : 0 ≤ (hdOf l).length := by
  unfold hdOf
  split
  · simp only [be2]; omega
  · simp

theorem step_more {got g' : List UInt8} {c : UInt8} (h : step got c = .more g') : g' = got ++ [c] ∧ ¬ ((got ++ [c]).length = 6 ∧ (hdOf (got ++ [c])).code ≠ 0) ∧ ((got ++ [c]).length < 6 ∨ ((got ++ [c]).length : Int) < 6 + (hdOf (got ++ [c])).length) := by
  unfold step at h
  simp only at h
  by_cases a : (got ++ [c]).length = 6 ∧ (hdOf (got ++ [c])).code ≠ 0
  · rw [if_pos a] at h; cases h
  · rw [if_neg a] at h
    by_cases b : (got ++ [c]).length < 6 ∨ ((got ++ [c]).length : Int) < 6 + (hdOf (got ++ [c])).length
    · rw [if_pos b] at h
      simp only [Sum.inl.injEq] at h
      exact ⟨h.symm, a, b⟩
    · rw [if_neg b] at h
      split at h <;> cases h

theorem step_frame {got : List UInt8} {c : UInt8} {f : Fr} (h : step got c = .frame f) :
    f = ⟨(hdOf (got ++ [c])).kind, (hdOf (got ++ [c])).flags, (hdOf (got ++ [c])).stream, (got ++ [c]).drop 6⟩ ∧ ¬ ((got ++ [c]).length = 6 ∧ (hdOf (got ++ [c])).code ≠ 0) ∧ 6 ≤ (got ++ [c]).length ∧
      6 + (hdOf (got ++ [c])).length ≤ ((got ++ [c]).length : Int) ∧ bodyCode (hdOf (got ++ [c])).kind (hdOf (got ++ [c])).flags ((got ++ [c]).drop 6) = 0 := by
  unfold step at h
  simp only at h
  by_cases a : (got ++ [c]).length = 6 ∧ (hdOf (got ++ [c])).code ≠ 0
  · rw [if_pos a] at h; cases h
  · rw [if_neg a] at h
    by_cases b : (got ++ [c]).length < 6 ∨ ((got ++ [c]).length : Int) < 6 + (hdOf (got ++ [c])).length
    · rw [if_pos b] at h; cases h
    · rw [if_neg b] at h
      by_cases d : bodyCode (hdOf (got ++ [c])).kind (hdOf (got ++ [c])).flags ((got ++ [c]).drop 6) = 0
      · rw [if_neg (by simpa using d)] at h
        simp only [Sum.inl.injEq, Sum.inr.injEq] at h
        exact ⟨h.symm, a, by omega, by omega, d⟩
      · rw [if_pos d] at h; cases h

theorem step_fault {got : List UInt8} {c : UInt8} {code : Int} (h : step got c = .fault code) :
    ((got ++ [c]).length = 6 ∧ (hdOf (got ++ [c])).code ≠ 0 ∧ code = (hdOf (got ++ [c])).code) ∨
      (¬ ((got ++ [c]).length = 6 ∧ (hdOf (got ++ [c])).code ≠ 0) ∧ 6 ≤ (got ++ [c]).length ∧ 6 + (hdOf (got ++ [c])).length ≤ ((got ++ [c]).length : Int) ∧
        bodyCode (hdOf (got ++ [c])).kind (hdOf (got ++ [c])).flags ((got ++ [c]).drop 6) ≠ 0 ∧ code = bodyCode (hdOf (got ++ [c])).kind (hdOf (got ++ [c])).flags ((got ++ [c]).drop 6)) := by
  unfold step at h
  simp only at h
  by_cases a : (got ++ [c]).length = 6 ∧ (hdOf (got ++ [c])).code ≠ 0
  · rw [if_pos a] at h
    simp only [Sum.inr.injEq] at h
    exact Or.inl ⟨a.1, a.2, h.symm⟩
  · rw [if_neg a] at h
    by_cases b : (got ++ [c]).length < 6 ∨ ((got ++ [c]).length : Int) < 6 + (hdOf (got ++ [c])).length
    · rw [if_pos b] at h; cases h
    · rw [if_neg b] at h
      by_cases d : bodyCode (hdOf (got ++ [c])).kind (hdOf (got ++ [c])).flags ((got ++ [c]).drop 6) = 0
      · rw [if_neg (by simpa using d)] at h; cases h
      · rw [if_pos d] at h
        simp only [Sum.inr.injEq] at h
        exact Or.inr ⟨a, by omega, by omega, d, h.symm⟩

theorem got_nil : Got [] := fun h => by simp at h
theorem Pushed.fresh {w w2 : World} {rb o : Nat} {T : TypeId} {cs cs2 : Array Value} {gv : Value} {g cap : Nat} {l : List UInt8} {L K F S : Int} (h : Pushed w w2 rb o T cs gv cs2 g cap l L K F S) (n c : Nat) : ∀ k, (Value.slice (some ⟨g, 0, none⟩) n c).ownBlock = some k → gv.ownBlock = some k ∨ w.heap.size ≤ k := fun k hk => by
  simp [Value.ownBlock] at hk; subst hk
  rcases h.old with a | a
  · exact Or.inl a
  · exact Or.inr (by omega)

/-- Take, by what one byte more does. -/
def Took (w w' : World) (rb o : Nat) (T : TypeId) (cs : Array Value) (gv : Value) (got : List UInt8) (c : UInt8) (e : Ending) : Prop :=
  (∃ g' cs' gv', step got c = .more g' ∧ e = .returned (.tuple #[.nilIface, .bool false]) ∧ LeftG w w' rb o T cs cs' gv gv' g') ∨
  (∃ code, step got c = .fault code ∧ e = .panicked [{ v := .iface 32 (.int .i64 code), recovered := false }] ∧ GaveG w w' rb o T cs gv) ∨
  (∃ f bv cv cs' gv', step got c = .frame f ∧ e = .returned (.tuple #[frV f.kind f.flags f.stream bv cv f.body, .bool true]) ∧ (f.kind = 0 → ContV f.flags bv cv f.body) ∧
    w'.ownsRow 0 5 1 bv f.body.length (f.body.map B) ∧ (∀ k, bv.ownBlock = some k → w.heap.size ≤ k) ∧ LeftG w w' rb o T cs cs' gv gv' [] ∧ (∀ k, bv.ownBlock = some k → gv'.ownBlock ≠ some k))

theorem take_any (rb o : Nat) (T : TypeId) (cs : Array Value) (gv : Value) (got : List UInt8) (c : UInt8) (w : World) (hr : RdSG w rb o T cs gv got) :
    Calls Try.prog 22 #[.pointer (some ⟨rb, o, none⟩), .int .u8 c.toNat] w fun e w' => Took w w' rb o T cs gv got c e := by
  obtain ⟨hg, hown, L, K, F, S, hrd, hh⟩ := hr
  have hl : (got ++ [c]).length = got.length + 1 := by simp
  have hL6 : 6 ≤ got.length → hdOf (got ++ [c]) = ⟨L, K, F, S⟩ ∧ headCode L K F S = 0 ∧ (got.length : Int) < 6 + L := fun h6 => by
    have h1 := hg h6
    have h2 := hh h6
    rw [h2] at h1
    exact ⟨by rw [hdOf_append h6, h2], h1.1, h1.2⟩
  have hgl : got.length ≤ 70 := by
    by_cases h6 : 6 ≤ got.length
    · have h1 := hL6 h6
      have := (headCode_zero h1.2.1).2.2.1
      omega
    · omega
  have hlen5 : got.length = 5 → (hdOf (got ++ [c])).code ≠ 0 → step got c = .fault (hdOf (got ++ [c])).code := fun h5 hc => by
    unfold step
    simp only
    rw [if_pos ⟨by omega, hc⟩]
  refine take_walk rb o T cs gv L K F S got c w hrd hown hgl hL6 _ ?_ ?_ ?_
  · intro w' cs2 g cap L1 K1 F1 S1 hp h5 hc
    exact Or.inr (Or.inl ⟨_, hlen5 h5 hc, rfl, _, _, _, _, _, _, hp.rd, hp.alike, hp.chg⟩)
  · intro w' cs2 g cap L1 K1 F1 S1 hp hd hm
    refine Or.inl ⟨got ++ [c], cs2, _, ?_, rfl, ⟨⟨?_, hp.own, L1, K1, F1, S1, hp.rd, fun h6 => (hd h6).1⟩, hp.alike, hp.chg, hp.fresh _ _⟩⟩
    · unfold step
      simp only
      rw [if_neg, if_pos]
      · by_cases h6 : got.length + 1 < 6
        · exact Or.inl (by omega)
        · right
          rw [(hd (by omega)).1, hl]
          have : (got.length : Int) + 1 < 6 + L1 := by omega
          simpa using this
      · rintro ⟨a, b⟩
        have := hd (by omega)
        apply b
        unfold Hd.code
        rw [this.1]
        exact this.2
    · intro h6
      obtain ⟨e1, e2⟩ := hd h6
      refine ⟨by unfold Hd.code; rw [e1]; exact e2, ?_⟩
      rw [e1, hl]
      simp only
      omega
  · intro w3 w4 w' cs2 g cap L1 K1 F1 S1 bv e hp hd hc hL hb ho hk hf
    have hp4 := hp.below hb
    have hset : Chg (fun k => k = rb) w4 (w4.setCell ⟨rb, o, none⟩ (.slice (some ⟨g, 0, none⟩) 0 cap)) := (Chg.refl (fun k => k = rb) _).setCell (p := ⟨rb, o, none⟩) (Or.inr rfl) _
    have hrd5 := hp4.rd.set0 (.slice (some ⟨g, 0, none⟩) 0 cap)
    have hrd6 := hrd5.chg (Chg.of_below (S := fun _ => False) hf.2) id
    have hal : Alike o cs (cs2.setIfInBounds o (.slice (some ⟨g, 0, none⟩) 0 cap)) := hp4.alike.trans (Alike.set o (by omega) _)
    have hrb := hp.rd.lt
    have hchg : Chg (Touch rb gv) w w' := (hp4.chg.trans (hset.mono fun k _ h => Or.inr (Or.inl h))).then_below hf.2
    have hng := hp4.ne
    have hn1 : ¬ ((got ++ [c]).length = 6 ∧ (hdOf (got ++ [c])).code ≠ 0) := fun h => h.2 (by unfold Hd.code; rw [hd]; exact hc)
    have hL0 := length_nonneg (got ++ [c])
    have hn2 : ¬ ((got ++ [c]).length < 6 ∨ ((got ++ [c]).length : Int) < 6 + (hdOf (got ++ [c])).length) := by
      rw [hd] at hL0 ⊢
      simp only at hL0 ⊢
      rw [hl]
      omega
    have hst : step got c = if bodyCode K1 F1 ((got ++ [c]).drop 6) ≠ 0 then .fault (bodyCode K1 F1 ((got ++ [c]).drop 6)) else .frame ⟨K1, F1, S1, (got ++ [c]).drop 6⟩ := by
      unfold step
      simp only
      rw [if_neg hn1, if_neg hn2, hd]
    rcases hf.1 with ⟨h1, rfl⟩ | ⟨h1, cv, rfl, h2⟩
    · exact Or.inr (Or.inl ⟨_, by rw [hst, if_pos h1], rfl, _, _, _, _, _, _, hrd6, hal, hchg⟩)
    · have hbw : ∀ k, bv.ownBlock = some k → w.heap.size ≤ k := fun k hkk => by
        have := hk k hkk
        have := hp.size
        omega
      have hbg : ∀ k, bv.ownBlock = some k → k ≠ g := fun k hkk e => by
        have h3 := hk k hkk
        have := hp.lt
        omega
      have hb6 := owns_chg (owns_chg ho hset (fun k hkk e => by have := hk k hkk; omega)) (Chg.of_below (S := fun _ => False) hf.2) (fun _ _ => id)
      refine Or.inr (Or.inr ⟨⟨K1, F1, S1, (got ++ [c]).drop 6⟩, bv, cv, _, _, by rw [hst, if_neg (by simpa using h1)], rfl, h2, hb6, hbw, ⟨⟨got_nil, ?_, L1, K1, F1, S1, hrd6, fun h => by simp at h⟩, hal, hchg, hp.fresh _ _⟩, fun k hkk e => hbg k hkk (by simpa [Value.ownBlock] using e.symm)⟩)
      have h0 := owns_chg (owns_chg hp4.own hset (fun k hkk e => by simp [Value.ownBlock] at hkk; omega)) (Chg.of_below (S := fun _ => False) hf.2) (fun _ _ => id)
      refine ⟨rfl, ?_⟩
      rcases h0.2 with ⟨h, _⟩ | ⟨g', cap', cur, h, hbb, hgg, hn, hm, hsz, ht⟩
      · cases h
      · simp only [Value.slice.injEq, Option.some.injEq, Addr.mk.injEq, and_true, true_and] at h
        obtain ⟨rfl, rfl⟩ := h
        exact Or.inr ⟨g, cap, cur, rfl, hbb, hgg, Nat.zero_le _, hm, hsz, by simp⟩
end Go.Proofs.Ytjccnikmcoidhaa
