import Derived.Test.YtdifgcppmnmagaaGreatDoorRGac
import Derived.Test.YtdifgcppmnmagaaGreatDoorRGaa
import Derived.Test.YtdifgcppmnmagaaGreatDoorRGab
import Derived.Defers
import Derived.Recover
set_option linter.unusedVariables false
set_option linter.unusedSimpArgs false
/-
  (*frames.Reader).Take, by what one byte more does.
-/
namespace Go.Proofs.YtdifgcppmnmagaaGreatDoor
open Go.RowKit

/-- A reader without a fault, and what it has gathered, wherever it lies. -/
def RdSG (w : World) (rb o : Nat) (T : TypeId) (cs : Array Value) (gv : Value) (got : List UInt8) : Prop :=
  Got got ∧ w.ownsRow 0 5 1 gv got.length (got.map B) ∧ ∃ L K F S, RdG w rb o T cs gv L K F S ∧ (6 ≤ got.length → hdOf got = ⟨L, K, F, S⟩)
/-- What a call leaves of it. -/
structure LeftG (w w' : World) (rb o : Nat) (T : TypeId) (cs cs' : Array Value) (gv gv' : Value) (got : List UInt8) : Prop where
  st : RdSG w' rb o T cs' gv' got
  alike : Alike o cs cs'
  chg : Chg (Touch rb gv) w w'
  fresh : ∀ k, gv'.ownBlock = some k → gv.ownBlock = some k ∨ w.heap.size ≤ k
/-- The end of a call that gives up. -/
def GaveG (w w' : World) (rb o : Nat) (T : TypeId) (cs : Array Value) (gv : Value) : Prop := ∃ cs' gv' L K F S, RdG w' rb o T cs' gv' L K F S ∧ Alike o cs cs' ∧ Chg (Touch rb gv) w w'

theorem hdOf_append {got : List UInt8} (h : 6 ≤ got.length) (c : UInt8) : hdOf (got ++ [c]) = hdOf got := by
  match got, h with
  | a :: b :: d :: e :: f :: g :: r, _ => rfl

theorem length_nonneg (l : List UInt8) : 0 ≤ (hdOf l).length := by
  unfold hdOf
  split
  · simp only [be2]; omega
  · simp

theorem step_more {got g' : List UInt8} {c : UInt8} (h : step got c = .more g') : g' = got ++ [c] ∧ ¬ ((got ++ [c]).length = 6 ∧ (hdOf (got ++ [c])).code ≠ 0) ∧ ((got ++ [c]).length < 6 ∨ ((got ++ [c]).length : Int) < 6 + (hdOf (got ++ [c])).length) := by
  unfold step at h
  simp only at h
  by_cases a : (got ++ [c]).length = 6 ∧ (hdOf (got ++ [c])).code ≠ 0
  · rw [if_pos a] at h; cases h
  · rw [if_neg a] at h
    by_cases b : (got ++ [c]).length < 6 ∨ ((got ++ [c]).length : Int) < 6 + (hdOf (got ++ [c])).length
    · rw [if_pos b] at h
      simp only [Sum.inl.injEq] at h
      exact ⟨h.symm, a, b⟩
    · rw [if_neg b] at h
      split at h <;> cases h

theorem step_frame {got : List UInt8} {c : UInt8} {f : Fr} (h : step got c = .frame f) :
    f = ⟨(hdOf (got ++ [c])).kind, (hdOf (got ++ [c])).flags, (hdOf (got ++ [c])).stream, (got ++ [c]).drop 6⟩ ∧ ¬ ((got ++ [c]).length = 6 ∧ (hdOf (got ++ [c])).code ≠ 0) ∧ 6 ≤ (got ++ [c]).length ∧
      6 + (hdOf (got ++ [c])).length ≤ ((got ++ [c]).length : Int) ∧ bodyCode (hdOf (got ++ [c])).kind (hdOf (got ++ [c])).flags ((got ++ [c]).drop 6) = 0 := by
  unfold step at h
  simp only at h
  by_cases a : (got ++ [c]).length = 6 ∧ (hdOf (got ++ [c])).code ≠ 0
  · rw [if_pos a] at h; cases h
  · rw [if_neg a] at h
    by_cases b : (got ++ [c]).length < 6 ∨ ((got ++ [c]).length : Int) < 6 + (hdOf (got ++ [c])).length
    · rw [if_pos b] at h; cases h
    · rw [if_neg b] at h
      by_cases d : bodyCode (hdOf (got ++ [c])).kind (hdOf (got ++ [c])).flags ((got ++ [c]).drop 6) = 0
      · rw [if_neg (by simpa using d)] at h
        simp only [Sum.inl.injEq, Sum.inr.injEq] at h
        exact ⟨h.symm, a, by omega, by omega, d⟩
      · rw [if_pos d] at h; cases h

theorem step_fault {got : List UInt8} {c : UInt8} {code : Int} (h : step got c = .fault code) :
    ((got ++ [c]).length = 6 ∧ (hdOf (got ++ [c])).code ≠ 0 ∧ code = (hdOf (got ++ [c])).code) ∨
      (¬ ((got ++ [c]).length = 6 ∧ (hdOf (got ++ [c])).code ≠ 0) ∧ 6 ≤ (got ++ [c]).length ∧ 6 + (hdOf (got ++ [c])).length ≤ ((got ++ [c]).length : Int) ∧
        bodyCode (hdOf (got ++ [c])).kind (hdOf (got ++ [c])).flags ((got ++ [c]).drop 6) ≠ 0 ∧ code = bodyCode (hdOf (got ++ [c])).kind (hdOf (got ++ [c])).flags ((got ++ [c]).drop 6)) := by
  unfold step at h
  simp only at h
  by_cases a : (got ++ [c]).length = 6 ∧ (hdOf (got ++ [c])).code ≠ 0
  · rw [if_pos a] at h
    simp only [Sum.inr.injEq] at h
    exact Or.inl ⟨a.1, a.2, h.symm⟩
  · rw [if_neg a] at h
    by_cases b : (got ++ [c]).length < 6 ∨ ((got ++ [c]).length : Int) < 6 + (hdOf (got ++ [c])).length
    · rw [if_pos b] at h; cases h
    · rw [if_neg b] at h
      by_cases d : bodyCode (hdOf (got ++ [c])).kind (hdOf (got ++ [c])).flags ((got ++ [c]).drop 6) = 0
      · rw [if_neg (by simpa using d)] at h; cases h
      · rw [if_pos d] at h
        simp only [Sum.inr.injEq] at h
        exact Or.inr ⟨a, by omega, by omega, d, h.symm⟩

theorem got_nil : Got [] := fun h => by simp at h
theorem Pushed.fresh {w w2 : World} {rb o : Nat} {T : TypeId} {cs cs2 : Array Value} {gv : Value} {g cap : Nat} {l : List UInt8} {L K F S : Int} (h : Pushed w w2 rb o T cs gv cs2 g cap l L K F S) (n c : Nat) : ∀ k, (Value.slice (some ⟨g, 0, none⟩) n c).ownBlock = some k → gv.ownBlock = some k ∨ w.heap.size ≤ k := fun k hk => by
  simp [Value.ownBlock] at hk; subst hk
  rcases h.old with a | a
  · exact Or.inl a
  · exact Or.inr (by omega)

/-- Take, by what one byte more does. -/
def Took (w w' : World) (rb o : Nat) (T : TypeId) (cs : Array Value) (gv : Value) (got : List UInt8) (c : UInt8) (e : Ending) : Prop :=
  (∃ g' cs' gv', step got c = .more g' ∧ e = .returned (.tuple #[.nilIface, .bool false]) ∧ LeftG w w' rb o T cs cs' gv gv' g') ∨
  (∃ code, step got c = .fault code ∧ e = .panicked [{ v := .iface 83 (.int .i64 code), recovered := false }] ∧ GaveG w w' rb o T cs gv) ∨
  (∃ f bv cv cs' gv', step got c = .frame f ∧ e = .returned (.tuple #[frV f.kind f.flags f.stream bv cv f.body, .bool true]) ∧ (f.kind = 0 → ContV f.flags bv cv f.body) ∧
    w'.ownsRow 0 5 1 bv f.body.length (f.body.map B) ∧ (∀ k, bv.ownBlock = some k → w.heap.size ≤ k) ∧ LeftG w w' rb o T cs cs' gv gv' [] ∧ (∀ k, bv.ownBlock = some k → gv'.ownBlock ≠ some k))

theorem take_any (rb o : Nat) (T : TypeId) (cs : Array Value) (gv : Value) (got : List UInt8) (c : UInt8) (w : World) (hr : RdSG w rb o T cs gv got) :
    Calls Tryz.prog 70 #[.pointer (some ⟨rb, o, none⟩), .int .u8 c.toNat] w fun e w' => Took w w' rb o T cs gv got c e := by
  obtain ⟨hg, hown, L, K, F, S, hrd, hh⟩ := hr
  have hl : (got ++ [c]).length = got.length + 1 := by simp
  have hL6 : 6 ≤ got.length → hdOf (got ++ [c]) = ⟨L, K, F, S⟩ ∧ headCode L K F S = 0 ∧ (got.length : Int) < 6 + L := fun h6 => by
    have h1 := hg h6
    have h2 := hh h6
    rw [h2] at h1
    exact ⟨by rw [hdOf_append h6, h2], h1.1, h1.2⟩
  have hgl : got.length ≤ 70 := by
    by_cases h6 : 6 ≤ got.length
    · have h1 := hL6 h6
      have := (headCode_zero h1.2.1).2.2.1
      omega
    · omega
  have hlen5 : got.length = 5 → (hdOf (got ++ [c])).code ≠ 0 → step got c = .fault (hdOf (got ++ [c])).code := fun h5 hc => by
    unfold step
    simp only
    rw [if_pos ⟨by omega, hc⟩]
  refine take_walk rb o T cs gv L K F S got c w hrd hown hgl hL6 _ ?_ ?_ ?_
  · intro w' cs2 g cap L1 K1 F1 S1 hp h5 hc
    exact Or.inr (Or.inl ⟨_, hlen5 h5 hc, rfl, _, _, _, _, _, _, hp.rd, hp.alike, hp.chg⟩)
  · intro w' cs2 g cap L1 K1 F1 S1 hp hd hm
    refine Or.inl ⟨got ++ [c], cs2, _, ?_, rfl, ⟨⟨?_, hp.own, L1, K1, F1, S1, hp.rd, fun h6 => (hd h6).1⟩, hp.alike, hp.chg, hp.fresh _ _⟩⟩
    · unfold step
      simp only
      rw [if_neg, if_pos]
      · by_cases h6 : got.length + 1 < 6
        · exact Or.inl (by omega)
        · right
          rw [(hd (by omega)).1, hl]
          have : (got.length : Int) + 1 < 6 + L1 := by omega
          simpa using this
      · rintro ⟨a, b⟩
        have := hd (by omega)
        apply b
        unfold Hd.code
        rw [this.1]
        exact this.2
    · intro h6
      obtain ⟨e1, e2⟩ := hd h6
      refine ⟨by unfold Hd.code; rw [e1]; exact e2, ?_⟩
      rw [e1, hl]
      simp only
      omega
  · intro w3 w4 w' cs2 g cap L1 K1 F1 S1 bv e hp hd hc hL hb ho hk hf
    have hp4 := hp.below hb
    have hset : Chg (fun k => k = rb) w4 (w4.setCell ⟨rb, o, none⟩ (.slice (some ⟨g, 0, none⟩) 0 cap)) := (Chg.refl (fun k => k = rb) _).setCell (p := ⟨rb, o, none⟩) (Or.inr rfl) _
    have hrd5 := hp4.rd.set0 (.slice (some ⟨g, 0, none⟩) 0 cap)
    have hrd6 := hrd5.chg (Chg.of_below (S := fun _ => False) hf.2) id
    have hal : Alike o cs (cs2.setIfInBounds o (.slice (some ⟨g, 0, none⟩) 0 cap)) := hp4.alike.trans (Alike.set o (by omega) _)
    have hrb := hp.rd.lt
    have hchg : Chg (Touch rb gv) w w' := (hp4.chg.trans (hset.mono fun k _ h => Or.inr (Or.inl h))).then_below hf.2
    have hng := hp4.ne
    have hn1 : ¬ ((got ++ [c]).length = 6 ∧ (hdOf (got ++ [c])).code ≠ 0) := fun h => h.2 (by unfold Hd.code; rw [hd]; exact hc)
    have hL0 := length_nonneg (got ++ [c])
    have hn2 : ¬ ((got ++ [c]).length < 6 ∨ ((got ++ [c]).length : Int) < 6 + (hdOf (got ++ [c])).length) := by
      rw [hd] at hL0 ⊢
      simp only at hL0 ⊢
      rw [hl]
      omega
    have hst : step got c = if bodyCode K1 F1 ((got ++ [c]).drop 6) ≠ 0 then .fault (bodyCode K1 F1 ((got ++ [c]).drop 6)) else .frame ⟨K1, F1, S1, (got ++ [c]).drop 6⟩ := by
      unfold step
      simp only
      rw [if_neg hn1, if_neg hn2, hd]
    rcases hf.1 with ⟨h1, rfl⟩ | ⟨h1, cv, rfl, h2⟩
    · exact Or.inr (Or.inl ⟨_, by rw [hst, if_pos h1], rfl, _, _, _, _, _, _, hrd6, hal, hchg⟩)
    · have hbw : ∀ k, bv.ownBlock = some k → w.heap.size ≤ k := fun k hkk => by
        have := hk k hkk
        have := hp.size
        omega
      have hbg : ∀ k, bv.ownBlock = some k → k ≠ g := fun k hkk e => by
        have h3 := hk k hkk
        have := hp.lt
        omega
      have hb6 := owns_chg (owns_chg ho hset (fun k hkk e => by have := hk k hkk; omega)) (Chg.of_below (S := fun _ => False) hf.2) (fun _ _ => id)
      refine Or.inr (Or.inr ⟨⟨K1, F1, S1, (got ++ [c]).drop 6⟩, bv, cv, _, _, by rw [hst, if_neg (by simpa using h1)], rfl, h2, hb6, hbw, ⟨⟨got_nil, ?_, L1, K1, F1, S1, hrd6, fun h => by simp at h⟩, hal, hchg, hp.fresh _ _⟩, fun k hkk e => hbg k hkk (by simpa [Value.ownBlock] using e.symm)⟩)
      have h0 := owns_chg (owns_chg hp4.own hset (fun k hkk e => by simp [Value.ownBlock] at hkk; omega)) (Chg.of_below (S := fun _ => False) hf.2) (fun _ _ => id)
      refine ⟨rfl, ?_⟩
      rcases h0.2 with ⟨h, _⟩ | ⟨g', cap', cur, h, hbb, hgg, hn, hm, hsz, ht⟩
      · cases h
      · simp only [Value.slice.injEq, Option.some.injEq, Addr.mk.injEq, and_true, true_and] at h
        obtain ⟨rfl, rfl⟩ := h
        exact Or.inr ⟨g, cap, cur, rfl, hbb, hgg, Nat.zero_le _, hm, hsz, by simp⟩
end Go.Proofs.YtdifgcppmnmagaaGreatDoor
/-
  (*frames.Reader).Take of a sluice.Reader.
-/
namespace Go.Proofs.YtdifgcppmnmagaaGreatDoor
open Go.RowKit

/-- A reader without a fault, and what it has gathered. -/
def RdS (w : World) (rb : Nat) (gv : Value) (got : List UInt8) : Prop :=
  Got got ∧ w.ownsRow 0 5 1 gv got.length (got.map B) ∧ ∃ L K F S, RdB w rb gv L K F S 0 ∧ (6 ≤ got.length → hdOf got = ⟨L, K, F, S⟩)

/-- What a call leaves of the reader. -/
structure Left (w w' : World) (rb : Nat) (gv gv' : Value) (got : List UInt8) : Prop where
  st : RdS w' rb gv' got
  chg : Chg (Touch rb gv) w w'
  fresh : ∀ k, gv'.ownBlock = some k → gv.ownBlock = some k ∨ w.heap.size ≤ k

/-- The end of a call that gives up. -/
def Gave (w w' : World) (rb : Nat) (gv : Value) : Prop := ∃ gv' L K F S, RdB w' rb gv' L K F S 0 ∧ Chg (Touch rb gv) w w'

theorem RdB.gen {w : World} {rb : Nat} {gv : Value} {L K F S c : Int} (h : RdB w rb gv L K F S c) : RdG w rb 0 163 #[gv, .int .i64 L, .int .i64 K, .int .i64 F, .int .i64 S, .int .i64 c] gv L K F S := ⟨h, by decide, rfl, rfl, rfl, rfl, rfl⟩
theorem RdG.back {w : World} {rb : Nat} {cs cs' : Array Value} {gv : Value} {L K F S c : Int} (h : RdG w rb 0 163 cs' gv L K F S) (ha : Alike 0 cs cs') (hc : cs.size = 6) (h5 : cs[5]? = some (.int .i64 c)) : RdB w rb gv L K F S c := by
  have e5 : cs'[5]? = some (.int .i64 c) := by rw [ha.2 5 (by omega)]; exact h5
  have e : cs' = #[gv, .int .i64 L, .int .i64 K, .int .i64 F, .int .i64 S, .int .i64 c] := by
    apply Array.ext_getElem?
    intro i
    have hsz : cs'.size = 6 := ha.1.trans hc
    match i with
    | 0 => exact h.c0
    | 1 => exact h.c1
    | 2 => exact h.c2
    | 3 => exact h.c3
    | 4 => exact h.c4
    | 5 => exact e5
    | i + 6 => rw [Array.getElem?_eq_none (by omega), Array.getElem?_eq_none (by simp)]
  unfold RdB
  rw [← e]
  exact h.blk
theorem RdS.gen {w : World} {rb : Nat} {gv : Value} {got : List UInt8} (h : RdS w rb gv got) : ∃ cs, RdSG w rb 0 163 cs gv got ∧ cs.size = 6 ∧ cs[5]? = some (.int .i64 0) := by
  obtain ⟨a, b, L, K, F, S, c, d⟩ := h
  exact ⟨_, ⟨a, b, L, K, F, S, c.gen, d⟩, rfl, rfl⟩
theorem LeftG.back {w w' : World} {rb : Nat} {cs cs' : Array Value} {gv gv' : Value} {got : List UInt8} (h : LeftG w w' rb 0 163 cs cs' gv gv' got) (hc : cs.size = 6) (h5 : cs[5]? = some (.int .i64 0)) : Left w w' rb gv gv' got := by
  obtain ⟨a, b, L, K, F, S, c, d⟩ := h.st
  exact ⟨⟨a, b, L, K, F, S, c.back h.alike hc h5, d⟩, h.chg, h.fresh⟩

theorem take_more_any (rb : Nat) (gv : Value) (got g' : List UInt8) (c : UInt8) (w : World) (hr : RdS w rb gv got) (hs : step got c = .more g') :
    Calls Tryz.prog 70 #[.pointer (some ⟨rb, 0, none⟩), .int .u8 c.toNat] w fun e w' => e = .returned (.tuple #[.nilIface, .bool false]) ∧ ∃ gv', Left w w' rb gv gv' g' := by
  obtain ⟨cs, h1, h2, h3⟩ := hr.gen
  refine (take_any rb 0 163 cs gv got c w h1).mono ?_
  rintro e w' (⟨g2, cs', gv', e1, e2, e3⟩ | ⟨code, e1, _⟩ | ⟨f, _, _, _, _, e1, _⟩)
  · rw [hs] at e1
    simp only [Sum.inl.injEq] at e1
    subst e1
    exact ⟨e2, gv', e3.back h2 h3⟩
  · rw [hs] at e1; cases e1
  · rw [hs] at e1; cases e1

theorem take_fault_any (rb : Nat) (gv : Value) (got : List UInt8) (c : UInt8) (code : Int) (w : World) (hr : RdS w rb gv got) (hs : step got c = .fault code) :
    Calls Tryz.prog 70 #[.pointer (some ⟨rb, 0, none⟩), .int .u8 c.toNat] w fun e w' => e = .panicked [{ v := .iface 83 (.int .i64 code), recovered := false }] ∧ Gave w w' rb gv := by
  obtain ⟨cs, h1, h2, h3⟩ := hr.gen
  refine (take_any rb 0 163 cs gv got c w h1).mono ?_
  rintro e w' (⟨g2, cs', gv', e1, e2, e3⟩ | ⟨code', e1, e2, cs', gv', L, K, F, S, e3, e4, e5⟩ | ⟨f, _, _, _, _, e1, _⟩)
  · rw [hs] at e1; cases e1
  · rw [hs] at e1
    simp only [Sum.inr.injEq] at e1
    subst e1
    exact ⟨e2, gv', L, K, F, S, e3.back e4 h2 h3, e5⟩
  · rw [hs] at e1; cases e1

theorem take_frame_any (rb : Nat) (gv : Value) (got : List UInt8) (c : UInt8) (f : Fr) (w : World) (hr : RdS w rb gv got) (hs : step got c = .frame f) :
    Calls Tryz.prog 70 #[.pointer (some ⟨rb, 0, none⟩), .int .u8 c.toNat] w fun e w' => ∃ bv cv gv', e = .returned (.tuple #[frV f.kind f.flags f.stream bv cv f.body, .bool true]) ∧
      w'.ownsRow 0 5 1 bv f.body.length (f.body.map B) ∧ (∀ k, bv.ownBlock = some k → w.heap.size ≤ k) ∧ Left w w' rb gv gv' [] ∧ (∀ k, bv.ownBlock = some k → gv'.ownBlock ≠ some k) := by
  obtain ⟨cs, h1, h2, h3⟩ := hr.gen
  refine (take_any rb 0 163 cs gv got c w h1).mono ?_
  rintro e w' (⟨g2, cs', gv', e1, e2, e3⟩ | ⟨code', e1, _⟩ | ⟨f', bv, cv, cs', gv', e1, e2, e3, e4, e5, e6, e7⟩)
  · rw [hs] at e1; cases e1
  · rw [hs] at e1; cases e1
  · rw [hs] at e1
    simp only [Sum.inl.injEq, Sum.inr.injEq] at e1
    subst e1
    exact ⟨bv, cv, gv', e2, e4, e5, e6.back h2 h3, e7⟩

end Go.Proofs.YtdifgcppmnmagaaGreatDoor
/-
  Feed's deferred literal: behind a panic it lays the fault down; else it does nothing.
-/
namespace Go.Proofs.YtdifgcppmnmagaaGreatDoor
open Go.RowKit

set_option maxRecDepth 100000 in
set_option maxHeartbeats 400000 in
theorem faultOf_any (c : Int) (w : World) :
    Calls Tryz.prog 69 #[.iface 83 (.int .i64 c)] w fun e w' => e = .returned (.int .i64 c) ∧ w' = w := by
  have hta : ∀ (c : Int) (w : World), (Instr.typeAssert (.iface 83 (.int .i64 c)) 20 83 false).run Tryz.prog w = .ok (.int .i64 c) w := fun _ _ => by kernel_rfl
  go_enter Tryz.func69, Tryz.ntmps69
  go_wp2
  go_ret
  exact ⟨rfl, rfl⟩

set_option maxRecDepth 100000 in
set_option maxHeartbeats 400000 in
theorem clos_idle (fa ra : Nat) (w : World) :
    CallsD Tryz.prog 68 #[.pointer (some ⟨fa, 0, none⟩), .pointer (some ⟨ra, 0, none⟩)] .returning w fun e u' w' => e = .returned (.tuple #[]) ∧ u' = .returning ∧ w' = w := by
  refine callsD_of_wpS Tryz.func68 rfl fun c₀ cs hu => ?_
  apply wpS_seq
  apply wpS_region
  simp [wpOpsS, go_sem, recoverD, hu, Tryz.ntmps68, Exit.thenS]
  refine wpS_of_wp ?_
  change Code.wp Tryz.prog _ _ ⟨#[.pointer (some ⟨fa, 0, none⟩), .pointer (some ⟨ra, 0, none⟩), .nilIface, .nilIface, undef, undef, undef, undef, undef, undef, undef, undef], []⟩ w
  go_wp2
  cases c₀
  simp_all [bodyPostS, results, Tryz.results68]

/-- The reader's block, overwritten. -/
def wiped (w : World) (fa rb : Nat) (c : Int) : World :=
  ((((((w.setCell ⟨fa, 0, none⟩ (.int .i64 c)).setCell ⟨rb, 0, none⟩ (.slice none 0 0)).setCell ⟨rb, 1, none⟩ (.int .i64 0)).setCell ⟨rb, 2, none⟩ (.int .i64 0)).setCell ⟨rb, 3, none⟩ (.int .i64 0)).setCell ⟨rb, 4, none⟩ (.int .i64 0)).setCell ⟨rb, 5, none⟩ (.int .i64 c)

set_option maxRecDepth 100000 in
set_option maxHeartbeats 400000 in
theorem clos_panic (fa ra rb : Nat) (c : Int) (older : List PanicEntry) (w : World) (hf : w.heap[fa]? = some (.cells #[.int .i64 0] 83 (0, 0))) (hra : w.cell? ⟨ra, 0, none⟩ = some (.pointer (some ⟨rb, 0, none⟩)))
    (gv : Value) (L K F S c0 : Int) (hr : RdB w rb gv L K F S c0) (h1 : fa ≠ ra) (h2 : fa ≠ rb) :
    CallsD Tryz.prog 68 #[.pointer (some ⟨fa, 0, none⟩), .pointer (some ⟨ra, 0, none⟩)] (.panicking ({ v := .iface 83 (.int .i64 c), recovered := false } :: older)) w fun e u' w' =>
      e = .returned (.tuple #[]) ∧ u' = .panicking ({ v := .iface 83 (.int .i64 c), recovered := true } :: older) ∧ w' = wiped w fa rb c := by
  obtain ⟨c0, c1, c2, c3, c4, c5⟩ := hr.cells
  have f0 := hr.free 0
  have f1 := hr.free 1
  have f2 := hr.free 2
  have f3 := hr.free 3
  have f4 := hr.free 4
  have f5 := hr.free 5
  have cf := cell_of_one hf
  have ff := free_of_one hf
  clear hf hr
  unfold wiped
  refine callsD_of_wpS Tryz.func68 rfl fun c₀ cs hu => ?_
  apply wpS_seq
  apply wpS_region
  simp [wpOpsS, go_sem, recoverD, hu, Tryz.ntmps68, Exit.thenS]
  refine wpS_of_wp ?_
  change Code.wp Tryz.prog _ _ ⟨#[.pointer (some ⟨fa, 0, none⟩), .pointer (some ⟨ra, 0, none⟩), .iface 83 (.int .i64 c), .iface 83 (.int .i64 c), undef, undef, undef, undef, undef, undef, undef, undef], []⟩ w
  go_wp2_with (go_at_call 69; refine (faultOf_any _ _).mono ?_; rintro e w' ⟨rfl, rfl⟩)
  exact ⟨rfl, _, rfl, .tuple #[], by simp [results, Tryz.results68], rfl, rfl, rfl⟩
end Go.Proofs.YtdifgcppmnmagaaGreatDoor
/-
  Frames that a reader tells, in memory.
-/
namespace Go.Proofs.YtdifgcppmnmagaaGreatDoor
open Go.RowKit

theorem Tryz.info56 : (Tryz.prog.info? 56).map (fun i => (i.zero, i.size, i.bytes)) = some (some (.agg #[.int .i64 0, .int .i64 0, .int .i64 0, .slice none 0 0]), 4, 48) := by kernel_rfl

/-- The cells of frames, each with the value of its body. -/
def cellsOf : List (Fr × Value) → List Value
  | [] => []
  | p :: r => .int .i64 p.1.kind :: .int .i64 p.1.flags :: .int .i64 p.1.stream :: p.2 :: cellsOf r

theorem cellsOf_length (ps : List (Fr × Value)) : (cellsOf ps).length = ps.length * 4 := by
  induction ps with
  | nil => rfl
  | cons p r ih => simp [cellsOf, ih]; omega
theorem cellsOf_append (a b : List (Fr × Value)) : cellsOf (a ++ b) = cellsOf a ++ cellsOf b := by
  induction a with
  | nil => rfl
  | cons p r ih => simp [cellsOf, ih]

/-- The blocks of the bodies. -/
def bodyBlocks (ps : List (Fr × Value)) : List Nat := ps.filterMap (fun p => p.2.ownBlock)

theorem bodyBlocks_append (a b : List (Fr × Value)) : bodyBlocks (a ++ b) = bodyBlocks a ++ bodyBlocks b := by simp [bodyBlocks]
theorem mem_bodyBlocks {ps : List (Fr × Value)} {k : Nat} : k ∈ bodyBlocks ps ↔ ∃ p ∈ ps, p.2.ownBlock = some k := by simp [bodyBlocks]

/-- A list of frames that the program has made, from block lo on; no two bodies share a block. -/
structure FrsOwn (w : World) (lo : Nat) (v : Value) (ps : List (Fr × Value)) : Prop where
  row : w.ownsRow lo 56 4 v ps.length (cellsOf ps)
  body : ∀ p ∈ ps, w.ownsRow lo 5 1 p.2 p.1.body.length (p.1.body.map B)
  nodup : (bodyBlocks ps).Nodup

theorem FrsOwn.nil (w : World) (lo : Nat) : FrsOwn w lo (.slice none 0 0) [] := ⟨World.ownsRow_nil _ _ _ _, by simp, by simp [bodyBlocks]⟩

theorem FrsOwn.chg {S : Nat → Prop} {w w' : World} {lo : Nat} {v : Value} {ps : List (Fr × Value)} (h : FrsOwn w lo v ps) (hc : Chg S w w') (hs : ∀ k, lo ≤ k → k < w.heap.size → ¬ S k) : FrsOwn w' lo v ps :=
  ⟨owns_chg h.row hc (fun k hk => hs k (h.row.lt k hk).1 (h.row.lt k hk).2), fun p hp => owns_chg (h.body p hp) hc (fun k hk => hs k ((h.body p hp).lt k hk).1 ((h.body p hp).lt k hk).2), h.nodup⟩
/-- .. where neither the row nor a body is touched. -/
theorem FrsOwn.chg' {S : Nat → Prop} {w w' : World} {lo : Nat} {v : Value} {ps : List (Fr × Value)} (h : FrsOwn w lo v ps) (hc : Chg S w w') (h1 : ∀ k, v.ownBlock = some k → ¬ S k) (h2 : ∀ k ∈ bodyBlocks ps, ¬ S k) : FrsOwn w' lo v ps :=
  ⟨owns_chg h.row hc h1, fun p hp => owns_chg (h.body p hp) hc (fun k hk => h2 k (mem_bodyBlocks.2 ⟨p, hp, hk⟩)), h.nodup⟩
theorem FrsOwn.blocks {w : World} {lo : Nat} {v : Value} {ps : List (Fr × Value)} (h : FrsOwn w lo v ps) {k : Nat} (hk : k ∈ bodyBlocks ps) : lo ≤ k ∧ k < w.heap.size := by
  obtain ⟨p, hp, e⟩ := mem_bodyBlocks.1 hk
  exact (h.body p hp).lt k e

/-- A reader, with a fault or without. -/
def RdT (w : World) (rb : Nat) (gv : Value) (r : Rd) : Prop :=
  (r.code = 0 ∧ RdS w rb gv r.got) ∨ (r.code ≠ 0 ∧ gv = .slice none 0 0 ∧ r.got = [] ∧ RdB w rb gv 0 0 0 0 r.code)

theorem wiped_rd {w : World} {fa rb : Nat} {c : Int} {gv : Value} {L K F S c0 : Int} (h : RdB w rb gv L K F S c0) (hne : fa ≠ rb) : RdB (wiped w fa rb c) rb (.slice none 0 0) 0 0 0 0 c := by
  have h0 : RdB (w.setCell ⟨fa, 0, none⟩ (.int .i64 c)) rb gv L K F S c0 := by
    unfold RdB; rw [Below.heap_setCell _ _ _ _ (by simp; omega)]; exact h
  have h1 := block_setCell (i := 0) (u := .slice none 0 0) h0
  have h2 := block_setCell (i := 1) (u := .int .i64 0) h1
  have h3 := block_setCell (i := 2) (u := .int .i64 0) h2
  have h4 := block_setCell (i := 3) (u := .int .i64 0) h3
  have h5 := block_setCell (i := 4) (u := .int .i64 0) h4
  have h6 := block_setCell (i := 5) (u := .int .i64 c) h5
  exact h6
theorem wiped_chg (w : World) (fa rb : Nat) (c : Int) : Chg (fun k => k = fa ∨ k = rb) w (wiped w fa rb c) := by
  unfold wiped
  exact (((((((Chg.refl (fun k => k = fa ∨ k = rb) w).setCell (p := ⟨fa, 0, none⟩) (Or.inr (Or.inl rfl)) _).setCell (p := ⟨rb, 0, none⟩) (Or.inr (Or.inr rfl)) _).setCell (p := ⟨rb, 1, none⟩) (Or.inr (Or.inr rfl)) _).setCell (p := ⟨rb, 2, none⟩) (Or.inr (Or.inr rfl)) _).setCell (p := ⟨rb, 3, none⟩) (Or.inr (Or.inr rfl)) _).setCell (p := ⟨rb, 4, none⟩) (Or.inr (Or.inr rfl)) _).setCell (p := ⟨rb, 5, none⟩) (Or.inr (Or.inr rfl)) _
theorem wiped_fa {w : World} {fa rb : Nat} {c : Int} {t : TypeId} {v : Value} (h : w.heap[fa]? = some (.cells #[v] t (0, 0))) (hne : fa ≠ rb) : (wiped w fa rb c).cell? ⟨fa, 0, none⟩ = some (.int .i64 c) := by
  unfold wiped
  have h1 := one_setCell (u := .int .i64 c) h
  have hc : Chg (fun k => k = rb) (w.setCell ⟨fa, 0, none⟩ (.int .i64 c)) (wiped w fa rb c) := by
    unfold wiped
    exact ((((((Chg.refl (fun k => k = rb) _).setCell (p := ⟨rb, 0, none⟩) (Or.inr rfl) _).setCell (p := ⟨rb, 1, none⟩) (Or.inr rfl) _).setCell (p := ⟨rb, 2, none⟩) (Or.inr rfl) _).setCell (p := ⟨rb, 3, none⟩) (Or.inr rfl) _).setCell (p := ⟨rb, 4, none⟩) (Or.inr rfl) _).setCell (p := ⟨rb, 5, none⟩) (Or.inr rfl) _
  have := hc.cell (p := ⟨fa, 0, none⟩) (lt_of_block h1) (by simp; omega)
  unfold wiped at this
  rw [this]
  exact cell_of_one h1
end Go.Proofs.YtdifgcppmnmagaaGreatDoor
/-
  What holds at every round of Feed's loop, and what a round does to it.
-/
namespace Go.Proofs.YtdifgcppmnmagaaGreatDoor
open Go.RowKit
set_option linter.unusedVariables false

/-- The two variables that Feed lays down. -/
structure Vars (w0 : Nat) (wr : World) (rb : Nat) : Prop where
  r : wr.heap[w0]? = some (.cells #[.pointer (some ⟨rb, 0, none⟩)] 92 (0, 0))
  f : wr.heap[w0 + 1]? = some (.cells #[.int .i64 0] 83 (0, 0))

theorem Vars.chg {S : Nat → Prop} {w0 : Nat} {w w' : World} {rb : Nat} (h : Vars w0 w rb) (hc : Chg S w w') (h1 : ¬ S w0) (h2 : ¬ S (w0 + 1)) : Vars w0 w' rb :=
  ⟨by rw [hc.block w0 (lt_of_block h.r) h1]; exact h.r, by rw [hc.block (w0 + 1) (lt_of_block h.f) h2]; exact h.f⟩

structure FeedRel (w : World) (rb : Nat) (gv : Value) (got l : List UInt8) (k : Nat) (v : Value) (wr : World) (ps : List (Fr × Value)) (gv' : Value) (got' : List UInt8) : Prop where
  le : k ≤ l.length
  st : RdS wr rb gv' got'
  frs : FrsOwn wr w.heap.size v ps
  eq : feed got l = (ps.map Prod.fst ++ (feed got' (l.drop k)).1, (feed got' (l.drop k)).2)
  chg : Chg (Touch rb gv) w wr
  fresh : ∀ j, gv'.ownBlock = some j → gv.ownBlock = some j ∨ w.heap.size ≤ j
  apart : ∀ j ∈ bodyBlocks ps, gv'.ownBlock ≠ some j
  vars : Vars w.heap.size wr rb
  few : ps.length ≤ k

theorem RdS.own {w : World} {rb : Nat} {gv : Value} {got : List UInt8} (h : RdS w rb gv got) : w.ownsRow 0 5 1 gv got.length (got.map B) := h.2.1
theorem RdS.chg {S : Nat → Prop} {w w' : World} {rb : Nat} {gv : Value} {got : List UInt8} (h : RdS w rb gv got) (hc : Chg S w w') (h1 : ¬ S rb) (h2 : ∀ k, gv.ownBlock = some k → ¬ S k) : RdS w' rb gv got := by
  obtain ⟨a, b, L, K, F, S', d, e⟩ := h
  exact ⟨a, owns_chg b hc h2, L, K, F, S', d.chg hc h1, e⟩
theorem RdS.rd {w : World} {rb : Nat} {gv : Value} {got : List UInt8} (h : RdS w rb gv got) : ∃ L K F S, RdB w rb gv L K F S 0 := by
  obtain ⟨_, _, L, K, F, S', d, _⟩ := h
  exact ⟨L, K, F, S', d⟩

section
variable {w : World} {rb : Nat} {gv : Value} {got l : List UInt8} {k : Nat} {v : Value} {wr : World} {ps : List (Fr × Value)} {gv' : Value} {got' : List UInt8}

theorem FeedRel.rlt (h : FeedRel w rb gv got l k v wr ps gv' got') (hrb : rb < w.heap.size) (hv : gv.ownBlock ≠ some w.heap.size) : w.heap.size + 1 < wr.heap.size := lt_of_block h.vars.f

/-- What was told is not touched by a call on the reader. -/
theorem FeedRel.touch (h : FeedRel w rb gv got l k v wr ps gv' got') (hrb : rb < w.heap.size) {w1 : World} (hc : Chg (Touch rb gv') wr w1) : FrsOwn w1 w.heap.size v ps ∧ Vars w.heap.size w1 rb ∧ Chg (Touch rb gv) w w1 := by
  refine ⟨h.frs.chg' hc ?_ ?_, h.vars.chg hc ?_ ?_, h.chg.trans (hc.mono ?_)⟩
  · rintro j hj (rfl | e)
    · have := (h.frs.row.lt _ hj).1; omega
    · exact rows_ne h.frs.row h.st.own (by decide) hj e
  · rintro j hj (rfl | e)
    · have := (h.frs.blocks hj).1; omega
    · exact h.apart j hj e
  · rintro (e | e)
    · omega
    · exact owns_ne h.st.own h.vars.r (by decide) e
  · rintro (e | e)
    · omega
    · exact owns_ne h.st.own h.vars.f (by decide) e
  · rintro j _ (rfl | e)
    · exact Or.inr (Or.inl rfl)
    · rcases h.fresh j e with a | a
      · exact Or.inr (Or.inr a)
      · exact Or.inl a

theorem FeedRel.more (h : FeedRel w rb gv got l k v wr ps gv' got') (hrb : rb < w.heap.size) (hk : k < l.length) {g' : List UInt8} (hs : step got' (l.getD k 0) = .more g') {w1 : World} {gv'' : Value} (hl : Left wr w1 rb gv' gv'' g') :
    FeedRel w rb gv got l (k + 1) v w1 ps gv'' g' := by
  obtain ⟨h1, h2, h3⟩ := h.touch hrb hl.chg
  refine ⟨hk, hl.st, h1, ?_, h3, ?_, ?_, h2, ?_⟩
  · rw [h.eq, drop_cons hk]; simp only [feed, hs]
  · intro j hj
    rcases hl.fresh j hj with a | a
    · exact h.fresh j a
    · exact Or.inr (by have := h.chg.size; omega)
  · intro j hj e
    rcases hl.fresh j e with a | a
    · exact h.apart j hj a
    · have := (h.frs.blocks hj).2; omega
  · have := h.few; omega

theorem FeedRel.frame (h : FeedRel w rb gv got l k v wr ps gv' got') (hrb : rb < w.heap.size) (hk : k < l.length) {f : Fr} (hs : step got' (l.getD k 0) = .frame f) {w1 w2 : World} {bv gv'' v' : Value} (hl : Left wr w1 rb gv' gv'' [])
    (hb : w1.ownsRow 0 5 1 bv f.body.length (f.body.map B)) (hbf : ∀ j, bv.ownBlock = some j → wr.heap.size ≤ j) (hne : ∀ j, bv.ownBlock = some j → gv''.ownBlock ≠ some j) {o2 : Obj} {wp : World} (hbp : Below w1.heap.size w1 wp)
    (hown : w2.ownsRow 0 56 4 v' (ps.length + 1) (cellsOf ps ++ cellsOf [(f, bv)])) (hg : (wp.alloc o2).grownBy w2 v.ownBlock) (hfr : v'.ownBlock = v.ownBlock ∨ v'.ownBlock = some (wp.heap.size + 1)) :
    FeedRel w rb gv got l (k + 1) v' w2 (ps ++ [(f, bv)]) gv'' [] := by
  obtain ⟨h1, h2, h3⟩ := h.touch hrb hl.chg
  have hsz := hl.chg.size
  have hsz0 := h.chg.size
  have hsz2 := hg.size
  simp only [World.size_alloc] at hsz2
  have hszp := hbp.size
  have hc : Chg (fun j => v.ownBlock = some j) w1 w2 := Chg.trans ((Chg.of_below hbp).alloc o2) (Chg.of_grown hg (fun j hj => Or.inr hj))
  have hv : ∀ j, v.ownBlock = some j → w.heap.size ≤ j := fun j hj => (h1.row.lt j hj).1
  have hb1 : ∀ j, bv.ownBlock = some j → v.ownBlock ≠ some j := fun j hj e => rows_ne h1.row hb (by decide) e hj
  have hg1 : ∀ j, gv''.ownBlock = some j → v.ownBlock ≠ some j := fun j hj e => rows_ne h1.row hl.st.own (by decide) e hj
  have hps : ∀ p ∈ ps, w2.ownsRow w.heap.size 5 1 p.2 p.1.body.length (p.1.body.map B) := fun p hp => owns_chg (h1.body p hp) hc (fun j hj e => rows_ne h1.row (h1.body p hp) (by decide) e hj)
  refine ⟨hk, hl.st.chg hc (fun e => by have := hv rb e; omega) hg1, ⟨?_, ?_, ?_⟩, ?_, h3.trans (hc.mono (fun j _ hj => Or.inl (hv j hj))), ?_, ?_, h2.chg hc ?_ ?_, ?_⟩
  · rw [cellsOf_append]
    simp only [List.length_append, List.length_cons, List.length_nil, Nat.zero_add]
    refine owns_base hown (fun j hj => ?_)
    rcases hfr with e | e
    · rw [e] at hj; exact hv j hj
    · rw [e] at hj; simp at hj; omega
  · intro p hp
    rcases List.mem_append.1 hp with hp | hp
    · exact hps p hp
    · simp at hp; subst hp
      exact owns_base (owns_chg hb hc hb1) (fun j hj => by have := hbf j hj; omega)
  · rw [bodyBlocks_append, List.nodup_append]
    refine ⟨h.frs.nodup, ?_, ?_⟩
    · unfold bodyBlocks
      cases e : bv.ownBlock <;> simp [e]
    · intro a ha b hb' e
      subst e
      obtain ⟨p, hp, e⟩ := mem_bodyBlocks.1 hb'
      simp at hp; subst hp
      have := hbf a e
      have := (h.frs.blocks ha).2
      omega
  · rw [h.eq, drop_cons hk]
    simp only [feed, hs, List.map_append, List.map_cons, List.map_nil, List.append_assoc, List.cons_append, List.nil_append]
  · intro j hj
    rcases hl.fresh j hj with a | a
    · exact h.fresh j a
    · exact Or.inr (by omega)
  · intro j hj e
    rw [bodyBlocks_append] at hj
    rcases List.mem_append.1 hj with hj | hj
    · rcases hl.fresh j e with a | a
      · exact h.apart j hj a
      · have := (h.frs.blocks hj).2; omega
    · obtain ⟨p, hp, e'⟩ := mem_bodyBlocks.1 hj
      simp at hp; subst hp
      exact hne j e' e
  · exact fun e => owns_ne h1.row h2.r (by decide) e
  · exact fun e => owns_ne h1.row h2.f (by decide) e
  · have := h.few; simp; omega
end
end Go.Proofs.YtdifgcppmnmagaaGreatDoor
/-
  (*sluice.Reader).Feed.
-/
namespace Go.Proofs.YtdifgcppmnmagaaGreatDoor
open Go.RowKit
set_option linter.unusedVariables false

/-- The end of Feed. -/
def Fed (w w' : World) (rb : Nat) (gv : Value) (r : Rd) (l : List UInt8) (e : Ending) : Prop :=
  ∃ v ps gv', e = .returned (.tuple #[v, .int .i64 (r.feed l).2.code]) ∧ ps.map Prod.fst = (r.feed l).1 ∧ FrsOwn w' w.heap.size v ps ∧ RdT w' rb gv' (r.feed l).2 ∧ Chg (Touch rb gv) w w' ∧
    (∀ j, gv'.ownBlock = some j → gv.ownBlock = some j ∨ w.heap.size ≤ j) ∧ (∀ j ∈ bodyBlocks ps, gv'.ownBlock ≠ some j)

theorem feed_start {w : World} {rb : Nat} {gv : Value} {got l : List UInt8} (hr : RdS w rb gv got) (hrb : rb < w.heap.size) :
    FeedRel w rb gv got l 0 (.slice none 0 0) ((w.alloc (.cells #[.pointer (some ⟨rb, 0, none⟩)] 92)).alloc (.cells #[.int .i64 0] 83)) [] gv got := by
  have ha : Chg (fun _ => False) w ((w.alloc (.cells #[.pointer (some ⟨rb, 0, none⟩)] 92)).alloc (.cells #[.int .i64 0] 83)) := ((Chg.refl _ _).alloc _).alloc _
  refine ⟨Nat.zero_le _, hr.chg ha id (fun _ _ => id), FrsOwn.nil _ _, by simp, ((Chg.refl _ _).alloc _).alloc _, fun j hj => Or.inl hj, by simp [bodyBlocks], ⟨?_, ?_⟩, Nat.le_refl _⟩
  · rw [Below.heap_alloc _ _ _ (by simp)]; exact heap_alloc_new w _
  · have := heap_alloc_new (w.alloc (.cells #[.pointer (some ⟨rb, 0, none⟩)] 92)) (.cells #[.int .i64 0] 83)
    simpa using this

theorem frame_one (f : Fr) (sa : Option Addr) (n c : Nat) : ∀ u ∈ cellsOf [(f, .slice sa n c)], u.oneCell' = true := by
  intro u hu
  simp [cellsOf] at hu
  rcases hu with rfl | rfl | rfl | rfl <;> rfl

theorem lies_frame1 (w1 : World) (f : Fr) (sa : Option Addr) (n c : Nat) :
    Lies (w1.alloc (.cells #[.int .i64 f.kind, .int .i64 f.flags, .int .i64 f.stream, .slice sa n c] 56)) (.slice (some ⟨w1.heap.size, 0, none⟩) 1 1) 1 (cellsOf [(f, .slice sa n c)]) := by
  refine Or.inr ⟨_, _, rfl, fun j u hu => ?_⟩
  have hh := heap_alloc_new w1 (.cells #[.int .i64 f.kind, .int .i64 f.flags, .int .i64 f.stream, .slice sa n c] 56)
  have e : (⟨w1.heap.size, 0, none⟩ : Addr).add j = ⟨w1.heap.size, j, none⟩ := by unfold Addr.add; split <;> simp_all
  rw [e, cell_of_row _ _ _ _ _ _ hh, ← hu]
  simp [cellsOf]

theorem lies_frame (w1 : World) (o : Obj) (f : Fr) (sa : Option Addr) (n c : Nat) :
    Lies ((w1.alloc o).alloc (.cells #[.int .i64 f.kind, .int .i64 f.flags, .int .i64 f.stream, .slice sa n c] 56)) (.slice (some ⟨w1.heap.size + 1, 0, none⟩) 1 1) 1 (cellsOf [(f, .slice sa n c)]) := by
  have h := lies_frame1 (w1.alloc o) f sa n c
  rw [World.size_alloc] at h
  exact h

set_option maxRecDepth 100000 in
set_option maxHeartbeats 400000 in
theorem plain_any (k f s : Int) (sa : Option Addr) (n c : Nat) (w : World) :
    Calls Tryz.prog 445 #[.agg #[.int .i64 k, .int .i64 f, .int .i64 s, .slice sa n c]] w fun e w' => e = .returned (.agg #[.int .i64 k, .int .i64 f, .int .i64 s, .slice sa n c]) ∧ Below w.heap.size w w' := by
  have HB := hide (below_two w (.cells #[.int .i64 k, .int .i64 f, .int .i64 s, .slice sa n c] 340) (.cells #[.int .i64 k, .int .i64 f, .int .i64 s, .slice sa n c] 56))
  go_enter Tryz.func445, Tryz.ntmps445
  go_wp2
  all_goals first
    | exact ⟨rfl, HB.out⟩
    | (refine bodyPost_ret (v := .agg #[.int .i64 k, .int .i64 f, .int .i64 s, .slice sa n c]) ?_ rfl ⟨rfl, HB.out⟩; simp [results, Tryz.results445, go_sem])

/-- Which method a frame's Plain is: that of the whole in it. -/
theorem frV_plain (k f s : Int) (sa : Option Addr) (n c : Nat) (cv : Value) (l : List UInt8) : ∃ t v, frV k f s (.slice sa n c) cv l = .iface t v ∧ ∀ w, (method 630 t v "Plain").run Tryz.prog w = .ok (445, .agg #[.int .i64 k, .int .i64 f, .int .i64 s, .slice sa n c]) w := by
  unfold frV
  split
  · exact ⟨_, _, rfl, fun w => by kernel_rfl⟩
  split
  · exact ⟨_, _, rfl, fun w => by kernel_rfl⟩
  split
  · exact ⟨_, _, rfl, fun w => by kernel_rfl⟩
  split
  · exact ⟨_, _, rfl, fun w => by kernel_rfl⟩
  split
  · exact ⟨_, _, rfl, fun w => by kernel_rfl⟩
  split
  · exact ⟨_, _, rfl, fun w => by kernel_rfl⟩
  split
  · exact ⟨_, _, rfl, fun w => by kernel_rfl⟩
  split
  · exact ⟨_, _, rfl, fun w => by kernel_rfl⟩
  · exact ⟨_, _, rfl, fun w => by kernel_rfl⟩

section
variable {w : World} {rb : Nat} {gv : Value} {got l : List UInt8} {k : Nat} {v : Value} {wr : World} {ps : List (Fr × Value)} {gv' : Value} {got' : List UInt8}

theorem feed_end (h : FeedRel w rb gv got l k v wr ps gv' got') (hrb : rb < w.heap.size) (hk : l.length ≤ k) :
    Fed w (wr.setCell ⟨w.heap.size + 1, 0, none⟩ (.int .i64 0)) rb gv ⟨got, 0⟩ l (.returned (.tuple #[v, .int .i64 0])) := by
  have hc : Chg (fun j => j = w.heap.size + 1) wr (wr.setCell ⟨w.heap.size + 1, 0, none⟩ (.int .i64 0)) := (Chg.refl (fun j => j = w.heap.size + 1) wr).setCell (p := ⟨w.heap.size + 1, 0, none⟩) (Or.inr rfl) _
  have he : (Rd.mk got 0).feed l = (ps.map Prod.fst, ⟨got', 0⟩) := by
    show (if (0 : Int) = 0 then feed got l else _) = _
    rw [if_pos rfl, h.eq, List.drop_of_length_le hk]
    simp [feed]
  have hf := h.vars.f
  have hst := h.st.chg hc (by omega) (fun j hj => by rintro rfl; exact owns_ne h.st.own hf (by decide) hj)
  refine ⟨v, ps, gv', by rw [he], by rw [he], h.frs.chg' hc ?_ ?_, by rw [he]; exact Or.inl ⟨rfl, hst⟩, h.chg.trans (hc.mono (fun j _ hj => Or.inl (by omega))), h.fresh, h.apart⟩
  · rintro j hj rfl; exact owns_ne h.frs.row hf (by decide) hj
  · rintro j hj rfl
    obtain ⟨p, hp, e⟩ := mem_bodyBlocks.1 hj
    exact owns_ne (h.frs.body p hp) hf (by decide) e

theorem feed_fault (h : FeedRel w rb gv got l k v wr ps gv' got') (hrb : rb < w.heap.size) (hk : k < l.length) {code : Int} (hs : step got' (l.getD k 0) = .fault code) {w1 : World} {gv'' : Value} {L K F S : Int}
    (hfr : FrsOwn w1 w.heap.size v ps) (hv : Vars w.heap.size w1 rb) (hrd : RdB w1 rb gv'' L K F S 0) (hch : Chg (Touch rb gv) w w1) :
    Fed w (wiped w1 (w.heap.size + 1) rb code) rb gv ⟨got, 0⟩ l (.returned (.tuple #[v, .int .i64 code])) := by
  have hc := wiped_chg w1 (w.heap.size + 1) rb code
  have he : (Rd.mk got 0).feed l = (ps.map Prod.fst, ⟨[], code⟩) := by
    show (if (0 : Int) = 0 then feed got l else _) = _
    rw [if_pos rfl, h.eq, drop_cons hk]
    simp only [feed, hs, List.append_nil]
  have hcode : code ≠ 0 := by
    rcases step_fault hs with ⟨_, a, rfl⟩ | ⟨_, _, _, a, rfl⟩
    · exact a
    · exact a
  refine ⟨v, ps, .slice none 0 0, by rw [he], by rw [he], hfr.chg' hc ?_ ?_, by rw [he]; exact Or.inr ⟨hcode, rfl, rfl, wiped_rd hrd (by omega)⟩, hch.trans (hc.mono ?_), fun j hj => by simp [Value.ownBlock] at hj, fun j _ => by simp [Value.ownBlock]⟩
  · rintro j hj (rfl | rfl)
    · exact owns_ne hfr.row hv.f (by decide) hj
    · exact owns_ne hfr.row hrd (by decide) hj
  · intro j hj hh
    obtain ⟨p, hp, e⟩ := mem_bodyBlocks.1 hj
    rcases hh with rfl | rfl
    · exact owns_ne (hfr.body p hp) hv.f (by decide) e
    · exact owns_ne (hfr.body p hp) hrd (by decide) e
  · rintro j _ (rfl | rfl)
    · exact Or.inl (by omega)
    · exact Or.inr (Or.inl rfl)
end

set_option maxRecDepth 100000 in
set_option maxHeartbeats 3200000 in
theorem feed_walk (rb bb off cap : Nat) (gv : Value) (got l : List UInt8) (w : World) (hr : RdS w rb gv got) (hl : l.length ≤ 268435456) (hbb : bb < w.heap.size) (hb1 : bb ≠ rb) (hb2 : gv.ownBlock ≠ some bb)
    (hc : ∀ i, i < l.length → w.cell? ⟨bb, off + i, none⟩ = some (.int .u8 (l.getD i 0).toNat)) :
    Calls Tryz.prog 29 #[.pointer (some ⟨rb, 0, none⟩), .slice (some ⟨bb, off, none⟩) l.length cap] w fun e w' => Fed w w' rb gv ⟨got, 0⟩ l e := by
  have hmf : ∀ (fn : Fn) (first cap : Array Value) (w : World), (Instr.makeFunc fn first cap).run Tryz.prog w = .ok (.func fn first cap) w := fun _ _ _ _ => rfl
  obtain ⟨i0, hi, hz0, hz1, hz2⟩ := info_parts Tryz.info56
  obtain ⟨L, K, F, S, hrd⟩ := hr.rd
  obtain ⟨-, -, -, -, -, c5⟩ := hrd.cells
  have hrb := hrd.lt
  go_enter_defers Tryz.func29, Tryz.ntmps29
  go_wp2
  go_loopw [4, 22] (fun v i wr => ∃ k ps gv' got', i = .int .i64 (k : Nat) ∧ FeedRel w rb gv got l k v wr ps gv' got') (fun _ i _ => l.length - (intOf i).toNat)
  case atStart => exact ⟨0, [], gv, got, rfl, feed_start hr hrb⟩
  case round =>
    obtain ⟨k, ps, gv', got', rfl, hrel⟩ := hrel
    have hkl := hrel.le
    have v0 := cell_of_one hrel.vars.r
    have v1 := cell_of_one hrel.vars.f
    have v2 := free_of_one hrel.vars.f
    have hlt1 := lt_of_block hrel.vars.f
    by_cases hk : k < l.length
    · have hx : wr.cell? ⟨bb, off + k, none⟩ = some (.int .u8 (l.getD k 0).toNat) := (hrel.chg.cell (p := ⟨bb, off + k, none⟩) hbb (by rintro (e | e); exact hb1 e; exact hb2 e)).trans (hc k hk)
      obtain ⟨x, hxd⟩ : ∃ x, x = l.getD k 0 := ⟨_, rfl⟩
      rw [← hxd] at hx
      have HX : Hid (x = l.getD k 0) := hxd
      clear hxd hc
      rcases hs : step got' x with (g' | f) | code
      · have HS : Hid (step got' (l.getD k 0) = .more g') := by rw [← HX.out]; exact hs
        have HS' : Hid (step got' x = .more g') := hs
        clear hs
        go_wp2_with fail
        refine (take_more_any rb gv' got' g' x wr hrel.st HS'.out).mono ?_
        rintro e w1 ⟨rfl, gv'', hleft⟩
        go_wp2
        refine ⟨⟨k + 1, ps, gv'', g', by go_num, hrel.more hrb hk HS.out hleft⟩, by simp [intOf]; omega⟩
      · have HS : Hid (step got' (l.getD k 0) = .frame f) := by rw [← HX.out]; exact hs
        have HS' : Hid (step got' x = .frame f) := hs
        clear hs
        have hfew := hrel.few
        go_wp2_with fail
        refine (take_frame_any rb gv' got' x f wr hrel.st HS'.out).mono ?_
        rintro e w1 ⟨bv, cv, gv'', rfl, hbo, hbf, hleft, hne⟩
        obtain ⟨sa, nb, cb, rfl⟩ := slice_of_owns hbo
        obtain ⟨hfr1, -, -⟩ := hrel.touch hrb hleft.chg
        obtain ⟨tf, vf, hfv, hmth⟩ := frV_plain f.kind f.flags f.stream sa nb cb cv f.body
        rw [hfv]
        clear hfv
        go_wp2_with fail
        refine (plain_any f.kind f.flags f.stream sa nb cb w1).mono ?_
        rintro e wp ⟨rfl, hbp⟩
        clear hmth
        have HOWN := hide (((owns_base hfr1.row (fun _ _ => Nat.zero_le _)) : w1.ownsRow 0 _ _ _ _ _))
        have HOWP := hide (owns_chg HOWN.out (Chg.of_below (S := fun _ => False) hbp) (fun _ _ => id))
        go_wp2_with (at_builtin; refine wpList_app _ rfl (.tmp 35) (.tmp 38) 22 rfl 56 i0 (.agg #[.int .i64 0, .int .i64 0, .int .i64 0, .slice none 0 0]) 4 48 Tryz.underlying22 hi hz0 hz1 hz2 rfl (by decide) _ _ _ rfl (HOWP.out.alloc _) (.slice (some ⟨wp.heap.size, 0, none⟩) 1 1) 1 (cellsOf [(f, .slice sa nb cb)]) rfl rfl ?c1 ?c2 ?c3 ?c4 ?_)
        case c1 => exact lies_frame1 _ _ _ _ _
        case c2 => exact frame_one _ _ _ _
        case c3 => unfold maxLen; omega
        case c4 => omega
        intro v' w2 hown2 hgrow2 hfr2
        go_wp2
        refine ⟨⟨k + 1, ps ++ [(f, .slice sa nb cb)], gv'', [], by go_num, hrel.frame hrb hk HS.out hleft hbo hbf hne hbp hown2 hgrow2 (by simpa using hfr2)⟩, by simp [intOf]; omega⟩
      · have HS : Hid (step got' (l.getD k 0) = .fault code) := by rw [← HX.out]; exact hs
        have HS' : Hid (step got' x = .fault code) := hs
        clear hs
        go_wp2_with fail
        refine (take_fault_any rb gv' got' x code wr hrel.st HS'.out).mono ?_
        rintro e w1 ⟨rfl, gv'', L1, K1, F1, S1, hrd1, hchg1⟩
        obtain ⟨hfr1, hvars1, hch1⟩ := hrel.touch hrb hchg1
        refine leaves_cons (f := 68) (args := #[.pointer (some ⟨w.heap.size + 1, 0, none⟩), .pointer (some ⟨w.heap.size, 0, none⟩)]) (by simp) (by simp [go_sem]) ?_
        refine (clos_panic (w.heap.size + 1) w.heap.size rb code [] w1 hvars1.f (cell_of_one hvars1.r) gv'' L1 K1 F1 S1 0 hrd1 (by omega) (by omega)).mono ?_
        rintro e u' w'' ⟨rfl, rfl, rfl⟩
        have hfc := wiped_fa (c := code) hvars1.f (show w.heap.size + 1 ≠ rb by omega)
        refine ⟨.tuple #[u4, .int .i64 code], ?_, ?_⟩
        · simp [results, Tryz.results29, go_sem, hfc]
        · exact feed_fault hrel hrb hk HS.out hfr1 hvars1 hrd1 hch1
    · clear hc
      go_wp2
      refine leaves_cons (f := 68) (args := #[.pointer (some ⟨w.heap.size + 1, 0, none⟩), .pointer (some ⟨w.heap.size, 0, none⟩)]) (by simp) (by simp [go_sem]) ?_
      refine (clos_idle (w.heap.size + 1) w.heap.size _).mono ?_
      rintro e u' w'' ⟨rfl, rfl, rfl⟩
      refine ⟨.tuple #[u4, .int .i64 0], ?_, ?_⟩
      · simp [results, Tryz.results29, go_sem, v1]
      · exact feed_end hrel hrb (by omega)
end Go.Proofs.YtdifgcppmnmagaaGreatDoor
/-
  (*sluice.Reader).Feed, whatever the reader and whatever it is fed.
-/
namespace Go.Proofs.YtdifgcppmnmagaaGreatDoor
open Go.RowKit

theorem fed_nothing {w : World} {rb : Nat} {gv : Value} {got : List UInt8} (hr : RdS w rb gv got) :
    Fed w ((w.alloc (.cells #[.pointer (some ⟨rb, 0, none⟩)] 92)).alloc (.cells #[.int .i64 0] 83)) rb gv ⟨got, 0⟩ [] (.returned (.tuple #[.slice none 0 0, .int .i64 0])) := by
  have ha : Chg (fun _ => False) w ((w.alloc (.cells #[.pointer (some ⟨rb, 0, none⟩)] 92)).alloc (.cells #[.int .i64 0] 83)) := ((Chg.refl _ _).alloc _).alloc _
  exact ⟨_, [], gv, rfl, rfl, FrsOwn.nil _ _, Or.inl ⟨rfl, hr.chg ha id (fun _ _ => id)⟩, ((Chg.refl _ _).alloc _).alloc _, fun j hj => Or.inl hj, by simp [bodyBlocks]⟩

theorem fed_dead {w : World} {rb : Nat} {c : Int} {l : List UInt8} (hr : RdB w rb (.slice none 0 0) 0 0 0 0 c) (hc : c ≠ 0) :
    Fed w ((w.alloc (.cells #[.pointer (some ⟨rb, 0, none⟩)] 92)).alloc (.cells #[.int .i64 c] 83)).drew rb (.slice none 0 0) ⟨[], c⟩ l (.returned (.tuple #[.slice none 0 0, .int .i64 c])) := by
  have ha : Chg (fun _ => False) w ((w.alloc (.cells #[.pointer (some ⟨rb, 0, none⟩)] 92)).alloc (.cells #[.int .i64 c] 83)).drew := (((Chg.refl _ _).alloc _).alloc _).drew
  have he : (Rd.mk [] c).feed l = ([], ⟨[], c⟩) := by show (if c = 0 then _ else _) = _; rw [if_neg hc]
  refine ⟨_, [], .slice none 0 0, by rw [he], by rw [he]; rfl, FrsOwn.nil _ _, by rw [he]; exact Or.inr ⟨hc, rfl, rfl, hr.chg ha id⟩, (((Chg.refl _ _).alloc _).alloc _).drew, fun j hj => Or.inl hj, by simp [bodyBlocks]⟩

set_option maxRecDepth 100000 in
set_option maxHeartbeats 1600000 in
theorem feed_nil (rb : Nat) (gv : Value) (got : List UInt8) (w : World) (hr : RdS w rb gv got) :
    Calls Tryz.prog 29 #[.pointer (some ⟨rb, 0, none⟩), .slice none 0 0] w fun e w' => Fed w w' rb gv ⟨got, 0⟩ [] e := by
  have hmf : ∀ (fn : Fn) (first cap : Array Value) (w : World), (Instr.makeFunc fn first cap).run Tryz.prog w = .ok (.func fn first cap) w := fun _ _ _ _ => rfl
  obtain ⟨L, K, F, S, hrd⟩ := hr.rd
  obtain ⟨-, -, -, -, -, c5⟩ := hrd.cells
  have hrb := hrd.lt
  go_enter_defers Tryz.func29, Tryz.ntmps29
  go_wp2
  refine wp_loop_rounds 1 ?_
  rw [rounds_succ]
  go_wp2
  refine leaves_cons (f := 68) (args := #[.pointer (some ⟨w.heap.size + 1, 0, none⟩), .pointer (some ⟨w.heap.size, 0, none⟩)]) (by simp) (by simp [go_sem]) ?_
  refine (clos_idle (w.heap.size + 1) w.heap.size _).mono ?_
  rintro e u' w'' ⟨rfl, rfl, rfl⟩
  refine ⟨.tuple #[.slice none 0 0, .int .i64 0], ?_, ?_⟩
  · simp [results, Tryz.results29, go_sem]
  · exact fed_nothing hr

set_option maxRecDepth 100000 in
set_option maxHeartbeats 1600000 in
theorem feed_dead (rb : Nat) (bv : Value) (c : Int) (l : List UInt8) (w : World) (hrd : RdB w rb (.slice none 0 0) 0 0 0 0 c) (hcode : (c != 0) = true) :
    Calls Tryz.prog 29 #[.pointer (some ⟨rb, 0, none⟩), bv] w fun e w' => Fed w w' rb (.slice none 0 0) ⟨[], c⟩ l e := by
  obtain ⟨-, -, -, -, -, c5⟩ := hrd.cells
  have hrb := hrd.lt
  go_enter_defers Tryz.func29, Tryz.ntmps29
  go_wp2
  go_region
  go_wp2
  refine ⟨.tuple #[.slice none 0 0, .int .i64 c], ?_, ?_⟩
  · simp [results, Tryz.results29, go_sem]
  · exact fed_dead hrd (by simpa using hcode)

/-- P5's call: whatever the reader, whatever is fed. -/
theorem feed_any (rb : Nat) (gv bv : Value) (r : Rd) (l : List UInt8) (w : World) (hr : RdT w rb gv r) (hb : BytesIn w bv l) (hl : l.length ≤ 268435456) (hne : ∀ k, bv.ownBlock = some k → k ≠ rb ∧ gv.ownBlock ≠ some k) :
    Calls Tryz.prog 29 #[.pointer (some ⟨rb, 0, none⟩), bv] w fun e w' => Fed w w' rb gv r l e := by
  obtain ⟨got, code⟩ := r
  rcases hr with ⟨h0, hr⟩ | ⟨h0, rfl, h2, hr⟩
  · simp only at h0 hr
    subst h0
    rcases hb with ⟨rfl, rfl⟩ | ⟨bb, off, cap, rfl, h1, h2, h3⟩
    · exact feed_nil rb gv got w hr
    · exact feed_walk rb bb off cap gv got l w hr hl h1 (hne bb rfl).1 (hne bb rfl).2 h3
  · simp only at h0 h2 hr
    subst h2
    exact feed_dead rb bv code l w hr (by simpa using h0)
end Go.Proofs.YtdifgcppmnmagaaGreatDoor
/-
  frames.Fits, frames.Bytes, sluice.NewReader.
-/
namespace Go.Proofs.YtdifgcppmnmagaaGreatDoor
open Go.RowKit

def inB (n : Int) : Bool := decide (0 ≤ n) && decide (n ≤ 255)
def fitsB (k f s : Int) (n : Nat) : Bool := inB k && inB f && decide (0 ≤ s) && decide (s ≤ 32767) && decide (n ≤ 64)

set_option maxRecDepth 100000 in
set_option maxHeartbeats 400000 in
theorem inByte_any (n : Int) (w : World) : Calls Tryz.prog 125 #[.int .i64 n] w fun e w' => e = .returned (.bool (inB n)) ∧ w' = w := by
  go_enter Tryz.func125, Tryz.ntmps125
  go_wp2
  all_goals go_ret
  all_goals refine ⟨ret_bool ?_, rfl⟩
  all_goals simp [inB, *]
  omega

set_option maxRecDepth 100000 in
set_option maxHeartbeats 400000 in
theorem newReader_any (w : World) : Calls Tryz.prog 28 #[] w fun e w' => e = .returned (.pointer (some ⟨w.heap.size, 0, none⟩)) ∧ w' = w.alloc (.cells #[.slice none 0 0, .int .i64 0, .int .i64 0, .int .i64 0, .int .i64 0, .int .i64 0] 163) := by
  go_enter Tryz.func28, Tryz.ntmps28
  go_wp2
  go_ret
  exact ⟨rfl, rfl⟩

set_option maxRecDepth 100000 in
set_option maxHeartbeats 800000 in
theorem fits_any (k f s : Int) (sa : Option Addr) (n cap : Nat) (w : World) : Calls Tryz.prog 64 #[.agg #[.int .i64 k, .int .i64 f, .int .i64 s, .slice sa n cap]] w fun e w' => e = .returned (.bool (fitsB k f s n)) ∧ Below w.heap.size w w' := by
  go_enter Tryz.func64, Tryz.ntmps64
  go_wp2_with (go_at_call 125; refine (inByte_any _ _).mono ?_; rintro e w' ⟨rfl, rfl⟩)
  all_goals go_ret
  all_goals refine ⟨ret_bool ?_, (Below.refl _ _).alloc (Nat.le_refl _) _⟩
  all_goals simp [fitsB, *]
  all_goals omega

theorem B_ofI {x : Int} (h0 : 0 ≤ x) (h1 : x ≤ 255) : B (ofI x) = .int .u8 x := by unfold B; rw [ofI_toNat h0 h1]

theorem lies_six (w : World) (a b c d e f : Value) : Lies (w.alloc (.cells #[a, b, c, d, e, f] 5)) (.slice (some ⟨w.heap.size, 0, none⟩) 6 6) 6 [a, b, c, d, e, f] := by
  refine Or.inr ⟨_, _, rfl, fun j u hu => ?_⟩
  have hh := heap_alloc_new w (.cells #[a, b, c, d, e, f] 5)
  have e : (⟨w.heap.size, 0, none⟩ : Addr).add j = ⟨w.heap.size, j, none⟩ := by unfold Addr.add; split <;> simp_all
  rw [e, cell_of_row _ _ _ _ _ _ hh, ← hu]
  simp

set_option maxRecDepth 100000 in
set_option maxHeartbeats 1600000 in
theorem bytes_any (k f s : Int) (sa : Option Addr) (body : List UInt8) (cap : Nat) (w : World) (hk0 : 0 ≤ k) (hk1 : k ≤ 255) (hf0 : 0 ≤ f) (hf1 : f ≤ 255) (hs0 : 0 ≤ s) (hs1 : s ≤ 32767) (hn : body.length ≤ 64)
    (hb : BytesIn w (.slice sa body.length cap) body) :
    Calls Tryz.prog 65 #[.agg #[.int .i64 k, .int .i64 f, .int .i64 s, .slice sa body.length cap]] w fun e w' => ∃ v, e = .returned v ∧ w'.ownsRow w.heap.size 5 1 v (lay k f s body).length ((lay k f s body).map B) ∧ Below w.heap.size w w' := by
  obtain ⟨i0, hi, hz0, hz1, hz2⟩ := info_parts Tryz.info5
  have HB : Hid (BytesIn w (.slice sa body.length cap) body) := hb
  clear hb
  go_enter Tryz.func65, Tryz.ntmps65
  go_wp2_with (at_make; refine wpList_make_own _ rfl _ _ 54 rfl w.heap.size 5 i0 (.int .u8 0) 1 Tryz.underlying54 hi hz0 hz1 _ _ _ (6 + body.length) rfl rfl ?m1 ?m2 ?m3 ?m4 ?_)
  case m1 => omega
  case m2 => rw [hz2]; omega
  case m3 => unfold maxLen; omega
  case m4 => simp
  intro w1 hown1 hg1
  have hfb : w1.heap[w.heap.size]? = some (.cells #[.int .i64 k, .int .i64 f, .int .i64 s, .slice sa body.length cap] 56 (0, 0)) := by
    rw [hg1.block w.heap.size (by simp) (by simp)]; exact heap_alloc_new w _
  have hbel1 : Below w.heap.size w w1 := ((Below.refl _ _).alloc (Nat.le_refl _) _).grown hg1 (by simp) (fun k h => by cases h)
  obtain ⟨z0, z1, z2, z3, -⟩ := frame_block hfb
  have hsz1 := lt_of_block hfb
  have hb2 : ((s / 256) % 256) = s / 256 := by omega
  have hown1' := owns_base hown1 (base' := 0) (fun _ _ => Nat.zero_le _)
  clear hg1
  go_wp2_with (at_builtin; refine wpList_app _ rfl (.tmp 11) (.tmp 30) 54 rfl 5 i0 (.int .u8 0) 1 1 Tryz.underlying54 hi hz0 hz1 hz2 rfl (by decide) _ _ _ rfl (hown1'.alloc _) (.slice (some ⟨w1.heap.size, 0, none⟩) 6 6) 6 [.int .u8 ((body.length : Int) / 256), .int .u8 (body.length : Int), .int .u8 k, .int .u8 f, .int .u8 (s / 256), .int .u8 (s % 256)] rfl rfl ?c1 ?c2 ?c3 ?c4 ?_)
  case c1 => exact lies_six _ _ _ _ _ _ _
  case c2 =>
    intro u hu
    simp at hu
    rcases hu with rfl | rfl | rfl | rfl | rfl | rfl <;> rfl
  case c3 => unfold maxLen; omega
  case c4 => omega
  intro v2 w2 hown2 hg2 hfr2
  have hbel2 : Below w.heap.size w w2 := (hbel1.alloc (by omega) _).grown hg2 (by simp; omega) (fun k h => by simp [Value.ownBlock] at h; omega)
  have hfb2 : w2.heap[w.heap.size]? = some (.cells #[.int .i64 k, .int .i64 f, .int .i64 s, .slice sa body.length cap] 56 (0, 0)) := by
    rw [hg2.block w.heap.size (by simp; omega) (by simp [Value.ownBlock]), Below.heap_alloc _ _ _ hsz1]; exact hfb
  have hv2 : ∀ j, v2.ownBlock = some j → w.heap.size ≤ j := fun j hj => by
    rcases hfr2 with e | e
    · rw [e] at hj; simp [Value.ownBlock] at hj; omega
    · rw [e] at hj; simp at hj; omega
  obtain ⟨y0, y1, y2, y3, -⟩ := frame_block hfb2
  clear hfr2 hg2 z0 z1 z2 z3 hown1 hown1' hfb hfb2
  go_wp2_with (at_builtin; refine wpList_app _ rfl (.tmp 32) (.tmp 34) 54 rfl 5 i0 (.int .u8 0) 1 1 Tryz.underlying54 hi hz0 hz1 hz2 rfl (by decide) _ _ _ rfl hown2 (.slice sa body.length cap) body.length (body.map B) rfl ?d0 ?d1 ?d2 ?d3 ?d4 ?_)
  case d0 => simp
  case d1 => exact lies_of_bytesIn (HB.out.chg (Chg.of_below (S := fun _ => False) hbel2) (fun _ _ => id))
  case d2 => exact bytes_one _
  case d3 => unfold maxLen; omega
  case d4 => omega
  intro v3 w3 hown3 hg3 hfr3
  go_wp2
  go_ret
  have hsz2 := hbel2.size
  refine ⟨v3, rfl, ?_, hbel2.grown hg3 hsz2 (fun j hj => hv2 j hj)⟩
  have h4 := owns_base hown3 (base' := w.heap.size) (fun j hj => by
    rcases hfr3 with e | e
    · rw [e] at hj; exact hv2 j hj
    · rw [e] at hj; simp at hj; omega)
  have e1 : (lay k f s body).length = 6 + body.length := by simp [lay]; omega
  rw [e1]
  have e2 : (lay k f s body).map B = [.int .u8 ((body.length : Int) / 256), .int .u8 (body.length : Int), .int .u8 k, .int .u8 f, .int .u8 (s / 256), .int .u8 (s % 256)] ++ body.map B := by
    unfold lay
    rw [List.map_append]
    simp only [List.map_cons, List.map_nil]
    rw [B_ofI (by omega) (by omega), B_ofI (by omega) (by omega), B_ofI hk0 hk1, B_ofI hf0 hf1, B_ofI (by omega) (by omega), B_ofI (by omega) (by omega)]
  rw [e2]
  simpa using h4
end Go.Proofs.YtdifgcppmnmagaaGreatDoor
/-
  sluice.Write.
-/
namespace Go.Proofs.YtdifgcppmnmagaaGreatDoor
open Go.RowKit

/-- Is the frame right? -/
def wOk (k f s : Int) (body : List UInt8) : Bool := fitsB k f s body.length && decide ((feed [] (lay k f s body)).2.code = 0)

theorem fits_bounds {k f s : Int} {n : Nat} (h : fitsB k f s n = true) : 0 ≤ k ∧ k ≤ 255 ∧ 0 ≤ f ∧ f ≤ 255 ∧ 0 ≤ s ∧ s ≤ 32767 ∧ n ≤ 64 := by
  simp only [fitsB, inB, Bool.and_eq_true, decide_eq_true_eq] at h
  omega

/-- A new reader. -/
theorem rd_new (w : World) : RdT (w.alloc (.cells #[.slice none 0 0, .int .i64 0, .int .i64 0, .int .i64 0, .int .i64 0, .int .i64 0] 163)) w.heap.size (.slice none 0 0) ⟨[], 0⟩ :=
  Or.inl ⟨rfl, got_nil, World.ownsRow_nil _ _ _ _, 0, 0, 0, 0, heap_alloc_new w _, fun h => by simp at h⟩

/-- The end of Write. -/
def Wrote (w w' : World) (k f s : Int) (body : List UInt8) (e : Ending) : Prop :=
  ∃ v, e = .returned (.tuple #[v, .int .i64 (if wOk k f s body then 0 else 1)]) ∧ w'.ownsRow w.heap.size 5 1 v (if wOk k f s body then lay k f s body else []).length ((if wOk k f s body then lay k f s body else []).map B) ∧
    (wOk k f s body = false → v = .slice none 0 0) ∧ Below w.heap.size w w'

theorem wrote_bad {w w' : World} {k f s : Int} {body : List UInt8} (h : wOk k f s body = false) (hb : Below w.heap.size w w') : Wrote w w' k f s body (.returned (.tuple #[.slice none 0 0, .int .i64 1])) := by
  refine ⟨.slice none 0 0, by rw [h]; rfl, ?_, fun _ => rfl, hb⟩
  rw [h]
  exact World.ownsRow_nil _ _ _ _

set_option maxRecDepth 100000 in
set_option maxHeartbeats 800000 in
theorem write_unfit (k f s : Int) (sa : Option Addr) (body : List UInt8) (cap : Nat) (w : World) (hfit : fitsB k f s body.length = false) :
    Calls Tryz.prog 22 #[.agg #[.int .i64 k, .int .i64 f, .int .i64 s, .slice sa body.length cap]] w fun e w' => Wrote w w' k f s body e := by
  have hno : Hid (wOk k f s body = false) := by show _ = _; simp [wOk, hfit]
  have HF : Hid (fitsB k f s body.length = false) := hfit
  clear hfit
  go_enter Tryz.func22, Tryz.ntmps22
  go_wp2_with (go_at_call 64; refine (fits_any k f s sa body.length cap _).mono ?_; rintro e w1 ⟨he, hb1⟩; rw [HF.out] at he; subst he)
  go_ret2
  exact wrote_bad hno.out (((Below.refl _ _).alloc (Nat.le_refl _) _).trans (hb1.mono (by simp)))

set_option maxRecDepth 100000 in
set_option maxHeartbeats 1600000 in
theorem write_fit (k f s : Int) (sa : Option Addr) (body : List UInt8) (cap : Nat) (w : World) (hfit : fitsB k f s body.length = true) (hb : BytesIn w (.slice sa body.length cap) body) :
    Calls Tryz.prog 22 #[.agg #[.int .i64 k, .int .i64 f, .int .i64 s, .slice sa body.length cap]] w fun e w' => Wrote w w' k f s body e := by
  obtain ⟨hk0, hk1, hf0, hf1, hs0, hs1, hn⟩ := fits_bounds hfit
  have HF : Hid (fitsB k f s body.length = true) := hfit
  have HB : Hid (BytesIn w (.slice sa body.length cap) body) := hb
  clear hfit hb
  go_enter Tryz.func22, Tryz.ntmps22
  go_wp2_with (go_at_call 64; refine (fits_any k f s sa body.length cap _).mono ?_; rintro e w1 ⟨he, hb1⟩; rw [HF.out] at he; subst he; obtain ⟨hc1, hf1'⟩ := bcell hb1)
  have hbw : Below w.heap.size w w1 := ((Below.refl _ _).alloc (Nat.le_refl _) _).trans (hb1.mono (by simp))
  refine (bytes_any k f s sa body cap w1 hk0 hk1 hf0 hf1 hs0 hs1 hn (HB.out.chg (Chg.of_below (S := fun _ => False) hbw) (fun _ _ => id))).mono ?_
  rintro e w2 ⟨bv, rfl, hown2, hb2⟩
  have hbw2 : Below w.heap.size w w2 := hbw.trans (hb2.mono hbw.size)
  go_wp2_with (go_at_call 28; refine (newReader_any _).mono ?_; rintro e w3 ⟨rfl, hw3⟩; subst hw3)
  have hown3 := hown2.alloc (.cells #[.slice none 0 0, .int .i64 0, .int .i64 0, .int .i64 0, .int .i64 0, .int .i64 0] 163)
  have hlen : (lay k f s body).length ≤ 268435456 := by simp [lay]; omega
  refine (feed_any w2.heap.size (.slice none 0 0) bv ⟨[], 0⟩ (lay k f s body) _ (rd_new w2) (bytesIn_of_owns hown3 rfl) hlen (fun j hj => ⟨by have := owns_lt hown2 hj; omega, by simp [Value.ownBlock]⟩)).mono ?_
  rintro e w4 ⟨v, ps, gv', rfl, hps, hfrs, hrt, hch, hfr, hap⟩
  have hfe : (Rd.mk [] 0).feed (lay k f s body) = feed [] (lay k f s body) := by
    show (if (0 : Int) = 0 then _ else _) = _
    rw [if_pos rfl]
  rw [hfe]
  have hown4 := owns_chg hown3 hch (fun j hj => by
    rintro (e | e)
    · have := owns_lt hown2 hj; omega
    · simp [Value.ownBlock] at e)
  have hb4 : Below w.heap.size w w4 := (hbw2.alloc hbw2.size _).trans ⟨hch.os, hch.tape, hch.output, hch.size, fun j hj => hch.block j (by have := hbw2.size; simp; omega) (by
    rintro (e | e)
    · have := hbw2.size; omega
    · simp [Value.ownBlock] at e)⟩
  clear hc1 hf1' hfe hps hfrs hrt hch hfr hap hown3 hown2
  by_cases hz : (feed [] (lay k f s body)).2.code = 0
  · have hok : wOk k f s body = true := by simp [wOk, HF.out, hz]
    have HO : Hid (wOk k f s body = true) := hok
    have hz' : ((feed [] (lay k f s body)).2.code != 0) = false := by simp [hz]
    clear hz hok
    go_wp2
    go_ret2
    refine ⟨bv, by rw [HO.out]; rfl, ?_, (fun h => by rw [HO.out] at h; cases h), hb4⟩
    rw [HO.out]
    exact owns_base hown4 (fun j hj => by have := (hown4.lt j hj).1; have := hbw.size; omega)
  · have hok : wOk k f s body = false := by simp [wOk, hz]
    have HO : Hid (wOk k f s body = false) := hok
    have hz' : ((feed [] (lay k f s body)).2.code != 0) = true := by simp [hz]
    clear hz hok
    go_wp2
    go_ret2
    exact wrote_bad HO.out hb4

theorem write_any (k f s : Int) (sa : Option Addr) (body : List UInt8) (cap : Nat) (w : World) (hb : BytesIn w (.slice sa body.length cap) body) :
    Calls Tryz.prog 22 #[.agg #[.int .i64 k, .int .i64 f, .int .i64 s, .slice sa body.length cap]] w fun e w' => Wrote w w' k f s body e := by
  cases h : fitsB k f s body.length with
  | true => exact write_fit k f s sa body cap w h hb
  | false => exact write_unfit k f s sa body cap w h
end Go.Proofs.YtdifgcppmnmagaaGreatDoor
/-
  General facts: rows, bytes that are handed in.
-/
namespace Go.Proofs.YtdifgcppmnmagaaGreatDoor
open Go.RowKit

theorem owns_row {w : World} {b g : Nat} {xs : List Value} (h : w.heap[g]? = some (.cells xs.toArray 5 (0, 0))) (hm : xs.length ≤ maxLen) (hb : b ≤ g) : w.ownsRow b 5 1 (.slice (some ⟨g, 0, none⟩) xs.length xs.length) xs.length xs :=
  ⟨by simp, Or.inr ⟨g, xs.length, _, rfl, hb, h, Nat.le_refl _, hm, by simp, by simp⟩⟩



theorem BytesA.cell {w : World} {sa : Option Addr} {n cap : Nat} {l : List UInt8} (h : BytesA w (.slice sa n cap) l) {i : Nat} (hi : i < l.length) :
    ∃ bb off, sa = some ⟨bb, off, none⟩ ∧ bb < w.heap.size ∧ n ≤ cap ∧ w.cell? ⟨bb, off + i, none⟩ = some (.int .u8 (l.getD i 0).toNat) := by
  rcases h with (⟨h0, rfl⟩ | ⟨bb, off, cap', he, h1, h2, h3⟩) | ⟨ad, he, rfl⟩
  · simp at hi
  · simp only [Value.slice.injEq] at he
    obtain ⟨rfl, rfl, rfl⟩ := he
    exact ⟨bb, off, rfl, h1, h2, h3 i hi⟩
  · simp at hi

theorem app_keep {w w1 w2 : World} {base e size n n' : Nat} {v v' : Value} {xs ys : List Value} (hbel : Below base w w1) (hsz : base ≤ w1.heap.size) (hown : w1.ownsRow base e size v n xs) (hown2 : w2.ownsRow 0 e size v' n' ys) (hg : w1.grownBy w2 v.ownBlock)
    (hfr : v'.ownBlock = v.ownBlock ∨ v'.ownBlock = some w1.heap.size) : w2.ownsRow base e size v' n' ys ∧ Below base w w2 :=
  ⟨owns_base hown2 (fun j hj => by
    rcases hfr with e | e
    · rw [e] at hj; exact (hown.lt j hj).1
    · rw [e] at hj; simp at hj; omega), hbel.grown hg hsz (fun j hj => (hown.lt j hj).1)⟩

theorem kept_told' {w w' : World} {b : Nat} {cs : Array Value} {t : TypeId} {fr : Nat × Nat} (h : w.heap[b]? = some (.cells cs t fr)) (hb : Below w.heap.size w w') : w'.heap[b]? = some (.cells cs t fr) := by
  rw [hb.block b (lt_of_block h)]; exact h

theorem kept_told {w w' : World} {b : Nat} {cs : Array Value} {t : TypeId} {fr : Nat × Nat} (h : w.heap[b]? = some (.cells cs t fr)) (hb : Below w.heap.size w w') : w'.heap[b]? = some (.cells cs t fr) := by
  rw [hb.block b (lt_of_block h)]; exact h
end Go.Proofs.YtdifgcppmnmagaaGreatDoor
/-
  sluiceref: flag, number, bytesOf, streamRight, lengthRight.
-/
namespace Go.Proofs.YtdifgcppmnmagaaGreatDoor
open Go.RowKit

set_option maxRecDepth 100000 in
set_option maxHeartbeats 400000 in
theorem rflag_any (k f s b : Int) (sa : Option Addr) (n cap : Nat) (w : World) (h0 : 0 ≤ f) (h1 : f < 256) (hb : b = 1 ∨ b = 8) :
    Calls Tryz.prog 201 #[.agg #[.int .i64 k, .int .i64 f, .int .i64 s, .slice sa n cap], .int .i64 b] w fun e w' => e = .returned (.bool (hasB f b)) ∧ Below w.heap.size w w' := by
  rcases hb with rfl | rfl
  all_goals go_enter Tryz.func201, Tryz.ntmps201
  all_goals go_wp2
  all_goals go_ret
  all_goals refine ⟨ret_bool ?_, (Below.refl _ _).alloc (Nat.le_refl _) _⟩
  all_goals simp only [hasB, Int.ediv_one]
  all_goals (rw [Bool.eq_iff_iff]; simp)

/-- The number that bytes are. -/
def nOf (l : List UInt8) : Nat := l.foldl (fun v b => 256 * v + b.toNat) 0
theorem nOf_next (l : List UInt8) (b : UInt8) : nOf (l ++ [b]) = 256 * nOf l + b.toNat := by simp [nOf]
theorem fold_lt (l : List UInt8) (v : Nat) : l.foldl (fun v b => 256 * v + b.toNat) v < (v + 1) * 256 ^ l.length := by
  induction l generalizing v with
  | nil => simp
  | cons b r ih =>
    have hb : b.toNat < 256 := b.toNat_lt
    have h := ih (256 * v + b.toNat)
    have h2 : (256 * v + b.toNat + 1) * 256 ^ r.length ≤ ((v + 1) * 256) * 256 ^ r.length := Nat.mul_le_mul_right _ (by omega)
    simp only [List.foldl_cons, List.length_cons, Nat.pow_succ]
    rw [Nat.mul_comm (256 ^ r.length) 256, ← Nat.mul_assoc]
    omega
theorem nOf_lt (l : List UInt8) : nOf l < 256 ^ l.length := by
  have := fold_lt l 0
  rw [Nat.zero_add, Nat.one_mul] at this
  exact this

theorem part_next {l : List UInt8} {at_ k : Nat} (h : at_ + k < l.length) : (l.drop at_).take (k + 1) = (l.drop at_).take k ++ [l.getD (at_ + k) 0] := by
  rw [List.take_succ_eq_append_getElem (by simp; omega), getD_lt _ _ _ h]
  simp

set_option maxRecDepth 100000 in
set_option maxHeartbeats 1600000 in
theorem number_any (sa : Option Addr) (cap : Nat) (l : List UInt8) (at_ n : Nat) (w : World) (h : BytesA w (.slice sa l.length cap) l) (hn : at_ + n ≤ l.length) (h4 : n ≤ 4) (hl : l.length ≤ 4294967296) :
    Calls Tryz.prog 133 #[.slice sa l.length cap, .int .i64 at_, .int .i64 n] w fun e w' => e = .returned (.int .i64 (nOf ((l.drop at_).take n))) ∧ w' = w := by
  have H := hide h
  clear h
  go_enter Tryz.func133, Tryz.ntmps133
  go_wp2
  go_loop [7, 8] (fun v i => ∃ k : Nat, k ≤ n ∧ i = .int .i64 k ∧ v = .int .i64 (nOf ((l.drop at_).take k))) (fun _ i => n - (intOf i).toNat)
  case atStart => exact ⟨0, Nat.zero_le _, rfl, by simp [nOf]⟩
  case round =>
    obtain ⟨k, hk, rfl, rfl⟩ := hrel
    by_cases hlt : k < n
    · obtain ⟨bb, off, hsa, hbb, hcp, hc⟩ := H.out.cell (i := at_ + k) (by omega)
      subst hsa
      have hnx := part_next (l := l) (at_ := at_) (k := k) (by omega)
      have hb := nOf_lt ((l.drop at_).take k)
      have hle : ((l.drop at_).take k).length ≤ 3 := by simp; omega
      have hb2 : nOf ((l.drop at_).take k) ≤ 16777215 := by
        have : 256 ^ ((l.drop at_).take k).length ≤ 256 ^ 3 := Nat.pow_le_pow_right (by omega) hle
        omega
      obtain ⟨x, hx⟩ : ∃ x, x = l.getD (at_ + k) 0 := ⟨_, rfl⟩
      rw [← hx] at hc hnx
      have hx8 : x.toNat < 256 := x.toNat_lt
      have hq := nOf_next ((l.drop at_).take k) x
      rw [← hnx] at hq
      obtain ⟨q, hqq⟩ : ∃ q, q = nOf ((l.drop at_).take k) := ⟨_, rfl⟩
      rw [← hqq] at hb2 hq
      rw [← hqq]
      have HQ := hide hq
      clear hb hle hnx hx hq hqq H
      go_wp2
      go_round
      case rel => exact ⟨k + 1, by omega, by go_num, by rw [HQ.out]; go_num⟩
      case measure => simp [intOf]; omega
    · have hkn : k = n := by omega
      subst hkn
      go_wp2
      go_ret
      exact ⟨rfl, rfl⟩

/-- May a frame of this kind have this stream? -/
def stR (k s : Int) : Bool := decide (0 ≤ s) && decide (s ≤ 32767) && sFits k s
def leR (n k f : Int) : Bool := decide (n ≤ 64) && lFits n k f

set_option maxRecDepth 100000 in
set_option maxHeartbeats 1600000 in
theorem streamRight_more (s : Int) (w : World) (h0 : 0 ≤ s) (h1 : s ≤ 32767) (k : Int) (hk : k = 0 ∨ k = 1 ∨ k = 2 ∨ k = 7) : Calls Tryz.prog 126 #[.int .i64 k, .int .i64 s] w fun e w' => e = .returned (.bool (sFits k s)) ∧ w' = w := by
  have e : sFits k s = decide (0 < s) := by
    unfold sFits
    rw [if_pos hk]
    by_cases h : s = 0
    · simp [h]
    · have : 0 < s := by omega
      simp [h, this]
  rw [e]
  clear e
  rcases hk with rfl | rfl | rfl | rfl
  all_goals go_enter Tryz.func126, Tryz.ntmps126
  all_goals go_wp2
  all_goals go_ret
  all_goals exact ⟨rfl, rfl⟩

set_option maxRecDepth 100000 in
set_option maxHeartbeats 1600000 in
theorem streamRight_none (s : Int) (w : World) (h0 : 0 ≤ s) (h1 : s ≤ 32767) (k : Int) (hk : k = 3 ∨ k = 4 ∨ k = 5) : Calls Tryz.prog 126 #[.int .i64 k, .int .i64 s] w fun e w' => e = .returned (.bool (sFits k s)) ∧ w' = w := by
  have e : sFits k s = (s == 0) := by
    unfold sFits
    rw [if_neg (by omega), if_pos hk]
  rw [e]
  clear e
  rcases hk with rfl | rfl | rfl
  all_goals go_enter Tryz.func126, Tryz.ntmps126
  all_goals go_wp2
  all_goals go_ret
  all_goals exact ⟨rfl, rfl⟩

set_option maxRecDepth 100000 in
set_option maxHeartbeats 1600000 in
theorem streamRight_any (k s : Int) (w : World) (hk : 0 ≤ k) : Calls Tryz.prog 126 #[.int .i64 k, .int .i64 s] w fun e w' => e = .returned (.bool (stR k s)) ∧ w' = w := by
  by_cases hs : s < 0 ∨ 32767 < s
  · have hf : stR k s = false := by
      simp only [stR, Bool.and_eq_false_iff, decide_eq_false_iff_not]
      rcases hs with h | h
      · exact Or.inl (Or.inl (by omega))
      · exact Or.inl (Or.inr (by omega))
    rw [hf]
    clear hf
    go_enter Tryz.func126, Tryz.ntmps126
    go_wp2
    all_goals first | (go_ret; exact ⟨rfl, rfl⟩) | (exfalso; omega)
  · have h0 : 0 ≤ s := by omega
    have h1 : s ≤ 32767 := by omega
    have e : stR k s = sFits k s := by simp [stR, h0, h1]
    rw [e]
    clear e hs
    have hk' : k = 0 ∨ k = 1 ∨ k = 2 ∨ k = 7 ∨ k = 3 ∨ k = 4 ∨ k = 5 ∨ k = 6 ∨ 7 < k := by omega
    rcases hk' with rfl | rfl | rfl | rfl | rfl | rfl | rfl | rfl | h7
    · exact streamRight_more s w h0 h1 0 (by simp)
    · exact streamRight_more s w h0 h1 1 (by simp)
    · exact streamRight_more s w h0 h1 2 (by simp)
    · exact streamRight_more s w h0 h1 7 (by simp)
    · exact streamRight_none s w h0 h1 3 (by simp)
    · exact streamRight_none s w h0 h1 4 (by simp)
    · exact streamRight_none s w h0 h1 5 (by simp)
    · go_enter Tryz.func126, Tryz.ntmps126
      go_wp2
      all_goals go_ret
      all_goals exact ⟨rfl, rfl⟩
    · have e : sFits k s = true := by unfold sFits; rw [if_neg (by omega), if_neg (by omega)]
      rw [e]
      have b3 : (k == 3) = false := by simp; omega
      have b4 : (k == 4) = false := by simp; omega
      have b5 : (k == 5) = false := by simp; omega
      have b6 : (k == 6) = false := by simp; omega
      clear e
      go_enter Tryz.func126, Tryz.ntmps126
      go_wp2
      all_goals go_ret
      all_goals exact ⟨rfl, rfl⟩

set_option maxRecDepth 100000 in
set_option maxHeartbeats 1600000 in
theorem lengthRight_any (k f s : Int) (m : Int) (sa : Option Addr) (n cap : Nat) (w : World) (h0 : 0 ≤ f) (h1 : f < 256) :
    Calls Tryz.prog 127 #[.agg #[.int .i64 k, .int .i64 f, .int .i64 s, .slice sa n cap], .int .i64 m] w fun e w' => e = .returned (.bool (leR m k f)) ∧ Below w.heap.size w w' := by
  have hk : k = 2 ∨ k = 5 ∨ k = 3 ∨ k = 4 ∨ k = 6 ∨ ((k == 2) = false ∧ (k == 5) = false ∧ (k == 3) = false ∧ (k == 4) = false ∧ (k == 6) = false) := by
    simp only [beq_eq_false_iff_ne]
    omega
  rcases hk with rfl | rfl | rfl | rfl | rfl | ⟨b2, b5, b3, b4, b6⟩
  rotate_left 2
  · cases hh : hasB f 1 with
    | true =>
      have e : leR m 3 f = (decide (m ≤ 64) && (m == 0)) := by simp [leR, lFits, hh]
      rw [e]
      clear e
      go_enter Tryz.func127, Tryz.ntmps127
      go_wp2_with (go_at_call 201; refine (rflag_any 3 f s 1 sa n cap _ h0 h1 (Or.inl rfl)).mono ?_; rintro e w1 ⟨rfl, hb1⟩; rw [hh])
      all_goals go_ret
      all_goals refine ⟨ret_bool ?_, ((Below.refl _ _).alloc (Nat.le_refl _) _).trans (hb1.mono (by simp))⟩
      all_goals simp [*]
      all_goals omega
    | false =>
      have e : leR m 3 f = (decide (m ≤ 64) && (m == 4)) := by simp [leR, lFits, hh]
      rw [e]
      clear e
      go_enter Tryz.func127, Tryz.ntmps127
      go_wp2_with (go_at_call 201; refine (rflag_any 3 f s 1 sa n cap _ h0 h1 (Or.inl rfl)).mono ?_; rintro e w1 ⟨rfl, hb1⟩; rw [hh])
      all_goals go_ret
      all_goals refine ⟨ret_bool ?_, ((Below.refl _ _).alloc (Nat.le_refl _) _).trans (hb1.mono (by simp))⟩
      all_goals simp [*]
      all_goals omega
  · go_enter Tryz.func127, Tryz.ntmps127
    go_wp2
    all_goals go_ret
    all_goals refine ⟨ret_bool ?_, (Below.refl _ _).alloc (Nat.le_refl _) _⟩
    all_goals simp [leR, lFits, *]
    all_goals omega
  · go_enter Tryz.func127, Tryz.ntmps127
    go_wp2
    all_goals go_ret
    all_goals refine ⟨ret_bool ?_, (Below.refl _ _).alloc (Nat.le_refl _) _⟩
    all_goals simp [leR, lFits, *]
    all_goals omega
  · have e : leR m k f = decide (m ≤ 64) := by
      simp only [beq_eq_false_iff_ne] at b2 b3 b4 b5 b6
      simp [leR, lFits, b2, b3, b4, b5, b6]
    rw [e]
    clear e
    go_enter Tryz.func127, Tryz.ntmps127
    go_wp2
    all_goals go_ret
    all_goals refine ⟨ret_bool ?_, (Below.refl _ _).alloc (Nat.le_refl _) _⟩
    all_goals simp [*]
    all_goals omega
  · go_enter Tryz.func127, Tryz.ntmps127
    go_wp2
    all_goals go_ret
    all_goals refine ⟨ret_bool ?_, (Below.refl _ _).alloc (Nat.le_refl _) _⟩
    all_goals simp [leR, lFits, *]
    all_goals omega
  · go_enter Tryz.func127, Tryz.ntmps127
    go_wp2
    all_goals go_ret
    all_goals refine ⟨ret_bool ?_, (Below.refl _ _).alloc (Nat.le_refl _) _⟩
    all_goals simp [leR, lFits, *]
    all_goals omega
end Go.Proofs.YtdifgcppmnmagaaGreatDoor
/-
  sluiceref: content, bodyRight, Right.
-/
namespace Go.Proofs.YtdifgcppmnmagaaGreatDoor
open Go.RowKit

/-- Is the content right? -/
def contB (f : Int) (body : List UInt8) : Bool := if hasB f 8 then decide (padCode body = 0) else true

theorem padCode_bad {p : UInt8} {r : List UInt8} {k : Nat} (hs : ¬ r.length < p.toNat) (hk : k < p.toNat) (hx : (p :: r).getD (r.length + 1 - p.toNat + k) 0 ≠ 0) : decide (padCode (p :: r) = 0) = false := by
  have : padCode (p :: r) = 9 := by
    simp only [padCode]
    rw [if_neg hs, if_neg]
    intro h
    rw [List.all_eq_true] at h
    have hm : (p :: r).getD (r.length + 1 - p.toNat + k) 0 ∈ (p :: r).drop (r.length + 1 - p.toNat) := by
      rw [getD_lt _ _ _ (by simp; omega)]
      rw [List.mem_drop_iff_getElem]
      exact ⟨k, by simp; omega, rfl⟩
    have := h _ hm
    simp at this
    exact hx (by simpa using this)
  rw [this]; rfl
theorem padCode_good {p : UInt8} {r : List UInt8} (hs : ¬ r.length < p.toNat) (hz : ∀ j, j < p.toNat → (p :: r).getD (r.length + 1 - p.toNat + j) 0 = 0) : decide (padCode (p :: r) = 0) = true := by
  have : padCode (p :: r) = 0 := by
    simp only [padCode]
    rw [if_neg hs, if_pos]
    rw [List.all_eq_true]
    intro x hx
    rw [List.mem_drop_iff_getElem] at hx
    obtain ⟨j, hj, rfl⟩ := hx
    have h1 := hz j (by simp at hj; omega)
    rw [getD_lt _ _ _ (by simp at hj ⊢; omega)] at h1
    simpa using h1
  rw [this]; rfl

set_option maxRecDepth 100000 in
set_option maxHeartbeats 1600000 in
theorem content_any (k f s : Int) (sa : Option Addr) (body : List UInt8) (cap : Nat) (w : World) (h0 : 0 ≤ f) (h1 : f < 256) (hl : body.length ≤ 4294967296) (hb : BytesA w (.slice sa body.length cap) body) :
    Calls Tryz.prog 202 #[.agg #[.int .i64 k, .int .i64 f, .int .i64 s, .slice sa body.length cap]] w fun e w' => (∃ v, e = .returned (.tuple #[v, .bool (contB f body)])) ∧ Below w.heap.size w w' := by
  have HB := hide hb
  clear hb
  cases hh : hasB f 8 with
  | false =>
    have e : contB f body = true := by simp [contB, hh]
    rw [e]
    clear e
    go_enter Tryz.func202, Tryz.ntmps202
    go_wp2_with (go_at_call 201; refine (rflag_any k f s 8 sa body.length cap _ h0 h1 (Or.inr rfl)).mono ?_; rintro e w1 ⟨rfl, hb1⟩; rw [hh]; obtain ⟨hc1, hf1⟩ := bcell hb1)
    go_ret2
    exact ⟨⟨_, rfl⟩, ((Below.refl _ _).alloc (Nat.le_refl _) _).trans (hb1.mono (by simp))⟩
  | true =>
    have e : contB f body = decide (padCode body = 0) := by simp [contB, hh]
    rw [e]
    clear e
    cases body with
    | nil =>
      have e : decide (padCode [] = 0) = false := by decide
      rw [e]
      clear e
      simp only [List.length_nil] at *
      go_enter Tryz.func202, Tryz.ntmps202
      go_wp2_with (go_at_call 201; refine (rflag_any k f s 8 sa 0 cap _ h0 h1 (Or.inr rfl)).mono ?_; rintro e w1 ⟨rfl, hb1⟩; rw [hh]; obtain ⟨hc1, hf1⟩ := bcell hb1)
      go_ret2
      exact ⟨⟨_, rfl⟩, ((Below.refl _ _).alloc (Nat.le_refl _) _).trans (hb1.mono (by simp))⟩
    | cons p r =>
      obtain ⟨bb, off, hsa, hbb, hcp, hc0⟩ := HB.out.cell (i := 0) (by simp)
      subst hsa
      simp only [List.getD_cons_zero, Nat.add_zero] at hc0
      have hp : p.toNat < 256 := p.toNat_lt
      simp only [List.length_cons] at hl hcp ⊢
      by_cases hs : r.length < p.toNat
      · have e : decide (padCode (p :: r) = 0) = false := by simp [padCode, hs]
        rw [e]
        clear e
        go_enter Tryz.func202, Tryz.ntmps202
        go_wp2_with (go_at_call 201; refine (rflag_any k f s 8 _ (r.length + 1) cap _ h0 h1 (Or.inr rfl)).mono ?_; rintro e w1 ⟨rfl, hb1⟩; rw [hh]; obtain ⟨hc1, hf1⟩ := bcell hb1)
        go_quiet (fail)
        go_wp2
        go_ret2
        exact ⟨⟨_, rfl⟩, bel_drewN (((Below.refl _ _).alloc (Nat.le_refl _) _).trans (hb1.mono (by simp)))⟩
      · obtain ⟨a, ha⟩ : ∃ a, a = r.length + 1 - p.toNat := ⟨_, rfl⟩
        have hap : a + p.toNat = r.length + 1 := by omega
        have ha1 : 1 ≤ a := by omega
        have HA := hide ha
        clear ha
        go_enter Tryz.func202, Tryz.ntmps202
        go_wp2_with (go_at_call 201; refine (rflag_any k f s 8 _ (r.length + 1) cap _ h0 h1 (Or.inr rfl)).mono ?_; rintro e w1 ⟨rfl, hb1⟩; rw [hh]; obtain ⟨hc1, hf1⟩ := bcell hb1)
        go_quiet (fail)
        go_wp2
        go_loop [6] (fun i => ∃ k : Nat, k ≤ p.toNat ∧ i = .int .i64 ((a : Int) + (k : Int)) ∧ ∀ j, j < k → (p :: r).getD (r.length + 1 - p.toNat + j) 0 = 0) (fun i => r.length + 1 - (intOf i).toNat)
        case atStart => exact ⟨0, Nat.zero_le _, by go_num, fun j hj => by omega⟩
        case round =>
          obtain ⟨k, hk, rfl, hz⟩ := hrel
          have HZ := hide hz
          clear hz
          by_cases hlt : k < p.toNat
          · obtain ⟨bb', off', hsa', _, _, hck⟩ := HB.out.cell (i := a + k) (by simp; omega)
            simp only [Option.some.injEq, Addr.mk.injEq, and_true] at hsa'
            obtain ⟨rfl, rfl⟩ := hsa'
            obtain ⟨x, hx⟩ : ∃ x, x = (p :: r).getD (a + k) 0 := ⟨_, rfl⟩
            rw [← hx] at hck
            have HX := hide hx
            clear hx
            by_cases h0x : x.toNat = 0
            · have hck0 : w.cell? ⟨bb, off + (a + k), none⟩ = some (.int .u8 0) := by rw [hck, h0x]; rfl
              clear hck
              go_wp2
              go_round
              case rel =>
                refine ⟨k + 1, by omega, by go_num, fun j hj => ?_⟩
                by_cases e : j < k
                · exact HZ.out j e
                · have : j = k := by omega
                  subst this
                  have := HX.out
                  rw [HA.out] at this
                  rw [← this]; exact UInt8.toNat_inj.1 h0x
              case measure => simp [intOf]; omega
            · have hpos : decide ((0 : Int) < (x.toNat : Int)) = true := by simp; omega
              have e : decide (padCode (p :: r) = 0) = false := padCode_bad hs hlt (by
                have := HX.out
                rw [HA.out] at this
                rw [← this]; intro e; exact h0x (by rw [e]; rfl))
              have HE := hide e
              clear e
              go_wp2
              go_ret2
              rw [HE.out]
              exact ⟨⟨_, rfl⟩, bel_drewN (((Below.refl _ _).alloc (Nat.le_refl _) _).trans (hb1.mono (by simp)))⟩
          · have e : decide (padCode (p :: r) = 0) = true := padCode_good hs (fun j hj => HZ.out j (by omega))
            have HE := hide e
            clear e
            go_wp2
            all_goals go_ret2
            all_goals rw [HE.out]
            all_goals exact ⟨⟨_, rfl⟩, bel_drewN (((Below.refl _ _).alloc (Nat.le_refl _) _).trans (hb1.mono (by simp)))⟩

theorem num4_nOf {l : List UInt8} (h : l.length = 4) : (nOf ((l.drop 0).take 4) : Int) = num4 l := by
  match l, h with
  | [a, b, c, d], _ => simp [nOf, num4, be4]; omega

set_option maxRecDepth 100000 in
set_option maxHeartbeats 1600000 in
theorem bodyRight_any (k f s : Int) (sa : Option Addr) (body : List UInt8) (cap : Nat) (w : World) (h0 : 0 ≤ f) (h1 : f < 256) (hl : body.length ≤ 64) (hlf : lFits body.length k f = true) (hb : BytesA w (.slice sa body.length cap) body) :
    Calls Tryz.prog 128 #[.agg #[.int .i64 k, .int .i64 f, .int .i64 s, .slice sa body.length cap]] w fun e w' => e = .returned (.bool (decide (bodyCode k f body = 0))) ∧ Below w.heap.size w w' := by
  have hch : ∀ o, BytesA (w.alloc o) (.slice sa body.length cap) body := fun o => hb.chg ((Chg.refl _ _).alloc _)
  have hl2 : body.length ≤ 4294967296 := by omega
  by_cases hk0 : k = 0
  · subst hk0
    have e : decide (bodyCode 0 f body = 0) = contB f body := by
      unfold bodyCode contB
      rw [if_pos rfl]
      split
      · rfl
      · rfl
    rw [e]
    clear e
    have HC := hide hch
    clear hch hb
    go_enter Tryz.func128, Tryz.ntmps128
    go_wp2_with (first
      | (go_at_call 201; refine (rflag_any 0 f s 1 sa body.length cap _ h0 h1 (Or.inl rfl)).mono ?_; rintro e w1 ⟨rfl, hb1⟩; obtain ⟨hc1, hf1⟩ := bcell hb1)
      | (go_at_call 202; refine (content_any 0 f s sa body cap _ h0 h1 hl2 ((HC.out _).chg (Chg.of_below hb1))).mono ?_; rintro e w2 ⟨⟨v, rfl⟩, hb2⟩))
    go_ret
    have hb1' : Below w.heap.size w w1 := ((Below.refl _ _).alloc (Nat.le_refl _) _).trans (hb1.mono (by simp))
    exact ⟨rfl, hb1'.trans (hb2.mono hb1'.size)⟩
  · have b0 : (k == 0) = false := by simp [hk0]
    by_cases hk3 : k = 3
    · subst hk3
      cases hh : hasB f 1 with
      | true =>
        have e : decide (bodyCode 3 f body = 0) = true := by simp [bodyCode, hh]
        rw [e]
        clear e hch hb
        go_enter Tryz.func128, Tryz.ntmps128
        go_wp2_with (go_at_call 201; refine (rflag_any 3 f s 1 sa body.length cap _ h0 h1 (Or.inl rfl)).mono ?_; rintro e w1 ⟨rfl, hb1⟩; rw [hh]; obtain ⟨hc1, hf1⟩ := bcell hb1)
        go_ret
        exact ⟨rfl, ((Below.refl _ _).alloc (Nat.le_refl _) _).trans (hb1.mono (by simp))⟩
      | false =>
        have hl4 : body.length = 4 := by simp [lFits, hh] at hlf; omega
        have e : decide (bodyCode 3 f body = 0) = decide (num4 body ≤ 2147483647) := by
          have h4 : 0 ≤ num4 body := by rw [← num4_nOf hl4]; omega
          simp only [bodyCode, hh, numCode, nCode]
          simp
          omega
        rw [e, ← num4_nOf hl4]
        clear e
        have HC := hide hch
        have H4 := hide hl4
        clear hch hb hlf hl4
        go_enter Tryz.func128, Tryz.ntmps128
        go_wp2_with (first
          | (go_at_call 201; refine (rflag_any 3 f s 1 sa body.length cap _ h0 h1 (Or.inl rfl)).mono ?_; rintro e w1 ⟨rfl, hb1⟩; rw [hh]; obtain ⟨hc1, hf1⟩ := bcell hb1)
          | (go_at_call 133; refine (number_any sa cap body 0 4 _ ((HC.out _).chg (Chg.of_below hb1)) (by rw [H4.out]; exact Nat.le_refl _) (by omega) hl2).mono ?_; rintro e w2 ⟨rfl, rfl⟩))
        go_ret
        exact ⟨rfl, ((Below.refl _ _).alloc (Nat.le_refl _) _).trans (hb1.mono (by simp))⟩
    · have b3 : (k == 3) = false := by simp [hk3]
      by_cases hk6 : k = 6
      · subst hk6
        have hl4 : body.length = 4 := by simp [lFits] at hlf; omega
        have e : decide (bodyCode 6 f body = 0) = (decide (1 ≤ num4 body) && decide (num4 body ≤ 2147483647)) := by
          simp only [bodyCode, numCode, nCode]
          rw [Bool.eq_iff_iff]
          simp
        rw [e, ← num4_nOf hl4]
        clear e
        have HC := hide hch
        have H4 := hide hl4
        clear hch hb hlf hl4
        go_enter Tryz.func128, Tryz.ntmps128
        go_wp2_with (first
          | (go_at_call 201; refine (rflag_any 6 f s 1 sa body.length cap _ h0 h1 (Or.inl rfl)).mono ?_; rintro e w1 ⟨rfl, hb1⟩; obtain ⟨hc1, hf1⟩ := bcell hb1)
          | (go_at_call 133; refine (number_any sa cap body 0 4 _ ((HC.out _).chg (Chg.of_below hb1)) (by rw [H4.out]; exact Nat.le_refl _) (by omega) hl2).mono ?_; rintro e w2 ⟨rfl, rfl⟩))
        all_goals go_ret
        all_goals refine ⟨ret_bool ?_, ((Below.refl _ _).alloc (Nat.le_refl _) _).trans (hb1.mono (by simp))⟩
        all_goals simp [*]
        all_goals omega
      · have b6 : (k == 6) = false := by simp [hk6]
        have e : decide (bodyCode k f body = 0) = true := by simp [bodyCode, hk0, hk3, hk6]
        rw [e]
        clear e hch hb hk0 hk3 hk6
        go_enter Tryz.func128, Tryz.ntmps128
        go_wp2_with (go_at_call 201; refine (rflag_any k f s 1 sa body.length cap _ h0 h1 (Or.inl rfl)).mono ?_; rintro e w1 ⟨rfl, hb1⟩; obtain ⟨hc1, hf1⟩ := bcell hb1)
        go_ret
        exact ⟨rfl, ((Below.refl _ _).alloc (Nat.le_refl _) _).trans (hb1.mono (by simp))⟩
end Go.Proofs.YtdifgcppmnmagaaGreatDoor
