import Derived.Test.YtjccnikmcoidhaaLeafPad
import Derived.Test.YtjccnikmcoidhaaLeafHead
import Derived.Test.YtjccnikmcoidhaaStepC
set_option linter.unusedVariables false
set_option linter.unusedSimpArgs false
/-
  frames.frameOf: what a frame's kind makes of it.
-/
namespace Go.Proofs.Ytjccnikmcoidhaa
set_option linter.unusedVariables false
set_option linter.unusedSimpArgs false
open Go.RowKit

/-- The content of Data: the body without what pads it. -/
def cutB (f : Int) (l : List UInt8) : List UInt8 := if hasB f 8 then (l.drop 1).take (l.length - 1 - (l.headD 0).toNat) else l
/-- The frame as a value: its type and fields by its kind. cv: the content, of Data alone. -/
def frV (k f s : Int) (bv cv : Value) (l : List UInt8) : Value :=
  if k = 0 then .iface 74 (.agg #[.int .i64 k, .int .i64 f, .int .i64 s, bv, cv])
  else if k = 1 then .iface 76 (.agg #[.int .i64 k, .int .i64 f, .int .i64 s, bv, bv])
  else if k = 2 then .iface 78 (.agg #[.int .i64 k, .int .i64 f, .int .i64 s, bv])
  else if k = 3 then .iface 81 (.agg #[.int .i64 k, .int .i64 f, .int .i64 s, bv, .int .i64 (if hasB f 1 then 0 else num4 l)])
  else if k = 4 then .iface 85 (.agg #[.int .i64 k, .int .i64 f, .int .i64 s, bv, .int .u32 (num4 l)])
  else if k = 5 then .iface 86 (.agg #[.int .i64 k, .int .i64 f, .int .i64 s, bv])
  else if k = 6 then .iface 88 (.agg #[.int .i64 k, .int .i64 f, .int .i64 s, bv, .int .i64 (num4 l)])
  else if k = 7 then .iface 89 (.agg #[.int .i64 k, .int .i64 f, .int .i64 s, bv, bv])
  else .iface 90 (.agg #[.int .i64 k, .int .i64 f, .int .i64 s, bv])
/-- The bytes of a slice: of none, or of a block's own. -/
structure BodyIn (w : World) (bv : Value) (l : List UInt8) : Prop where
  is : (l = [] ∧ ∃ sa cap, bv = .slice sa 0 cap) ∨ ∃ g off cap, bv = .slice (some ⟨g, off, none⟩) l.length cap ∧ g < w.heap.size ∧ l.length ≤ cap ∧ ∀ i, i < l.length → w.cell? ⟨g, off + i, none⟩ = some (.int .u8 (l.getD i 0).toNat)
/-- The content as a slice of the body. -/
def ContV (f : Int) (bv cv : Value) (l : List UInt8) : Prop := if hasB f 8 then ∃ g off cap, bv = .slice (some ⟨g, off, none⟩) l.length cap ∧ Cut g off cap (cutB f l).length cv else cv = bv

theorem cutB_len {f : Int} {p : UInt8} {r : List UInt8} (h : hasB f 8 = true) : (cutB f (p :: r)).length = r.length - p.toNat := by
  unfold cutB
  rw [h]
  simp

theorem contentOf_any (bv : Value) (l : List UInt8) (f s : Int) (w : World) (hl : l.length ≤ 64) (h0 : 0 ≤ f) (h1 : f < 256) (hb : BodyIn w bv l) :
    Calls Try.prog 28 #[.agg #[.int .i64 0, .int .i64 f, .int .i64 s, bv]] w fun e w' =>
      ((bodyCode 0 f l ≠ 0 ∧ e = .panicked [{ v := .iface 32 (.int .i64 9), recovered := false }]) ∨ (bodyCode 0 f l = 0 ∧ ∃ cv, e = .returned cv ∧ ContV f bv cv l)) ∧ Below w.heap.size w w' := by
  cases hf : hasB f 8 with
  | false =>
    refine (contentOf_bare 0 f s bv w h0 h1 hf).mono ?_
    rintro e w' ⟨rfl, hb1⟩
    exact ⟨Or.inr ⟨by simp [bodyCode, hf], _, rfl, by unfold ContV; rw [hf]; rfl⟩, hb1⟩
  | true =>
    cases l with
    | nil =>
      have hbv : ∃ sa cap, bv = .slice sa 0 cap := by
        rcases hb.is with ⟨_, h⟩ | ⟨g, off, cap, h, _⟩
        · exact h
        · exact ⟨_, _, h⟩
      obtain ⟨sa, cap, rfl⟩ := hbv
      refine (contentOf_none 0 f s sa cap w h0 h1 hf).mono ?_
      rintro e w' ⟨rfl, hb1⟩
      exact ⟨Or.inl ⟨by simp [bodyCode, hf, padCode], rfl⟩, hb1⟩
    | cons p r =>
      rcases hb.is with ⟨h, _⟩ | ⟨g, off, cap, rfl, hg, hcap, hc⟩
      · cases h
      refine (contentOf_pad g off cap p r 0 f s w (by simpa using hl) (by simpa using hcap) h0 h1 hg hf hc).mono ?_
      rintro e w' ⟨h, hb1⟩
      have hbc : bodyCode 0 f (p :: r) = padCode (p :: r) := by simp [bodyCode, hf]
      rw [hbc]
      refine ⟨?_, hb1⟩
      rcases h with h | ⟨h, cv, rfl, hcut⟩
      · exact Or.inl h
      · refine Or.inr ⟨h, cv, rfl, ?_⟩
        unfold ContV
        rw [hf]
        exact ⟨g, off, cap, rfl, by rw [cutB_len hf]; exact hcut⟩

theorem body_four {w : World} {bv : Value} {l : List UInt8} (hb : BodyIn w bv l) (h4 : l.length = 4) : ∃ g off cap x0 x1 x2 x3, bv = .slice (some ⟨g, off, none⟩) 4 cap ∧ l = [x0, x1, x2, x3] ∧ g < w.heap.size ∧
    w.cell? ⟨g, off, none⟩ = some (.int .u8 x0.toNat) ∧ w.cell? ⟨g, off + 1, none⟩ = some (.int .u8 x1.toNat) ∧ w.cell? ⟨g, off + 2, none⟩ = some (.int .u8 x2.toNat) ∧ w.cell? ⟨g, off + 3, none⟩ = some (.int .u8 x3.toNat) := by
  rcases hb.is with ⟨rfl, _⟩ | ⟨g, off, cap, rfl, hg, hcap, hc⟩
  · simp at h4
  · match l, h4, hc with
    | [x0, x1, x2, x3], _, hc => exact ⟨g, off, cap, x0, x1, x2, x3, rfl, rfl, hg, by simpa using hc 0 (by simp), by simpa using hc 1 (by simp), by simpa using hc 2 (by simp), by simpa using hc 3 (by simp)⟩
theorem BodyIn.below {w w1 : World} {bv : Value} {l : List UInt8} (h : BodyIn w bv l) (hb : Below w.heap.size w w1) : BodyIn w1 bv l := by
  refine ⟨?_⟩
  rcases h.is with h | ⟨g, off, cap, e, hg, hcap, hc⟩
  · exact Or.inl h
  · exact Or.inr ⟨g, off, cap, e, Nat.lt_of_lt_of_le hg hb.size, hcap, fun i hi => (hb.cell (p := ⟨g, off + i, none⟩) hg).trans (hc i hi)⟩

theorem numberFrom_l (bv : Value) (l : List UInt8) (least : Int) (w : World) (hb : BodyIn w bv l) (h4 : l.length = 4) :
    Calls Try.prog 31 #[.int .u32 least, bv] w fun e w' => e = endVal (.int .i64 (num4 l)) (numCode l least) ∧ Below w.heap.size w w' := by
  obtain ⟨g, off, cap, x0, x1, x2, x3, rfl, rfl, hg, c0, c1, c2, c3⟩ := body_four hb h4
  refine (numberFrom_any g off 4 cap x0 x1 x2 x3 least w (by omega) c0 c1 c2 c3).mono ?_
  rintro e w' ⟨rfl, k, rfl⟩
  exact ⟨rfl, below_drewN (Below.refl _ _) k⟩
theorem number_l (bv : Value) (l : List UInt8) (w : World) (hb : BodyIn w bv l) (h4 : l.length = 4) :
    Calls Try.prog 30 #[bv] w fun e w' => e = .returned (.int .u32 (num4 l)) ∧ Below w.heap.size w w' := by
  obtain ⟨g, off, cap, x0, x1, x2, x3, rfl, rfl, hg, c0, c1, c2, c3⟩ := body_four hb h4
  refine (fnum_any g off 4 cap x0 x1 x2 x3 w (by omega) c0 c1 c2 c3).mono ?_
  rintro e w' ⟨rfl, k, rfl⟩
  exact ⟨rfl, below_drewN (Below.refl _ _) k⟩

set_option maxHeartbeats 800000 in
theorem settingOf_any (bv : Value) (l : List UInt8) (f s : Int) (w : World) (h0 : 0 ≤ f) (h1 : f < 256) (hb : BodyIn w bv l) (h4 : hasB f 1 = false → l.length = 4) :
    Calls Try.prog 29 #[.agg #[.int .i64 3, .int .i64 f, .int .i64 s, bv]] w fun e w' => e = endVal (.int .i64 (if hasB f 1 then 0 else num4 l)) (bodyCode 3 f l) ∧ Below w.heap.size w w' := by
  cases hf : hasB f 1 with
  | true =>
    have HH := hide (boxed_has 3 f s 1 bv w h0 h1 (Or.inl rfl) hf)
    have HE : Hid (endVal (.int .i64 0) (bodyCode 3 f l) = .returned (.int .i64 0)) := by
      have : bodyCode 3 f l = 0 := by simp [bodyCode, hf]
      show _ = _
      rw [this]; rfl
    clear hf h4 hb
    go_enter Try.func29, Try.ntmps29
    go_wp2_with fail
    refine HH.out.mono ?_
    rintro e w1 ⟨rfl, hb1, hr1⟩
    go_wp2
    go_ret
    exact ⟨HE.out.symm, hb1⟩
  | false =>
    have HH := hide (boxed_has 3 f s 1 bv w h0 h1 (Or.inl rfl) hf)
    have hbc : bodyCode 3 f l = numCode l 0 := by simp [bodyCode, hf]
    have HN := hide (fun (w1 : World) (hb1 : Below w.heap.size w w1) => numberFrom_l bv l 0 w1 (hb.below hb1) (h4 hf))
    rcases numCode_cases l 0 with hc | hc
    · have HE : Hid (endVal (.int .i64 (num4 l)) (bodyCode 3 f l) = .returned (.int .i64 (num4 l))) := by show _ = _; rw [hbc, hc]; rfl
      rw [hc, endVal0] at HN
      clear hf h4 hb hbc hc
      generalize num4 l = x at *
      go_enter Try.func29, Try.ntmps29
      go_wp2_with fail
      refine HH.out.mono ?_
      rintro e w1 ⟨rfl, hb1, hr1⟩
      obtain ⟨z0, z1, z2, z3⟩ := four_blk hr1
      have HN1 := hide (HN.out w1 hb1)
      go_wp2_with fail
      refine HN1.out.mono ?_
      rintro e w2 ⟨rfl, hb2⟩
      go_wp2
      go_ret
      exact ⟨HE.out.symm, hb1.trans (hb2.mono hb1.size)⟩
    · have HE : Hid (endVal (.int .i64 (num4 l)) (bodyCode 3 f l) = .panicked [{ v := .iface 32 (.int .i64 9), recovered := false }]) := by show _ = _; rw [hbc, hc]; rfl
      rw [hc, endVal_ne (by decide)] at HN
      clear hf h4 hb hbc hc
      generalize num4 l = x at *
      go_enter Try.func29, Try.ntmps29
      go_wp2_with fail
      refine HH.out.mono ?_
      rintro e w1 ⟨rfl, hb1, hr1⟩
      obtain ⟨z0, z1, z2, z3⟩ := four_blk hr1
      have HN1 := hide (HN.out w1 hb1)
      go_wp2_with fail
      refine HN1.out.mono ?_
      rintro e w2 ⟨rfl, hb2⟩
      exact ⟨rfl, HE.out.symm, hb1.trans (hb2.mono hb1.size)⟩

/-- The end of frameOf. -/
def Framed (w w' : World) (e : Ending) (k f s : Int) (bv : Value) (l : List UInt8) : Prop :=
  ((bodyCode k f l ≠ 0 ∧ e = .panicked [{ v := .iface 32 (.int .i64 (bodyCode k f l)), recovered := false }]) ∨ (bodyCode k f l = 0 ∧ ∃ cv, e = .returned (frV k f s bv cv l) ∧ (k = 0 → ContV f bv cv l))) ∧ Below w.heap.size w w'
theorem below_two (w : World) (o1 o2 : Obj) : Below w.heap.size w ((w.alloc o1).alloc o2) := ((Below.refl _ _).alloc (Nat.le_refl _) _).alloc (by simp) _

theorem BodyIn.slice {w : World} {bv : Value} {l : List UInt8} (h : BodyIn w bv l) : ∃ sa n cap, bv = .slice sa n cap := by
  rcases h.is with ⟨_, sa, cap, e⟩ | ⟨g, off, cap, e, _⟩
  · exact ⟨_, _, _, e⟩
  · exact ⟨_, _, _, e⟩

set_option maxRecDepth 100000 in
set_option maxHeartbeats 1600000 in
theorem frameOf_plain (bv : Value) (l : List UInt8) (k f s : Int) (w : World) (hsl : ∃ sa n cap, bv = .slice sa n cap) (k0 : ¬ k = 0) (k3 : ¬ k = 3) (k4 : ¬ k = 4) (k6 : ¬ k = 6) :
    Calls Try.prog 25 #[.agg #[.int .i64 k, .int .i64 f, .int .i64 s, bv]] w fun e w' => Framed w w' e k f s bv l := by
  obtain ⟨sa, n, cap, rfl⟩ := hsl
  have hbc : bodyCode k f l = 0 := by simp [bodyCode, k0, k3, k6]
  have HF : Hid (∀ w', Below w.heap.size w w' → Framed w w' (.returned (frV k f s (.slice sa n cap) (.slice sa n cap) l)) k f s (.slice sa n cap) l) := fun w' hb => ⟨Or.inr ⟨hbc, _, rfl, fun h => absurd h k0⟩, hb⟩
  clear hbc
  have HB := hide (below_two w (.cells #[.int .i64 k, .int .i64 f, .int .i64 s, .slice sa n cap] 26) (.cells #[.int .i64 k, .int .i64 f, .int .i64 s, .slice sa n cap] 71))
  by_cases k1 : k = 1
  · subst k1
    go_enter Try.func25, Try.ntmps25
    go_wp2
    go_ret
    exact HF.out _ HB.out
  by_cases k2 : k = 2
  · subst k2
    go_enter Try.func25, Try.ntmps25
    go_wp2
    go_ret
    exact HF.out _ HB.out
  by_cases k5 : k = 5
  · subst k5
    go_enter Try.func25, Try.ntmps25
    go_wp2
    go_ret
    exact HF.out _ HB.out
  by_cases k7 : k = 7
  · subst k7
    go_enter Try.func25, Try.ntmps25
    go_wp2
    go_ret
    exact HF.out _ HB.out
  have hfr : frV k f s (.slice sa n cap) (.slice sa n cap) l = .iface 90 (.agg #[.int .i64 k, .int .i64 f, .int .i64 s, .slice sa n cap]) := by simp [frV, k0, k1, k2, k3, k4, k5, k6, k7]
  rw [hfr] at HF
  clear hfr
  go_enter Try.func25, Try.ntmps25
  go_wp2
  go_ret
  exact HF.out _ HB.out

set_option maxRecDepth 100000 in
set_option maxHeartbeats 1600000 in
theorem frameOf_data (bv : Value) (l : List UInt8) (f s : Int) (w : World) (hl : l.length ≤ 64) (h0 : 0 ≤ f) (h1 : f < 256) (hb : BodyIn w bv l) :
    Calls Try.prog 25 #[.agg #[.int .i64 0, .int .i64 f, .int .i64 s, bv]] w fun e w' => Framed w w' e 0 f s bv l := by
  have hco := fun (w2 : World) (hb2 : Below w.heap.size w w2) => contentOf_any bv l f s w2 hl h0 h1 (hb.below hb2)
  obtain ⟨sa, n, cap, rfl⟩ := hb.slice
  have hb2 := below_two w (.cells #[.int .i64 0, .int .i64 f, .int .i64 s, .slice sa n cap] 26) (.cells #[.int .i64 0, .int .i64 f, .int .i64 s, .slice sa n cap] 71)
  have hr2 := heap_alloc_new (w.alloc (.cells #[.int .i64 0, .int .i64 f, .int .i64 s, .slice sa n cap] 26)) (.cells #[.int .i64 0, .int .i64 f, .int .i64 s, .slice sa n cap] 71)
  have hz : (w.alloc (.cells #[.int .i64 0, .int .i64 f, .int .i64 s, .slice sa n cap] 26)).heap.size = w.heap.size + 1 := by simp
  rw [hz] at hr2
  clear hz hb
  have hco2 := hco _ hb2
  obtain ⟨w2, hw2⟩ : ∃ w2, w2 = ((w.alloc (.cells #[.int .i64 0, .int .i64 f, .int .i64 s, .slice sa n cap] 26)).alloc (.cells #[.int .i64 0, .int .i64 f, .int .i64 s, .slice sa n cap] 71)) := ⟨_, rfl⟩
  rw [← hw2] at hb2 hr2 hco2
  have hb3 : Below w.heap.size w w2.drew := hb2.drew
  have hr3 : w2.drew.heap[w.heap.size + 1]? = some (.cells #[.int .i64 0, .int .i64 f, .int .i64 s, .slice sa n cap] 71 (0, 0)) := hr2
  have hlt3 := lt_of_block hr3
  obtain ⟨z0, z1, z2, z3⟩ := four_blk hr2
  have hcd := hco w2.drew hb3
  by_cases hz : bodyCode 0 f l = 0
  · have HC : Hid (Calls Try.prog 28 #[.agg #[.int .i64 0, .int .i64 f, .int .i64 s, .slice sa n cap]] w2.drew fun e w' => ∃ s1 n1 c1, e = .returned (.slice s1 n1 c1) ∧ ContV f (.slice sa n cap) (.slice s1 n1 c1) l ∧ Below w.heap.size w w' ∧ w'.heap[w.heap.size + 1]? = some (.cells #[.int .i64 0, .int .i64 f, .int .i64 s, .slice sa n cap] 71 (0, 0))) := by
      refine hcd.mono ?_
      rintro e w' ⟨h, hb⟩
      rcases h with ⟨h, _⟩ | ⟨_, cv, rfl, hcv⟩
      · exact absurd hz h
      · have hcs : ∃ s1 n1 c1, cv = .slice s1 n1 c1 := by
          unfold ContV at hcv
          split at hcv
          · obtain ⟨_, _, _, _, o, h, _⟩ := hcv
            exact ⟨_, _, _, h⟩
          · exact ⟨_, _, _, hcv⟩
        obtain ⟨s1, n1, c1, rfl⟩ := hcs
        exact ⟨s1, n1, c1, rfl, hcv, hb3.trans (hb.mono hb3.size), by rw [hb.block _ hlt3]; exact hr3⟩
    have HF : Hid (∀ cv w', Below w.heap.size w w' → ContV f (.slice sa n cap) cv l → Framed w w' (.returned (.iface 74 (.agg #[.int .i64 0, .int .i64 f, .int .i64 s, .slice sa n cap, cv]))) 0 f s (.slice sa n cap) l) := fun cv w' hb hcv => ⟨Or.inr ⟨hz, cv, rfl, fun _ => hcv⟩, hb⟩
    clear hco hcd hz hco2 hb2 hr2 hb3 hr3
    go_enter Try.func25, Try.ntmps25
    go_wp2
    rw [← hw2]
    clear hw2
    go_region_law (refine step_call rfl 28 Try.f28 Try.func28 (by kernel_rfl) rfl [.tmp 11] #[71] rfl [.agg #[.int .i64 0, .int .i64 f, .int .i64 s, .slice sa n cap]] (by simp [Act.eval, Act.put]) HC.out ?_; rintro e w3 ⟨s1, n1, c1, rfl, hcv, hb4, hr4⟩; refine ⟨_, rfl, ?_⟩; obtain ⟨y0, y1, y2, y3⟩ := four_blk hr4; have HV := hide (HF.out _ _ hb4 hcv); clear hcv hb4 hr4)
    all_goals go_wp2
    all_goals go_ret
    all_goals exact HV.out
  · have hz9 : bodyCode 0 f l = 9 := by rcases bodyCode_cases 0 f l with h | h; · exact absurd h hz
                                        · exact h
    have HC : Hid (Calls Try.prog 28 #[.agg #[.int .i64 0, .int .i64 f, .int .i64 s, .slice sa n cap]] w2.drew fun e w' => e = .panicked [{ v := .iface 32 (.int .i64 9), recovered := false }] ∧ Framed w w' e 0 f s (.slice sa n cap) l) := by
      refine hcd.mono ?_
      rintro e w' ⟨h, hb⟩
      rcases h with ⟨_, rfl⟩ | ⟨h, _⟩
      · exact ⟨rfl, Or.inl ⟨hz, by rw [hz9]⟩, hb3.trans (hb.mono hb3.size)⟩
      · exact absurd h hz
    clear hco hcd hz hz9 hco2 hb2 hr2 hb3 hr3
    go_enter Try.func25, Try.ntmps25
    go_wp2
    rw [← hw2]
    clear hw2
    go_region_law (first
      | (refine step_gone rfl 28 Try.f28 Try.func28 (by kernel_rfl) rfl [.tmp 11] #[71] rfl [.agg #[.int .i64 0, .int .i64 f, .int .i64 s, .slice sa n cap]] (by simp [Act.eval, Act.put]) HC.out (fun e w3 he => ⟨_, he.1, rfl, by rw [← he.1]; exact he.2⟩) (.slice none 0 0) ?_; intro hf; have HFL : Hid False := hf; clear hf))
    all_goals exact HFL.out.elim
end Go.Proofs.Ytjccnikmcoidhaa
