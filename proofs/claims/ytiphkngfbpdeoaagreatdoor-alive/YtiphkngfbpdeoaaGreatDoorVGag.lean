import Derived.Test.YtiphkngfbpdeoaaGreatDoorVGaf
import Derived.Test.YtiphkngfbpdeoaaGreatDoorVGaa
import Derived.Defers
import Derived.Recover
set_option linter.unusedVariables false
set_option linter.unusedSimpArgs false
namespace Go.Proofs.YtiphkngfbpdeoaaGreatDoor
set_option linter.unusedVariables false
set_option linter.unusedSimpArgs false
open Go.RowKit
def cutB (f : Int) (l : List UInt8) : List UInt8 := if hasB f 8 then (l.drop 1).take (l.length - 1 - (l.headD 0).toNat) else l
def frV (k f s : Int) (bv cv : Value) (l : List UInt8) : Value :=
  if k = 0 then .iface 155 (.agg #[.int .i64 k, .int .i64 f, .int .i64 s, bv, cv])
  else if k = 1 then .iface 158 (.agg #[.int .i64 k, .int .i64 f, .int .i64 s, bv, bv])
  else if k = 2 then .iface 164 (.agg #[.int .i64 k, .int .i64 f, .int .i64 s, bv])
  else if k = 3 then .iface 167 (.agg #[.int .i64 k, .int .i64 f, .int .i64 s, bv, .int .i64 (if hasB f 1 then 0 else num4 l)])
  else if k = 4 then .iface 170 (.agg #[.int .i64 k, .int .i64 f, .int .i64 s, bv, .int .u32 (num4 l)])
  else if k = 5 then .iface 172 (.agg #[.int .i64 k, .int .i64 f, .int .i64 s, bv])
  else if k = 6 then .iface 173 (.agg #[.int .i64 k, .int .i64 f, .int .i64 s, bv, .int .i64 (num4 l)])
  else if k = 7 then .iface 160 (.agg #[.int .i64 k, .int .i64 f, .int .i64 s, bv, bv])
  else .iface 175 (.agg #[.int .i64 k, .int .i64 f, .int .i64 s, bv])
structure BodyIn (w : World) (bv : Value) (l : List UInt8) : Prop where
  is : (l = [] ∧ ∃ sa cap, bv = .slice sa 0 cap) ∨ ∃ g off cap, bv = .slice (some ⟨g, off, none⟩) l.length cap ∧ g < w.heap.size ∧ l.length ≤ cap ∧ ∀ i, i < l.length → w.cell? ⟨g, off + i, none⟩ = some (.int .u8 (l.getD i 0).toNat)
def ContV (f : Int) (bv cv : Value) (l : List UInt8) : Prop := if hasB f 8 then ∃ g off cap, bv = .slice (some ⟨g, off, none⟩) l.length cap ∧ Cut g off cap (cutB f l).length cv else cv = bv
theorem cutB_len {f : Int} {p : UInt8} {r : List UInt8} (h : hasB f 8 = true) : (cutB f (p :: r)).length = r.length - p.toNat := by
  unfold cutB
  rw [h]
  simp
theorem contentOf_any (bv : Value) (l : List UInt8) (f s : Int) (w : World) (hl : l.length ≤ 64) (h0 : 0 ≤ f) (h1 : f < 256) (hb : BodyIn w bv l) :
    Calls Tryz.prog 112 #[.agg #[.int .i64 0, .int .i64 f, .int .i64 s, bv]] w fun e w' =>
      ((bodyCode 0 f l ≠ 0 ∧ e = .panicked [{ v := .iface 36 (.int .i64 9), recovered := false }]) ∨ (bodyCode 0 f l = 0 ∧ ∃ cv, e = .returned cv ∧ ContV f bv cv l)) ∧ Below w.heap.size w w' := by
  cases hf : hasB f 8 with
  | false =>
    refine (contentOf_bare 0 f s bv w h0 h1 hf).mono ?_
    rintro e w' ⟨rfl, hb1⟩
    exact ⟨Or.inr ⟨by simp [bodyCode, hf], _, rfl, by unfold ContV; rw [hf]; rfl⟩, hb1⟩
  | true =>
    cases l with
    | nil =>
      have hbv : ∃ sa cap, bv = .slice sa 0 cap := by
        rcases hb.is with ⟨_, h⟩ | ⟨g, off, cap, h, _⟩
        · exact h
        · exact ⟨_, _, h⟩
      obtain ⟨sa, cap, rfl⟩ := hbv
      refine (contentOf_none 0 f s sa cap w h0 h1 hf).mono ?_
      rintro e w' ⟨rfl, hb1⟩
      exact ⟨Or.inl ⟨by simp [bodyCode, hf, padCode], rfl⟩, hb1⟩
    | cons p r =>
      rcases hb.is with ⟨h, _⟩ | ⟨g, off, cap, rfl, hg, hcap, hc⟩
      · cases h
      refine (contentOf_pad g off cap p r 0 f s w (by simpa using hl) (by simpa using hcap) h0 h1 hg hf hc).mono ?_
      rintro e w' ⟨h, hb1⟩
      have hbc : bodyCode 0 f (p :: r) = padCode (p :: r) := by simp [bodyCode, hf]
      rw [hbc]
      refine ⟨?_, hb1⟩
      rcases h with h | ⟨h, cv, rfl, hcut⟩
      · exact Or.inl h
      · refine Or.inr ⟨h, cv, rfl, ?_⟩
        unfold ContV
        rw [hf]
        exact ⟨g, off, cap, rfl, by rw [cutB_len hf]; exact hcut⟩
theorem body_four {w : World} {bv : Value} {l : List UInt8} (hb : BodyIn w bv l) (h4 : l.length = 4) : ∃ g off cap x0 x1 x2 x3, bv = .slice (some ⟨g, off, none⟩) 4 cap ∧ l = [x0, x1, x2, x3] ∧ g < w.heap.size ∧
    w.cell? ⟨g, off, none⟩ = some (.int .u8 x0.toNat) ∧ w.cell? ⟨g, off + 1, none⟩ = some (.int .u8 x1.toNat) ∧ w.cell? ⟨g, off + 2, none⟩ = some (.int .u8 x2.toNat) ∧ w.cell? ⟨g, off + 3, none⟩ = some (.int .u8 x3.toNat) := by
  rcases hb.is with ⟨rfl, _⟩ | ⟨g, off, cap, rfl, hg, hcap, hc⟩
  · simp at h4
  · match l, h4, hc with
    | [x0, x1, x2, x3], _, hc => exact ⟨g, off, cap, x0, x1, x2, x3, rfl, rfl, hg, by simpa using hc 0 (by simp), by simpa using hc 1 (by simp), by simpa using hc 2 (by simp), by simpa using hc 3 (by simp)⟩
theorem BodyIn.below {w w1 : World} {bv : Value} {l : List UInt8} (h : BodyIn w bv l) (hb : Below w.heap.size w w1) : BodyIn w1 bv l := by
  refine ⟨?_⟩
  rcases h.is with h | ⟨g, off, cap, e, hg, hcap, hc⟩
  · exact Or.inl h
  · exact Or.inr ⟨g, off, cap, e, Nat.lt_of_lt_of_le hg hb.size, hcap, fun i hi => (hb.cell (p := ⟨g, off + i, none⟩) hg).trans (hc i hi)⟩
theorem numberFrom_l (bv : Value) (l : List UInt8) (least : Int) (w : World) (hb : BodyIn w bv l) (h4 : l.length = 4) :
    Calls Tryz.prog 115 #[.int .u32 least, bv] w fun e w' => e = endVal (.int .i64 (num4 l)) (numCode l least) ∧ Below w.heap.size w w' := by
  obtain ⟨g, off, cap, x0, x1, x2, x3, rfl, rfl, hg, c0, c1, c2, c3⟩ := body_four hb h4
  refine (numberFrom_any g off 4 cap x0 x1 x2 x3 least w (by omega) c0 c1 c2 c3).mono ?_
  rintro e w' ⟨rfl, k, rfl⟩
  exact ⟨rfl, below_drewN (Below.refl _ _) k⟩
theorem number_l (bv : Value) (l : List UInt8) (w : World) (hb : BodyIn w bv l) (h4 : l.length = 4) :
    Calls Tryz.prog 114 #[bv] w fun e w' => e = .returned (.int .u32 (num4 l)) ∧ Below w.heap.size w w' := by
  obtain ⟨g, off, cap, x0, x1, x2, x3, rfl, rfl, hg, c0, c1, c2, c3⟩ := body_four hb h4
  refine (fnum_any g off 4 cap x0 x1 x2 x3 w (by omega) c0 c1 c2 c3).mono ?_
  rintro e w' ⟨rfl, k, rfl⟩
  exact ⟨rfl, below_drewN (Below.refl _ _) k⟩
set_option maxHeartbeats 800000 in
theorem settingOf_any (bv : Value) (l : List UInt8) (f s : Int) (w : World) (h0 : 0 ≤ f) (h1 : f < 256) (hb : BodyIn w bv l) (h4 : hasB f 1 = false → l.length = 4) :
    Calls Tryz.prog 113 #[.agg #[.int .i64 3, .int .i64 f, .int .i64 s, bv]] w fun e w' => e = endVal (.int .i64 (if hasB f 1 then 0 else num4 l)) (bodyCode 3 f l) ∧ Below w.heap.size w w' := by
  cases hf : hasB f 1 with
  | true =>
    have HH := hide (boxed_has 3 f s 1 bv w h0 h1 (Or.inl rfl) hf)
    have HE : Hid (endVal (.int .i64 0) (bodyCode 3 f l) = .returned (.int .i64 0)) := by
      have : bodyCode 3 f l = 0 := by simp [bodyCode, hf]
      show _ = _
      rw [this]; rfl
    clear hf h4 hb
    go_enter Tryz.func113, Tryz.ntmps113
    go_wp2_with fail
    refine HH.out.mono ?_
    rintro e w1 ⟨rfl, hb1, hr1⟩
    go_wp2
    go_ret
    exact ⟨HE.out.symm, hb1⟩
  | false =>
    have HH := hide (boxed_has 3 f s 1 bv w h0 h1 (Or.inl rfl) hf)
    have hbc : bodyCode 3 f l = numCode l 0 := by simp [bodyCode, hf]
    have HN := hide (fun (w1 : World) (hb1 : Below w.heap.size w w1) => numberFrom_l bv l 0 w1 (hb.below hb1) (h4 hf))
    rcases numCode_cases l 0 with hc | hc
    · have HE : Hid (endVal (.int .i64 (num4 l)) (bodyCode 3 f l) = .returned (.int .i64 (num4 l))) := by show _ = _; rw [hbc, hc]; rfl
      rw [hc, endVal0] at HN
      clear hf h4 hb hbc hc
      generalize num4 l = x at *
      go_enter Tryz.func113, Tryz.ntmps113
      go_wp2_with fail
      refine HH.out.mono ?_
      rintro e w1 ⟨rfl, hb1, hr1⟩
      obtain ⟨z0, z1, z2, z3⟩ := four_blk hr1
      have HN1 := hide (HN.out w1 hb1)
      go_wp2_with fail
      refine HN1.out.mono ?_
      rintro e w2 ⟨rfl, hb2⟩
      go_wp2
      go_ret
      exact ⟨HE.out.symm, hb1.trans (hb2.mono hb1.size)⟩
    · have HE : Hid (endVal (.int .i64 (num4 l)) (bodyCode 3 f l) = .panicked [{ v := .iface 36 (.int .i64 9), recovered := false }]) := by show _ = _; rw [hbc, hc]; rfl
      rw [hc, endVal_ne (by decide)] at HN
      clear hf h4 hb hbc hc
      generalize num4 l = x at *
      go_enter Tryz.func113, Tryz.ntmps113
      go_wp2_with fail
      refine HH.out.mono ?_
      rintro e w1 ⟨rfl, hb1, hr1⟩
      obtain ⟨z0, z1, z2, z3⟩ := four_blk hr1
      have HN1 := hide (HN.out w1 hb1)
      go_wp2_with fail
      refine HN1.out.mono ?_
      rintro e w2 ⟨rfl, hb2⟩
      exact ⟨rfl, HE.out.symm, hb1.trans (hb2.mono hb1.size)⟩
def Framed (w w' : World) (e : Ending) (k f s : Int) (bv : Value) (l : List UInt8) : Prop :=
  ((bodyCode k f l ≠ 0 ∧ e = .panicked [{ v := .iface 36 (.int .i64 (bodyCode k f l)), recovered := false }]) ∨ (bodyCode k f l = 0 ∧ ∃ cv, e = .returned (frV k f s bv cv l) ∧ (k = 0 → ContV f bv cv l))) ∧ Below w.heap.size w w'
theorem below_two (w : World) (o1 o2 : Obj) : Below w.heap.size w ((w.alloc o1).alloc o2) := ((Below.refl _ _).alloc (Nat.le_refl _) _).alloc (by simp) _
theorem BodyIn.slice {w : World} {bv : Value} {l : List UInt8} (h : BodyIn w bv l) : ∃ sa n cap, bv = .slice sa n cap := by
  rcases h.is with ⟨_, sa, cap, e⟩ | ⟨g, off, cap, e, _⟩
  · exact ⟨_, _, _, e⟩
  · exact ⟨_, _, _, e⟩
set_option maxRecDepth 100000 in
set_option maxHeartbeats 1600000 in
theorem frameOf_plain (bv : Value) (l : List UInt8) (k f s : Int) (w : World) (hsl : ∃ sa n cap, bv = .slice sa n cap) (k0 : ¬ k = 0) (k3 : ¬ k = 3) (k4 : ¬ k = 4) (k6 : ¬ k = 6) :
    Calls Tryz.prog 78 #[.agg #[.int .i64 k, .int .i64 f, .int .i64 s, bv]] w fun e w' => Framed w w' e k f s bv l := by
  obtain ⟨sa, n, cap, rfl⟩ := hsl
  have hbc : bodyCode k f l = 0 := by simp [bodyCode, k0, k3, k6]
  have HF : Hid (∀ w', Below w.heap.size w w' → Framed w w' (.returned (frV k f s (.slice sa n cap) (.slice sa n cap) l)) k f s (.slice sa n cap) l) := fun w' hb => ⟨Or.inr ⟨hbc, _, rfl, fun h => absurd h k0⟩, hb⟩
  clear hbc
  have HB := hide (below_two w (.cells #[.int .i64 k, .int .i64 f, .int .i64 s, .slice sa n cap] 105) (.cells #[.int .i64 k, .int .i64 f, .int .i64 s, .slice sa n cap] 153))
  by_cases k1 : k = 1
  · subst k1
    go_enter Tryz.func78, Tryz.ntmps78
    go_wp2
    go_ret
    exact HF.out _ HB.out
  by_cases k2 : k = 2
  · subst k2
    go_enter Tryz.func78, Tryz.ntmps78
    go_wp2
    go_ret
    exact HF.out _ HB.out
  by_cases k5 : k = 5
  · subst k5
    go_enter Tryz.func78, Tryz.ntmps78
    go_wp2
    go_ret
    exact HF.out _ HB.out
  by_cases k7 : k = 7
  · subst k7
    go_enter Tryz.func78, Tryz.ntmps78
    go_wp2
    go_ret
    exact HF.out _ HB.out
  have hfr : frV k f s (.slice sa n cap) (.slice sa n cap) l = .iface 175 (.agg #[.int .i64 k, .int .i64 f, .int .i64 s, .slice sa n cap]) := by simp [frV, k0, k1, k2, k3, k4, k5, k6, k7]
  rw [hfr] at HF
  clear hfr
  go_enter Tryz.func78, Tryz.ntmps78
  go_wp2
  go_ret
  exact HF.out _ HB.out
set_option maxRecDepth 100000 in
set_option maxHeartbeats 1600000 in
theorem frameOf_data (bv : Value) (l : List UInt8) (f s : Int) (w : World) (hl : l.length ≤ 64) (h0 : 0 ≤ f) (h1 : f < 256) (hb : BodyIn w bv l) :
    Calls Tryz.prog 78 #[.agg #[.int .i64 0, .int .i64 f, .int .i64 s, bv]] w fun e w' => Framed w w' e 0 f s bv l := by
  have hco := fun (w2 : World) (hb2 : Below w.heap.size w w2) => contentOf_any bv l f s w2 hl h0 h1 (hb.below hb2)
  obtain ⟨sa, n, cap, rfl⟩ := hb.slice
  have hb2 := below_two w (.cells #[.int .i64 0, .int .i64 f, .int .i64 s, .slice sa n cap] 105) (.cells #[.int .i64 0, .int .i64 f, .int .i64 s, .slice sa n cap] 153)
  have hr2 := heap_alloc_new (w.alloc (.cells #[.int .i64 0, .int .i64 f, .int .i64 s, .slice sa n cap] 105)) (.cells #[.int .i64 0, .int .i64 f, .int .i64 s, .slice sa n cap] 153)
  have hz : (w.alloc (.cells #[.int .i64 0, .int .i64 f, .int .i64 s, .slice sa n cap] 105)).heap.size = w.heap.size + 1 := by simp
  rw [hz] at hr2
  clear hz hb
  have hco2 := hco _ hb2
  obtain ⟨w2, hw2⟩ : ∃ w2, w2 = ((w.alloc (.cells #[.int .i64 0, .int .i64 f, .int .i64 s, .slice sa n cap] 105)).alloc (.cells #[.int .i64 0, .int .i64 f, .int .i64 s, .slice sa n cap] 153)) := ⟨_, rfl⟩
  rw [← hw2] at hb2 hr2 hco2
  have hb3 : Below w.heap.size w w2.drew := hb2.drew
  have hr3 : w2.drew.heap[w.heap.size + 1]? = some (.cells #[.int .i64 0, .int .i64 f, .int .i64 s, .slice sa n cap] 153 (0, 0)) := hr2
  have hlt3 := lt_of_block hr3
  obtain ⟨z0, z1, z2, z3⟩ := four_blk hr2
  have hcd := hco w2.drew hb3
  by_cases hz : bodyCode 0 f l = 0
  · have HC : Hid (Calls Tryz.prog 112 #[.agg #[.int .i64 0, .int .i64 f, .int .i64 s, .slice sa n cap]] w2.drew fun e w' => ∃ s1 n1 c1, e = .returned (.slice s1 n1 c1) ∧ ContV f (.slice sa n cap) (.slice s1 n1 c1) l ∧ Below w.heap.size w w' ∧ w'.heap[w.heap.size + 1]? = some (.cells #[.int .i64 0, .int .i64 f, .int .i64 s, .slice sa n cap] 153 (0, 0))) := by
      refine hcd.mono ?_
      rintro e w' ⟨h, hb⟩
      rcases h with ⟨h, _⟩ | ⟨_, cv, rfl, hcv⟩
      · exact absurd hz h
      · have hcs : ∃ s1 n1 c1, cv = .slice s1 n1 c1 := by
          unfold ContV at hcv
          split at hcv
          · obtain ⟨_, _, _, _, o, h, _⟩ := hcv
            exact ⟨_, _, _, h⟩
          · exact ⟨_, _, _, hcv⟩
        obtain ⟨s1, n1, c1, rfl⟩ := hcs
        exact ⟨s1, n1, c1, rfl, hcv, hb3.trans (hb.mono hb3.size), by rw [hb.block _ hlt3]; exact hr3⟩
    have HF : Hid (∀ cv w', Below w.heap.size w w' → ContV f (.slice sa n cap) cv l → Framed w w' (.returned (.iface 155 (.agg #[.int .i64 0, .int .i64 f, .int .i64 s, .slice sa n cap, cv]))) 0 f s (.slice sa n cap) l) := fun cv w' hb hcv => ⟨Or.inr ⟨hz, cv, rfl, fun _ => hcv⟩, hb⟩
    clear hco hcd hz hco2 hb2 hr2 hb3 hr3
    go_enter Tryz.func78, Tryz.ntmps78
    go_wp2
    rw [← hw2]
    clear hw2
    go_region_law (refine step_call rfl 112 Tryz.f112 Tryz.func112 (by kernel_rfl) rfl [.tmp 11] #[153] rfl [.agg #[.int .i64 0, .int .i64 f, .int .i64 s, .slice sa n cap]] (by simp [Act.eval, Act.put]) HC.out ?_; rintro e w3 ⟨s1, n1, c1, rfl, hcv, hb4, hr4⟩; refine ⟨_, rfl, ?_⟩; obtain ⟨y0, y1, y2, y3⟩ := four_blk hr4; have HV := hide (HF.out _ _ hb4 hcv); clear hcv hb4 hr4)
    all_goals go_wp2
    all_goals go_ret
    all_goals exact HV.out
  · have hz9 : bodyCode 0 f l = 9 := by rcases bodyCode_cases 0 f l with h | h; · exact absurd h hz
                                        · exact h
    have HC : Hid (Calls Tryz.prog 112 #[.agg #[.int .i64 0, .int .i64 f, .int .i64 s, .slice sa n cap]] w2.drew fun e w' => e = .panicked [{ v := .iface 36 (.int .i64 9), recovered := false }] ∧ Framed w w' e 0 f s (.slice sa n cap) l) := by
      refine hcd.mono ?_
      rintro e w' ⟨h, hb⟩
      rcases h with ⟨_, rfl⟩ | ⟨h, _⟩
      · exact ⟨rfl, Or.inl ⟨hz, by rw [hz9]⟩, hb3.trans (hb.mono hb3.size)⟩
      · exact absurd h hz
    clear hco hcd hz hz9 hco2 hb2 hr2 hb3 hr3
    go_enter Tryz.func78, Tryz.ntmps78
    go_wp2
    rw [← hw2]
    clear hw2
    go_region_law (first
      | (refine step_gone rfl 112 Tryz.f112 Tryz.func112 (by kernel_rfl) rfl [.tmp 11] #[153] rfl [.agg #[.int .i64 0, .int .i64 f, .int .i64 s, .slice sa n cap]] (by simp [Act.eval, Act.put]) HC.out (fun e w3 he => ⟨_, he.1, rfl, by rw [← he.1]; exact he.2⟩) (.slice none 0 0) ?_; intro hf; have HFL : Hid False := hf; clear hf))
    all_goals exact HFL.out.elim
end Go.Proofs.YtiphkngfbpdeoaaGreatDoor
namespace Go.Proofs.YtiphkngfbpdeoaaGreatDoor
set_option linter.unusedVariables false
set_option linter.unusedSimpArgs false
open Go.RowKit
theorem bodyCode_six (f : Int) (l : List UInt8) : bodyCode 6 f l = numCode l 1 := by simp [bodyCode]
set_option maxRecDepth 100000 in
set_option maxHeartbeats 1600000 in
theorem frameOf_settings (bv : Value) (l : List UInt8) (f s : Int) (w : World) (h0 : 0 ≤ f) (h1 : f < 256) (hb : BodyIn w bv l) (h4 : hasB f 1 = false → l.length = 4) :
    Calls Tryz.prog 78 #[.agg #[.int .i64 3, .int .i64 f, .int .i64 s, bv]] w fun e w' => Framed w w' e 3 f s bv l := by
  have hco := fun (w2 : World) (hb2 : Below w.heap.size w w2) => settingOf_any bv l f s w2 h0 h1 (hb.below hb2) h4
  obtain ⟨sa, n, cap, rfl⟩ := hb.slice
  have hb2 := below_two w (.cells #[.int .i64 3, .int .i64 f, .int .i64 s, .slice sa n cap] 105) (.cells #[.int .i64 3, .int .i64 f, .int .i64 s, .slice sa n cap] 153)
  have hr2 := heap_alloc_new (w.alloc (.cells #[.int .i64 3, .int .i64 f, .int .i64 s, .slice sa n cap] 105)) (.cells #[.int .i64 3, .int .i64 f, .int .i64 s, .slice sa n cap] 153)
  have hq2 : ((w.alloc (.cells #[.int .i64 3, .int .i64 f, .int .i64 s, .slice sa n cap] 105)).alloc (.cells #[.int .i64 3, .int .i64 f, .int .i64 s, .slice sa n cap] 153)).heap[w.heap.size]? = some (.cells #[.int .i64 3, .int .i64 f, .int .i64 s, .slice sa n cap] 105 (0, 0)) := by
    rw [((Below.refl _ (w.alloc (.cells #[.int .i64 3, .int .i64 f, .int .i64 s, .slice sa n cap] 105))).alloc (Nat.le_refl _) (.cells #[.int .i64 3, .int .i64 f, .int .i64 s, .slice sa n cap] 153)).block _ (by simp)]
    exact heap_alloc_new w _
  have hz : (w.alloc (.cells #[.int .i64 3, .int .i64 f, .int .i64 s, .slice sa n cap] 105)).heap.size = w.heap.size + 1 := by simp
  rw [hz] at hr2
  clear hz hb
  obtain ⟨w2, hw2⟩ : ∃ w2, w2 = ((w.alloc (.cells #[.int .i64 3, .int .i64 f, .int .i64 s, .slice sa n cap] 105)).alloc (.cells #[.int .i64 3, .int .i64 f, .int .i64 s, .slice sa n cap] 153)) := ⟨_, rfl⟩
  rw [← hw2] at hb2 hr2 hq2
  have hb3 : Below w.heap.size w w2.drew := hb2.drew
  have hr3 : w2.drew.heap[w.heap.size + 1]? = some (.cells #[.int .i64 3, .int .i64 f, .int .i64 s, .slice sa n cap] 153 (0, 0)) := hr2
  have hq3 : w2.drew.heap[w.heap.size]? = some (.cells #[.int .i64 3, .int .i64 f, .int .i64 s, .slice sa n cap] 105 (0, 0)) := hq2
  have hlt3 := lt_of_block hr3
  have hlq3 := lt_of_block hq3
  obtain ⟨z0, z1, z2, z3⟩ := four_blk hr2
  obtain ⟨q0, q1, q2, q3⟩ := four_blk hq2
  have hcd := hco w2.drew hb3
  by_cases hz : bodyCode 3 f l = 0
  · have HC : Hid (Calls Tryz.prog 113 #[.agg #[.int .i64 3, .int .i64 f, .int .i64 s, .slice sa n cap]] w2.drew fun e w' => e = .returned (.int .i64 (if hasB f 1 then 0 else num4 l)) ∧ Below w.heap.size w w' ∧ w'.heap[w.heap.size + 1]? = some (.cells #[.int .i64 3, .int .i64 f, .int .i64 s, .slice sa n cap] 153 (0, 0)) ∧ w'.heap[w.heap.size]? = some (.cells #[.int .i64 3, .int .i64 f, .int .i64 s, .slice sa n cap] 105 (0, 0))) := by
      refine hcd.mono ?_
      rintro e w' ⟨rfl, hb⟩
      exact ⟨by rw [hz, endVal0], hb3.trans (hb.mono hb3.size), by rw [hb.block _ hlt3]; exact hr3, by rw [hb.block _ hlq3]; exact hq3⟩
    have HF : Hid (∀ w', Below w.heap.size w w' → Framed w w' (.returned (.iface 167 (.agg #[.int .i64 3, .int .i64 f, .int .i64 s, .slice sa n cap, .int .i64 (if hasB f 1 then 0 else num4 l)]))) 3 f s (.slice sa n cap) l) := fun w' hb => ⟨Or.inr ⟨hz, .slice none 0 0, rfl, fun h => absurd h (by decide)⟩, hb⟩
    clear hco hcd hz hb2 hr2 hb3 hr3 hq2 hq3
    generalize (if hasB f 1 = true then 0 else num4 l) = x at *
    go_enter Tryz.func78, Tryz.ntmps78
    go_wp2
    rw [← hw2]
    clear hw2
    go_region_law (refine step_call rfl 113 Tryz.f113 Tryz.func113 (by kernel_rfl) rfl [.tmp 30] #[153] rfl [.agg #[.int .i64 3, .int .i64 f, .int .i64 s, .slice sa n cap]] (by simp [Act.eval, Act.put]) HC.out ?_; rintro e w3 ⟨rfl, hb4, hr4, hq4⟩; refine ⟨_, rfl, ?_⟩; obtain ⟨y0, y1, y2, y3⟩ := four_blk hr4; obtain ⟨x0, x1, x2, x3⟩ := four_blk hq4; have HV := hide (HF.out _ hb4); clear hb4 hr4 hq4)
    all_goals go_wp2
    all_goals go_ret
    all_goals exact HV.out
  · have hz9 : bodyCode 3 f l = 9 := by rcases bodyCode_cases 3 f l with h | h; · exact absurd h hz
                                        · exact h
    have HC : Hid (Calls Tryz.prog 113 #[.agg #[.int .i64 3, .int .i64 f, .int .i64 s, .slice sa n cap]] w2.drew fun e w' => e = .panicked [{ v := .iface 36 (.int .i64 9), recovered := false }] ∧ Framed w w' e 3 f s (.slice sa n cap) l) := by
      refine hcd.mono ?_
      rintro e w' ⟨rfl, hb⟩
      rw [hz9, endVal_ne (by decide)]
      exact ⟨rfl, Or.inl ⟨hz, by rw [hz9]⟩, hb3.trans (hb.mono hb3.size)⟩
    clear hco hcd hz hz9 hb2 hr2 hb3 hr3 hq2 hq3
    go_enter Tryz.func78, Tryz.ntmps78
    go_wp2
    rw [← hw2]
    clear hw2
    go_region_law (first
      | (refine step_gone rfl 113 Tryz.f113 Tryz.func113 (by kernel_rfl) rfl [.tmp 30] #[153] rfl [.agg #[.int .i64 3, .int .i64 f, .int .i64 s, .slice sa n cap]] (by simp [Act.eval, Act.put]) HC.out (fun e w3 he => ⟨_, he.1, rfl, by rw [← he.1]; exact he.2⟩) (.int .i64 0) ?_; intro hf; have HFL : Hid False := hf; clear hf))
    all_goals exact HFL.out.elim
set_option maxRecDepth 100000 in
set_option maxHeartbeats 1600000 in
theorem frameOf_ping (bv : Value) (l : List UInt8) (f s : Int) (w : World) (h0 : 0 ≤ f) (h1 : f < 256) (hb : BodyIn w bv l) (h4 : l.length = 4) :
    Calls Tryz.prog 78 #[.agg #[.int .i64 4, .int .i64 f, .int .i64 s, bv]] w fun e w' => Framed w w' e 4 f s bv l := by
  have hco := fun (w2 : World) (hb2 : Below w.heap.size w w2) => number_l bv l w2 (hb.below hb2) h4
  obtain ⟨sa, n, cap, rfl⟩ := hb.slice
  have hb2 := below_two w (.cells #[.int .i64 4, .int .i64 f, .int .i64 s, .slice sa n cap] 105) (.cells #[.int .i64 4, .int .i64 f, .int .i64 s, .slice sa n cap] 153)
  have hr2 := heap_alloc_new (w.alloc (.cells #[.int .i64 4, .int .i64 f, .int .i64 s, .slice sa n cap] 105)) (.cells #[.int .i64 4, .int .i64 f, .int .i64 s, .slice sa n cap] 153)
  have hq2 : ((w.alloc (.cells #[.int .i64 4, .int .i64 f, .int .i64 s, .slice sa n cap] 105)).alloc (.cells #[.int .i64 4, .int .i64 f, .int .i64 s, .slice sa n cap] 153)).heap[w.heap.size]? = some (.cells #[.int .i64 4, .int .i64 f, .int .i64 s, .slice sa n cap] 105 (0, 0)) := by
    rw [((Below.refl _ (w.alloc (.cells #[.int .i64 4, .int .i64 f, .int .i64 s, .slice sa n cap] 105))).alloc (Nat.le_refl _) (.cells #[.int .i64 4, .int .i64 f, .int .i64 s, .slice sa n cap] 153)).block _ (by simp)]
    exact heap_alloc_new w _
  have hz : (w.alloc (.cells #[.int .i64 4, .int .i64 f, .int .i64 s, .slice sa n cap] 105)).heap.size = w.heap.size + 1 := by simp
  rw [hz] at hr2
  clear hz hb
  obtain ⟨w2, hw2⟩ : ∃ w2, w2 = ((w.alloc (.cells #[.int .i64 4, .int .i64 f, .int .i64 s, .slice sa n cap] 105)).alloc (.cells #[.int .i64 4, .int .i64 f, .int .i64 s, .slice sa n cap] 153)) := ⟨_, rfl⟩
  rw [← hw2] at hb2 hr2 hq2
  have hb3 : Below w.heap.size w w2.drew := hb2.drew
  have hr3 : w2.drew.heap[w.heap.size + 1]? = some (.cells #[.int .i64 4, .int .i64 f, .int .i64 s, .slice sa n cap] 153 (0, 0)) := hr2
  have hq3 : w2.drew.heap[w.heap.size]? = some (.cells #[.int .i64 4, .int .i64 f, .int .i64 s, .slice sa n cap] 105 (0, 0)) := hq2
  have hlt3 := lt_of_block hr3
  have hlq3 := lt_of_block hq3
  obtain ⟨z0, z1, z2, z3⟩ := four_blk hr2
  obtain ⟨q0, q1, q2, q3⟩ := four_blk hq2
  have hcd := hco w2.drew hb3
  by_cases hz : bodyCode 4 f l = 0
  · have HC : Hid (Calls Tryz.prog 114 #[.slice sa n cap] w2.drew fun e w' => e = .returned (.int .u32 (num4 l)) ∧ Below w.heap.size w w' ∧ w'.heap[w.heap.size + 1]? = some (.cells #[.int .i64 4, .int .i64 f, .int .i64 s, .slice sa n cap] 153 (0, 0)) ∧ w'.heap[w.heap.size]? = some (.cells #[.int .i64 4, .int .i64 f, .int .i64 s, .slice sa n cap] 105 (0, 0))) := by
      refine hcd.mono ?_
      rintro e w' ⟨rfl, hb⟩
      exact ⟨rfl, hb3.trans (hb.mono hb3.size), by rw [hb.block _ hlt3]; exact hr3, by rw [hb.block _ hlq3]; exact hq3⟩
    have HF : Hid (∀ w', Below w.heap.size w w' → Framed w w' (.returned (.iface 170 (.agg #[.int .i64 4, .int .i64 f, .int .i64 s, .slice sa n cap, .int .u32 (num4 l)]))) 4 f s (.slice sa n cap) l) := fun w' hb => ⟨Or.inr ⟨hz, .slice none 0 0, rfl, fun h => absurd h (by decide)⟩, hb⟩
    clear hco hcd hz hb2 hr2 hb3 hr3 hq2 hq3
    generalize num4 l = x at *
    go_enter Tryz.func78, Tryz.ntmps78
    go_wp2
    rw [← hw2]
    clear hw2
    go_region_law (refine step_call rfl 114 Tryz.f114 Tryz.func114 (by kernel_rfl) rfl [.tmp 38] #[38] rfl [.slice sa n cap] (by simp [Act.eval, Act.put]) HC.out ?_; rintro e w3 ⟨rfl, hb4, hr4, hq4⟩; refine ⟨_, rfl, ?_⟩; obtain ⟨y0, y1, y2, y3⟩ := four_blk hr4; obtain ⟨x0, x1, x2, x3⟩ := four_blk hq4; have HV := hide (HF.out _ hb4); clear hb4 hr4 hq4)
    all_goals go_wp2
    all_goals go_ret
    all_goals exact HV.out
  · exact absurd (by simp [bodyCode]) hz
set_option maxRecDepth 100000 in
set_option maxHeartbeats 1600000 in
theorem frameOf_credit (bv : Value) (l : List UInt8) (f s : Int) (w : World) (h0 : 0 ≤ f) (h1 : f < 256) (hb : BodyIn w bv l) (h4 : l.length = 4) :
    Calls Tryz.prog 78 #[.agg #[.int .i64 6, .int .i64 f, .int .i64 s, bv]] w fun e w' => Framed w w' e 6 f s bv l := by
  have hco := fun (w2 : World) (hb2 : Below w.heap.size w w2) => numberFrom_l bv l 1 w2 (hb.below hb2) h4
  obtain ⟨sa, n, cap, rfl⟩ := hb.slice
  have hb2 := below_two w (.cells #[.int .i64 6, .int .i64 f, .int .i64 s, .slice sa n cap] 105) (.cells #[.int .i64 6, .int .i64 f, .int .i64 s, .slice sa n cap] 153)
  have hr2 := heap_alloc_new (w.alloc (.cells #[.int .i64 6, .int .i64 f, .int .i64 s, .slice sa n cap] 105)) (.cells #[.int .i64 6, .int .i64 f, .int .i64 s, .slice sa n cap] 153)
  have hq2 : ((w.alloc (.cells #[.int .i64 6, .int .i64 f, .int .i64 s, .slice sa n cap] 105)).alloc (.cells #[.int .i64 6, .int .i64 f, .int .i64 s, .slice sa n cap] 153)).heap[w.heap.size]? = some (.cells #[.int .i64 6, .int .i64 f, .int .i64 s, .slice sa n cap] 105 (0, 0)) := by
    rw [((Below.refl _ (w.alloc (.cells #[.int .i64 6, .int .i64 f, .int .i64 s, .slice sa n cap] 105))).alloc (Nat.le_refl _) (.cells #[.int .i64 6, .int .i64 f, .int .i64 s, .slice sa n cap] 153)).block _ (by simp)]
    exact heap_alloc_new w _
  have hz : (w.alloc (.cells #[.int .i64 6, .int .i64 f, .int .i64 s, .slice sa n cap] 105)).heap.size = w.heap.size + 1 := by simp
  rw [hz] at hr2
  clear hz hb
  obtain ⟨w2, hw2⟩ : ∃ w2, w2 = ((w.alloc (.cells #[.int .i64 6, .int .i64 f, .int .i64 s, .slice sa n cap] 105)).alloc (.cells #[.int .i64 6, .int .i64 f, .int .i64 s, .slice sa n cap] 153)) := ⟨_, rfl⟩
  rw [← hw2] at hb2 hr2 hq2
  have hb3 : Below w.heap.size w w2.drew := hb2.drew
  have hr3 : w2.drew.heap[w.heap.size + 1]? = some (.cells #[.int .i64 6, .int .i64 f, .int .i64 s, .slice sa n cap] 153 (0, 0)) := hr2
  have hq3 : w2.drew.heap[w.heap.size]? = some (.cells #[.int .i64 6, .int .i64 f, .int .i64 s, .slice sa n cap] 105 (0, 0)) := hq2
  have hlt3 := lt_of_block hr3
  have hlq3 := lt_of_block hq3
  obtain ⟨z0, z1, z2, z3⟩ := four_blk hr2
  obtain ⟨q0, q1, q2, q3⟩ := four_blk hq2
  have hcd := hco w2.drew hb3
  by_cases hz : bodyCode 6 f l = 0
  · have HC : Hid (Calls Tryz.prog 115 #[.int .u32 1, .slice sa n cap] w2.drew fun e w' => e = .returned (.int .i64 (num4 l)) ∧ Below w.heap.size w w' ∧ w'.heap[w.heap.size + 1]? = some (.cells #[.int .i64 6, .int .i64 f, .int .i64 s, .slice sa n cap] 153 (0, 0)) ∧ w'.heap[w.heap.size]? = some (.cells #[.int .i64 6, .int .i64 f, .int .i64 s, .slice sa n cap] 105 (0, 0))) := by
      refine hcd.mono ?_
      rintro e w' ⟨rfl, hb⟩
      exact ⟨by rw [← bodyCode_six f l, hz, endVal0], hb3.trans (hb.mono hb3.size), by rw [hb.block _ hlt3]; exact hr3, by rw [hb.block _ hlq3]; exact hq3⟩
    have HF : Hid (∀ w', Below w.heap.size w w' → Framed w w' (.returned (.iface 173 (.agg #[.int .i64 6, .int .i64 f, .int .i64 s, .slice sa n cap, .int .i64 (num4 l)]))) 6 f s (.slice sa n cap) l) := fun w' hb => ⟨Or.inr ⟨hz, .slice none 0 0, rfl, fun h => absurd h (by decide)⟩, hb⟩
    clear hco hcd hz hb2 hr2 hb3 hr3 hq2 hq3
    generalize num4 l = x at *
    go_enter Tryz.func78, Tryz.ntmps78
    go_wp2
    rw [← hw2]
    clear hw2
    go_region_law (refine step_call rfl 115 Tryz.f115 Tryz.func115 (by kernel_rfl) rfl [.const (.int .u32 1), .tmp 51] #[68, 38] rfl [.int .u32 1, .slice sa n cap] (by simp [Act.eval, Act.put]) HC.out ?_; rintro e w3 ⟨rfl, hb4, hr4, hq4⟩; refine ⟨_, rfl, ?_⟩; obtain ⟨y0, y1, y2, y3⟩ := four_blk hr4; obtain ⟨x0, x1, x2, x3⟩ := four_blk hq4; have HV := hide (HF.out _ hb4); clear hb4 hr4 hq4)
    all_goals go_wp2
    all_goals go_ret
    all_goals exact HV.out
  · have hz9 : bodyCode 6 f l = 9 := by rcases bodyCode_cases 6 f l with h | h; · exact absurd h hz
                                        · exact h
    have HC : Hid (Calls Tryz.prog 115 #[.int .u32 1, .slice sa n cap] w2.drew fun e w' => e = .panicked [{ v := .iface 36 (.int .i64 9), recovered := false }] ∧ Framed w w' e 6 f s (.slice sa n cap) l) := by
      refine hcd.mono ?_
      rintro e w' ⟨rfl, hb⟩
      rw [← bodyCode_six f l, hz9, endVal_ne (by decide)]
      exact ⟨rfl, Or.inl ⟨hz, by rw [hz9]⟩, hb3.trans (hb.mono hb3.size)⟩
    clear hco hcd hz hz9 hb2 hr2 hb3 hr3 hq2 hq3
    go_enter Tryz.func78, Tryz.ntmps78
    go_wp2
    rw [← hw2]
    clear hw2
    go_region_law (first
      | (refine step_gone rfl 115 Tryz.f115 Tryz.func115 (by kernel_rfl) rfl [.const (.int .u32 1), .tmp 51] #[68, 38] rfl [.int .u32 1, .slice sa n cap] (by simp [Act.eval, Act.put]) HC.out (fun e w3 he => ⟨_, he.1, rfl, by rw [← he.1]; exact he.2⟩) (.int .i64 0) ?_; intro hf; have HFL : Hid False := hf; clear hf))
    all_goals exact HFL.out.elim
theorem frameOf_any (bv : Value) (l : List UInt8) (k f s : Int) (w : World) (hl : l.length ≤ 64) (h0 : 0 ≤ f) (h1 : f < 256) (hb : BodyIn w bv l) (h4 : (k = 3 ∧ hasB f 1 = false) ∨ k = 4 ∨ k = 6 → l.length = 4) :
    Calls Tryz.prog 78 #[.agg #[.int .i64 k, .int .i64 f, .int .i64 s, bv]] w fun e w' => Framed w w' e k f s bv l := by
  by_cases k0 : k = 0
  · subst k0; exact frameOf_data bv l f s w hl h0 h1 hb
  by_cases k3 : k = 3
  · subst k3; exact frameOf_settings bv l f s w h0 h1 hb (fun h => h4 (Or.inl ⟨rfl, h⟩))
  by_cases k4 : k = 4
  · subst k4; exact frameOf_ping bv l f s w h0 h1 hb (h4 (Or.inr (Or.inl rfl)))
  by_cases k6 : k = 6
  · subst k6; exact frameOf_credit bv l f s w h0 h1 hb (h4 (Or.inr (Or.inr rfl)))
  exact frameOf_plain bv l k f s w hb.slice k0 k3 k4 k6
end Go.Proofs.YtiphkngfbpdeoaaGreatDoor
namespace Go.Proofs.YtiphkngfbpdeoaaGreatDoor
set_option linter.unusedVariables false
set_option linter.unusedSimpArgs false
open Go.RowKit
structure RdG (w : World) (rb o : Nat) (T : TypeId) (cs : Array Value) (gv : Value) (L K F S : Int) : Prop where
  blk : w.heap[rb]? = some (.cells cs T (0, 0))
  ty : 5 ≠ T
  c0 : cs[o]? = some gv
  c1 : cs[o + 1]? = some (.int .i64 L)
  c2 : cs[o + 2]? = some (.int .i64 K)
  c3 : cs[o + 3]? = some (.int .i64 F)
  c4 : cs[o + 4]? = some (.int .i64 S)
def Alike (o : Nat) (cs cs' : Array Value) : Prop := cs'.size = cs.size ∧ ∀ i, i < o ∨ o + 5 ≤ i → cs'[i]? = cs[i]?
theorem Alike.refl (o : Nat) (cs : Array Value) : Alike o cs cs := ⟨rfl, fun _ _ => rfl⟩
theorem Alike.trans {o : Nat} {a b c : Array Value} (h : Alike o a b) (h2 : Alike o b c) : Alike o a c := ⟨h2.1.trans h.1, fun i hi => (h2.2 i hi).trans (h.2 i hi)⟩
theorem Alike.set {o : Nat} {cs : Array Value} (j : Nat) (hj : o ≤ j ∧ j < o + 5) (u : Value) : Alike o cs (cs.setIfInBounds j u) := by
  refine ⟨by simp, fun i hi => ?_⟩
  rw [Array.getElem?_setIfInBounds_ne (by omega)]
theorem RdG.lt {w : World} {rb o : Nat} {T : TypeId} {cs : Array Value} {gv : Value} {L K F S : Int} (h : RdG w rb o T cs gv L K F S) : rb < w.heap.size := lt_of_block h.blk
theorem RdG.cells {w : World} {rb o : Nat} {T : TypeId} {cs : Array Value} {gv : Value} {L K F S : Int} (h : RdG w rb o T cs gv L K F S) :
    w.cell? ⟨rb, o, none⟩ = some gv ∧ w.cell? ⟨rb, o + 1, none⟩ = some (.int .i64 L) ∧ w.cell? ⟨rb, o + 2, none⟩ = some (.int .i64 K) ∧ w.cell? ⟨rb, o + 3, none⟩ = some (.int .i64 F) ∧ w.cell? ⟨rb, o + 4, none⟩ = some (.int .i64 S) := by
  refine ⟨?_, ?_, ?_, ?_, ?_⟩ <;> rw [cell_of_row w rb _ _ _ _ h.blk]
  · exact h.c0
  · exact h.c1
  · exact h.c2
  · exact h.c3
  · exact h.c4
theorem RdG.free {w : World} {rb o : Nat} {T : TypeId} {cs : Array Value} {gv : Value} {L K F S : Int} (h : RdG w rb o T cs gv L K F S) (i : Nat) : w.frozen? ⟨rb, i, none⟩ = false := by simp [World.frozen?, h.blk]
theorem RdG.chg {Z : Nat → Prop} {w w' : World} {rb o : Nat} {T : TypeId} {cs : Array Value} {gv : Value} {L K F S : Int} (h : RdG w rb o T cs gv L K F S) (hc : Chg Z w w') (hs : ¬ Z rb) : RdG w' rb o T cs gv L K F S :=
  ⟨by rw [hc.block rb h.lt hs]; exact h.blk, h.ty, h.c0, h.c1, h.c2, h.c3, h.c4⟩
theorem RdG.set0 {w : World} {rb o : Nat} {T : TypeId} {cs : Array Value} {gv : Value} {L K F S : Int} (h : RdG w rb o T cs gv L K F S) (u : Value) : RdG (w.setCell ⟨rb, o, none⟩ u) rb o T (cs.setIfInBounds o u) u L K F S := by
  have ho : o < cs.size := (Array.getElem?_eq_some_iff.1 h.c0).1
  refine ⟨block_setCell h.blk, h.ty, by rw [Array.getElem?_setIfInBounds_self_of_lt ho], ?_, ?_, ?_, ?_⟩
  all_goals rw [Array.getElem?_setIfInBounds_ne (by omega)]
  · exact h.c1
  · exact h.c2
  · exact h.c3
  · exact h.c4
theorem RdG.set14 {w : World} {rb o : Nat} {T : TypeId} {cs : Array Value} {gv : Value} {L K F S : Int} (h : RdG w rb o T cs gv L K F S) (l k f s : Int) :
    RdG ((((w.setCell ⟨rb, o + 1, none⟩ (.int .i64 l)).setCell ⟨rb, o + 2, none⟩ (.int .i64 k)).setCell ⟨rb, o + 3, none⟩ (.int .i64 f)).setCell ⟨rb, o + 4, none⟩ (.int .i64 s)) rb o T
      ((((cs.setIfInBounds (o + 1) (.int .i64 l)).setIfInBounds (o + 2) (.int .i64 k)).setIfInBounds (o + 3) (.int .i64 f)).setIfInBounds (o + 4) (.int .i64 s)) gv l k f s := by
  have h1 := (Array.getElem?_eq_some_iff.1 h.c1).1
  have h2 := (Array.getElem?_eq_some_iff.1 h.c2).1
  have h3 := (Array.getElem?_eq_some_iff.1 h.c3).1
  have h4 := (Array.getElem?_eq_some_iff.1 h.c4).1
  refine ⟨block_setCell (block_setCell (block_setCell (block_setCell h.blk))), h.ty, ?_, ?_, ?_, ?_, ?_⟩
  · rw [Array.getElem?_setIfInBounds_ne (by omega), Array.getElem?_setIfInBounds_ne (by omega), Array.getElem?_setIfInBounds_ne (by omega), Array.getElem?_setIfInBounds_ne (by omega)]; exact h.c0
  · rw [Array.getElem?_setIfInBounds_ne (by omega), Array.getElem?_setIfInBounds_ne (by omega), Array.getElem?_setIfInBounds_ne (by omega), Array.getElem?_setIfInBounds_self_of_lt h1]
  · rw [Array.getElem?_setIfInBounds_ne (by omega), Array.getElem?_setIfInBounds_ne (by omega), Array.getElem?_setIfInBounds_self_of_lt (by simpa using h2)]
  · rw [Array.getElem?_setIfInBounds_ne (by omega), Array.getElem?_setIfInBounds_self_of_lt (by simpa using h3)]
  · rw [Array.getElem?_setIfInBounds_self_of_lt (by simpa using h4)]
theorem Alike.set14 {o : Nat} {cs : Array Value} (a b c d : Value) : Alike o cs ((((cs.setIfInBounds (o + 1) a).setIfInBounds (o + 2) b).setIfInBounds (o + 3) c).setIfInBounds (o + 4) d) :=
  (((Alike.set (o + 1) (by omega) _).trans (Alike.set (o + 2) (by omega) _)).trans (Alike.set (o + 3) (by omega) _)).trans (Alike.set (o + 4) (by omega) _)
abbrev Touch (rb : Nat) (gv : Value) : Nat → Prop := fun k => k = rb ∨ gv.ownBlock = some k
structure Pushed (w w2 : World) (rb o : Nat) (T : TypeId) (cs : Array Value) (gv : Value) (cs2 : Array Value) (g cap : Nat) (l : List UInt8) (L K F S : Int) : Prop where
  rd : RdG w2 rb o T cs2 (.slice (some ⟨g, 0, none⟩) l.length cap) L K F S
  own : w2.ownsRow 0 5 1 (.slice (some ⟨g, 0, none⟩) l.length cap) l.length (l.map B)
  alike : Alike o cs cs2
  chg : Chg (Touch rb gv) w w2
  size : w.heap.size + 1 ≤ w2.heap.size
  room : l.length ≤ cap
  old : gv.ownBlock = some g ∨ w.heap.size + 1 ≤ g
theorem pushed {w w1 : World} {rb o : Nat} {T : TypeId} {cs : Array Value} {gv v' : Value} {got : List UInt8} {c : UInt8} {L K F S : Int} (hr : RdG w rb o T cs gv L K F S) (hown : w.ownsRow 0 5 1 gv got.length (got.map B))
    (hown' : w1.ownsRow 0 5 1 v' (got.length + 1) (got.map B ++ [.int .u8 c.toNat])) (hg : (w.alloc (.cells #[.int .u8 c.toNat] 5)).grownBy w1 gv.ownBlock)
    (hfr : v'.ownBlock = gv.ownBlock ∨ v'.ownBlock = some (w.heap.size + 1)) :
    RdG w1 rb o T cs gv L K F S ∧ ∃ g cap, v' = .slice (some ⟨g, 0, none⟩) (got.length + 1) cap ∧ Pushed w (w1.setCell ⟨rb, o, none⟩ (.slice (some ⟨g, 0, none⟩) (got.length + 1) cap)) rb o T cs gv (cs.setIfInBounds o (.slice (some ⟨g, 0, none⟩) (got.length + 1) cap)) g cap (got ++ [c]) L K F S := by
  have hrb := hr.lt
  have hlt : ∀ k, gv.ownBlock = some k → k < w.heap.size := fun k hk => owns_lt hown hk
  have hne := owns_ne hown hr.blk hr.ty
  have hb : ∀ k, k < w.heap.size → gv.ownBlock ≠ some k → w1.heap[k]? = w.heap[k]? := fun k hk hn => by
    rw [hg.block k (by simp; omega) (fun e => hn e.symm), Below.heap_alloc _ _ _ hk]
  have hr1 : RdG w1 rb o T cs gv L K F S := ⟨by rw [hb rb hrb hne]; exact hr.blk, hr.ty, hr.c0, hr.c1, hr.c2, hr.c3, hr.c4⟩
  have hsz := hg.size
  simp only [World.size_alloc] at hsz
  refine ⟨hr1, ?_⟩
  rcases hown'.2 with ⟨_, h⟩ | ⟨g, cap, cur, rfl, _, hgg, hroom, hmax, hcur, htake⟩
  · omega
  · have hgr : g ≠ rb := by
      rintro rfl
      exact owns_ne hown' hr1.blk hr.ty rfl
    refine ⟨g, cap, rfl, ?_⟩
    have hown2 : (w1.setCell ⟨rb, o, none⟩ (.slice (some ⟨g, 0, none⟩) (got.length + 1) cap)).ownsRow 0 5 1 (.slice (some ⟨g, 0, none⟩) (got.length + 1) cap) (got.length + 1) (got.map B ++ [.int .u8 c.toNat]) :=
      ownsRow_setCell_other hown' (fun e => by simp [Value.ownBlock] at e; exact hgr e) _
    refine ⟨?_, ?_, Alike.set o (by omega) _, ?_, ?_, ?_, ?_⟩
    · have := hr1.set0 (.slice (some ⟨g, 0, none⟩) (got.length + 1) cap)
      simpa using this
    · simpa using hown2
    · exact Chg.setCell (S := Touch rb gv) (p := ⟨rb, o, none⟩) (Chg.trans ((Chg.refl _ _).alloc _) (Chg.of_grown hg (fun k hk => Or.inr (Or.inr hk)))) (Or.inr (Or.inl rfl)) _
    · simp; omega
    · simpa using hroom
    · rcases hfr with h | h
      · exact Or.inl h.symm
      · simp [Value.ownBlock] at h; exact Or.inr (by omega)
section
variable {w w2 w3 : World} {rb o : Nat} {T : TypeId} {cs cs2 : Array Value} {gv : Value} {g cap : Nat} {l : List UInt8} {L K F S : Int}
theorem Pushed.lt (h : Pushed w w2 rb o T cs gv cs2 g cap l L K F S) : g < w2.heap.size := owns_lt h.own rfl
theorem Pushed.cell (h : Pushed w w2 rb o T cs gv cs2 g cap l L K F S) : ∀ i, i < l.length → w2.cell? ⟨g, i, none⟩ = some (.int .u8 (l.getD i 0).toNat) := by
  intro i hi
  have := h.own.cells (g := g) rfl i (B (l.getD i 0)) (by simp [List.getD, hi])
  rw [← this]
  congr 1
  unfold Addr.add; split <;> simp_all
theorem Pushed.step {Z : Nat → Prop} (h : Pushed w w2 rb o T cs gv cs2 g cap l L K F S) (hb : Chg Z w2 w3)
    (h1 : ¬ Z rb) (h2 : ¬ Z g) (h4 : ∀ k, k < w2.heap.size → Z k → w.heap.size ≤ k ∨ Touch rb gv k) : Pushed w w3 rb o T cs gv cs2 g cap l L K F S :=
  ⟨h.rd.chg hb h1, owns_chg h.own hb (fun k hk => by simp [Value.ownBlock] at hk; subst hk; exact h2), h.alike,
    h.chg.trans (hb.mono h4), Nat.le_trans h.size hb.size, h.room, h.old⟩
theorem Pushed.below (h : Pushed w w2 rb o T cs gv cs2 g cap l L K F S) (hb : Below w2.heap.size w2 w3) : Pushed w w3 rb o T cs gv cs2 g cap l L K F S :=
  h.step (Z := fun _ => False) (Chg.of_below hb) id id (fun _ _ x => x.elim)
theorem Pushed.ne (h : Pushed w w2 rb o T cs gv cs2 g cap l L K F S) : g ≠ rb := by
  rintro rfl
  exact owns_ne h.own h.rd.blk h.rd.ty rfl
theorem Pushed.head (h : Pushed w w2 rb o T cs gv cs2 g cap l L K F S) (ln k f s : Int) :
    Pushed w ((((w2.setCell ⟨rb, o + 1, none⟩ (.int .i64 ln)).setCell ⟨rb, o + 2, none⟩ (.int .i64 k)).setCell ⟨rb, o + 3, none⟩ (.int .i64 f)).setCell ⟨rb, o + 4, none⟩ (.int .i64 s)) rb o T cs gv
      ((((cs2.setIfInBounds (o + 1) (.int .i64 ln)).setIfInBounds (o + 2) (.int .i64 k)).setIfInBounds (o + 3) (.int .i64 f)).setIfInBounds (o + 4) (.int .i64 s)) g cap l ln k f s := by
  have hc : Chg (fun i => i = rb) w2 ((((w2.setCell ⟨rb, o + 1, none⟩ (.int .i64 ln)).setCell ⟨rb, o + 2, none⟩ (.int .i64 k)).setCell ⟨rb, o + 3, none⟩ (.int .i64 f)).setCell ⟨rb, o + 4, none⟩ (.int .i64 s)) :=
    ((((Chg.refl (fun i => i = rb) w2).setCell (p := ⟨rb, o + 1, none⟩) (Or.inr rfl) _).setCell (p := ⟨rb, o + 2, none⟩) (Or.inr rfl) _).setCell (p := ⟨rb, o + 3, none⟩) (Or.inr rfl) _).setCell (p := ⟨rb, o + 4, none⟩) (Or.inr rfl) _
  exact ⟨h.rd.set14 ln k f s, owns_chg h.own hc (fun i hi => by simp [Value.ownBlock] at hi; subst hi; exact h.ne), h.alike.trans (Alike.set14 _ _ _ _),
    h.chg.trans (hc.mono (fun i _ hi => Or.inr (Or.inl hi))), Nat.le_trans h.size hc.size, h.room, h.old⟩
theorem six_cells (h : Pushed w w2 rb o T cs gv cs2 g cap l L K F S) (hl : l.length = 6) :
    ∃ x0 x1 x2 x3 x4 x5 : UInt8, hdOf l = ⟨be2 x0 x1, x2.toNat, x3.toNat, be2 x4 x5⟩ ∧ w2.cell? ⟨g, 0, none⟩ = some (.int .u8 x0.toNat) ∧ w2.cell? ⟨g, 0 + 1, none⟩ = some (.int .u8 x1.toNat) ∧ w2.cell? ⟨g, 0 + 2, none⟩ = some (.int .u8 x2.toNat) ∧
      w2.cell? ⟨g, 0 + 3, none⟩ = some (.int .u8 x3.toNat) ∧ w2.cell? ⟨g, 0 + 4, none⟩ = some (.int .u8 x4.toNat) ∧ w2.cell? ⟨g, 0 + 5, none⟩ = some (.int .u8 x5.toNat) := by
  have hc := h.cell
  match l, hl, hc with
  | [x0, x1, x2, x3, x4, x5], _, hc =>
    exact ⟨x0, x1, x2, x3, x4, x5, rfl, by simpa using hc 0 (by simp), by simpa using hc 1 (by simp), by simpa using hc 2 (by simp), by simpa using hc 3 (by simp), by simpa using hc 4 (by simp), by simpa using hc 5 (by simp)⟩
end
theorem frame_block {w : World} {b : Nat} {v0 v1 v2 v3 : Value} (h : w.heap[b]? = some (.cells #[v0, v1, v2, v3] 105 (0, 0))) :
    w.cell? ⟨b, 0, none⟩ = some v0 ∧ w.cell? ⟨b, 1, none⟩ = some v1 ∧ w.cell? ⟨b, 2, none⟩ = some v2 ∧ w.cell? ⟨b, 3, none⟩ = some v3 ∧ ∀ o, w.frozen? ⟨b, o, none⟩ = false := by
  refine ⟨?_, ?_, ?_, ?_, fun o => by simp [World.frozen?, h]⟩ <;> rw [cell_of_row w b _ _ _ _ h] <;> rfl
theorem Chg.set4 {S : Nat → Prop} {a w : World} {b : Nat} (h : Chg S a w) (hp : a.heap.size ≤ b ∨ S b) (v0 v1 v2 v3 : Value) :
    Chg S a ((((w.setCell ⟨b, 0, none⟩ v0).setCell ⟨b, 1, none⟩ v1).setCell ⟨b, 2, none⟩ v2).setCell ⟨b, 3, none⟩ v3) :=
  (((h.setCell (p := ⟨b, 0, none⟩) hp v0).setCell (p := ⟨b, 1, none⟩) hp v1).setCell (p := ⟨b, 2, none⟩) hp v2).setCell (p := ⟨b, 3, none⟩) hp v3
end Go.Proofs.YtiphkngfbpdeoaaGreatDoor
namespace Go.Proofs.YtiphkngfbpdeoaaGreatDoor
set_option linter.unusedVariables false
set_option linter.unusedSimpArgs false
open Go.RowKit
theorem len_four' {l k f s : Int} (h : headCode l k f s = 0) (hk : (k = 3 ∧ hasB f 1 = false) ∨ k = 4 ∨ k = 6) : l = 4 := by
  have h2 := (headCode_zero h).2.2.2
  unfold lFits at h2
  rcases hk with ⟨rfl, hf⟩ | rfl | rfl
  · rw [hf] at h2; simpa using h2
  · simpa using h2
  · simpa using h2
theorem endOf0 : endOf 0 = .returned (.tuple #[]) := rfl
theorem endOf_ne {c : Int} (h : c ≠ 0) : endOf c = .panicked [{ v := .iface 36 (.int .i64 c), recovered := false }] := by simp [endOf, h]
theorem flags_lt (l : List UInt8) : 0 ≤ (hdOf l).flags ∧ (hdOf l).flags < 256 := by
  unfold hdOf
  split
  · rename_i d _ _ _
    have := d.toNat_lt
    constructor <;> simp <;> omega
  · constructor <;> simp
theorem body_of_owns {w : World} {bv : Value} {l : List UInt8} (h : w.ownsRow 0 5 1 bv l.length (l.map B)) : BodyIn w bv l := by
  refine ⟨?_⟩
  have h0 := h
  rcases h.2 with ⟨e, hn⟩ | ⟨g, cap, cur, e, _, hg, hn, _⟩
  · exact Or.inl ⟨List.length_eq_zero_iff.1 hn, none, 0, e⟩
  · refine Or.inr ⟨g, 0, cap, e, owns_lt h0 (by rw [e]; rfl), hn, fun i hi => ?_⟩
    subst e
    have := h0.cells (g := g) rfl i (B (l.getD i 0)) (by simp [List.getD, hi])
    rw [← this]
    congr 1
    unfold Addr.add; split <;> simp_all
def HdIs (l : List UInt8) (L K F S : Int) : Prop := 6 ≤ l.length → hdOf l = ⟨L, K, F, S⟩ ∧ headCode L K F S = 0
set_option maxRecDepth 100000 in
set_option maxHeartbeats 3200000 in
theorem take_walk (rb o : Nat) (T : TypeId) (cs : Array Value) (gv : Value) (L K F S : Int) (got : List UInt8) (c : UInt8) (w : World) (hr : RdG w rb o T cs gv L K F S) (hown : w.ownsRow 0 5 1 gv got.length (got.map B)) (hgl : got.length ≤ 70)
    (hhd : 6 ≤ got.length → hdOf (got ++ [c]) = ⟨L, K, F, S⟩ ∧ headCode L K F S = 0 ∧ (got.length : Int) < 6 + L)
    (P : Ending → World → Prop)
    (hbad : ∀ w' cs2 g cap L1 K1 F1 S1, Pushed w w' rb o T cs gv cs2 g cap (got ++ [c]) L1 K1 F1 S1 → got.length = 5 → (hdOf (got ++ [c])).code ≠ 0 → P (.panicked [{ v := .iface 36 (.int .i64 (hdOf (got ++ [c])).code), recovered := false }]) w')
    (hmore : ∀ w' cs2 g cap L1 K1 F1 S1, Pushed w w' rb o T cs gv cs2 g cap (got ++ [c]) L1 K1 F1 S1 → HdIs (got ++ [c]) L1 K1 F1 S1 → (got.length + 1 < 6 ∨ (got.length : Int) + 1 < 6 + L1) → P (.returned (.tuple #[.nilIface, .bool false])) w')
    (hdone : ∀ w3 w4 w' cs2 g cap L1 K1 F1 S1 bv e, Pushed w w3 rb o T cs gv cs2 g cap (got ++ [c]) L1 K1 F1 S1 → hdOf (got ++ [c]) = ⟨L1, K1, F1, S1⟩ → headCode L1 K1 F1 S1 = 0 → (got.length : Int) + 1 = 6 + L1 → Below w3.heap.size w3 w4 → w4.ownsRow 0 5 1 bv ((got ++ [c]).drop 6).length (((got ++ [c]).drop 6).map B) → (∀ k, bv.ownBlock = some k → w3.heap.size ≤ k) →
      Framed (w4.setCell ⟨rb, o, none⟩ (.slice (some ⟨g, 0, none⟩) 0 cap)) w' e K1 F1 S1 bv ((got ++ [c]).drop 6) → P (match e with | .returned v => .returned (.tuple #[v, .bool true]) | x => x) w') :
    Calls Tryz.prog 65 #[.pointer (some ⟨rb, o, none⟩), .int .u8 c.toNat] w P := by
  obtain ⟨i0, hi, hz0, hz1, hz2⟩ := info_parts Tryz.info5
  obtain ⟨c0, c1, c2, c3, c4⟩ := hr.cells
  have f0 := hr.free o
  have hrb := hr.lt
  have HBAD := hide hbad
  have HMORE := hide hmore
  have HDONE := hide hdone
  have HHD := hide hhd
  clear hbad hmore hdone hhd
  go_enter Tryz.func65, Tryz.ntmps65
  go_wp2_with (at_builtin; refine wpList_app _ rfl (.tmp 11) (.tmp 13) 38 rfl 5 i0 (.int .u8 0) 1 1 Tryz.underlying38 hi hz0 hz1 hz2 rfl (by decide) _ _ _ rfl (hown.alloc _) (.slice (some ⟨w.heap.size, 0, none⟩) 1 1) 1 [.int .u8 c.toNat] rfl rfl (lies_one (by simp)) ?c2 ?c3 ?c4 ?_)
  case c2 => intro u hu; simp at hu; subst hu; rfl
  case c3 => unfold maxLen; omega
  case c4 => omega
  intro v' w1 hown' hgrow hfr
  obtain ⟨hr1, g, cap, hv, hp⟩ := pushed hr hown hown' hgrow hfr
  subst hv
  obtain ⟨d0, -, -, -, -⟩ := hr1.cells
  have e0 := hr1.free o
  obtain ⟨w2, hw2⟩ : ∃ w2, w1.setCell ⟨rb, o, none⟩ (.slice (some ⟨g, 0, none⟩) (got.length + 1) cap) = w2 := ⟨_, rfl⟩
  rw [hw2] at hp
  generalize cs.setIfInBounds o (.slice (some ⟨g, 0, none⟩) (got.length + 1) cap) = cs2 at hp
  have hrd := hp.rd
  have hlen : (got ++ [c]).length = got.length + 1 := by simp
  rw [hlen] at hrd
  obtain ⟨p0, p1, p2, p3, p4⟩ := hrd.cells
  have HP := hide hp
  have hgl2 := hp.lt
  clear c0 c1 c2 c3 c4 hown' hgrow hfr hr1 hown hr hrd f0 hp
  go_upto_if 22 with fail
  go_cut [] (fun wx => ∃ cs3 L1 K1 F1 S1, Pushed w wx rb o T cs gv cs3 g cap (got ++ [c]) L1 K1 F1 S1 ∧ HdIs (got ++ [c]) L1 K1 F1 S1 ∧ (6 ≤ got.length + 1 → (got.length : Int) + 1 ≤ 6 + L1 ∧ -1000 ≤ L1 ∧ L1 ≤ 1000))
  case first =>
    by_cases h5 : got.length = 5
    · have h5a : got.length ≤ 5 := by omega
      have h5b : 5 ≤ got.length := by omega
      have H5 := hide h5
      have hs6 : ((got.length : Int) + 1 == 6) = true := by simp; omega
      obtain ⟨x0, x1, x2, x3, x4, x5, hx, y0, y1, y2, y3, y4, y5⟩ := six_cells HP.out (by omega)
      have HX := hide hx
      clear hx h5
      go_wp2_with fail
      refine (headOf_any g 0 (got.length + 1) cap x0 x1 x2 x3 x4 x5 w2 (by omega) y0 y1 y2 y3 y4 y5 hgl2).mono ?_
      rintro e w3 ⟨rfl, hb3⟩
      have hp3 := HP.out.below hb3
      obtain ⟨-, r1, r2, r3, r4⟩ := hp3.rd.cells
      have s1 := hp3.rd.free (o + 1)
      have s2 := hp3.rd.free (o + 2)
      have s3 := hp3.rd.free (o + 3)
      have s4 := hp3.rd.free (o + 4)
      have hp4 := hp3.head (be2 x0 x1) x2.toNat x3.toNat (be2 x4 x5)
      obtain ⟨w4, hw4⟩ : ∃ w4, ((((w3.setCell ⟨rb, o + 1, none⟩ (.int .i64 (be2 x0 x1))).setCell ⟨rb, o + 2, none⟩ (.int .i64 x2.toNat)).setCell ⟨rb, o + 3, none⟩ (.int .i64 x3.toNat)).setCell ⟨rb, o + 4, none⟩ (.int .i64 (be2 x4 x5))) = w4 := ⟨_, rfl⟩
      rw [hw4] at hp4
      obtain ⟨t0, t1, t2, t3, t4⟩ := hp4.rd.cells
      have HP4 := hide hp4
      clear p0 p1 p2 p3 p4 y0 y1 y2 y3 y4 y5 hp3 hp4
      go_wp2_with fail
      have hx3 : x3.toNat < 256 := x3.toNat_lt
      have hcode : (hdOf (got ++ [c])).code = headCode (be2 x0 x1) x2.toNat x3.toNat (be2 x4 x5) := by rw [HX.out]; rfl
      have HCODE := hide hcode
      have hckh := checkHead_any (be2 x0 x1) x2.toNat x3.toNat (be2 x4 x5) w4 (by omega) (by omega)
      have hbe : 0 ≤ be2 x0 x1 := by unfold be2; omega
      clear t0 t1 t2 t3 t4 hcode
      by_cases hz : headCode (be2 x0 x1) x2.toNat x3.toNat (be2 x4 x5) = 0
      · have hl64 := (headCode_zero hz).2.2.1
        rw [hz, endOf0] at hckh
        have HCK := hide hckh
        have HZ := hide hz
        clear hckh hz
        refine HCK.out.mono ?_
        rintro e w5 ⟨rfl, hb5⟩
        have HP5 := hide (HP4.out.below hb5)
        clear hb5
        go_wp2
        go_meet
        exact ⟨_, _, _, _, _, HP5.out, fun _ => ⟨HX.out, HZ.out⟩, fun _ => ⟨by omega, by omega, by omega⟩⟩
      · rw [endOf_ne hz] at hckh
        refine hckh.mono ?_
        rintro e w5 ⟨rfl, hb5⟩
        have h9 := HBAD.out w5 _ _ _ _ _ _ _ (HP4.out.below hb5) H5.out (by rw [HCODE.out]; exact hz)
        rw [HCODE.out] at h9
        exact ⟨rfl, h9⟩
    · have hs6 : ((got.length : Int) + 1 == 6) = false := by simp; omega
      go_wp2
      go_meet
      refine ⟨cs2, L, K, F, S, HP.out, fun h6 => ?_, fun h6 => ?_⟩
      · have := HHD.out (by omega); exact ⟨this.1, this.2.1⟩
      · have h7 := HHD.out (by omega)
        have h8 := (headCode_zero h7.2.1).2.2.1
        exact ⟨by omega, by omega, by omega⟩
  case rest =>
    obtain ⟨cs3, L1, K1, F1, S1, hp3, hh3, hle3⟩ := hcut
    obtain ⟨w3, hw3⟩ : ∃ w3, w3 = wc := ⟨wc, rfl⟩
    subst hw3
    have hrd := hp3.rd
    rw [hlen] at hrd
    clear p0 p1 p2 p3 p4 HP
    obtain ⟨p0, p1, p2, p3, p4⟩ := hrd.cells
    have p2' : w3.cell? ⟨rb, o + 1 + 1, none⟩ = some (.int .i64 K1) := p2
    have p3' : w3.cell? ⟨rb, o + 1 + 2, none⟩ = some (.int .i64 F1) := p3
    have p4' : w3.cell? ⟨rb, o + 1 + 3, none⟩ = some (.int .i64 S1) := p4
    have HP3 := hide hp3
    have HH3 := hide hh3
    have HLE := hide hle3
    have hgl3 := hp3.lt
    have hrb3 := hp3.rd.lt
    have hcap : got.length + 1 ≤ cap := by have := hp3.room; omega
    clear hrd hp3 hh3 hle3 d0 e0 hw2 hgl2
    by_cases hm : got.length + 1 < 6 ∨ (got.length : Int) + 1 < 6 + L1
    · have HM := hide hm
      by_cases hm1 : got.length + 1 < 6
      · have hd : decide ((got.length : Int) + 1 < 6) = true := by simp; omega
        clear hm
        go_wp2
        go_quiet (fail)
        go_wp2
        exact HMORE.out _ _ _ _ _ _ _ _ (HP3.out.below (below_drewN (Below.refl _ _) _)) HH3.out HM.out
      · have hm2 : (got.length : Int) + 1 < 6 + L1 := by omega
        obtain ⟨-, hL1a, hL1b⟩ := HLE.out (by omega)
        have hd : decide ((got.length : Int) + 1 < 6) = false := by simp; omega
        have hd2 : decide ((got.length : Int) + 1 < 6 + L1) = true := by simp; omega
        clear hm
        go_wp2
        go_quiet (fail)
        go_wp2
        exact HMORE.out _ _ _ _ _ _ _ _ (HP3.out.below (below_drewN (Below.refl _ _) _)) HH3.out HM.out
    · have h6 : 6 ≤ got.length + 1 := by omega
      obtain ⟨hL1x, hL1a, hL1b⟩ := HLE.out h6
      have hL1 : (got.length : Int) + 1 = 6 + L1 := by omega
      obtain ⟨hhd, hcode⟩ := HH3.out (by omega)
      have hd : decide ((got.length : Int) + 1 < 6) = false := by simp; omega
      have hd2 : decide ((got.length : Int) + 1 < 6 + L1) = false := by simp; omega
      have HL1 := hide hL1
      have HHD3 := hide hhd
      have HCODE := hide hcode
      clear hm hL1 hhd hcode hL1x
      go_wp2
      go_quiet (fail)
      go_wp2_with fail
      have hp4 := HP3.out.below (below_drewN (Below.refl _ _) nq)
      clear p0 p1 p2 p3 p4 p2' p3' p4' hgl3 hrb3 HP3
      generalize w3.drewN nq = w4 at hp4 ⊢
      have hrd := hp4.rd
      rw [hlen] at hrd
      obtain ⟨p0, p1, p2, p3, p4⟩ := hrd.cells
      have p2' : w4.cell? ⟨rb, o + 1 + 1, none⟩ = some (.int .i64 K1) := p2
      have p3' : w4.cell? ⟨rb, o + 1 + 2, none⟩ = some (.int .i64 F1) := p3
      have p4' : w4.cell? ⟨rb, o + 1 + 3, none⟩ = some (.int .i64 S1) := p4
      have HP4 := hide hp4
      have hgl4 := hp4.lt
      have hrb4 := hp4.rd.lt
      clear hrd hp4
      go_region
      all_goals go_wp2_with fail
      have hb5 : Below w4.heap.size w4 (w4.alloc (.cells #[.int .i64 K1, .int .i64 F1, .int .i64 S1, .slice none 0 0] 105)).drew := ((Below.refl _ _).alloc (Nat.le_refl _) _).drew
      have hf5 : (w4.alloc (.cells #[.int .i64 K1, .int .i64 F1, .int .i64 S1, .slice none 0 0] 105)).drew.heap[w4.heap.size]? = some (.cells #[.int .i64 K1, .int .i64 F1, .int .i64 S1, .slice none 0 0] 105 (0, 0)) := heap_alloc_new w4 _
      obtain ⟨w5, hw5⟩ : ∃ w5, w5 = (w4.alloc (.cells #[.int .i64 K1, .int .i64 F1, .int .i64 S1, .slice none 0 0] 105)).drew := ⟨_, rfl⟩
      rw [← hw5] at hb5 hf5 ⊢
      obtain ⟨N, hN⟩ : ∃ N, N = w4.heap.size := ⟨_, rfl⟩
      rw [← hN] at hf5 ⊢
      have hNa : N ≤ w4.heap.size := by omega
      have hNb : w4.heap.size ≤ N := by omega
      clear hN
      have hp5 := HP4.out.below hb5
      have hrd := hp5.rd
      rw [hlen] at hrd
      clear p0 p1 p2 p3 p4 p2' p3' p4' hw5
      obtain ⟨p0, -, -, -, -⟩ := hrd.cells
      obtain ⟨y0, y1, y2, y3, yf⟩ := frame_block hf5
      have yf3 := yf 3
      have hNlt := lt_of_block hf5
      have hg5 := hp5.lt
      have hNr : N ≠ rb := by omega
      have hNg : N ≠ g := by omega
      have HAFT : Hid (∀ v' w6, w6.ownsRow 0 5 1 v' (0 + (got.length - 5)) ([] ++ ((got ++ [c]).drop 6).map B) → w5.drew.grownBy w6 (Value.slice none 0 0).ownBlock → (v'.ownBlock = (Value.slice none 0 0).ownBlock ∨ v'.ownBlock = some w5.drew.heap.size) →
          (∃ s6 n6 c6, v' = .slice s6 n6 c6) ∧ w6.heap[N]? = some (.cells #[.int .i64 K1, .int .i64 F1, .int .i64 S1, .slice none 0 0] 105 (0, 0)) ∧ w6.cell? ⟨rb, o, none⟩ = some (.slice (some ⟨g, 0, none⟩) (got.length + 1) cap) ∧ w6.frozen? ⟨rb, o, none⟩ = false ∧ g < w6.heap.size ∧ Below w4.heap.size w4 (w6.setCell ⟨N, 3, none⟩ v') ∧
          (w6.setCell ⟨N, 3, none⟩ v').ownsRow 0 5 1 v' ((got ++ [c]).drop 6).length (((got ++ [c]).drop 6).map B) ∧ (∀ k, v'.ownBlock = some k → w4.heap.size + 1 ≤ k)) := by
        intro v' w6 ho hg hfr
        have hb6 : Below w5.heap.size w5 w6 := ((Below.refl _ w5).drew).grown hg (Nat.le_refl _) (fun k h => by cases h)
        have hp6 := hp5.below hb6
        have hrd6 := hp6.rd
        rw [hlen] at hrd6
        have hvk : ∀ k, v'.ownBlock = some k → w4.heap.size + 1 ≤ k := fun k hk => by
          rcases hfr with e | e
          · rw [e] at hk; cases hk
          · rw [e] at hk
            have e2 : w5.drew.heap.size = k := by simpa using hk
            have e3 : w5.drew.heap.size = w5.heap.size := rfl
            omega
        have hvs : ∃ s6 n6 c6, v' = .slice s6 n6 c6 := by
          rcases ho.2 with ⟨e, _⟩ | ⟨a, b, d, e, _⟩
          · exact ⟨_, _, _, e⟩
          · exact ⟨_, _, _, e⟩
        have hbw : Below w4.heap.size w4 w6 := hb5.trans (hb6.mono (by omega))
        refine ⟨hvs, ?_, hrd6.cells.1, hrd6.free o, hp6.lt, hbw.setCell (by simp; omega) _, ?_, hvk⟩
        · rw [hb6.block N hNlt]; exact hf5
        · have hl6 : ((got ++ [c]).drop 6).length = got.length - 5 := by simp
          have ho2 : w6.ownsRow 0 5 1 v' ((got ++ [c]).drop 6).length (((got ++ [c]).drop 6).map B) := by
            rw [hl6]; simpa using ho
          exact owns_chg ho2 ((Chg.refl (fun k => k = N) w6).setCell (p := ⟨N, 3, none⟩) (Or.inr rfl) _) (fun k hk e => by have := hvk k hk; omega)
      have HLI : Hid (Lies w5.drew (.slice (some ⟨g, 6, none⟩) (got.length - 5) (cap - 6)) (got.length - 5) (((got ++ [c]).drop 6).map B)) := by
        refine Or.inr ⟨_, _, rfl, fun j u hu => ?_⟩
        have hj : j < got.length - 5 := by
          have := (List.getElem?_eq_some_iff.1 hu).1
          simp at this; omega
        have e : (⟨g, 6, none⟩ : Addr).add j = ⟨g, 6 + j, none⟩ := by unfold Addr.add; split <;> simp_all
        rw [e]
        show w5.cell? _ = _
        rw [hp5.cell (6 + j) (by simp; omega), ← hu, List.getElem?_map, List.getElem?_drop, List.getElem?_eq_getElem (by simp; omega), getD_lt _ _ _ (by simp; omega)]
        rfl
      have HP5 := hide hp5
      have HLN : Hid ((((got ++ [c]).drop 6).map B).length = (got.length - 5) * 1) := by show _ = _; simp
      have HONE : Hid (∀ u ∈ ((got ++ [c]).drop 6).map B, u.oneCell' = true) := bytes_one _
      have HML : Hid (0 + (got.length - 5) ≤ maxLen) := by show _ ≤ _; unfold maxLen; omega
      have HMB : Hid ((0 + (got.length - 5)) * 1 ≤ 140737488355328) := by show _ ≤ _; omega
      clear hrd hp5 yf
      have h6i : (6 : Int) ≤ (got.length : Int) + 1 := by omega
      have HFIN : Hid (∀ s6 n6 c6 (w6 : World), Below w4.heap.size w4 (w6.setCell ⟨N, 3, none⟩ (.slice s6 n6 c6)) → (w6.setCell ⟨N, 3, none⟩ (.slice s6 n6 c6)).ownsRow 0 5 1 (.slice s6 n6 c6) ((got ++ [c]).drop 6).length (((got ++ [c]).drop 6).map B) → (∀ k, (Value.slice s6 n6 c6).ownBlock = some k → w4.heap.size + 1 ≤ k) →
          Calls Tryz.prog 78 #[.agg #[.int .i64 K1, .int .i64 F1, .int .i64 S1, .slice s6 n6 c6]] ((w6.setCell ⟨N, 3, none⟩ (.slice s6 n6 c6)).setCell ⟨rb, o, none⟩ (.slice (some ⟨g, 0, none⟩) 0 cap)) fun e w' => (∃ ps, e = .panicked ps ∧ P e w') ∨ ∃ v, e = .returned v ∧ P (.returned (.tuple #[v, .bool true])) w') := by
        intro s6 n6 c6 w6 hb ho hk
        have hl6 : ((got ++ [c]).drop 6).length = got.length - 5 := by simp
        have hL1 := HL1.out
        have hL64 := (headCode_zero HCODE.out).2.2.1
        have hfl := flags_lt (got ++ [c])
        rw [HHD3.out] at hfl
        have ho2 := owns_chg ho ((Chg.refl (fun k => k = rb) _).setCell (p := ⟨rb, o, none⟩) (Or.inr rfl) (.slice (some ⟨g, 0, none⟩) 0 cap)) (fun k hkk e => by have := hk k hkk; omega)
        have hbody := body_of_owns ho2
        refine (frameOf_any _ _ K1 F1 S1 _ (by rw [hl6]; omega) hfl.1 hfl.2 hbody (fun h => by have := len_four' HCODE.out h; rw [hl6]; omega)).mono ?_
        intro e w7 hfr
        have hPx := HDONE.out w4 _ w7 _ g cap L1 K1 F1 S1 _ e HP4.out HHD3.out HCODE.out HL1.out hb ho (fun k hkk => by have := hk k hkk; omega) hfr
        rcases hfr.1 with ⟨_, rfl⟩ | ⟨_, cv, rfl, _⟩
        · exact Or.inl ⟨_, rfl, hPx⟩
        · exact Or.inr ⟨_, rfl, hPx⟩
      by_cases hc6 : cap = 6
      · have hm0 : ((got ++ [c]).drop 6).map B = [] := by
          rw [List.drop_of_length_le (by simp; omega)]; rfl
        have h50 : got.length - 5 = 0 := by omega
        have HAF6 : Hid (∀ v' (w6 : World), w6.ownsRow 0 5 1 v' (0 + 0) ([] ++ []) → w5.drew.grownBy w6 (Value.slice none 0 0).ownBlock → (v'.ownBlock = (Value.slice none 0 0).ownBlock ∨ v'.ownBlock = some w5.drew.heap.size) → _) := fun v' w6 h => HAFT.out v' w6 (by rw [h50, hm0]; exact h)
        have HLI6 : Hid (Lies w5.drew (.slice (some ⟨g, 0, none⟩) 0 0) 0 []) := Or.inr ⟨_, _, rfl, fun j u hu => by simp at hu⟩
        clear HLI hm0 h50 HAFT
        subst hc6
        go_region_law (refine step_appd rfl (.tmp 73) (.tmp 78) 38 rfl 5 i0 (.int .u8 0) 1 1 Tryz.underlying38 hi hz0 hz1 hz2 rfl (by decide) (.slice none 0 0) 0 [] (by simp [Act.eval, Act.put]) (World.ownsRow_nil _ _ _ _) (.slice (some ⟨g, 0, none⟩) 0 0) 0 [] (by simp [Act.eval, Act.put]) rfl HLI6.out (fun u hu => by cases hu) (Nat.zero_le _) (Nat.zero_le _) ?_; intro v' w6 ho6 hg6 hfr6; obtain ⟨⟨s6, n6, c6, hv6⟩, hf6, p6, pf6, hgl6, hb6, ho7, hk7⟩ := HAF6.out v' w6 ho6 hg6 hfr6; subst hv6; obtain ⟨x0, x1, x2, x3, xf⟩ := frame_block hf6; have xf3 := xf 3; have HB6 := hide hb6; have HO7 := hide ho7; have HK7 := hide hk7; clear ho6 hg6 hfr6 hb6 ho7 hk7 xf)
        all_goals go_wp2_with fail
        all_goals refine (HFIN.out _ _ _ _ HB6.out HO7.out HK7.out).mono ?_
        all_goals rintro e w7 (⟨ps, rfl, hP⟩ | ⟨v, rfl, hP⟩)
        all_goals first
          | exact ⟨rfl, hP⟩
          | (have HPP := hide hP; clear hP; go_wp2; exact HPP.out)
      · go_region_law (refine step_appd rfl (.tmp 73) (.tmp 78) 38 rfl 5 i0 (.int .u8 0) 1 1 Tryz.underlying38 hi hz0 hz1 hz2 rfl (by decide) (.slice none 0 0) 0 [] (by simp [Act.eval, Act.put]) (World.ownsRow_nil _ _ _ _) (.slice (some ⟨g, 6, none⟩) (got.length - 5) (cap - 6)) (got.length - 5) (((got ++ [c]).drop 6).map B) (by simp [Act.eval, Act.put]) HLN.out HLI.out HONE.out HML.out HMB.out ?_; intro v' w6 ho6 hg6 hfr6; obtain ⟨⟨s6, n6, c6, hv6⟩, hf6, p6, pf6, hgl6, hb6, ho7, hk7⟩ := HAFT.out v' w6 ho6 hg6 hfr6; subst hv6; obtain ⟨x0, x1, x2, x3, xf⟩ := frame_block hf6; have xf3 := xf 3; have HB6 := hide hb6; have HO7 := hide ho7; have HK7 := hide hk7; clear ho6 hg6 hfr6 hb6 ho7 hk7 xf)
        all_goals go_wp2_with fail
        all_goals refine (HFIN.out _ _ _ _ HB6.out HO7.out HK7.out).mono ?_
        all_goals rintro e w7 (⟨ps, rfl, hP⟩ | ⟨v, rfl, hP⟩)
        all_goals first
          | exact ⟨rfl, hP⟩
          | (have HPP := hide hP; clear hP; go_wp2; exact HPP.out)
end Go.Proofs.YtiphkngfbpdeoaaGreatDoor
namespace Go.Proofs.YtiphkngfbpdeoaaGreatDoor
open Go.RowKit
def RdSG (w : World) (rb o : Nat) (T : TypeId) (cs : Array Value) (gv : Value) (got : List UInt8) : Prop :=
  Got got ∧ w.ownsRow 0 5 1 gv got.length (got.map B) ∧ ∃ L K F S, RdG w rb o T cs gv L K F S ∧ (6 ≤ got.length → hdOf got = ⟨L, K, F, S⟩)
structure LeftG (w w' : World) (rb o : Nat) (T : TypeId) (cs cs' : Array Value) (gv gv' : Value) (got : List UInt8) : Prop where
  st : RdSG w' rb o T cs' gv' got
  alike : Alike o cs cs'
  chg : Chg (Touch rb gv) w w'
  fresh : ∀ k, gv'.ownBlock = some k → gv.ownBlock = some k ∨ w.heap.size ≤ k
def GaveG (w w' : World) (rb o : Nat) (T : TypeId) (cs : Array Value) (gv : Value) : Prop := ∃ cs' gv' L K F S, RdG w' rb o T cs' gv' L K F S ∧ Alike o cs cs' ∧ Chg (Touch rb gv) w w'
theorem hdOf_append {got : List UInt8} (h : 6 ≤ got.length) (c : UInt8) : hdOf (got ++ [c]) = hdOf got := by
  match got, h with
  | a :: b :: d :: e :: f :: g :: r, _ => rfl
theorem length_nonneg (l : List UInt8) : 0 ≤ (hdOf l).length := by
  unfold hdOf
  split
  · simp only [be2]; omega
  · simp
theorem step_more {got g' : List UInt8} {c : UInt8} (h : step got c = .more g') : g' = got ++ [c] ∧ ¬ ((got ++ [c]).length = 6 ∧ (hdOf (got ++ [c])).code ≠ 0) ∧ ((got ++ [c]).length < 6 ∨ ((got ++ [c]).length : Int) < 6 + (hdOf (got ++ [c])).length) := by
  unfold step at h
  simp only at h
  by_cases a : (got ++ [c]).length = 6 ∧ (hdOf (got ++ [c])).code ≠ 0
  · rw [if_pos a] at h; cases h
  · rw [if_neg a] at h
    by_cases b : (got ++ [c]).length < 6 ∨ ((got ++ [c]).length : Int) < 6 + (hdOf (got ++ [c])).length
    · rw [if_pos b] at h
      simp only [Sum.inl.injEq] at h
      exact ⟨h.symm, a, b⟩
    · rw [if_neg b] at h
      split at h <;> cases h
theorem step_frame {got : List UInt8} {c : UInt8} {f : Fr} (h : step got c = .frame f) :
    f = ⟨(hdOf (got ++ [c])).kind, (hdOf (got ++ [c])).flags, (hdOf (got ++ [c])).stream, (got ++ [c]).drop 6⟩ ∧ ¬ ((got ++ [c]).length = 6 ∧ (hdOf (got ++ [c])).code ≠ 0) ∧ 6 ≤ (got ++ [c]).length ∧
      6 + (hdOf (got ++ [c])).length ≤ ((got ++ [c]).length : Int) ∧ bodyCode (hdOf (got ++ [c])).kind (hdOf (got ++ [c])).flags ((got ++ [c]).drop 6) = 0 := by
  unfold step at h
  simp only at h
  by_cases a : (got ++ [c]).length = 6 ∧ (hdOf (got ++ [c])).code ≠ 0
  · rw [if_pos a] at h; cases h
  · rw [if_neg a] at h
    by_cases b : (got ++ [c]).length < 6 ∨ ((got ++ [c]).length : Int) < 6 + (hdOf (got ++ [c])).length
    · rw [if_pos b] at h; cases h
    · rw [if_neg b] at h
      by_cases d : bodyCode (hdOf (got ++ [c])).kind (hdOf (got ++ [c])).flags ((got ++ [c]).drop 6) = 0
      · rw [if_neg (by simpa using d)] at h
        simp only [Sum.inl.injEq, Sum.inr.injEq] at h
        exact ⟨h.symm, a, by omega, by omega, d⟩
      · rw [if_pos d] at h; cases h
theorem step_fault {got : List UInt8} {c : UInt8} {code : Int} (h : step got c = .fault code) :
    ((got ++ [c]).length = 6 ∧ (hdOf (got ++ [c])).code ≠ 0 ∧ code = (hdOf (got ++ [c])).code) ∨
      (¬ ((got ++ [c]).length = 6 ∧ (hdOf (got ++ [c])).code ≠ 0) ∧ 6 ≤ (got ++ [c]).length ∧ 6 + (hdOf (got ++ [c])).length ≤ ((got ++ [c]).length : Int) ∧
        bodyCode (hdOf (got ++ [c])).kind (hdOf (got ++ [c])).flags ((got ++ [c]).drop 6) ≠ 0 ∧ code = bodyCode (hdOf (got ++ [c])).kind (hdOf (got ++ [c])).flags ((got ++ [c]).drop 6)) := by
  unfold step at h
  simp only at h
  by_cases a : (got ++ [c]).length = 6 ∧ (hdOf (got ++ [c])).code ≠ 0
  · rw [if_pos a] at h
    simp only [Sum.inr.injEq] at h
    exact Or.inl ⟨a.1, a.2, h.symm⟩
  · rw [if_neg a] at h
    by_cases b : (got ++ [c]).length < 6 ∨ ((got ++ [c]).length : Int) < 6 + (hdOf (got ++ [c])).length
    · rw [if_pos b] at h; cases h
    · rw [if_neg b] at h
      by_cases d : bodyCode (hdOf (got ++ [c])).kind (hdOf (got ++ [c])).flags ((got ++ [c]).drop 6) = 0
      · rw [if_neg (by simpa using d)] at h; cases h
      · rw [if_pos d] at h
        simp only [Sum.inr.injEq] at h
        exact Or.inr ⟨a, by omega, by omega, d, h.symm⟩
theorem got_nil : Got [] := fun h => by simp at h
theorem Pushed.fresh {w w2 : World} {rb o : Nat} {T : TypeId} {cs cs2 : Array Value} {gv : Value} {g cap : Nat} {l : List UInt8} {L K F S : Int} (h : Pushed w w2 rb o T cs gv cs2 g cap l L K F S) (n c : Nat) : ∀ k, (Value.slice (some ⟨g, 0, none⟩) n c).ownBlock = some k → gv.ownBlock = some k ∨ w.heap.size ≤ k := fun k hk => by
  simp [Value.ownBlock] at hk; subst hk
  rcases h.old with a | a
  · exact Or.inl a
  · exact Or.inr (by omega)
def Took (w w' : World) (rb o : Nat) (T : TypeId) (cs : Array Value) (gv : Value) (got : List UInt8) (c : UInt8) (e : Ending) : Prop :=
  (∃ g' cs' gv', step got c = .more g' ∧ e = .returned (.tuple #[.nilIface, .bool false]) ∧ LeftG w w' rb o T cs cs' gv gv' g') ∨
  (∃ code, step got c = .fault code ∧ e = .panicked [{ v := .iface 36 (.int .i64 code), recovered := false }] ∧ GaveG w w' rb o T cs gv) ∨
  (∃ f bv cv cs' gv', step got c = .frame f ∧ e = .returned (.tuple #[frV f.kind f.flags f.stream bv cv f.body, .bool true]) ∧ (f.kind = 0 → ContV f.flags bv cv f.body) ∧
    w'.ownsRow 0 5 1 bv f.body.length (f.body.map B) ∧ (∀ k, bv.ownBlock = some k → w.heap.size ≤ k) ∧ LeftG w w' rb o T cs cs' gv gv' [] ∧ (∀ k, bv.ownBlock = some k → gv'.ownBlock ≠ some k))
theorem take_any (rb o : Nat) (T : TypeId) (cs : Array Value) (gv : Value) (got : List UInt8) (c : UInt8) (w : World) (hr : RdSG w rb o T cs gv got) :
    Calls Tryz.prog 65 #[.pointer (some ⟨rb, o, none⟩), .int .u8 c.toNat] w fun e w' => Took w w' rb o T cs gv got c e := by
  obtain ⟨hg, hown, L, K, F, S, hrd, hh⟩ := hr
  have hl : (got ++ [c]).length = got.length + 1 := by simp
  have hL6 : 6 ≤ got.length → hdOf (got ++ [c]) = ⟨L, K, F, S⟩ ∧ headCode L K F S = 0 ∧ (got.length : Int) < 6 + L := fun h6 => by
    have h1 := hg h6
    have h2 := hh h6
    rw [h2] at h1
    exact ⟨by rw [hdOf_append h6, h2], h1.1, h1.2⟩
  have hgl : got.length ≤ 70 := by
    by_cases h6 : 6 ≤ got.length
    · have h1 := hL6 h6
      have := (headCode_zero h1.2.1).2.2.1
      omega
    · omega
  have hlen5 : got.length = 5 → (hdOf (got ++ [c])).code ≠ 0 → step got c = .fault (hdOf (got ++ [c])).code := fun h5 hc => by
    unfold step
    simp only
    rw [if_pos ⟨by omega, hc⟩]
  refine take_walk rb o T cs gv L K F S got c w hrd hown hgl hL6 _ ?_ ?_ ?_
  · intro w' cs2 g cap L1 K1 F1 S1 hp h5 hc
    exact Or.inr (Or.inl ⟨_, hlen5 h5 hc, rfl, _, _, _, _, _, _, hp.rd, hp.alike, hp.chg⟩)
  · intro w' cs2 g cap L1 K1 F1 S1 hp hd hm
    refine Or.inl ⟨got ++ [c], cs2, _, ?_, rfl, ⟨⟨?_, hp.own, L1, K1, F1, S1, hp.rd, fun h6 => (hd h6).1⟩, hp.alike, hp.chg, hp.fresh _ _⟩⟩
    · unfold step
      simp only
      rw [if_neg, if_pos]
      · by_cases h6 : got.length + 1 < 6
        · exact Or.inl (by omega)
        · right
          rw [(hd (by omega)).1, hl]
          have : (got.length : Int) + 1 < 6 + L1 := by omega
          simpa using this
      · rintro ⟨a, b⟩
        have := hd (by omega)
        apply b
        unfold Hd.code
        rw [this.1]
        exact this.2
    · intro h6
      obtain ⟨e1, e2⟩ := hd h6
      refine ⟨by unfold Hd.code; rw [e1]; exact e2, ?_⟩
      rw [e1, hl]
      simp only
      omega
  · intro w3 w4 w' cs2 g cap L1 K1 F1 S1 bv e hp hd hc hL hb ho hk hf
    have hp4 := hp.below hb
    have hset : Chg (fun k => k = rb) w4 (w4.setCell ⟨rb, o, none⟩ (.slice (some ⟨g, 0, none⟩) 0 cap)) := (Chg.refl (fun k => k = rb) _).setCell (p := ⟨rb, o, none⟩) (Or.inr rfl) _
    have hrd5 := hp4.rd.set0 (.slice (some ⟨g, 0, none⟩) 0 cap)
    have hrd6 := hrd5.chg (Chg.of_below (S := fun _ => False) hf.2) id
    have hal : Alike o cs (cs2.setIfInBounds o (.slice (some ⟨g, 0, none⟩) 0 cap)) := hp4.alike.trans (Alike.set o (by omega) _)
    have hrb := hp.rd.lt
    have hchg : Chg (Touch rb gv) w w' := (hp4.chg.trans (hset.mono fun k _ h => Or.inr (Or.inl h))).then_below hf.2
    have hng := hp4.ne
    have hn1 : ¬ ((got ++ [c]).length = 6 ∧ (hdOf (got ++ [c])).code ≠ 0) := fun h => h.2 (by unfold Hd.code; rw [hd]; exact hc)
    have hL0 := length_nonneg (got ++ [c])
    have hn2 : ¬ ((got ++ [c]).length < 6 ∨ ((got ++ [c]).length : Int) < 6 + (hdOf (got ++ [c])).length) := by
      rw [hd] at hL0 ⊢
      simp only at hL0 ⊢
      rw [hl]
      omega
    have hst : step got c = if bodyCode K1 F1 ((got ++ [c]).drop 6) ≠ 0 then .fault (bodyCode K1 F1 ((got ++ [c]).drop 6)) else .frame ⟨K1, F1, S1, (got ++ [c]).drop 6⟩ := by
      unfold step
      simp only
      rw [if_neg hn1, if_neg hn2, hd]
    rcases hf.1 with ⟨h1, rfl⟩ | ⟨h1, cv, rfl, h2⟩
    · exact Or.inr (Or.inl ⟨_, by rw [hst, if_pos h1], rfl, _, _, _, _, _, _, hrd6, hal, hchg⟩)
    · have hbw : ∀ k, bv.ownBlock = some k → w.heap.size ≤ k := fun k hkk => by
        have := hk k hkk
        have := hp.size
        omega
      have hbg : ∀ k, bv.ownBlock = some k → k ≠ g := fun k hkk e => by
        have h3 := hk k hkk
        have := hp.lt
        omega
      have hb6 := owns_chg (owns_chg ho hset (fun k hkk e => by have := hk k hkk; omega)) (Chg.of_below (S := fun _ => False) hf.2) (fun _ _ => id)
      refine Or.inr (Or.inr ⟨⟨K1, F1, S1, (got ++ [c]).drop 6⟩, bv, cv, _, _, by rw [hst, if_neg (by simpa using h1)], rfl, h2, hb6, hbw, ⟨⟨got_nil, ?_, L1, K1, F1, S1, hrd6, fun h => by simp at h⟩, hal, hchg, hp.fresh _ _⟩, fun k hkk e => hbg k hkk (by simpa [Value.ownBlock] using e.symm)⟩)
      have h0 := owns_chg (owns_chg hp4.own hset (fun k hkk e => by simp [Value.ownBlock] at hkk; omega)) (Chg.of_below (S := fun _ => False) hf.2) (fun _ _ => id)
      refine ⟨rfl, ?_⟩
      rcases h0.2 with ⟨h, _⟩ | ⟨g', cap', cur, h, hbb, hgg, hn, hm, hsz, ht⟩
      · cases h
      · simp only [Value.slice.injEq, Option.some.injEq, Addr.mk.injEq, and_true, true_and] at h
        obtain ⟨rfl, rfl⟩ := h
        exact Or.inr ⟨g, cap, cur, rfl, hbb, hgg, Nat.zero_le _, hm, hsz, by simp⟩
end Go.Proofs.YtiphkngfbpdeoaaGreatDoor
namespace Go.Proofs.YtiphkngfbpdeoaaGreatDoor
open Go.RowKit
end Go.Proofs.YtiphkngfbpdeoaaGreatDoor
namespace Go.Proofs.YtiphkngfbpdeoaaGreatDoor
open Go.RowKit
set_option maxRecDepth 100000 in
set_option maxHeartbeats 400000 in
theorem faultOf_any (c : Int) (w : World) :
    Calls Tryz.prog 24 #[.iface 36 (.int .i64 c)] w fun e w' => e = .returned (.int .i64 c) ∧ w' = w := by
  have hta : ∀ (c : Int) (w : World), (Instr.typeAssert (.iface 36 (.int .i64 c)) 20 36 false).run Tryz.prog w = .ok (.int .i64 c) w := fun _ _ => by kernel_rfl
  go_enter Tryz.func24, Tryz.ntmps24
  go_wp2
  go_ret
  exact ⟨rfl, rfl⟩
def wiped (w : World) (fa rb : Nat) (c : Int) : World :=
  ((((((w.setCell ⟨fa, 0, none⟩ (.int .i64 c)).setCell ⟨rb, 0, none⟩ (.slice none 0 0)).setCell ⟨rb, 1, none⟩ (.int .i64 0)).setCell ⟨rb, 2, none⟩ (.int .i64 0)).setCell ⟨rb, 3, none⟩ (.int .i64 0)).setCell ⟨rb, 4, none⟩ (.int .i64 0)).setCell ⟨rb, 5, none⟩ (.int .i64 c)
end Go.Proofs.YtiphkngfbpdeoaaGreatDoor
namespace Go.Proofs.YtiphkngfbpdeoaaGreatDoor
open Go.RowKit
theorem Tryz.info105 : (Tryz.prog.info? 105).map (fun i => (i.zero, i.size, i.bytes)) = some (some (.agg #[.int .i64 0, .int .i64 0, .int .i64 0, .slice none 0 0]), 4, 48) := by kernel_rfl
def cellsOf : List (Fr × Value) → List Value
  | [] => []
  | p :: r => .int .i64 p.1.kind :: .int .i64 p.1.flags :: .int .i64 p.1.stream :: p.2 :: cellsOf r
theorem cellsOf_length (ps : List (Fr × Value)) : (cellsOf ps).length = ps.length * 4 := by
  induction ps with
  | nil => rfl
  | cons p r ih => simp [cellsOf, ih]; omega
theorem cellsOf_append (a b : List (Fr × Value)) : cellsOf (a ++ b) = cellsOf a ++ cellsOf b := by
  induction a with
  | nil => rfl
  | cons p r ih => simp [cellsOf, ih]
def bodyBlocks (ps : List (Fr × Value)) : List Nat := ps.filterMap (fun p => p.2.ownBlock)
theorem bodyBlocks_append (a b : List (Fr × Value)) : bodyBlocks (a ++ b) = bodyBlocks a ++ bodyBlocks b := by simp [bodyBlocks]
theorem mem_bodyBlocks {ps : List (Fr × Value)} {k : Nat} : k ∈ bodyBlocks ps ↔ ∃ p ∈ ps, p.2.ownBlock = some k := by simp [bodyBlocks]
structure FrsOwn (w : World) (lo : Nat) (v : Value) (ps : List (Fr × Value)) : Prop where
  row : w.ownsRow lo 105 4 v ps.length (cellsOf ps)
  body : ∀ p ∈ ps, w.ownsRow lo 5 1 p.2 p.1.body.length (p.1.body.map B)
  nodup : (bodyBlocks ps).Nodup
theorem FrsOwn.nil (w : World) (lo : Nat) : FrsOwn w lo (.slice none 0 0) [] := ⟨World.ownsRow_nil _ _ _ _, by simp, by simp [bodyBlocks]⟩
theorem FrsOwn.chg {S : Nat → Prop} {w w' : World} {lo : Nat} {v : Value} {ps : List (Fr × Value)} (h : FrsOwn w lo v ps) (hc : Chg S w w') (hs : ∀ k, lo ≤ k → k < w.heap.size → ¬ S k) : FrsOwn w' lo v ps :=
  ⟨owns_chg h.row hc (fun k hk => hs k (h.row.lt k hk).1 (h.row.lt k hk).2), fun p hp => owns_chg (h.body p hp) hc (fun k hk => hs k ((h.body p hp).lt k hk).1 ((h.body p hp).lt k hk).2), h.nodup⟩
theorem FrsOwn.chg' {S : Nat → Prop} {w w' : World} {lo : Nat} {v : Value} {ps : List (Fr × Value)} (h : FrsOwn w lo v ps) (hc : Chg S w w') (h1 : ∀ k, v.ownBlock = some k → ¬ S k) (h2 : ∀ k ∈ bodyBlocks ps, ¬ S k) : FrsOwn w' lo v ps :=
  ⟨owns_chg h.row hc h1, fun p hp => owns_chg (h.body p hp) hc (fun k hk => h2 k (mem_bodyBlocks.2 ⟨p, hp, hk⟩)), h.nodup⟩
theorem FrsOwn.blocks {w : World} {lo : Nat} {v : Value} {ps : List (Fr × Value)} (h : FrsOwn w lo v ps) {k : Nat} (hk : k ∈ bodyBlocks ps) : lo ≤ k ∧ k < w.heap.size := by
  obtain ⟨p, hp, e⟩ := mem_bodyBlocks.1 hk
  exact (h.body p hp).lt k e
theorem wiped_chg (w : World) (fa rb : Nat) (c : Int) : Chg (fun k => k = fa ∨ k = rb) w (wiped w fa rb c) := by
  unfold wiped
  exact (((((((Chg.refl (fun k => k = fa ∨ k = rb) w).setCell (p := ⟨fa, 0, none⟩) (Or.inr (Or.inl rfl)) _).setCell (p := ⟨rb, 0, none⟩) (Or.inr (Or.inr rfl)) _).setCell (p := ⟨rb, 1, none⟩) (Or.inr (Or.inr rfl)) _).setCell (p := ⟨rb, 2, none⟩) (Or.inr (Or.inr rfl)) _).setCell (p := ⟨rb, 3, none⟩) (Or.inr (Or.inr rfl)) _).setCell (p := ⟨rb, 4, none⟩) (Or.inr (Or.inr rfl)) _).setCell (p := ⟨rb, 5, none⟩) (Or.inr (Or.inr rfl)) _
theorem wiped_fa {w : World} {fa rb : Nat} {c : Int} {t : TypeId} {v : Value} (h : w.heap[fa]? = some (.cells #[v] t (0, 0))) (hne : fa ≠ rb) : (wiped w fa rb c).cell? ⟨fa, 0, none⟩ = some (.int .i64 c) := by
  unfold wiped
  have h1 := one_setCell (u := .int .i64 c) h
  have hc : Chg (fun k => k = rb) (w.setCell ⟨fa, 0, none⟩ (.int .i64 c)) (wiped w fa rb c) := by
    unfold wiped
    exact ((((((Chg.refl (fun k => k = rb) _).setCell (p := ⟨rb, 0, none⟩) (Or.inr rfl) _).setCell (p := ⟨rb, 1, none⟩) (Or.inr rfl) _).setCell (p := ⟨rb, 2, none⟩) (Or.inr rfl) _).setCell (p := ⟨rb, 3, none⟩) (Or.inr rfl) _).setCell (p := ⟨rb, 4, none⟩) (Or.inr rfl) _).setCell (p := ⟨rb, 5, none⟩) (Or.inr rfl) _
  have := hc.cell (p := ⟨fa, 0, none⟩) (lt_of_block h1) (by simp; omega)
  unfold wiped at this
  rw [this]
  exact cell_of_one h1
end Go.Proofs.YtiphkngfbpdeoaaGreatDoor
