import Derived.Test.YtdifgcppmnmagaaGreatDoorRGad
import Derived.Test.YtdifgcppmnmagaaGreatDoorRGaa
import Derived.Test.YtdifgcppmnmagaaGreatDoorRGab
import Derived.Deep.RegionWith
import Derived.Deep.DeepCutAuto
import Derived.Deep.RegionHeld3
set_option linter.unusedVariables false
set_option linter.unusedSimpArgs false
/-
  sluiceref: Right, bytesOf, Lay, Write.
-/
namespace Go.Proofs.YtdifgcppmnmagaaGreatDoor
open Go.RowKit

/-- Is the frame right, as the document's own answer has it? -/
def rightB (k f s : Int) (body : List UInt8) : Bool := inB k && inB f && stR k s && leR body.length k f && decide (bodyCode k f body = 0)

theorem rightB_wOk (k f s : Int) (body : List UInt8) : rightB k f s body = wOk k f s body := by
  unfold wOk
  by_cases hf : fitsB k f s body.length = true
  · obtain ⟨hk0, hk1, hf0, hf1, hs0, hs1, hn⟩ := fits_bounds hf
    rw [hf, feed_lay hk0 hk1 hf0 hf1 hs0 hs1 hn]
    have e1 : inB k = true := by simp [inB, hk0, hk1]
    have e2 : inB f = true := by simp [inB, hf0, hf1]
    have e3 : stR k s = sFits k s := by simp [stR, hs0, hs1]
    have e4 : leR body.length k f = lFits body.length k f := by
      have : (body.length : Int) ≤ 64 := by omega
      simp [leR, this]
    unfold rightB
    rw [e1, e2, e3, e4]
    have hh : headCode body.length k f s = if sFits k s = false then 9 else if lFits body.length k f = false then 10 else 0 := by
      unfold headCode
      have a1 : (32767 < s ∨ sFits k s = false) ↔ sFits k s = false := ⟨fun h => h.resolve_left (by omega), Or.inr⟩
      have a2 : (64 < (body.length : Int) ∨ lFits body.length k f = false) ↔ lFits body.length k f = false := ⟨fun h => h.resolve_left (by omega), Or.inr⟩
      simp only [a1, a2]
    rw [hh]
    cases sFits k s with
    | false => simp
    | true =>
      cases lFits body.length k f with
      | false => simp
      | true =>
        by_cases hb : bodyCode k f body = 0
        · simp [hb]
        · simp [hb]
  · have hf' : fitsB k f s body.length = false := by simpa using hf
    rw [hf', Bool.false_and]
    cases hr : rightB k f s body with
    | false => rfl
    | true =>
      exfalso
      apply hf
      simp only [rightB, stR, leR, Bool.and_eq_true, decide_eq_true_eq] at hr
      simp only [fitsB, Bool.and_eq_true, decide_eq_true_eq]
      obtain ⟨⟨⟨⟨a, b⟩, ⟨c, d⟩, _⟩, g, _⟩, _⟩ := hr
      exact ⟨⟨⟨⟨a, b⟩, c⟩, d⟩, by omega⟩

set_option maxRecDepth 100000 in
set_option maxHeartbeats 1600000 in
theorem rRight_any (k f s : Int) (sa : Option Addr) (body : List UInt8) (cap : Nat) (w : World) (hl : body.length ≤ 4294967296) (hb : BytesA w (.slice sa body.length cap) body) :
    Calls Tryz.prog 66 #[.agg #[.int .i64 k, .int .i64 f, .int .i64 s, .slice sa body.length cap]] w fun e w' => e = .returned (.bool (rightB k f s body)) ∧ Below w.heap.size w w' := by
  have hch : ∀ o, BytesA (w.alloc o) (.slice sa body.length cap) body := fun o => hb.chg ((Chg.refl _ _).alloc _)
  have HC := hide hch
  clear hb hch
  by_cases hkf : 0 ≤ k ∧ k ≤ 255 ∧ 0 ≤ f ∧ f ≤ 255
  · obtain ⟨hk0, hk1, hf0, hf1⟩ := hkf
    have e1 : inB k = true := by simp [inB, hk0, hk1]
    have e2 : inB f = true := by simp [inB, hf0, hf1]
    unfold rightB
    rw [e1, e2]
    clear e1 e2
    have hf2 : f < 256 := by omega
    cases hst : stR k s with
    | false =>
      simp only [Bool.and_false, Bool.false_and]
      go_enter Tryz.func66, Tryz.ntmps66
      go_wp2_with (go_at_call 126; refine (streamRight_any k s _ hk0).mono ?_; rintro e w1 ⟨rfl, rfl⟩; rw [hst])
      go_ret
      exact ⟨rfl, (Below.refl _ _).alloc (Nat.le_refl _) _⟩
    | true =>
      cases hle : leR body.length k f with
      | false =>
        simp only [Bool.and_false, Bool.false_and]
        go_enter Tryz.func66, Tryz.ntmps66
        go_wp2_with (first
          | (go_at_call 126; refine (streamRight_any k s _ hk0).mono ?_; rintro e w1 ⟨rfl, rfl⟩; rw [hst])
          | (go_at_call 127; refine (lengthRight_any k f s _ sa body.length cap _ hf0 hf2).mono ?_; rintro e w2 ⟨rfl, hb2⟩; rw [hle]; obtain ⟨hc2, hf2'⟩ := bcell hb2))
        go_ret
        exact ⟨rfl, ((Below.refl _ _).alloc (Nat.le_refl _) _).trans (hb2.mono (by simp))⟩
      | true =>
        have hlb : body.length ≤ 64 ∧ lFits body.length k f = true := by
          simp only [leR, Bool.and_eq_true, decide_eq_true_eq] at hle
          exact ⟨by omega, hle.2⟩
        have HLF := hide hlb.2
        have hl64 := hlb.1
        clear hlb
        simp only [Bool.and_true, Bool.true_and]
        go_enter Tryz.func66, Tryz.ntmps66
        go_wp2_with (first
          | (go_at_call 126; refine (streamRight_any k s _ hk0).mono ?_; rintro e w1 ⟨rfl, rfl⟩; rw [hst])
          | (go_at_call 127; refine (lengthRight_any k f s _ sa body.length cap _ hf0 hf2).mono ?_; rintro e w2 ⟨rfl, hb2⟩; rw [hle]; obtain ⟨hc2, hf2'⟩ := bcell hb2)
          | (go_at_call 128; refine (bodyRight_any k f s sa body cap _ hf0 hf2 hl64 HLF.out ((HC.out _).chg (Chg.of_below hb2))).mono ?_; rintro e w3 ⟨rfl, hb3⟩))
        go_ret
        have hb2' : Below w.heap.size w w2 := ((Below.refl _ _).alloc (Nat.le_refl _) _).trans (hb2.mono (by simp))
        exact ⟨rfl, hb2'.trans (hb3.mono hb2'.size)⟩
  · have e : rightB k f s body = false := by
      cases hr : rightB k f s body with
      | false => rfl
      | true =>
        exfalso
        apply hkf
        simp only [rightB, inB, Bool.and_eq_true, decide_eq_true_eq] at hr
        omega
    rw [e]
    clear e
    go_enter Tryz.func66, Tryz.ntmps66
    go_wp2_with fail
    all_goals first | (go_ret; exact ⟨rfl, (Below.refl _ _).alloc (Nat.le_refl _) _⟩) | (exfalso; omega)
end Go.Proofs.YtdifgcppmnmagaaGreatDoor
/-
  sluiceref: bytesOf, Lay, Write.
-/
namespace Go.Proofs.YtdifgcppmnmagaaGreatDoor
open Go.RowKit

set_option maxRecDepth 100000 in
set_option maxHeartbeats 1600000 in
theorem bytesOf_two (v : Int) (w : World) (h0 : 0 ≤ v) (h1 : v ≤ 65535) :
    Calls Tryz.prog 129 #[.int .i64 v, .int .i64 2] w fun e w' => e = .returned (.slice (some ⟨w.heap.size, 0, none⟩) 2 2) ∧ w'.ownsRow w.heap.size 5 1 (.slice (some ⟨w.heap.size, 0, none⟩) 2 2) 2 [.int .u8 (v / 256), .int .u8 (v % 256)] ∧ Below w.heap.size w w' := by
  obtain ⟨i0, hi, hz0, hz1, hz2⟩ := info_parts Tryz.info5
  go_enter Tryz.func129, Tryz.ntmps129
  go_wp2_with (at_make; refine wpList_make_full _ rfl _ _ 54 rfl w.heap.size 5 i0 (.int .u8 0) 1 Tryz.underlying54 hi hz0 hz1 _ _ _ _ 2 rfl rfl ?m1 ?m2 ?m3 ?m4 ?m5 ?_)
  case m1 => rfl
  case m2 => rfl
  case m3 => rw [hz2]; omega
  case m4 => unfold maxLen; omega
  case m5 => simp
  intro w1 hown1 hg1
  have hbel1 : Below w.heap.size w w1 := (Below.refl _ _).grown hg1 (Nat.le_refl _) (fun k h => by cases h)
  have hh := made_list hown1
  clear hown1 hg1
  go_wp2
  go_loopw [0, 6] (fun x i wr => Below w.heap.size w wr ∧ ((x = .int .i64 v ∧ i = .int .i64 1 ∧ wr.heap[w.heap.size]? = some (.cells [Value.int .u8 0, .int .u8 0].toArray 5 (0, 0))) ∨
      (x = .int .i64 (v / 256) ∧ i = .int .i64 0 ∧ wr.heap[w.heap.size]? = some (.cells [Value.int .u8 0, .int .u8 (v % 256)].toArray 5 (0, 0))) ∨
      (i = .int .i64 (-1) ∧ wr.heap[w.heap.size]? = some (.cells [Value.int .u8 (v / 256), .int .u8 (v % 256)].toArray 5 (0, 0))))) (fun _ i _ => (intOf i + 1).toNat)
  case atStart => exact ⟨hbel1, Or.inl ⟨rfl, rfl, hh⟩⟩
  case round =>
    obtain ⟨hbel, ⟨rfl, rfl, hrow⟩ | ⟨rfl, rfl, hrow⟩ | ⟨rfl, hrow⟩⟩ := hrel
    · have hc : wr.cell? ⟨w.heap.size, 1, none⟩ = some (.int .u8 0) := by rw [row_cell hrow]; rfl
      have hfz := row_free (i := 1) hrow
      have HR := hide (row_set (i := 1) (u := .int .u8 (v % 256)) hrow)
      clear hrow
      go_wp2
      go_roundw
      case rel => exact ⟨hbel.setCell (Nat.le_refl _) _, Or.inr (Or.inl ⟨rfl, rfl, HR.out⟩)⟩
      case measure => simp [intOf]
    · have hc : wr.cell? ⟨w.heap.size, 0, none⟩ = some (.int .u8 0) := by rw [row_cell hrow]; rfl
      have hfz := row_free (i := 0) hrow
      have hv : v / 256 % 256 = v / 256 := by omega
      have HR := hide (row_set (i := 0) (u := .int .u8 (v / 256)) hrow)
      clear hrow
      go_wp2
      go_roundw
      case rel => exact ⟨hbel.setCell (Nat.le_refl _) _, Or.inr (Or.inr ⟨rfl, HR.out⟩)⟩
      case measure => simp [intOf]
    · have HR := hide (owns_row (b := w.heap.size) hrow (by unfold maxLen; simp) (Nat.le_refl _))
      clear hrow
      go_wp2
      go_ret
      exact ⟨rfl, HR.out, hbel⟩

theorem lies_of_bytesA {w : World} {x : Value} {l : List UInt8} (h : BytesA w x l) : Lies w x l.length (l.map B) := by
  rcases h with h | ⟨ad, rfl, rfl⟩
  · exact lies_of_bytesIn h
  · exact Or.inr ⟨_, _, rfl, fun j u hu => by simp at hu⟩

theorem lies_owned {w : World} {b e s n : Nat} {v : Value} {xs : List Value} (h : w.ownsRow b e s v n xs) : Lies w v n xs := by
  rcases h.2 with ⟨rfl, h0⟩ | ⟨g, cap, cur, rfl, _, hgg, _⟩
  · have hx : xs = [] := List.eq_nil_of_length_eq_zero (by rw [h.1, h0]; simp)
    exact Or.inl ⟨rfl, h0, hx⟩
  · exact Or.inr ⟨_, _, rfl, h.cells (g := g) rfl⟩

set_option maxRecDepth 100000 in
set_option maxHeartbeats 3200000 in
theorem rLay_any (k f s : Int) (sa : Option Addr) (body : List UInt8) (cap : Nat) (w : World) (hk0 : 0 ≤ k) (hk1 : k ≤ 255) (hf0 : 0 ≤ f) (hf1 : f ≤ 255) (hs0 : 0 ≤ s) (hs1 : s ≤ 32767) (hn : body.length ≤ 64) (hb : BytesA w (.slice sa body.length cap) body) :
    Calls Tryz.prog 67 #[.agg #[.int .i64 k, .int .i64 f, .int .i64 s, .slice sa body.length cap]] w fun e w' => ∃ v, e = .returned v ∧ w'.ownsRow w.heap.size 5 1 v (lay k f s body).length ((lay k f s body).map B) ∧ Below w.heap.size w w' := by
  obtain ⟨i0, hi, hz0, hz1, hz2⟩ := info_parts Tryz.info5
  have HB := hide hb
  clear hb
  go_enter Tryz.func67, Tryz.ntmps67
  go_wp2_with fail
  refine (bytesOf_two _ _ (by omega) (by omega)).mono ?_
  rintro e w1 ⟨rfl, hown1, hb1⟩
  simp only [World.size_alloc] at hown1 ⊢
  have hfb : w1.heap[w.heap.size]? = some (.cells #[.int .i64 k, .int .i64 f, .int .i64 s, .slice sa body.length cap] 56 (0, 0)) := by
    rw [hb1.block w.heap.size (by simp)]; exact heap_alloc_new w _
  have hbel1 : Below w.heap.size w w1 := ((Below.refl _ _).alloc (Nat.le_refl _) _).trans (hb1.mono (by simp))
  have hown1' := owns_base hown1 (base' := w.heap.size) (fun j hj => by have := (hown1.lt j hj).1; omega)
  have hsz1 := lt_of_block hfb
  obtain ⟨z0, z1, z2, z3, -⟩ := frame_block hfb
  clear hb1 hown1
  go_wp2_with (at_builtin; refine wpList_app _ rfl (.tmp 9) (.tmp 13) 54 rfl 5 i0 (.int .u8 0) 1 1 Tryz.underlying54 hi hz0 hz1 hz2 rfl (by decide) _ _ _ rfl ((owns_base hown1' (fun _ _ => Nat.zero_le _)).alloc _) (.slice (some ⟨w1.heap.size, 0, none⟩) 1 1) 1 [.int .u8 k] rfl rfl (lies_one (one_alloc _ _ _)) ?c1 ?c2 ?c3 ?_)
  case c1 => intro u hu; simp at hu; subst hu; rfl
  case c2 => unfold maxLen; omega
  case c3 => omega
  intro v2 w2 hown2 hg2 hfr2
  obtain ⟨hown2', hbel2⟩ := app_keep (hbel1.alloc (by omega) _) (by simp; omega) (hown1'.alloc _) hown2 hg2 (by simpa using hfr2)
  have hfb2 := kept_block (hown1'.alloc _) hg2 (alloc_block hfb _) (by decide)
  obtain ⟨y0, y1, y2, y3, -⟩ := frame_block hfb2
  have hsz2 := lt_of_block hfb2
  clear z0 z1 z2 z3 hg2 hfr2 hown2 hown1' hfb hbel1 hsz1
  go_wp2_with (at_builtin; refine wpList_app _ rfl (.tmp 15) (.tmp 19) 54 rfl 5 i0 (.int .u8 0) 1 1 Tryz.underlying54 hi hz0 hz1 hz2 rfl (by decide) _ _ _ rfl ((owns_base hown2' (fun _ _ => Nat.zero_le _)).alloc _) (.slice (some ⟨w2.heap.size, 0, none⟩) 1 1) 1 [.int .u8 f] rfl rfl (lies_one (one_alloc _ _ _)) ?d1 ?d2 ?d3 ?_)
  case d1 => intro u hu; simp at hu; subst hu; rfl
  case d2 => unfold maxLen; omega
  case d3 => omega
  intro v3 w3 hown3 hg3 hfr3
  obtain ⟨hown3', hbel3⟩ := app_keep (hbel2.alloc (by omega) _) (by simp; omega) (hown2'.alloc _) hown3 hg3 (by simpa using hfr3)
  have hfb3 := kept_block (hown2'.alloc _) hg3 (alloc_block hfb2 _) (by decide)
  obtain ⟨x0, x1, x2, x3, -⟩ := frame_block hfb3
  have hsz3 := lt_of_block hfb3
  clear y0 y1 y2 y3 hg3 hfr3 hown3 hown2' hfb2 hbel2 hsz2
  go_wp2_with fail
  refine (bytesOf_two _ _ (by omega) (by omega)).mono ?_
  rintro e w4 ⟨rfl, hown4, hb4⟩
  have hbel4 : Below w.heap.size w w4 := hbel3.trans (hb4.mono (by omega))
  have hown3k := owns_chg hown3' (Chg.of_below (S := fun _ => False) hb4) (fun _ _ => id)
  have hfb4 : w4.heap[w.heap.size]? = some (.cells #[.int .i64 k, .int .i64 f, .int .i64 s, .slice sa body.length cap] 56 (0, 0)) := by
    rw [hb4.block w.heap.size hsz3]; exact hfb3
  have hsz4 := lt_of_block hfb4
  obtain ⟨u0, u1, u2, u3, -⟩ := frame_block hfb4
  have hlies4 := lies_owned hown4
  have HL4 := hide hlies4
  clear hlies4 hown4 hb4 x0 x1 x2 x3 hfb3 hown3' hbel3
  go_wp2_with (at_builtin; refine wpList_app _ rfl (.tmp 24) (.tmp 25) 54 rfl 5 i0 (.int .u8 0) 1 1 Tryz.underlying54 hi hz0 hz1 hz2 rfl (by decide) _ _ _ rfl (owns_base hown3k (fun _ _ => Nat.zero_le _)) (.slice (some ⟨w3.heap.size, 0, none⟩) 2 2) 2 [.int .u8 (s / 256), .int .u8 (s % 256)] rfl rfl HL4.out ?e1 ?e2 ?e3 ?_)
  case e1 =>
    intro u hu; simp at hu
    rcases hu with rfl | rfl <;> rfl
  case e2 => unfold maxLen; omega
  case e3 => omega
  intro v5 w5 hown5 hg5 hfr5
  obtain ⟨hown5', hbel5⟩ := app_keep hbel4 (by omega) hown3k hown5 hg5 hfr5
  have hfb5 := kept_block hown3k hg5 hfb4 (by decide)
  obtain ⟨t0, t1, t2, t3, -⟩ := frame_block hfb5
  have hsz5 := lt_of_block hfb5
  clear u0 u1 u2 u3 hg5 hfr5 hown5 hown3k hfb4 hbel4 HL4
  have HL5 := hide (lies_of_bytesA (HB.out.chg (Chg.of_below (S := fun _ => False) hbel5)))
  go_wp2_with (at_builtin; refine wpList_app _ rfl (.tmp 27) (.tmp 29) 54 rfl 5 i0 (.int .u8 0) 1 1 Tryz.underlying54 hi hz0 hz1 hz2 rfl (by decide) _ _ _ rfl (owns_base hown5' (fun _ _ => Nat.zero_le _)) (.slice sa body.length cap) body.length (body.map B) rfl ?g0 HL5.out ?g1 ?g2 ?g3 ?_)
  case g0 => simp
  case g1 => exact bytes_one _
  case g2 => unfold maxLen; omega
  case g3 => omega
  intro v6 w6 hown6 hg6 hfr6
  obtain ⟨hown6', hbel6⟩ := app_keep hbel5 (by omega) hown5' hown6 hg6 hfr6
  have HO := hide hown6'
  clear hown6 hg6 hfr6 hown6' HL5 t0 t1 t2 t3 hfb5 hown5'
  go_wp2
  go_ret
  refine ⟨v6, rfl, ?_, hbel6⟩
  have e1 : (lay k f s body).length = 6 + body.length := by simp [lay]; omega
  rw [e1]
  have e2 : (lay k f s body).map B = [.int .u8 ((body.length : Int) / 256), .int .u8 ((body.length : Int) % 256), .int .u8 k, .int .u8 f, .int .u8 (s / 256), .int .u8 (s % 256)] ++ body.map B := by
    unfold lay
    rw [List.map_append]
    simp only [List.map_cons, List.map_nil]
    rw [B_ofI (by omega) (by omega), B_ofI (by omega) (by omega), B_ofI hk0 hk1, B_ofI hf0 hf1, B_ofI (by omega) (by omega), B_ofI (by omega) (by omega)]
    have e3 : (body.length : Int) % 256 = body.length := by omega
    rw [e3]
  rw [e2]
  have := HO.out
  simpa using this

/-- The end of the document's Write. -/
def RWrote (w w' : World) (k f s : Int) (body : List UInt8) (e : Ending) : Prop :=
  ∃ v, e = .returned (.tuple #[v, .int .i64 (if wOk k f s body then 0 else 1)]) ∧ w'.ownsRow w.heap.size 5 1 v (if wOk k f s body then lay k f s body else []).length ((if wOk k f s body then lay k f s body else []).map B) ∧ Below w.heap.size w w'

set_option maxRecDepth 100000 in
set_option maxHeartbeats 1600000 in
theorem rWrite_any (k f s : Int) (sa : Option Addr) (body : List UInt8) (cap : Nat) (w : World) (hl : body.length ≤ 4294967296) (hb : BytesA w (.slice sa body.length cap) body) :
    Calls Tryz.prog 23 #[.agg #[.int .i64 k, .int .i64 f, .int .i64 s, .slice sa body.length cap]] w fun e w' => RWrote w w' k f s body e := by
  have hch : ∀ o, BytesA (w.alloc o) (.slice sa body.length cap) body := fun o => hb.chg ((Chg.refl _ _).alloc _)
  have HC := hide hch
  clear hch hb
  cases hok : wOk k f s body with
  | false =>
    have HO := hide hok
    have HR := hide ((rightB_wOk k f s body).trans hok)
    clear hok
    go_enter Tryz.func23, Tryz.ntmps23
    go_wp2_with (go_at_call 66; refine (rRight_any k f s sa body cap _ hl (HC.out _)).mono ?_; rintro e w1 ⟨rfl, hb1⟩; rw [HR.out])
    go_ret2
    refine ⟨.slice none 0 0, by rw [HO.out]; rfl, ?_, ((Below.refl _ _).alloc (Nat.le_refl _) _).trans (hb1.mono (by simp))⟩
    rw [HO.out]
    exact World.ownsRow_nil _ _ _ _
  | true =>
    have hfit : fitsB k f s body.length = true := by simp only [wOk, Bool.and_eq_true] at hok; exact hok.1
    obtain ⟨hk0, hk1, hf0, hf1, hs0, hs1, hn⟩ := fits_bounds hfit
    have HO := hide hok
    have HR := hide ((rightB_wOk k f s body).trans hok)
    clear hok hfit
    go_enter Tryz.func23, Tryz.ntmps23
    go_wp2_with (first
      | (go_at_call 66; refine (rRight_any k f s sa body cap _ hl (HC.out _)).mono ?_; rintro e w1 ⟨rfl, hb1⟩; rw [HR.out]; obtain ⟨hc1, hf1'⟩ := bcell hb1)
      | (go_at_call 67; refine (rLay_any k f s sa body cap _ hk0 hk1 hf0 hf1 hs0 hs1 hn ((HC.out _).chg (Chg.of_below hb1))).mono ?_; rintro e w2 ⟨v, rfl, hown, hb2⟩))
    go_ret2
    have hb1' : Below w.heap.size w w1 := ((Below.refl _ _).alloc (Nat.le_refl _) _).trans (hb1.mono (by simp))
    refine ⟨v, by rw [HO.out]; rfl, ?_, hb1'.trans (hb2.mono hb1'.size)⟩
    rw [HO.out]
    exact owns_base hown (fun j hj => by have := (hown.lt j hj).1; have := hb1'.size; omega)
end Go.Proofs.YtdifgcppmnmagaaGreatDoor
/-
  sluiceref.Frames.
-/
namespace Go.Proofs.YtdifgcppmnmagaaGreatDoor
open Go.RowKit

/-- Frames, as they are read. -/
structure FrsL (w : World) (lo : Nat) (v : Value) (ps : List (Fr × Value)) : Prop where
  row : w.ownsRow lo 56 4 v ps.length (cellsOf ps)
  body : ∀ p ∈ ps, w.ownsRow lo 5 1 p.2 p.1.body.length (p.1.body.map B)

theorem FrsL.below {w w' : World} {lo : Nat} {v : Value} {ps : List (Fr × Value)} (h : FrsL w lo v ps) (hb : Below w.heap.size w w') : FrsL w' lo v ps :=
  ⟨owns_chg h.row (Chg.of_below (S := fun _ => False) hb) (fun _ _ => id), fun p hp => owns_chg (h.body p hp) (Chg.of_below (S := fun _ => False) hb) (fun _ _ => id)⟩

theorem addr_add (b o j : Nat) : (⟨b, o, none⟩ : Addr).add j = ⟨b, o + j, none⟩ := by unfold Addr.add; split <;> simp_all

theorem splice_all {bd : List UInt8} {n : Nat} {t : TypeId} (h : bd.length = n) : (some (.cells (splice (List.replicate n (Value.int .u8 0)) 0 (bd.map B)).toArray t (0, 0)) : Option Obj) = some (.cells (bd.map B).toArray t (0, 0)) := by
  have : splice (List.replicate n (Value.int .u8 0)) 0 (bd.map B) = bd.map B := by
    unfold splice
    rw [List.drop_of_length_le (by simp [h])]
    simp
  rw [this]

/-- A head, as its six bytes say it. -/
theorem hd_drop {l : List UInt8} {a : Nat} (h : a + 6 ≤ l.length) : hdOf (l.drop a) = ⟨(nOf ((l.drop a).take 2) : Int), ((l.getD (a + 2) 0).toNat : Int), ((l.getD (a + 3) 0).toNat : Int), (nOf ((l.drop (a + 4)).take 2) : Int)⟩ := by
  have hl : 6 ≤ (l.drop a).length := by simp; omega
  have e2 : l.getD (a + 2) 0 = (l.drop a).getD 2 0 := by simp [List.getD]
  have e3 : l.getD (a + 3) 0 = (l.drop a).getD 3 0 := by simp [List.getD]
  have e4 : l.drop (a + 4) = (l.drop a).drop 4 := by simp
  rw [e2, e3, e4]
  generalize l.drop a = k at hl
  match k, hl with
  | x0 :: x1 :: x2 :: x3 :: x4 :: x5 :: r, _ =>
    simp [hdOf, be2, nOf]

theorem number_int (sa : Option Addr) (cap : Nat) (l : List UInt8) (x : Int) (n : Nat) (w : World) (h : BytesA w (.slice sa l.length cap) l) (h0 : 0 ≤ x) (hn : x.toNat + n ≤ l.length) (h4 : n ≤ 4) (hl : l.length ≤ 4294967296) :
    Calls Tryz.prog 133 #[.slice sa l.length cap, .int .i64 x, .int .i64 n] w fun e w' => e = .returned (.int .i64 (nOf ((l.drop x.toNat).take n))) ∧ w' = w := by
  have := number_any sa cap l x.toNat n w h hn h4 hl
  rwa [Int.toNat_of_nonneg h0] at this

theorem code9 {n k f s : Int} (h0 : 0 ≤ s) (h : stR k s = false) : Hd.code ⟨n, k, f, s⟩ = 9 := by
  show headCode n k f s = 9
  unfold headCode
  rw [if_pos]
  unfold stR at h
  by_cases h1 : s ≤ 32767
  · right
    simpa [h0, h1] using h
  · left; omega
theorem stR_true {k s : Int} (h : stR k s = true) : s ≤ 32767 ∧ sFits k s = true := by
  unfold stR at h
  simp only [Bool.and_eq_true, decide_eq_true_eq] at h
  exact ⟨h.1.2, h.2⟩
theorem leR_true {n : Nat} {k f : Int} (h : leR n k f = true) : n ≤ 64 ∧ lFits n k f = true := by
  unfold leR at h
  simp only [Bool.and_eq_true, decide_eq_true_eq] at h
  exact ⟨by omega, h.2⟩
theorem code10 {n k f s : Int} (_h0 : 0 ≤ s) (h : stR k s = true) (hl : leR n k f = false) : Hd.code ⟨n, k, f, s⟩ = 10 := by
  show headCode n k f s = 10
  obtain ⟨h1, h2⟩ := stR_true h
  unfold headCode
  rw [if_neg (by simp [h2]; omega), if_pos]
  unfold leR at hl
  by_cases h3 : n ≤ 64
  · right
    simpa [h3] using hl
  · left; omega
theorem code0 {n : Nat} {k f s : Int} (_h0 : 0 ≤ s) (h : stR k s = true) (hl : leR n k f = true) : Hd.code ⟨n, k, f, s⟩ = 0 := by
  obtain ⟨h1, h2⟩ := stR_true h
  obtain ⟨h3, h4⟩ := leR_true hl
  show headCode n k f s = 0
  exact headCode_of h1 h2 (by omega) h4
theorem told_kept' {w w' : World} {b : Nat} {cs : Array Value} {t : TypeId} {fr : Nat × Nat} (h : w.heap[b]? = some (.cells cs t fr)) (hb : Below w.heap.size w w') : w'.heap[b]? = some (.cells cs t fr) := by
  rw [hb.block b (lt_of_block h)]; exact h

theorem below_chg {S : Nat → Prop} {W0 w w' : World} (h : Below W0.heap.size W0 w) (hc : Chg S w w') (hs : ∀ j, S j → W0.heap.size ≤ j) : Below W0.heap.size W0 w' :=
  ⟨hc.os.trans h.os, hc.tape.trans h.tape, hc.output.trans h.output, Nat.le_trans h.size hc.size, fun k hk => by
    rw [hc.block k (Nat.lt_of_lt_of_le hk h.size) (fun e => absurd (hs k e) (Nat.not_le.2 hk))]; exact h.block k hk⟩

def FrRel (w : World) (l : List UInt8) (v : Value) (a : Nat) (ps : List (Fr × Value)) (wr : World) : Prop :=
  a ≤ l.length ∧ FrsL wr w.heap.size v ps ∧ feed [] l = (ps.map Prod.fst ++ (feed [] (l.drop a)).1, (feed [] (l.drop a)).2) ∧ ps.length ≤ a ∧ Below w.heap.size w wr

/-- The end of Frames. -/
def FrEnd (w w' : World) (l : List UInt8) (e : Ending) : Prop :=
  ∃ v ps, e = .returned (.tuple #[v, .int .i64 (feed [] l).2.code]) ∧ ps.map Prod.fst = (feed [] l).1 ∧ FrsL w' w.heap.size v ps ∧ ps.length ≤ l.length ∧ Below w.heap.size w w'

theorem FrRel.ends {w wr w' : World} {l : List UInt8} {v : Value} {a : Nat} {ps : List (Fr × Value)} {c : Int} {rd : Rd} (h : FrRel w l v a ps wr) (hf : feed [] (l.drop a) = ([], rd)) (hc : rd.code = c) (hb : Below wr.heap.size wr w') : FrEnd w w' l (.returned (.tuple #[v, .int .i64 c])) := by
  obtain ⟨h1, h2, h3, h4, h5⟩ := h
  rw [hf] at h3
  refine ⟨v, ps, ?_, ?_, h2.below hb, by omega, h5.trans (hb.mono h5.size)⟩
  · rw [h3, ← hc]
  · rw [h3]; simp

/-- A frame more. -/
theorem frRel_next {w wr w9 w10 : World} {l : List UInt8} {v v' bv : Value} {a n : Nat} {ps : List (Fr × Value)} {f : Fr} {o1 : Obj} (h : FrRel w l v a ps wr) (hal : a + (6 + n) ≤ l.length) (hf : feed [] (l.drop a) = (f :: (feed [] ((l.drop a).drop (6 + n))).1, (feed [] ((l.drop a).drop (6 + n))).2)) (hb9 : Below wr.heap.size wr w9)
    (hbv : w9.ownsRow 0 5 1 bv f.body.length (f.body.map B)) (hbf : ∀ j, bv.ownBlock = some j → wr.heap.size ≤ j) (hown : w10.ownsRow 0 56 4 v' (ps.length + 1) (cellsOf ps ++ cellsOf [(f, bv)])) (hg : (w9.alloc o1).grownBy w10 v.ownBlock) (hfr : v'.ownBlock = v.ownBlock ∨ v'.ownBlock = some (w9.heap.size + 1)) :
    FrRel w l v' (a + (6 + n)) (ps ++ [(f, bv)]) w10 := by
  obtain ⟨h1, h2, h3, h4, h5⟩ := h
  have hc : Chg (fun j => v.ownBlock = some j) w9 w10 := Chg.trans ((Chg.refl _ _).alloc o1) (Chg.of_grown hg (fun j hj => Or.inr hj))
  have hv : ∀ j, v.ownBlock = some j → w.heap.size ≤ j := fun j hj => (h2.row.lt j hj).1
  have hsz := h5.size
  have hsz9 := hb9.size
  have c9 : Chg (fun _ => False) wr w9 := Chg.of_below hb9
  have hrow9 := owns_chg h2.row c9 (fun _ _ => id)
  refine ⟨hal, ⟨?_, ?_⟩, ?_, by simp; omega, ?_⟩
  · rw [cellsOf_append]
    simp only [List.length_append, List.length_cons, List.length_nil, Nat.zero_add]
    refine owns_base hown (fun j hj => ?_)
    rcases hfr with e | e
    · rw [e] at hj; exact hv j hj
    · rw [e] at hj; simp at hj; omega
  · intro p hp
    rcases List.mem_append.1 hp with hp | hp
    · have hp9 := owns_chg (h2.body p hp) c9 (fun _ _ => id)
      exact owns_chg hp9 hc (fun j hj e => rows_ne hrow9 hp9 (by decide) e hj)
    · simp at hp; subst hp
      exact owns_base (owns_chg hbv hc (fun j hj e => rows_ne hrow9 hbv (by decide) e hj)) (fun j hj => by have := hbf j hj; omega)
  · rw [h3, hf, List.drop_drop]
    simp
  · have hb : Below w.heap.size w w9 := h5.trans (hb9.mono h5.size)
    exact below_chg hb hc hv

set_option maxRecDepth 100000 in
set_option maxHeartbeats 6400000 in
theorem rFrames_any (sa : Option Addr) (cap : Nat) (l : List UInt8) (w : World) (h : BytesIn w (.slice sa l.length cap) l) (hl : l.length ≤ 4294967296) :
    Calls Tryz.prog 71 #[.slice sa l.length cap] w fun e w' => FrEnd w w' l e := by
  have H := hide h
  clear h
  obtain ⟨i0, hi, hz0, hz1, hz2⟩ := info_parts Tryz.info5
  obtain ⟨j0, ji, jz0, jz1, jz2⟩ := info_parts Tryz.info56
  have hsz : (Tryz.prog.info? 5).map (·.size) = some 1 := by rw [hi]; simp [hz1]
  go_enter Tryz.func71, Tryz.ntmps71
  go_wp2
  go_loopw [4, 5] (fun v i wr => ∃ (a : Nat) (ps : List (Fr × Value)), i = .int .i64 a ∧ FrRel w l v a ps wr) (fun _ i _ => l.length - (intOf i).toNat)
  case atStart => exact ⟨0, [], rfl, Nat.zero_le _, ⟨World.ownsRow_nil _ _ _ _, by simp⟩, by simp, by simp, Below.refl _ _⟩
  case round =>
    obtain ⟨a, ps, rfl, hR⟩ := hrel
    have hal := hR.1
    obtain ⟨sv, cv, rfl⟩ := slice_len hR.2.1.row
    have HR := hide hR
    clear hR
    by_cases h6 : 6 ≤ l.length - a
    · rcases H.out with ⟨_, h0⟩ | ⟨bb, off, cap', he, hbb, hca, hcell⟩
      · rw [h0] at h6; simp at h6
      · simp only [Value.slice.injEq] at he
        obtain ⟨rfl, -, rfl⟩ := he
        have hB := HR.out.2.2.2.2
        have HB := hide hB
        have hw2 := (hB.cell (p := ⟨bb, off + (a + 2), none⟩) hbb).trans (hcell (a + 2) (by omega))
        have hw3 := (hB.cell (p := ⟨bb, off + (a + 3), none⟩) hbb).trans (hcell (a + 3) (by omega))
        have HC := hide hcell
        clear hB hcell
        go_wp2_with fail
        refine (number_any (some ⟨bb, off, none⟩) cap l a 2 _ (Or.inl (H.out.chg (Chg.of_below (S := fun _ => False) HB.out) (fun _ _ => id))) (by omega) (by omega) hl).mono ?_
        rintro e w1 ⟨rfl, hw1⟩
        rw [hw1]
        clear hw1 w1
        have hb2 : (l.getD (a + 2) 0).toNat ≤ 255 := Nat.le_of_lt_succ (l.getD (a + 2) 0).toNat_lt
        have hb3 : (l.getD (a + 3) 0).toNat ≤ 255 := Nat.le_of_lt_succ (l.getD (a + 3) 0).toNat_lt
        generalize hx2 : (l.getD (a + 2) 0).toNat = x2 at hw2 hb2
        generalize hx3 : (l.getD (a + 3) 0).toNat = x3 at hw3 hb3
        have HX2 := hide hx2
        have HX3 := hide hx3
        clear hx2 hx3
        go_upto_region 5 with fail
        go_cut [7] (fun s7 wx => s7 = .pointer (some ⟨wr.heap.size, 0, none⟩) ∧ wx = (wr.alloc (.cells #[.int .i64 x2, .int .i64 x3, .int .i64 0, .slice none 0 0] 56)).drew)
        case first =>
          have hw2a : (wr.alloc (.cells #[.int .i64 0, .int .i64 0, .int .i64 0, .slice none 0 0] 56)).drew.cell? ⟨bb, off + (a + 2), none⟩ = some (.int .u8 x2) := (((Below.refl wr.heap.size wr).alloc (Nat.le_refl _) _).cell (p := ⟨bb, off + (a + 2), none⟩) (Nat.lt_of_lt_of_le hbb HB.out.size)).trans hw2
          have hw3a : (wr.alloc (.cells #[.int .i64 0, .int .i64 0, .int .i64 0, .slice none 0 0] 56)).drew.cell? ⟨bb, off + (a + 3), none⟩ = some (.int .u8 x3) := (((Below.refl wr.heap.size wr).alloc (Nat.le_refl _) _).cell (p := ⟨bb, off + (a + 3), none⟩) (Nat.lt_of_lt_of_le hbb HB.out.size)).trans hw3
          go_region
          all_goals (go_wp2_with fail; go_meet; exact ⟨rfl, rfl⟩)
        case rest =>
          obtain ⟨rfl, hwc⟩ := hcut
          obtain ⟨w2, hw2e⟩ : ∃ w2, w2 = wc := ⟨wc, rfl⟩
          subst hw2e
          have hb2 : Below wr.heap.size wr w2 := by
            rw [hwc]
            have h := (Below.refl wr.heap.size wr).alloc (Nat.le_refl _) (.cells #[.int .i64 x2, .int .i64 x3, .int .i64 0, .slice none 0 0] 56)
            exact ⟨h.os, h.tape, h.output, h.size, h.block⟩
          have hf2 : w2.heap[wr.heap.size]? = some (.cells #[.int .i64 x2, .int .i64 x3, .int .i64 0, .slice none 0 0] 56 (0, 0)) := by
            rw [hwc]
            exact heap_alloc_new wr _
          have HB2 := hide (HB.out.trans (hb2.mono HB.out.size))
          have HBR := hide hb2
          have HF2 := hide hf2
          obtain ⟨f0, f1, f2, f3, ff⟩ := frame_block hf2
          have ff2 := ff 2
          clear hwc hb2 hf2 hw2 hw3 ff
          have hnl := nOf_lt ((l.drop a).take 2)
          have hn2 : nOf ((l.drop a).take 2) < 65536 := by
            have h2 : ((l.drop a).take 2).length = 2 := by simp; omega
            rw [h2] at hnl; simpa using hnl
          have hsl := nOf_lt ((l.drop (a + 4)).take 2)
          have hs2 : nOf ((l.drop (a + 4)).take 2) < 65536 := by
            have h2 : ((l.drop (a + 4)).take 2).length = 2 := by simp; omega
            rw [h2] at hsl; simpa using hsl
          have hhd := hd_drop (l := l) (a := a) (by omega)
          rw [HX2.out, HX3.out] at hhd
          clear hnl hsl
          generalize nOf ((l.drop a).take 2) = n at hn2 hhd ⊢
          generalize hst0 : nOf ((l.drop (a + 4)).take 2) = st at hs2 hhd
          have HST := hide hst0
          have HHD := hide hhd
          clear hst0 hhd HX2 HX3
          go_wp2_with fail
          refine (number_int (some ⟨bb, off, none⟩) cap l _ 2 _ (Or.inl (H.out.chg (Chg.of_below (S := fun _ => False) HB2.out) (fun _ _ => id))) (by omega) (by omega) (by omega) hl).mono ?_
          rintro e w1 ⟨he, hw1⟩
          rw [hw1]
          have ht4 : ((a : Int) + 4).toNat = a + 4 := by omega
          rw [ht4, HST.out] at he
          subst he
          clear hw1 w1 ht4
          go_wp2_with fail
          obtain ⟨w3, hw3e⟩ : ∃ w3, w3 = w2.setCell ⟨wr.heap.size, 2, none⟩ (.int .i64 st) := ⟨_, rfl⟩
          have hf3 : w3.heap[wr.heap.size]? = some (.cells #[.int .i64 x2, .int .i64 x3, .int .i64 st, .slice none 0 0] 56 (0, 0)) := by rw [hw3e]; exact block_setCell HF2.out
          have hb3' : Below wr.heap.size wr w3 := by rw [hw3e]; exact HBR.out.setCell (Nat.le_refl _) _
          rw [← hw3e]
          have HF3 := hide hf3
          have HB3 := hide hb3'
          obtain ⟨g0, g1, g2, g3, -⟩ := frame_block hf3
          clear hw3e hf3 hb3' f0 f1 f2 f3 ff2 HF2 HBR HB2
          have h6' : 6 ≤ (l.drop a).length := by simp; omega
          have H6 := hide h6'
          clear h6'
          cases hst : stR x2 st with
          | false =>
            have hcd : (hdOf (l.drop a)).code = 9 := by rw [HHD.out]; exact code9 (by omega) hst
            have hend := fun (w' : World) (hb : Below wr.heap.size wr w') => HR.out.ends (rf_head H6.out (by rw [hcd]; decide)) hcd hb
            have HE := hide hend
            refine (streamRight_any x2 st _ (by omega)).mono ?_
            rintro e w1 ⟨he, hw1⟩
            rw [hst] at he
            subst he
            rw [hw1]
            clear hw1 w1 hcd hend hst
            go_wp2
            go_ret2
            exact HE.out _ HB3.out
          | true =>
            refine (streamRight_any x2 st _ (by omega)).mono ?_
            rintro e w1 ⟨he, hw1⟩
            rw [hst] at he
            subst he
            rw [hw1]
            clear hw1 w1
            have HS := hide hst
            clear hst
            go_wp2_with fail
            refine (lengthRight_any x2 x3 st n none 0 0 _ (by omega) (by omega)).mono ?_
            rintro e w4 ⟨he, hb4⟩
            have HF4 := hide (told_kept' HF3.out hb4)
            have HB4 := hide (HB3.out.trans (hb4.mono HB3.out.size))
            obtain ⟨k0, k1, k2, k3, kf⟩ := frame_block HF4.out
            have kf3 := kf 3
            clear hb4 g0 g1 g2 g3 kf HF3 HB3
            cases hle : leR n x2 x3 with
            | false =>
              have hcd : (hdOf (l.drop a)).code = 10 := by rw [HHD.out]; exact code10 (by omega) HS.out hle
              have hend := fun (w' : World) (hb : Below wr.heap.size wr w') => HR.out.ends (rf_head H6.out (by rw [hcd]; decide)) hcd hb
              have HE := hide hend
              rw [hle] at he
              subst he
              clear hcd hend hle
              go_wp2
              go_ret2
              exact HE.out _ HB4.out
            | true =>
              have hcd : (hdOf (l.drop a)).code = 0 := by rw [HHD.out]; exact code0 (by omega) HS.out hle
              have hn64 : n ≤ 64 := (leR_true hle).1
              have hlf := (leR_true hle).2
              rw [hle] at he
              subst he
              have HCD := hide hcd
              have HLF := hide hlf
              clear hcd hlf hle HS
              by_cases hw : l.length < a + 6 + n
              · have hend := fun (w' : World) (hb : Below wr.heap.size wr w') => HR.out.ends (c := 0) (rf_wait H6.out HCD.out (by rw [HHD.out]; simp; omega)) rfl hb
                have HE := hide hend
                clear hend
                go_wp2
                go_ret2
                exact HE.out _ HB4.out
              · have hfb : wr.heap.size < w4.heap.size := lt_of_block HF4.out
                go_wp2_with (at_make; refine wpList_make_full _ rfl _ _ 54 rfl wr.heap.size 5 i0 (.int .u8 0) 1 Tryz.underlying54 hi hz0 hz1 _ _ _ _ n rfl rfl ?m1 ?m2 ?m3 ?m4 ?m5 ?_)
                case m1 => go_num
                case m2 => go_num
                case m3 => rw [hz2]; omega
                case m4 => unfold maxLen; omega
                case m5 => omega
                intro w5 hown5 hg5
                have hbl5 : Below w4.heap.size w4 w5 := (Below.refl _ _).grown hg5 (Nat.le_refl _) (fun k h => by cases h)
                have hh5 := made_list hown5
                have hf5 := told_kept' HF4.out hbl5
                have HB5 := hide (HB4.out.trans (hbl5.mono HB4.out.size))
                have HH5 := hide hh5
                have HF5 := hide hf5
                have hs5 := lt_of_block hh5
                obtain ⟨g0, g1, g2, g3, gf⟩ := frame_block hf5
                have gf3 := gf 3
                clear hown5 hg5 hbl5 hh5 hf5 k0 k1 k2 k3 kf3 gf HF4 HB4
                go_upto_region 17 with fail
                obtain ⟨w6, hw6⟩ : ∃ w6, w6 = w5.setCell ⟨wr.heap.size, 3, none⟩ (.slice (some ⟨w4.heap.size, 0, none⟩) n n) := ⟨_, rfl⟩
                have hf6 : w6.heap[wr.heap.size]? = some (.cells #[.int .i64 x2, .int .i64 x3, .int .i64 st, .slice (some ⟨w4.heap.size, 0, none⟩) n n] 56 (0, 0)) := by rw [hw6]; exact block_setCell HF5.out
                have hb6 : Below wr.heap.size wr w6 := by rw [hw6]; exact HB5.out.setCell (Nat.le_refl _) _
                have hh6 : w6.heap[w4.heap.size]? = some (.cells (List.replicate n (Value.int .u8 0)).toArray 5 (0, 0)) := by
                  rw [hw6, Chg.block ((Chg.refl (fun j => j = wr.heap.size) w5).setCell (p := ⟨wr.heap.size, 3, none⟩) (Or.inr rfl) _) _ hs5 (by omega)]; exact HH5.out
                rw [← hw6]
                have HF6 := hide hf6
                have HB6 := hide hb6
                have HH6 := hide hh6
                obtain ⟨m0, m1, m2, m3, -⟩ := frame_block hf6
                clear hw6 hf6 hb6 hh6 g0 g1 g2 g3 gf3 HF5 HB5 HH5
                obtain ⟨bd, hbd⟩ : ∃ bd : List UInt8, bd = (l.drop (a + 6)).take n := ⟨_, rfl⟩
                have hbl : bd.length = n := by rw [hbd]; simp; omega
                have HBD := hide hbd
                have HBL := hide hbl
                clear hbd hbl
                go_cut [0] (fun s0 wx => s0 = .slice (some ⟨bb, off, none⟩) l.length cap ∧ wx.heap[wr.heap.size]? = some (.cells #[.int .i64 x2, .int .i64 x3, .int .i64 st, .slice (some ⟨w4.heap.size, 0, none⟩) n n] 56 (0, 0)) ∧ wx.heap[w4.heap.size]? = some (.cells (bd.map B).toArray 5 (0, 0)) ∧ Below wr.heap.size wr wx)
                case first =>
                  have q1 : IntKind.i64.wrap ((a : Int) + 6 + n) = a + 6 + n := wraps_i64 _ (by omega) (by omega)
                  have q2 : (0 : Int) ≤ a + 6 + n := by omega
                  have q3 : (a : Int) + 6 + n ≤ cap := by omega
                  have q4 : (0 : Int) ≤ a + 6 := by omega
                  have q5 : max ((a : Int) + 6 + n) 0 = a + 6 + n := by omega
                  have q8 : (a : Int) + 6 ≤ a + 6 + n := by omega
                  have q6 : ((a : Int) + 6 + n).toNat - ((a : Int) + 6).toNat = n := by omega
                  have q7 : ((a : Int) + 6).toNat = a + 6 := by omega
                  have HH6d : Hid (w6.drew.heap[w4.heap.size]? = some (.cells (List.replicate n (Value.int .u8 0)).toArray 5 (0, 0))) := HH6.out
                  have HB6d : Hid (Below wr.heap.size wr w6.drew) := ⟨HB6.out.os, HB6.out.tape, HB6.out.output, HB6.out.size, HB6.out.block⟩
                  have N1 : Hid ((bd.map B).length = Nat.min (((a : Int) + 6 + n).toNat - (a + 6)) n) := by
                    have e1 : ((a : Int) + 6 + n).toNat - (a + 6) = n := by omega
                    have e2 := HBL.out
                    show (bd.map B).length = _
                    rw [e1, List.length_map, e2]
                    exact (Nat.min_self n).symm
                  have N2 : Hid (0 < (bd.map B).length → some (⟨w4.heap.size, 0, none⟩ : Addr) = some ⟨w4.heap.size, 0, none⟩ ∧ ∃ ad, (if cap = a + 6 then some (⟨bb, off, none⟩ : Addr) else some ⟨bb, off + (a + 6), none⟩) = some ad ∧ ∀ j v, (bd.map B)[j]? = some v → w6.drew.cell? (ad.add j) = some v) := by
                    intro h0
                    have e2 := HBL.out
                    rw [List.length_map, e2] at h0
                    refine ⟨rfl, ⟨bb, off + (a + 6), none⟩, by rw [if_neg (by omega)], fun j v hj => ?_⟩
                    have hjl : j < bd.length := by
                      have := (List.getElem?_eq_some_iff.1 hj).1
                      simpa using this
                    have e3 : (⟨bb, off + (a + 6), none⟩ : Addr).add j = ⟨bb, off + (a + 6 + j), none⟩ := by rw [addr_add, Nat.add_assoc off]
                    have hlt : a + 6 + j < l.length := by omega
                    have hc := HC.out (a + 6 + j) hlt
                    have e4 : (l.getD (a + 6 + j) 0) = bd.getD j 0 := by
                      rw [HBD.out]
                      have hjn : j < n := by omega
                      simp [List.getD, hjn]
                    rw [e3]
                    show w6.cell? _ = _
                    rw [(HB6.out.cell (p := ⟨bb, off + (a + 6 + j), none⟩) (Nat.lt_of_lt_of_le hbb HB.out.size)), (HB.out.cell (p := ⟨bb, off + (a + 6 + j), none⟩) hbb), hc, e4]
                    rw [← hj]
                    simp [List.getD, hjl]
                  have N3 : Hid (0 + (bd.map B).length ≤ (List.replicate n (Value.int .u8 0)).length) := by
                    have e2 := HBL.out
                    show _ ≤ _
                    simp [e2]
                  have N4 : Hid (∀ v ∈ bd.map B, v.oneCell' = true) := by
                    intro v hv
                    obtain ⟨x, _, rfl⟩ := List.mem_map.1 hv
                    rfl
                  have N5 : Hid (wr.heap.size ≤ w4.heap.size) := Nat.le_of_lt hfb
                  go_region_law (refine step_copy_splice rfl (.tmp 62) (.tmp 68) 54 54 rfl 5 Tryz.underlying54 hsz (some ⟨w4.heap.size, 0, none⟩) _ n n _ _ rfl rfl w4.heap.size 0 (List.replicate n (Value.int .u8 0)) 5 HH6d.out (bd.map B) N1.out N2.out N3.out N4.out (wr.heap.size + 1) w6.drew (Below.refl _ _) hfb ?_; intro w7 hg7 hb7)
                  all_goals (go_wp2_with fail)
                  all_goals (go_meet; refine ⟨by first | rfl | (congr 1; omega), (hb7.block _ (Nat.lt_succ_self _)).trans HF6.out, hg7.out.trans (splice_all HBL.out), HB6d.out.trans (hb7.mono (Nat.le_succ _))⟩)
                case rest =>
                  obtain ⟨rfl, hf8, hh8, hb8⟩ := hcut
                  obtain ⟨w8, hw8⟩ : ∃ w8, w8 = wc := ⟨wc, rfl⟩
                  subst hw8
                  obtain ⟨g0, g1, g2, g3, -⟩ := frame_block hf8
                  have hs8 := lt_of_block hf8
                  have hs8' := lt_of_block hh8
                  have howb : w8.ownsRow 0 5 1 (.slice (some ⟨w4.heap.size, 0, none⟩) n n) n (bd.map B) := by
                    have h := owns_row (b := 0) hh8 (by have := HBL.out; simp [maxLen]; omega) (Nat.zero_le _)
                    rw [List.length_map, HBL.out] at h
                    exact h
                  have HF8 := hide hf8
                  have HB8 := hide hb8
                  have HO8 := hide howb
                  clear hf8 hh8 hb8 howb m0 m1 m2 m3 HF6 HB6 HH6
                  have hbyt : BytesA w8 (.slice (some ⟨w4.heap.size, 0, none⟩) bd.length n) bd := by
                    have h := HO8.out
                    have e := HBL.out
                    rw [e]
                    exact Or.inl (bytesIn_of_owns h e.symm)
                  have hbr := bodyRight_any x2 x3 st (some ⟨w4.heap.size, 0, none⟩) bd n w8 (by omega) (by omega) (by have := HBL.out; omega) (by have := HBL.out; have h := HLF.out; rw [this]; exact h) hbyt
                  rw [HBL.out] at hbr
                  have HBY := hide hbr
                  clear hbyt hbr
                  have hdd : ((l.drop a).drop 6).take n = bd := by rw [List.drop_drop, HBD.out]
                  have hrf := rf_body (n := n) H6.out HCD.out (by rw [HHD.out]) (by simp; omega)
                  rw [hdd, HHD.out] at hrf
                  have HRF := hide hrf
                  clear hdd hrf
                  go_wp2_with fail
                  refine HBY.out.mono ?_
                  rintro e w9 ⟨he, hb9⟩
                  have HF9 := hide (told_kept' HF8.out hb9)
                  have HB9 := hide (HB8.out.trans (hb9.mono HB8.out.size))
                  have HO9 := hide (owns_chg HO8.out (Chg.of_below (S := fun _ => False) hb9) (fun _ _ => id))
                  obtain ⟨k0, k1, k2, k3, -⟩ := frame_block HF9.out
                  have hs9 : w4.heap.size < w9.heap.size := by have := hb9.size; omega
                  clear hb9 g0 g1 g2 g3 HF8 HB8 HO8 HBY
                  by_cases hbc : bodyCode x2 x3 bd = 0
                  · rw [decide_eq_true hbc] at he
                    subst he
                    have hrf := HRF.out
                    rw [if_pos hbc] at hrf
                    have HRF2 := hide hrf
                    clear hrf HRF
                    have hps : ps.length ≤ a := HR.out.2.2.2.1
                    have hfr := fun (v' : Value) (w10 : World) (o1 : Obj) => frRel_next (o1 := o1) (v' := v') (w10 := w10) (a := a) (f := ⟨x2, x3, st, bd⟩) (bv := .slice (some ⟨w4.heap.size, 0, none⟩) n n) HR.out (by show a + (6 + n) ≤ l.length; omega) HRF2.out HB9.out (by have h := HO9.out; rw [HBL.out]; exact h) (fun j hj => by simp [Value.ownBlock] at hj; omega)
                    have hown : w9.ownsRow 0 56 4 (.slice sv ps.length cv) ps.length (cellsOf ps) := owns_base (owns_chg HR.out.2.1.row (Chg.of_below (S := fun _ => False) HB9.out) (fun _ _ => id)) (fun _ _ => Nat.zero_le _)
                    have HFR := hide hfr
                    have HOW := hide hown
                    clear hfr hown hbc
                    go_wp2_with (at_builtin; refine wpList_app _ rfl (.tmp 75) (.tmp 77) 22 rfl 56 j0 (.agg #[.int .i64 0, .int .i64 0, .int .i64 0, .slice none 0 0]) 4 48 Tryz.underlying22 ji jz0 jz1 jz2 rfl (by decide) _ _ _ rfl (HOW.out.alloc _) (.slice (some ⟨w9.heap.size, 0, none⟩) 1 1) 1 (cellsOf [(⟨x2, x3, st, bd⟩, .slice (some ⟨w4.heap.size, 0, none⟩) n n)]) rfl rfl ?c1 ?c2 ?c3 ?c4 ?_)
                    case c1 => exact Or.inr ⟨_, _, rfl, fun j u hu => lies_row (xs := cellsOf [(⟨x2, x3, st, bd⟩, .slice (some ⟨w4.heap.size, 0, none⟩) n n)]) j u hu⟩
                    case c2 => exact frame_one _ _ _ _
                    case c3 => unfold maxLen; omega
                    case c4 => omega
                    intro v' w10 hown10 hg10 hfr10
                    have hrel' := HFR.out v' w10 _ hown10 hg10 (by simpa using hfr10)
                    have HREL := hide hrel'
                    clear hown10 hg10 hfr10 hrel' k0 k1 k2 k3
                    go_wp2
                    go_roundw
                    case rel => exact ⟨a + (6 + n), _, by go_num, HREL.out⟩
                    case measure => simp [intOf]; omega
                  · rw [decide_eq_false hbc] at he
                    subst he
                    have hc9 : bodyCode x2 x3 bd = 9 := (bodyCode_cases x2 x3 bd).resolve_left hbc
                    have hrf := HRF.out
                    rw [if_neg hbc] at hrf
                    have hend := fun (w' : World) (hb : Below wr.heap.size wr w') => HR.out.ends hrf hc9 hb
                    have HE := hide hend
                    clear hend hrf hc9 hbc
                    go_wp2
                    go_ret2
                    exact HE.out _ HB9.out
    · have hend := HR.out.ends (c := 0) (feed_short [] (l.drop a) (by simp; omega)) rfl (Below.refl _ _)
      go_wp2
      go_ret2
      exact hend
end Go.Proofs.YtdifgcppmnmagaaGreatDoor
/-
  What holds within keepFrames.
-/
namespace Go.Proofs.YtdifgcppmnmagaaGreatDoor
open Go.RowKit

theorem Tryz.info75 : (Tryz.prog.info? 75).map (fun i => (i.zero, i.size, i.bytes)) = some (some (.agg #[.slice none 0 0, .slice none 0 0, .slice none 0 0, .slice none 0 0, .int .i64 0]), 5, 104) := by kernel_rfl

/-- The end of keepFrames. -/
structure KeptF (w w' : World) (b : Nat) (cs : Array Value) (kv fv v : Value) (ps : List (Fr × Value)) (recs : List RecB) (frs : List FRec) (kv' fv' : Value) (rs : List RecB) (r : FRec) : Prop where
  blk : w'.heap[b]? = some (.cells ((cs.setIfInBounds 9 kv').setIfInBounds 12 fv') 46 (0, 0))
  rowB : w'.ownsRow 0 65 5 kv' (recs ++ rs).length (recCells (recs ++ rs))
  rowF : w'.ownsRow 0 75 5 fv' (frs ++ [r]).length (frCells (frs ++ [r]))
  len : rs.length = ps.length
  famB : ∀ x ∈ rs, FamB w' x
  okB : ∀ x ∈ rs, x.n ≤ recs.length + ps.length ∧ x.len ≤ 4294967296
  famF : FamF w' r
  okF : r.len = ps.length
  blksB : ∀ x ∈ rs, ∀ u ∈ [x.l, x.a, x.b, x.c], ∀ j, u.ownBlock = some j → j ∈ bodyBlocks ps ∨ w.heap.size ≤ j
  blksF : ∀ u ∈ [r.l, r.a, r.b, r.c], ∀ j, u.ownBlock = some j → v.ownBlock = some j ∨ w.heap.size ≤ j
  chg : Chg (fun j => j = b ∨ kv.ownBlock = some j ∨ fv.ownBlock = some j ∨ v.ownBlock = some j ∨ j ∈ bodyBlocks ps) w w'
  kvb : ∀ j, kv'.ownBlock = some j → kv.ownBlock = some j ∨ w.heap.size ≤ j
  fvb : ∀ j, fv'.ownBlock = some j → fv.ownBlock = some j ∨ w.heap.size ≤ j

/-- The first loop: the bodies. -/
structure KLoop (w wr : World) (b : Nat) (cs : Array Value) (kv : Value) (ps : List (Fr × Value)) (recs : List RecB) (k : Nat) (kvk : Value) (rs : List RecB) : Prop where
  blk : wr.heap[b]? = some (.cells (cs.setIfInBounds 9 kvk) 46 (0, 0))
  rowB : wr.ownsRow 0 65 5 kvk (recs ++ rs).length (recCells (recs ++ rs))
  len : rs.length = k
  fam : ∀ x ∈ rs, FamB wr x
  ok : ∀ x ∈ rs, x.n ≤ recs.length + ps.length ∧ x.len ≤ 4294967296
  blks : ∀ x ∈ rs, ∀ u ∈ [x.l, x.a, x.b, x.c], ∀ j, u.ownBlock = some j → j ∈ bodyBlocks (ps.take k) ∨ w.heap.size ≤ j
  chg : Chg (fun j => j = b ∨ kv.ownBlock = some j ∨ j ∈ bodyBlocks (ps.take k)) w wr
  kvb : ∀ j, kvk.ownBlock = some j → kv.ownBlock = some j ∨ w.heap.size ≤ j

theorem mem_take_next {ps : List (Fr × Value)} {k j : Nat} (hk : k < ps.length) : j ∈ bodyBlocks (ps.take (k + 1)) ↔ j ∈ bodyBlocks (ps.take k) ∨ ps[k].2.ownBlock = some j := by
  rw [List.take_succ_eq_append_getElem hk, bodyBlocks_append, List.mem_append, mem_bodyBlocks (ps := [ps[k]])]
  simp
theorem body_apart {ps : List (Fr × Value)} {k j : Nat} (hn : (bodyBlocks ps).Nodup) (hk : k < ps.length) (h1 : j ∈ bodyBlocks (ps.take k)) (h2 : ps[k].2.ownBlock = some j) : False := by
  have e : ps = ps.take k ++ ps.drop k := (List.take_append_drop k ps).symm
  rw [e, bodyBlocks_append, List.nodup_append] at hn
  have h3 : j ∈ bodyBlocks (ps.drop k) := mem_bodyBlocks.2 ⟨ps[k], by rw [List.drop_eq_getElem_cons hk]; exact List.mem_cons_self, h2⟩
  exact hn.2.2 j h1 j h3 rfl

/-- A body that has not been kept yet is as it was. -/
theorem KLoop.body {w wr : World} {b base k : Nat} {cs : Array Value} {kv v kvk : Value} {ps : List (Fr × Value)} {recs rs : List RecB} (h : KLoop w wr b cs kv ps recs k kvk rs) (hF : FrsOwn w base v ps) (hB : w.heap[b]? = some (.cells cs 46 (0, 0))) (hR : w.ownsRow 0 65 5 kv recs.length (recCells recs)) (hk : k < ps.length) :
    wr.ownsRow base 5 1 ps[k].2 ps[k].1.body.length (ps[k].1.body.map B) := by
  have hb := hF.body ps[k] (List.getElem_mem _)
  refine owns_chg hb h.chg fun j hj => ?_
  rintro (e | e | e)
  · subst e; exact owns_ne hb hB (by decide) hj
  · exact rows_ne hR hb (by decide) e hj
  · exact body_apart hF.nodup hk e hj

theorem kloop_next {w wr w' : World} {b base k : Nat} {cs : Array Value} {kv v kvk : Value} {ps : List (Fr × Value)} {recs rs : List RecB} (h : KLoop w wr b cs kv ps recs k kvk rs) (hF : FrsOwn w base v ps) (hlen : ∀ p ∈ ps, p.1.body.length ≤ 4294967296) (hk : k < ps.length)
    (hkept : KeptB wr w' b (cs.setIfInBounds 9 kvk) kvk ps[k].2 (recs ++ rs) ps[k].1.body.length) : ∃ kv' r, KLoop w w' b cs kv ps recs (k + 1) kv' (rs ++ [r]) := by
  obtain ⟨kv', r, hb6, hrow6, hrl, hrn, hrlen, hfam, hsep, hch, hkv'⟩ := hkept
  have hsz := h.chg.size
  have hbl : ∀ j, ps[k].2.ownBlock = some j → j < w.heap.size := fun j hj => owns_lt (hF.body ps[k] (List.getElem_mem _)) hj
  refine ⟨kv', r, ⟨?_, ?_, ?_, ?_, ?_, ?_, ?_, ?_⟩⟩
  · rw [hb6]; simp
  · rw [← List.append_assoc]; exact hrow6
  · simp [h.len]
  · intro x hx
    rcases List.mem_append.1 hx with hx | hx
    · have hf := h.fam x hx
      have sep : ∀ u, u ∈ [x.l, x.a, x.b, x.c] → ∀ n ys, wr.ownsRow 0 5 1 u n ys → ∀ j, u.ownBlock = some j → ¬ (j = b ∨ kvk.ownBlock = some j ∨ ps[k].2.ownBlock = some j) := by
        rintro u hu n ys ho j hj (e | e | e)
        · subst e; exact owns_ne ho h.blk (by decide) hj
        · exact rows_ne h.rowB ho (by decide) e hj
        · rcases h.blks x hx u hu j hj with a | a
          · exact body_apart hF.nodup hk a e
          · have := hbl j e; omega
      exact ⟨owns_chg hf.l hch (sep _ (by simp) _ _ hf.l), owns_chg hf.a hch (sep _ (by simp) _ _ hf.a), owns_chg hf.b hch (sep _ (by simp) _ _ hf.b), owns_chg hf.c hch (sep _ (by simp) _ _ hf.c)⟩
    · simp only [List.mem_cons, List.not_mem_nil, or_false] at hx
      subst hx
      exact hfam
  · intro x hx
    rcases List.mem_append.1 hx with hx | hx
    · exact h.ok x hx
    · simp only [List.mem_cons, List.not_mem_nil, or_false] at hx
      subst hx
      rw [hrn, hrlen, List.length_append, h.len]
      exact ⟨by omega, hlen _ (List.getElem_mem _)⟩
  · intro x hx u hu j hj
    rcases List.mem_append.1 hx with hx | hx
    · rcases h.blks x hx u hu j hj with a | a
      · exact Or.inl ((mem_take_next hk).2 (Or.inl a))
      · exact Or.inr a
    · simp only [List.mem_cons, List.not_mem_nil, or_false] at hx
      subst hx
      rcases hsep u hu j hj with a | a
      · exact Or.inl ((mem_take_next hk).2 (Or.inr a))
      · exact Or.inr (by omega)
  · refine (h.chg.mono (fun j _ hj => ?_)).trans (hch.mono (fun j _ hj => ?_))
    · rcases hj with e | e | e
      · exact Or.inl e
      · exact Or.inr (Or.inl e)
      · exact Or.inr (Or.inr ((mem_take_next hk).2 (Or.inl e)))
    · rcases hj with e | e | e
      · exact Or.inr (Or.inl e)
      · rcases h.kvb j e with a | a
        · exact Or.inr (Or.inr (Or.inl a))
        · exact Or.inl a
      · exact Or.inr (Or.inr (Or.inr ((mem_take_next hk).2 (Or.inr e))))
  · intro j hj
    rcases hkv' j hj with a | a
    · exact h.kvb j a
    · exact Or.inr (by omega)

theorem keepF_step {S : Nat → Prop} {w wX w1 : World} {xb len m : Nat} {X : Array Value} {v va : Value} {xs news : List Value} {o : Obj} (hx : wX.heap[xb]? = some (.cells X 75 (0, 0))) (hxb : w.heap.size ≤ xb) (hch : Chg S w wX) (hS : ∀ j, v.ownBlock = some j → w.heap.size ≤ j ∨ S j) (hl : wX.ownsRow 0 56 4 v len xs)
    (hown1 : w1.ownsRow 0 56 4 va (len + m) (xs ++ news)) (hg1 : (wX.alloc o).grownBy w1 v.ownBlock) (happ : Appd (wX.alloc o) w1 v va len m) (i : Nat) :
    (w1.setCell ⟨xb, i, none⟩ va).heap[xb]? = some (.cells (X.setIfInBounds i va) 75 (0, 0)) ∧ Chg S w (w1.setCell ⟨xb, i, none⟩ va) ∧ (w1.setCell ⟨xb, i, none⟩ va).ownsRow 0 56 4 v len xs ∧
      (w1.setCell ⟨xb, i, none⟩ va).ownsRow 0 56 4 va (len + m) (xs ++ news) ∧
      (∀ v0 k ys, wX.ownsRow 0 56 4 v0 k ys → (∀ g cap, v = .slice (some ⟨g, 0, none⟩) len cap → len + m ≤ cap → v0 = .slice (some ⟨g, 0, none⟩) k cap ∧ k ≤ len + m ∧ ys = (xs ++ news).take (k * 4)) → (w1.setCell ⟨xb, i, none⟩ va).ownsRow 0 56 4 v0 k ys) ∧
      (∀ j, va.ownBlock = some j → v.ownBlock = some j ∨ w.heap.size ≤ j) := by
  have hx1 : w1.heap[xb]? = some (.cells X 75 (0, 0)) := kept_block (hl.alloc o) hg1 (alloc_block hx o) (by decide)
  have hc1 : Chg S w w1 := (hch.alloc o).trans (Chg.of_grown hg1 (fun j hj => (hS j hj)))
  have hset : Chg (fun j => j = xb) w1 (w1.setCell ⟨xb, i, none⟩ va) := (Chg.refl (fun j => j = xb) w1).setCell (p := ⟨xb, i, none⟩) (Or.inr rfl) _
  have keep : ∀ v0 k ys, w1.ownsRow 0 56 4 v0 k ys → (w1.setCell ⟨xb, i, none⟩ va).ownsRow 0 56 4 v0 k ys := fun v0 k ys h => owns_chg h hset (fun j hj e => by subst e; exact owns_ne h hx1 (by decide) hj)
  refine ⟨block_setCell hx1, hc1.setCell (p := ⟨xb, i, none⟩) (Or.inl hxb) _, keep _ _ _ (app_pre hown1 happ (hl.alloc o) (fun g cap hv hr => ⟨hv, by omega, ?_⟩)), keep _ _ _ hown1, fun v0 k ys h hp => keep _ _ _ (app_pre hown1 happ (h.alloc o) hp), fun j hj => ?_⟩
  · rw [← hl.1, List.take_left]
  · rcases happ.block with e | e
    · rw [e] at hj; exact Or.inl hj
    · rw [e] at hj; simp at hj
      have := hch.size
      exact Or.inr (by omega)

theorem keptF_end {w wr w6 w7 : World} {b base : Nat} {m : Int} {cs : Array Value} {kv kvk fv fv' v va vb vc : Value} {ps : List (Fr × Value)} {recs rs : List RecB} {frs : List FRec} {X : List Value} {o : Obj} (hK : KLoop w wr b cs kv ps recs ps.length kvk rs) (hF : FrsOwn w base v ps) (hB : w.heap[b]? = some (.cells cs 46 (0, 0)))
    (hR : w.ownsRow 0 65 5 kv recs.length (recCells recs)) (hRF : w.ownsRow 0 75 5 fv frs.length (frCells frs))
    (hch6 : Chg (fun j => v.ownBlock = some j) wr w6) (hfam : FamF w6 ⟨v, va, vb, vc, m, ps.length⟩) (hba : ∀ j, va.ownBlock = some j → v.ownBlock = some j ∨ wr.heap.size ≤ j) (hbb : ∀ j, vb.ownBlock = some j → v.ownBlock = some j ∨ wr.heap.size ≤ j) (hbc : ∀ j, vc.ownBlock = some j → v.ownBlock = some j ∨ wr.heap.size ≤ j)
    (hX : X = [v, va, vb, vc, .int .i64 m]) (hown7 : w7.ownsRow 0 75 5 fv' (frs.length + 1) (frCells frs ++ X)) (hg7 : (w6.alloc o).drew.grownBy w7 fv.ownBlock) (happ7 : Appd (w6.alloc o).drew w7 fv fv' frs.length 1) (hb7 : w7.heap[b]? = some (.cells (cs.setIfInBounds 9 kvk) 46 (0, 0))) :
    ∃ r, KeptF w (w7.setCell ⟨b, 12, none⟩ fv') b cs kv fv v ps recs frs kvk fv' rs r := by
  have hall : ps.take ps.length = ps := List.take_length
  have hsz := hK.chg.size
  have hsz6 := hch6.size
  have old : ∀ {base' e s n : Nat} {u : Value} {ys : List Value}, w.ownsRow base' e s u n ys → e ≠ 46 → 65 ≠ e → 5 ≠ e → wr.ownsRow base' e s u n ys := by
    intro base' e s n u ys hu h1 h2 h3
    refine owns_chg hu hK.chg fun j hj => ?_
    rintro (q | q | q)
    · subst q; exact owns_ne hu hB h1 hj
    · exact rows_ne hR hu h2 q hj
    · obtain ⟨p, hp, q⟩ := mem_bodyBlocks.1 q
      exact rows_ne (hF.body p (List.mem_of_mem_take hp)) hu h3 q hj
  have hrf := old hRF (by decide) (by decide) (by decide)
  have hvr := old hF.row (by decide) (by decide) (by decide)
  have hb6 : w6.heap[b]? = some (.cells (cs.setIfInBounds 9 kvk) 46 (0, 0)) := by
    rw [hch6.block b (lt_of_block hK.blk) (owns_ne hvr hK.blk (by decide))]; exact hK.blk
  have hrb6 := owns_chg hK.rowB hch6 (fun j hj e => rows_ne hK.rowB hvr (by decide) hj e)
  have hrf6 := owns_chg hrf hch6 (fun j hj e => rows_ne hrf hvr (by decide) hj e)
  have hc7 : Chg (fun j => fv.ownBlock = some j) w6 w7 := (((Chg.refl _ w6).alloc o).drew).trans (Chg.of_grown hg7 (fun j hj => Or.inr hj))
  have hset : Chg (fun j => j = b) w7 (w7.setCell ⟨b, 12, none⟩ fv') := (Chg.refl (fun j => j = b) w7).setCell (p := ⟨b, 12, none⟩) (Or.inr rfl) _
  have hc8 : Chg (fun j => j = b ∨ fv.ownBlock = some j) w6 (w7.setCell ⟨b, 12, none⟩ fv') := (hc7.mono (fun j _ hj => Or.inr hj)).trans (hset.mono (fun j _ hj => Or.inr (Or.inl hj)))
  have new : ∀ {base' e s n : Nat} {u : Value} {ys : List Value}, w6.ownsRow base' e s u n ys → e ≠ 46 → 75 ≠ e → (w7.setCell ⟨b, 12, none⟩ fv').ownsRow base' e s u n ys := by
    intro base' e s n u ys hu h1 h2
    refine owns_chg hu hc8 fun j hj => ?_
    rintro (q | q)
    · subst q; exact owns_ne hu hb6 h1 hj
    · exact rows_ne hrf6 hu h2 q hj
  refine ⟨⟨v, va, vb, vc, m, ps.length⟩, ⟨block_setCell hb7, new hrb6 (by decide) (by decide), ?_, hK.len, ?_, hK.ok, ⟨new hfam.l (by decide) (by decide), new hfam.a (by decide) (by decide), new hfam.b (by decide) (by decide), new hfam.c (by decide) (by decide)⟩, rfl, ?_, ?_, ?_, hK.kvb, ?_⟩⟩
  · rw [List.length_append, frCells_append]
    refine owns_chg (w := w7) ?_ hset (fun j hj e => by subst e; exact owns_ne hown7 hb7 (by decide) hj)
    rw [hX] at hown7
    exact hown7
  · intro x hx
    have hf := hK.fam x hx
    have s6 : ∀ {u : Value} {n : Nat} {ys : List Value}, wr.ownsRow 0 5 1 u n ys → (w7.setCell ⟨b, 12, none⟩ fv').ownsRow 0 5 1 u n ys := fun hu => new (owns_chg hu hch6 (fun j hj e => rows_ne hvr hu (by decide) e hj)) (by decide) (by decide)
    exact ⟨s6 hf.l, s6 hf.a, s6 hf.b, s6 hf.c⟩
  · intro x hx u hu j hj
    have := hK.blks x hx u hu j hj
    rwa [hall] at this
  · intro u hu j hj
    simp at hu
    rcases hu with rfl | rfl | rfl | rfl
    · exact Or.inl hj
    · rcases hba j hj with a | a
      · exact Or.inl a
      · exact Or.inr (by omega)
    · rcases hbb j hj with a | a
      · exact Or.inl a
      · exact Or.inr (by omega)
    · rcases hbc j hj with a | a
      · exact Or.inl a
      · exact Or.inr (by omega)
  · refine ((hK.chg.mono (fun j _ hj => ?_)).trans (hch6.mono (fun j _ hj => Or.inr (Or.inr (Or.inr (Or.inr (Or.inl hj))))))).trans (hc8.mono (fun j _ hj => ?_))
    · rw [hall] at hj
      rcases hj with e | e | e
      · exact Or.inl e
      · exact Or.inr (Or.inl e)
      · exact Or.inr (Or.inr (Or.inr (Or.inr e)))
    · rcases hj with e | e
      · exact Or.inr (Or.inl e)
      · exact Or.inr (Or.inr (Or.inr (Or.inl e)))
  · intro j hj
    rcases happ7.block with e | e
    · rw [e] at hj; exact Or.inl hj
    · rw [e] at hj; simp at hj
      exact Or.inr (by omega)

theorem vrow_at {w wr : World} {b base k : Nat} {cs : Array Value} {kv v kvk : Value} {ps : List (Fr × Value)} {recs rs : List RecB} (hK : KLoop w wr b cs kv ps recs k kvk rs) (hF : FrsOwn w base v ps) (hB : w.heap[b]? = some (.cells cs 46 (0, 0))) (hR : w.ownsRow 0 65 5 kv recs.length (recCells recs)) : wr.ownsRow base 56 4 v ps.length (cellsOf ps) := by
  refine owns_chg hF.row hK.chg fun j hj => ?_
  rintro (q | q | q)
  · subst q; exact owns_ne hF.row hB (by decide) hj
  · exact rows_ne hR hF.row (by decide) q hj
  · obtain ⟨p, hp, q⟩ := mem_bodyBlocks.1 q
    exact rows_ne (hF.body p (List.mem_of_mem_take hp)) hF.row (by decide) q hj
theorem frow_at {w wr : World} {b base k n : Nat} {cs : Array Value} {kv fv v kvk : Value} {ps : List (Fr × Value)} {recs rs : List RecB} {ys : List Value} (hK : KLoop w wr b cs kv ps recs k kvk rs) (hF : FrsOwn w base v ps) (hB : w.heap[b]? = some (.cells cs 46 (0, 0))) (hR : w.ownsRow 0 65 5 kv recs.length (recCells recs)) (hRF : w.ownsRow 0 75 5 fv n ys) : wr.ownsRow 0 75 5 fv n ys := by
  refine owns_chg hRF hK.chg fun j hj => ?_
  rintro (q | q | q)
  · subst q; exact owns_ne hRF hB (by decide) hj
  · exact rows_ne hR hRF (by decide) q hj
  · obtain ⟨p, hp, q⟩ := mem_bodyBlocks.1 q
    exact rows_ne (hF.body p (List.mem_of_mem_take hp)) hRF (by decide) q hj
theorem set_same {cs : Array Value} {i : Nat} {x : Value} (h : cs[i]? = some x) : cs.setIfInBounds i x = cs := by
  obtain ⟨hi, hx⟩ := Array.getElem?_eq_some_iff.1 h
  apply Array.ext
  · simp
  · intro j h1 h2
    rw [Array.getElem_setIfInBounds]
    split
    · next e => subst e; exact hx.symm
    · rfl
theorem set_at {cs : Array Value} {i : Nat} {x y : Value} (h : cs[i]? = some x) : (cs.setIfInBounds i y)[i]? = some y := by
  obtain ⟨hi, hx⟩ := Array.getElem?_eq_some_iff.1 h
  simp [hi]
theorem set_other {cs : Array Value} {i j : Nat} {x y : Value} (h : cs[j]? = some x) (hne : i ≠ j) : (cs.setIfInBounds i y)[j]? = some x := by
  rw [Array.getElem?_setIfInBounds, if_neg hne]; exact h
theorem cellsOf_get4 {ps : List (Fr × Value)} {k : Nat} (h : k < ps.length) : (cellsOf ps)[k * 4 + 3]? = some ps[k].2 := by
  induction ps generalizing k with
  | nil => simp at h
  | cons p r ih =>
    cases k with
    | zero => simp [cellsOf]
    | succ k =>
      simp only [List.length_cons] at h
      have := ih (k := k) (by omega)
      rw [Nat.succ_mul]
      simpa [cellsOf, Nat.add_assoc] using this

/-- The second loop: the marks, laid one by one. -/
def fillK (m : Int) (k : Nat) (xs : List Value) : List Value := fillF m k ++ xs.drop (k * 4)
theorem fillK_succ {m : Int} {k : Nat} {xs : List Value} (h : k * 4 + 4 ≤ xs.length) : ((((fillK m k xs).set (k * 4) (.int .i64 m)).set (k * 4 + 1) (.int .i64 m)).set (k * 4 + 2) (.int .i64 m)).set (k * 4 + 3) (.slice none 0 0) = fillK m (k + 1) xs := by
  unfold fillK
  have hl := fillF_length m k
  rw [set_next _ hl (by omega)]
  rw [set_next _ (by simp [hl]) (by omega)]
  rw [set_next _ (by simp [hl]) (by omega)]
  rw [set_next _ (by simp [hl]) (by omega)]
  rw [fillF_add, Nat.succ_mul]
  simp [fillF]
theorem fillK_all {m : Int} {n : Nat} {xs : List Value} (h : xs.length = n * 4) : fillK m n xs = fillF m n := by
  unfold fillK
  rw [List.drop_of_length_le (by omega)]
  simp
theorem fillK_length {m : Int} {k n : Nat} {xs : List Value} (h : xs.length = n * 4) (hk : k ≤ n) : (fillK m k xs).length = n * 4 := by
  unfold fillK
  rw [List.length_append, fillF_length, List.length_drop, h]
  omega
end Go.Proofs.YtdifgcppmnmagaaGreatDoor
/-
  (*sluiceref.Reader).Feed.
-/
namespace Go.Proofs.YtdifgcppmnmagaaGreatDoor
open Go.RowKit

/-- Frames that can be read, from wherever they lie on. -/
structure FrsR (w : World) (v : Value) (ps : List (Fr × Value)) : Prop where
  form : ∃ sv cv, v = .slice sv ps.length cv
  cell : ∀ k (_ : k < ps.length), ∃ g off cv, v = .slice (some ⟨g, off, none⟩) ps.length cv ∧ g < w.heap.size ∧ w.cell? ⟨g, off + k * 4, none⟩ = some (.int .i64 ps[k].1.kind) ∧ w.cell? ⟨g, off + k * 4 + 1, none⟩ = some (.int .i64 ps[k].1.flags) ∧
    w.cell? ⟨g, off + k * 4 + 2, none⟩ = some (.int .i64 ps[k].1.stream) ∧ w.cell? ⟨g, off + k * 4 + 3, none⟩ = some ps[k].2
  body : ∀ p ∈ ps, BytesIn w p.2 p.1.body

theorem FrsR.below {w w' : World} {v : Value} {ps : List (Fr × Value)} (h : FrsR w v ps) (hb : Below w.heap.size w w') : FrsR w' v ps := by
  refine ⟨h.form, fun k hk => ?_, fun p hp => (h.body p hp).chg (Chg.of_below (S := fun _ => False) hb) (fun _ _ => id)⟩
  obtain ⟨g, off, cv, he, hl, a, b, c, d⟩ := h.cell k hk
  exact ⟨g, off, cv, he, Nat.lt_of_lt_of_le hl hb.size, (hb.cell (p := ⟨g, off + k * 4, none⟩) hl).trans a, (hb.cell (p := ⟨g, off + k * 4 + 1, none⟩) hl).trans b, (hb.cell (p := ⟨g, off + k * 4 + 2, none⟩) hl).trans c, (hb.cell (p := ⟨g, off + k * 4 + 3, none⟩) hl).trans d⟩

theorem cellsOf_get {ps : List (Fr × Value)} {k : Nat} (h : k < ps.length) : (cellsOf ps)[k * 4]? = some (.int .i64 ps[k].1.kind) ∧ (cellsOf ps)[k * 4 + 1]? = some (.int .i64 ps[k].1.flags) ∧ (cellsOf ps)[k * 4 + 2]? = some (.int .i64 ps[k].1.stream) ∧ (cellsOf ps)[k * 4 + 3]? = some ps[k].2 := by
  induction ps generalizing k with
  | nil => simp at h
  | cons p r ih =>
    cases k with
    | zero => simp [cellsOf]
    | succ k =>
      simp only [List.length_cons] at h
      have := ih (k := k) (by omega)
      rw [Nat.succ_mul]
      simpa [cellsOf, Nat.add_assoc] using this

/-- .. the part of a list from some place on. -/
theorem frsR_from {w : World} {lo : Nat} {v : Value} {ps : List (Fr × Value)} (h : FrsL w lo v ps) {j cap : Nat} {sv : Option Addr} (hv : v = .slice sv ps.length cap) (hj : j ≤ ps.length) {off : Nat} {su : Option Addr}
    (hs : j < ps.length → ∀ g, sv = some ⟨g, 0, none⟩ → su = some ⟨g, off, none⟩) (ho : j < ps.length → off = j * 4) {cu : Nat} : FrsR w (.slice su (ps.length - j) cu) (ps.drop j) := by
  refine ⟨⟨su, cu, by simp⟩, fun k hk => ?_, fun p hp => bytesIn_of_owns (h.body p (List.mem_of_mem_drop hp)) rfl⟩
  simp only [List.length_drop] at hk
  have hrow := h.row
  rw [hv] at hrow
  obtain ⟨g, hg, _⟩ := slice_some hrow (by omega)
  subst hg
  have hjl : j < ps.length := by omega
  have hl : g < w.heap.size := owns_lt hrow rfl
  obtain ⟨e0, e1, e2, e3⟩ := cellsOf_get (ps := ps) (k := j + k) (by omega)
  have hx := cellsOf_length ps
  have hgk : (ps.drop j)[k]'(by simp; omega) = ps[j + k]'(by omega) := by simp
  refine ⟨g, off, cu, by rw [hs hjl g rfl]; simp, hl, ?_, ?_, ?_, ?_⟩
  · rw [ho hjl, hgk, show j * 4 + k * 4 = (j + k) * 4 by omega, hrow.cellAt _ (by omega)]; exact e0
  · rw [ho hjl, hgk, show j * 4 + k * 4 + 1 = (j + k) * 4 + 1 by omega, hrow.cellAt _ (by omega)]; exact e1
  · rw [ho hjl, hgk, show j * 4 + k * 4 + 2 = (j + k) * 4 + 2 by omega, hrow.cellAt _ (by omega)]; exact e2
  · rw [ho hjl, hgk, show j * 4 + k * 4 + 3 = (j + k) * 4 + 3 by omega, hrow.cellAt _ (by omega)]; exact e3
theorem frsR_all {w : World} {lo : Nat} {v : Value} {ps : List (Fr × Value)} (h : FrsL w lo v ps) : FrsR w v ps := by
  obtain ⟨sv, cv, rfl⟩ := slice_len h.row
  have := frsR_from h rfl (Nat.zero_le _) (off := 0) (su := sv) (fun _ g hg => hg) (fun _ => by simp) (cu := cv)
  simpa using this

/-- The document's reader. -/
structure RfS (w : World) (pb : Nat) (av : Value) (all : List UInt8) : Prop where
  blk : w.heap[pb]? = some (.cells #[av, .int .i64 (feed [] all).1.length, .int .i64 (feed [] all).2.code] 96 (0, 0))
  row : w.ownsRow 0 5 1 av all.length (all.map B)

theorem RfS.chg {S : Nat → Prop} {w w' : World} {pb : Nat} {av : Value} {all : List UInt8} (h : RfS w pb av all) (hc : Chg S w w') (h1 : ¬ S pb) (h2 : ∀ k, av.ownBlock = some k → ¬ S k) : RfS w' pb av all :=
  ⟨by rw [hc.block pb (lt_of_block h.blk) h1]; exact h.blk, owns_chg h.row hc h2⟩

/-- The end of the document's Feed. -/
def RFed (w w' : World) (pb : Nat) (av : Value) (all l : List UInt8) (e : Ending) : Prop :=
  ∃ mv ps av' all', e = .returned (.tuple #[mv, .int .i64 ((feed [] all).2.feed l).2.code]) ∧ ps.map Prod.fst = ((feed [] all).2.feed l).1 ∧ FrsR w' mv ps ∧ RfS w' pb av' all' ∧ (feed [] all').2 = ((feed [] all).2.feed l).2 ∧ all'.length ≤ all.length + l.length ∧
    Chg (fun j => j = pb ∨ av.ownBlock = some j) w w' ∧ (∀ j, av'.ownBlock = some j → av.ownBlock = some j ∨ w.heap.size ≤ j)

theorem read_block {w : World} {b : Nat} {v0 v1 v2 : Value} {t : TypeId} (h : w.heap[b]? = some (.cells #[v0, v1, v2] t (0, 0))) :
    w.cell? ⟨b, 0, none⟩ = some v0 ∧ w.cell? ⟨b, 1, none⟩ = some v1 ∧ w.cell? ⟨b, 2, none⟩ = some v2 ∧ ∀ o, w.frozen? ⟨b, o, none⟩ = false := by
  refine ⟨?_, ?_, ?_, fun o => by simp [World.frozen?, h]⟩ <;> rw [cell_of_row w b _ _ _ _ h] <;> rfl

theorem rfed_dead {w w' : World} {pb : Nat} {av : Value} {all l : List UInt8} (h : RfS w pb av all) (hc : (feed [] all).2.code ≠ 0) (hb : Chg (fun _ => False) w w') : RFed w w' pb av all l (.returned (.tuple #[.slice none 0 0, .int .i64 (feed [] all).2.code])) := by
  have hd := Rd.feed_dead hc l
  refine ⟨.slice none 0 0, [], av, all, by rw [hd], by rw [hd]; rfl, ⟨⟨none, 0, rfl⟩, fun k hk => by simp at hk, by simp⟩, h.chg hb id (fun _ _ => id), by rw [hd], by omega, hb.mono (fun _ _ => False.elim), fun j hj => Or.inl hj⟩

set_option maxRecDepth 100000 in
set_option maxHeartbeats 6400000 in
theorem rFeed_dead (pb : Nat) (av bv : Value) (all l : List UInt8) (w : World) (h : RfS w pb av all) (hc : (feed [] all).2.code ≠ 0) :
    Calls Tryz.prog 30 #[.pointer (some ⟨pb, 0, none⟩), bv] w fun e w' => RFed w w' pb av all l e := by
  obtain ⟨c0, c1, c2, -⟩ := read_block h.blk
  have HE := fun (w' : World) => rfed_dead (w' := w') (l := l) h hc
  have HH := hide HE
  generalize (feed [] all).2.code = code at c2 hc HH
  have hcode : (code != 0) = true := by simpa using hc
  clear HE h hc
  go_enter Tryz.func30, Tryz.ntmps30
  go_wp2
  go_region
  all_goals go_wp2
  all_goals go_ret2
  all_goals exact HH.out _ ((Chg.refl _ _).drew)

set_option maxRecDepth 100000 in
set_option maxHeartbeats 6400000 in
theorem rFeed_live (pb : Nat) (av : Value) (sb : Option Addr) (nb cb : Nat) (all l : List UInt8) (w : World) (h : RfS w pb av all) (hc : (feed [] all).2.code = 0) (hl : Lies w (.slice sb nb cb) l.length (l.map B)) (hn : all.length + l.length ≤ 4294967296) :
    Calls Tryz.prog 30 #[.pointer (some ⟨pb, 0, none⟩), .slice sb nb cb] w fun e w' => RFed w w' pb av all l e := by
  obtain ⟨i0, hi, hz0, hz1, hz2⟩ := info_parts Tryz.info5
  have hblk := h.blk
  rw [hc] at hblk
  have hrow := h.row
  obtain ⟨sa, ca, rfl⟩ := slice_len hrow
  have HH := hide h
  have HC := hide hc
  have HL := hide hl
  obtain ⟨told, htold⟩ : ∃ t, t = (feed [] all).1.length := ⟨_, rfl⟩
  rw [← htold] at hblk
  have HT := hide htold
  have HBLK := hide hblk
  have HROW := hide hrow
  obtain ⟨c0, c1, c2, cf⟩ := read_block hblk
  have hpb := lt_of_block hblk
  clear h hc hl htold hblk hrow cf
  go_enter Tryz.func30, Tryz.ntmps30
  go_wp2_with (at_builtin; refine wpList_app _ rfl (.tmp 22) (.tmp 23) 54 rfl 5 i0 (.int .u8 0) 1 1 Tryz.underlying54 hi hz0 hz1 hz2 rfl (by decide) _ _ _ rfl HROW.out _ l.length (l.map B) rfl ?d1 HL.out ?d2 ?d3 ?d4 ?_)
  case d1 => simp
  case d2 =>
    intro v hv
    obtain ⟨x, _, rfl⟩ := List.mem_map.1 hv
    rfl
  case d3 => unfold maxLen; omega
  case d4 => omega
  intro v1 w1 hown1 hg1 hfr1
  obtain ⟨s1, k1, rfl⟩ := slice_len hown1
  have hb1 := kept_block HROW.out hg1 HBLK.out (by decide)
  obtain ⟨e0, e1, e2, ef⟩ := read_block hb1
  have ef0 := ef 0
  have ef1 := ef 1
  have ef2 := ef 2
  have hch1 : Chg (fun j => (Value.slice sa all.length ca).ownBlock = some j) w w1 := Chg.of_grown hg1 (fun j hj => hj)
  rw [← List.map_append] at hown1
  have HOWN := hide hown1
  have HB1 := hide hb1
  have HCH1 := hide hch1
  have HFR1 := hide hfr1
  clear hown1 hg1 hb1 hch1 hfr1 ef c0 c1 c2
  go_wp2_with fail
  obtain ⟨w2, hw2⟩ : ∃ w2, w2 = w1.setCell ⟨pb, 0, none⟩ (.slice s1 (all.length + l.length) k1) := ⟨_, rfl⟩
  rw [← hw2]
  have hset : Chg (fun j => j = pb) w1 w2 := by rw [hw2]; exact (Chg.refl (fun j => j = pb) w1).setCell (p := ⟨pb, 0, none⟩) (Or.inr rfl) _
  have hb2 : w2.heap[pb]? = some (.cells #[.slice s1 (all.length + l.length) k1, .int .i64 told, .int .i64 0] 96 (0, 0)) := by rw [hw2]; exact block_setCell HB1.out
  have hown2 : w2.ownsRow 0 5 1 (.slice s1 (all.length + l.length) k1) (all.length + l.length) ((all ++ l).map B) := owns_chg HOWN.out hset (fun j hj e => by subst e; exact owns_ne HOWN.out HB1.out (by decide) hj)
  have HSET := hide hset
  have HB2 := hide hb2
  have HOWN2 := hide hown2
  clear hw2 hset hb2 hown2 e0 e1 e2 ef0 ef1 ef2
  have hfa := rFrames_any s1 k1 (all ++ l) w2 (by have h := bytesIn_of_owns HOWN2.out (by simp); simpa using h) (by simp; omega)
  have eln : (all ++ l).length = all.length + l.length := by simp
  rw [eln] at hfa
  clear eln
  refine hfa.mono ?_
  rintro e w3 ⟨fv, ps, rfl, hps, hfl, hpl, hb3⟩
  clear hfa
  have HB3 := hide hb3
  have hblk3 := told_kept' HB2.out hb3
  obtain ⟨sf, cf, rfl⟩ := slice_len hfl.row
  have hcap : ps.length ≤ cf ∨ (sf = none ∧ ps.length = 0 ∧ cf = 0) := by
    rcases hfl.row.2 with ⟨h0, h1⟩ | ⟨g, cap, cur, h0, _, _, hle, _⟩
    · simp only [Value.slice.injEq] at h0
      exact Or.inr ⟨h0.1, h0.2.1, h0.2.2⟩
    · simp only [Value.slice.injEq] at h0
      exact Or.inl (by omega)
  have hfe : feed [] (all ++ l) = ((feed [] all).1 ++ ((feed [] all).2.feed l).1, ((feed [] all).2.feed l).2) := feed_append [] all l
  have htp : told ≤ ps.length := by
    have h1 : (ps.map Prod.fst).length = told + ((feed [] all).2.feed l).1.length := by rw [hps, hfe, HT.out]; simp
    rw [List.length_map] at h1
    omega
  have hcf : told ≤ cf := by omega
  obtain ⟨code, hcode⟩ : ∃ c, c = (feed [] (all ++ l)).2.code := ⟨_, rfl⟩
  rw [← hcode]
  obtain ⟨g0, g1, g2, gf⟩ := read_block hblk3
  have gf1 := gf 1
  have gf2 := gf 2
  have HBLK3 := hide hblk3
  have HFL := hide hfl
  have HPS := hide hps
  have HFE := hide hfe
  have HCODE := hide hcode
  have HCAP := hide hcap
  clear hblk3 hfl hps hfe hcode hcap gf hb3
  have HEND : Hid (∀ (su : Option Addr) (cu : Nat), (told < ps.length → ∀ g, sf = some ⟨g, 0, none⟩ → su = some ⟨g, told * 4, none⟩) → RFed w ((w3.setCell ⟨pb, 1, none⟩ (.int .i64 ps.length)).setCell ⟨pb, 2, none⟩ (.int .i64 code)) pb (.slice sa all.length ca) all l (.returned (.tuple #[.slice su (ps.length - told) cu, .int .i64 code]))) := by
    intro su cu hsu
    have hc4 : Chg (fun j => j = pb) w3 ((w3.setCell ⟨pb, 1, none⟩ (.int .i64 ps.length)).setCell ⟨pb, 2, none⟩ (.int .i64 code)) :=
      ((Chg.refl (fun j => j = pb) w3).setCell (p := ⟨pb, 1, none⟩) (Or.inr rfl) _).setCell (p := ⟨pb, 2, none⟩) (Or.inr rfl) _
    have hbk : ((w3.setCell ⟨pb, 1, none⟩ (.int .i64 ps.length)).setCell ⟨pb, 2, none⟩ (.int .i64 code)).heap[pb]? = some (.cells #[.slice s1 (all.length + l.length) k1, .int .i64 ps.length, .int .i64 code] 96 (0, 0)) := block_setCell (block_setCell HBLK3.out)
    have hfl' : FrsL ((w3.setCell ⟨pb, 1, none⟩ (.int .i64 ps.length)).setCell ⟨pb, 2, none⟩ (.int .i64 code)) w2.heap.size (.slice sf ps.length cf) ps :=
      ⟨owns_chg HFL.out.row hc4 (fun j hj e => by subst e; exact owns_ne HFL.out.row HBLK3.out (by decide) hj), fun p hp => owns_chg (HFL.out.body p hp) hc4 (fun j hj e => by subst e; exact owns_ne (HFL.out.body p hp) HBLK3.out (by decide) hj)⟩
    have hown3 := owns_chg HOWN2.out (Chg.of_below (S := fun _ => False) HB3.out) (fun _ _ => id)
    have hown4 := owns_chg hown3 hc4 (fun j hj e => by subst e; exact owns_ne hown3 HBLK3.out (by decide) hj)
    have hnew : (ps.drop told).map Prod.fst = ((feed [] all).2.feed l).1 := by
      rw [List.map_drop, HPS.out, HFE.out, HT.out]
      simp
    refine ⟨.slice su (ps.length - told) cu, ps.drop told, .slice s1 (all.length + l.length) k1, all ++ l, ?_, hnew, frsR_from hfl' rfl htp (off := told * 4) hsu (fun _ => rfl), ⟨?_, ?_⟩, ?_, by simp, ?_, ?_⟩
    · rw [HCODE.out, HFE.out]
    · have hl1 : (feed [] (all ++ l)).1.length = ps.length := by rw [← HPS.out]; simp
      rw [hl1, ← HCODE.out]
      exact hbk
    · have e1 : (all ++ l).length = all.length + l.length := by simp
      rw [e1]
      exact hown4
    · rw [HFE.out]
    · have t1 : Chg (fun j => j = pb ∨ (Value.slice sa all.length ca).ownBlock = some j) w w1 := HCH1.out.mono (fun j _ hj => Or.inr hj)
      have t2 := t1.trans (HSET.out.mono (fun j _ hj => Or.inr (Or.inl hj)))
      exact (t2.then_below HB3.out).trans (hc4.mono (fun j _ hj => Or.inr (Or.inl hj)))
    · intro j hj
      rcases HFR1.out with e | e
      · rw [e] at hj; exact Or.inl hj
      · rw [e] at hj; simp at hj; exact Or.inr (by omega)
  clear HFL HPS HFE HCODE HB3 HOWN2 HSET HCH1 HFR1
  go_wp2
  all_goals go_ret2
  · refine HEND.out _ _ fun hlt => ?_
    exact absurd HCAP.out (by omega)
  · refine HEND.out _ _ fun _ g hg => ?_
    subst hg
    show some ((⟨g, 0, none⟩ : Addr).add (told * 4)) = _
    rw [addr_add, Nat.zero_add]

/-- P5's call of the document. -/
theorem rFeed_any (pb : Nat) (av : Value) (sb : Option Addr) (nb cb : Nat) (all l : List UInt8) (w : World) (h : RfS w pb av all) (hl : Lies w (.slice sb nb cb) l.length (l.map B)) (hn : all.length + l.length ≤ 4294967296) :
    Calls Tryz.prog 30 #[.pointer (some ⟨pb, 0, none⟩), .slice sb nb cb] w fun e w' => RFed w w' pb av all l e := by
  by_cases hc : (feed [] all).2.code = 0
  · exact rFeed_live pb av sb nb cb all l w h hc hl hn
  · exact rFeed_dead pb av _ all l w h hc
end Go.Proofs.YtdifgcppmnmagaaGreatDoor
/-
  What stands of a script's world between two steps of Reads.
-/
namespace Go.Proofs.YtdifgcppmnmagaaGreatDoor
open Go.RowKit

/-- A reader of the program and the document's: their blocks, what they hold, what was fed. -/
structure RdR where
  xb : Nat
  pb : Nat
  gv : Value
  av : Value
  all : List UInt8

def rdCells : List RdR → List Value
  | [] => []
  | r :: t => .pointer (some ⟨r.xb, 0, none⟩) :: .pointer (some ⟨r.pb, 0, none⟩) :: rdCells t
theorem rdCells_length (rs : List RdR) : (rdCells rs).length = rs.length * 2 := by
  induction rs with
  | nil => rfl
  | cons p r ih => simp [rdCells, ih]; omega
theorem rdCells_append (a b : List RdR) : rdCells (a ++ b) = rdCells a ++ rdCells b := by
  induction a with
  | nil => rfl
  | cons p r ih => simp [rdCells, ih]
theorem rdCells_get {rs : List RdR} {k : Nat} (h : k < rs.length) : (rdCells rs)[k * 2]? = some (.pointer (some ⟨rs[k].xb, 0, none⟩)) ∧ (rdCells rs)[k * 2 + 1]? = some (.pointer (some ⟨rs[k].pb, 0, none⟩)) := by
  induction rs generalizing k with
  | nil => simp at h
  | cons p r ih =>
    cases k with
    | zero => simp [rdCells]
    | succ k =>
      simp only [List.length_cons] at h
      have := ih (k := k) (by omega)
      rw [Nat.succ_mul]
      simpa [rdCells, Nat.add_assoc] using this
theorem rdCells_set {rs : List RdR} {k : Nat} {r : RdR} (h : k < rs.length) (hx : r.xb = rs[k].xb) (hp : r.pb = rs[k].pb) : rdCells (rs.set k r) = rdCells rs := by
  induction rs generalizing k with
  | nil => simp at h
  | cons p t ih =>
    cases k with
    | zero => simp at hx hp; simp [rdCells, hx, hp]
    | succ k =>
      simp only [List.length_cons] at h
      simp only [List.getElem_cons_succ] at hx hp
      simp [rdCells, ih (k := k) (by omega) hx hp]

theorem rdT_chg {S : Nat → Prop} {w w' : World} {rb : Nat} {gv : Value} {r : Rd} (h : RdT w rb gv r) (hc : Chg S w w') (h1 : ¬ S rb) (h2 : ∀ k, gv.ownBlock = some k → ¬ S k) : RdT w' rb gv r := by
  rcases h with ⟨h0, h⟩ | ⟨h0, e, g, h⟩
  · exact Or.inl ⟨h0, h.chg hc h1 h2⟩
  · exact Or.inr ⟨h0, e, g, h.chg hc h1⟩
theorem rdT_own {w : World} {rb : Nat} {gv : Value} {r : Rd} (h : RdT w rb gv r) : ∃ n ys, w.ownsRow 0 5 1 gv n ys := by
  rcases h with ⟨_, h⟩ | ⟨_, e, _, _⟩
  · exact ⟨_, _, h.own⟩
  · exact ⟨0, [], by rw [e]; exact World.ownsRow_nil _ _ _ _⟩
theorem rdT_blk {w : World} {rb : Nat} {gv : Value} {r : Rd} (h : RdT w rb gv r) : ∃ cs, w.heap[rb]? = some (.cells cs 163 (0, 0)) := by
  rcases h with ⟨_, h⟩ | ⟨_, _, _, h⟩
  · obtain ⟨L, K, F, S, h⟩ := h.rd
    exact ⟨_, h⟩
  · exact ⟨_, h⟩

theorem BkS.chg {S : Nat → Prop} {w w' : World} {b : Nat} {cs : Array Value} {kv fv : Value} {recs : List RecB} {frs : List FRec} (h : BkS w b cs kv fv recs frs) (hc : Chg S w w') (hb : ¬ S b) (hk : ∀ j, kv.ownBlock = some j → ¬ S j) (hf : ∀ j, fv.ownBlock = some j → ¬ S j)
    (hB : ∀ x ∈ recs, ∀ u ∈ [x.l, x.a, x.b, x.c], ∀ j, u.ownBlock = some j → ¬ S j) (hF : ∀ x ∈ frs, ∀ u ∈ [x.l, x.a, x.b, x.c], ∀ j, u.ownBlock = some j → ¬ S j) : BkS w' b cs kv fv recs frs :=
  ⟨by rw [hc.block b (lt_of_block h.blk) hb]; exact h.blk, h.c9, h.c10, h.c11, h.c12, h.c13, owns_chg h.rowB hc hk, owns_chg h.rowF hc hf, fun r hr => (h.famB r hr).chg hc (hB r hr), fun r hr => (h.famF r hr).chg hc (hF r hr), h.okB, h.okF⟩

structure RInv (W0 V0 w : World) (b : Nat) (gF gH gC gS rv kv fv : Value) (rds : List RdR) (recs : List RecB) (frs : List FRec) (N : Nat) : Prop where
  bk : BkS w b (lw gF gH gC gS rv kv fv) kv fv recs frs
  rowR : w.ownsRow 0 98 2 rv rds.length (rdCells rds)
  rd : ∀ r ∈ rds, RdT w r.xb r.gv (feed [] r.all).2 ∧ RfS w r.pb r.av r.all ∧ r.all.length ≤ N
  ap1 : ∀ i j (hi : i < rds.length) (hj : j < rds.length), i ≠ j → rds[i].xb ≠ rds[j].xb ∧ rds[i].pb ≠ rds[j].pb ∧ (∀ k, rds[i].gv.ownBlock = some k → rds[j].gv.ownBlock ≠ some k ∧ rds[j].av.ownBlock ≠ some k) ∧ (∀ k, rds[i].av.ownBlock = some k → rds[j].av.ownBlock ≠ some k)
  ap2 : ∀ r ∈ rds, ∀ k, r.gv.ownBlock = some k → r.av.ownBlock ≠ some k
  ap3 : ∀ r ∈ rds, ∀ k, (r.gv.ownBlock = some k ∨ r.av.ownBlock = some k) → ∀ x ∈ recs, ∀ u ∈ [x.l, x.a, x.b, x.c], u.ownBlock ≠ some k
  new : ∀ r ∈ rds, V0.heap.size ≤ r.xb ∧ V0.heap.size ≤ r.pb ∧ (∀ k, (r.gv.ownBlock = some k ∨ r.av.ownBlock = some k) → V0.heap.size ≤ k)
  rvV : ∀ j, rv.ownBlock = some j → V0.heap.size ≤ j
  kvV : ∀ j, kv.ownBlock = some j → V0.heap.size ≤ j
  fvV : ∀ j, fv.ownBlock = some j → V0.heap.size ≤ j
  b0 : W0.heap.size ≤ b
  belV : Below W0.heap.size W0 V0
  chV : Chg (fun j => j = b) V0 w
  few : rds.length ≤ N ∧ recs.length ≤ N ∧ frs.length ≤ N

section
variable {W0 V0 w : World} {b N : Nat} {gF gH gC gS rv kv fv : Value} {rds : List RdR} {recs : List RecB} {frs : List FRec}

theorem RInv.bel (h : RInv W0 V0 w b gF gH gC gS rv kv fv rds recs frs N) : Below W0.heap.size W0 w :=
  below_of_chg h.belV h.chV fun j e => by rw [e]; exact h.b0

/-- The blocks of a reader. -/
def RB (r : RdR) (j : Nat) : Prop := j = r.xb ∨ r.gv.ownBlock = some j ∨ j = r.pb ∨ r.av.ownBlock = some j

theorem RInv.rb_lt (h : RInv W0 V0 w b gF gH gC gS rv kv fv rds recs frs N) {r : RdR} (hr : r ∈ rds) {j : Nat} (hj : RB r j) : j < w.heap.size := by
  obtain ⟨h1, h2, _⟩ := h.rd r hr
  rcases hj with rfl | e | rfl | e
  · obtain ⟨cs, hb⟩ := rdT_blk h1; exact lt_of_block hb
  · obtain ⟨n, ys, ho⟩ := rdT_own h1; exact owns_lt ho e
  · exact lt_of_block h2.blk
  · exact owns_lt h2.row e

/-- A block whose type is none of a reader's, and u8 rows of others, are apart from a reader's blocks. -/
theorem RInv.not_blk (h : RInv W0 V0 w b gF gH gC gS rv kv fv rds recs frs N) {r : RdR} (hr : r ∈ rds) {j t : Nat} {cs : Array Value} {fr : Nat × Nat} (hb : w.heap[j]? = some (.cells cs t fr)) (h1 : t ≠ 163) (h2 : t ≠ 96) (h3 : 5 ≠ t) : ¬ RB r j := by
  obtain ⟨a, c, _⟩ := h.rd r hr
  rintro (e | e | e | e)
  · subst e; obtain ⟨cs', hb'⟩ := rdT_blk a; rw [hb'] at hb; simp at hb; exact h1 hb.2.1.symm
  · obtain ⟨n, ys, ho⟩ := rdT_own a; exact owns_ne ho hb h3 e
  · subst e; rw [c.blk] at hb; simp at hb; exact h2 hb.2.1.symm
  · exact owns_ne c.row hb h3 e
theorem RInv.not_row (h : RInv W0 V0 w b gF gH gC gS rv kv fv rds recs frs N) {r : RdR} (hr : r ∈ rds) {base t s n : Nat} {v : Value} {ys : List Value} (ho : w.ownsRow base t s v n ys) (h1 : t ≠ 163) (h2 : t ≠ 96) (h3 : 5 ≠ t) : ∀ j, v.ownBlock = some j → ¬ RB r j := by
  intro j hj
  rcases ho.2 with ⟨rfl, _⟩ | ⟨g, cap, cur, rfl, _, hgg, _⟩
  · simp [Value.ownBlock] at hj
  · simp [Value.ownBlock] at hj
    subst hj
    exact h.not_blk hr hgg h1 h2 h3
theorem RInv.not_u8 (h : RInv W0 V0 w b gF gH gC gS rv kv fv rds recs frs N) {r : RdR} (hr : r ∈ rds) {base s n : Nat} {v : Value} {ys : List Value} (ho : w.ownsRow base 5 s v n ys) (hg : ∀ j, v.ownBlock = some j → r.gv.ownBlock ≠ some j ∧ r.av.ownBlock ≠ some j) : ∀ j, v.ownBlock = some j → ¬ RB r j := by
  intro j hj
  obtain ⟨a, c, _⟩ := h.rd r hr
  rintro (e | e | e | e)
  · subst e; obtain ⟨cs', hb'⟩ := rdT_blk a; exact owns_ne ho hb' (by decide) hj
  · exact (hg j hj).1 e
  · subst e; exact owns_ne ho c.blk (by decide) hj
  · exact (hg j hj).2 e

/-- What calls on one reader leave of all else. -/
theorem RInv.others (h : RInv W0 V0 w b gF gH gC gS rv kv fv rds recs frs N) {r : RdR} (hr : r ∈ rds) {w' : World} (hc : Chg (RB r) w w') : BkS w' b (lw gF gH gC gS rv kv fv) kv fv recs frs ∧ w'.ownsRow 0 98 2 rv rds.length (rdCells rds) := by
  refine ⟨h.bk.chg hc (h.not_blk hr h.bk.blk (by decide) (by decide) (by decide)) (h.not_row hr h.bk.rowB (by decide) (by decide) (by decide)) (h.not_row hr h.bk.rowF (by decide) (by decide) (by decide)) ?_ ?_, owns_chg h.rowR hc (h.not_row hr h.rowR (by decide) (by decide) (by decide))⟩
  · intro x hx u hu
    have hf := h.bk.famB x hx
    have ho : ∃ n ys, w.ownsRow 0 5 1 u n ys := by
      simp only [List.mem_cons, List.not_mem_nil, or_false] at hu
      rcases hu with rfl | rfl | rfl | rfl
      · exact ⟨_, _, hf.l⟩
      · exact ⟨_, _, hf.a⟩
      · exact ⟨_, _, hf.b⟩
      · exact ⟨_, _, hf.c⟩
    obtain ⟨n, ys, ho⟩ := ho
    exact h.not_u8 hr ho fun j hj => ⟨fun e => h.ap3 r hr j (Or.inl e) x hx u hu hj, fun e => h.ap3 r hr j (Or.inr e) x hx u hu hj⟩
  · intro x hx u hu
    have hf := h.bk.famF x hx
    have ho : ∃ n ys, w.ownsRow 0 56 4 u n ys := by
      simp only [List.mem_cons, List.not_mem_nil, or_false] at hu
      rcases hu with rfl | rfl | rfl | rfl
      · exact ⟨_, _, hf.l⟩
      · exact ⟨_, _, hf.a⟩
      · exact ⟨_, _, hf.b⟩
      · exact ⟨_, _, hf.c⟩
    obtain ⟨n, ys, ho⟩ := ho
    exact h.not_row hr ho (by decide) (by decide) (by decide)
end
end Go.Proofs.YtdifgcppmnmagaaGreatDoor
