/-
  frames.checkBody.
-/
import Derived.Test.YtckeblkadiehbaaGreatLeafNum
import Derived.Test.YtckeblkadiehbaaGreatLeafPad
namespace Go.Proofs.YtckeblkadiehbaaGreat
open Go.RowKit
set_option linter.unusedVariables false

/-- Four bytes at the head of a row of bytes. -/
theorem four_cells {g off : Nat} {l : List UInt8} {w : World} (hc : ∀ i, i < l.length → w.cell? ⟨g, off + i, none⟩ = some (.int .u8 (l.getD i 0).toNat)) (h : 4 ≤ l.length) :
    ∃ x0 x1 x2 x3, num4 l = be4 x0 x1 x2 x3 ∧ w.cell? ⟨g, off, none⟩ = some (.int .u8 x0.toNat) ∧ w.cell? ⟨g, off + 1, none⟩ = some (.int .u8 x1.toNat) ∧
      w.cell? ⟨g, off + 2, none⟩ = some (.int .u8 x2.toNat) ∧ w.cell? ⟨g, off + 3, none⟩ = some (.int .u8 x3.toNat) := by
  match l, h, hc with
  | x0 :: x1 :: x2 :: x3 :: r, h, hc =>
    exact ⟨x0, x1, x2, x3, rfl, by simpa using hc 0 (by simp), by simpa using hc 1 (by simp), by simpa using hc 2 (by simp), by simpa using hc 3 (by simp)⟩

theorem endOf0 : endOf 0 = .returned (.tuple #[]) := rfl
theorem endOf9 : endOf 9 = .panicked [{ v := .iface 83 (.int .i64 9), recovered := false }] := rfl
theorem endOf10 : endOf 10 = .panicked [{ v := .iface 83 (.int .i64 10), recovered := false }] := rfl
theorem endOf_ne {c : Int} (h : c ≠ 0) : endOf c = .panicked [{ v := .iface 83 (.int .i64 c), recovered := false }] := by simp [endOf, h]

/-- Cells of an old block, seen behind a call that makes memory alone. -/
theorem later_cells {g off n : Nat} {l : List UInt8} {w w' : World} (hc : ∀ i, i < l.length → w.cell? ⟨g, off + i, none⟩ = some (.int .u8 (l.getD i 0).toNat)) (hb : Below n w w') (hg : g < n) :
    ∀ i, i < l.length → w'.cell? ⟨g, off + i, none⟩ = some (.int .u8 (l.getD i 0).toNat) := fun i hi => (hb.cell (p := ⟨g, off + i, none⟩) hg).trans (hc i hi)

set_option maxHeartbeats 800000 in
theorem cb_pad0 (g off cap : Nat) (l : List UInt8) (ln f s : Int) (w : World) (hl : l.length ≤ 64) (hcap : l.length ≤ cap) (h0 : 0 ≤ f) (h1 : f < 256) (hg : g < w.heap.size) (hp : hasB f 8 = true) (hpc : padCode l = 0)
    (hc : ∀ i, i < l.length → w.cell? ⟨g, off + i, none⟩ = some (.int .u8 (l.getD i 0).toNat)) :
    Calls Tryz.prog 120 #[.agg #[.int .i64 ln, .int .i64 0, .int .i64 f, .int .i64 s], .slice (some ⟨g, off, none⟩) l.length cap] w fun e w' => e = .returned (.tuple #[]) ∧ Below w.heap.size w w' := by
  have H : Hid (hasB f 8 = true) := hp
  have HC : Hid (padCode l = 0) := hpc
  clear hp hpc
  go_enter Tryz.func120, Tryz.ntmps120
  go_wp2_with (go_at_call 163; refine (has_any ln 0 f s 8 _ h0 h1 (Or.inr rfl)).mono ?_; rintro e w1 ⟨he, hb⟩; rw [H.out] at he; subst he)
  refine (checkPadding_any g off cap l _ hl hcap (later_cells (fun i hi => (((Below.refl _ _).alloc (Nat.le_refl _) _).cell (p := ⟨g, off + i, none⟩) hg).trans (hc i hi)) hb (by simp; omega))).mono ?_
  rintro e w2 ⟨he, hw⟩
  rw [HC.out, endOf0] at he
  subst he
  subst hw
  go_wp2
  exact bodyPost_end (results_none rfl _ _ _) rfl ⟨rfl, ((Below.refl _ _).alloc (Nat.le_refl _) _).trans (hb.mono (by simp))⟩

set_option maxHeartbeats 800000 in
theorem cb_pad9 (g off cap : Nat) (l : List UInt8) (ln f s : Int) (w : World) (hl : l.length ≤ 64) (hcap : l.length ≤ cap) (h0 : 0 ≤ f) (h1 : f < 256) (hg : g < w.heap.size) (hp : hasB f 8 = true) (hpc : padCode l = 9)
    (hc : ∀ i, i < l.length → w.cell? ⟨g, off + i, none⟩ = some (.int .u8 (l.getD i 0).toNat)) :
    Calls Tryz.prog 120 #[.agg #[.int .i64 ln, .int .i64 0, .int .i64 f, .int .i64 s], .slice (some ⟨g, off, none⟩) l.length cap] w fun e w' => e = .panicked [{ v := .iface 83 (.int .i64 9), recovered := false }] ∧ Below w.heap.size w w' := by
  have H : Hid (hasB f 8 = true) := hp
  have HC : Hid (padCode l = 9) := hpc
  clear hp hpc
  go_enter Tryz.func120, Tryz.ntmps120
  go_wp2_with (go_at_call 163; refine (has_any ln 0 f s 8 _ h0 h1 (Or.inr rfl)).mono ?_; rintro e w1 ⟨he, hb⟩; rw [H.out] at he; subst he)
  refine (checkPadding_any g off cap l _ hl hcap (later_cells (fun i hi => (((Below.refl _ _).alloc (Nat.le_refl _) _).cell (p := ⟨g, off + i, none⟩) hg).trans (hc i hi)) hb (by simp; omega))).mono ?_
  rintro e w2 ⟨he, hw⟩
  rw [HC.out, endOf9] at he
  subst he
  subst hw
  exact ⟨rfl, rfl, ((Below.refl _ _).alloc (Nat.le_refl _) _).trans (hb.mono (by simp))⟩

set_option maxHeartbeats 800000 in
theorem cb_bare (g off cap : Nat) (l : List UInt8) (ln f s : Int) (w : World) (hl : l.length ≤ 64) (hcap : l.length ≤ cap) (h0 : 0 ≤ f) (h1 : f < 256) (hg : g < w.heap.size) (hp : hasB f 8 = false)
    (hc : ∀ i, i < l.length → w.cell? ⟨g, off + i, none⟩ = some (.int .u8 (l.getD i 0).toNat)) :
    Calls Tryz.prog 120 #[.agg #[.int .i64 ln, .int .i64 0, .int .i64 f, .int .i64 s], .slice (some ⟨g, off, none⟩) l.length cap] w fun e w' => e = .returned (.tuple #[]) ∧ Below w.heap.size w w' := by
  have H : Hid (hasB f 8 = false) := hp
  clear hp
  go_enter Tryz.func120, Tryz.ntmps120
  go_wp2_with (go_at_call 163; refine (has_any ln 0 f s 8 _ h0 h1 (Or.inr rfl)).mono ?_; rintro e w1 ⟨he, hb⟩; rw [H.out] at he; subst he)
  go_wp2
  exact bodyPost_end (results_none rfl _ _ _) rfl ⟨rfl, ((Below.refl _ _).alloc (Nat.le_refl _) _).trans (hb.mono (by simp))⟩

set_option maxHeartbeats 800000 in
theorem cb_ack (g off cap : Nat) (l : List UInt8) (ln f s : Int) (w : World) (hl : l.length ≤ 64) (hcap : l.length ≤ cap) (h0 : 0 ≤ f) (h1 : f < 256) (hg : g < w.heap.size) (hp : hasB f 1 = true)
    (hc : ∀ i, i < l.length → w.cell? ⟨g, off + i, none⟩ = some (.int .u8 (l.getD i 0).toNat)) :
    Calls Tryz.prog 120 #[.agg #[.int .i64 ln, .int .i64 3, .int .i64 f, .int .i64 s], .slice (some ⟨g, off, none⟩) l.length cap] w fun e w' => e = .returned (.tuple #[]) ∧ Below w.heap.size w w' := by
  have H : Hid (hasB f 1 = true) := hp
  clear hp
  go_enter Tryz.func120, Tryz.ntmps120
  go_wp2_with (go_at_call 163; refine (has_any ln 3 f s 1 _ h0 h1 (Or.inl rfl)).mono ?_; rintro e w1 ⟨he, hb⟩; rw [H.out] at he; subst he)
  go_wp2
  exact bodyPost_end (results_none rfl _ _ _) rfl ⟨rfl, ((Below.refl _ _).alloc (Nat.le_refl _) _).trans (hb.mono (by simp))⟩

set_option maxHeartbeats 800000 in
theorem cb_set0 (g off cap : Nat) (l : List UInt8) (ln f s : Int) (w : World) (hl : l.length ≤ 64) (hcap : l.length ≤ cap) (h0 : 0 ≤ f) (h1 : f < 256) (hg : g < w.heap.size) (hp : hasB f 1 = false) (h4 : 4 ≤ l.length) (hpc : numCode l 0 = 0)
    (hc : ∀ i, i < l.length → w.cell? ⟨g, off + i, none⟩ = some (.int .u8 (l.getD i 0).toNat)) :
    Calls Tryz.prog 120 #[.agg #[.int .i64 ln, .int .i64 3, .int .i64 f, .int .i64 s], .slice (some ⟨g, off, none⟩) l.length cap] w fun e w' => e = .returned (.tuple #[]) ∧ Below w.heap.size w w' := by
  obtain ⟨x0, x1, x2, x3, hn, d0, d1, d2, d3⟩ := four_cells hc h4
  have HC : Hid (nCode (be4 x0 x1 x2 x3) 0 = 0) := by rw [← hn]; exact hpc
  clear hpc hn
  have H : Hid (hasB f 1 = false) := hp
  clear hp
  go_enter Tryz.func120, Tryz.ntmps120
  go_wp2_with (go_at_call 163; refine (has_any ln 3 f s 1 _ h0 h1 (Or.inl rfl)).mono ?_; rintro e w1 ⟨he, hb⟩; rw [H.out] at he; subst he)
  refine (checkNumber_any g off l.length cap x0 x1 x2 x3 0 _ h4 (((hb.mono (by simp : w.heap.size ≤ _)).cell (p := ⟨g, off, none⟩) hg).trans ((((Below.refl _ _).alloc (Nat.le_refl _) _).cell (p := ⟨g, off, none⟩) hg).trans d0)) (((hb.mono (by simp : w.heap.size ≤ _)).cell (p := ⟨g, off + 1, none⟩) hg).trans ((((Below.refl _ _).alloc (Nat.le_refl _) _).cell (p := ⟨g, off + 1, none⟩) hg).trans d1)) (((hb.mono (by simp : w.heap.size ≤ _)).cell (p := ⟨g, off + 2, none⟩) hg).trans ((((Below.refl _ _).alloc (Nat.le_refl _) _).cell (p := ⟨g, off + 2, none⟩) hg).trans d2)) (((hb.mono (by simp : w.heap.size ≤ _)).cell (p := ⟨g, off + 3, none⟩) hg).trans ((((Below.refl _ _).alloc (Nat.le_refl _) _).cell (p := ⟨g, off + 3, none⟩) hg).trans d3))).mono ?_
  rintro e w2 ⟨he, n2, hw⟩
  rw [HC.out, endOf0] at he
  subst he
  subst hw
  go_wp2
  exact bodyPost_end (results_none rfl _ _ _) rfl ⟨rfl, below_drewN (((Below.refl _ _).alloc (Nat.le_refl _) _).trans (hb.mono (by simp))) _⟩

set_option maxHeartbeats 800000 in
theorem cb_set9 (g off cap : Nat) (l : List UInt8) (ln f s : Int) (w : World) (hl : l.length ≤ 64) (hcap : l.length ≤ cap) (h0 : 0 ≤ f) (h1 : f < 256) (hg : g < w.heap.size) (hp : hasB f 1 = false) (h4 : 4 ≤ l.length) (hpc : numCode l 0 = 9)
    (hc : ∀ i, i < l.length → w.cell? ⟨g, off + i, none⟩ = some (.int .u8 (l.getD i 0).toNat)) :
    Calls Tryz.prog 120 #[.agg #[.int .i64 ln, .int .i64 3, .int .i64 f, .int .i64 s], .slice (some ⟨g, off, none⟩) l.length cap] w fun e w' => e = .panicked [{ v := .iface 83 (.int .i64 9), recovered := false }] ∧ Below w.heap.size w w' := by
  obtain ⟨x0, x1, x2, x3, hn, d0, d1, d2, d3⟩ := four_cells hc h4
  have HC : Hid (nCode (be4 x0 x1 x2 x3) 0 = 9) := by rw [← hn]; exact hpc
  clear hpc hn
  have H : Hid (hasB f 1 = false) := hp
  clear hp
  go_enter Tryz.func120, Tryz.ntmps120
  go_wp2_with (go_at_call 163; refine (has_any ln 3 f s 1 _ h0 h1 (Or.inl rfl)).mono ?_; rintro e w1 ⟨he, hb⟩; rw [H.out] at he; subst he)
  refine (checkNumber_any g off l.length cap x0 x1 x2 x3 0 _ h4 (((hb.mono (by simp : w.heap.size ≤ _)).cell (p := ⟨g, off, none⟩) hg).trans ((((Below.refl _ _).alloc (Nat.le_refl _) _).cell (p := ⟨g, off, none⟩) hg).trans d0)) (((hb.mono (by simp : w.heap.size ≤ _)).cell (p := ⟨g, off + 1, none⟩) hg).trans ((((Below.refl _ _).alloc (Nat.le_refl _) _).cell (p := ⟨g, off + 1, none⟩) hg).trans d1)) (((hb.mono (by simp : w.heap.size ≤ _)).cell (p := ⟨g, off + 2, none⟩) hg).trans ((((Below.refl _ _).alloc (Nat.le_refl _) _).cell (p := ⟨g, off + 2, none⟩) hg).trans d2)) (((hb.mono (by simp : w.heap.size ≤ _)).cell (p := ⟨g, off + 3, none⟩) hg).trans ((((Below.refl _ _).alloc (Nat.le_refl _) _).cell (p := ⟨g, off + 3, none⟩) hg).trans d3))).mono ?_
  rintro e w2 ⟨he, n2, hw⟩
  rw [HC.out, endOf9] at he
  subst he
  subst hw
  exact ⟨rfl, rfl, below_drewN (((Below.refl _ _).alloc (Nat.le_refl _) _).trans (hb.mono (by simp))) _⟩

set_option maxHeartbeats 800000 in
theorem cb_cred0 (g off cap : Nat) (l : List UInt8) (ln f s : Int) (w : World) (hl : l.length ≤ 64) (hcap : l.length ≤ cap) (h0 : 0 ≤ f) (h1 : f < 256) (hg : g < w.heap.size) (h4 : 4 ≤ l.length) (hpc : numCode l 1 = 0)
    (hc : ∀ i, i < l.length → w.cell? ⟨g, off + i, none⟩ = some (.int .u8 (l.getD i 0).toNat)) :
    Calls Tryz.prog 120 #[.agg #[.int .i64 ln, .int .i64 6, .int .i64 f, .int .i64 s], .slice (some ⟨g, off, none⟩) l.length cap] w fun e w' => e = .returned (.tuple #[]) ∧ Below w.heap.size w w' := by
  obtain ⟨x0, x1, x2, x3, hn, d0, d1, d2, d3⟩ := four_cells hc h4
  have HC : Hid (nCode (be4 x0 x1 x2 x3) 1 = 0) := by rw [← hn]; exact hpc
  clear hpc hn
  go_enter Tryz.func120, Tryz.ntmps120
  go_wp2_with fail
  refine (checkNumber_any g off l.length cap x0 x1 x2 x3 1 _ h4 ((((Below.refl _ _).alloc (Nat.le_refl _) _).cell (p := ⟨g, off, none⟩) hg).trans d0) ((((Below.refl _ _).alloc (Nat.le_refl _) _).cell (p := ⟨g, off + 1, none⟩) hg).trans d1) ((((Below.refl _ _).alloc (Nat.le_refl _) _).cell (p := ⟨g, off + 2, none⟩) hg).trans d2) ((((Below.refl _ _).alloc (Nat.le_refl _) _).cell (p := ⟨g, off + 3, none⟩) hg).trans d3)).mono ?_
  rintro e w2 ⟨he, n2, hw⟩
  rw [HC.out, endOf0] at he
  subst he
  subst hw
  go_wp2
  exact bodyPost_end (results_none rfl _ _ _) rfl ⟨rfl, below_drewN ((Below.refl _ _).alloc (Nat.le_refl _) _) _⟩

set_option maxHeartbeats 800000 in
theorem cb_cred9 (g off cap : Nat) (l : List UInt8) (ln f s : Int) (w : World) (hl : l.length ≤ 64) (hcap : l.length ≤ cap) (h0 : 0 ≤ f) (h1 : f < 256) (hg : g < w.heap.size) (h4 : 4 ≤ l.length) (hpc : numCode l 1 = 9)
    (hc : ∀ i, i < l.length → w.cell? ⟨g, off + i, none⟩ = some (.int .u8 (l.getD i 0).toNat)) :
    Calls Tryz.prog 120 #[.agg #[.int .i64 ln, .int .i64 6, .int .i64 f, .int .i64 s], .slice (some ⟨g, off, none⟩) l.length cap] w fun e w' => e = .panicked [{ v := .iface 83 (.int .i64 9), recovered := false }] ∧ Below w.heap.size w w' := by
  obtain ⟨x0, x1, x2, x3, hn, d0, d1, d2, d3⟩ := four_cells hc h4
  have HC : Hid (nCode (be4 x0 x1 x2 x3) 1 = 9) := by rw [← hn]; exact hpc
  clear hpc hn
  go_enter Tryz.func120, Tryz.ntmps120
  go_wp2_with fail
  refine (checkNumber_any g off l.length cap x0 x1 x2 x3 1 _ h4 ((((Below.refl _ _).alloc (Nat.le_refl _) _).cell (p := ⟨g, off, none⟩) hg).trans d0) ((((Below.refl _ _).alloc (Nat.le_refl _) _).cell (p := ⟨g, off + 1, none⟩) hg).trans d1) ((((Below.refl _ _).alloc (Nat.le_refl _) _).cell (p := ⟨g, off + 2, none⟩) hg).trans d2) ((((Below.refl _ _).alloc (Nat.le_refl _) _).cell (p := ⟨g, off + 3, none⟩) hg).trans d3)).mono ?_
  rintro e w2 ⟨he, n2, hw⟩
  rw [HC.out, endOf9] at he
  subst he
  subst hw
  exact ⟨rfl, rfl, below_drewN ((Below.refl _ _).alloc (Nat.le_refl _) _) _⟩

set_option maxHeartbeats 800000 in
theorem cb_else (g off cap : Nat) (l : List UInt8) (ln k f s : Int) (w : World) (hl : l.length ≤ 64) (hcap : l.length ≤ cap) (h0 : 0 ≤ f) (h1 : f < 256) (hg : g < w.heap.size) (k0 : ¬ k = 0) (k3 : ¬ k = 3) (k6 : ¬ k = 6)
    (hc : ∀ i, i < l.length → w.cell? ⟨g, off + i, none⟩ = some (.int .u8 (l.getD i 0).toNat)) :
    Calls Tryz.prog 120 #[.agg #[.int .i64 ln, .int .i64 k, .int .i64 f, .int .i64 s], .slice (some ⟨g, off, none⟩) l.length cap] w fun e w' => e = .returned (.tuple #[]) ∧ Below w.heap.size w w' := by
  go_enter Tryz.func120, Tryz.ntmps120
  go_wp2
  exact bodyPost_end (results_none rfl _ _ _) rfl ⟨rfl, (Below.refl _ _).alloc (Nat.le_refl _) _⟩

theorem checkBody_any (g off cap : Nat) (l : List UInt8) (ln k f s : Int) (w : World) (hl : l.length ≤ 64) (hcap : l.length ≤ cap) (h0 : 0 ≤ f) (h1 : f < 256) (hg : g < w.heap.size)
    (h4 : (k = 3 ∧ hasB f 1 = false) ∨ k = 6 → 4 ≤ l.length)
    (hc : ∀ i, i < l.length → w.cell? ⟨g, off + i, none⟩ = some (.int .u8 (l.getD i 0).toNat)) :
    Calls Tryz.prog 120 #[.agg #[.int .i64 ln, .int .i64 k, .int .i64 f, .int .i64 s], .slice (some ⟨g, off, none⟩) l.length cap] w fun e w' => e = endOf (bodyCode k f l) ∧ Below w.heap.size w w' := by
  by_cases k0 : k = 0
  · subst k0
    cases hp : hasB f 8 with
    | true =>
      have e : bodyCode 0 f l = padCode l := by simp [bodyCode, hp]
      rw [e]
      rcases padCode_cases l with h | h <;> rw [h]
      · exact cb_pad0 g off cap l ln f s w hl hcap h0 h1 hg hp h hc
      · exact cb_pad9 g off cap l ln f s w hl hcap h0 h1 hg hp h hc
    | false =>
      have e : bodyCode 0 f l = 0 := by simp [bodyCode, hp]
      rw [e]
      exact cb_bare g off cap l ln f s w hl hcap h0 h1 hg hp hc
  · by_cases k3 : k = 3
    · subst k3
      cases hp : hasB f 1 with
      | true =>
        have e : bodyCode 3 f l = 0 := by simp [bodyCode, hp]
        rw [e]
        exact cb_ack g off cap l ln f s w hl hcap h0 h1 hg hp hc
      | false =>
        have e : bodyCode 3 f l = numCode l 0 := by simp [bodyCode, hp]
        rw [e]
        rcases numCode_cases l 0 with h | h <;> rw [h]
        · exact cb_set0 g off cap l ln f s w hl hcap h0 h1 hg hp (h4 (Or.inl ⟨rfl, hp⟩)) h hc
        · exact cb_set9 g off cap l ln f s w hl hcap h0 h1 hg hp (h4 (Or.inl ⟨rfl, hp⟩)) h hc
    · by_cases k6 : k = 6
      · subst k6
        have e : bodyCode 6 f l = numCode l 1 := by simp [bodyCode]
        rw [e]
        rcases numCode_cases l 1 with h | h <;> rw [h]
        · exact cb_cred0 g off cap l ln f s w hl hcap h0 h1 hg (h4 (Or.inr rfl)) h hc
        · exact cb_cred9 g off cap l ln f s w hl hcap h0 h1 hg (h4 (Or.inr rfl)) h hc
      · have e : bodyCode k f l = 0 := by simp [bodyCode, k0, k3, k6]
        rw [e]
        exact cb_else g off cap l ln k f s w hl hcap h0 h1 hg k0 k3 k6 hc
end Go.Proofs.YtckeblkadiehbaaGreat
