import Derived.Test.YtdifgcppmnmagaaGreatDoorRGaf
import Derived.Test.YtdifgcppmnmagaaGreatDoorRGab
set_option linter.unusedVariables false
set_option linter.unusedSimpArgs false
/-
  (*sluicelaw.World).step, at KReader and KRead.
-/
namespace Go.Proofs.YtdifgcppmnmagaaGreatDoor
open Go.RowKit

/-- What stands of a script's world, by its weight. -/
def RI (W0 V0 w : World) (b : Nat) (gF gH gC gS : Value) (m : Nat) : Prop := ∃ rv kv fv rds recs frs, RInv W0 V0 w b gF gH gC gS rv kv fv rds recs frs m
def RG (_ : World) (_ _ : Value) : Prop := True

set_option maxRecDepth 100000 in
set_option maxHeartbeats 6400000 in
theorem frames_noreader (b : Nat) (cs : Array Value) (sr : Option Addr) (cr : Nat) (A B' C : Int) (S : ByteArray) (w : World) (hb : w.heap[b]? = some (.cells cs 46 (0, 0))) (h4 : cs[4]? = some (.slice sr 0 cr)) :
    Calls Tryz.prog 10 #[.pointer (some ⟨b, 0, none⟩), .agg #[.int .i64 3, .int .i64 A, .int .i64 B', .int .i64 C, .string S]] w fun e w' => e = .returned (.bool true) ∧ Below w.heap.size w w' := by
  have hlt := lt_of_block hb
  have g0 : w.cell? ⟨b, 4, none⟩ = some (.slice sr 0 cr) := by rw [cell_of_row w b _ _ _ _ hb]; exact h4
  clear hb h4
  go_enter Tryz.func10, Tryz.ntmps10
  go_wp2
  go_ret
  exact ⟨rfl, (Below.refl _ _).alloc (Nat.le_refl _) _⟩

theorem frames_two (W0 V0 : World) (b : Nat) (gF gH gC gS : Value) (A B' C : Int) (S : ByteArray) (m : Nat) (w : World) (hm : m + 1 + S.size ≤ 16777216) (hI : RI W0 V0 w b gF gH gC gS m) :
    Calls Tryz.prog 10 #[.pointer (some ⟨b, 0, none⟩), .agg #[.int .i64 2, .int .i64 A, .int .i64 B', .int .i64 C, .string S]] w fun e w' => e = .returned (.bool true) ∧ RI W0 V0 w' b gF gH gC gS (m + 1 + S.size) := by
  obtain ⟨rv, kv, fv, rds, recs, frs, h⟩ := hI
  refine (frames_new W0 V0 b m gF gH gC gS rv kv fv rds recs frs A B' C S w h (by have := h.few.1; omega)).mono ?_
  rintro e w' ⟨rfl, rv', rds', h'⟩
  exact ⟨rfl, rv', kv, fv, rds', recs, frs, h'.mono (by omega)⟩

theorem frames_three (W0 V0 : World) (b : Nat) (gF gH gC gS : Value) (A B' C : Int) (S : ByteArray) (m : Nat) (w : World) (hA : I64 A) (hm : m + 1 + S.size ≤ 16777216) (hI : RI W0 V0 w b gF gH gC gS m) :
    Calls Tryz.prog 10 #[.pointer (some ⟨b, 0, none⟩), .agg #[.int .i64 3, .int .i64 A, .int .i64 B', .int .i64 C, .string S]] w fun e w' => e = .returned (.bool true) ∧ RI W0 V0 w' b gF gH gC gS (m + 1 + S.size) := by
  obtain ⟨rv, kv, fv, rds, recs, frs, h⟩ := hI
  by_cases h0 : 0 < rds.length
  · have hS : S = ⟨S.data.toList.toArray⟩ := by cases S; simp
    have hl : S.data.toList.length = S.size := by rw [Array.length_toList]; rfl
    have hx := frames_read W0 V0 b m gF gH gC gS rv kv fv rds recs frs A B' C S.data.toList w h hA h0 (by omega)
    rw [← hS, hl] at hx
    refine hx.mono ?_
    rintro e w' ⟨rfl, kv', fv', rds', recs', frs', h'⟩
    exact ⟨rfl, rv, kv', fv', rds', recs', frs', h'⟩
  · obtain ⟨sr, cr, rfl⟩ := slice_len h.rowR
    have hz : rds.length = 0 := by omega
    rw [hz] at h
    refine (frames_noreader b _ sr cr A B' C S w h.bk.blk rfl).mono ?_
    rintro e w' ⟨rfl, hb⟩
    exact ⟨rfl, _, kv, fv, rds, recs, frs, (h.below hb).mono (by omega)⟩

set_option maxRecDepth 100000 in
set_option maxHeartbeats 6400000 in
theorem step_two (W0 V0 : World) (b : Nat) (gF gH gC gS : Value) (A B' C : Int) (S : ByteArray) (m : Nat) (w : World) (hm : m + 1 + S.size ≤ 16777216) (hI : RI W0 V0 w b gF gH gC gS m) :
    Calls Tryz.prog 8 #[.pointer (some ⟨b, 0, none⟩), .agg #[.int .i64 2, .int .i64 A, .int .i64 B', .int .i64 C, .string S]] w fun e w' => e = .returned (.bool true) ∧ RI W0 V0 w' b gF gH gC gS (m + 1 + S.size) := by
  have HI1 : Hid (∀ o, RI W0 V0 (w.alloc o) b gF gH gC gS m) := fun o => by
    obtain ⟨rv, kv, fv, rds, recs, frs, h⟩ := hI
    exact ⟨rv, kv, fv, rds, recs, frs, h.below ((Below.refl _ _).alloc (Nat.le_refl _) _)⟩
  have HM := hide hm
  clear hI hm
  go_enter Tryz.func8, Tryz.ntmps8
  go_wp2_with fail
  refine (frames_two W0 V0 b gF gH gC gS A B' C S m _ HM.out (HI1.out _)).mono ?_
  rintro e w' ⟨rfl, h⟩
  go_wp2
  go_ret
  exact ⟨rfl, h⟩

set_option maxRecDepth 100000 in
set_option maxHeartbeats 6400000 in
theorem step_three (W0 V0 : World) (b : Nat) (gF gH gC gS : Value) (A B' C : Int) (S : ByteArray) (m : Nat) (w : World) (hA : I64 A) (hm : m + 1 + S.size ≤ 16777216) (hI : RI W0 V0 w b gF gH gC gS m) :
    Calls Tryz.prog 8 #[.pointer (some ⟨b, 0, none⟩), .agg #[.int .i64 3, .int .i64 A, .int .i64 B', .int .i64 C, .string S]] w fun e w' => e = .returned (.bool true) ∧ RI W0 V0 w' b gF gH gC gS (m + 1 + S.size) := by
  have HI1 : Hid (∀ o, RI W0 V0 (w.alloc o) b gF gH gC gS m) := fun o => by
    obtain ⟨rv, kv, fv, rds, recs, frs, h⟩ := hI
    exact ⟨rv, kv, fv, rds, recs, frs, h.below ((Below.refl _ _).alloc (Nat.le_refl _) _)⟩
  have HM := hide hm
  have HA := hide hA
  clear hI hm hA
  go_enter Tryz.func8, Tryz.ntmps8
  go_wp2_with fail
  refine (frames_three W0 V0 b gF gH gC gS A B' C S m _ HA.out HM.out (HI1.out _)).mono ?_
  rintro e w' ⟨rfl, h⟩
  go_wp2
  go_ret
  exact ⟨rfl, h⟩

theorem reads_played : Played 2 3 (fun _ => True) RG RI where
  kb := fun _ _ _ _ => trivial
  new := by
    intro W0 V0 b gF gH gC gS h h0 hb
    refine ⟨.slice none 0 0, .slice none 0 0, .slice none 0 0, [], [], [], ⟨⟨h, rfl, rfl, rfl, rfl, rfl, World.ownsRow_nil _ _ _ _, World.ownsRow_nil _ _ _ _, by simp, by simp, by simp, by simp⟩, World.ownsRow_nil _ _ _ _, by simp, fun i j hi => by simp at hi, by simp, by simp, by simp, fun j hj => by simp [Value.ownBlock] at hj, fun j hj => by simp [Value.ownBlock] at hj, fun j hj => by simp [Value.ownBlock] at hj, h0, hb, Chg.refl _ _, by simp⟩⟩
  below := by
    rintro W0 V0 w w' b gF gH gC gS m ⟨rv, kv, fv, rds, recs, frs, h⟩ hb
    exact ⟨rv, kv, fv, rds, recs, frs, h.below hb⟩
  bel := by
    rintro W0 V0 w b gF gH gC gS m ⟨rv, kv, fv, rds, recs, frs, h⟩
    exact ⟨h.bel, h.chV⟩
  mono := by
    rintro W0 V0 w b gF gH gC gS m n hmn ⟨rv, kv, fv, rds, recs, frs, h⟩
    exact ⟨rv, kv, fv, rds, recs, frs, h.mono hmn⟩
  bks := by
    rintro W0 V0 w b gF gH gC gS m ⟨rv, kv, fv, rds, recs, frs, h⟩ hm
    exact whole_true b _ kv fv recs frs _ h.bk (by have := h.few.2.1; omega) (by have := h.few.2.2; omega)
  step := by
    intro W0 V0 w b gF gH gC gS m o h1 h2 hok _ hG hm hI
    obtain ⟨ok, oa, ob, oc, os⟩ := o
    simp only at h1 h2 hm
    by_cases h3 : ok = 2
    · subst h3
      exact step_two W0 V0 b gF gH gC gS oa ob oc os m w (by omega) hI
    · obtain rfl : ok = 3 := by omega
      exact step_three W0 V0 b gF gH gC gS oa ob oc os m w hok.2.1 (by omega) hI
  known := fun _ _ _ _ _ _ => trivial
end Go.Proofs.YtdifgcppmnmagaaGreatDoor
