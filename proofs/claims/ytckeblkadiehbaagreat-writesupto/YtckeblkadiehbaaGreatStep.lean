/-
  (*sluicelaw.World).step, at KWrite.
-/
import Derived.Test.YtckeblkadiehbaaGreatFrW
import Derived.Test.YtckeblkadiehbaaGreatPlaysRel
namespace Go.Proofs.YtckeblkadiehbaaGreat
open Go.RowKit

/-- What stands of a script's world, by the count of steps. -/
def WI (W0 V0 w : World) (b : Nat) (gF gH gC gS : Value) (m : Nat) : Prop := ∃ kv recs, recs.length ≤ m ∧ WInv W0 V0 w b gF gH gC gS kv recs
/-- The goods of Writes. -/
def WG (w : World) (gF : Value) : Prop := ∃ sf cf qs, gF = .slice sf qs.length cf ∧ FsIn w sf qs ∧ qs.length ≤ 4194304

theorem frames_one (W0 V0 : World) (b : Nat) (gF gH gC gS : Value) (A B' C : Int) (S : ByteArray) (m : Nat) (w : World) (hA : I64 A) (hG : WG W0 gF) (hm : m ≤ 1048576) (hI : WI W0 V0 w b gF gH gC gS m) :
    Calls Tryz.prog 10 #[.pointer (some ⟨b, 0, none⟩), .agg #[.int .i64 1, .int .i64 A, .int .i64 B', .int .i64 C, .string S]] w fun e w' => e = .returned (.bool true) ∧ WI W0 V0 w' b gF gH gC gS (m + 1) := by
  obtain ⟨sf, cf, qs, rfl, hf, hq⟩ := hG
  obtain ⟨kv, recs, hr, hi⟩ := hI
  by_cases h0 : 0 < qs.length
  · refine (frames_write W0 V0 b gH gC gS kv sf cf qs A B' C S recs w hA h0 hf hq hi (by omega)).mono ?_
    rintro e w' ⟨rfl, kv', r, h⟩
    exact ⟨rfl, kv', _, by simp; omega, h⟩
  · have hz : qs.length = 0 := by omega
    have hb := hi.bk.blk
    rw [hz] at hb
    refine (frames_none b gH gC gS _ kv _ sf cf A B' C S w hb).mono ?_
    rintro e w' ⟨rfl, h⟩
    exact ⟨rfl, kv, recs, by omega, hi.below h⟩

set_option maxRecDepth 100000 in
set_option maxHeartbeats 6400000 in
theorem step_one (W0 V0 : World) (b : Nat) (gF gH gC gS : Value) (A B' C : Int) (S : ByteArray) (m : Nat) (w : World) (hA : I64 A) (hG : WG W0 gF) (hm : m ≤ 1048576) (hI : WI W0 V0 w b gF gH gC gS m) :
    Calls Tryz.prog 8 #[.pointer (some ⟨b, 0, none⟩), .agg #[.int .i64 1, .int .i64 A, .int .i64 B', .int .i64 C, .string S]] w fun e w' => e = .returned (.bool true) ∧ WI W0 V0 w' b gF gH gC gS (m + 1) := by
  have HG := hide hG
  have HI := hide hI
  have HA := hide hA
  clear hG hI hA
  have hI1 : ∀ o, WI W0 V0 (w.alloc o) b gF gH gC gS m := fun o => by
    obtain ⟨kv, recs, hr, hi⟩ := HI.out
    exact ⟨kv, recs, hr, hi.below ((Below.refl _ _).alloc (Nat.le_refl _) _)⟩
  have HI1 := hide hI1
  clear hI1
  go_enter Tryz.func8, Tryz.ntmps8
  go_wp2_with fail
  refine (frames_one W0 V0 b gF gH gC gS A B' C S m _ HA.out HG.out hm (HI1.out _)).mono ?_
  rintro e w' ⟨rfl, h⟩
  go_wp2
  go_ret
  exact ⟨rfl, h⟩

theorem writes_played : Played 1 1 WG WI where
  new := by
    intro W0 V0 b gF gH gC gS h h0 hb
    refine ⟨.slice none 0 0, [], Nat.le_refl _, ⟨⟨h, rfl, rfl, rfl, rfl, rfl, World.ownsRow_nil _ _ _ _, World.ownsRow_nil _ _ _ _, by simp, by simp, by simp, by simp⟩, fun j hj => by simp [Value.ownBlock] at hj, h0, hb, Chg.refl _ _⟩⟩
  below := by
    rintro W0 V0 w w' b gF gH gC gS m ⟨kv, recs, hr, hi⟩ hb
    exact ⟨kv, recs, hr, hi.below hb⟩
  bel := by
    rintro W0 V0 w b gF gH gC gS m ⟨kv, recs, hr, hi⟩
    exact ⟨hi.bel, hi.chV⟩
  mono := by
    rintro W0 V0 w b gF gH gC gS m ⟨kv, recs, hr, hi⟩
    exact ⟨kv, recs, by omega, hi⟩
  bks := by
    rintro W0 V0 w b gF gH gC gS m ⟨kv, recs, hr, hi⟩
    exact ⟨_, kv, _, recs, [], hi.bk, hr, by simp⟩
  step := by
    intro W0 V0 w b gF gH gC gS m o h1 h2 hok hG hm hI
    obtain ⟨ok, oa, ob, oc, os⟩ := o
    obtain rfl : ok = 1 := by simp only at h1 h2; omega
    exact step_one W0 V0 b gF gH gC gS oa ob oc os m w hok.2.1 hG hm hI
  known := by
    intro w' n h6 h2
    have hbd : BytesIn w' (.slice (some ⟨n + 2, 0, none⟩) 2 2) [104, 105] := by
      refine Or.inr ⟨n + 2, 0, 2, rfl, lt_of_block h2, by simp, fun i hi => ?_⟩
      have hi' : i < 2 := by simpa using hi
      rw [cell_of_row w' _ _ _ _ _ h2]
      match i, hi' with
      | 0, _ => rfl
      | 1, _ => rfl
    refine ⟨some ⟨n + 6, 0, none⟩, 1, [(⟨0, 1, 1, [104, 105]⟩, .slice (some ⟨n + 2, 0, none⟩) 2 2)], rfl, ⟨fun k hk => ?_, fun q hq => ?_, fun q hq => ?_⟩, by simp⟩
    · have hk' : k = 0 := by simpa using hk
      subst hk'
      obtain ⟨a0, a1, a2, a3, -⟩ := frame_block h6
      exact ⟨n + 6, 0, rfl, lt_of_block h6, a0, a1, a2, a3⟩
    · simp only [List.mem_cons, List.not_mem_nil, or_false] at hq
      subst hq
      exact Or.inl hbd
    · simp only [List.mem_cons, List.not_mem_nil, or_false] at hq
      subst hq
      simp
end Go.Proofs.YtckeblkadiehbaaGreat
