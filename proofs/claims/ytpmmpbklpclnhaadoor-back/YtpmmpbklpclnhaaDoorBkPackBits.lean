import Derived.Test.YtpmmpbklpclnhaaDoorBkPut
set_option linter.unusedVariables false
set_option linter.unusedSimpArgs false
/-
  Package blocks: bitWriter's fill, packBits.
-/
namespace Go.Proofs.YtpmmpbklpclnhaaDoor
set_option linter.unusedVariables false
set_option linter.unusedSimpArgs false
open Go.RowKit

theorem BwS.own {w : World} {wb : Nat} {gv : Value} {bs : List Bool} (h : BwS w wb gv bs) : w.ownsRow 0 5 1 gv (bs.length / 8) ((bytesB bs).map B) := by
  obtain ⟨L, N, _, _, _, _, h5⟩ := h
  exact h5
theorem put_S {w : World} {wb : Nat} {gv : Value} {bs : List Bool} (h : BwS w wb gv bs) (v n : Nat) (hv : v < 2 ^ n) (hn : n ≤ 10) (hlb : bs.length ≤ 1099511627776) :
    Calls Tryd.prog 61 #[.pointer (some ⟨wb, 0, none⟩), .int .u32 v, .int .i64 n] w fun e w' => e = .returned (.tuple #[]) ∧ ∃ gv', BwS w' wb gv' (bs ++ natBits n v) ∧ Chg (TouchB wb gv) w w' ∧ (∀ j, gv'.ownBlock = some j → gv.ownBlock = some j ∨ w.heap.size ≤ j) := by
  obtain ⟨L, N, h1, h2, h3, h4, h5⟩ := h
  exact put_any wb gv L N bs v n w h1 h2 h3 h4 h5 hv hn hlb
theorem put_lit {w : World} {wb : Nat} {gv : Value} {bs : List Bool} (h : BwS w wb gv bs) (v n : Nat) (V M : Int) (hV : V = v) (hM : M = n) (hv : v < 2 ^ n) (hn : n ≤ 10) (hlb : bs.length ≤ 1099511627776) (r : List Bool) (hr : natBits n v = r) :
    Calls Tryd.prog 61 #[.pointer (some ⟨wb, 0, none⟩), .int .u32 V, .int .i64 M] w fun e w' => e = .returned (.tuple #[]) ∧ ∃ gv', BwS w' wb gv' (bs ++ r) ∧ Chg (TouchB wb gv) w w' ∧ (∀ j, gv'.ownBlock = some j → gv.ownBlock = some j ∨ w.heap.size ≤ j) := by
  subst hV hM hr
  exact put_S h v n hv hn hlb

set_option maxRecDepth 100000 in
set_option maxHeartbeats 3200000 in
theorem fill_any (wb : Nat) (gv : Value) (bs : List Bool) (w : World) (h : BwS w wb gv bs) (hlb : bs.length ≤ 1099511627776) :
    Calls Tryd.prog 63 #[.pointer (some ⟨wb, 0, none⟩)] w fun e w' => e = .returned (.tuple #[]) ∧ ∃ gv', BwS w' wb gv' (bs ++ List.replicate (padN bs.length) true) ∧ Chg (TouchB wb gv) w w' ∧ (∀ j, gv'.ownBlock = some j → gv.ownBlock = some j ∨ w.heap.size ≤ j) := by
  have hput := put_lit h
  have H := hide h
  obtain ⟨L, N, h1, h2, h3, -, -⟩ := h
  obtain ⟨-, -, c2⟩ := h1.cells
  have HPUT := hide hput
  have HLB := hide hlb
  have hpad : padN bs.length = (8 - N) % 8 := by unfold padN; omega
  have HP := hide hpad
  clear hput h1 hpad hlb
  have hN : N = 0 ∨ N = 1 ∨ N = 2 ∨ N = 3 ∨ N = 4 ∨ N = 5 ∨ N = 6 ∨ N = 7 := by omega
  clear h3
  rcases hN with rfl | rfl | rfl | rfl | rfl | rfl | rfl | rfl
  · go_enter Tryd.func63, Tryd.ntmps63
    go_wp2
    refine bodyPost_end (results_none rfl _ _ _) rfl ⟨rfl, gv, ?_, Chg.refl _ _, fun j hj => Or.inl hj⟩
    rw [HP.out]
    simpa using H.out
  all_goals go_enter Tryd.func63, Tryd.ntmps63
  all_goals go_wp2_with fail
  · refine (HPUT.out 127 7 _ _ rfl rfl (by decide) (by decide) HLB.out (List.replicate 7 true) (by decide)).mono ?_
    rintro e w' ⟨rfl, hh⟩
    go_wp2
    exact bodyPost_end (results_none rfl _ _ _) rfl ⟨rfl, by rw [HP.out]; exact hh⟩
  · refine (HPUT.out 63 6 _ _ rfl rfl (by decide) (by decide) HLB.out (List.replicate 6 true) (by decide)).mono ?_
    rintro e w' ⟨rfl, hh⟩
    go_wp2
    exact bodyPost_end (results_none rfl _ _ _) rfl ⟨rfl, by rw [HP.out]; exact hh⟩
  · refine (HPUT.out 31 5 _ _ rfl rfl (by decide) (by decide) HLB.out (List.replicate 5 true) (by decide)).mono ?_
    rintro e w' ⟨rfl, hh⟩
    go_wp2
    exact bodyPost_end (results_none rfl _ _ _) rfl ⟨rfl, by rw [HP.out]; exact hh⟩
  · refine (HPUT.out 15 4 _ _ rfl rfl (by decide) (by decide) HLB.out (List.replicate 4 true) (by decide)).mono ?_
    rintro e w' ⟨rfl, hh⟩
    go_wp2
    exact bodyPost_end (results_none rfl _ _ _) rfl ⟨rfl, by rw [HP.out]; exact hh⟩
  · refine (HPUT.out 7 3 _ _ rfl rfl (by decide) (by decide) HLB.out (List.replicate 3 true) (by decide)).mono ?_
    rintro e w' ⟨rfl, hh⟩
    go_wp2
    exact bodyPost_end (results_none rfl _ _ _) rfl ⟨rfl, by rw [HP.out]; exact hh⟩
  · refine (HPUT.out 3 2 _ _ rfl rfl (by decide) (by decide) HLB.out (List.replicate 2 true) (by decide)).mono ?_
    rintro e w' ⟨rfl, hh⟩
    go_wp2
    exact bodyPost_end (results_none rfl _ _ _) rfl ⟨rfl, by rw [HP.out]; exact hh⟩
  · refine (HPUT.out 1 1 _ _ rfl rfl (by decide) (by decide) HLB.out (List.replicate 1 true) (by decide)).mono ?_
    rintro e w' ⟨rfl, hh⟩
    go_wp2
    exact bodyPost_end (results_none rfl _ _ _) rfl ⟨rfl, by rw [HP.out]; exact hh⟩

theorem tx_at {T : ByteArray} {k : Nat} (h : k < T.data.toList.length) (h' : k < T.size) : T[k] = T.data.toList[k] := rfl

set_option maxRecDepth 100000 in
set_option maxHeartbeats 3200000 in
theorem packBits_any (T : ByteArray) (w : World) (hl : T.size ≤ 4294967296) :
    Calls Tryd.prog 59 #[.string T] w fun e w' => ∃ v, e = .returned v ∧ w'.ownsRow w.heap.size 5 1 v (bytesB (packB T.data.toList)).length ((bytesB (packB T.data.toList)).map B) ∧ Below w.heap.size w w' := by
  obtain ⟨t, ht⟩ : ∃ t, t = T.data.toList := ⟨_, rfl⟩
  have htl : t.length = T.size := by rw [ht]; rfl
  rw [← ht]
  have HT := hide ht
  clear ht
  have hz : BwB (w.alloc (.cells #[.slice none 0 0, .int .u32 0, .int .i64 0] 103)) w.heap.size (.slice none 0 0) 0 0 := heap_alloc_new w _
  have hS0 : BwS (w.alloc (.cells #[.slice none 0 0, .int .u32 0, .int .i64 0] 103)) w.heap.size (.slice none 0 0) (rawB (t.take 0)) := by
    rw [List.take_zero]
    exact ⟨0, 0, hz, by decide, rfl, rfl, World.ownsRow_nil _ _ _ _⟩
  have HS0 := hide hS0
  clear hz hS0
  go_enter Tryd.func59, Tryd.ntmps59
  go_wp2
  go_loopw [7] (fun i wr => ∃ k gv, k ≤ t.length ∧ i = .int .i64 (k : Nat) ∧ BwS wr w.heap.size gv (rawB (t.take k)) ∧ Below w.heap.size w wr ∧ (∀ j, gv.ownBlock = some j → w.heap.size ≤ j)) (fun i _ => t.length - (intOf i).toNat)
  case atStart => exact ⟨0, _, Nat.zero_le _, rfl, HS0.out, (Below.refl _ _).alloc (Nat.le_refl _) _, fun j hj => by simp [Value.ownBlock] at hj⟩
  case round =>
    obtain ⟨k, gv, hk, rfl, hS, hbel, hfr⟩ := hrel
    have hraw := rawB_length (t.take k)
    rw [List.length_take] at hraw
    by_cases hlt : k < t.length
    · have hkT : k < T.size := by omega
      have hkT2 : k < T.data.toList.length := hkT
      have hTk : T[k] = t[k] := by
        have h1 : T[k] = T.data.toList[k] := rfl
        rw [h1]
        congr 1
        exact HT.out.symm
      have hcd := fun wx => bcodeOf_any t[k] wx
      obtain ⟨n1, n2, n3⟩ := codeN_bits t[k]
      have hput := put_S hS (codeN t[k]).1 (codeN t[k]).2 n2 n3 (by omega)
      rw [← n1, ← rawB_next hlt] at hput
      generalize codeN t[k] = C at hcd hput n2 n3
      rw [← hTk] at hcd
      have hC : C.1 ≤ 1023 := by have := Nat.lt_of_lt_of_le n2 (Nat.pow_le_pow_right (by omega) n3); omega
      obtain ⟨C1, C2⟩ := C
      simp only at hcd hput n2 n3 hC
      have HCD := hide hcd
      have HPUT := hide hput
      have HBE := hide hbel
      have HFR := hide hfr
      clear hcd hput hbel hfr hS n2 hTk n1
      go_wp2_with fail
      refine (HCD.out _).mono ?_
      rintro e w1 ⟨rfl, hw1⟩
      rw [hw1]
      clear hw1 w1
      go_wp2_with fail
      refine HPUT.out.mono ?_
      rintro e w1 ⟨rfl, gv', hS1, hch, hfr1⟩
      go_wp2
      go_roundw
      case rel =>
        have hb := HBE.out
        refine ⟨k + 1, gv', by omega, by go_num, hS1, ⟨hch.os.trans hb.os, hch.tape.trans hb.tape, hch.output.trans hb.output, Nat.le_trans hb.size hch.size, fun j hj => (hch.block j (Nat.lt_of_lt_of_le hj hb.size) ?_).trans (hb.block j hj)⟩, fun j hj => ?_⟩
        · rintro (e | e)
          · omega
          · have := HFR.out j e; omega
        · rcases hfr1 j hj with a | a
          · exact HFR.out j a
          · exact Nat.le_trans hb.size a
      case measure => simp [intOf]; omega
    · have hke : k = t.length := by omega
      subst hke
      rw [List.take_length] at hS hraw
      have hfill := fill_any w.heap.size gv _ wr hS (by omega)
      have HFILL := hide hfill
      have HBE := hide hbel
      have HFR := hide hfr
      clear hfill hbel hfr hS
      go_wp2_with fail
      refine HFILL.out.mono ?_
      rintro e w1 ⟨rfl, gv', hS1, hch, hfr1⟩
      obtain ⟨L, N, h1, h2, h3, h4, h5⟩ := hS1
      obtain ⟨z0, -, -⟩ := h1.cells
      have H5 := hide h5
      clear h1 h2 h3 h4 h5
      go_wp2
      go_ret
      have hb := HBE.out
      refine ⟨gv', rfl, ?_, ⟨hch.os.trans hb.os, hch.tape.trans hb.tape, hch.output.trans hb.output, Nat.le_trans hb.size hch.size, fun j hj => (hch.block j (Nat.lt_of_lt_of_le hj hb.size) ?_).trans (hb.block j hj)⟩⟩
      · rw [bytesB_length]
        refine owns_base H5.out (fun j hj => ?_)
        rcases hfr1 j hj with a | a
        · exact HFR.out j a
        · exact Nat.le_trans hb.size a
      · rintro (e | e)
        · omega
        · have := HFR.out j e; omega
end Go.Proofs.YtpmmpbklpclnhaaDoor
