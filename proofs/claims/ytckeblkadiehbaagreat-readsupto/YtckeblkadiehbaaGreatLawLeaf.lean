/-
  sluicelaw: pick, num, markByte, sameBytes, marked.
-/
import Derived.Test.YtckeblkadiehbaaGreatWrite
import Derived.Laws.IdiomStrings
import Derived.Laws.BytesArg
namespace Go.Proofs.YtckeblkadiehbaaGreat
open Go.RowKit

def I64 (n : Int) : Prop := -9223372036854775808 ≤ n ∧ n ≤ 9223372036854775807

theorem pick_neg {c n : Int} (hc : c < 0) (hn : 0 < n) : 0 ≤ -(c + 1).tmod n ∧ -(c + 1).tmod n < n := by
  have e : -(c + 1).tmod n = (-(c + 1)) % n := by
    rw [← Int.neg_tmod]
    exact Int.tmod_eq_emod_of_nonneg (by omega)
  rw [e]
  exact ⟨Int.emod_nonneg _ (by omega), Int.emod_lt_of_pos _ hn⟩

/-- What pick answers. -/
def pkI (c n : Int) : Int := if c < 0 then -(c + 1).tmod n else c % n
theorem pkI_bounds (c : Int) {n : Int} (hn : 0 < n) : 0 ≤ pkI c n ∧ pkI c n < n := by
  unfold pkI
  split
  · exact pick_neg (by assumption) hn
  · exact ⟨Int.emod_nonneg _ (by omega), Int.emod_lt_of_pos _ hn⟩

set_option maxRecDepth 100000 in
set_option maxHeartbeats 400000 in
theorem lpick_fun (c n : Int) (w : World) (hn : 0 < n) (hc : I64 c) :
    Calls Tryz.prog 20 #[.int .i64 c, .int .i64 n] w fun e w' => e = .returned (.int .i64 (pkI c n)) ∧ w' = w := by
  obtain ⟨hc1, hc2⟩ := hc
  have hnz : ¬ n = 0 := by omega
  by_cases hneg : c < 0
  · have e : pkI c n = -(c + 1).tmod n := by unfold pkI; rw [if_pos hneg]
    rw [e]
    clear e
    go_enter Tryz.func20, Tryz.ntmps20
    go_wp2
    go_ret
    exact ⟨rfl, rfl⟩
  · have e : pkI c n = c % n := by unfold pkI; rw [if_neg hneg]
    rw [e]
    clear e
    go_enter Tryz.func20, Tryz.ntmps20
    go_wp2
    go_ret
    exact ⟨rfl, rfl⟩

set_option maxRecDepth 100000 in
set_option maxHeartbeats 400000 in
theorem num_any (c : Int) (w : World) : Calls Tryz.prog 25 #[.int .i64 c] w fun e w' => e = .returned (.int .i64 c) ∧ w' = w := by
  go_enter Tryz.func25, Tryz.ntmps25
  go_wp2
  go_ret
  exact ⟨rfl, rfl⟩

/-- The mark of the n-th list at place i. -/
def mk (n i : Nat) : UInt8 := if i % 2 = 0 then UInt8.ofNat (1 + n % 251) else UInt8.ofNat (1 + n / 251 % 251)

theorem mk_even {n i : Nat} (h : i % 2 = 0) : ((mk n i).toNat : Int) = 1 + (n : Int) % 251 := by
  unfold mk; rw [if_pos h, UInt8.toNat_ofNat']; omega
theorem mk_odd {n i : Nat} (h : ¬ i % 2 = 0) : ((mk n i).toNat : Int) = 1 + (n : Int) / 251 % 251 := by
  unfold mk; rw [if_neg h, UInt8.toNat_ofNat']; omega

set_option maxRecDepth 100000 in
set_option maxHeartbeats 400000 in
theorem markByte_any (n i : Nat) (w : World) (hn : n ≤ 1099511627776) (hi : i ≤ 1099511627776) :
    Calls Tryz.prog 63 #[.int .i64 n, .int .i64 i] w fun e w' => e = .returned (B (mk n i)) ∧ w' = w := by
  by_cases h : i % 2 = 0
  · have e := mk_even (n := n) h
    have h' : (i : Int) % 2 = 0 := by omega
    unfold B
    rw [e]
    clear e h
    go_enter Tryz.func63, Tryz.ntmps63
    go_wp2
    go_ret
    exact ⟨rfl, rfl⟩
  · have e := mk_odd (n := n) h
    have h' : (i : Int) % 2 = 1 := by omega
    unfold B
    rw [e]
    clear e h
    go_enter Tryz.func63, Tryz.ntmps63
    go_wp2
    go_ret
    exact ⟨rfl, rfl⟩

theorem conv_bytes {w : World} {bv : Value} {l : List UInt8} (h : BytesIn w bv l) : (convert 54 9 bv).run Tryz.prog w = .ok (.string ⟨l.toArray⟩) w := by
  rcases h with ⟨rfl, rfl⟩ | ⟨bb, off, cap, rfl, h1, h2, h3⟩
  · exact run_convert_bytes_nil w 54 5 Tryz.underlying54 Tryz.underlying5 0 0 9 Tryz.underlying9
  · refine run_convert_bytes_back w 54 9 5 ⟨bb, off, none⟩ cap l Tryz.underlying54 Tryz.underlying5 Tryz.underlying9 (fun j hj => ?_)
    have e : (⟨bb, off, none⟩ : Addr).add j = ⟨bb, off + j, none⟩ := by unfold Addr.add; split <;> simp_all
    rw [e, h3 j hj, getD_lt _ _ _ hj]
theorem conv_bytesA {w : World} {bv : Value} {l : List UInt8} (h : BytesA w bv l) : (convert 54 9 bv).run Tryz.prog w = .ok (.string ⟨l.toArray⟩) w := by
  rcases h with h | ⟨ad, rfl, rfl⟩
  · exact conv_bytes h
  · exact run_convert_bytes_back w 54 9 5 ad 0 [] Tryz.underlying54 Tryz.underlying5 Tryz.underlying9 (fun j hj => absurd hj (by simp))

set_option maxRecDepth 100000 in
set_option maxHeartbeats 800000 in
theorem sameBytes_true (va vb : Value) (l : List UInt8) (w : World) (ha : BytesIn w va l) (hb : BytesIn w vb l) :
    Calls Tryz.prog 24 #[va, vb] w fun e w' => e = .returned (.bool true) ∧ w' = w := by
  have h1 := conv_bytes ha
  have h2 := conv_bytes hb
  obtain ⟨sa, na, ca, rfl⟩ : ∃ sa na ca, va = .slice sa na ca := by rcases ha with ⟨rfl, _⟩ | ⟨_, _, _, rfl, _⟩ <;> exact ⟨_, _, _, rfl⟩
  obtain ⟨sb, nb, cb, rfl⟩ : ∃ sa na ca, vb = .slice sa na ca := by rcases hb with ⟨rfl, _⟩ | ⟨_, _, _, rfl, _⟩ <;> exact ⟨_, _, _, rfl⟩
  clear ha hb
  go_enter Tryz.func24, Tryz.ntmps24
  go_wp2
  go_ret
  exact ⟨rfl, rfl⟩

theorem below_drewN {b n : Nat} {w w' : World} (h : Below b w w') : Below b w (w'.drewN n) := ⟨h.os, h.tape, h.output, h.size, h.block⟩

/-- The marks of the n-th list. -/
def marks (n at_ : Nat) : List UInt8 := (List.range at_).map (mk n)
theorem marks_length (n a : Nat) : (marks n a).length = a := by simp [marks]
theorem marks_succ (n a : Nat) : marks n (a + 1) = marks n a ++ [mk n a] := by simp [marks, List.range_succ]
theorem marks_get {n a i : Nat} (h : i < a) : (marks n a).getD i 0 = mk n i := by simp [marks, List.getD, h]

set_option maxRecDepth 100000 in
set_option maxHeartbeats 1600000 in
theorem marked_true (v : Value) (n a : Nat) (w : World) (h : BytesIn w v (marks n a)) (hn : n ≤ 1099511627776) (ha : a ≤ 1099511627776) :
    Calls Tryz.prog 15 #[v, .int .i64 n] w fun e w' => e = .returned (.bool true) ∧ Below w.heap.size w w' := by
  obtain ⟨sa, cap, rfl⟩ : ∃ sa cap, v = .slice sa a cap := by
    rcases h with ⟨rfl, h0⟩ | ⟨bb, off, cap, rfl, _⟩
    · have := congrArg List.length h0
      rw [marks_length] at this
      simp at this; subst this; exact ⟨_, _, rfl⟩
    · rw [marks_length]; exact ⟨_, _, rfl⟩
  have H := hide h
  clear h
  go_enter Tryz.func15, Tryz.ntmps15
  go_wp2
  go_loopw [5] (fun i wr => ∃ k : Nat, k ≤ a ∧ i = .int .i64 k ∧ Below w.heap.size w wr) (fun i _ => a - (intOf i).toNat)
  case atStart => exact ⟨0, Nat.zero_le _, rfl, Below.refl _ _⟩
  case round =>
    obtain ⟨k, hk, rfl, hbel⟩ := hrel
    by_cases hlt : k < a
    · rcases H.out with ⟨_, h0⟩ | ⟨bb, off, cap', he, hbb, hca, hcell⟩
      · have := congrArg List.length h0
        rw [marks_length] at this
        simp at this; omega
      · simp only [Value.slice.injEq] at he
        obtain ⟨rfl, -, rfl⟩ := he
        have hc := hcell k (by rw [marks_length]; exact hlt)
        rw [marks_get hlt] at hc
        have hc' := (hbel.cell (p := ⟨bb, off + k, none⟩) hbb).trans hc
        clear hcell hc H
        go_wp2
        go_quiet ((go_at_call 63; refine Calls.quiet_of_same (markByte_any n k _ (by omega) (by omega))))
        go_wp2
        go_roundw
        case rel => exact ⟨k + 1, by omega, by go_num, below_drewN hbel⟩
        case measure => simp [intOf]; omega
    · go_wp2
      go_ret
      exact ⟨rfl, hbel⟩
end Go.Proofs.YtckeblkadiehbaaGreat
