import Derived.Test.YtiphkngfbpdeoaaGreatDoorVGan
import Derived.Test.YtiphkngfbpdeoaaGreatDoorVGar
import Derived.Test.YtiphkngfbpdeoaaGreatDoorVGam
import Derived.Test.YtiphkngfbpdeoaaGreatDoorVGau
namespace Go.Proofs.YtiphkngfbpdeoaaGreatDoor
set_option linter.unusedVariables false
set_option linter.unusedSimpArgs false
open Go.RowKit
set_option maxRecDepth 100000 in
set_option maxHeartbeats 800000 in
theorem eFeed_deadL (eb : Nat) (m : EndM) (bv : Value) (l : List UInt8) (w : World) (h : EnB w eb m) (hd : m.fault ≠ 0) (hb : BytesIn w bv l) (hl : l.length ≤ 4611686018427387904) :
    Calls Tryz.prog 26 #[.pointer (some ⟨eb, 0, none⟩), bv] w fun e w' => e = .returned (.tuple #[]) ∧ w' = w := by
  have hdd := isDead_any eb m w h
  rw [show (!(m.fault == 0)) = true from by simp [hd]] at hdd
  have HD := hide hdd
  obtain ⟨sv, cv, hv, -⟩ := bytesIn_len hb
  subst hv
  cases l with
  | nil =>
    clear h hdd
    go_enter Tryz.func26, Tryz.ntmps26
    go_wp2
    refine wp_loop_rounds 1 ?_
    rw [rounds_succ]
    go_wp2
    exact bodyPost_end (results_none rfl _ _ _) rfl ⟨rfl, rfl⟩
  | cons c r =>
    rcases hb with ⟨-, h0⟩ | ⟨bb, off, cap, h1, h2, h3, h4⟩
    · cases h0
    · simp only [Value.slice.injEq, true_and] at h1
      obtain ⟨rfl, rfl⟩ := h1
      have hcell := h4 0 (by simp)
      rw [Nat.add_zero] at hcell
      have hn0 : (0 : Int) < ((c :: r).length : Int) := by simp
      generalize (c :: r).getD 0 0 = cc at *
      generalize (c :: r).length = LL at *
      clear h hdd h4
      go_enter Tryz.func26, Tryz.ntmps26
      go_wp2
      refine wp_loop_rounds 1 ?_
      rw [rounds_succ]
      go_wp2_with fail
      refine HD.out.mono ?_
      rintro e w' ⟨rfl, hw'⟩
      rw [hw']
      clear hw' w'
      go_wp2
      refine bodyPost_ret (v := .tuple #[]) ?_ rfl ⟨rfl, rfl⟩
      simp [results, Tryz.results26, go_sem]
set_option maxRecDepth 100000 in
set_option maxHeartbeats 1200000 in
theorem i_feedFL (eb mb : Nat) (g q : GEnd) (bv : Value) (l : List UInt8) (code : Int) (w : World) (h : Inv w eb mb g) (hr : RdOk g) (hf : FeedF g.bare l code q) (hL : q.L.length ≤ 1048576) (hgl : Gl w) (hge : ∀ j, j < 7 → ¬ Foot eb mb g j) (hb : BytesIn w bv l) (hbn : ∀ j, bv.ownBlock = some j → ¬ Foot eb mb g j) (hl : l.length ≤ 4611686018427387904) :
    Calls Tryz.prog 26 #[.pointer (some ⟨eb, 0, none⟩), bv] w fun e w' => e = .panicked (faultP code) ∧ Dies w w' eb mb g q code := by
  obtain ⟨sv, cv, hv, -⟩ := bytesIn_len hb
  subst hv
  have H := hide h
  have HR := hide hr
  have HF := hide hf
  have HGL := hide hgl
  have HGE := hide hge
  have HB := hide hb
  have HBN := hide hbn
  clear h hr hf hgl hge hb hbn
  go_enter Tryz.func26, Tryz.ntmps26
  go_wp2
  go_loopw [8] (fun i wr => ∃ (k : Nat) (wv : World) (c : GEnd), wv = wr ∧ i = .int .i64 (k : Int) ∧ k ≤ l.length ∧ Next w wv eb mb g c ∧ RdOk c ∧ FeedF c.bare (l.drop k) code q) (fun i _ => l.length - (intOf i).toNat)
  case atStart => exact ⟨0, _, g, rfl, rfl, Nat.zero_le _, Next.refl H.out, HR.out, HF.out⟩
  case round =>
    obtain ⟨k, wv, c, hwv, rfl, hk, hnx, hrd, hfe⟩ := hrel
    subst hwv
    have hlk : k < l.length := by
      rcases Nat.lt_or_ge k l.length with a | a
      · exact a
      · rw [List.drop_of_length_le a] at hfe
        cases hfe using FeedF.ind
    rw [drop_cons hlk] at hfe
    have hfa : c.bare.m.fault = 0 := by cases hfe using FeedF.ind <;> assumption
    obtain ⟨hbyt, hnf⟩ := hnx.bytes HB.out HBN.out
    have hgl1 := HGL.out.chg hnx.chg HGE.out
    have hge1 : ∀ j, j < 7 → ¬ Foot eb mb c j := fun j hj hf => by
      rcases hnx.grow j hf with a | a
      · exact HGE.out j hj a
      · have := HGL.out.lt; omega
    have hi : Calls Tryz.prog 47 #[.pointer (some ⟨eb, 0, none⟩), .int .u8 (l.getD k 0).toNat] wv fun e w' => (e = .returned (.tuple #[]) ∧ ∃ c1, Next w w' eb mb g c1 ∧ RdOk c1 ∧ FeedF c1.bare (l.drop (k + 1)) code q) ∨ (e = .panicked [{ v := .iface 36 (.int .i64 code), recovered := false }] ∧ Dies w w' eb mb g q code) := by
      cases hfe using FeedF.ind with
      | fault hf hby =>
        refine (i_byteF eb mb c (l.getD k 0) code wv hnx.inv hrd hby hL hgl1 hge1).mono ?_
        rintro e w' ⟨rfl, hd⟩
        exact Or.inr ⟨rfl, hd.pre hnx⟩
      | step hf hby hfr =>
        refine (i_byte eb mb c c.bare _ (l.getD k 0) wv hnx.inv hrd rfl hby hgl1 hge1).mono ?_
        rintro e w' ⟨rfl, c1, hc1, hr1, hn1⟩
        exact Or.inl ⟨rfl, c1, hnx.trans hn1, hr1, by rw [hc1]; exact hfr⟩
    have hd := isDead_any eb c.m wv hnx.inv.en
    have hfa' : c.m.fault = 0 := hfa
    rw [show (!(c.m.fault == 0)) = false from by rw [hfa']; rfl] at hd
    rcases hbyt with ⟨-, h0⟩ | ⟨bb, off, cap, h1, h2, h3, h4⟩
    · rw [h0] at hlk; simp at hlk
    · simp only [Value.slice.injEq] at h1
      obtain ⟨rfl, _, rfl⟩ := h1
      have hcell := h4 k hlk
      have HI := hide hi
      have HD := hide hd
      generalize l.getD k 0 = cc at *
      clear hi hd hnx hfe hrd hgl1 hge1 h4 hfa hfa' hnf
      go_wp2_with fail
      refine HD.out.mono ?_
      rintro e w' ⟨rfl, hw'⟩
      rw [hw']
      clear hw' w'
      go_wp2_with fail
      refine HI.out.mono ?_
      rintro e w1 (⟨rfl, hx⟩ | ⟨rfl, hx⟩)
      · obtain ⟨c1, hn1, hr1, hfr⟩ := hx
        have HR1 := hide hr1
        have HN1 := hide hn1
        have HFR := hide hfr
        clear hr1 hn1 hfr
        go_wp2
        all_goals go_roundw
        case rel => exact ⟨k + 1, _, c1, rfl, by go_num, by omega, HN1.out, HR1.out, HFR.out⟩
        case measure => simp [intOf]; omega
      · have HX := hide hx
        clear hx
        go_wp2
        exact ⟨rfl, rfl, HX.out⟩
set_option maxRecDepth 100000 in
set_option maxHeartbeats 1200000 in
theorem x_feedFL (eb mb : Nat) (g q : GEnd) (bv : Value) (l : List UInt8) (code : Int) (w : World) (h : Inv w eb mb g) (hr : RdOk g) (hf : FeedF g.bare l code q) (hL : q.L.length ≤ 1048576) (hgl : Gl w) (hge : ∀ j, j < 7 → ¬ Foot eb mb g j) (hb : BytesIn w bv l) (hbn : ∀ j, bv.ownBlock = some j → ¬ Foot eb mb g j) (hl : l.length ≤ 4611686018427387904) :
    Calls Tryz.prog 8 #[.pointer (some ⟨eb, 0, none⟩), bv] w fun e w' => e = .returned (.int .i64 code) ∧ ∃ g', g'.bare = q ∧ RdOk g' ∧ Next w w' eb mb g g' := by
  have hmf : ∀ (fn : Fn) (first cap : Array Value) (w : World), (Instr.makeFunc fn first cap).run Tryz.prog w = .ok (.func fn first cap) w := fun _ _ _ _ => rfl
  obtain ⟨wA, hwA⟩ : ∃ wA, wA = (w.alloc (.cells #[.pointer (some ⟨eb, 0, none⟩)] 29)).alloc (.cells #[.int .i64 0] 36) := ⟨_, rfl⟩
  have hbA : Below w.heap.size w wA := by rw [hwA]; exact ((Below.refl _ _).alloc (Nat.le_refl _) _).alloc (by simp) _
  have hbx : wA.heap[w.heap.size]? = some (.cells #[.pointer (some ⟨eb, 0, none⟩)] 29 (0, 0)) := by
    rw [hwA, heap_alloc_old _ _ (by simp)]
    exact heap_alloc_new w _
  have hfc : wA.heap[w.heap.size + 1]? = some (.cells #[.int .i64 0] 36 (0, 0)) := by
    have := heap_alloc_new (w.alloc (.cells #[.pointer (some ⟨eb, 0, none⟩)] 29)) (.cells #[.int .i64 0] 36)
    rw [hwA]
    simpa using this
  have hA := h.below hbA
  have HFE := hide (i_feedFL eb mb g q bv l code wA hA hr hf hL (hgl.below hbA) hge (hb.chg (Chg.of_below (S := fun _ => False) hbA) (fun _ _ => id)) hbn hl)
  have hnf : ∀ j, w.heap.size ≤ j → ¬ Foot eb mb g j := fun j hj hf => by have := Foot.lt h hf; omega
  have hlA : w.heap.size + 1 < wA.heap.size := lt_of_block hfc
  have HMID : Hid (∀ w1, Dies wA w1 eb mb g q code → CallsD Tryz.prog 23 #[.pointer (some ⟨w.heap.size + 1, 0, none⟩), .pointer (some ⟨w.heap.size, 0, none⟩)] (.panicking [{ v := .iface 36 (.int .i64 code), recovered := false }]) w1 fun e u' w' => e = .returned (.tuple #[]) ∧ u' = .panicking [{ v := .iface 36 (.int .i64 code), recovered := true }] ∧ (w'.cell? ⟨w.heap.size, 0, none⟩ = some (.pointer (some ⟨eb, 0, none⟩)) ∧ w'.cell? ⟨w.heap.size + 1, 0, none⟩ = some (.int .i64 code)) ∧ ∃ g', g'.bare = q ∧ RdOk g' ∧ Next w w' eb mb g g') := fun w1 hd => by
    obtain ⟨g1, wI, m0, e, hg⟩ := hd
    have hnf1 : ∀ j, w.heap.size ≤ j → j < wA.heap.size → ¬ Foot eb mb g1 j := fun j h1 h2 hf => by
      rcases hg.nx.grow j hf with a | a
      · exact hnf j h1 a
      · omega
    have hkeep : ∀ j, w.heap.size ≤ j → j < wA.heap.size → w1.heap[j]? = wA.heap[j]? := fun j h1 h2 => by
      rw [hg.chg.block j (Nat.lt_of_lt_of_le h2 hg.nx.chg.size) (fun a => ?_), hg.nx.chg.block j h2 (hnf j h1)]
      rcases a with a | a | a
      · exact hnf1 j h1 h2 (Or.inl a)
      · exact hnf1 j h1 h2 (Or.inr (Or.inr (Or.inr (Or.inl a))))
      · omega
    have e1 : w1.heap[w.heap.size]? = some (.cells #[.pointer (some ⟨eb, 0, none⟩)] 29 (0, 0)) := by rw [hkeep _ (Nat.le_refl _) (by omega)]; exact hbx
    have e2 : w1.heap[w.heap.size + 1]? = some (.cells #[.int .i64 0] 36 (0, 0)) := by rw [hkeep _ (by omega) hlA]; exact hfc
    have hcs0 : Chg (fun j => j = w.heap.size + 1) w1 (w1.setCell ⟨w.heap.size + 1, 0, none⟩ (.int .i64 code)) := chg_set (Chg.refl _ _) rfl
    have hcs : Chg (fun j => j = w.heap.size + 1) w1 (w1.setCell ⟨w.heap.size + 1, 0, none⟩ (.int .i64 code)).drew := hcs0.drew
    have hfa := hnf1 (w.heap.size + 1) (by omega) hlA
    have hra := hnf1 w.heap.size (Nat.le_refl _) (by omega)
    have hg2 : GaveE w (w1.setCell ⟨w.heap.size + 1, 0, none⟩ (.int .i64 code)).drew eb mb g g1 wI m0 code := by
      refine ⟨hg.nx.pre hbA, hg.en.chg hcs (fun a => hfa (Or.inl a.symm)), hg.same, ?_, hg.few⟩
      refine (hg.chg.mono fun j _ a => ?_).trans (hcs.mono fun j _ a => Or.inr ?_)
      · rcases a with a | a | a
        · exact Or.inl a
        · exact Or.inr (Or.inl a)
        · exact Or.inr (Or.inr ⟨by omega, a.2⟩)
      · subst a
        exact Or.inr (Or.inr ⟨by omega, hfa⟩)
    have hb3 : (w1.setCell ⟨w.heap.size + 1, 0, none⟩ (.int .i64 code)).drew.heap[w.heap.size + 1]? = some (.cells #[.int .i64 code] 36 (0, 0)) := by
      show (w1.setCell ⟨w.heap.size + 1, 0, none⟩ (.int .i64 code)).heap[w.heap.size + 1]? = _
      rw [blk_set e2]
      rfl
    have hb4 : (w1.setCell ⟨w.heap.size + 1, 0, none⟩ (.int .i64 code)).drew.heap[w.heap.size]? = some (.cells #[.pointer (some ⟨eb, 0, none⟩)] 29 (0, 0)) := by
      rw [hcs.block _ (lt_of_block e1) (by omega)]
      exact e1
    refine (xclos_panic (w.heap.size + 1) w.heap.size eb code [] w1 (fun w' => (w'.cell? ⟨w.heap.size, 0, none⟩ = some (.pointer (some ⟨eb, 0, none⟩)) ∧ w'.cell? ⟨w.heap.size + 1, 0, none⟩ = some (.int .i64 code)) ∧ ∃ g', g'.bare = q ∧ RdOk g' ∧ Next w w' eb mb g g') e2 e1 (by omega) ?_ (fun w' h => h.1)).mono (fun e u' w' h => h)
    refine (eDie_any w eb mb g g1 wI m0 code _ hg2).mono ?_
    rintro e' w' ⟨rfl, ⟨g', q1, q2, q3⟩, hc⟩
    rw [e] at q1
    refine ⟨rfl, ⟨?_, ?_⟩, g', q1, q2, q3⟩
    · exact cell_of_one (by rw [hc.block _ (lt_of_block hb4) hra]; exact hb4)
    · exact cell_of_one (by rw [hc.block _ (lt_of_block hb3) hfa]; exact hb3)
  have HWA := hide hwA
  have hlt := h.en.lt
  obtain ⟨sv, cv, hv, -⟩ := bytesIn_len hb
  subst hv
  clear h hr hf hL hgl hge hb hbn hbA hfc hA hnf
  have k0 : wA.cell? ⟨w.heap.size, 0, none⟩ = some (.pointer (some ⟨eb, 0, none⟩)) := cell_of_one hbx
  clear hbx
  go_enter_defers Tryz.func8, Tryz.ntmps8
  go_wp2_with fail
  rw [← HWA.out]
  clear hwA
  refine HFE.out.mono ?_
  rintro e w1 ⟨rfl, hd⟩
  have HC := hide (HMID.out w1 hd)
  clear hd HMID HFE
  unfold faultP
  refine leaves_cons (f := 23) (args := #[.pointer (some ⟨w.heap.size + 1, 0, none⟩), .pointer (some ⟨w.heap.size, 0, none⟩)]) (by simp) (by simp [go_sem]) ?_
  refine HC.out.mono ?_
  rintro e u' w'' ⟨rfl, rfl, hk, hx⟩
  have hk2 := hk.2
  refine ⟨.int .i64 code, ?_, ?_⟩
  · simp [results, Tryz.results8, go_sem, hk2]
  · exact ⟨rfl, hx⟩
set_option maxRecDepth 100000 in
set_option maxHeartbeats 1200000 in
theorem xFeed_deadL (eb : Nat) (m : EndM) (bv : Value) (l : List UInt8) (w : World) (h : EnB w eb m) (hd : m.fault ≠ 0) (hb : BytesIn w bv l) (hl : l.length ≤ 4611686018427387904) :
    Calls Tryz.prog 8 #[.pointer (some ⟨eb, 0, none⟩), bv] w fun e w' => e = .returned (.int .i64 m.fault) ∧ Below w.heap.size w w' := by
  have hmf : ∀ (fn : Fn) (first cap : Array Value) (w : World), (Instr.makeFunc fn first cap).run Tryz.prog w = .ok (.func fn first cap) w := fun _ _ _ _ => rfl
  obtain ⟨wA, hwA⟩ : ∃ wA, wA = (w.alloc (.cells #[.pointer (some ⟨eb, 0, none⟩)] 29)).alloc (.cells #[.int .i64 0] 36) := ⟨_, rfl⟩
  have hbA : Below w.heap.size w wA := by rw [hwA]; exact ((Below.refl _ _).alloc (Nat.le_refl _) _).alloc (by simp) _
  have hbx : wA.heap[w.heap.size]? = some (.cells #[.pointer (some ⟨eb, 0, none⟩)] 29 (0, 0)) := by
    rw [hwA, heap_alloc_old _ _ (by simp)]
    exact heap_alloc_new w _
  have hfc : wA.heap[w.heap.size + 1]? = some (.cells #[.int .i64 0] 36 (0, 0)) := by
    have := heap_alloc_new (w.alloc (.cells #[.pointer (some ⟨eb, 0, none⟩)] 29)) (.cells #[.int .i64 0] 36)
    rw [hwA]
    simpa using this
  have hA := h.below hbA
  have HFE := hide (eFeed_deadL eb m bv l wA hA hd (hb.chg (Chg.of_below (S := fun _ => False) hbA) (fun _ _ => id)) hl)
  have HEF := hide (eFault_any eb m wA hA)
  have k0 := cell_of_one hbx
  have k1 := cell_of_one hfc
  have f1 := free_of_one hfc
  have hlA : w.heap.size + 1 < wA.heap.size := lt_of_block hfc
  have HSAME : Hid (∀ v, (wA.setCell ⟨w.heap.size + 1, 0, none⟩ v).cell? ⟨w.heap.size + 1, 0, none⟩ = some v) := fun v => cell_of_one (show (wA.setCell ⟨w.heap.size + 1, 0, none⟩ v).heap[w.heap.size + 1]? = some (.cells #[v] 36 (0, 0)) from blk_set hfc)
  have HEND : Hid (∀ v, Below w.heap.size w (wA.setCell ⟨w.heap.size + 1, 0, none⟩ v)) := fun v => below_of_chg (S := fun j => j = w.heap.size + 1) hbA (chg_set (Chg.refl _ _) rfl) (fun j hj => by omega)
  have HWA := hide hwA
  have hlt := h.lt
  obtain ⟨sv, cv, hv, -⟩ := bytesIn_len hb
  subst hv
  clear h hd hb hl hbA hbx hfc hA
  go_enter_defers Tryz.func8, Tryz.ntmps8
  go_wp2_with fail
  rw [← HWA.out]
  clear hwA
  refine HFE.out.mono ?_
  rintro e w1 ⟨rfl, hw1⟩
  rw [hw1]
  clear hw1 w1
  go_wp2_with fail
  refine HEF.out.mono ?_
  rintro e w' ⟨rfl, hw'⟩
  rw [hw']
  clear hw' w'
  go_wp2
  refine leaves_cons (f := 23) (args := #[.pointer (some ⟨w.heap.size + 1, 0, none⟩), .pointer (some ⟨w.heap.size, 0, none⟩)]) (by simp) (by simp [go_sem]) ?_
  refine (xclos_idle (w.heap.size + 1) w.heap.size _).mono ?_
  rintro e u' w'' ⟨rfl, rfl, rfl⟩
  refine ⟨.int .i64 m.fault, ?_, ?_⟩
  · have hs := HSAME.out (.int .i64 m.fault)
    simp [results, Tryz.results8, go_sem, hs]
  · exact ⟨rfl, HEND.out _⟩
section
variable {w w' : World} {eb : Nat} {F : Nat → Prop} {p q : GEnd}
theorem d_feedL {bv : Value} {l : List UInt8} (h : StE w eb F p) (hd : p.m.fault ≠ 0) (hb : BytesIn w bv l) (hl : l.length ≤ 4611686018427387904) : Calls Tryz.prog 8 #[.pointer (some ⟨eb, 0, none⟩), bv] w fun e w' => e = .returned (.int .i64 p.m.fault) ∧ Below w.heap.size w w' := by
  obtain ⟨mb, g, hi, hrd, hp, hF⟩ := h
  have e : g.m.fault = p.m.fault := by rw [← hp]; rfl
  have := xFeed_deadL eb g.m bv l w hi.en (by rw [e]; exact hd) hb hl
  rw [e] at this
  exact this
end
end Go.Proofs.YtiphkngfbpdeoaaGreatDoor
