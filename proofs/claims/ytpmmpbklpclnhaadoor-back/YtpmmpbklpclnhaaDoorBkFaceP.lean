import Derived.Test.YtpmmpbklpclnhaaDoorBkFace
set_option linter.unusedVariables false
set_option linter.unusedSimpArgs false
/-
  Package sluice: Size and Resize of a packer; what is refused.
-/
namespace Go.Proofs.YtpmmpbklpclnhaaDoor
set_option linter.unusedVariables false
set_option linter.unusedSimpArgs false
open Go.RowKit

set_option maxRecDepth 100000 in
set_option maxHeartbeats 400000 in
theorem bPSize_any (pb : Nat) (cs : Array Value) (tP : TypeId) (lim : Nat) (tv : Value) (tab : List HP) (w : World) (h : TbS w pb cs tP lim tv tab) : Calls Tryd.prog 25 #[.pointer (some ⟨pb, 0, none⟩)] w fun e w' => e = .returned (.int .i64 (szT tab : Int)) ∧ w' = w := by
  obtain ⟨-, z1, -⟩ := h.tb.cells
  clear h
  go_enter Tryd.func25, Tryd.ntmps25
  go_wp2
  go_ret
  exact ⟨rfl, rfl⟩
set_option maxRecDepth 100000 in
set_option maxHeartbeats 400000 in
theorem psize_any (pb : Nat) (cs : Array Value) (tP : TypeId) (lim : Nat) (tv : Value) (tab : List HP) (w : World) (h : TbS w pb cs tP lim tv tab) : Calls Tryd.prog 17 #[.pointer (some ⟨pb, 0, none⟩)] w fun e w' => e = .returned (.int .i64 (szT tab : Int)) ∧ w' = w := by
  have H := hide (bPSize_any pb cs tP lim tv tab w h)
  clear h
  go_enter Tryd.func17, Tryd.ntmps17
  go_wp2_with fail
  refine H.out.mono ?_
  rintro e w1 ⟨rfl, hw1⟩
  rw [hw1]
  clear hw1 w1
  go_wp2
  go_ret
  exact ⟨rfl, rfl⟩
/-- What waits, as cells. -/
theorem nCells_get {l : List Nat} {i : Nat} (h : i < l.length) : (nCells l)[i]? = some (.int .i64 (l[i] : Int)) := by
  unfold nCells; simp [h]
theorem rz_end {w : World} {pb : Nat} {cs : Array Value} {tv lv : Value} {lim : Nat} {tab : List HP} {wait ls : List Nat} {k : Nat} {ar : Array Value} (h : PkS w pb cs tv lv ⟨lim, tab, wait⟩) (har : ar = (nCells ls).toArray) (hk : ls.length = k) (hk2 : k ≤ 2) (hok : ∀ x ∈ ls, x ≤ 256) :
    PkS ((w.alloc (.cells ar 3)).setCell ⟨pb, 3, none⟩ (.slice (some ⟨w.heap.size, 0, none⟩) k k)) pb (cs.setIfInBounds 3 (.slice (some ⟨w.heap.size, 0, none⟩) k k)) tv (.slice (some ⟨w.heap.size, 0, none⟩) k k) ⟨lim, tab, ls⟩ ∧ Chg (fun j => j = pb) w ((w.alloc (.cells ar 3)).setCell ⟨pb, 3, none⟩ (.slice (some ⟨w.heap.size, 0, none⟩) k k)) := by
  have hlt := h.st.tb.lt
  have hcA : Chg (fun _ => False) w (w.alloc (.cells ar 3)) := (Chg.refl _ _).alloc _
  have hstA := h.st.chg hcA id (fun _ _ => id)
  have hc : Chg (fun j => j = pb) (w.alloc (.cells ar 3)) ((w.alloc (.cells ar 3)).setCell ⟨pb, 3, none⟩ (.slice (some ⟨w.heap.size, 0, none⟩) k k)) := (Chg.refl (fun j => j = pb) _).setCell (p := ⟨pb, 3, none⟩) (Or.inr rfl) _
  have hln : (nCells ls).length = k := by unfold nCells; simp [hk]
  have hrow : (w.alloc (.cells ar 3)).ownsRow 0 3 1 (.slice (some ⟨w.heap.size, 0, none⟩) k k) ls.length (nCells ls) := by
    have := World.ownsRow_lit (base := 0) (e := 3) (size := 1) w ar k (Nat.zero_le _) (by unfold maxLen; omega) (by rw [har]; simp [hln])
    rw [hk]
    simpa [har] using this
  have htn := owns_ne hstA.row hstA.tb.blk (fun e => hstA.tb.ne e.symm)
  refine ⟨⟨⟨⟨block_setCell (i := 3) hstA.tb.blk, ?_, ?_, ?_, hstA.tb.ne⟩, owns_chg hstA.row hc (fun j hj e => htn (e ▸ hj)), h.st.fit, h.st.small⟩, set_get h.c3, owns_chg hrow hc (fun j hj e => ?_), by show ls.length ≤ 2; omega, hok⟩, ?_⟩
  · rw [set_ne (by omega)]; exact h.st.tb.c0
  · rw [set_ne (by omega)]; exact h.st.tb.c1
  · rw [set_ne (by omega)]; exact h.st.tb.c2
  · simp [Value.ownBlock] at hj; omega
  · exact (hcA.mono fun _ _ e => e.elim).trans (hc.mono fun j _ e => Or.inr e)
set_option maxRecDepth 100000 in
set_option maxHeartbeats 800000 in
theorem bResize_any (pb : Nat) (cs : Array Value) (tv lv : Value) (p : Pk) (n : Nat) (w : World) (h : PkS w pb cs tv lv p) (hn : n ≤ 256) :
    Calls Tryd.prog 19 #[.pointer (some ⟨pb, 0, none⟩), .int .i64 n] w fun e w' => e = .returned (.tuple #[]) ∧ ∃ cs' lv', PkS w' pb cs' tv lv' (p.resize n) ∧ Chg (fun j => j = pb) w w' ∧ ∀ j, lv'.ownBlock = some j → w.heap.size ≤ j := by
  have c3 : w.cell? ⟨pb, 3, none⟩ = some lv := by rw [cell_of_row _ _ _ _ _ _ h.st.tb.blk]; exact h.c3
  have f3 := h.st.tb.free 3
  obtain ⟨lim, tab, wait⟩ := p
  have hrow := h.row
  have hfew := h.few
  have hok := h.ok
  simp only at hrow hfew hok
  have c3a : ∀ o, (w.alloc o).cell? ⟨pb, 3, none⟩ = some lv := fun o => (((Chg.refl (fun _ => False) w).alloc o).cell (p := ⟨pb, 3, none⟩) h.st.tb.lt id).trans c3
  have f3a : ∀ o, (w.alloc o).frozen? ⟨pb, 3, none⟩ = false := fun o => (h.st.tb.chg ((Chg.refl (fun _ => False) w).alloc o) id).free 3
  obtain ⟨sl, cl, hlv⟩ := slice_len hrow
  subst hlv
  have H := hide h
  clear h
  cases wait with
  | nil =>
    clear hrow
    go_enter Tryd.func19, Tryd.ntmps19
    have c3b := c3a (.cells #[.int .i64 (n : Int)] 3)
    have f3b := f3a (.cells #[.int .i64 (n : Int)] 3)
    clear c3a f3a
    go_wp2
    obtain ⟨e1, e2⟩ := rz_end (ls := [n]) (k := 1) (ar := #[.int .i64 (n : Int)]) H.out rfl rfl (by omega) (by simpa using hn)
    have e3 : (Pk.mk lim tab []).resize n = ⟨lim, tab, [n]⟩ := by simp [Pk.resize]
    rw [← e3] at e1
    exact bodyPost_end (results_none rfl _ _ _) rfl ⟨rfl, _, _, e1, e2, fun j hj => by simp [Value.ownBlock] at hj; omega⟩
  | cons x r =>
    have hx : x ≤ 256 := hok x (by simp)
    have hsl : ∃ g, sl = some ⟨g, 0, none⟩ := by
      obtain ⟨_, rs⟩ | ⟨g, cap, cur, e, _⟩ := hrow.2
      · simp at rs
      · simp at e; exact ⟨g, e.1⟩
    obtain ⟨g, rfl⟩ := hsl
    have q0 : w.cell? ⟨g, 0, none⟩ = some (.int .i64 (x : Int)) := by
      rw [hrow.cellAt 0 (by simp)]; rfl
    simp only [List.length_cons] at hfew c3 c3a
    have e3 : (Pk.mk lim tab (x :: r)).resize n = ⟨lim, tab, if x < n then [x, n] else [n]⟩ := by
      unfold Pk.resize
      simp only [Nat.min_def]
      by_cases hxn : x < n
      · rw [if_pos (by omega : x ≤ n), if_pos hxn]
      · by_cases hxe : x ≤ n
        · rw [if_pos hxe]
        · rw [if_neg hxe]; simp [hxn]
    have HE3 := hide e3
    clear hrow hok e3
    by_cases hxn : x < n
    · have c3b := c3a (.cells #[.int .i64 (min (x : Int) (n : Int)), .int .i64 (n : Int)] 3)
      have f3b := f3a (.cells #[.int .i64 (min (x : Int) (n : Int)), .int .i64 (n : Int)] 3)
      clear c3a f3a
      go_enter Tryd.func19, Tryd.ntmps19
      go_wp2
      obtain ⟨e1, e2⟩ := rz_end (ls := [x, n]) (k := 2) (ar := #[.int .i64 (min (x : Int) (n : Int)), .int .i64 (n : Int)]) H.out (by rw [show min (x : Int) (n : Int) = (x : Int) from by omega]; rfl) rfl (by omega) (by simp; omega)
      have e3 := HE3.out
      rw [if_pos hxn] at e3
      rw [← e3] at e1
      exact bodyPost_end (results_none rfl _ _ _) rfl ⟨rfl, _, _, e1, e2, fun j hj => by simp [Value.ownBlock] at hj; omega⟩
    · have c3b := c3a (.cells #[.int .i64 (n : Int)] 3)
      have f3b := f3a (.cells #[.int .i64 (n : Int)] 3)
      clear c3a f3a
      go_enter Tryd.func19, Tryd.ntmps19
      go_wp2
      obtain ⟨e1, e2⟩ := rz_end (ls := [n]) (k := 1) (ar := #[.int .i64 (n : Int)]) H.out rfl rfl (by omega) (by simpa using hn)
      have e3 := HE3.out
      rw [if_neg hxn] at e3
      rw [← e3] at e1
      exact bodyPost_end (results_none rfl _ _ _) rfl ⟨rfl, _, _, e1, e2, fun j hj => by simp [Value.ownBlock] at hj; omega⟩

set_option maxRecDepth 100000 in
set_option maxHeartbeats 800000 in
theorem resize_any (pb : Nat) (cs : Array Value) (tv lv : Value) (p : Pk) (n : Nat) (w : World) (h : PkS w pb cs tv lv p) (hn : n ≤ 256) :
    Calls Tryd.prog 9 #[.pointer (some ⟨pb, 0, none⟩), .int .i64 n] w fun e w' => e = .returned (.int .i64 0) ∧ ∃ cs' lv', PkS w' pb cs' tv lv' (p.resize n) ∧ Chg (fun j => j = pb) w w' ∧ ∀ j, lv'.ownBlock = some j → w.heap.size ≤ j := by
  have hlf := limitFits_any (n : Int) w
  have hlb : limB (n : Int) = true := by simp [limB]; omega
  rw [hlb] at hlf
  have HLF := hide hlf
  have HR := hide (bResize_any pb cs tv lv p n w h hn)
  clear hlf hlb h
  go_enter Tryd.func9, Tryd.ntmps9
  go_wp2_with fail
  refine HLF.out.mono ?_
  rintro e w1 ⟨rfl, hw1⟩
  rw [hw1]
  clear hw1 w1
  go_wp2_with fail
  refine HR.out.mono ?_
  rintro e w1 ⟨rfl, cs1, lv1, h1, h2, h3⟩
  have H1 := hide h1
  have H2 := hide h2
  have H3 := hide h3
  clear h1 h2 h3
  go_wp2
  go_ret
  exact ⟨rfl, cs1, lv1, H1.out, H2.out, H3.out⟩
set_option maxRecDepth 100000 in
set_option maxHeartbeats 400000 in
theorem newPacker_no (n : Int) (w : World) (hn : limB n = false) : Calls Tryd.prog 5 #[.int .i64 n] w fun e w' => e = .returned (.tuple #[.pointer none, .int .i64 1]) ∧ w' = w := by
  have hlf := limitFits_any n w
  rw [hn] at hlf
  have HLF := hide hlf
  clear hlf hn
  go_enter Tryd.func5, Tryd.ntmps5
  go_wp2_with fail
  refine HLF.out.mono ?_
  rintro e w1 ⟨rfl, hw1⟩
  rw [hw1]
  clear hw1 w1
  go_wp2
  refine bodyPost_ret (v := .tuple #[.pointer none, .int .i64 1]) ?_ rfl ⟨rfl, rfl⟩
  simp [results, Tryd.results5, go_sem]
set_option maxRecDepth 100000 in
set_option maxHeartbeats 400000 in
theorem resize_no (pb : Nat) (n : Int) (w : World) (hn : limB n = false) : Calls Tryd.prog 9 #[.pointer (some ⟨pb, 0, none⟩), .int .i64 n] w fun e w' => e = .returned (.int .i64 1) ∧ w' = w := by
  have hlf := limitFits_any n w
  rw [hn] at hlf
  have HLF := hide hlf
  clear hlf hn
  go_enter Tryd.func9, Tryd.ntmps9
  go_wp2_with fail
  refine HLF.out.mono ?_
  rintro e w1 ⟨rfl, hw1⟩
  rw [hw1]
  clear hw1 w1
  go_wp2
  go_ret
  exact ⟨rfl, rfl⟩
end Go.Proofs.YtpmmpbklpclnhaaDoor
