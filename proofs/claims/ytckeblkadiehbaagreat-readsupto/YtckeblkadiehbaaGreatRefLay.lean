/-
  sluiceref: bytesOf, Lay, Write.
-/
import Derived.Test.YtckeblkadiehbaaGreatRefWrite
namespace Go.Proofs.YtckeblkadiehbaaGreat
open Go.RowKit

theorem owns_row {w : World} {b g : Nat} {xs : List Value} (h : w.heap[g]? = some (.cells xs.toArray 5 (0, 0))) (hm : xs.length ≤ maxLen) (hb : b ≤ g) : w.ownsRow b 5 1 (.slice (some ⟨g, 0, none⟩) xs.length xs.length) xs.length xs :=
  ⟨by simp, Or.inr ⟨g, xs.length, _, rfl, hb, h, Nat.le_refl _, hm, by simp, by simp⟩⟩

set_option maxRecDepth 100000 in
set_option maxHeartbeats 1600000 in
theorem bytesOf_two (v : Int) (w : World) (h0 : 0 ≤ v) (h1 : v ≤ 65535) :
    Calls Tryz.prog 117 #[.int .i64 v, .int .i64 2] w fun e w' => e = .returned (.slice (some ⟨w.heap.size, 0, none⟩) 2 2) ∧ w'.ownsRow w.heap.size 5 1 (.slice (some ⟨w.heap.size, 0, none⟩) 2 2) 2 [.int .u8 (v / 256), .int .u8 (v % 256)] ∧ Below w.heap.size w w' := by
  obtain ⟨i0, hi, hz0, hz1, hz2⟩ := info_parts Tryz.info5
  go_enter Tryz.func117, Tryz.ntmps117
  go_wp2_with (at_make; refine wpList_make_full _ rfl _ _ 54 rfl w.heap.size 5 i0 (.int .u8 0) 1 Tryz.underlying54 hi hz0 hz1 _ _ _ _ 2 rfl rfl ?m1 ?m2 ?m3 ?m4 ?m5 ?_)
  case m1 => rfl
  case m2 => rfl
  case m3 => rw [hz2]; omega
  case m4 => unfold maxLen; omega
  case m5 => simp
  intro w1 hown1 hg1
  have hbel1 : Below w.heap.size w w1 := (Below.refl _ _).grown hg1 (Nat.le_refl _) (fun k h => by cases h)
  have hh := made_list hown1
  clear hown1 hg1
  go_wp2
  go_loopw [0, 6] (fun x i wr => Below w.heap.size w wr ∧ ((x = .int .i64 v ∧ i = .int .i64 1 ∧ wr.heap[w.heap.size]? = some (.cells [Value.int .u8 0, .int .u8 0].toArray 5 (0, 0))) ∨
      (x = .int .i64 (v / 256) ∧ i = .int .i64 0 ∧ wr.heap[w.heap.size]? = some (.cells [Value.int .u8 0, .int .u8 (v % 256)].toArray 5 (0, 0))) ∨
      (i = .int .i64 (-1) ∧ wr.heap[w.heap.size]? = some (.cells [Value.int .u8 (v / 256), .int .u8 (v % 256)].toArray 5 (0, 0))))) (fun _ i _ => (intOf i + 1).toNat)
  case atStart => exact ⟨hbel1, Or.inl ⟨rfl, rfl, hh⟩⟩
  case round =>
    obtain ⟨hbel, ⟨rfl, rfl, hrow⟩ | ⟨rfl, rfl, hrow⟩ | ⟨rfl, hrow⟩⟩ := hrel
    · have hc : wr.cell? ⟨w.heap.size, 1, none⟩ = some (.int .u8 0) := by rw [row_cell hrow]; rfl
      have hfz := row_free (i := 1) hrow
      have HR := hide (row_set (i := 1) (u := .int .u8 (v % 256)) hrow)
      clear hrow
      go_wp2
      go_roundw
      case rel => exact ⟨hbel.setCell (Nat.le_refl _) _, Or.inr (Or.inl ⟨rfl, rfl, HR.out⟩)⟩
      case measure => simp [intOf]
    · have hc : wr.cell? ⟨w.heap.size, 0, none⟩ = some (.int .u8 0) := by rw [row_cell hrow]; rfl
      have hfz := row_free (i := 0) hrow
      have hv : v / 256 % 256 = v / 256 := by omega
      have HR := hide (row_set (i := 0) (u := .int .u8 (v / 256)) hrow)
      clear hrow
      go_wp2
      go_roundw
      case rel => exact ⟨hbel.setCell (Nat.le_refl _) _, Or.inr (Or.inr ⟨rfl, HR.out⟩)⟩
      case measure => simp [intOf]
    · have HR := hide (owns_row (b := w.heap.size) hrow (by unfold maxLen; simp) (Nat.le_refl _))
      clear hrow
      go_wp2
      go_ret
      exact ⟨rfl, HR.out, hbel⟩

theorem lies_of_bytesA {w : World} {x : Value} {l : List UInt8} (h : BytesA w x l) : Lies w x l.length (l.map B) := by
  rcases h with h | ⟨ad, rfl, rfl⟩
  · exact lies_of_bytesIn h
  · exact Or.inr ⟨_, _, rfl, fun j u hu => by simp at hu⟩

theorem lies_owned {w : World} {b e s n : Nat} {v : Value} {xs : List Value} (h : w.ownsRow b e s v n xs) : Lies w v n xs := by
  rcases h.2 with ⟨rfl, h0⟩ | ⟨g, cap, cur, rfl, _, hgg, _⟩
  · have hx : xs = [] := List.eq_nil_of_length_eq_zero (by rw [h.1, h0]; simp)
    exact Or.inl ⟨rfl, h0, hx⟩
  · exact Or.inr ⟨_, _, rfl, h.cells (g := g) rfl⟩

theorem app_keep {w w1 w2 : World} {base e size n n' : Nat} {v v' : Value} {xs ys : List Value} (hbel : Below base w w1) (hsz : base ≤ w1.heap.size) (hown : w1.ownsRow base e size v n xs) (hown2 : w2.ownsRow 0 e size v' n' ys) (hg : w1.grownBy w2 v.ownBlock)
    (hfr : v'.ownBlock = v.ownBlock ∨ v'.ownBlock = some w1.heap.size) : w2.ownsRow base e size v' n' ys ∧ Below base w w2 :=
  ⟨owns_base hown2 (fun j hj => by
    rcases hfr with e | e
    · rw [e] at hj; exact (hown.lt j hj).1
    · rw [e] at hj; simp at hj; omega), hbel.grown hg hsz (fun j hj => (hown.lt j hj).1)⟩
theorem kept_block {w1 w2 : World} {base e size n b t : Nat} {v : Value} {xs : List Value} {cs : Array Value} {fr : Nat × Nat} (hown : w1.ownsRow base e size v n xs) (hg : w1.grownBy w2 v.ownBlock) (hb : w1.heap[b]? = some (.cells cs t fr)) (hne : e ≠ t) : w2.heap[b]? = some (.cells cs t fr) := by
  rw [hg.block b (lt_of_block hb) (fun e => owns_ne hown hb hne e.symm)]; exact hb
theorem alloc_block {w : World} {b t : Nat} {cs : Array Value} {fr : Nat × Nat} (hb : w.heap[b]? = some (.cells cs t fr)) (o : Obj) : (w.alloc o).heap[b]? = some (.cells cs t fr) := by
  rw [Below.heap_alloc _ _ _ (lt_of_block hb)]; exact hb

theorem one_alloc (w : World) (u : Value) (t : TypeId) : (w.alloc (.cells #[u] t)).cell? ⟨w.heap.size, 0, none⟩ = some u := by
  rw [cell_of_row _ _ _ _ _ _ (heap_alloc_new w _)]; rfl

set_option maxRecDepth 100000 in
set_option maxHeartbeats 3200000 in
theorem rLay_any (k f s : Int) (sa : Option Addr) (body : List UInt8) (cap : Nat) (w : World) (hk0 : 0 ≤ k) (hk1 : k ≤ 255) (hf0 : 0 ≤ f) (hf1 : f ≤ 255) (hs0 : 0 ≤ s) (hs1 : s ≤ 32767) (hn : body.length ≤ 64) (hb : BytesA w (.slice sa body.length cap) body) :
    Calls Tryz.prog 67 #[.agg #[.int .i64 k, .int .i64 f, .int .i64 s, .slice sa body.length cap]] w fun e w' => ∃ v, e = .returned v ∧ w'.ownsRow w.heap.size 5 1 v (lay k f s body).length ((lay k f s body).map B) ∧ Below w.heap.size w w' := by
  obtain ⟨i0, hi, hz0, hz1, hz2⟩ := info_parts Tryz.info5
  have HB := hide hb
  clear hb
  go_enter Tryz.func67, Tryz.ntmps67
  go_wp2_with fail
  refine (bytesOf_two _ _ (by omega) (by omega)).mono ?_
  rintro e w1 ⟨rfl, hown1, hb1⟩
  simp only [World.size_alloc] at hown1 ⊢
  have hfb : w1.heap[w.heap.size]? = some (.cells #[.int .i64 k, .int .i64 f, .int .i64 s, .slice sa body.length cap] 56 (0, 0)) := by
    rw [hb1.block w.heap.size (by simp)]; exact heap_alloc_new w _
  have hbel1 : Below w.heap.size w w1 := ((Below.refl _ _).alloc (Nat.le_refl _) _).trans (hb1.mono (by simp))
  have hown1' := owns_base hown1 (base' := w.heap.size) (fun j hj => by have := (hown1.lt j hj).1; omega)
  have hsz1 := lt_of_block hfb
  obtain ⟨z0, z1, z2, z3, -⟩ := frame_block hfb
  clear hb1 hown1
  go_wp2_with (at_builtin; refine wpList_app _ rfl (.tmp 9) (.tmp 13) 54 rfl 5 i0 (.int .u8 0) 1 1 Tryz.underlying54 hi hz0 hz1 hz2 rfl (by decide) _ _ _ rfl ((owns_base hown1' (fun _ _ => Nat.zero_le _)).alloc _) (.slice (some ⟨w1.heap.size, 0, none⟩) 1 1) 1 [.int .u8 k] rfl rfl (lies_one (one_alloc _ _ _)) ?c1 ?c2 ?c3 ?_)
  case c1 => intro u hu; simp at hu; subst hu; rfl
  case c2 => unfold maxLen; omega
  case c3 => omega
  intro v2 w2 hown2 hg2 hfr2
  obtain ⟨hown2', hbel2⟩ := app_keep (hbel1.alloc (by omega) _) (by simp; omega) (hown1'.alloc _) hown2 hg2 (by simpa using hfr2)
  have hfb2 := kept_block (hown1'.alloc _) hg2 (alloc_block hfb _) (by decide)
  obtain ⟨y0, y1, y2, y3, -⟩ := frame_block hfb2
  have hsz2 := lt_of_block hfb2
  clear z0 z1 z2 z3 hg2 hfr2 hown2 hown1' hfb hbel1 hsz1
  go_wp2_with (at_builtin; refine wpList_app _ rfl (.tmp 15) (.tmp 19) 54 rfl 5 i0 (.int .u8 0) 1 1 Tryz.underlying54 hi hz0 hz1 hz2 rfl (by decide) _ _ _ rfl ((owns_base hown2' (fun _ _ => Nat.zero_le _)).alloc _) (.slice (some ⟨w2.heap.size, 0, none⟩) 1 1) 1 [.int .u8 f] rfl rfl (lies_one (one_alloc _ _ _)) ?d1 ?d2 ?d3 ?_)
  case d1 => intro u hu; simp at hu; subst hu; rfl
  case d2 => unfold maxLen; omega
  case d3 => omega
  intro v3 w3 hown3 hg3 hfr3
  obtain ⟨hown3', hbel3⟩ := app_keep (hbel2.alloc (by omega) _) (by simp; omega) (hown2'.alloc _) hown3 hg3 (by simpa using hfr3)
  have hfb3 := kept_block (hown2'.alloc _) hg3 (alloc_block hfb2 _) (by decide)
  obtain ⟨x0, x1, x2, x3, -⟩ := frame_block hfb3
  have hsz3 := lt_of_block hfb3
  clear y0 y1 y2 y3 hg3 hfr3 hown3 hown2' hfb2 hbel2 hsz2
  go_wp2_with fail
  refine (bytesOf_two _ _ (by omega) (by omega)).mono ?_
  rintro e w4 ⟨rfl, hown4, hb4⟩
  have hbel4 : Below w.heap.size w w4 := hbel3.trans (hb4.mono (by omega))
  have hown3k := owns_chg hown3' (Chg.of_below (S := fun _ => False) hb4) (fun _ _ => id)
  have hfb4 : w4.heap[w.heap.size]? = some (.cells #[.int .i64 k, .int .i64 f, .int .i64 s, .slice sa body.length cap] 56 (0, 0)) := by
    rw [hb4.block w.heap.size hsz3]; exact hfb3
  have hsz4 := lt_of_block hfb4
  obtain ⟨u0, u1, u2, u3, -⟩ := frame_block hfb4
  have hlies4 := lies_owned hown4
  have HL4 := hide hlies4
  clear hlies4 hown4 hb4 x0 x1 x2 x3 hfb3 hown3' hbel3
  go_wp2_with (at_builtin; refine wpList_app _ rfl (.tmp 24) (.tmp 25) 54 rfl 5 i0 (.int .u8 0) 1 1 Tryz.underlying54 hi hz0 hz1 hz2 rfl (by decide) _ _ _ rfl (owns_base hown3k (fun _ _ => Nat.zero_le _)) (.slice (some ⟨w3.heap.size, 0, none⟩) 2 2) 2 [.int .u8 (s / 256), .int .u8 (s % 256)] rfl rfl HL4.out ?e1 ?e2 ?e3 ?_)
  case e1 =>
    intro u hu; simp at hu
    rcases hu with rfl | rfl <;> rfl
  case e2 => unfold maxLen; omega
  case e3 => omega
  intro v5 w5 hown5 hg5 hfr5
  obtain ⟨hown5', hbel5⟩ := app_keep hbel4 (by omega) hown3k hown5 hg5 hfr5
  have hfb5 := kept_block hown3k hg5 hfb4 (by decide)
  obtain ⟨t0, t1, t2, t3, -⟩ := frame_block hfb5
  have hsz5 := lt_of_block hfb5
  clear u0 u1 u2 u3 hg5 hfr5 hown5 hown3k hfb4 hbel4 HL4
  have HL5 := hide (lies_of_bytesA (HB.out.chg (Chg.of_below (S := fun _ => False) hbel5)))
  go_wp2_with (at_builtin; refine wpList_app _ rfl (.tmp 27) (.tmp 29) 54 rfl 5 i0 (.int .u8 0) 1 1 Tryz.underlying54 hi hz0 hz1 hz2 rfl (by decide) _ _ _ rfl (owns_base hown5' (fun _ _ => Nat.zero_le _)) (.slice sa body.length cap) body.length (body.map B) rfl ?g0 HL5.out ?g1 ?g2 ?g3 ?_)
  case g0 => simp
  case g1 => exact bytes_one _
  case g2 => unfold maxLen; omega
  case g3 => omega
  intro v6 w6 hown6 hg6 hfr6
  obtain ⟨hown6', hbel6⟩ := app_keep hbel5 (by omega) hown5' hown6 hg6 hfr6
  have HO := hide hown6'
  clear hown6 hg6 hfr6 hown6' HL5 t0 t1 t2 t3 hfb5 hown5'
  go_wp2
  go_ret
  refine ⟨v6, rfl, ?_, hbel6⟩
  have e1 : (lay k f s body).length = 6 + body.length := by simp [lay]; omega
  rw [e1]
  have e2 : (lay k f s body).map B = [.int .u8 ((body.length : Int) / 256), .int .u8 ((body.length : Int) % 256), .int .u8 k, .int .u8 f, .int .u8 (s / 256), .int .u8 (s % 256)] ++ body.map B := by
    unfold lay
    rw [List.map_append]
    simp only [List.map_cons, List.map_nil]
    rw [B_ofI (by omega) (by omega), B_ofI (by omega) (by omega), B_ofI hk0 hk1, B_ofI hf0 hf1, B_ofI (by omega) (by omega), B_ofI (by omega) (by omega)]
    have e3 : (body.length : Int) % 256 = body.length := by omega
    rw [e3]
  rw [e2]
  have := HO.out
  simpa using this

/-- The end of the document's Write. -/
def RWrote (w w' : World) (k f s : Int) (body : List UInt8) (e : Ending) : Prop :=
  ∃ v, e = .returned (.tuple #[v, .int .i64 (if wOk k f s body then 0 else 1)]) ∧ w'.ownsRow w.heap.size 5 1 v (if wOk k f s body then lay k f s body else []).length ((if wOk k f s body then lay k f s body else []).map B) ∧ Below w.heap.size w w'

set_option maxRecDepth 100000 in
set_option maxHeartbeats 1600000 in
theorem rWrite_any (k f s : Int) (sa : Option Addr) (body : List UInt8) (cap : Nat) (w : World) (hl : body.length ≤ 4294967296) (hb : BytesA w (.slice sa body.length cap) body) :
    Calls Tryz.prog 23 #[.agg #[.int .i64 k, .int .i64 f, .int .i64 s, .slice sa body.length cap]] w fun e w' => RWrote w w' k f s body e := by
  have hch : ∀ o, BytesA (w.alloc o) (.slice sa body.length cap) body := fun o => hb.chg ((Chg.refl _ _).alloc _)
  have HC := hide hch
  clear hch hb
  cases hok : wOk k f s body with
  | false =>
    have HO := hide hok
    have HR := hide ((rightB_wOk k f s body).trans hok)
    clear hok
    go_enter Tryz.func23, Tryz.ntmps23
    go_wp2_with (go_at_call 66; refine (rRight_any k f s sa body cap _ hl (HC.out _)).mono ?_; rintro e w1 ⟨rfl, hb1⟩; rw [HR.out])
    go_ret2
    refine ⟨.slice none 0 0, by rw [HO.out]; rfl, ?_, ((Below.refl _ _).alloc (Nat.le_refl _) _).trans (hb1.mono (by simp))⟩
    rw [HO.out]
    exact World.ownsRow_nil _ _ _ _
  | true =>
    have hfit : fitsB k f s body.length = true := by simp only [wOk, Bool.and_eq_true] at hok; exact hok.1
    obtain ⟨hk0, hk1, hf0, hf1, hs0, hs1, hn⟩ := fits_bounds hfit
    have HO := hide hok
    have HR := hide ((rightB_wOk k f s body).trans hok)
    clear hok hfit
    go_enter Tryz.func23, Tryz.ntmps23
    go_wp2_with (first
      | (go_at_call 66; refine (rRight_any k f s sa body cap _ hl (HC.out _)).mono ?_; rintro e w1 ⟨rfl, hb1⟩; rw [HR.out]; obtain ⟨hc1, hf1'⟩ := bcell hb1)
      | (go_at_call 67; refine (rLay_any k f s sa body cap _ hk0 hk1 hf0 hf1 hs0 hs1 hn ((HC.out _).chg (Chg.of_below hb1))).mono ?_; rintro e w2 ⟨v, rfl, hown, hb2⟩))
    go_ret2
    have hb1' : Below w.heap.size w w1 := ((Below.refl _ _).alloc (Nat.le_refl _) _).trans (hb1.mono (by simp))
    refine ⟨v, by rw [HO.out]; rfl, ?_, hb1'.trans (hb2.mono hb1'.size)⟩
    rw [HO.out]
    exact owns_base hown (fun j hj => by have := (hown.lt j hj).1; have := hb1'.size; omega)
end Go.Proofs.YtckeblkadiehbaaGreat
