import Derived.Test.YtdccldbefdfppaaGreatDoorQGau
import Derived.Test.YtdccldbefdfppaaGreatDoorQGag
import Derived.Test.YtdccldbefdfppaaGreatDoorQGaj
import Derived.Test.YtdccldbefdfppaaGreatDoorQGat
import Derived.BigRegion
import Derived.Lib.SlBytesConst
set_option linter.unusedVariables false
set_option linter.unusedSimpArgs false
/-
  Windows of an end.
-/
namespace Go.Proofs.YtdccldbefdfppaaGreatDoor
set_option linter.unusedVariables false
set_option linter.unusedSimpArgs false
open Go.RowKit

set_option maxRecDepth 100000 in
set_option maxHeartbeats 800000 in
theorem eWindows_conn (eb : Nat) (m : EndM) (w : World) (h : EnB w eb m) :
    Calls Tryz.prog 46 #[.pointer (some ⟨eb, 0, none⟩), .int .i64 0] w fun e w' => e = .returned (.tuple #[.int .i64 m.send, .int .i64 m.receive, .int .i64 0]) ∧ Below w.heap.size w w' := by
  have c4 := h.c4
  have c5 := h.c5
  clear h
  go_enter Tryz.func46, Tryz.ntmps46
  go_upto_region 2 with fail
  go_region_held3 (fun w' => w'.cell? ⟨eb, 4, none⟩ = some (.int .i64 m.send) ∧ w'.cell? ⟨eb, 5, none⟩ = some (.int .i64 m.receive)) (exact ⟨c4, c5⟩) (fail)
  all_goals go_wp2
  all_goals refine bodyPost_ret (v := .tuple #[.int .i64 m.send, .int .i64 m.receive, .int .i64 0]) ?_ rfl ⟨rfl, Below.drew (Below.refl _ _)⟩
  all_goals simp [results, Tryz.results46, go_sem]
set_option maxRecDepth 100000 in
set_option maxHeartbeats 800000 in
theorem eWindows_st (eb mb : Nat) (m : EndM) (K : List Str) (s : Int) (p : Str) (w : World) (h : EnB w eb m) (hm : m.known = .map (some mb)) (hK : KnownS w mb K) (hf : findK K s = some p) (h0 : s ≠ 0) (b1 : -1099511627776 ≤ m.own ∧ m.own ≤ 1099511627776) (b2 : -1099511627776 ≤ p.2.receive ∧ p.2.receive ≤ 1099511627776) (b3 : -1099511627776 ≤ m.other ∧ m.other ≤ 1099511627776) (b4 : -1099511627776 ≤ p.2.send ∧ p.2.send ≤ 1099511627776) :
    Calls Tryz.prog 46 #[.pointer (some ⟨eb, 0, none⟩), .int .i64 s] w fun e w' => e = .returned (.tuple #[.int .i64 (m.other + p.2.send), .int .i64 (m.own + p.2.receive), .int .i64 0]) ∧ Below w.heap.size w w' := by
  have c22 := h.c22
  rw [hm] at c22
  have hlk := hK.lookup s
  rw [hf] at hlk
  simp only [Option.map_some, ptrO] at hlk
  have hst := hK.st p (findK_mem hf).1
  have HS : Hid (∀ wx, Below w.heap.size w wx → Calls Tryz.prog 66 #[.pointer (some ⟨eb, 0, none⟩), .pointer (some ⟨p.1, 0, none⟩)] wx fun e w' => e = .returned (.int .i64 (m.other + p.2.send)) ∧ Below wx.heap.size wx w') := fun wx hb => sendWindow_any eb p.1 m p.2 wx (h.below hb) (hst.below hb) (by omega) (by omega) (by omega) (by omega)
  have HR : Hid (∀ wx, Below w.heap.size w wx → Calls Tryz.prog 67 #[.pointer (some ⟨eb, 0, none⟩), .pointer (some ⟨p.1, 0, none⟩)] wx fun e w' => e = .returned (.int .i64 (m.own + p.2.receive)) ∧ Below wx.heap.size wx w') := fun wx hb => receiveWindow_any eb p.1 m p.2 wx (h.below hb) (hst.below hb) (by omega) (by omega) (by omega) (by omega)
  obtain ⟨pb, st⟩ := p
  simp only at hlk HS HR
  have hs0 : (s == 0) = false := by simp [h0]
  clear h hm hK hf hst b1 b2 b3 b4
  go_enter Tryz.func46, Tryz.ntmps46
  go_wp2_with fail
  refine (HS.out _ (Below.refl _ _)).mono ?_
  rintro e w1 ⟨rfl, hb1⟩
  have HB1 := hide hb1
  clear hb1
  go_wp2_with fail
  refine (HR.out w1 HB1.out).mono ?_
  rintro e w2 ⟨rfl, hb2⟩
  have HB2 := hide (HB1.out.trans (hb2.mono HB1.out.size))
  clear hb2
  go_wp2
  refine bodyPost_ret (v := .tuple #[.int .i64 (m.other + st.send), .int .i64 (m.own + st.receive), .int .i64 0]) ?_ rfl ⟨rfl, HB2.out⟩
  simp [results, Tryz.results46, go_sem]
set_option maxHeartbeats 400000 in
theorem xWindows_of (eb : Nat) (n a b : Int) (w : World) (h : Calls Tryz.prog 46 #[.pointer (some ⟨eb, 0, none⟩), .int .i64 n] w fun e w' => e = .returned (.tuple #[.int .i64 a, .int .i64 b, .int .i64 0]) ∧ Below w.heap.size w w') :
    Calls Tryz.prog 25 #[.pointer (some ⟨eb, 0, none⟩), .int .i64 n] w fun e w' => e = .returned (.tuple #[.int .i64 a, .int .i64 b, .int .i64 0]) ∧ Below w.heap.size w w' := by
  have HC := hide h
  clear h
  go_enter Tryz.func25, Tryz.ntmps25
  go_wp2_with fail
  refine HC.out.mono ?_
  rintro e w' ⟨rfl, h⟩
  have H := hide h
  clear h
  go_wp2
  refine bodyPost_ret (v := .tuple #[.int .i64 a, .int .i64 b, .int .i64 0]) ?_ rfl ⟨rfl, H.out⟩
  simp [results, Tryz.results25, go_sem]
section
variable {w w' : World} {eb : Nat} {F : Nat → Prop} {p : GEnd}
theorem c_windows0 (h : StE w eb F p) : Calls Tryz.prog 25 #[.pointer (some ⟨eb, 0, none⟩), .int .i64 0] w fun e w' => e = .returned (.tuple #[.int .i64 p.m.send, .int .i64 p.m.receive, .int .i64 0]) ∧ Below w.heap.size w w' := by
  obtain ⟨mb, g, hi, hrd, hp, hF⟩ := h
  have := xWindows_of eb 0 _ _ w (eWindows_conn eb g.m w hi.en)
  rw [show g.m.send = p.m.send from by rw [← hp]; rfl, show g.m.receive = p.m.receive from by rw [← hp]; rfl] at this
  exact this
theorem c_windows {s : GSt} (h : StE w eb F p) (hs : s ∈ p.K) (h0 : s.st.number ≠ 0) (b1 : -1099511627776 ≤ p.m.own ∧ p.m.own ≤ 1099511627776) (b2 : -1099511627776 ≤ s.st.receive ∧ s.st.receive ≤ 1099511627776) (b3 : -1099511627776 ≤ p.m.other ∧ p.m.other ≤ 1099511627776) (b4 : -1099511627776 ≤ s.st.send ∧ s.st.send ≤ 1099511627776) :
    Calls Tryz.prog 25 #[.pointer (some ⟨eb, 0, none⟩), .int .i64 s.st.number] w fun e w' => e = .returned (.tuple #[.int .i64 (p.m.other + s.st.send), .int .i64 (p.m.own + s.st.receive), .int .i64 0]) ∧ Below w.heap.size w w' := by
  obtain ⟨mb, g, hi, hrd, hp, hF⟩ := h
  obtain ⟨x, hx, rfl, hfi⟩ := stE_at hi hp hs
  have e1 : g.m.own = p.m.own := by rw [← hp]; rfl
  have e2 : g.m.other = p.m.other := by rw [← hp]; rfl
  have := xWindows_of eb _ _ _ w (eWindows_st eb mb g.m _ x.st.number x.str w hi.en hi.km hi.kn hfi h0 (by rw [e1]; exact b1) b2 (by rw [e2]; exact b3) b4)
  rw [e1, e2] at this
  exact this
end
end Go.Proofs.YtdccldbefdfppaaGreatDoor
/-
  Ledger: the law's account in memory, beside its end; window, room, find.
-/
namespace Go.Proofs.YtdccldbefdfppaaGreatDoor
set_option linter.unusedVariables false
set_option linter.unusedSimpArgs false
open Go.RowKit

def lstr (l : List UInt8) : Value := .string ⟨l.toArray⟩
def LFlow.cells (x : LFlow) : List Value := [.int .i64 x.s, .int .i64 x.credit, lstr x.wr, .int .i64 x.sent, .bool x.closed, .bool x.over]
def flowCells (l : List LFlow) : List Value := l.flatMap LFlow.cells
def LAcc.cells (a : LAcc) (ev fv : Value) : Array Value := #[ev, .int .i64 a.initial, .int .i64 a.credit, .int .i64 a.sent, .int .i64 a.given, fv, .int .i64 a.theirs, .int .i64 a.ours]
def AB (w : World) (ab : Nat) (ev fv : Value) (a : LAcc) : Prop := w.heap[ab]? = some (.cells (a.cells ev fv) 30 (0, 0))
section
variable {w w' : World} {ab : Nat} {ev fv : Value} {a a' : LAcc}
theorem AB.cell (h : AB w ab ev fv a) {j : Nat} {v : Value} (hi : (a.cells ev fv)[j]? = some v) : w.cell? ⟨ab, j, none⟩ = some v := by
  rw [cell_of_row w ab _ _ _ _ h]; exact hi
theorem AB.c0 (h : AB w ab ev fv a) : w.cell? ⟨ab, 0, none⟩ = some ev := h.cell rfl
theorem AB.c1 (h : AB w ab ev fv a) : w.cell? ⟨ab, 1, none⟩ = some (.int .i64 a.initial) := h.cell rfl
theorem AB.c2 (h : AB w ab ev fv a) : w.cell? ⟨ab, 2, none⟩ = some (.int .i64 a.credit) := h.cell rfl
theorem AB.c3 (h : AB w ab ev fv a) : w.cell? ⟨ab, 3, none⟩ = some (.int .i64 a.sent) := h.cell rfl
theorem AB.c4 (h : AB w ab ev fv a) : w.cell? ⟨ab, 4, none⟩ = some (.int .i64 a.given) := h.cell rfl
theorem AB.c5 (h : AB w ab ev fv a) : w.cell? ⟨ab, 5, none⟩ = some fv := h.cell rfl
theorem AB.c6 (h : AB w ab ev fv a) : w.cell? ⟨ab, 6, none⟩ = some (.int .i64 a.theirs) := h.cell rfl
theorem AB.c7 (h : AB w ab ev fv a) : w.cell? ⟨ab, 7, none⟩ = some (.int .i64 a.ours) := h.cell rfl
theorem AB.fr (h : AB w ab ev fv a) (j : Nat) : w.frozen? ⟨ab, j, none⟩ = false := by
  have h' : w.heap[ab]? = some (.cells (a.cells ev fv) 30 (0, 0)) := h
  simp [World.frozen?, h']
theorem AB.lt (h : AB w ab ev fv a) : ab < w.heap.size := lt_of_block h
theorem AB.below (h : AB w ab ev fv a) (hb : Below w.heap.size w w') : AB w' ab ev fv a := kept_told h hb
theorem AB.chg {S : Nat → Prop} (h : AB w ab ev fv a) (hc : Chg S w w') (hs : ¬ S ab) : AB w' ab ev fv a := by
  unfold AB
  rw [hc.block ab h.lt hs]
  exact h
theorem AB.set (h : AB w ab ev fv a) {j : Nat} {v fv' ev' : Value} (hm : (a.cells ev fv).setIfInBounds j v = a'.cells ev' fv') : AB (w.setCell ⟨ab, j, none⟩ v) ab ev' fv' a' := by
  unfold AB
  rw [blk_set h, hm]
end
/-- The flows, in their row. -/
def FR (w : World) (fv : Value) (l : List LFlow) : Prop := w.ownsRow 0 56 6 fv l.length (flowCells l)
theorem flowCells_length (l : List LFlow) : (flowCells l).length = l.length * 6 := by
  unfold flowCells
  induction l with
  | nil => rfl
  | cons p r ih => rw [List.flatMap_cons, List.length_append, ih, List.length_cons]; simp [LFlow.cells]; omega
theorem flowCells_at {l : List LFlow} {i : Nat} {x : LFlow} (hx : l[i]? = some x) {f : Nat} (hf : f < 6) : (flowCells l)[i * 6 + f]? = x.cells[f]? := by
  induction l generalizing i with
  | nil => simp at hx
  | cons y r ih =>
    show (y.cells ++ flowCells r)[i * 6 + f]? = _
    have hy : y.cells.length = 6 := rfl
    cases i with
    | zero =>
      simp only [List.getElem?_cons_zero, Option.some.injEq] at hx
      subst hx
      rw [List.getElem?_append_left (by omega)]
      congr 1
      omega
    | succ i =>
      rw [List.getElem?_cons_succ] at hx
      rw [List.getElem?_append_right (by omega), ← ih hx]
      congr 1
      omega
theorem flowCells_set {l : List LFlow} {i : Nat} {x x' : LFlow} (hx : l[i]? = some x) {f : Nat} (hf : f < 6) {v : Value} (he : x.cells.set f v = x'.cells) : (flowCells l).set (i * 6 + f) v = flowCells (l.set i x') := by
  induction l generalizing i with
  | nil => simp at hx
  | cons y r ih =>
    show (y.cells ++ flowCells r).set (i * 6 + f) v = _
    have hy : y.cells.length = 6 := rfl
    cases i with
    | zero =>
      simp only [List.getElem?_cons_zero, Option.some.injEq] at hx
      subst hx
      rw [List.set_append_left _ _ (by omega), show 0 * 6 + f = f by omega, he]
      rfl
    | succ i =>
      rw [List.getElem?_cons_succ] at hx
      rw [List.set_append_right _ _ (by omega), show (i + 1) * 6 + f - y.cells.length = i * 6 + f by omega, ih hx]
      rfl
/-- Where a flow lies. -/
structure FAt (w : World) (fv : Value) (l : List LFlow) (i : Nat) (x : LFlow) (g cap : Nat) : Prop where
  eq : fv = .slice (some ⟨g, 0, none⟩) l.length cap
  le : l.length ≤ cap
  lt : i < l.length
  f0 : w.cell? ⟨g, i * 6, none⟩ = some (.int .i64 x.s)
  f1 : w.cell? ⟨g, i * 6 + 1, none⟩ = some (.int .i64 x.credit)
  f2 : w.cell? ⟨g, i * 6 + 2, none⟩ = some (lstr x.wr)
  f3 : w.cell? ⟨g, i * 6 + 3, none⟩ = some (.int .i64 x.sent)
  f4 : w.cell? ⟨g, i * 6 + 4, none⟩ = some (.bool x.closed)
  f5 : w.cell? ⟨g, i * 6 + 5, none⟩ = some (.bool x.over)
  fr : ∀ j, w.frozen? ⟨g, j, none⟩ = false
  gl : g < w.heap.size
theorem FR.at {w : World} {fv : Value} {l : List LFlow} (h : FR w fv l) {i : Nat} {x : LFlow} (hx : l[i]? = some x) : ∃ g cap, FAt w fv l i x g cap := by
  have hlt := (List.getElem?_eq_some_iff.1 hx).1
  rcases h.2 with ⟨-, h0⟩ | ⟨g, cap, cur, h1, h2, h3, h4, h5, h6, h7⟩
  · omega
  · have hc : ∀ f, f < 6 → w.cell? ⟨g, i * 6 + f, none⟩ = x.cells[f]? := fun f hf => by
      rw [cell_of_row w g _ _ _ _ h3, ← flowCells_at hx hf, ← h7, List.getElem?_take, if_pos (by omega), Array.getElem?_toList]
    exact ⟨g, cap, h1, h4, hlt, by have := hc 0 (by omega); simpa [LFlow.cells] using this, hc 1 (by omega), hc 2 (by omega), hc 3 (by omega), hc 4 (by omega), hc 5 (by omega), fun j => by simp [World.frozen?, h3], lt_of_block h3⟩
theorem FR.set {w : World} {fv : Value} {l : List LFlow} (h : FR w fv l) {i : Nat} {x x' : LFlow} (hx : l[i]? = some x) {g cap : Nat} (hg : fv = .slice (some ⟨g, 0, none⟩) l.length cap) {f : Nat} (hf : f < 6) {v : Value} (he : x.cells.set f v = x'.cells) : FR (w.setCell ⟨g, i * 6 + f, none⟩ v) fv (l.set i x') := by
  have hlt := (List.getElem?_eq_some_iff.1 hx).1
  unfold FR
  rw [List.length_set]
  refine ⟨by rw [flowCells_length, List.length_set], ?_⟩
  rcases h.2 with ⟨h1, -⟩ | ⟨g', cap', cur, h1, h2, h3, h4, h5, h6, h7⟩
  · rw [h1] at hg; cases hg
  · rw [h1] at hg
    simp only [Value.slice.injEq, Option.some.injEq, Addr.mk.injEq, and_true, true_and] at hg
    obtain ⟨rfl, rfl⟩ := hg
    refine Or.inr ⟨g', cap', cur.setIfInBounds (i * 6 + f) v, h1, h2, blk_set h3, h4, h5, by simp [h6], ?_⟩
    rw [Array.toList_setIfInBounds, ← flowCells_set hx hf he, ← h7, List.take_set]
theorem FR.chg {S : Nat → Prop} {w w' : World} {fv : Value} {l : List LFlow} (h : FR w fv l) (hc : Chg S w w') (hs : ∀ j, fv.ownBlock = some j → ¬ S j) : FR w' fv l := owns_chg h hc hs
/-- The account at ab, its end at eb; G: all their blocks. -/
structure LIn (w : World) (ab eb : Nat) (F : Nat → Prop) (fv : Value) (a : LAcc) (p : GEnd) : Prop where
  ac : AB w ab (.pointer (some ⟨eb, 0, none⟩)) fv a
  fl : FR w fv a.fl
  st : StE w eb F p
  nf : ¬ F ab
  ff : ∀ j, fv.ownBlock = some j → ¬ F j
  gl : Gl w
  ga : 7 ≤ ab
  gv : ∀ j, fv.ownBlock = some j → 7 ≤ j
  gf : ∀ j, F j → 7 ≤ j
def LFoot (ab : Nat) (F : Nat → Prop) (fv : Value) (j : Nat) : Prop := j = ab ∨ fv.ownBlock = some j ∨ F j
def LS (w : World) (ab eb : Nat) (G : Nat → Prop) (a : LAcc) (p : GEnd) : Prop := ∃ F fv, LIn w ab eb F fv a p ∧ ∀ j, G j ↔ LFoot ab F fv j
def GoL (w w' : World) (ab eb : Nat) (G : Nat → Prop) (a : LAcc) (p : GEnd) : Prop := ∃ G', LS w' ab eb G' a p ∧ Chg G w w' ∧ ∀ j, G' j → G j ∨ w.heap.size ≤ j
section
variable {w w' w1 w2 : World} {ab eb : Nat} {F F1 G G1 : Nat → Prop} {fv fv' : Value} {a a' : LAcc} {p q : GEnd}
theorem LIn.alt (h : LIn w ab eb F fv a p) : ab < w.heap.size := h.ac.lt
theorem LIn.vlt (h : LIn w ab eb F fv a p) {j : Nat} (hj : fv.ownBlock = some j) : j < w.heap.size := owns_lt h.fl hj
theorem LIn.vab (h : LIn w ab eb F fv a p) {j : Nat} (hj : fv.ownBlock = some j) : j ≠ ab := fun e => by
  rw [e] at hj
  exact owns_ne h.fl h.ac (by decide) hj
theorem LIn.ge (h : LIn w ab eb F fv a p) : ∀ j, j < 7 → ¬ F j := fun j hj hf => by have := h.gf j hf; omega
theorem LIn.foot_lt (h : LIn w ab eb F fv a p) {j : Nat} (hj : LFoot ab F fv j) : j < w.heap.size := by
  rcases hj with e | e | e
  · rw [e]; exact h.alt
  · exact h.vlt e
  · exact h.st.lt e
theorem LIn.chg {S : Nat → Prop} (h : LIn w ab eb F fv a p) (hc : Chg S w w') (hs : ∀ j, LFoot ab F fv j → ¬ S j) (hg : ∀ j, j < 7 → ¬ S j) : LIn w' ab eb F fv a p :=
  ⟨h.ac.chg hc (hs _ (Or.inl rfl)), h.fl.chg hc (fun j hj => hs j (Or.inr (Or.inl hj))), h.st.chg hc (fun j hj => hs j (Or.inr (Or.inr hj))), h.nf, h.ff, h.gl.chg hc hg, h.ga, h.gv, h.gf⟩
theorem LIn.below (h : LIn w ab eb F fv a p) (hb : Below w.heap.size w w') : LIn w' ab eb F fv a p := h.chg (Chg.of_below (S := fun _ => False) hb) (fun _ _ => id) (fun _ _ => id)
theorem GoL.of (hG : ∀ j, G j ↔ LFoot ab F fv j) {F' : Nat → Prop} (h' : LIn w' ab eb F' fv' a p) (hc : Chg (LFoot ab F fv) w w') (hg : ∀ j, LFoot ab F' fv' j → LFoot ab F fv j ∨ w.heap.size ≤ j) : GoL w w' ab eb G a p :=
  ⟨LFoot ab F' fv', ⟨F', fv', h', fun j => Iff.rfl⟩, hc.mono fun j _ e => (hG j).2 e, fun j hj => (hg j hj).imp_left (hG j).2⟩
theorem LS.below (h : LS w ab eb G a p) (hb : Below w.heap.size w w') : LS w' ab eb G a p := by
  obtain ⟨F, fv, h1, h2⟩ := h
  exact ⟨F, fv, h1.below hb, h2⟩
theorem LS.lt (h : LS w ab eb G a p) {j : Nat} (hj : G j) : j < w.heap.size := by
  obtain ⟨F, fv, h1, h2⟩ := h
  exact h1.foot_lt ((h2 j).1 hj)
theorem LS.chg {S : Nat → Prop} (h : LS w ab eb G a p) (hc : Chg S w w') (hs : ∀ j, G j → ¬ S j) (hg : ∀ j, j < 7 → ¬ S j) : LS w' ab eb G a p := by
  obtain ⟨F, fv, h1, h2⟩ := h
  exact ⟨F, fv, h1.chg hc (fun j hj => hs j ((h2 j).2 hj)) hg, h2⟩
theorem GoL.one (h : LS w ab eb G a p) : GoL w w ab eb G a p := ⟨G, h, Chg.refl _ _, fun _ hj => Or.inl hj⟩
theorem GoL.of_below (h : LS w ab eb G a p) (hb : Below w.heap.size w w') : GoL w w' ab eb G a p := ⟨G, h.below hb, Chg.of_below hb, fun _ hj => Or.inl hj⟩
theorem GoL.then (hc : Chg G w w1) (hG : ∀ j, G1 j → G j ∨ w.heap.size ≤ j) (h : GoL w1 w2 ab eb G1 a p) : GoL w w2 ab eb G a p := by
  obtain ⟨G2, h1, h2, h3⟩ := h
  refine ⟨G2, h1, hc.trans (h2.mono fun j _ e => (hG j e).symm), fun j hj => ?_⟩
  rcases h3 j hj with b | b
  · exact hG j b
  · exact Or.inr (Nat.le_trans hc.size b)
theorem GoL.pre (hb : Below w.heap.size w w1) (h : GoL w1 w2 ab eb G a p) : GoL w w2 ab eb G a p := GoL.then (G1 := G) (Chg.of_below hb) (fun j hj => Or.inl hj) h
theorem GoL.post (h : GoL w w1 ab eb G a p) (hb : Below w1.heap.size w1 w2) : GoL w w2 ab eb G a p := by
  obtain ⟨G2, h1, h2, h3⟩ := h
  exact ⟨G2, h1.below hb, h2.then_below hb, h3⟩
theorem GoL.trans (h : GoL w w1 ab eb G a p) (h2 : ∀ G1, LS w1 ab eb G1 a p → GoL w1 w2 ab eb G1 a' q) : GoL w w2 ab eb G a' q := by
  obtain ⟨G2, h1, hc, hG⟩ := h
  exact GoL.then hc hG (h2 G2 h1)
/-- The end alone went on. -/
theorem LIn.ends (h : LIn w ab eb F fv a p) (hG : ∀ j, G j ↔ LFoot ab F fv j) (hg : GoE w w' eb F q) : GoL w w' ab eb G a q := by
  obtain ⟨F', h1, h2, h3⟩ := hg
  have hgt := h.gl.lt
  refine GoL.of hG (F' := F') (fv' := fv) ⟨h.ac.chg h2 h.nf, h.fl.chg h2 h.ff, h1, fun hf => ?_, fun j hj hf => ?_, h.gl.chg h2 h.ge, h.ga, h.gv, fun j hf => ?_⟩ (h2.mono fun j _ e => Or.inr (Or.inr e)) (fun j hj => ?_)
  · rcases h3 ab hf with b | b
    · exact h.nf b
    · have := h.alt; omega
  · rcases h3 j hf with b | b
    · exact h.ff j hj b
    · have := h.vlt hj; omega
  · rcases h3 j hf with b | b
    · exact h.gf j b
    · have := h.alt; have := h.ga; omega
  · rcases hj with e | e | e
    · exact Or.inl (Or.inl e)
    · exact Or.inl (Or.inr (Or.inl e))
    · exact (h3 j e).imp_left fun b => Or.inr (Or.inr b)
/-- A cell of the account was written. -/
theorem LIn.writeA (h : LIn w ab eb F fv a p) {j : Nat} {v : Value} (hm : (a.cells (.pointer (some ⟨eb, 0, none⟩)) fv).setIfInBounds j v = a'.cells (.pointer (some ⟨eb, 0, none⟩)) fv) (hf : a'.fl = a.fl) : LIn (w.setCell ⟨ab, j, none⟩ v) ab eb F fv a' p := by
  have hc : Chg (fun j => j = ab) w (w.setCell ⟨ab, j, none⟩ v) := chg_set (Chg.refl _ _) rfl
  exact ⟨h.ac.set hm, by rw [hf]; exact h.fl.chg hc (fun j hj => h.vab hj), h.st.chg hc (fun j hj e => by subst e; exact h.nf hj), h.nf, h.ff, h.gl.chg hc (fun j hj e => by have := h.ga; omega), h.ga, h.gv, h.gf⟩
theorem LIn.chgA {j : Nat} {v : Value} : Chg (LFoot ab F fv) w (w.setCell ⟨ab, j, none⟩ v) := chg_set (Chg.refl _ _) (Or.inl rfl)
/-- A cell of a flow was written. -/
theorem LIn.writeF (h : LIn w ab eb F fv a p) {i : Nat} {x x' : LFlow} (hx : a.fl[i]? = some x) {g cap : Nat} (hg : fv = .slice (some ⟨g, 0, none⟩) a.fl.length cap) {f : Nat} (hf : f < 6) {v : Value} (he : x.cells.set f v = x'.cells) (ha : a' = { a with fl := a.fl.set i x' }) : LIn (w.setCell ⟨g, i * 6 + f, none⟩ v) ab eb F fv a' p := by
  have hob : fv.ownBlock = some g := by rw [hg]; rfl
  have hc : Chg (fun j => j = g) w (w.setCell ⟨g, i * 6 + f, none⟩ v) := chg_set (Chg.refl _ _) rfl
  have e1 : a'.cells (.pointer (some ⟨eb, 0, none⟩)) fv = a.cells (.pointer (some ⟨eb, 0, none⟩)) fv := by rw [ha]; rfl
  refine ⟨?_, by rw [ha]; exact h.fl.set hx hg hf he, h.st.chg hc (fun j hj e => by subst e; exact h.ff _ hob hj), h.nf, h.ff, h.gl.chg hc (fun j hj e => by have := h.gv _ hob; omega), h.ga, h.gv, h.gf⟩
  unfold AB
  rw [e1]
  exact h.ac.chg hc (fun e => h.vab hob e.symm)
end
end Go.Proofs.YtdccldbefdfppaaGreatDoor
/-
  Ledger: window, room, find.
-/
namespace Go.Proofs.YtdccldbefdfppaaGreatDoor
set_option linter.unusedVariables false
set_option linter.unusedSimpArgs false
open Go.RowKit

theorem FR.cells {w : World} {fv : Value} {l : List LFlow} (h : FR w fv l) {g cap : Nat} (hg : fv = .slice (some ⟨g, 0, none⟩) l.length cap) {i : Nat} {x : LFlow} (hx : l[i]? = some x) : FAt w fv l i x g cap := by
  obtain ⟨g', cap', hF⟩ := h.at hx
  have e := hF.eq
  rw [hg] at e
  simp only [Value.slice.injEq, Option.some.injEq, Addr.mk.injEq, and_true, true_and] at e
  obtain ⟨rfl, rfl⟩ := e
  exact hF
set_option maxRecDepth 100000 in
set_option maxHeartbeats 800000 in
theorem lroom_any (ab : Nat) (ev fv : Value) (a : LAcc) (w : World) (h : AB w ab ev fv a) (hb : LBd a) :
    Calls Tryz.prog 24 #[.pointer (some ⟨ab, 0, none⟩)] w fun e w' => e = .returned (.int .i64 a.room) ∧ Below w.heap.size w w' := by
  have c2 := h.c2
  have c3 := h.c3
  have b1 := hb.cr
  have b2 := hb.se
  unfold LAcc.room
  generalize a.credit = cr at *
  generalize a.sent = bo at *
  have hw1 : IntKind.i64.wrap (32 + cr) = 32 + cr := by rw [IntKind.wrap_i64]; omega
  have hw2 : IntKind.i64.wrap (32 + cr - bo) = 32 + cr - bo := by rw [IntKind.wrap_i64]; omega
  clear h hb b1 b2
  go_enter Tryz.func24, Tryz.ntmps24
  go_upto_region 1 with fail
  go_region_held3 (fun w' => w'.cell? ⟨ab, 2, none⟩ = some (.int .i64 cr) ∧ w'.cell? ⟨ab, 3, none⟩ = some (.int .i64 bo)) (exact ⟨c2, c3⟩) (fail)
  all_goals go_wp2
  all_goals go_ret
  all_goals exact ⟨by simp [hw1, hw2], Below.drew (Below.refl _ _)⟩
set_option maxRecDepth 100000 in
set_option maxHeartbeats 800000 in
theorem lwindow_any (ab : Nat) (ev fv : Value) (a : LAcc) (i : Nat) (x : LFlow) (w : World) (h : AB w ab ev fv a) (hf : FR w fv a.fl) (hx : a.fl[i]? = some x) (hb : LBd a) :
    Calls Tryz.prog 26 #[.pointer (some ⟨ab, 0, none⟩), .int .i64 i] w fun e w' => e = .returned (.int .i64 (a.win x)) ∧ Below w.heap.size w w' := by
  obtain ⟨g, cap, hF⟩ := hf.at hx
  have c1 := h.c1
  have c5 := h.c5
  rw [hF.eq] at c5
  have f1 := hF.f1
  have f3 := hF.f3
  have hlt := hF.lt
  have b1 := hb.i
  have hm := hb.fl x (List.mem_of_getElem? hx)
  have b8 := hb.n
  unfold LAcc.win
  generalize a.initial = ii at *
  generalize a.fl.length = n at *
  obtain ⟨xs, xc, xw, xn, xo, xv⟩ := x
  simp only at hm f1 f3 ⊢
  obtain ⟨m1, m2, m3, m4⟩ := hm
  generalize xw.length = wl at *
  have i1 : (0 : Int) ≤ (i : Int) := by omega
  have i2 : (i : Int) < (n : Int) := by omega
  have hw1 : IntKind.i64.wrap (ii + xc) = ii + xc := by rw [IntKind.wrap_i64]; omega
  have hw2 : IntKind.i64.wrap (ii + xc - (xn : Int)) = ii + xc - xn := by rw [IntKind.wrap_i64]; omega
  clear h hf hx hb hF b1 m1 m2 m3 m4
  go_enter Tryz.func26, Tryz.ntmps26
  go_upto_region 1 with fail
  go_region_held3 (fun w' => w'.cell? ⟨ab, 1, none⟩ = some (.int .i64 ii) ∧ w'.cell? ⟨ab, 5, none⟩ = some (.slice (some ⟨g, 0, none⟩) n cap) ∧ w'.cell? ⟨g, i * 6 + 1, none⟩ = some (.int .i64 xc) ∧ w'.cell? ⟨g, i * 6 + 3, none⟩ = some (.int .i64 xn)) (exact ⟨c1, c5, f1, f3⟩) (fail)
  all_goals go_wp2
  all_goals go_ret
  all_goals exact ⟨by simp [hw1, hw2], Below.drew (Below.refl _ _)⟩
set_option maxRecDepth 100000 in
set_option maxHeartbeats 800000 in
theorem lfind_any (ab : Nat) (ev fv : Value) (a : LAcc) (i : Nat) (x : LFlow) (w : World) (h : AB w ab ev fv a) (hf : FR w fv a.fl) (hx : a.fl[i]? = some x) (h1 : ∀ j y, j < i → a.fl[j]? = some y → y.s ≠ x.s) (hb : LBd a) :
    Calls Tryz.prog 44 #[.pointer (some ⟨ab, 0, none⟩), .int .i64 x.s] w fun e w' => e = .returned (.int .i64 i) ∧ w' = w := by
  obtain ⟨g, cap, hF⟩ := hf.at hx
  have c5 := h.c5
  have b8 := hb.n
  have hlt := hF.lt
  have hget : ∀ k, k ≤ i → ∃ y, a.fl[k]? = some y ∧ w.cell? ⟨g, k * 6, none⟩ = some (.int .i64 y.s) := fun k hk => by
    have hkl : k < a.fl.length := by omega
    exact ⟨a.fl[k], List.getElem?_eq_getElem hkl, (hf.cells hF.eq (List.getElem?_eq_getElem hkl)).f0⟩
  have HG := hide hget
  have H1 := hide h1
  have HX := hide hx
  rw [hF.eq] at c5
  have HLE := hide hF.le
  generalize hn : a.fl.length = n at *
  clear h hf hb hF hget h1 hx
  go_enter Tryz.func44, Tryz.ntmps44
  go_wp2
  go_loopw [5] (fun v wr => ∃ k : Nat, v = .int .i64 (k : Int) ∧ k ≤ i ∧ wr = w) (fun v _ => i - (intOf v).toNat)
  case atStart => exact ⟨0, rfl, Nat.zero_le _, rfl⟩
  case round =>
    obtain ⟨k, rfl, hk, rfl⟩ := hrel
    obtain ⟨y, hy, hcell⟩ := HG.out k hk
    have i1 : (0 : Int) ≤ (k : Int) := by omega
    have i2 : (k : Int) < (n : Int) := by omega
    have i3 : k < n := by omega
    by_cases hki : k = i
    · subst hki
      have hxy : y = x := by have := HX.out; rw [hy] at this; injection this
      subst hxy
      clear hy
      go_wp2
      go_ret
      exact ⟨rfl, rfl⟩
    · have hne := H1.out k y (by omega) hy
      have hne' : (y.s == x.s) = false := by simp [hne]
      have hkl : k + 1 ≤ i := by omega
      generalize y.s = ys at *
      generalize x.s = xs at *
      clear hy hne
      go_wp2
      all_goals go_roundw
      case rel => exact ⟨k + 1, by go_num, hkl, trivial⟩
      case measure => simp [intOf]; omega
end Go.Proofs.YtdccldbefdfppaaGreatDoor
/-
  Package ends: ConfigFits, newTuner, Set, Tick.
-/
namespace Go.Proofs.YtdccldbefdfppaaGreatDoor
set_option linter.unusedVariables false
set_option linter.unusedSimpArgs false
open Go.RowKit

end Go.Proofs.YtdccldbefdfppaaGreatDoor
/-
  Package ends: newStreams.
-/
namespace Go.Proofs.YtdccldbefdfppaaGreatDoor
set_option linter.unusedVariables false
set_option linter.unusedSimpArgs false
open Go.RowKit

end Go.Proofs.YtdccldbefdfppaaGreatDoor
/-
  The law's own: given.
-/
namespace Go.Proofs.YtdccldbefdfppaaGreatDoor
set_option linter.unusedVariables false
set_option linter.unusedSimpArgs false
open Go.RowKit

end Go.Proofs.YtdccldbefdfppaaGreatDoor
/-
  The law's own: given.
-/
namespace Go.Proofs.YtdccldbefdfppaaGreatDoor
set_option linter.unusedVariables false
set_option linter.unusedSimpArgs false
open Go.RowKit

theorem cutN_all {n : Nat} (h : n ≤ 1073741824) : cutN 1099511627776 n = n := by unfold cutN; omega
theorem spC_get : ∀ {ps : List (Fr × Value)} {i j : Nat} (h : i < ps.length), j < 4 → (ps.flatMap spC)[i * 4 + j]? = (spC ps[i])[j]?
  | p :: r, 0, j, _, hj => by
    rw [List.flatMap_cons, List.getElem?_append_left (by simp [spC]; omega)]
    simp
  | p :: r, i + 1, j, h, hj => by
    have hl : (spC p).length = 4 := rfl
    rw [List.flatMap_cons, List.getElem?_append_right (by rw [hl]; omega), hl, show (i + 1) * 4 + j - 4 = i * 4 + j by omega]
    exact spC_get (by simpa using h) hj
/-- The frames, as they lie. -/
theorem SplitS.at {w w' w2 : World} {fs : List Fr} {v : Value} {ps : List (Fr × Value)} (h : SplitS w w' fs v ps) (hb : Below w'.heap.size w' w2) {i : Nat} (hi : i < fs.length) : ∃ g c bv, v = .slice (some ⟨g, 0, none⟩) fs.length c ∧ fs.length ≤ c ∧ w2.cell? ⟨g, i * 4, none⟩ = some (.int .i64 fs[i].kind) ∧ w2.cell? ⟨g, i * 4 + 1, none⟩ = some (.int .i64 fs[i].flags) ∧ w2.cell? ⟨g, i * 4 + 2, none⟩ = some (.int .i64 fs[i].stream) ∧ w2.cell? ⟨g, i * 4 + 3, none⟩ = some bv ∧ BytesIn w2 bv fs[i].body ∧ g < w2.heap.size := by
  have hlen : ps.length = fs.length := by rw [← h.fst, List.length_map]
  have hip : i < ps.length := by omega
  have hr := h.row
  have hfi : ps[i].1 = fs[i] := by
    have := h.fst
    subst this
    simp
  rcases hr.2 with ⟨-, h0⟩ | ⟨g, cap, cur, h1, h2, h3, h4, h5, h6, h7⟩
  · omega
  · have hl := lt_of_block h3
    have hblk : w2.heap[g]? = some (.cells cur 48 (0, 0)) := by rw [hb.block g hl]; exact h3
    have hc : ∀ j, j < 4 → w2.cell? ⟨g, i * 4 + j, none⟩ = (spC ps[i])[j]? := fun j hj => by
      rw [cell_of_row _ _ _ _ _ _ hblk, ← spC_get hip hj, ← h7, List.getElem?_take, if_pos (by omega), Array.getElem?_toList]
    have q0 := hc 0 (by omega)
    rw [Nat.add_zero] at q0
    refine ⟨g, cap, ps[i].2, by rw [h1, hlen], by omega, ?_, ?_, ?_, ?_, ?_, Nat.lt_of_lt_of_le hl hb.size⟩
    · rw [q0, ← hfi]; rfl
    · rw [hc 1 (by omega), ← hfi]; rfl
    · rw [hc 2 (by omega), ← hfi]; rfl
    · rw [hc 3 (by omega)]; rfl
    · rw [← hfi]
      exact (h.body ps[i] (List.getElem_mem hip)).chg (Chg.of_below (S := fun _ => False) (h.bel.trans (hb.mono h.bel.size))) (fun _ _ => id)

end Go.Proofs.YtdccldbefdfppaaGreatDoor
/-
  The law's own: gone.
-/
namespace Go.Proofs.YtdccldbefdfppaaGreatDoor
set_option linter.unusedVariables false
set_option linter.unusedSimpArgs false
open Go.RowKit

end Go.Proofs.YtdccldbefdfppaaGreatDoor
/-
  append that must grow, whatever the row.
-/
namespace Go.Proofs.YtdccldbefdfppaaGreatDoor
set_option linter.unusedVariables false
set_option linter.unusedSimpArgs false
open Go.RowKit

theorem run_app_grow (w : World) (t ty : TypeId) (i : TypeInfo) (ht : Tryz.prog.underlying t = some (.slice 5)) (hi : Tryz.prog.info? 5 = some i) (hz : i.zero = some (.int .u8 0)) (hs : i.size = 1) (hby : i.bytes = 1)
    (b : Addr) (n cap : Nat) (xs : List Value) (hl : xs.length = n) (holds : ∀ j v, xs[j]? = some v → w.cell? (b.add j) = some v)
    (a : Addr) (m c : Nat) (news : List Value) (hm : news.length = m) (hnews : ∀ j v, news[j]? = some v → w.cell? (a.add j) = some v) (hg : cap < n + m) (h63 : n + m ≤ 1073741824) :
    ∃ v' w', (Builtin.append_ #[t, t] ty #[.slice (some b) n cap, .slice (some a) m c]).run Tryz.prog w = .ok v' w' ∧ w'.ownsRow w.heap.size 5 1 v' (n + m) (xs ++ news) ∧ Below w.heap.size w w' := by
  have h := run_append_grow (P := Tryz.prog) (w := w) t ty 5 i (.int .u8 0) ht hi hz b n cap xs (by rw [hs, hl, Nat.mul_one]) holds a m c news (by rw [hs, hm, Nat.mul_one]) hnews hg (by omega) (growslice_fits (by omega) (by rw [hby]; omega))
  refine ⟨_, _, h, ?_, ?_⟩
  · have hge := grownCap_ge w (n + m) cap 5
    have hcm : grownCap w (n + m) cap 5 ≤ maxLen := grownCap_le_maxLen w (n + m) cap 5 (by unfold maxLen; omega)
    have hlen : (xs ++ news).length = (n + m) * 1 := by rw [List.length_append, hl, hm, Nat.mul_one]
    refine ⟨hlen, .inr ⟨w.heap.size, _, _, rfl, Nat.le_refl _, heap_alloc_new w.drew _, hge, hcm, ?_, ?_⟩⟩
    · simp only [Array.size_append, List.size_toArray, size_zeroCells, hl, hm]
      show n + m + (grownCap w (n + m) cap 5 - (n + m)) * 1 = _
      omega
    · simp only [Array.toList_append, List.append_assoc]
      rw [← List.append_assoc, ← hlen]
      exact List.take_left
  · have := (Below.refl w.heap.size w).alloc (Nat.le_refl _) (.cells (xs.toArray ++ news.toArray ++ Builtin.zeroCells (Value.int .u8 0).cells (grownCap w (n + m) cap 5 - (n + m))) 5)
    exact ⟨this.os, this.tape, this.output, this.size, this.block⟩
/-- As a law for the walk. -/
theorem wpList_grow (w : World) {ops : Array Oper} {rest : List Oper} {o : Oper} {a : Act} {Q : Exit → Act → World → Prop} (hgd : o.guard = none) (s y : Operand) (t : TypeId)
    (ho : o.op = .call { callee := .builtin .append, args := #[s, y], argTypes := #[t, t] })
    (i : TypeInfo) (ht : Tryz.prog.underlying t = some (.slice 5)) (hi : Tryz.prog.info? 5 = some i) (hz : i.zero = some (.int .u8 0)) (hs : i.size = 1) (hby : i.bytes = 1)
    (b : Addr) (n cap : Nat) (xs : List Value) (hl : xs.length = n) (hsv : a.eval s = .slice (some b) n cap) (holds : ∀ j v, xs[j]? = some v → w.cell? (b.add j) = some v)
    (ad : Addr) (m c : Nat) (news : List Value) (hm : news.length = m) (hyv : a.eval y = .slice (some ad) m c) (hnews : ∀ j v, news[j]? = some v → w.cell? (ad.add j) = some v) (hg : cap < n + m) (h63 : n + m ≤ 1073741824)
    (hK : ∀ v' w', w'.ownsRow w.heap.size 5 1 v' (n + m) (xs ++ news) → Below w.heap.size w w' → wpList Tryz.prog ops Q rest (a.put o.dst v') w') :
    wpList Tryz.prog ops Q (o :: rest) a w := by
  obtain ⟨v', w', hr, h2, h3⟩ := run_app_grow w t o.type i ht hi hz hs hby b n cap xs hl holds ad m c news hm hnews hg h63
  refine wpList_plain hgd fun K hK' => ?_
  unfold Oper.wp
  simp [execOp, ho, resolve, invoke, builtin, hsv, hyv, hr, Result.andThen]
  exact hK' _ _ (hK v' w' h2 h3)
end Go.Proofs.YtdccldbefdfppaaGreatDoor
/-
  The end that the law makes: its states, without where things lie.
-/
namespace Go.Proofs.YtdccldbefdfppaaGreatDoor
set_option linter.unusedVariables false
set_option linter.unusedSimpArgs false
open Go.RowKit

/-- A new end. -/
def EndM.new (i c b k : Int) (mb : Nat) : EndM := ⟨false, 0, 0, b, 32, 32, c - 32, i, false, 0, false, 32, 32, c, k, 0, 1, 0, false, false, 0, 0, .map (some mb), .slice none 0 0, 0, .slice none 0 0, 0, 0, 0, 0, false, 0, .slice none 0 0, false, 0, 128, 0, .slice none 0 0, 128, false, false, .slice none 0 0, .slice none 0 0, .slice none 0 0, 2, 0, 128, 0, .slice none 0 0, .slice none 0 0⟩
def pNew (i c b k : Int) : GEnd := ⟨(EndM.new i c b k 0).bare, [], [], [], [], [], []⟩
end Go.Proofs.YtdccldbefdfppaaGreatDoor
