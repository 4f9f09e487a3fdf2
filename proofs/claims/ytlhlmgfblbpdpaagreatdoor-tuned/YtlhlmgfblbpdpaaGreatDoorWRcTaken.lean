import Derived.Test.YtlhlmgfblbpdpaaGreatDoorWRcTellsP
import Derived.Test.YtlhlmgfblbpdpaaGreatDoorWGaq
import Derived.Test.YtlhlmgfblbpdpaaGreatDoorWGaw
set_option linter.unusedVariables false
set_option linter.unusedSimpArgs false
/-
  Receive: the law's taken.
-/
namespace Go.Proofs.YtlhlmgfblbpdpaaGreatDoor
set_option linter.unusedVariables false
set_option linter.unusedSimpArgs false
open Go.RowKit

theorem PnV.slice {w : World} {pv : Value} {o : Option Nat} (h : PnV w pv o) : ∃ sv sn sc, pv = .slice sv sn sc := by
  cases o with
  | none => exact ⟨_, _, _, h⟩
  | some n => obtain ⟨pb, cap, e, -⟩ := h; exact ⟨_, _, _, e⟩
theorem ktells_X {w : World} {xb eb : Nat} {F : Nat → Prop} {x x' : XM} {p : GEnd} {f : Fr} {sb : Option Addr} {cb : Nat} (h : In w xb eb F x p) (hbd : XBd x) (ht : Tells x f x') (hby : BytesIn w (.slice sb 4 cb) f.body) (hbn : ∀ j, (Value.slice sb 4 cb).ownBlock = some j → j ≠ xb) :
    Calls Tryz.prog 27 #[.pointer (some ⟨xb, 0, none⟩), .agg #[.int .i64 f.kind, .int .i64 f.flags, .int .i64 f.stream, .slice sb 4 cb]] w fun e w' => e = .returned (.bool true) ∧ In w' xb eb F x' p ∧ Chg (fun j => j = xb) w w' := by
  obtain ⟨pv, k1, k2, k3⟩ := h.xi
  have hset : ∀ {w' : World} {x' : XM}, XI w' xb (.pointer (some ⟨eb, 0, none⟩)) x' pv → x'.pn = x.pn → Chg (fun j => j = xb) w w' → In w' xb eb F x' p := fun {w'} {x'} hx hp hc =>
    h.writes hc ⟨pv, hx, by rw [hp]; exact k2.chg hc (fun j hj e => (k3 j hj).1 e), fun j hj => ⟨(k3 j hj).1, (k3 j hj).2.1, Nat.lt_of_lt_of_le (k3 j hj).2.2 hc.size⟩⟩
  cases ht using Tells.ind with
  | settings n hn hw =>
    have e := num4_four n hn
    refine (ktells_set xb _ pv x sb cb (four4 n) w k1 hw hby rfl hbn).mono ?_
    rintro e' w' ⟨rfl, hx, hc⟩
    rw [e] at hx
    exact ⟨rfl, hset hx rfl hc, hc⟩
  | ping n hn hp hck =>
    have e := num4_four n hn
    rw [hp] at k2
    subst k2
    refine (ktells_ping xb _ x sb cb (four4 n) w k1 hbd hck hby rfl hbn).mono ?_
    rintro e' w' ⟨rfl, ⟨pb, cap, hx, h1, h2, h3, h4⟩, hc⟩
    rw [e] at h4
    refine ⟨rfl, h.writes hc ⟨.slice (some ⟨pb, 0, none⟩) 1 cap, hx, ⟨pb, cap, rfl, h1, h3, h4⟩, fun j hj => ?_⟩, hc⟩
    have : pb = j := by simpa [Value.ownBlock] using hj
    subst this
    exact ⟨by have := h.xlt; omega, fun hf => by have := h.st.lt hf; omega, h3⟩
  | credit n hn =>
    have e := num4_four n hn
    refine (ktells_cr xb _ pv x sb cb (four4 n) w k1 hbd hby rfl hbn).mono ?_
    rintro e' w' ⟨rfl, hx, hc⟩
    rw [e] at hx
    exact ⟨rfl, hset hx rfl hc, hc⟩
  | lane j n hj hn =>
    have e := num4_four n hn
    rcases four_cases hj with rfl | rfl | rfl | rfl
    · refine (ktells_l0 xb _ pv x sb cb (four4 n) w k1 hbd hby rfl hbn).mono ?_
      rintro e' w' ⟨rfl, hx, hc⟩
      rw [e] at hx
      exact ⟨rfl, hset hx rfl hc, hc⟩
    · refine (ktells_l1 xb _ pv x sb cb (four4 n) w k1 hbd hby rfl hbn).mono ?_
      rintro e' w' ⟨rfl, hx, hc⟩
      rw [e] at hx
      exact ⟨rfl, hset hx rfl hc, hc⟩
    · refine (ktells_l2 xb _ pv x sb cb (four4 n) w k1 hbd hby rfl hbn).mono ?_
      rintro e' w' ⟨rfl, hx, hc⟩
      rw [e] at hx
      exact ⟨rfl, hset hx rfl hc, hc⟩
    · refine (ktells_l3 xb _ pv x sb cb (four4 n) w k1 hbd hby rfl hbn).mono ?_
      rintro e' w' ⟨rfl, hx, hc⟩
      rw [e] at hx
      exact ⟨rfl, hset hx rfl hc, hc⟩
theorem SplitS.atX {w w' w2 : World} {xb : Nat} {fs : List Fr} {v : Value} {ps : List (Fr × Value)} (h : SplitS w w' fs v ps) (hb : Chg (fun j => j = xb) w' w2) (hx : xb < w.heap.size) (hno : ∀ p ∈ ps, ∀ j, p.2.ownBlock = some j → j ≠ xb) {i : Nat} (hi : i < fs.length) : ∃ g c bv, v = .slice (some ⟨g, 0, none⟩) fs.length c ∧ fs.length ≤ c ∧ w2.cell? ⟨g, i * 4, none⟩ = some (.int .i64 fs[i].kind) ∧ w2.cell? ⟨g, i * 4 + 1, none⟩ = some (.int .i64 fs[i].flags) ∧ w2.cell? ⟨g, i * 4 + 2, none⟩ = some (.int .i64 fs[i].stream) ∧ w2.cell? ⟨g, i * 4 + 3, none⟩ = some bv ∧ BytesIn w2 bv fs[i].body ∧ (∀ j, bv.ownBlock = some j → j ≠ xb) ∧ g < w2.heap.size := by
  have hlen : ps.length = fs.length := by rw [← h.fst, List.length_map]
  have hip : i < ps.length := by omega
  have hr := h.row
  have hfi : ps[i].1 = fs[i] := by
    have := h.fst
    subst this
    simp
  rcases hr.2 with ⟨-, h0⟩ | ⟨g, cap, cur, h1, h2, h3, h4, h5, h6, h7⟩
  · omega
  · have hl := lt_of_block h3
    have hgx : g ≠ xb := fun e => by have := owns_ge h.row (j := g) (by rw [h1]; rfl); omega
    have hblk : w2.heap[g]? = some (.cells cur 99 (0, 0)) := by rw [hb.block g hl hgx]; exact h3
    have hc : ∀ j, j < 4 → w2.cell? ⟨g, i * 4 + j, none⟩ = (spC ps[i])[j]? := fun j hj => by
      rw [cell_of_row _ _ _ _ _ _ hblk, ← spC_get hip hj, ← h7, List.getElem?_take, if_pos (by omega), Array.getElem?_toList]
    have q0 := hc 0 (by omega)
    rw [Nat.add_zero] at q0
    refine ⟨g, cap, ps[i].2, by rw [h1, hlen], by omega, ?_, ?_, ?_, ?_, ?_, hno _ (List.getElem_mem hip), Nat.lt_of_lt_of_le hl hb.size⟩
    · rw [q0, ← hfi]; rfl
    · rw [hc 1 (by omega), ← hfi]; rfl
    · rw [hc 2 (by omega), ← hfi]; rfl
    · rw [hc 3 (by omega)]; rfl
    · rw [← hfi]
      exact ((h.body ps[i] (List.getElem_mem hip)).chg (Chg.of_below (S := fun _ => False) h.bel) (fun _ _ => id)).chg hb (fun j hj e => hno _ (List.getElem_mem hip) j hj e)
theorem TellsL.drop {N : Nat} {x y : XM} {fs : List Fr} (h : TellsL N x fs y) {n : Nat} (hn : n < fs.length) : n = 0 → ∃ z, (∃ d s, Rel N x d s) ∧ Tells x fs[n] z ∧ TellsL N z (fs.drop (n + 1)) y := by
  intro e
  subst e
  cases h using TellsL.ind with
  | nil => simp at hn
  | cons h1 h2 h3 => exact ⟨_, h1, h2, h3⟩
theorem TellsL.head {N : Nat} {x y : XM} {fs : List Fr} {n : Nat} (h : TellsL N x (fs.drop n) y) (hn : n < fs.length) : ∃ z, (∃ d s, Rel N x d s) ∧ Tells x fs[n] z ∧ TellsL N z (fs.drop (n + 1)) y := by
  rw [List.drop_eq_getElem_cons hn] at h
  cases h using TellsL.ind with
  | cons h1 h2 h3 => exact ⟨_, h1, h2, h3⟩
end Go.Proofs.YtlhlmgfblbpdpaaGreatDoor
