import Derived.Test.YtjccnikmcoidhaaWrite
import Derived.Test.YtjccnikmcoidhaaPureKeep
set_option linter.unusedVariables false
set_option linter.unusedSimpArgs false
/-
  sluicekeep.wrote: frames that are right, written one behind the other.
-/
namespace Go.Proofs.Ytjccnikmcoidhaa
open Go.RowKit

/-- A list of frames that can be read. -/
structure FrsHas (w : World) (v : Value) (ps : List (Fr × Value)) : Prop where
  row : w.ownsRow 0 26 4 v ps.length (cellsOf ps)
  body : ∀ p ∈ ps, BytesIn w p.2 p.1.body

theorem FrsHas.chg {S : Nat → Prop} {w w' : World} {v : Value} {ps : List (Fr × Value)} (h : FrsHas w v ps) (hc : Chg S w w') (h1 : ∀ k, v.ownBlock = some k → ¬ S k) (h2 : ∀ p ∈ ps, ∀ k, p.2.ownBlock = some k → ¬ S k) : FrsHas w' v ps :=
  ⟨owns_chg h.row hc h1, fun p hp => (h.body p hp).chg hc (h2 p hp)⟩
theorem FrsHas.below {w w' : World} {v : Value} {ps : List (Fr × Value)} (h : FrsHas w v ps) (hb : Below w.heap.size w w') : FrsHas w' v ps := h.chg (Chg.of_below (S := fun _ => False) hb) (fun _ _ => id) (fun _ _ _ _ => id)

theorem cellsOf_get {ps : List (Fr × Value)} {k : Nat} (hk : k < ps.length) : (cellsOf ps)[k * 4]? = some (.int .i64 ps[k].1.kind) ∧ (cellsOf ps)[k * 4 + 1]? = some (.int .i64 ps[k].1.flags) ∧ (cellsOf ps)[k * 4 + 2]? = some (.int .i64 ps[k].1.stream) ∧ (cellsOf ps)[k * 4 + 3]? = some ps[k].2 := by
  induction ps generalizing k with
  | nil => simp at hk
  | cons p r ih =>
    cases k with
    | zero => simp [cellsOf]
    | succ k =>
      simp only [List.length_cons] at hk
      have := ih (k := k) (by omega)
      rw [Nat.succ_mul]
      simpa [cellsOf, Nat.add_assoc] using this

/-- The cells of the k-th frame. -/
theorem FrsHas.cells {w : World} {v : Value} {ps : List (Fr × Value)} (h : FrsHas w v ps) {k : Nat} (hk : k < ps.length) : ∃ g cap, v = .slice (some ⟨g, 0, none⟩) ps.length cap ∧ g < w.heap.size ∧ ps.length ≤ cap ∧
    w.cell? ⟨g, k * 4, none⟩ = some (.int .i64 ps[k].1.kind) ∧ w.cell? ⟨g, k * 4 + 1, none⟩ = some (.int .i64 ps[k].1.flags) ∧ w.cell? ⟨g, k * 4 + 2, none⟩ = some (.int .i64 ps[k].1.stream) ∧ w.cell? ⟨g, k * 4 + 3, none⟩ = some ps[k].2 := by
  have hr := h.row
  rcases hr.2 with ⟨_, h0⟩ | ⟨g, cap, cur, rfl, hb, hgg, hle, hmx, hs, ht⟩
  · omega
  · obtain ⟨a, b, c, d⟩ := cellsOf_get hk
    refine ⟨g, cap, rfl, (Array.getElem?_eq_some_iff.1 hgg).1, hle, ?_, ?_, ?_, ?_⟩
    · rw [hr.cellAt _ (by omega)]; exact a
    · rw [hr.cellAt _ (by omega)]; exact b
    · rw [hr.cellAt _ (by omega)]; exact c
    · rw [hr.cellAt _ (by omega)]; exact d

theorem bytesIn_len {w : World} {bv : Value} {l : List UInt8} (h : BytesIn w bv l) : ∃ sa cap, bv = .slice sa l.length cap := by
  rcases h with ⟨rfl, rfl⟩ | ⟨bb, off, cap, rfl, _⟩
  · exact ⟨_, _, rfl⟩
  · exact ⟨_, _, rfl⟩

/-- The bytes of frames. -/
def layAll (fs : List Fr) : List UInt8 := (fs.map fun f => lay f.kind f.flags f.stream f.body).flatten

def FrRight (f : Fr) : Prop := Right f.kind f.flags f.stream f.body

theorem wOk_right {k f s : Int} {body : List UInt8} (h : Right k f s body) : wOk k f s body = true := by
  have hf : fitsB k f s body.length = true := by
    simp only [fitsB, inB, Bool.and_eq_true, decide_eq_true_eq]
    exact ⟨⟨⟨⟨⟨h.k0, h.k1⟩, h.f0, h.f1⟩, h.s0⟩, h.s1⟩, h.n⟩
  simp [wOk, hf, feed_right h]

theorem layAll_next {ps : List (Fr × Value)} {k : Nat} (hk : k < ps.length) : layAll ((ps.map Prod.fst).take (k + 1)) = layAll ((ps.map Prod.fst).take k) ++ lay ps[k].1.kind ps[k].1.flags ps[k].1.stream ps[k].1.body := by
  unfold layAll
  rw [List.take_succ_eq_append_getElem (by simpa using hk), List.map_append, List.flatten_append]
  simp

theorem layAll_le {fs : List Fr} (h : ∀ f ∈ fs, f.body.length ≤ 64) : (layAll fs).length ≤ 70 * fs.length := by
  induction fs with
  | nil => simp [layAll]
  | cons f r ih =>
    have h1 := ih (fun g hg => h g (List.mem_cons_of_mem _ hg))
    have h2 := h f (List.mem_cons_self ..)
    have e : layAll (f :: r) = lay f.kind f.flags f.stream f.body ++ layAll r := by simp [layAll]
    rw [e, List.length_append, lay_length, List.length_cons]
    omega

theorem owned_slice {w : World} {b e s n : Nat} {v : Value} {xs : List Value} (h : w.ownsRow b e s v n xs) (hn : 0 < n) : ∃ g c, v = .slice (some ⟨g, 0, none⟩) n c ∧ n ≤ c := by
  rcases h.2 with ⟨_, h0⟩ | ⟨g, cap, cur, rfl, _, _, hle, _⟩
  · omega
  · exact ⟨g, cap, rfl, hle⟩

set_option maxHeartbeats 1600000 in
theorem wrote_any (g cap : Nat) (ps : List (Fr × Value)) (w : World) (h : FrsHas w (.slice (some ⟨g, 0, none⟩) ps.length cap) ps) (hr : ∀ p ∈ ps, FrRight p.1) (hn : ps.length ≤ 2097152) :
    Calls Try.prog 5 #[.slice (some ⟨g, 0, none⟩) ps.length cap] w fun e w' => ∃ v, e = .returned (.tuple #[v, .bool true]) ∧ w'.ownsRow w.heap.size 5 1 v (layAll (ps.map Prod.fst)).length ((layAll (ps.map Prod.fst)).map B) ∧ Below w.heap.size w w' := by
  obtain ⟨i0, hi, hz0, hz1, hz2⟩ := info_parts Try.info5
  have H := h
  go_enter Try.func5, Try.ntmps5
  go_wp2
  go_loopw [4, 5] (fun v i wr => ∃ k : Nat, k ≤ ps.length ∧ i = .int .i64 k ∧ wr.ownsRow w.heap.size 5 1 v (layAll ((ps.map Prod.fst).take k)).length ((layAll ((ps.map Prod.fst).take k)).map B) ∧ Below w.heap.size w wr) (fun _ i _ => ps.length - (intOf i).toNat)
  case atStart => exact ⟨0, Nat.zero_le _, rfl, World.ownsRow_nil _ _ _ _, Below.refl _ _⟩
  case round =>
    obtain ⟨k, hk, rfl, hown, hbel⟩ := hrel
    by_cases hlt : k < ps.length
    · have hwr := H.below hbel
      obtain ⟨g', cap', he, hg', hcap', a0, a1, a2, a3⟩ := hwr.cells hlt
      simp only [Value.slice.injEq, Option.some.injEq, Addr.mk.injEq, and_true, true_and] at he
      obtain ⟨rfl, rfl⟩ := he
      obtain ⟨p, hp⟩ : ∃ p, p = ps[k] := ⟨_, rfl⟩
      have hrp := hr p (by rw [hp]; exact List.getElem_mem _)
      have hbp := hwr.body p (by rw [hp]; exact List.getElem_mem _)
      rw [← hp] at a0 a1 a2 a3
      have hnext : layAll ((ps.map Prod.fst).take (k + 1)) = layAll ((ps.map Prod.fst).take k) ++ lay p.1.kind p.1.flags p.1.stream p.1.body := by
        rw [hp]; exact layAll_next hlt
      have hbound := layAll_le (fs := (ps.map Prod.fst).take k) (fun f hf => by
        have hf' := List.mem_of_mem_take hf
        obtain ⟨q, hq, rfl⟩ := List.mem_map.1 hf'
        exact (hr q hq).n)
      have hbound2 : ((ps.map Prod.fst).take k).length ≤ k := List.length_take_le _ _
      obtain ⟨⟨kd, fl, st, bd⟩, bv⟩ := p
      simp only at a0 a1 a2 a3 hrp hbp hnext
      have hok := wOk_right hrp
      have hbd : bd.length ≤ 64 := hrp.n
      obtain ⟨sa, cp, rfl⟩ := bytesIn_len hbp
      have HN := hide hnext
      have HO := hide hok
      have HR := hide hr
      have HBP := hide hbp
      clear hnext hp hok hr hbp hrp h H hwr
      go_wp2_with fail
      refine (write_any kd fl st sa bd cp wr HBP.out).mono ?_
      rintro e w1 ⟨v, rfl, hown1, -, hb1⟩
      rw [HO.out] at hown1 ⊢
      simp only [if_true] at hown1 ⊢
      obtain ⟨g2, c2, hv, hle2⟩ := owned_slice hown1 (by rw [lay_length]; omega)
      subst hv
      have d3 := (hb1.cell (p := ⟨g, k * 4 + 3, none⟩) hg').trans a3
      have hlayn : (lay kd fl st bd).length = 6 + bd.length := lay_length _ _ _ _
      rw [hlayn] at hown1 ⊢
      have hown1' := owns_base hown1 (base' := 0) (fun _ _ => Nat.zero_le _)
      have hown2 := owns_chg hown (Chg.of_below (S := fun _ => False) hb1) (fun _ _ => id)
      have hbw := hbel.trans (hb1.mono hbel.size)
      obtain ⟨out, hout⟩ : ∃ out, out = layAll ((ps.map Prod.fst).take k) := ⟨_, rfl⟩
      rw [← hout] at hown2 hbound
      have HOUT := hide hout
      clear hout hown a0 a1 a2 a3
      go_wp2_with (at_builtin; refine wpList_app _ rfl (.tmp 36) (.tmp 37) 24 rfl 5 i0 (.int .u8 0) 1 1 Try.underlying24 hi hz0 hz1 hz2 rfl (by decide) _ _ _ rfl (owns_base hown2 (fun _ _ => Nat.zero_le _)) (.slice (some ⟨g2, 0, none⟩) (6 + bd.length) c2) (6 + bd.length) ((lay kd fl st bd).map B) rfl ?c0 ?c1 ?c2 ?c3 ?c4 ?_)
      case c0 => simp [hlayn]
      case c1 => rw [← hlayn]; exact lies_of_bytesIn (bytesIn_of_owns (by rw [hlayn]; exact hown1') rfl)
      case c2 => exact bytes_one _
      case c3 => unfold maxLen; omega
      case c4 => omega
      intro v3 w3 hown3 hg3 hfr3
      go_wp2
      have hsz := hbw.size
      refine ⟨⟨k + 1, by omega, by go_num, ?_, hbw.grown hg3 hsz (fun j hj => (hown2.lt j hj).1)⟩, by simp [intOf]; omega⟩
      rw [HN.out, ← HOUT.out]
      refine owns_base (base := 0) ?_ (fun j hj => ?_)
      · rw [List.length_append, hlayn, List.map_append]; exact hown3
      · rcases hfr3 with e | e
        · rw [e] at hj; exact (hown2.lt j hj).1
        · rw [e] at hj; simp at hj; omega
    · have hke : k = ps.length := by omega
      have HK := hide hke
      have HOWN := hide hown
      clear hke hown
      go_wp2
      go_ret2
      refine ⟨_, rfl, ?_, hbel⟩
      have := HOWN.out
      rw [HK.out, List.take_of_length_le (by simp)] at this
      exact this
end Go.Proofs.Ytjccnikmcoidhaa
