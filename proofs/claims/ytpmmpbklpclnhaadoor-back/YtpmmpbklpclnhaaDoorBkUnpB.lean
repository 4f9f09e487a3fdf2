import Derived.Test.YtpmmpbklpclnhaaDoorBkUnp
import Derived.Laws.IdiomStrings
import Derived.Laws.BytesArg
set_option linter.unusedVariables false
set_option linter.unusedSimpArgs false
/-
  Package blocks: unpackBits.
-/
namespace Go.Proofs.YtpmmpbklpclnhaaDoor
set_option linter.unusedVariables false
set_option linter.unusedSimpArgs false
open Go.RowKit

theorem conv_bs {w : World} {bv : Value} {l : List UInt8} (h : BytesIn w bv l) : (convert 39 9 bv).run Tryd.prog w = .ok (.string ⟨l.toArray⟩) w := by
  rcases h with ⟨rfl, rfl⟩ | ⟨bb, off, cap, rfl, h1, h2, h3⟩
  · exact run_convert_bytes_nil w 39 5 Tryd.underlying39 Tryd.underlying5 0 0 9 Tryd.underlying9
  · refine run_convert_bytes_back w 39 9 5 ⟨bb, off, none⟩ cap l Tryd.underlying39 Tryd.underlying5 Tryd.underlying9 (fun j hj => ?_)
    have e : (⟨bb, off, none⟩ : Addr).add j = ⟨bb, off + j, none⟩ := by unfold Addr.add; split <;> simp_all
    rw [e, h3 j hj, getD_lt _ _ _ hj]

def brN (w : World) (rb : Nat) : Nat := match w.cell? ⟨rb, 1, none⟩ with
  | some (.int _ n) => n.toNat
  | _ => 0
theorem brN_of {w : World} {rb : Nat} {av : Value} {b : List UInt8} {at_ : Nat} (h : BrS w rb av b at_) : brN w rb = at_ := by
  unfold brN
  rw [h.cells.2]
  simp
/-- A text, or none. -/
def Texted (w w' : World) (q : Option (List UInt8)) (e : Ending) : Prop :=
  (∃ t, q = some t ∧ e = .returned (.string ⟨t.toArray⟩) ∧ Below w.heap.size w w') ∨ (q = none ∧ Gone e ∧ Below w.heap.size w w')
theorem below_by_chg {S : Nat → Prop} {w w1 w2 : World} (hb : Below w.heap.size w w1) (hc : Chg S w1 w2) (hs : ∀ j, j < w.heap.size → ¬ S j) : Below w.heap.size w w2 :=
  ⟨hc.os.trans hb.os, hc.tape.trans hb.tape, hc.output.trans hb.output, Nat.le_trans hb.size hc.size, fun j hj => (hc.block j (Nat.lt_of_lt_of_le hj hb.size) (hs j hj)).trans (hb.block j hj)⟩

set_option maxRecDepth 100000 in
set_option maxHeartbeats 800000 in
theorem unpackBits_any (v : Value) (b : List UInt8) (w : World) (hbi : BytesIn w v b) (hl : b.length ≤ 268435456) :
    Calls Tryd.prog 60 #[v] w fun e w' => Texted w w' (unpB (bitsB b)) e := by
  obtain ⟨i0, hi, hz0, hz1, hz2⟩ := info_parts Tryd.info5
  have hst : BrS (w.alloc (.cells #[v, .int .i64 0] 108)) w.heap.size v b 0 := ⟨heap_alloc_new w _, hbi.chg ((Chg.refl (fun _ => False) w).alloc _) (fun _ _ => id), fun e => by have := hbi.lt e; omega, Nat.zero_le _⟩
  have hb0 : Below w.heap.size w (w.alloc (.cells #[v, .int .i64 0] 108)) := (Below.refl _ _).alloc (Nat.le_refl _) _
  obtain ⟨sv, cv, hv, _⟩ := bytesIn_len hbi
  subst hv
  have HST := hide hst
  have HB0 := hide hb0
  have HBI := hide hbi
  clear hst hb0 hbi
  go_enter Tryd.func60, Tryd.ntmps60
  go_wp2
  go_loopw [4] (fun tv wr => ∃ (at_ : Nat) (t : List UInt8), BrS wr w.heap.size (.slice sv b.length cv) b at_ ∧ wr.ownsRow w.heap.size 5 1 tv t.length (t.map B) ∧ Below w.heap.size w wr ∧ t.length ≤ at_ ∧ unpB (bitsB b) = (unpB ((bitsB b).drop at_)).map (t ++ ·)) (fun _ wr => 8 * b.length - brN wr w.heap.size)
  case atStart => exact ⟨0, [], HST.out, World.ownsRow_nil _ _ _ _, HB0.out, Nat.le_refl _, by simp⟩
  case round =>
    obtain ⟨at_, t, hbr, how, hbel, htl, heq⟩ := hrel
    have hle := hbr.le
    have hof := onlyFill_any w.heap.size _ b at_ wr hbr (by omega)
    obtain ⟨st, ct, hvt⟩ := slice_len how
    subst hvt
    have HOF := hide hof
    have HBR := hide hbr
    have HOW := hide how
    have HB := hide hbel
    have HEQ := hide heq
    clear hof hbr how hbel heq
    cases hfill : fillB ((bitsB b).drop at_) with
    | true =>
      rw [hfill] at HOF
      have HU := hide (unpB_fill hfill)
      go_wp2_with fail
      refine HOF.out.mono ?_
      rintro e w1 ⟨rfl, hb1⟩
      have hB1 := HB.out.trans (hb1.mono HB.out.size)
      have hcv := conv_bs (bytesIn_of_owns (owns_chg HOW.out (Chg.of_below (S := fun _ => False) hb1) (fun _ _ => id)) rfl)
      have HB1 := hide hB1
      clear hb1 hB1
      go_wp2
      go_ret
      refine Or.inl ⟨t, ?_, rfl, HB1.out⟩
      rw [HEQ.out, HU.out]
      simp
    | false =>
      rw [hfill] at HOF
      go_wp2_with fail
      refine HOF.out.mono ?_
      rintro e w1 ⟨rfl, hb1⟩
      have hbr1 := HBR.out.chg (Chg.of_below (S := fun _ => False) hb1) id (fun _ _ => id)
      have hB1 := HB.out.trans (hb1.mono HB.out.size)
      have how1 := owns_chg HOW.out (Chg.of_below (S := fun _ => False) hb1) (fun _ _ => id)
      have htb := takeByte_any w.heap.size _ b at_ w1 hbr1 (by omega)
      have HTB := hide htb
      have HB1 := hide hB1
      have HOW1 := hide how1
      have HBR1 := hide hbr1
      clear hb1 hB1 how1 htb hbr1
      go_wp2_with fail
      refine HTB.out.mono ?_
      rintro e w2 (⟨c, r, at', hq, rfl, hbr2, hr, hc2⟩ | ⟨hq, he, hc2⟩)
      · have hun := unpB_next hfill hq
        have hlt := decB_shorter hq
        have hB2 := below_by_chg HB1.out hc2 (fun j hj e => by omega)
        have how2 := owns_chg HOW1.out hc2 (fun j hj e => by subst e; exact owns_ne HOW1.out HBR1.out.blk (by decide) hj)
        rw [← hr, List.length_drop, List.length_drop, bitsB_length] at hlt
        have hle2 := hbr2.le
        have HUN := hide hun
        have HB2 := hide hB2
        have HOW2 := hide how2
        have HBR2 := hide hbr2
        have HR := hide hr
        clear hq hun hB2 how2 hbr2 hr hc2
        go_wp2_with (at_builtin; refine wpList_app _ rfl (.tmp 9) (.tmp 11) 39 rfl 5 i0 (.int .u8 0) 1 1 Tryd.underlying39 hi hz0 hz1 hz2 rfl (by decide) _ _ _ rfl ((owns_base HOW2.out (fun _ _ => Nat.zero_le _)).alloc _) (.slice (some ⟨w2.heap.size, 0, none⟩) 1 1) 1 [.int .u8 c.toNat] rfl rfl (lies_one (by simp)) (one_u8 _) ?c3 ?c4 ?_)
        case c3 => unfold maxLen; omega
        case c4 => omega
        intro v3 w3 hown3 hg3 hf3
        have hc3 : Chg (fun j => (Value.slice st t.length ct).ownBlock = some j) w2 w3 := ((Chg.refl _ _).alloc _).trans (Chg.of_grown hg3 (fun j hj => Or.inr hj))
        have hne3 : (Value.slice st t.length ct).ownBlock ≠ some w.heap.size := owns_ne HOW2.out HBR2.out.blk (by decide)
        have hbr3 := HBR2.out.chg hc3 hne3 (fun j hj e => by
          have h1 := HBI.out.lt hj
          have h2 := (HOW2.out.lt j e).1
          omega)
        have hB3 := below_by_chg HB2.out hc3 (fun j hj e => by have := (HOW2.out.lt j e).1; omega)
        have hs2 := HB2.out.size
        have how3 : w3.ownsRow w.heap.size 5 1 v3 (t ++ [c]).length ((t ++ [c]).map B) := by
          rw [List.length_append, List.map_append]
          refine owns_base hown3 (fun j hj => ?_)
          rcases hf3 with e | e
          · rw [e] at hj; exact (HOW2.out.lt j hj).1
          · rw [e] at hj; simp at hj; omega
        have HBR3 := hide hbr3
        have HB3 := hide hB3
        have HOW3 := hide how3
        clear hown3 hg3 hf3 hc3 hbr3 hB3 how3 hne3
        go_wp2
        refine ⟨⟨at', t ++ [c], HBR3.out, HOW3.out, HB3.out, ?_, ?_⟩, ?_⟩
        · simp; omega
        · rw [HEQ.out, HUN.out, HR.out]
          cases unpB r with
          | none => rfl
          | some z => simp
        · rw [brN_of HBR3.out, brN_of HBR.out]; omega
      · have HE : Hid (unpB (bitsB b) = none) := by show _ = _; rw [HEQ.out, unpB_none hfill hq]; rfl
        have hB2 := below_by_chg HB1.out hc2 (fun j hj e => by omega)
        rw [he]
        exact ⟨rfl, Or.inr ⟨HE.out, rfl, hB2⟩⟩
end Go.Proofs.YtpmmpbklpclnhaaDoor
