import Derived.Test.YtdccldbefdfppaaGreatDoorQGak
import Derived.Test.YtdccldbefdfppaaGreatDoorQGai
import Derived.BigRegion
set_option linter.unusedVariables false
set_option linter.unusedSimpArgs false
/-
  Package ends: makeAnswer, makeReset.
-/
namespace Go.Proofs.YtdccldbefdfppaaGreatDoor
set_option linter.unusedVariables false
set_option linter.unusedSimpArgs false
open Go.RowKit

/-- A frame was made, or there was none. -/
def MadeO (w w' : World) (eb mb : Nat) (g : GEnd) (o : Option GEnd) (e : Ending) : Prop := match o with
  | none => e = .returned (.bool false) ∧ Below w.heap.size w w'
  | some q => e = .returned (.bool true) ∧ ∃ g', g'.bare = q.bare ∧ Next w w' eb mb g g'

theorem own_shape {v : Value} {j : Nat} (h : v.ownBlock = some j) : ∃ a n c, v = .slice (some a) n c := by
  cases v with
  | slice s n c =>
    cases s with
    | none => simp [Value.ownBlock] at h
    | some a => exact ⟨a, n, c, rfl⟩
  | _ => simp [Value.ownBlock] at h
/-- The row but its first. -/
theorem RowAt.tail {w : World} {e : TypeId} {size n : Nat} {g o cap : Nat} {x xs : List Value} (hx : x.length = size) (h : RowAt w e size (.slice (some ⟨g, o, none⟩) (n + 1) cap) (n + 1) (x ++ xs)) : RowAt w e size (.slice (some ⟨g, o + size, none⟩) n (cap - 1)) n xs ∧ (cap = 1 → RowAt w e size (.slice (some ⟨g, o, none⟩) 0 0) n xs ∧ n = 0) := by
  obtain ⟨h0, h1⟩ := h
  rcases h1 with ⟨h1, -⟩ | ⟨g', o', cap', cur, h1, h3, h4, h5, h6, h7⟩
  · cases h1
  · simp only [Value.slice.injEq, Option.some.injEq, Addr.mk.injEq, and_true, true_and] at h1
    obtain ⟨⟨rfl, rfl⟩, rfl⟩ := h1
    rw [List.length_append, hx, Nat.add_mul, Nat.one_mul] at h0
    have hl : xs.length = n * size := by omega
    rw [Nat.add_mul, Nat.one_mul] at h7
    have h6' : o + size + (cap - 1) * size ≤ cur.size := by
      have e : cap * size = size + (cap - 1) * size := by
        have : cap = (cap - 1) + 1 := by omega
        rw [this, Nat.add_mul, Nat.one_mul, Nat.add_sub_cancel]
        omega
      omega
    have ht : (cur.toList.drop (o + size)).take (n * size) = xs := by
      have : ((cur.toList.drop o).take (n * size + size)).drop size = xs := by rw [h7, List.drop_left' hx]
      rw [List.drop_take, List.drop_drop, Nat.add_sub_cancel] at this
      exact this
    refine ⟨⟨hl, Or.inr ⟨g, o + size, cap - 1, cur, rfl, h3, by omega, by omega, h6', ht⟩⟩, fun hc => ?_⟩
    have hn : n = 0 := by omega
    subst hn
    refine ⟨⟨hl, Or.inr ⟨g, o, 0, cur, rfl, h3, Nat.le_refl _, Nat.zero_le _, by omega, ?_⟩⟩, rfl⟩
    rw [Nat.zero_mul, List.take_zero]
    rw [Nat.zero_mul] at hl
    exact (List.length_eq_zero_iff.1 hl).symm
theorem RowAt.cellAt {w : World} {e : TypeId} {size n : Nat} {g o cap : Nat} {xs : List Value} (h : RowAt w e size (.slice (some ⟨g, o, none⟩) n cap) n xs) {i : Nat} (hi : i < n * size) : w.cell? ⟨g, o + i, none⟩ = xs[i]? := by
  obtain ⟨h0, h1⟩ := h
  rcases h1 with ⟨h1, -⟩ | ⟨g', o', cap', cur, h1, h3, h4, h5, h6, h7⟩
  · cases h1
  · simp only [Value.slice.injEq, Option.some.injEq, Addr.mk.injEq, and_true, true_and] at h1
    obtain ⟨⟨rfl, rfl⟩, rfl⟩ := h1
    rw [cell_of_row w g _ _ _ _ h3, ← h7, List.getElem?_take, if_pos hi, List.getElem?_drop, Array.getElem?_toList]
theorem RowAt.shape {w : World} {e : TypeId} {size n : Nat} {v : Value} {xs : List Value} (h : RowAt w e size v (n + 1) xs) : ∃ g o cap, v = .slice (some ⟨g, o, none⟩) (n + 1) cap ∧ n + 1 ≤ cap ∧ cap ≤ maxLen ∧ g < w.heap.size := by
  rcases h.2 with ⟨_, h1⟩ | ⟨g', o', cap', cur, h1, h3, h4, h5, h6, h7⟩
  · omega
  · exact ⟨_, _, _, h1, h4, h5, lt_of_block h3⟩
theorem RowAt.len {w : World} {e : TypeId} {size n : Nat} {v : Value} {xs : List Value} (h : RowAt w e size v n xs) : ∃ s cap, v = .slice s n cap := by
  rcases h.2 with ⟨rfl, rfl⟩ | ⟨g', o', cap', cur, h1, h3, h4, h5, h6, h7⟩
  · exact ⟨_, _, rfl⟩
  · exact ⟨_, _, h1⟩

set_option maxRecDepth 100000 in
set_option maxHeartbeats 1600000 in
theorem i_makeAnswer (eb mb : Nat) (g : GEnd) (w : World) (h : Inv w eb mb g) (hf : FineB g) (hl : g.out.length ≤ 1073741824) :
    Calls Tryz.prog 83 #[.pointer (some ⟨eb, 0, none⟩)] w fun e w' => MadeO w w' eb mb g g.oAnswer e := by
  have c42 := h.en.c42
  cases ha : g.ans with
  | nil =>
    have hr := h.ans
    rw [ha] at hr
    obtain ⟨s, cap, hv⟩ := hr.len
    rw [hv] at c42
    have ho : g.oAnswer = none := by unfold GEnd.oAnswer; rw [ha]
    rw [ho]
    clear h hf ha hr hv ho
    go_enter Tryz.func83, Tryz.ntmps83
    go_wp2
    go_ret
    exact ⟨rfl, Below.refl _ _⟩
  | cons a r =>
    have hr := h.ans
    rw [ha, List.length_cons, List.flatMap_cons] at hr
    obtain ⟨ga, oa, ca, hv, hca, hcm, hga⟩ := hr.shape
    rw [hv] at c42 hr
    obtain ⟨ht1, ht2⟩ := RowAt.tail (x := a.cells) rfl hr
    have k0 : w.cell? ⟨ga, oa, none⟩ = some (.int .i64 a.kind) := by have := hr.cellAt (i := 0) (by omega); rw [Nat.add_zero] at this; rw [this]; rfl
    have k1 : w.cell? ⟨ga, oa + 1, none⟩ = some (.int .i64 a.flags) := by rw [hr.cellAt (i := 1) (by omega)]; rfl
    have k2 : w.cell? ⟨ga, oa + 2, none⟩ = some (.int .i64 0) := by rw [hr.cellAt (i := 2) (by omega)]; rfl
    have k3 : w.cell? ⟨ga, oa + 3, none⟩ = some a.bv := by rw [hr.cellAt (i := 3) (by omega)]; rfl
    have ham : a ∈ g.ans := by rw [ha]; exact List.mem_cons_self
    obtain ⟨f1, f2, f3, f4, f5⟩ := hf.ans a ham
    have hb := h.anb a ham
    obtain ⟨sa, cap, hbv⟩ := slice_len hb
    rw [hbv] at hb k3
    have HP := hide (en_put eb g.m g.out a.kind a.flags 0 sa a.body cap w h.en hf.greets h.out hl f1 f2 f3 f4 (by omega) (by omega) f5 (bytesIn_of_owns hb rfl))
    have ho : g.oAnswer = some { g with ans := r, out := g.out ++ lay a.kind a.flags 0 a.body } := by unfold GEnd.oAnswer; rw [ha]
    rw [ho]
    -- what is left behind the frame
    have HN : Hid (∀ (w1 : World) (v vt : Value), Put w w1 eb g.m g.out (lay a.kind a.flags 0 a.body) v → (vt.ownBlock = some ga) → RowAt w 48 4 vt r.length (r.flatMap Ans.cells) → MadeO w (w1.setCell ⟨eb, 42, none⟩ vt) eb mb g (some { g with ans := r, out := g.out ++ lay a.kind a.flags 0 a.body }) (.returned (.bool true))) := fun w1 v vt hp hvt hrow => by
      have hn := h.put rfl rfl rfl rfl rfl rfl hp
      have hrow1 : RowAt w1 48 4 vt r.length (r.flatMap Ans.cells) := hrow.chg hp.chg (fun j hj e => by
        rcases e with e | e
        · rw [e] at hj; exact hrow.ne h.en.blk (by decide) hj
        · exact rows_ne2 h.out hrow (by decide) e hj)
      have hn2 := hn.inv.onEnd (S := fun j => j = eb) (w' := w1.setCell ⟨eb, 42, none⟩ vt) (m' := { g.m with out := v, answers := vt }) (A' := r) (o' := g.out ++ lay a.kind a.flags 0 a.body) (R' := g.res) (chg_set (Chg.refl _ _) rfl) (fun j e => Or.inl e) (EnB.of (blk_set hp.b.blk) rfl) rfl rfl rfl
        (owns_chg hn.inv.out (chg_set (S := fun j => j = eb) (Chg.refl _ _) rfl) (fun j hj e => by rw [e] at hj; exact owns_ne hn.inv.out hn.inv.en.blk (by decide) hj)) (fun j hj => Or.inl hj) hrow1 (fun b hb => by rw [show ({ g with m := { g.m with out := v }, out := g.out ++ lay a.kind a.flags 0 a.body } : GEnd).ans = g.ans from rfl, ha]; exact List.mem_cons_of_mem _ hb) (fun j hj => by
          have e1 : ({ g.m with out := v, answers := vt } : EndM).answers.ownBlock = some ga := hvt
          rw [e1] at hj
          rw [← hj]
          show g.m.answers.ownBlock = _
          rw [hv]; rfl) hn.inv.res (fun j hj => hj)
      refine ⟨rfl, _, ?_, hn.trans hn2⟩
      obtain ⟨sx, lx, cx, hvx⟩ := own_shape hvt
      subst hvx
      unfold GEnd.bare EndM.bare
      simp only [hv]
      rfl
    have hlt := h.en.lt
    clear h hf ha hr ho hb ham
    have hn1 : 1 ≤ r.length + 1 := by omega
    by_cases hc1 : ca = 1
    · obtain ⟨ht3, hn0⟩ := ht2 hc1
      subst hc1
      have hr0 : r.length + 1 = 1 := by omega
      rw [hr0] at c42 hv
      have HT := hide ht3
      have HV := hide hv
      clear ht1 ht2 ht3 hv hbv hn0 hr0
      go_enter Tryz.func83, Tryz.ntmps83
      go_wp2_with fail
      refine HP.out.mono ?_
      rintro e w1 ⟨rfl, v, hp⟩
      have d42 : w1.cell? ⟨eb, 42, none⟩ = some (.slice (some ⟨ga, oa, none⟩) 1 1) := by rw [hp.b.c42]; exact congrArg some HV.out
      have f42 := hp.b.fr 42
      have HPP := hide hp
      clear hp
      go_wp2
      go_ret
      exact HN.out w1 v _ HPP.out rfl HT.out
    · have HT := hide ht1
      have HV := hide hv
      have hc2 : 1 ≤ ca := by omega
      clear ht1 ht2 hv hbv
      go_enter Tryz.func83, Tryz.ntmps83
      go_wp2_with fail
      refine HP.out.mono ?_
      rintro e w1 ⟨rfl, v, hp⟩
      have d42 : w1.cell? ⟨eb, 42, none⟩ = some (.slice (some ⟨ga, oa, none⟩) (r.length + 1) ca) := by rw [hp.b.c42]; exact congrArg some HV.out
      have f42 := hp.b.fr 42
      have HPP := hide hp
      clear hp
      go_wp2
      go_ret
      exact HN.out w1 v _ HPP.out rfl HT.out

set_option maxRecDepth 100000 in
set_option maxHeartbeats 1600000 in
theorem i_makeReset (eb mb : Nat) (g : GEnd) (w : World) (h : Inv w eb mb g) (hf : FineB g) (hl : g.out.length ≤ 1073741824) :
    Calls Tryz.prog 88 #[.pointer (some ⟨eb, 0, none⟩)] w fun e w' => MadeO w w' eb mb g g.oReset e := by
  have c43 := h.en.c43
  cases ha : g.res with
  | nil =>
    have hr := h.res
    rw [ha] at hr
    obtain ⟨s, cap, hv⟩ := hr.len
    rw [hv] at c43
    have ho : g.oReset = none := by unfold GEnd.oReset; rw [ha]
    rw [ho]
    clear h hf ha hr hv ho
    go_enter Tryz.func88, Tryz.ntmps88
    go_wp2
    go_ret
    exact ⟨rfl, Below.refl _ _⟩
  | cons a r =>
    have hr := h.res
    rw [ha, List.length_cons, List.map_cons] at hr
    obtain ⟨ga, oa, ca, hv, hca, hcm, hga⟩ := hr.shape
    rw [hv] at c43 hr
    obtain ⟨ht1, ht2⟩ := RowAt.tail (x := [.int .i64 a]) rfl hr
    have k0 : w.cell? ⟨ga, oa, none⟩ = some (.int .i64 a) := by have := hr.cellAt (i := 0) (by omega); rw [Nat.add_zero] at this; rw [this]; rfl
    have ham : a ∈ g.res := by rw [ha]; exact List.mem_cons_self
    obtain ⟨f1, f2⟩ := hf.res a ham
    have HP : Hid (∀ w0, Below w.heap.size w w0 → BytesIn w0 (.slice (some ⟨w.heap.size, 0, none⟩) 1 1) [0] → Calls Tryz.prog 111 #[.pointer (some ⟨eb, 0, none⟩), .agg #[.int .i64 2, .int .i64 0, .int .i64 a, .slice (some ⟨w.heap.size, 0, none⟩) 1 1]] w0 fun e w' => e = .returned (.tuple #[]) ∧ ∃ v, Put w w' eb g.m g.out (lay 2 0 a [0]) v) := fun w0 hb0 hby => by
      have h0 := h.below hb0
      refine (en_put eb g.m g.out 2 0 a _ [0] 1 w0 h0.en hf.greets h0.out hl (by omega) (by omega) (by omega) (by omega) f1 f2 (by decide) hby).mono ?_
      rintro e w' ⟨rfl, v, hp⟩
      exact ⟨rfl, v, hp.pre (w := w) (Chg.refl _ _) hb0⟩
    have ho : g.oReset = some { g with res := r, out := g.out ++ lay 2 0 a [0] } := by unfold GEnd.oReset; rw [ha]
    rw [ho]
    -- what is left behind the frame
    have HN : Hid (∀ (w1 : World) (v vt : Value), Put w w1 eb g.m g.out (lay 2 0 a [0]) v → (vt.ownBlock = some ga) → RowAt w 3 1 vt r.length (r.map fun i => .int .i64 i) → MadeO w (w1.setCell ⟨eb, 43, none⟩ vt) eb mb g (some { g with res := r, out := g.out ++ lay 2 0 a [0] }) (.returned (.bool true))) := fun w1 v vt hp hvt hrow => by
      have hn := h.put rfl rfl rfl rfl rfl rfl hp
      have hrow1 : RowAt w1 3 1 vt r.length (r.map fun i => .int .i64 i) := hrow.chg hp.chg (fun j hj e => by
        rcases e with e | e
        · rw [e] at hj; exact hrow.ne h.en.blk (by decide) hj
        · exact rows_ne2 h.out hrow (by decide) e hj)
      have hn2 := hn.inv.onEnd (S := fun j => j = eb) (w' := w1.setCell ⟨eb, 43, none⟩ vt) (m' := { g.m with out := v, resets := vt }) (A' := g.ans) (o' := g.out ++ lay 2 0 a [0]) (R' := r) (chg_set (Chg.refl _ _) rfl) (fun j e => Or.inl e) (EnB.of (blk_set hp.b.blk) rfl) rfl rfl rfl
        (owns_chg hn.inv.out (chg_set (S := fun j => j = eb) (Chg.refl _ _) rfl) (fun j hj e => by rw [e] at hj; exact owns_ne hn.inv.out hn.inv.en.blk (by decide) hj)) (fun j hj => Or.inl hj) hn.inv.ans (fun b hb => hb) (fun j hj => hj) hrow1 (fun j hj => by
          have e1 : ({ g.m with out := v, resets := vt } : EndM).resets.ownBlock = some ga := hvt
          rw [e1] at hj
          rw [← hj]
          show g.m.resets.ownBlock = _
          rw [hv]; rfl)
      refine ⟨rfl, _, ?_, hn.trans hn2⟩
      obtain ⟨sx, lx, cx, hvx⟩ := own_shape hvt
      subst hvx
      unfold GEnd.bare EndM.bare
      simp only [hv]
      rfl
    have hlt := h.en.lt
    clear h hf ha hr ho ham
    have hn1 : 1 ≤ r.length + 1 := by omega
    by_cases hc1 : ca = 1
    · obtain ⟨ht3, hn0⟩ := ht2 hc1
      subst hc1
      have hr0 : r.length + 1 = 1 := by omega
      rw [hr0] at c43 hv
      have HT := hide ht3
      have HV := hide hv
      clear ht1 ht2 ht3 hv hn0 hr0
      go_enter Tryz.func88, Tryz.ntmps88
      go_wp2_with fail
      refine (HP.out _ ?b1 ?b2).mono ?_
      case b1 => exact (Below.refl _ _).alloc (Nat.le_refl _) _
      case b2 => exact Or.inr ⟨_, 0, 1, rfl, by simp, by simp, fun i hi => by have : i = 0 := (by simpa using hi); subst this; exact one_alloc _ _ _⟩
      rintro e w1 ⟨rfl, v, hp⟩
      have d43 : w1.cell? ⟨eb, 43, none⟩ = some (.slice (some ⟨ga, oa, none⟩) 1 1) := by rw [hp.b.c43]; exact congrArg some HV.out
      have f43 := hp.b.fr 43
      have HPP := hide hp
      clear hp
      go_wp2
      go_ret
      exact HN.out w1 v _ HPP.out rfl HT.out
    · have HT := hide ht1
      have HV := hide hv
      have hc2 : 1 ≤ ca := by omega
      clear ht1 ht2 hv
      go_enter Tryz.func88, Tryz.ntmps88
      go_wp2_with fail
      refine (HP.out _ ?b1 ?b2).mono ?_
      case b1 => exact (Below.refl _ _).alloc (Nat.le_refl _) _
      case b2 => exact Or.inr ⟨_, 0, 1, rfl, by simp, by simp, fun i hi => by have : i = 0 := (by simpa using hi); subst this; exact one_alloc _ _ _⟩
      rintro e w1 ⟨rfl, v, hp⟩
      have d43 : w1.cell? ⟨eb, 43, none⟩ = some (.slice (some ⟨ga, oa, none⟩) (r.length + 1) ca) := by rw [hp.b.c43]; exact congrArg some HV.out
      have f43 := hp.b.fr 43
      have HPP := hide hp
      clear hp
      go_wp2
      go_ret
      exact HN.out w1 v _ HPP.out rfl HT.out
end Go.Proofs.YtdccldbefdfppaaGreatDoor
/-
  Package ends: makeNext, where nothing is to be announced or sent.
-/
namespace Go.Proofs.YtdccldbefdfppaaGreatDoor
set_option linter.unusedVariables false
set_option linter.unusedSimpArgs false
open Go.RowKit

section
variable {w w' : World} {eb mb : Nat} {g : GEnd} {e : Ending}
theorem MadeO.pre {o : Option GEnd} {w0 : World} (h : MadeO w w' eb mb g o e) (hb : Below w0.heap.size w0 w) : MadeO w0 w' eb mb g o e := by
  cases o with
  | none => exact ⟨h.1, hb.trans (h.2.mono hb.size)⟩
  | some q => obtain ⟨h1, g', h2, h3⟩ := h; exact ⟨h1, g', h2, h3.pre hb⟩
theorem MadeB.made {m' : EndM} {new : List UInt8} {c : Bool} (h : Inv w eb mb g) (hm : MadeB w w' eb g.m m' g.out new c e) (h1 : m'.known = g.m.known) (h2 : m'.opn = g.m.opn) (h3 : m'.got = g.m.got) (h4 : m'.out = g.m.out) (h5 : m'.answers = g.m.answers) (h6 : m'.resets = g.m.resets) {o : Option GEnd} (ho : o = if c then some { g with m := m', out := g.out ++ new } else none) : MadeO w w' eb mb g o e := by
  obtain ⟨he, hr⟩ := hm
  cases c with
  | false => simp only [Bool.false_eq_true, if_false] at hr ho; rw [ho]; exact ⟨he, hr⟩
  | true =>
    simp only [if_true] at hr ho
    obtain ⟨v, hp⟩ := hr
    rw [ho]
    refine ⟨he, _, ?_, h.put h1 h2 h3 h4 h5 h6 hp⟩
    rfl
theorem four4_toNat {n : Nat} {i : Int} (h : i = n) : four4 i.toNat = four4 n := by rw [h, Int.toNat_natCast]
theorem i_makeFirst (h : Inv w eb mb g) (hf : FineB g) (hl : g.out.length ≤ 1073741824) : Calls Tryz.prog 82 #[.pointer (some ⟨eb, 0, none⟩)] w fun e w' => MadeO w w' eb mb g g.oFirst e := by
  have hw := hf.wanted
  obtain ⟨n, hn⟩ : ∃ n : Nat, g.m.wanted = n := ⟨g.m.wanted.toNat, by omega⟩
  refine (makeFirst_any eb g.m g.out w n h.en hf.greets hn (by omega) h.out hl).mono ?_
  intro e w' hm
  refine hm.made h rfl rfl rfl rfl rfl rfl ?_
  unfold GEnd.oFirst
  rw [four4_toNat hn]
  cases g.m.told <;> rfl
theorem i_makeSettings (h : Inv w eb mb g) (hf : FineB g) (hl : g.out.length ≤ 1073741824) : Calls Tryz.prog 84 #[.pointer (some ⟨eb, 0, none⟩)] w fun e w' => MadeO w w' eb mb g g.oSettings e := by
  have hw := hf.wanted
  obtain ⟨n, hn⟩ : ∃ n : Nat, g.m.wanted = n := ⟨g.m.wanted.toNat, by omega⟩
  refine (makeSettings_any eb g.m g.out w n h.en hf.greets hn (by omega) h.out hl).mono ?_
  intro e w' hm
  refine hm.made h rfl rfl rfl rfl rfl rfl ?_
  unfold GEnd.oSettings
  rw [four4_toNat hn]
  cases (g.m.waits || g.m.wanted == g.m.made) <;> rfl
theorem i_makePing (h : Inv w eb mb g) (hf : FineB g) (hl : g.out.length ≤ 1073741824) : Calls Tryz.prog 85 #[.pointer (some ⟨eb, 0, none⟩)] w fun e w' => MadeO w w' eb mb g g.oPing e := by
  refine (makePing_any eb g.m g.out w h.en hf.greets hf.pnum h.out hl).mono ?_
  intro e w' hm
  refine hm.made h rfl rfl rfl rfl rfl rfl ?_
  unfold GEnd.oPing
  cases (g.m.under && !g.m.pinged) <;> rfl
theorem i_makeCredit (h : Inv w eb mb g) (hf : FineB g) (hl : g.out.length ≤ 1073741824) : Calls Tryz.prog 86 #[.pointer (some ⟨eb, 0, none⟩)] w fun e w' => MadeO w w' eb mb g g.oCredit e := by
  have hw := hf.owed
  have hr := hf.receive
  obtain ⟨n, hn⟩ : ∃ n : Nat, g.m.owed = n := ⟨g.m.owed.toNat, by omega⟩
  refine (makeCredit_any eb g.m g.out w n h.en hf.greets hn (by omega) (by omega) (by omega) h.out hl).mono ?_
  intro e w' hm
  refine hm.made h rfl rfl rfl rfl rfl rfl ?_
  unfold GEnd.oCredit
  rw [four4_toNat hn]
theorem i_makeStreamCredit (h : Inv w eb mb g) (hf : FineB g) (hl : g.out.length ≤ 1073741824) : Calls Tryz.prog 87 #[.pointer (some ⟨eb, 0, none⟩)] w fun e w' => MadeO w w' eb mb g g.oStream e := by
  have ho := hf.own
  refine (makeStreamCredit_any eb g.m (openS g.K g.L) g.out w h.en hf.greets h.open (by rw [openS_length]; exact hf.few) h.out hl (by omega) (by omega) (fun p hp => ?_)).mono ?_
  · obtain ⟨n, hn, rfl⟩ := List.mem_map.1 hp
    obtain ⟨q1, q2, q3, q4⟩ := hf.st _ (h.at hn).1
    exact ⟨by show _ ≤ (atN g.K n).st.receive; omega, by show (atN g.K n).st.receive ≤ _; omega, q2.1, q2.2, q3.1, q3.2⟩
  · intro e w' hm
    rw [firstDue_openS] at hm
    unfold GEnd.oStream
    cases hd : firstDueN g.m g.K g.L with
    | none => rw [hd] at hm; exact hm
    | some n =>
      rw [hd] at hm
      obtain ⟨he, v, hen, hst, hrow, hc, hfr⟩ := hm
      have hn := firstDueN_mem hd
      obtain ⟨hmem, hnum⟩ := h.at hn
      have hne : ∀ j, ¬ (j = eb ∨ j = (atN g.K n).sb ∨ g.m.out.ownBlock = some j) ∨ (j = eb ∨ j = (atN g.K n).sb ∨ g.m.out.ownBlock = some j) := fun j => (Classical.em _).symm
      have keep : ∀ {k : Nat} {v' : Value} {xs : List Value} {ty : TypeId}, w.ownsRow 0 ty 1 v' k xs → (∀ j, v'.ownBlock = some j → j ≠ eb ∧ j ≠ (atN g.K n).sb ∧ g.m.out.ownBlock ≠ some j) → w'.ownsRow 0 ty 1 v' k xs := fun hr hj => owns_chg hr hc (fun j hjj e => by
        obtain ⟨a, b, c⟩ := hj j hjj
        rcases e with e | e | e
        · exact a e
        · exact b e
        · exact c e)
      refine ⟨he, _, ?_, h.onSt (S := fun j => j = eb ∨ j = (atN g.K n).sb ∨ g.m.out.ownBlock = some j) (m' := { g.m with out := v }) (s := atN g.K n) (s' := (atN g.K n).granted) (L' := g.L) (o' := g.out ++ lay 6 0 n (four4 (atN g.K n).st.owed.toNat)) 0 hmem hc ?_ hen hst rfl rfl rfl rfl rfl rfl ?_ (fun j hj => Or.inl hj) (List.Sublist.refl _) ?_ ?_ ?_ (fun j hj => Or.inl hj) ?_ (fun j hj => Or.inl hj)⟩
      · rw [hnum, updN_const h.nn hmem hnum]
        rfl
      · rintro j (e | e | e)
        · exact Or.inl e
        · exact Or.inr (Or.inl e)
        · exact Or.inr (Or.inr (Or.inr (Or.inl e)))
      · exact keep h.row (fun j hj => ⟨fun e => by rw [e] at hj; exact owns_ne h.row h.en.blk (by decide) hj, fun e => by rw [e] at hj; exact owns_ne h.row (h.st hmem).blk (by decide) hj, fun e => rows_ne h.out h.row (by decide) e hj⟩)
      · have e : (atN g.K n).str.2.number = n := hnum
        rw [e] at hrow
        exact hrow
      · intro j hj
        exact (hfr j hj).imp_right fun a => ⟨a, rfl⟩
      · exact keep (h.un (atN g.K n) hmem) (fun j hj => ⟨fun e => by rw [e] at hj; exact owns_ne (h.un _ hmem) h.en.blk (by decide) hj, fun e => by rw [e] at hj; exact owns_ne (h.un _ hmem) (h.st hmem).blk (by decide) hj, fun e => h.out_un hmem hj e⟩)
      · exact keep (h.wa (atN g.K n) hmem) (fun j hj => ⟨fun e => by rw [e] at hj; exact owns_ne (h.wa _ hmem) h.en.blk (by decide) hj, fun e => by rw [e] at hj; exact owns_ne (h.wa _ hmem) (h.st hmem).blk (by decide) hj, fun e => h.out_wa hmem hj e⟩)

def lenV' (v : Value) : Nat := match v with
  | .slice _ n _ => n
  | _ => 0
theorem nextS_none {ld : Int} {f : Str → Bool} : ∀ {L : List Str}, (∀ p ∈ L, f p = false) → nextS ld f L none = none
  | [], _ => rfl
  | p :: r, h => by
    rw [nextS, if_neg (by rw [h p List.mem_cons_self]; simp)]
    exact nextS_none fun q hq => h q (List.mem_cons_of_mem _ hq)
theorem i_makeHeaders (h : Inv w eb mb g) (hf : Fine g) : Calls Tryz.prog 89 #[.pointer (some ⟨eb, 0, none⟩)] w fun e w' => e = .returned (.bool false) ∧ Below w.heap.size w w' :=
  makeHeaders_no eb g.m (openS g.K g.L) w h.en h.open (by rw [openS_length]; exact hf.few) (fun p hp => by
    obtain ⟨n, hn, rfl⟩ := List.mem_map.1 hp
    exact (hf.st _ (h.at hn).1).2.2.2.2.1)
theorem i_makeData (h : Inv w eb mb g) (hf : Fine g) : Calls Tryz.prog 90 #[.pointer (some ⟨eb, 0, none⟩)] w fun e w' => e = .returned (.bool false) ∧ Below w.heap.size w w' := by
  have ho := hf.other
  have hlen : ∀ s ∈ g.K, lenV' s.st.waiting = s.wa.length ∧ s.st.some? s.wa.length := fun s hs => by
    obtain ⟨a, c, e⟩ := slice_len (h.wa s hs)
    exact ⟨by rw [e]; rfl, a, c, e⟩
  refine makeData_no eb g.m (openS g.K g.L) (fun p => lenV' p.2.waiting) w h.en h.open (by rw [openS_length]; exact hf.few) (fun p hp => ?_) (by omega) (by omega) (fun p hp => ?_) (nextS_none fun p hp => ?_)
  all_goals
    obtain ⟨n, hn, rfl⟩ := List.mem_map.1 hp
    obtain ⟨hmem, hnum⟩ := h.at hn
    obtain ⟨q1, q2, q3, q4, q5, q6⟩ := hf.st _ hmem
    obtain ⟨e1, e2⟩ := hlen _ hmem
  · show (atN g.K n).st.some? (lenV' (atN g.K n).st.waiting)
    rw [e1]; exact e2
  · exact ⟨by show _ ≤ (atN g.K n).st.send; omega, by show (atN g.K n).st.send ≤ _; omega⟩
  · show g.m.hasD (atN g.K n).st (lenV' (atN g.K n).st.waiting) = false
    rw [e1]; exact q6
end

set_option maxRecDepth 100000 in
set_option maxHeartbeats 1600000 in
theorem i_makeNext (eb mb : Nat) (g : GEnd) (w : World) (h : Inv w eb mb g) (hf : Fine g) (hl : g.out.length ≤ 1073741824) (hlive : g.m.fault = 0) :
    Calls Tryz.prog 63 #[.pointer (some ⟨eb, 0, none⟩)] w fun e w' => MadeO w w' eb mb g g.next e := by
  have HD := hide (isDead_any eb g.m w h.en)
  have hb : (g.m.fault == 0) = true := by simp [hlive]
  rw [hb] at HD
  have H1 := hide (i_makeFirst h hf.toB hl)
  have H2 : Hid (∀ wx, Below w.heap.size w wx → Calls Tryz.prog 83 #[.pointer (some ⟨eb, 0, none⟩)] wx fun e w' => MadeO w w' eb mb g g.oAnswer e) := fun wx hx => (i_makeAnswer eb mb g wx (h.below hx) hf.toB hl).mono fun e w' hm => hm.pre hx
  have H3 : Hid (∀ wx, Below w.heap.size w wx → Calls Tryz.prog 84 #[.pointer (some ⟨eb, 0, none⟩)] wx fun e w' => MadeO w w' eb mb g g.oSettings e) := fun wx hx => (i_makeSettings (h.below hx) hf.toB hl).mono fun e w' hm => hm.pre hx
  have H4 : Hid (∀ wx, Below w.heap.size w wx → Calls Tryz.prog 85 #[.pointer (some ⟨eb, 0, none⟩)] wx fun e w' => MadeO w w' eb mb g g.oPing e) := fun wx hx => (i_makePing (h.below hx) hf.toB hl).mono fun e w' hm => hm.pre hx
  have H5 : Hid (∀ wx, Below w.heap.size w wx → Calls Tryz.prog 86 #[.pointer (some ⟨eb, 0, none⟩)] wx fun e w' => MadeO w w' eb mb g g.oCredit e) := fun wx hx => (i_makeCredit (h.below hx) hf.toB hl).mono fun e w' hm => hm.pre hx
  have H6 : Hid (∀ wx, Below w.heap.size w wx → Calls Tryz.prog 87 #[.pointer (some ⟨eb, 0, none⟩)] wx fun e w' => MadeO w w' eb mb g g.oStream e) := fun wx hx => (i_makeStreamCredit (h.below hx) hf.toB hl).mono fun e w' hm => hm.pre hx
  have H7 : Hid (∀ wx, Below w.heap.size w wx → Calls Tryz.prog 88 #[.pointer (some ⟨eb, 0, none⟩)] wx fun e w' => MadeO w w' eb mb g g.oReset e) := fun wx hx => (i_makeReset eb mb g wx (h.below hx) hf.toB hl).mono fun e w' hm => hm.pre hx
  have H8 : Hid (∀ wx, Below w.heap.size w wx → Calls Tryz.prog 89 #[.pointer (some ⟨eb, 0, none⟩)] wx fun e w' => e = .returned (.bool false) ∧ Below w.heap.size w w') := fun wx hx => (i_makeHeaders (h.below hx) hf).mono fun e w' hm => ⟨hm.1, hx.trans (hm.2.mono hx.size)⟩
  have H9 : Hid (∀ wx, Below w.heap.size w wx → Calls Tryz.prog 90 #[.pointer (some ⟨eb, 0, none⟩)] wx fun e w' => e = .returned (.bool false) ∧ Below w.heap.size w w') := fun wx hx => (i_makeData (h.below hx) hf).mono fun e w' hm => ⟨hm.1, hx.trans (hm.2.mono hx.size)⟩
  have HO : Hid (g.next = g.oFirst.or (g.oAnswer.or (g.oSettings.or (g.oPing.or (g.oCredit.or (g.oStream.or g.oReset)))))) := (rfl : g.next = _)
  clear h hf hl hlive hb
  generalize g.next = N at *
  generalize g.oFirst = o1 at *
  generalize g.oAnswer = o2 at *
  generalize g.oSettings = o3 at *
  generalize g.oPing = o4 at *
  generalize g.oCredit = o5 at *
  generalize g.oStream = o6 at *
  generalize g.oReset = o7 at *
  go_enter Tryz.func63, Tryz.ntmps63
  go_wp2_with fail
  refine HD.out.mono ?_
  rintro e w1 ⟨rfl, hw1⟩
  rw [hw1]
  clear hw1 w1
  go_wp2_with fail
  refine H1.out.mono ?_
  intro e w1 hm
  cases o1 with
  | some q =>
    obtain ⟨rfl, hx⟩ := hm
    have HX := hide hx
    clear hx
    go_wp2
    go_ret
    rw [HO.out]
    exact ⟨rfl, HX.out⟩
  | none =>
    obtain ⟨rfl, hx⟩ := hm
    have HX := hide hx
    clear hx
    go_wp2_with fail
    refine (H2.out _ HX.out).mono ?_
    intro e w2 hm
    cases o2 with
    | some q =>
      obtain ⟨rfl, hx⟩ := hm
      have HX := hide hx
      clear hx
      go_wp2
      go_ret
      rw [HO.out]
      exact ⟨rfl, HX.out⟩
    | none =>
      obtain ⟨rfl, hx⟩ := hm
      have HX := hide hx
      clear hx
      go_wp2_with fail
      refine (H3.out _ HX.out).mono ?_
      intro e w3 hm
      cases o3 with
      | some q =>
        obtain ⟨rfl, hx⟩ := hm
        have HX := hide hx
        clear hx
        go_wp2
        go_ret
        rw [HO.out]
        exact ⟨rfl, HX.out⟩
      | none =>
        obtain ⟨rfl, hx⟩ := hm
        have HX := hide hx
        clear hx
        go_wp2_with fail
        refine (H4.out _ HX.out).mono ?_
        intro e w4 hm
        cases o4 with
        | some q =>
          obtain ⟨rfl, hx⟩ := hm
          have HX := hide hx
          clear hx
          go_wp2
          go_ret
          rw [HO.out]
          exact ⟨rfl, HX.out⟩
        | none =>
          obtain ⟨rfl, hx⟩ := hm
          have HX := hide hx
          clear hx
          go_wp2_with fail
          refine (H5.out _ HX.out).mono ?_
          intro e w5 hm
          cases o5 with
          | some q =>
            obtain ⟨rfl, hx⟩ := hm
            have HX := hide hx
            clear hx
            go_wp2
            go_ret
            rw [HO.out]
            exact ⟨rfl, HX.out⟩
          | none =>
            obtain ⟨rfl, hx⟩ := hm
            have HX := hide hx
            clear hx
            go_wp2_with fail
            refine (H6.out _ HX.out).mono ?_
            intro e w6 hm
            cases o6 with
            | some q =>
              obtain ⟨rfl, hx⟩ := hm
              have HX := hide hx
              clear hx
              go_wp2
              go_ret
              rw [HO.out]
              exact ⟨rfl, HX.out⟩
            | none =>
              obtain ⟨rfl, hx⟩ := hm
              have HX := hide hx
              clear hx
              go_wp2_with fail
              refine (H7.out _ HX.out).mono ?_
              intro e w7 hm
              cases o7 with
              | some q =>
                obtain ⟨rfl, hx⟩ := hm
                have HX := hide hx
                clear hx
                go_wp2
                go_ret
                rw [HO.out]
                exact ⟨rfl, HX.out⟩
              | none =>
                obtain ⟨rfl, hx⟩ := hm
                have HX := hide hx
                clear hx
                go_wp2_with fail
                refine (H8.out _ HX.out).mono ?_
                rintro e w8 ⟨rfl, hx⟩
                have HY := hide hx
                clear hx
                go_wp2_with fail
                refine (H9.out _ HY.out).mono ?_
                rintro e w9 ⟨rfl, hx⟩
                have HZ := hide hx
                clear hx
                go_wp2
                go_ret
                rw [HO.out]
                exact ⟨rfl, HZ.out⟩
end Go.Proofs.YtdccldbefdfppaaGreatDoor
/-
  slices.SortFunc over streams that rise already.
-/
namespace Go.Proofs.YtdccldbefdfppaaGreatDoor
set_option linter.unusedVariables false
set_option linter.unusedSimpArgs false
open Go.RowKit

set_option maxHeartbeats 400000 in
theorem isNaN_any (n : Int) (w : World) : Calls Tryz.prog 110 #[.int .i64 n] w fun e w' => e = .returned (.bool false) ∧ w' = w := by
  go_enter Tryz.func110, Tryz.ntmps110
  go_wp2
  go_ret
  exact ⟨by simp, rfl⟩
def cmpZ (a b : Int) : Int := if a < b then -1 else if b < a then 1 else 0
set_option maxHeartbeats 800000 in
theorem cmpInt_any (a b : Int) (w : World) : Calls Tryz.prog 80 #[.int .i64 a, .int .i64 b] w fun e w' => e = .returned (.int .i64 (cmpZ a b)) ∧ w' = w := by
  have H1 := hide (isNaN_any a w)
  have H2 := hide (isNaN_any b w)
  unfold cmpZ
  by_cases h1 : a < b
  · go_enter Tryz.func80, Tryz.ntmps80
    go_wp2_with fail
    refine H1.out.mono ?_
    rintro e w' ⟨rfl, hw'⟩
    rw [hw']
    clear hw' w'
    go_wp2_with fail
    refine H2.out.mono ?_
    rintro e w' ⟨rfl, hw'⟩
    rw [hw']
    clear hw' w'
    go_wp2
    go_ret
    exact ⟨by simp [h1], rfl⟩
  · by_cases h2 : b < a
    all_goals
      go_enter Tryz.func80, Tryz.ntmps80
      go_wp2_with fail
      refine H1.out.mono ?_
      rintro e w' ⟨rfl, hw'⟩
      rw [hw']
      clear hw' w'
      go_wp2_with fail
      refine H2.out.mono ?_
      rintro e w' ⟨rfl, hw'⟩
      rw [hw']
      clear hw' w'
      go_wp2
      go_ret
      exact ⟨by simp [h1, h2], rfl⟩
set_option maxRecDepth 100000 in
set_option maxHeartbeats 800000 in
theorem sadd1_any (q1 q2 : Nat) (s1 s2 : StM) (w : World) (h1 : StB w q1 s1) (h2 : StB w q2 s2) : Calls Tryz.prog 79 #[.pointer (some ⟨q1, 0, none⟩), .pointer (some ⟨q2, 0, none⟩)] w fun e w' => e = .returned (.int .i64 (cmpZ s1.number s2.number)) ∧ Below w.heap.size w w' := by
  have c3 := h1.c3
  have d3 := h2.c3
  have HC : Hid (∀ w, Calls Tryz.prog 80 #[.int .i64 s1.number, .int .i64 s2.number] w fun e w' => e = .returned (.int .i64 (cmpZ s1.number s2.number)) ∧ w' = w) := fun w => cmpInt_any _ _ w
  clear h1 h2
  generalize cmpZ s1.number s2.number = Z at *
  go_enter Tryz.func79, Tryz.ntmps79
  go_upto_region 1 with fail
  go_cut [4] (fun s4 wx => s4 = .int .i64 Z ∧ Below w.heap.size w wx)
  case first =>
    go_region_held3 (fun w' => w'.cell? ⟨q1, 3, none⟩ = some (.int .i64 s1.number) ∧ w'.cell? ⟨q2, 3, none⟩ = some (.int .i64 s2.number)) (go_keep)
      (first | (go_at_call 80; refine (HC.out _).mono ?_; rintro e w' ⟨rfl, rfl⟩))
    all_goals (go_wp2_with fail; go_meet; exact ⟨rfl, ⟨rfl, rfl, rfl, Nat.le_refl _, fun _ _ => rfl⟩⟩)
  case rest =>
    obtain ⟨rfl, hbx⟩ := hcut
    have HX := hide hbx
    clear hbx
    go_wp2
    go_ret
    exact ⟨rfl, HX.out⟩

theorem cmpZ_ge {a b : Int} (h : b ≤ a) : (cmpZ a b < 0) = False := by
  unfold cmpZ
  simp only [eq_iff_iff, iff_false]
  split
  · omega
  · split <;> omega
set_option maxRecDepth 100000 in
set_option maxHeartbeats 1600000 in
theorem bLen64_any (n : Nat) (hn : n ≤ 12) (w : World) : Calls Tryz.prog 150 #[.int .u64 n] w fun e w' => ∃ k : Int, e = .returned (.int .i64 k) ∧ w' = w := by
  obtain rfl | rfl | rfl | rfl | rfl | rfl | rfl | rfl | rfl | rfl | rfl | rfl | rfl : n = 0 ∨ n = 1 ∨ n = 2 ∨ n = 3 ∨ n = 4 ∨ n = 5 ∨ n = 6 ∨ n = 7 ∨ n = 8 ∨ n = 9 ∨ n = 10 ∨ n = 11 ∨ n = 12 := by omega
  all_goals
    go_enter Tryz.func150, Tryz.ntmps150
    go_wp2
    go_ret
    exact ⟨_, rfl, rfl⟩
end Go.Proofs.YtdccldbefdfppaaGreatDoor
/-
  slices.SortFunc over streams that rise, and one behind them.
-/
namespace Go.Proofs.YtdccldbefdfppaaGreatDoor
set_option linter.unusedVariables false
set_option linter.unusedSimpArgs false
open Go.RowKit

/-- A number, a stream, put where it belongs. -/
def insL (n : Int) : List Int → List Int
  | [] => [n]
  | x :: r => if n < x then n :: x :: r else x :: insL n r
def insS (p : Str) : List Str → List Str
  | [] => [p]
  | x :: r => if p.2.number < x.2.number then p :: x :: r else x :: insS p r
theorem insS_split (p : Str) : ∀ (A B : List Str), (∀ a ∈ A, a.2.number ≤ p.2.number) → (∀ b ∈ B, p.2.number < b.2.number) → insS p (A ++ B) = A ++ p :: B
  | [], [], _, _ => rfl
  | [], b :: r, _, h => by
    rw [List.nil_append, insS, if_pos (h b List.mem_cons_self)]; rfl
  | a :: A, B, h, hB => by
    rw [List.cons_append, insS, if_neg (by have := h a List.mem_cons_self; omega), insS_split p A B (fun x hx => h x (List.mem_cons_of_mem _ hx)) hB]
    rfl
theorem insL_length (p : Int) : ∀ L : List Int, (insL p L).length = L.length + 1
  | [] => rfl
  | x :: r => by
    rw [insL]
    split
    · rfl
    · simp [insL_length p r]
theorem insL_mem {p q : Int} : ∀ {L : List Int}, q ∈ insL p L ↔ q = p ∨ q ∈ L
  | [] => by simp [insL]
  | x :: r => by
    rw [insL]
    split
    · simp
    · simp only [List.mem_cons, insL_mem (L := r)]
      constructor
      · rintro (h | h | h)
        · exact Or.inr (Or.inl h)
        · exact Or.inl h
        · exact Or.inr (Or.inr h)
      · rintro (h | h | h)
        · exact Or.inr (Or.inl h)
        · exact Or.inl h
        · exact Or.inr (Or.inr h)
theorem insL_nodup {p : Int} : ∀ {L : List Int}, L.Nodup → p ∉ L → (insL p L).Nodup
  | [], _, _ => by simp [insL]
  | x :: r, h, hp => by
    rw [insL]
    split
    · exact List.nodup_cons.2 ⟨hp, h⟩
    · rw [List.nodup_cons] at h ⊢
      refine ⟨fun hm => ?_, insL_nodup h.2 (fun e => hp (List.mem_cons_of_mem _ e))⟩
      rcases insL_mem.1 hm with e | e
      · exact hp (by rw [e]; exact List.mem_cons_self)
      · exact h.1 e
/-- They rise. -/
def Rise (l : List Int) : Prop := l.Pairwise (· < ·)
theorem insL_rise {p : Int} : ∀ {L : List Int}, Rise L → p ∉ L → Rise (insL p L)
  | [], _, _ => by simp [insL, Rise]
  | x :: r, h, hp => by
    unfold Rise at h ⊢
    rw [insL]
    rw [List.pairwise_cons] at h
    split
    · rename_i hlt
      refine List.pairwise_cons.2 ⟨?_, List.pairwise_cons.2 h⟩
      intro a ha
      rcases List.mem_cons.1 ha with e | e
      · rw [e]; exact hlt
      · have := h.1 a e; omega
    · rename_i hge
      refine List.pairwise_cons.2 ⟨?_, insL_rise h.2 (fun e => hp (List.mem_cons_of_mem _ e))⟩
      intro a ha
      rcases insL_mem.1 ha with e | e
      · have : p ≠ x := fun e => hp (by rw [e]; exact List.mem_cons_self)
        rw [e]; omega
      · exact h.1 a e
theorem rise_at {l : List Int} (h : Rise l) {i j : Nat} (hij : i < j) (hj : j < l.length) : l[i]'(by omega) < l[j] := List.pairwise_iff_getElem.1 h i j (by omega) hj hij
theorem opnCells_swap (A B : List Str) (a x : Str) : ((opnCells (A ++ a :: x :: B)).set (A.length + 1) (.pointer (some ⟨a.1, 0, none⟩))).set A.length (.pointer (some ⟨x.1, 0, none⟩)) = opnCells (A ++ x :: a :: B) := by
  unfold opnCells
  simp only [List.map_append, List.map_cons]
  rw [List.set_append_right _ _ (by simp), List.set_append_right _ _ (by simp)]
  simp
set_option maxRecDepth 100000 in
set_option maxHeartbeats 3200000 in
theorem insSort_put (v : Value) (P : List Str) (x : Str) (w : World) (ho : OpenS w v (P ++ [x])) (hs : ∀ i j (h : j < P.length) (hij : i < j), (P[i]'(by omega)).2.number < P[j].2.number) (hL : P.length ≤ 11) :
    Calls Tryz.prog 141 #[v, .int .i64 0, .int .i64 ((P.length + 1 : Nat) : Int), .func (.func 79) #[] #[]] w fun e w' => e = .returned (.tuple #[]) ∧ Chg (fun j => v.ownBlock = some j) w w' ∧ OpenS w' v (insS x P) := by
  obtain ⟨sr, cr, hv⟩ := slice_len ho.row
  obtain ⟨N, hN⟩ : ∃ N, N = P.length + 1 := ⟨_, rfl⟩
  rw [← hN]
  have hlen : (P ++ [x]).length = N := by simp [hN]
  rw [hlen] at hv
  rw [hv] at ho
  rw [hv]
  obtain ⟨gg, hgg⟩ : ∃ gg, sr = some ⟨gg, 0, none⟩ := by
    obtain ⟨g1, c1, h1, -⟩ := ho.at (k := 0) (by omega)
    simp only [Value.slice.injEq] at h1
    exact ⟨g1, h1.1⟩
  subst hgg
  have HO := hide ho
  have HS := hide hs
  have HN := hide hN
  have hPN : (P.length : Int) < (N : Int) := by omega
  clear ho hs hv hN
  go_enter Tryz.func141, Tryz.ntmps141
  go_wp2
  go_loopw [8] (fun i wr => ∃ (k : Nat) (wv : World), wv = wr ∧ i = .int .i64 (k : Int) ∧ 1 ≤ k ∧ ((k ≤ P.length ∧ Below w.heap.size w wv) ∨ (k = N ∧ Chg (fun j => j = gg) w wv ∧ OpenS wv (.slice (some ⟨gg, 0, none⟩) N cr) (insS x P)))) (fun i _ => 2 + P.length - (intOf i).toNat)
  case atStart =>
    by_cases h1 : 1 ≤ P.length
    · exact ⟨1, _, rfl, by go_num, Nat.le_refl _, Or.inl ⟨h1, Below.refl _ _⟩⟩
    · have hP : P = [] := List.length_eq_zero_iff.1 (by omega)
      exact ⟨1, _, rfl, by go_num, Nat.le_refl _, Or.inr ⟨by rw [HN.out, hP]; rfl, Chg.refl _ _, by rw [hP]; rw [hP] at HO; exact HO.out⟩⟩
  case round =>
    obtain ⟨k, wv, hwv, rfl, hk1, hst⟩ := hrel
    subst hwv
    rcases hst with ⟨hk2, hbel⟩ | ⟨hkN, hch, hop⟩
    · by_cases hlk : k < P.length
      · have hNN := HN.out
        have hk0x : k < (P ++ [x]).length := by omega
        obtain ⟨gg', c, hvv, hcell, hcap⟩ := (HO.out.below hbel).at hk0x
        simp only [Value.slice.injEq, Option.some.injEq, Addr.mk.injEq, and_true, true_and] at hvv
        obtain ⟨rfl, -, rfl⟩ := hvv
        obtain ⟨q, hkq⟩ : ∃ q, k = q + 1 := ⟨k - 1, by omega⟩
        have hq1 : q < P.length := by omega
        obtain ⟨gg2, c2, hvv, hcell2, hcap2⟩ := (HO.out.below hbel).at (k := q) (by omega)
        simp only [Value.slice.injEq, Option.some.injEq, Addr.mk.injEq, and_true, true_and] at hvv
        obtain ⟨rfl, -, rfl⟩ := hvv
        rw [List.getElem_append_left hlk] at hcell
        rw [List.getElem_append_left hq1] at hcell2
        have hm1 : P[k] ∈ P ++ [x] := List.mem_append_left _ (List.getElem_mem hlk)
        have hm2 : P[q] ∈ P ++ [x] := List.mem_append_left _ (List.getElem_mem hq1)
        have hle : P[q].2.number ≤ P[k].2.number := Int.le_of_lt (HS.out q k hlk (by omega))
        have HC : Hid (∀ wx, Below wv.heap.size wv wx → Calls Tryz.prog 79 #[.pointer (some ⟨P[k].1, 0, none⟩), .pointer (some ⟨P[q].1, 0, none⟩)] wx fun e w' => e = .returned (.int .i64 (cmpZ P[k].2.number P[q].2.number)) ∧ Below wx.heap.size wx w') := fun wx hb => sadd1_any _ _ _ _ wx (((HO.out.st _ hm1).below hbel).below hb) (((HO.out.st _ hm2).below hbel).below hb)
        have hz := cmpZ_ge hle
        generalize cmpZ P[k].2.number P[q].2.number = Z at HC hz
        generalize P[k].1 = b1 at hcell HC
        generalize P[q].1 = b2 at hcell2 HC
        have hz0 : ¬ Z < 0 := by rw [hz]; exact id
        have HBE := hide hbel
        have hk0 : (0 < k) = True := eq_true (by omega)
        have hkn : ((k : Int) < (N : Int)) = True := eq_true (by omega)
        have hwr : IntKind.i64.wrap ((k : Int) - 1) = (q : Int) := by rw [IntKind.wrap_i64]; omega
        have i1 : (0 : Int) ≤ (q : Int) := by omega
        have i2 : (q : Int) < (N : Int) := by omega
        have i3 : (k : Int) < (N : Int) := by omega
        clear hbel hm1 hm2 hle hz hkq hNN
        go_wp2
        refine wp_loop_rounds 1 ?_
        rw [rounds_succ]
        go_upto_region 4 with fail
        go_cut [34] (fun s34 wx => s34 = .bool false ∧ Below wv.heap.size wv wx)
        case first =>
          go_region_held3 (fun w' => w'.cell? ⟨gg, k, none⟩ = some (.pointer (some ⟨b1, 0, none⟩)) ∧ w'.cell? ⟨gg, q, none⟩ = some (.pointer (some ⟨b2, 0, none⟩))) (go_keep)
            (first | (go_at_call 79; refine (HC.out wv.drew ⟨rfl, rfl, rfl, Nat.le_refl _, fun _ _ => rfl⟩).mono ?_; rintro e w1 ⟨rfl, hb1⟩; have hB1 : Below wv.heap.size wv w1 := ⟨hb1.os, hb1.tape, hb1.output, hb1.size, hb1.block⟩; have t1 : w1.cell? ⟨gg, k, none⟩ = some (.pointer (some ⟨b1, 0, none⟩)) := (by rw [Below.cell hB1 (p := ⟨gg, k, none⟩) (World.block_lt_of_cell? _ _ hcell)]; exact hcell); have t2 : w1.cell? ⟨gg, q, none⟩ = some (.pointer (some ⟨b2, 0, none⟩)) := (by rw [Below.cell hB1 (p := ⟨gg, q, none⟩) (World.block_lt_of_cell? _ _ hcell2)]; exact hcell2)))
          all_goals (go_wp2_with fail; go_meet; exact ⟨by simp [hz0], hB1⟩)
        case rest =>
          obtain ⟨rfl, hbx⟩ := hcut
          have HX := hide hbx
          clear hbx
          go_wp2
          all_goals go_roundw
          case rel => exact ⟨k + 1, _, rfl, by go_num, by omega, Or.inl ⟨by omega, HBE.out.trans (HX.out.mono HBE.out.size)⟩⟩
          case measure => simp [intOf]; omega
      · obtain rfl : k = P.length := by omega
        have HBE := hide hbel
        clear hbel
        go_wp2
        go_loopw [9] (fun j wr => ∃ (k : Nat) (wz : World), wz = wr ∧ j = .int .i64 (k : Int) ∧ k ≤ P.length ∧ Chg (fun j => j = gg) w wz ∧ OpenS wz (.slice (some ⟨gg, 0, none⟩) N cr) (P.take k ++ x :: P.drop k) ∧ ∀ b ∈ P.drop k, x.2.number < b.2.number) (fun j _ => (intOf j).toNat)
        case atStart => exact ⟨P.length, _, rfl, by go_num, Nat.le_refl _, Chg.of_below HBE.out, by rw [List.take_length, List.drop_length]; exact HO.out.below HBE.out, fun b hb => by rw [List.drop_length] at hb; cases hb⟩
        case round =>
          obtain ⟨k, wz, hwz, rfl, hk, hch, hop, hgt⟩ := hrel
          subst hwz
          have HCH := hide hch
          have HOP := hide hop
          have HGT := hide hgt
          clear hch hop hgt HBE
          have hend : ∀ wx, Below wz.heap.size wz wx → (k = 0 ∨ ∃ q, ∃ hq : q < P.length, k = q + 1 ∧ P[q].2.number ≤ x.2.number) → Chg (fun j => j = gg) w wx ∧ OpenS wx (.slice (some ⟨gg, 0, none⟩) N cr) (insS x P) := fun wx hbx hc => by
            refine ⟨HCH.out.then_below hbx, ?_⟩
            have he : insS x P = P.take k ++ x :: P.drop k := by
              conv => lhs; rw [← List.take_append_drop k P]
              refine insS_split x _ _ ?_ HGT.out
              intro a ha
              rcases hc with rfl | ⟨q, hq, rfl, hle⟩
              · simp at ha
              · obtain ⟨i, hi, rfl⟩ := List.mem_iff_getElem.1 ha
                rw [List.length_take] at hi
                rw [List.getElem_take]
                by_cases hiq : i = q
                · subst hiq; exact hle
                · have := HS.out i q hq (by omega); omega
            rw [he]
            exact HOP.out.below hbx
          have HEND := hide hend
          clear hend
          by_cases hk0 : k = 0
          · subst hk0
            go_upto_region 4 with fail
            go_cut [34] (fun s34 wx => s34 = .bool false ∧ Below wz.heap.size wz wx)
            case first =>
              go_region
              all_goals (go_wp2_with fail; go_meet; exact ⟨rfl, Below.drew (Below.refl _ _)⟩)
            case rest =>
              obtain ⟨rfl, hbx⟩ := hcut
              have HX := hide hbx
              clear hbx
              go_wp2
              all_goals go_roundw
              case rel => exact ⟨N, _, rfl, by rw [HN.out]; go_num, by have := HN.out; omega, Or.inr ⟨rfl, HEND.out _ HX.out (Or.inl rfl)⟩⟩
              case measure => have := HN.out; simp [intOf]; omega
          · obtain ⟨q, hkq⟩ : ∃ q, k = q + 1 := ⟨k - 1, by omega⟩
            have hq1 : q < P.length := by omega
            have htk : P.take k = P.take q ++ [P[q]] := by rw [hkq, List.take_succ_eq_append_getElem hq1]
            have hdk : P.drop q = P[q] :: P.drop k := by rw [hkq]; exact List.drop_eq_getElem_cons hq1
            obtain ⟨A, hA⟩ : ∃ A, A = P.take q := ⟨_, rfl⟩
            obtain ⟨B, hB⟩ : ∃ B, B = P.drop k := ⟨_, rfl⟩
            have hAl : A.length = q := by rw [hA, List.length_take]; omega
            have hrowe : P.take k ++ x :: P.drop k = A ++ P[q] :: x :: B := by rw [htk, ← hA, ← hB, List.append_assoc]; rfl
            have hop2 := HOP.out
            rw [hrowe] at hop2
            have hlen2 : (A ++ P[q] :: x :: B).length = N := by
              have := hop2.row.1
              have h2 := slice_len hop2.row
              obtain ⟨s1, c1, h3⟩ := h2
              simp only [Value.slice.injEq] at h3
              exact h3.2.1.symm
            have hiA : k < (A ++ P[q] :: x :: B).length := by rw [List.length_append, List.length_cons, List.length_cons]; omega
            obtain ⟨gg', c, hvv, hcell, hcap⟩ := hop2.at hiA
            simp only [Value.slice.injEq, Option.some.injEq, Addr.mk.injEq, and_true, true_and] at hvv
            obtain ⟨rfl, -, rfl⟩ := hvv
            have hiq : q < (A ++ P[q] :: x :: B).length := by omega
            obtain ⟨gg2, c2, hvv, hcell2, hcap2⟩ := hop2.at hiq
            simp only [Value.slice.injEq, Option.some.injEq, Addr.mk.injEq, and_true, true_and] at hvv
            obtain ⟨rfl, -, rfl⟩ := hvv
            have e1 : (A ++ P[q] :: x :: B)[k] = x := by
              rw [List.getElem_append_right (by omega)]
              simp only [hAl, hkq, Nat.add_sub_cancel_left]
              rfl
            have e2 : (A ++ P[q] :: x :: B)[q] = P[q] := by
              rw [List.getElem_append_right (by omega)]
              simp only [hAl, Nat.sub_self]
              rfl
            rw [e1] at hcell
            rw [e2] at hcell2
            have hm1 : x ∈ A ++ P[q] :: x :: B := by simp
            have hm2 : P[q] ∈ A ++ P[q] :: x :: B := by simp
            have HC : Hid (∀ wx, Below wz.heap.size wz wx → Calls Tryz.prog 79 #[.pointer (some ⟨x.1, 0, none⟩), .pointer (some ⟨P[q].1, 0, none⟩)] wx fun e w' => e = .returned (.int .i64 (cmpZ x.2.number P[q].2.number)) ∧ Below wx.heap.size wx w') := fun wx hb => sadd1_any _ _ _ _ wx ((hop2.st _ hm1).below hb) ((hop2.st _ hm2).below hb)
            have hzz : (cmpZ x.2.number P[q].2.number < 0) ↔ x.2.number < P[q].2.number := by
              unfold cmpZ
              split
              · simp_all
              · split <;> simp_all
            have HZZ := hide hzz
            have HSW : Hid (∀ wx, Below wz.heap.size wz wx → x.2.number < P[q].2.number → ∀ wy, wy = (wx.setCell ⟨gg, k, none⟩ (.pointer (some ⟨P[q].1, 0, none⟩))).setCell ⟨gg, q, none⟩ (.pointer (some ⟨x.1, 0, none⟩)) → Chg (fun j => j = gg) w wy ∧ OpenS wy (.slice (some ⟨gg, 0, none⟩) N cr) (P.take q ++ x :: P.drop q) ∧ ∀ b ∈ P.drop q, x.2.number < b.2.number) := fun wx hbx hlt wy hwy => by
              have h1 := hop2.below hbx
              have hc : Chg (fun j => j = gg) wx wy := by rw [hwy]; exact chg_set (chg_set (Chg.refl _ _) rfl) rfl
              have hrow := h1.row
              rw [hlen2] at hrow
              have h2 := ((hrow.stored k (.pointer (some ⟨P[q].1, 0, none⟩))).1.stored q (.pointer (some ⟨x.1, 0, none⟩))).1
              rw [← hwy] at h2
              have he := opnCells_swap A B P[q] x
              rw [hAl, ← hkq] at he
              rw [he] at h2
              refine ⟨(HCH.out.then_below hbx).trans (hc.mono fun _ _ e => Or.inr e), ⟨?_, ?_⟩, ?_⟩
              · rw [hdk, ← hA, ← hB]
                rw [show (A ++ x :: P[q] :: B).length = N from by rw [← hlen2]; simp]
                exact h2
              · intro p hp
                have hp2 : p ∈ A ++ P[q] :: x :: B := by
                  rw [hdk, ← hA, ← hB] at hp
                  simp only [List.mem_append, List.mem_cons] at hp ⊢
                  rcases hp with h | h | h | h
                  · exact Or.inl h
                  · exact Or.inr (Or.inr (Or.inl h))
                  · exact Or.inr (Or.inl h)
                  · exact Or.inr (Or.inr (Or.inr h))
                refine (h1.st p hp2).chg hc (fun e => ?_)
                exact owns_ne hrow (h1.st p hp2).blk (by decide) (by rw [e]; rfl)
              · intro b hb
                rw [hdk] at hb
                rcases List.mem_cons.1 hb with e | e
                · rw [e]; exact hlt
                · exact HGT.out b e
            have HFR : Hid (∀ wx, Below wz.heap.size wz wx → ∀ i, wx.frozen? ⟨gg, i, none⟩ = false) := fun wx hbx i => by have h1 := (hop2.below hbx).row; rw [hlen2] at h1; exact owns_free h1 i
            have hle0 : Hid (∀ wx, Below wz.heap.size wz wx → ¬ x.2.number < P[q].2.number → Chg (fun j => j = gg) w wx ∧ OpenS wx (.slice (some ⟨gg, 0, none⟩) N cr) (insS x P)) := fun wx hbx hn => HEND.out wx hbx (Or.inr ⟨q, hq1, hkq, by omega⟩)
            have hwr : IntKind.i64.wrap ((k : Int) - 1) = (q : Int) := by rw [IntKind.wrap_i64]; omega
            have i1 : (0 : Int) ≤ (q : Int) := by omega
            have i2 : (q : Int) < (N : Int) := by omega
            have i3 : (k : Int) < (N : Int) := by omega
            have i4 : (0 < k) = True := eq_true (by omega)
            have hkq2 := hide hkq
            have HK0 := hide (And.intro hk hk0)
            generalize cmpZ x.2.number P[q].2.number = Z at HC HZZ hzz
            generalize P[q].1 = b2 at hcell2 HC HSW
            generalize x.1 = b1 at hcell HC HSW
            clear hrowe hop2 hlen2 hiA hiq e1 e2 hm1 hm2 hzz htk hdk hA hB hAl hk0 hkq HEND
            go_upto_region 4 with fail
            go_cut [34] (fun s34 wx => s34 = .bool (decide (Z < 0)) ∧ Below wz.heap.size wz wx)
            case first =>
              go_region_held3 (fun w' => w'.cell? ⟨gg, k, none⟩ = some (.pointer (some ⟨b1, 0, none⟩)) ∧ w'.cell? ⟨gg, q, none⟩ = some (.pointer (some ⟨b2, 0, none⟩))) (go_keep)
                (first | (go_at_call 79; refine (HC.out wz.drew ⟨rfl, rfl, rfl, Nat.le_refl _, fun _ _ => rfl⟩).mono ?_; rintro e w1 ⟨rfl, hb1⟩; have hB1 : Below wz.heap.size wz w1 := ⟨hb1.os, hb1.tape, hb1.output, hb1.size, hb1.block⟩; have t1 : w1.cell? ⟨gg, k, none⟩ = some (.pointer (some ⟨b1, 0, none⟩)) := (by rw [Below.cell hB1 (p := ⟨gg, k, none⟩) (World.block_lt_of_cell? _ _ hcell)]; exact hcell); have t2 : w1.cell? ⟨gg, q, none⟩ = some (.pointer (some ⟨b2, 0, none⟩)) := (by rw [Below.cell hB1 (p := ⟨gg, q, none⟩) (World.block_lt_of_cell? _ _ hcell2)]; exact hcell2)))
              all_goals (go_wp2_with fail; go_meet; exact ⟨rfl, hB1⟩)
            case rest =>
              obtain ⟨rfl, hbx⟩ := hcut
              obtain ⟨wy, hwy⟩ : ∃ wy, wy = wc := ⟨wc, rfl⟩
              rw [← hwy] at hbx ⊢
              clear hwy
              by_cases hz : Z < 0
              · have hxl := HZZ.out.1 hz
                have hsw := HSW.out wy.drew (hbx.drew) hxl _ rfl
                have t1 : wy.cell? ⟨gg, k, none⟩ = some (.pointer (some ⟨b1, 0, none⟩)) := (by rw [Below.cell hbx (p := ⟨gg, k, none⟩) (World.block_lt_of_cell? _ _ hcell)]; exact hcell)
                have t2 : wy.cell? ⟨gg, q, none⟩ = some (.pointer (some ⟨b2, 0, none⟩)) := (by rw [Below.cell hbx (p := ⟨gg, q, none⟩) (World.block_lt_of_cell? _ _ hcell2)]; exact hcell2)
                have f1 := HFR.out wy hbx k
                have f2 := HFR.out wy hbx q
                have HSW2 := hide hsw
                clear hsw hbx hcell hcell2 HSW
                go_upto_region 6 with fail
                have d1 : wy.drew.cell? ⟨gg, k, none⟩ = some (.pointer (some ⟨b1, 0, none⟩)) := t1
                have d2 : wy.drew.cell? ⟨gg, q, none⟩ = some (.pointer (some ⟨b2, 0, none⟩)) := t2
                have d3 : wy.drew.frozen? ⟨gg, k, none⟩ = false := f1
                have d4 : wy.drew.frozen? ⟨gg, q, none⟩ = false := f2
                have e1 : (wy.setCell ⟨gg, k, none⟩ (.pointer (some ⟨b2, 0, none⟩))).cell? ⟨gg, q, none⟩ = some (.pointer (some ⟨b2, 0, none⟩)) := by
                  rw [World.cell?_setCell_other wy (a := ⟨gg, k, none⟩) (b := ⟨gg, q, none⟩) _ (fun e => by simp at e; have := hkq2.out; omega)]
                  exact t2
                have e2 : (wy.setCell ⟨gg, k, none⟩ (.pointer (some ⟨b2, 0, none⟩))).frozen? ⟨gg, q, none⟩ = false := by
                  rw [World.frozen?_setCell]
                  exact f2
                have e3 : (wy.setCell ⟨gg, k, none⟩ (.pointer (some ⟨b2, 0, none⟩))).drew.cell? ⟨gg, q, none⟩ = some (.pointer (some ⟨b2, 0, none⟩)) := e1
                have e4 : (wy.setCell ⟨gg, k, none⟩ (.pointer (some ⟨b2, 0, none⟩))).drew.frozen? ⟨gg, q, none⟩ = false := e2
                go_region
                go_wp2
                all_goals go_roundw
                case rel => exact ⟨q, _, rfl, rfl, by have := HK0.out.1; have := hkq2.out; omega, HSW2.out⟩
                case measure => have := hkq2.out; simp [intOf]; omega
              · have HX := hide (hle0.out wy hbx (fun e => hz (HZZ.out.2 e)))
                clear hbx
                go_wp2
                all_goals go_roundw
                case rel => exact ⟨N, _, rfl, by rw [HN.out]; go_num, by have := HN.out; omega, Or.inr ⟨rfl, HX.out⟩⟩
                case measure => have := HN.out; simp [intOf]; omega
    · have HC := hide hch
      have HP := hide hop
      clear hch hop
      subst hkN
      go_wp2
      exact bodyPost_end (results_none rfl _ _ _) rfl ⟨rfl, HC.out.mono (fun j _ e => by rw [e]; rfl), HP.out⟩
set_option maxRecDepth 100000 in
set_option maxHeartbeats 1600000 in
theorem pdq_put (v : Value) (P : List Str) (x : Str) (lim : Int) (w : World) (ho : OpenS w v (P ++ [x])) (hs : ∀ i j (h : j < P.length) (hij : i < j), (P[i]'(by omega)).2.number < P[j].2.number) (hL : P.length ≤ 11) :
    Calls Tryz.prog 108 #[v, .int .i64 0, .int .i64 ((P.length + 1 : Nat) : Int), .int .i64 lim, .func (.func 79) #[] #[]] w fun e w' => e = .returned (.tuple #[]) ∧ Chg (fun j => v.ownBlock = some j) w w' ∧ OpenS w' v (insS x P) := by
  have HC := hide (insSort_put v P x w ho hs hL)
  clear ho hs
  obtain ⟨N, hN⟩ : ∃ N, N = P.length + 1 := ⟨_, rfl⟩
  rw [← hN] at HC ⊢
  have hl2 : ((N : Int) ≤ 12) = True := eq_true (by omega)
  have hN12 : N ≤ 12 := by omega
  clear hN
  go_enter Tryz.func108, Tryz.ntmps108
  go_wp2
  refine wp_loop_rounds 1 ?_
  rw [rounds_succ]
  go_wp2_with fail
  refine HC.out.mono ?_
  rintro e w' ⟨rfl, hb⟩
  have HB := hide hb
  clear hb
  go_wp2
  refine bodyPost_ret (v := .tuple #[]) ?_ rfl ⟨rfl, HB.out⟩
  simp [results, Tryz.results108, go_sem]
set_option maxRecDepth 100000 in
set_option maxHeartbeats 800000 in
theorem bLen_any (n : Nat) (hn : n ≤ 12) (w : World) : Calls Tryz.prog 109 #[.int .u64 n] w fun e w' => ∃ k : Int, e = .returned (.int .i64 k) ∧ w' = w := by
  have HC := hide (bLen64_any n hn w)
  go_enter Tryz.func109, Tryz.ntmps109
  go_wp2_with fail
  refine HC.out.mono ?_
  rintro e w' ⟨k, rfl, hw'⟩
  rw [hw']
  clear hw' w'
  go_wp2
  go_ret
  exact ⟨_, rfl, rfl⟩
set_option maxRecDepth 100000 in
set_option maxHeartbeats 800000 in
theorem sortFunc_put (v : Value) (P : List Str) (x : Str) (w : World) (ho : OpenS w v (P ++ [x])) (hs : ∀ i j (h : j < P.length) (hij : i < j), (P[i]'(by omega)).2.number < P[j].2.number) (hL : P.length ≤ 11) :
    Calls Tryz.prog 78 #[v, .func (.func 79) #[] #[]] w fun e w' => e = .returned (.tuple #[]) ∧ Chg (fun j => v.ownBlock = some j) w w' ∧ OpenS w' v (insS x P) := by
  have HC : Hid (∀ lim, Calls Tryz.prog 108 #[v, .int .i64 0, .int .i64 ((P.length + 1 : Nat) : Int), .int .i64 lim, .func (.func 79) #[] #[]] w fun e w' => e = .returned (.tuple #[]) ∧ Chg (fun j => v.ownBlock = some j) w w' ∧ OpenS w' v (insS x P)) := fun lim => pdq_put v P x lim w ho hs hL
  obtain ⟨sr, cr, hv⟩ := slice_len ho.row
  obtain ⟨N, hN⟩ : ∃ N, N = P.length + 1 := ⟨_, rfl⟩
  rw [show (P ++ [x]).length = N from by simp [hN]] at hv
  have HB := hide (bLen_any N (by omega) w)
  rw [hv, ← hN] at HC
  rw [hv]
  have hw : IntKind.u64.wrap (N : Int) = N := by rw [IntKind.wrap_u64]; omega
  have hN12 : N ≤ 12 := by omega
  clear ho hs hv hN
  go_enter Tryz.func78, Tryz.ntmps78
  go_wp2_with fail
  refine HB.out.mono ?_
  rintro e w' ⟨k, rfl, hw'⟩
  rw [hw']
  clear hw' w'
  go_wp2_with fail
  refine (HC.out k).mono ?_
  rintro e w' ⟨rfl, hb⟩
  have HB := hide hb
  clear hb
  go_wp2
  exact bodyPost_end (results_none rfl _ _ _) rfl ⟨rfl, HB.out⟩
end Go.Proofs.YtdccldbefdfppaaGreatDoor
/-
  (*ends.streams).add, at any place.
-/
namespace Go.Proofs.YtdccldbefdfppaaGreatDoor
set_option linter.unusedVariables false
set_option linter.unusedSimpArgs false
open Go.RowKit

/-- A stream more is known. -/
theorem KnownS.add {w : World} {mb : Nat} {K : List Str} (h : KnownS w mb K) (n : Int) (sb : Nat) (hn : findK K n = none) : ∃ w1, (Instr.mapUpdate 78 (.map (some mb)) (.int .i64 n) (.pointer (some ⟨sb, 0, none⟩))).run Tryz.prog w = .ok () w1 ∧ Chg (fun j => j = mb) w w1 ∧ w1.heap.size = w.heap.size ∧ ∃ es clock, w1.heap[mb]? = some (.map es clock) ∧ es.toList.map (fun e => (e.key, e.val)) = K.map knownE ++ [(.int .i64 n, .pointer (some ⟨sb, 0, none⟩))] ∧ ((∀ e ∈ es.toList, e.born < clock) ∧ (es.toList.map fun e => e.born).Nodup) := by
  obtain ⟨es, clock, hb, he, hs⟩ := h.blk
  obtain ⟨r, hr, hv⟩ := find_now K n es.toList 0 he
  have hr0 : r = none := by
    rw [hn] at hv
    cases r with
    | none => rfl
    | some q => simp at hv
  subst hr0
  have hck : (Instr.checkKey false 10000 3 (.int .i64 n)).run Tryz.prog w = .ok () w := MapKept.run_checkKey (d := .int .i64) (k := .int .i64 n) Tryz.underlying3 (show IntKind.i64 = IntKind.i64 from rfl) _ _
  have hfk : (Instr.findKey 3 (.int .i64 n) es.toList).run Tryz.prog w = .ok none w := MapKept.run_findKey (d := .int .i64) Tryz.underlying3 hr
  have hsz := (Array.getElem?_eq_some_iff.1 hb).1
  refine ⟨{ w with heap := w.heap.setIfInBounds mb (.map (es.push { key := .int .i64 n, val := .pointer (some ⟨sb, 0, none⟩), born := clock }) (clock + 1)) }, ?_, ?_, ?_, _, _, (MapKept.heap_set hb).1, ?_, ?_⟩
  · simp [Instr.mapUpdate, run_underlying Tryz.underlying78, MapKept.run_getObj_map hb, hck, hfk, MapKept.run_setObj_map _ hb, Result.andThen]
  · exact ⟨rfl, rfl, rfl, by simp, fun k _ hk => (MapKept.heap_set hb).2 k hk⟩
  · simp
  · rw [Array.toList_push, List.map_append, he]
    rfl
  · refine ⟨?_, ?_⟩
    · intro e hm
      rw [Array.toList_push] at hm
      rcases List.mem_append.1 hm with h1 | h1
      · exact Nat.lt_succ_of_lt (hs.1 e h1)
      · have : e = _ := List.mem_singleton.1 h1
        rw [this]
        exact Nat.lt_succ_self _
    · rw [Array.toList_push, List.map_append]
      refine List.nodup_append.2 ⟨hs.2, by simp, ?_⟩
      intro a ha b hb e
      obtain ⟨x, hx, rfl⟩ := List.mem_map.1 ha
      have h1 := hs.1 x hx
      have h2 : b = clock := by simpa using hb
      omega

theorem Tryz.info124 : (Tryz.prog.info? 124).map (fun i => (i.zero, i.size, i.bytes)) = some (some (.pointer none), 1, 8) := by kernel_rfl
/-- A stream more is known, and open. -/
structure AddS (w w' : World) (eb mb : Nat) (m : EndM) (K L : List Str) (sb : Nat) (st : StM) (v : Value) : Prop where
  en : EnB w' eb { m with opn := v }
  kn : KnownS w' mb (K ++ [(sb, st)])
  row : w'.ownsRow 0 124 1 v (insS (sb, st) L).length (opnCells (insS (sb, st) L))
  chg : Chg (fun j => j = eb ∨ j = mb ∨ m.opn.ownBlock = some j) w w'
  fresh : ∀ j, v.ownBlock = some j → m.opn.ownBlock = some j ∨ w.heap.size ≤ j

set_option maxRecDepth 100000 in
set_option maxHeartbeats 1600000 in
theorem sadd_any (eb mb sb : Nat) (m : EndM) (K L : List Str) (st : StM) (w : World) (h : EnB w eb m) (hm : m.known = .map (some mb)) (hK : KnownS w mb K) (ho : OpenS w m.opn L) (hs : StB w sb st) (hn : findK K st.number = none) (hup : Rise (L.map fun p => p.2.number)) (hL : L.length ≤ 11) :
    Calls Tryz.prog 62 #[.pointer (some ⟨eb, 22, none⟩), .pointer (some ⟨sb, 0, none⟩)] w fun e w' => e = .returned (.tuple #[]) ∧ ∃ v, AddS w w' eb mb m K L sb st v := by
  obtain ⟨i0, hi, hz0, hz1, hz2⟩ := info_parts Tryz.info124
  obtain ⟨so, co, hso⟩ := slice_len ho.row
  have c22 := h.c22
  rw [hm] at c22
  have c23 := h.c23
  rw [hso] at c23
  have s3 := hs.c3
  have hd : Below w.heap.size w w.drew := ⟨rfl, rfl, rfl, Nat.le_refl _, fun _ _ => rfl⟩
  obtain ⟨w1, hmu, hc1, hz1', es, clock, hb1, he1, hbn1⟩ := (hK.below hd).add st.number sb hn
  have hlt := h.lt
  have hme : mb ≠ eb := by
    obtain ⟨es', clock', hb', -⟩ := hK.blk
    intro e
    rw [e, h.blk] at hb'
    cases hb'
  have hms : mb ≠ sb := by
    obtain ⟨es', clock', hb', -⟩ := hK.blk
    intro e
    rw [e, hs.blk] at hb'
    cases hb'
  have hc1' : Chg (fun j => j = mb) w w1 := (Chg.of_below hd).trans (hc1.mono fun j _ e => Or.inr e)
  have hen1 : EnB w1 eb m := h.chg hc1' (fun e => hme e.symm)
  have hrow1 : w1.ownsRow 0 124 1 m.opn L.length (opnCells L) := owns_chg ho.row hc1' (fun j hj e => by
    obtain ⟨es', clock', hb', -⟩ := hK.blk
    subst e
    rcases ho.row.2 with ⟨h1, -⟩ | ⟨g, cap, cur, h1, h2, h3, -⟩
    · rw [h1] at hj; simp [Value.ownBlock] at hj
    · rw [h1] at hj; simp [Value.ownBlock] at hj; rw [hj, hb'] at h3; cases h3)
  have d23 : w1.cell? ⟨eb, 23, none⟩ = some (.slice so L.length co) := by rw [hen1.c23, hso]
  have hz1w : w1.heap.size = w.heap.size := hz1'
  have HMU := hmu
  -- the row with one more, then the sort
  have HEND : Hid (∀ (v' : Value) (w2 : World), w2.ownsRow 0 124 1 v' (L.length + 1) (opnCells L ++ [.pointer (some ⟨sb, 0, none⟩)]) → (w1.alloc (.cells #[.pointer (some ⟨sb, 0, none⟩)] 124)).grownBy w2 m.opn.ownBlock → (v'.ownBlock = m.opn.ownBlock ∨ v'.ownBlock = some (w1.heap.size + 1)) → Calls Tryz.prog 78 #[v', .func (.func 79) #[] #[]] (w2.setCell ⟨eb, 23, none⟩ v') fun e w' => e = .returned (.tuple #[]) ∧ ∃ v, AddS w w' eb mb m K L sb st v) := fun v' w2 hown hg hfr => by
    have hba : Below w1.heap.size w1 (w1.alloc (.cells #[.pointer (some ⟨sb, 0, none⟩)] 124)) := (Below.refl _ _).alloc (Nat.le_refl _) _
    have hcg : Chg (fun j => m.opn.ownBlock = some j) w1 w2 := (Chg.of_below hba).trans ((Chg.of_grown hg (fun j hj => hj)).mono fun j _ e => Or.inr e)
    have hc2 : Chg (fun j => j = eb ∨ j = mb ∨ m.opn.ownBlock = some j) w w2 := (hc1'.mono fun j _ e => Or.inr (Or.inl e)).trans (hcg.mono fun j _ e => Or.inr (Or.inr (Or.inr e)))
    have hset : Chg (fun j => j = eb) w2 (w2.setCell ⟨eb, 23, none⟩ v') := chg_set (Chg.refl _ _) rfl
    have hc3 : Chg (fun j => j = eb ∨ j = mb ∨ m.opn.ownBlock = some j) w (w2.setCell ⟨eb, 23, none⟩ v') := hc2.trans (hset.mono fun j _ e => Or.inr (Or.inl e))
    have hne : ∀ p : Nat, ∀ s : StM, StB w p s → ¬ (p = eb ∨ p = mb ∨ m.opn.ownBlock = some p) := fun p s hp e => by
      rcases e with e | e | e
      · exact block_ne hp.blk h.blk (by decide) e
      · obtain ⟨es', clock', hb', -⟩ := hK.blk
        have hbk := hp.blk
        rw [e, hb'] at hbk
        cases hbk
      · exact owns_ne ho.row hp.blk (by decide) e
    have hsts : ∀ p ∈ K ++ [(sb, st)], StB (w2.setCell ⟨eb, 23, none⟩ v') p.1 p.2 := fun p hp => by
      rcases List.mem_append.1 hp with hp | hp
      · exact (hK.st p hp).chg hc3 (hne _ _ (hK.st p hp))
      · rw [List.mem_singleton.1 hp]; exact hs.chg hc3 (hne _ _ hs)
    have hstl : ∀ p ∈ L ++ [(sb, st)], StB (w2.setCell ⟨eb, 23, none⟩ v') p.1 p.2 := fun p hp => by
      rcases List.mem_append.1 hp with hp | hp
      · exact (ho.st p hp).chg hc3 (hne _ _ (ho.st p hp))
      · rw [List.mem_singleton.1 hp]; exact hs.chg hc3 (hne _ _ hs)
    have hen2 : EnB w2 eb m := hen1.chg hcg (fun e => owns_ne hrow1 hen1.blk (by decide) e)
    have hown3 : (w2.setCell ⟨eb, 23, none⟩ v').ownsRow 0 124 1 v' (L ++ [(sb, st)]).length (opnCells (L ++ [(sb, st)])) := by
      have := owns_chg hown hset (fun j hj e => by rw [e] at hj; exact owns_ne hown hen2.blk (by decide) hj)
      rw [List.length_append]
      unfold opnCells at this ⊢
      rw [List.map_append]
      exact this
    have hkb : ∃ es clock, (w2.setCell ⟨eb, 23, none⟩ v').heap[mb]? = some (.map es clock) ∧ es.toList.map (fun e => (e.key, e.val)) = (K ++ [(sb, st)]).map knownE ∧ ((∀ e ∈ es.toList, e.born < clock) ∧ (es.toList.map fun e => e.born).Nodup) := by
      refine ⟨es, clock, ?_, ?_, hbn1⟩
      · rw [hset.block mb (by have := hcg.size; have := hK.lt; omega) hme, hcg.block mb (by have := hK.lt; omega) (fun e => by
          rcases hrow1.2 with ⟨h1, -⟩ | ⟨g, cap, cur, h1, h2, h3, -⟩
          · rw [h1] at e; simp [Value.ownBlock] at e
          · rw [h1] at e; simp [Value.ownBlock] at e; rw [e, hb1] at h3; cases h3)]
        exact hb1
      · rw [he1, List.map_append]; rfl
    refine (sortFunc_put v' L (sb, st) _ ⟨hown3, hstl⟩ (fun i j hj hij => by
      have := rise_at hup (i := i) (j := j) hij (by rw [List.length_map]; exact hj)
      simpa using this) hL).mono ?_
    rintro e w' ⟨rfl, hb, ho'⟩
    have hb' : ∀ {p : Nat} {cs : Array Value} {t : TypeId} {f : Nat × Nat}, (w2.setCell ⟨eb, 23, none⟩ v').heap[p]? = some (.cells cs t f) → 124 ≠ t → ¬ v'.ownBlock = some p := fun hp hne => owns_ne hown3 hp hne
    refine ⟨rfl, v', ⟨(EnB.of (blk_set hen2.blk) rfl : EnB _ eb { m with opn := v' }).chg hb (hb' (blk_set hen2.blk) (by decide)), (KnownS.mk hkb hsts).chg hb (fun e => ?_) (fun p hp => hb' (hsts p hp).blk (by decide)), ho'.row, hc3.trans (hb.mono fun j _ e => ?_), fun j hj => ?_⟩⟩
    · rcases hown3.2 with ⟨h1, -⟩ | ⟨g, cap, cur, h1, h2, h3, -⟩
      · rw [h1] at e; simp [Value.ownBlock] at e
      · obtain ⟨es', clock', hb'', -⟩ := hkb
        rw [h1] at e; simp [Value.ownBlock] at e; rw [e, hb''] at h3; cases h3
    · rcases hfr with a | a
      · rw [a] at e; exact Or.inr (Or.inr (Or.inr e))
      · rw [a] at e; simp at e; exact Or.inl (by omega)
    · rcases hfr with e | e
      · rw [e] at hj; exact Or.inl hj
      · rw [e] at hj; simp at hj; exact Or.inr (by omega)
  have HROW := hide hrow1
  have HEN := hide hen1
  have HSO := hide hso
  have HZW := hide hz1w
  have f23 := hen1.fr 23
  have hlt1 : eb < w1.heap.size := hen1.lt
  clear hm h hK ho hs hn hup hc1 hb1 he1 hbn1 hc1' hrow1 hen1 hz1' hso hz1w
  go_enter Tryz.func62, Tryz.ntmps62
  go_upto_region 0 with fail
  go_cut [] (fun wx => wx = w1)
  case first =>
    go_region_law (fail)
    all_goals (go_wp2_with fail; go_meet; rfl)
  case rest =>
    rw [hcut]
    clear hcut
    clear hmu HMU c22 c23 s3 hd
    go_wp2_with (at_builtin; refine wpList_app _ rfl (.tmp 17) (.tmp 19) 79 rfl 124 i0 (.pointer none) 1 8 Tryz.underlying79 hi hz0 hz1 hz2 rfl (by decide) (.slice so L.length co) L.length (opnCells L) rfl ?o1 _ 1 [.pointer (some ⟨sb, 0, none⟩)] rfl rfl ?o2 ?o3 ?o4 ?o5 ?_)
    case o1 => rw [← HSO.out]; exact owns_chg HROW.out (Chg.of_below (S := fun _ => False) ((Below.refl _ _).alloc (Nat.le_refl _) _)) (fun _ _ => id)
    case o2 => exact lies_one (one_alloc _ _ _)
    case o3 => intro u hu; rw [List.mem_singleton.1 hu]; rfl
    case o4 => unfold maxLen; omega
    case o5 => omega
    intro v' w2 hown hg hfr
    obtain ⟨s2, c2, hv2⟩ := slice_len hown
    subst hv2
    have HE := hide (HEND.out _ w2 hown (by rw [HSO.out]; exact hg) (by rw [HSO.out]; rcases hfr with e | e; exact Or.inl e; exact Or.inr (by rw [e])))
    have e23 : w2.cell? ⟨eb, 23, none⟩ = some (.slice so L.length co) := by
      have hba : Below w1.heap.size w1 (w1.alloc (.cells #[.pointer (some ⟨sb, 0, none⟩)] 124)) := (Below.refl _ _).alloc (Nat.le_refl _) _
      have hcg : Chg (fun j => m.opn.ownBlock = some j) w1 w2 := (Chg.of_below hba).trans ((Chg.of_grown hg (fun j hj => by rw [HSO.out]; exact hj)).mono fun j _ e => Or.inr e)
      rw [hcg.cell (p := ⟨eb, 23, none⟩) hlt1 (fun e => owns_ne HROW.out HEN.out.blk (by decide) e)]
      exact d23
    have g23 : w2.frozen? ⟨eb, 23, none⟩ = false := by
      have hba : Below w1.heap.size w1 (w1.alloc (.cells #[.pointer (some ⟨sb, 0, none⟩)] 124)) := (Below.refl _ _).alloc (Nat.le_refl _) _
      have hcg : Chg (fun j => m.opn.ownBlock = some j) w1 w2 := (Chg.of_below hba).trans ((Chg.of_grown hg (fun j hj => by rw [HSO.out]; exact hj)).mono fun j _ e => Or.inr e)
      rw [hcg.frozen (p := ⟨eb, 23, none⟩) hlt1 (fun e => owns_ne HROW.out HEN.out.blk (by decide) e)]
      exact f23
    clear hown hg hfr HEND
    go_wp2_with fail
    refine HE.out.mono ?_
    rintro e w' ⟨rfl, hx⟩
    have HX := hide hx
    clear hx
    go_wp2
    exact bodyPost_end (results_none rfl _ _ _) rfl ⟨rfl, HX.out⟩
end Go.Proofs.YtdccldbefdfppaaGreatDoor
/-
  Package ends: opensTalk, goesOn, checkTurn.
-/
namespace Go.Proofs.YtdccldbefdfppaaGreatDoor
set_option linter.unusedVariables false
set_option linter.unusedSimpArgs false
open Go.RowKit

theorem has4_bits {f : Int} (h0 : 0 ≤ f) (h1 : f < 256) : (bits BinOp.and IntKind.i64 f 4 != 0) = hasB f 4 := by
  obtain ⟨n, rfl⟩ : ∃ n : Nat, f = n := ⟨f.toNat, by omega⟩
  have hn : n < 256 := by omega
  have key : ∀ m : Fin 256, (bits BinOp.and IntKind.i64 (m.val : Int) 4 != 0) = hasB (m.val : Int) 4 := by decide +kernel
  exact key ⟨n, hn⟩
set_option maxHeartbeats 400000 in
theorem has4_any (k f s : Int) (bv : Value) (w : World) (h0 : 0 ≤ f) (h1 : f < 256) :
    Calls Tryz.prog 98 #[.agg #[.int .i64 k, .int .i64 f, .int .i64 s, bv], .int .i64 4] w fun e w' => e = .returned (.bool (hasB f 4)) ∧ Below w.heap.size w w' := by
  have HH : Hid ((bits BinOp.and IntKind.i64 f 4 != 0) = hasB f 4) := has4_bits h0 h1
  go_enter Tryz.func98, Tryz.ntmps98
  go_wp2
  go_ret
  exact ⟨ret_bool HH.out, (Below.refl _ _).alloc (Nat.le_refl _) _⟩

theorem Inv.find {w : World} {eb mb : Nat} {g : GEnd} (h : Inv w eb mb g) {s : GSt} (hs : s ∈ g.K) : findK (g.K.map GSt.str) s.st.number = some s.str := by
  rw [findK_str, find_nd (fun s : GSt => s.st.number) h.nn hs]
  rfl
set_option maxRecDepth 100000 in
set_option maxHeartbeats 400000 in
theorem goesOn_no (t : TypeId) (x : Value) (w : World) (ht : t = 162 ∨ t = 165 ∨ t = 170 ∨ t = 173 ∨ t = 176 ∨ t = 178 ∨ t = 179 ∨ t = 181) :
    Calls Tryz.prog 127 #[.iface t x] w fun e w' => e = .returned (.int .i64 0) ∧ Below w.heap.size w w' := by
  have hta : ∀ (x : Value) (w : World), (Instr.typeAssert (.iface t x) 140 167 true).run Tryz.prog w = .ok (.tuple #[.agg #[.int .i64 0, .int .i64 0, .int .i64 0, .slice none 0 0, .slice none 0 0], .bool false]) w := by
    rcases ht with rfl | rfl | rfl | rfl | rfl | rfl | rfl | rfl <;> exact fun _ _ => by kernel_rfl
  clear ht
  go_enter Tryz.func127, Tryz.ntmps127
  go_wp2
  go_ret
  exact ⟨rfl, (Below.refl _ _).alloc (Nat.le_refl _) _⟩
set_option maxRecDepth 100000 in
set_option maxHeartbeats 400000 in
theorem opensTalk_set (k f s : Int) (sv : Option Addr) (n cb : Nat) (nv : Int) (w : World) (h0 : 0 ≤ f) (h1 : f < 256) :
    Calls Tryz.prog 126 #[.iface 173 (.agg #[.int .i64 k, .int .i64 f, .int .i64 s, .slice sv n cb, .int .i64 nv])] w fun e w' => e = .returned (.bool (!hasB f 1)) ∧ Below w.heap.size w w' := by
  have hta : ∀ (x : Value) (w : World), (Instr.typeAssert (.iface 173 x) 140 173 true).run Tryz.prog w = .ok (.tuple #[x, .bool true]) w := fun _ _ => by kernel_rfl
  have HH : Hid (∀ w, Calls Tryz.prog 98 #[.agg #[.int .i64 k, .int .i64 f, .int .i64 s, .slice sv n cb], .int .i64 1] w fun e w' => e = .returned (.bool (hasB f 1)) ∧ Below w.heap.size w w') := fun w => has_any k f s 1 _ w h0 h1 (Or.inl rfl)
  generalize hasB f 1 = hb at *
  go_enter Tryz.func126, Tryz.ntmps126
  go_wp2_with fail
  refine (HH.out _).mono ?_
  rintro e w' ⟨rfl, hb⟩
  have HB := hide hb
  clear hb
  go_wp2
  go_ret
  exact ⟨rfl, ((Below.refl _ _).alloc (Nat.le_refl _) _).trans (HB.out.mono (by simp))⟩

set_option maxRecDepth 100000 in
set_option maxHeartbeats 800000 in
/-- A frame that is no Continue, behind the first, or Settings as the first; and no block is under way. -/
theorem checkTurn_ok (eb : Nat) (m : EndM) (t : TypeId) (x : Value) (w : World) (h : EnB w eb m) (ht : t = 162 ∨ t = 165 ∨ t = 170 ∨ t = 173 ∨ t = 176 ∨ t = 178 ∨ t = 179 ∨ t = 181) (hb : m.bstream = 0)
    (ho : m.begun = true ∨ ∀ w, Calls Tryz.prog 126 #[.iface t x] w fun e w' => e = .returned (.bool true) ∧ Below w.heap.size w w') :
    Calls Tryz.prog 94 #[.pointer (some ⟨eb, 0, none⟩), .iface t x] w fun e w' => e = .returned (.tuple #[]) ∧ Below w.heap.size w w' := by
  have c30 := h.c30
  have HG : Hid (∀ w, Calls Tryz.prog 127 #[.iface t x] w fun e w' => e = .returned (.int .i64 0) ∧ Below w.heap.size w w') := fun w => goesOn_no t x w ht
  have H := hide h
  have HBS := hide hb
  have hrest : ∀ w1, Below w.heap.size w w1 → w1.cell? ⟨eb, 31, none⟩ = some (.int .i64 0) := fun w1 hb1 => by rw [(h.below hb1).c31, hb]
  have HR := hide hrest
  clear h ht hb hrest
  cases hbg : m.begun with
  | true =>
    rw [hbg] at c30
    clear ho
    go_enter Tryz.func94, Tryz.ntmps94
    go_upto_region 2 with fail
    have k31 := HR.out w (Below.refl _ _)
    go_cut [24] (fun s24 wx => s24 = .bool false ∧ Below w.heap.size w wx)
    case first =>
      go_region_held3 (fun w' => w'.cell? ⟨eb, 31, none⟩ = some (.int .i64 0)) (go_keep)
        (first | (go_at_call 127; refine (HG.out w.drew).mono ?_; rintro e w1 ⟨rfl, hb1⟩; have hB1 : Below w.heap.size w w1 := ⟨hb1.os, hb1.tape, hb1.output, hb1.size, hb1.block⟩; have t31 := HR.out w1 hB1))
      all_goals (go_wp2_with fail; go_meet; exact ⟨rfl, hB1⟩)
    case rest =>
      obtain ⟨rfl, hbx⟩ := hcut
      have HX := hide hbx
      clear hbx
      go_wp2
      exact bodyPost_end (results_none rfl _ _ _) rfl ⟨rfl, HX.out⟩
  | false =>
    rw [hbg] at c30 ho
    have HO : Hid (∀ w, Calls Tryz.prog 126 #[.iface t x] w fun e w' => e = .returned (.bool true) ∧ Below w.heap.size w w') := by
      rcases ho with h | h
      · cases h
      · exact h
    clear ho
    go_enter Tryz.func94, Tryz.ntmps94
    go_wp2_with fail
    refine (HO.out _).mono ?_
    rintro e w0 ⟨rfl, hb0⟩
    have HB0 := hide hb0
    have k31 := HR.out w0 hb0
    clear hb0
    go_upto_region 2 with fail
    go_cut [24] (fun s24 wx => s24 = .bool false ∧ Below w.heap.size w wx)
    case first =>
      go_region_held3 (fun w' => w'.cell? ⟨eb, 31, none⟩ = some (.int .i64 0)) (go_keep)
        (first | (go_at_call 127; refine (HG.out w0.drew).mono ?_; rintro e w1 ⟨rfl, hb1⟩; have hB1 : Below w.heap.size w w1 := HB0.out.trans (Below.mono ⟨hb1.os, hb1.tape, hb1.output, hb1.size, hb1.block⟩ HB0.out.size); have t31 := HR.out w1 hB1))
      all_goals (go_wp2_with fail; go_meet; exact ⟨rfl, hB1⟩)
    case rest =>
      obtain ⟨rfl, hbx⟩ := hcut
      have HX := hide hbx
      clear hbx
      go_wp2
      exact bodyPost_end (results_none rfl _ _ _) rfl ⟨rfl, HX.out⟩
end Go.Proofs.YtdccldbefdfppaaGreatDoor
