import Derived.Test.YtdccldbefdfppaaGreatDoorQGaj
import Derived.Test.YtdccldbefdfppaaGreatDoorQGak
import Derived.Test.YtdccldbefdfppaaGreatDoorQGam
set_option linter.unusedVariables false
set_option linter.unusedSimpArgs false
/-
  Package ends: Write; and package sluice's.
-/
namespace Go.Proofs.YtdccldbefdfppaaGreatDoor
set_option linter.unusedVariables false
set_option linter.unusedSimpArgs false
open Go.RowKit

/-- How many bytes are laid down: those that have room. -/
def roomN (len wait : Nat) : Nat := min len (100 - wait)
/-- How Write ends where it may: l waits, b is laid down. -/
structure Wrote (w w' : World) (p : Str) (l b : List UInt8) (v : Value) : Prop where
  st : StB w' p.1 { p.2 with waiting := v }
  row : w'.ownsRow 0 5 1 v (l ++ b.take (roomN b.length l.length)).length ((l ++ b.take (roomN b.length l.length)).map B)
  chg : Chg (fun j => j = p.1 ∨ p.2.waiting.ownBlock = some j) w w'
  fresh : ∀ j, v.ownBlock = some j → p.2.waiting.ownBlock = some j ∨ w.heap.size ≤ j

set_option maxRecDepth 100000 in
set_option maxHeartbeats 1600000 in
theorem eWrite_no (eb mb : Nat) (m : EndM) (K : List Str) (n : Int) (bv : Value) (w : World) (h : EnB w eb m) (hm : m.known = .map (some mb)) (hK : KnownS w mb K) (hc : m.wcode (findK K n) ≠ 0) :
    Calls Tryz.prog 43 #[.pointer (some ⟨eb, 0, none⟩), .int .i64 n, bv] w fun e w' => e = .returned (.tuple #[.int .i64 0, .int .i64 (m.wcode (findK K n))]) ∧ w' = w := by
  have hw := writable_any eb mb m K n w h hm hK
  rw [if_neg hc] at hw
  obtain ⟨c, hcc⟩ : ∃ c, c = m.wcode (findK K n) := ⟨_, rfl⟩
  rw [← hcc] at hw hc ⊢
  have HW := hide hw
  have hcb : (c == 0) = false := by rw [beq_eq_false_iff_ne]; exact hc
  clear h hm hK hw hcc hc
  go_enter Tryz.func43, Tryz.ntmps43
  go_wp2_with fail
  refine HW.out.mono ?_
  rintro e w' ⟨hw', rfl⟩
  rw [hw']
  clear hw' w'
  go_wp2
  all_goals go_ret2
  all_goals exact ⟨rfl, rfl⟩

end Go.Proofs.YtdccldbefdfppaaGreatDoor
/-
  Package sluice: Write and Read of an end.
-/
namespace Go.Proofs.YtdccldbefdfppaaGreatDoor
set_option linter.unusedVariables false
set_option linter.unusedSimpArgs false
open Go.RowKit

set_option maxHeartbeats 400000 in
/-- Write, as End's. -/
theorem xWrite_of (eb : Nat) (n : Int) (bv : Value) (w : World) {R : Value → Value → World → Prop} (h : Calls Tryz.prog 43 #[.pointer (some ⟨eb, 0, none⟩), .int .i64 n, bv] w fun e w' => ∃ a c, e = .returned (.tuple #[a, c]) ∧ R a c w') :
    Calls Tryz.prog 21 #[.pointer (some ⟨eb, 0, none⟩), .int .i64 n, bv] w fun e w' => ∃ a c, e = .returned (.tuple #[a, c]) ∧ R a c w' := by
  have HC := hide h
  clear h
  go_enter Tryz.func21, Tryz.ntmps21
  go_wp2_with fail
  refine HC.out.mono ?_
  rintro e w' ⟨a, c, rfl, h⟩
  have H := hide h
  clear h
  go_wp2
  go_ret2
  exact ⟨a, c, rfl, H.out⟩
end Go.Proofs.YtdccldbefdfppaaGreatDoor
/-
  (*ends.End).Reset that is done, and package sluice's; Write, Read and Close at an end with all that it has.
-/
namespace Go.Proofs.YtdccldbefdfppaaGreatDoor
set_option linter.unusedVariables false
set_option linter.unusedSimpArgs false
open Go.RowKit

end Go.Proofs.YtdccldbefdfppaaGreatDoor
/-
  Package ends: come, by the kinds of frames; take.
-/
namespace Go.Proofs.YtdccldbefdfppaaGreatDoor
set_option linter.unusedVariables false
set_option linter.unusedSimpArgs false
open Go.RowKit

/-- The reader of an end. -/
structure RdOk (g : GEnd) : Prop where
  got : Got g.got
  head : 6 ≤ g.got.length → hdOf g.got = ⟨g.m.hlen, g.m.hkind, g.m.hflags, g.m.hstream⟩
theorem RdOk.nil {g : GEnd} (h : g.got = []) : RdOk g := ⟨by rw [h]; exact got_nil, fun h6 => by rw [h] at h6; simp at h6⟩
theorem Inv.rdsg {w : World} {eb mb : Nat} {g : GEnd} (h : Inv w eb mb g) (hr : RdOk g) : RdSG w eb 25 103 g.m.cells g.m.got g.got :=
  ⟨hr.got, h.got, g.m.hlen, g.m.hkind, g.m.hflags, g.m.hstream, ⟨h.en.blk, by decide, rfl, rfl, rfl, rfl, rfl⟩, hr.head⟩
def EndM.rd (m : EndM) (gv : Value) (L K F S : Int) : EndM := { m with got := gv, hlen := L, hkind := K, hflags := F, hstream := S }
theorem rd_cells {m : EndM} {cs' : Array Value} {gv : Value} {L K F S : Int} (ha : Alike 25 m.cells cs') (h0 : cs'[25]? = some gv) (h1 : cs'[26]? = some (.int .i64 L)) (h2 : cs'[27]? = some (.int .i64 K)) (h3 : cs'[28]? = some (.int .i64 F)) (h4 : cs'[29]? = some (.int .i64 S)) : cs' = (m.rd gv L K F S).cells := by
  have e : (m.rd gv L K F S).cells = ((((m.cells.setIfInBounds 25 gv).setIfInBounds 26 (.int .i64 L)).setIfInBounds 27 (.int .i64 K)).setIfInBounds 28 (.int .i64 F)).setIfInBounds 29 (.int .i64 S) := rfl
  have hsz : m.cells.size = 50 := rfl
  rw [e]
  apply Array.ext_getElem?
  intro i
  by_cases i0 : i = 25
  · subst i0; rw [h0]; simp [hsz, Array.getElem?_setIfInBounds]
  by_cases i1 : i = 26
  · subst i1; rw [h1]; simp [hsz, Array.getElem?_setIfInBounds]
  by_cases i2 : i = 27
  · subst i2; rw [h2]; simp [hsz, Array.getElem?_setIfInBounds]
  by_cases i3 : i = 28
  · subst i3; rw [h3]; simp [hsz, Array.getElem?_setIfInBounds]
  by_cases i4 : i = 29
  · subst i4; rw [h4]; simp [hsz, Array.getElem?_setIfInBounds]
  rw [ha.2 i (by omega), Array.getElem?_setIfInBounds_ne (by omega), Array.getElem?_setIfInBounds_ne (by omega), Array.getElem?_setIfInBounds_ne (by omega), Array.getElem?_setIfInBounds_ne (by omega), Array.getElem?_setIfInBounds_ne (by omega)]

/-- What the reader's call leaves. -/
theorem Inv.onGot {w w' : World} {eb mb : Nat} {g : GEnd} {cs' : Array Value} {gv' : Value} {got' : List UInt8} (h : Inv w eb mb g) (hl : LeftG w w' eb 25 103 g.m.cells cs' g.m.got gv' got') : ∃ g', g'.bare = ({ g with got := got' } : GEnd).bare ∧ RdOk g' ∧ Next w w' eb mb g g' ∧ (∀ j, Foot eb mb g' j → Foot eb mb g j ∨ gv'.ownBlock = some j) := by
  obtain ⟨⟨hgot, hown, L, K, F, S, hrd, hhd⟩, hal, hc, hfr⟩ := hl
  have hen : EnB w' eb (g.m.rd gv' L K F S) := ⟨by rw [hrd.blk, rd_cells hal hrd.c0 hrd.c1 hrd.c2 hrd.c3 hrd.c4]⟩
  have hs : ∀ j, Touch eb g.m.got j → j = eb ∨ g.m.got.ownBlock = some j := fun j e => e
  refine ⟨{ g with m := g.m.rd gv' L K F S, got := got' }, rfl, ⟨hgot, hhd⟩, ⟨⟨hen, h.kn.chg hc (fun e => ?_) (fun p hp e => ?_), h.km, h.nd, h.nn, h.ln, h.has, ?_, ?_, hown, fun p hp => ?_, fun p hp => ?_, ?_, fun a ha => ?_, ?_, ?_⟩, hc.mono fun j _ e => ?_, fun j hj => ?_⟩, fun j hj => ?_⟩
  · rcases hs _ e with a | a
    · exact h.eb_mb a
    · exact owns_mb h.kn h.got a
  · obtain ⟨q, hq, rfl⟩ := List.mem_map.1 hp
    rcases hs _ e with a | a
    · exact h.st_eb hq a
    · exact owns_ne h.got (h.st hq).blk (by decide) a
  · refine owns_chg h.row hc (fun j hj e => ?_)
    rcases hs _ e with a | a
    · rw [a] at hj; exact owns_ne h.row h.en.blk (by decide) hj
    · exact rows_ne h.got h.row (by decide) a hj
  · refine owns_chg h.out hc (fun j hj e => ?_)
    rcases hs _ e with a | a
    · rw [a] at hj; exact owns_ne h.out h.en.blk (by decide) hj
    · exact h.out_got hj a
  · refine owns_chg (h.un p hp) hc (fun j hj e => ?_)
    rcases hs _ e with a | a
    · rw [a] at hj; exact owns_ne (h.un p hp) h.en.blk (by decide) hj
    · exact h.got_un hp hj a
  · refine owns_chg (h.wa p hp) hc (fun j hj e => ?_)
    rcases hs _ e with a | a
    · rw [a] at hj; exact owns_ne (h.wa p hp) h.en.blk (by decide) hj
    · exact h.got_wa hp hj a
  · refine h.ans.chg hc (fun j hj e => ?_)
    rcases hs _ e with a | a
    · rw [a] at hj; exact h.ans.ne h.en.blk (by decide) hj
    · exact rows_ne2 h.got h.ans (by decide) a hj
  · refine owns_chg (h.anb a ha) hc (fun j hj e => ?_)
    rcases hs _ e with b | b
    · rw [b] at hj; exact owns_ne (h.anb a ha) h.en.blk (by decide) hj
    · exact h.got_an ha hj b
  · refine h.res.chg hc (fun j hj e => ?_)
    rcases hs _ e with a | a
    · rw [a] at hj; exact h.res.ne h.en.blk (by decide) hj
    · exact rows_ne2 h.got h.res (by decide) a hj
  · exact h.apart (fun _ => 1) _ g.K g.ans (fun j hj => Or.inl hj) (fun j hj => (hfr j hj).imp_right fun a => ⟨a, rfl⟩) (fun p hp j hj => Or.inl ⟨p, hp, rfl, hj⟩) (fun p hp j hj => Or.inl ⟨p, hp, rfl, hj⟩) (fun a ha j hj => Or.inl ⟨a, ha, hj⟩)
  · rcases hs _ e with a | a
    · exact Or.inl a
    · unfold Foot; simp [a]
  · rcases hj with e | e | e | e | e | e | e | e | e
    · exact Or.inl (Or.inl e)
    · exact Or.inl (Or.inr (Or.inl e))
    · exact Or.inl (by unfold Foot; simp [show g.m.out.ownBlock = some j from e])
    · rcases hfr j e with a | a
      · exact Or.inl (by unfold Foot; simp [a])
      · exact Or.inr a
    · exact Or.inl (by unfold Foot; simp [show g.m.opn.ownBlock = some j from e])
    · exact Or.inl (by unfold Foot; simp [show g.m.answers.ownBlock = some j from e])
    · exact Or.inl (by unfold Foot; simp [show g.m.resets.ownBlock = some j from e])
    · exact Or.inl (Or.inr (Or.inr (Or.inr (Or.inr (Or.inr (Or.inr (Or.inr (Or.inl e))))))))
    · exact Or.inl (Or.inr (Or.inr (Or.inr (Or.inr (Or.inr (Or.inr (Or.inr (Or.inr e))))))))
  · rcases hj with e | e | e | e | e | e | e | e | e
    · exact Or.inl (Or.inl e)
    · exact Or.inl (Or.inr (Or.inl e))
    · exact Or.inl (by unfold Foot; simp [show g.m.out.ownBlock = some j from e])
    · exact Or.inr e
    · exact Or.inl (by unfold Foot; simp [show g.m.opn.ownBlock = some j from e])
    · exact Or.inl (by unfold Foot; simp [show g.m.answers.ownBlock = some j from e])
    · exact Or.inl (by unfold Foot; simp [show g.m.resets.ownBlock = some j from e])
    · exact Or.inl (Or.inr (Or.inr (Or.inr (Or.inr (Or.inr (Or.inr (Or.inr (Or.inl e))))))))
    · exact Or.inl (Or.inr (Or.inr (Or.inr (Or.inr (Or.inr (Or.inr (Or.inr (Or.inr e))))))))

/-- The first frame has come. -/
theorem Inv.begins {w : World} {eb mb : Nat} {g : GEnd} (h : Inv w eb mb g) : ∃ g', g'.bare = ({ g with m := { g.m with begun := true } } : GEnd).bare ∧ Next w (w.setCell ⟨eb, 30, none⟩ (.bool true)) eb mb g g' := by
  have hc : Chg (fun j => j = eb) w (w.setCell ⟨eb, 30, none⟩ (.bool true)) := chg_set (Chg.refl _ _) rfl
  have hn := h.onEnd (S := fun j => j = eb) (m' := { g.m with begun := true }) (o' := g.out) (A' := g.ans) (R' := g.res) hc (fun j e => Or.inl e) (EnB.of (blk_set h.en.blk) rfl) rfl rfl rfl (owns_chg h.out hc (fun j hj e => by rw [e] at hj; exact owns_ne h.out h.en.blk (by decide) hj)) (fun j hj => Or.inl hj) h.ans (fun _ h => h) (fun _ h => h) h.res (fun _ h => h)
  exact ⟨_, rfl, hn⟩
end Go.Proofs.YtdccldbefdfppaaGreatDoor
/-
  Package ends: come, by the kinds of frames.
-/
namespace Go.Proofs.YtdccldbefdfppaaGreatDoor
set_option linter.unusedVariables false
set_option linter.unusedSimpArgs false
open Go.RowKit

/-- What comes ahead of what a frame's kind does. -/
def Ahead (w w1 : World) (eb mb : Nat) (g g1 : GEnd) : Prop := g1.bare = ({ g with m := { g.m with begun := true } } : GEnd).bare ∧ Next w w1 eb mb g g1
theorem ahead_of {w w0 w1 : World} {eb mb : Nat} {g g1 : GEnd} (hb : Below w.heap.size w w0) (h1 : g1.bare = ({ g with m := { g.m with begun := true } } : GEnd).bare) (h2 : Next w0 (w0.setCell ⟨eb, 30, none⟩ (.bool true)) eb mb g g1) (hb2 : Below (w0.setCell ⟨eb, 30, none⟩ (.bool true)).heap.size (w0.setCell ⟨eb, 30, none⟩ (.bool true)) w1) : Ahead w w1 eb mb g g1 := ⟨h1, (h2.pre hb).then_below hb2⟩

section
variable (eb mb : Nat) (g : GEnd) (w : World) (R : World → Prop)
set_option maxRecDepth 100000 in
set_option maxHeartbeats 800000 in
theorem come_data (f n : Int) (sv : Option Addr) (len cb : Nat) (h : Inv w eb mb g) (hb : g.m.bstream = 0) (hbg : g.m.begun = true) (hc : ∀ w1 g1, Ahead w w1 eb mb g g1 → Calls Tryz.prog 95 #[.pointer (some ⟨eb, 0, none⟩), dataV f n sv len cb] w1 fun e w' => e = .returned (.tuple #[]) ∧ R w') :
    Calls Tryz.prog 69 #[.pointer (some ⟨eb, 0, none⟩), .iface 162 (dataV f n sv len cb)] w fun e w' => e = .returned (.tuple #[]) ∧ R w' := by
  have hta : ∀ (x : Value) (w : World), (Instr.typeAssert (.iface 162 x) 140 162 true).run Tryz.prog w = .ok (.tuple #[x, .bool true]) w := fun _ _ => by kernel_rfl
  have HT := hide (checkTurn_ok eb g.m 162 (dataV f n sv len cb) w h.en (by simp) hb (Or.inl hbg))
  have HC : Hid (∀ w0 o, Below w.heap.size w w0 → Calls Tryz.prog 95 #[.pointer (some ⟨eb, 0, none⟩), dataV f n sv len cb] ((w0.setCell ⟨eb, 30, none⟩ (.bool true)).alloc o) fun e w' => e = .returned (.tuple #[]) ∧ R w') := fun w0 o hb0 => by
    obtain ⟨g1, h1, h2⟩ := (h.below hb0).begins
    exact hc _ g1 (ahead_of hb0 h1 h2 ((Below.refl _ _).alloc (Nat.le_refl _) _))
  have HE : Hid (∀ w0, Below w.heap.size w w0 → w0.cell? ⟨eb, 30, none⟩ = some (.bool g.m.begun) ∧ w0.frozen? ⟨eb, 30, none⟩ = false ∧ eb < w0.heap.size) := fun w0 hb0 => ⟨(h.below hb0).en.c30, (h.below hb0).en.fr 30, (h.below hb0).en.lt⟩
  clear h hb hbg hc
  unfold dataV at *
  go_enter Tryz.func69, Tryz.ntmps69
  go_wp2_with fail
  refine HT.out.mono ?_
  rintro e w0 ⟨rfl, hb0⟩
  obtain ⟨k30, f30, hlt⟩ := HE.out w0 hb0
  have HB0 := hide hb0
  clear hb0
  go_wp2_with fail
  refine (HC.out w0 _ HB0.out).mono ?_
  rintro e w' ⟨rfl, hx⟩
  have HX := hide hx
  clear hx
  go_wp2
  exact bodyPost_end (results_none rfl _ _ _) rfl ⟨rfl, HX.out⟩
set_option maxRecDepth 100000 in
set_option maxHeartbeats 800000 in
theorem come_headers (f n : Int) (sv : Option Addr) (len cb : Nat) (h : Inv w eb mb g) (hb : g.m.bstream = 0) (hbg : g.m.begun = true) (hc : ∀ w1 g1, Ahead w w1 eb mb g g1 → Calls Tryz.prog 96 #[.pointer (some ⟨eb, 0, none⟩), .agg #[.int .i64 1, .int .i64 f, .int .i64 n, .slice sv len cb, .slice sv len cb]] w1 fun e w' => e = .returned (.tuple #[]) ∧ R w') :
    Calls Tryz.prog 69 #[.pointer (some ⟨eb, 0, none⟩), .iface 165 (.agg #[.int .i64 1, .int .i64 f, .int .i64 n, .slice sv len cb, .slice sv len cb])] w fun e w' => e = .returned (.tuple #[]) ∧ R w' := by
  have hta : ∀ (x : Value) (w : World), (Instr.typeAssert (.iface 165 x) 140 165 true).run Tryz.prog w = .ok (.tuple #[x, .bool true]) w := fun _ _ => by kernel_rfl
  have ht0 : ∀ (x : Value) (w : World), (Instr.typeAssert (.iface 165 x) 140 162 true).run Tryz.prog w = .ok (.tuple #[.agg #[.int .i64 0, .int .i64 0, .int .i64 0, .slice none 0 0, .slice none 0 0], .bool false]) w := fun _ _ => by kernel_rfl
  have HT := hide (checkTurn_ok eb g.m 165 (.agg #[.int .i64 1, .int .i64 f, .int .i64 n, .slice sv len cb, .slice sv len cb]) w h.en (by simp) hb (Or.inl hbg))
  have HC : Hid (∀ w0 o, Below w.heap.size w w0 → Calls Tryz.prog 96 #[.pointer (some ⟨eb, 0, none⟩), .agg #[.int .i64 1, .int .i64 f, .int .i64 n, .slice sv len cb, .slice sv len cb]] ((w0.setCell ⟨eb, 30, none⟩ (.bool true)).alloc o) fun e w' => e = .returned (.tuple #[]) ∧ R w') := fun w0 o hb0 => by
    obtain ⟨g1, h1, h2⟩ := (h.below hb0).begins
    exact hc _ g1 (ahead_of hb0 h1 h2 ((Below.refl _ _).alloc (Nat.le_refl _) _))
  have HE : Hid (∀ w0, Below w.heap.size w w0 → w0.cell? ⟨eb, 30, none⟩ = some (.bool g.m.begun) ∧ w0.frozen? ⟨eb, 30, none⟩ = false ∧ eb < w0.heap.size) := fun w0 hb0 => ⟨(h.below hb0).en.c30, (h.below hb0).en.fr 30, (h.below hb0).en.lt⟩
  clear h hb hbg hc
  skip
  go_enter Tryz.func69, Tryz.ntmps69
  go_wp2_with fail
  refine HT.out.mono ?_
  rintro e w0 ⟨rfl, hb0⟩
  obtain ⟨k30, f30, hlt⟩ := HE.out w0 hb0
  have HB0 := hide hb0
  clear hb0
  go_wp2_with fail
  refine (HC.out w0 _ HB0.out).mono ?_
  rintro e w' ⟨rfl, hx⟩
  have HX := hide hx
  clear hx
  go_wp2
  exact bodyPost_end (results_none rfl _ _ _) rfl ⟨rfl, HX.out⟩
set_option maxRecDepth 100000 in
set_option maxHeartbeats 800000 in
theorem come_reset (f n : Int) (sv : Option Addr) (len cb : Nat) (h : Inv w eb mb g) (hb : g.m.bstream = 0) (hbg : g.m.begun = true) (hc : ∀ w1 g1, Ahead w w1 eb mb g g1 → Calls Tryz.prog 99 #[.pointer (some ⟨eb, 0, none⟩), .agg #[.int .i64 2, .int .i64 f, .int .i64 n, .slice sv len cb]] w1 fun e w' => e = .returned (.tuple #[]) ∧ R w') :
    Calls Tryz.prog 69 #[.pointer (some ⟨eb, 0, none⟩), .iface 170 (.agg #[.int .i64 2, .int .i64 f, .int .i64 n, .slice sv len cb])] w fun e w' => e = .returned (.tuple #[]) ∧ R w' := by
  have hta : ∀ (x : Value) (w : World), (Instr.typeAssert (.iface 170 x) 140 170 true).run Tryz.prog w = .ok (.tuple #[x, .bool true]) w := fun _ _ => by kernel_rfl
  have ht0 : ∀ (x : Value) (w : World), (Instr.typeAssert (.iface 170 x) 140 162 true).run Tryz.prog w = .ok (.tuple #[.agg #[.int .i64 0, .int .i64 0, .int .i64 0, .slice none 0 0, .slice none 0 0], .bool false]) w := fun _ _ => by kernel_rfl
  have ht1 : ∀ (x : Value) (w : World), (Instr.typeAssert (.iface 170 x) 140 165 true).run Tryz.prog w = .ok (.tuple #[.agg #[.int .i64 0, .int .i64 0, .int .i64 0, .slice none 0 0, .slice none 0 0], .bool false]) w := fun _ _ => by kernel_rfl
  have ht2 : ∀ (x : Value) (w : World), (Instr.typeAssert (.iface 170 x) 140 167 true).run Tryz.prog w = .ok (.tuple #[.agg #[.int .i64 0, .int .i64 0, .int .i64 0, .slice none 0 0, .slice none 0 0], .bool false]) w := fun _ _ => by kernel_rfl
  have HT := hide (checkTurn_ok eb g.m 170 (.agg #[.int .i64 2, .int .i64 f, .int .i64 n, .slice sv len cb]) w h.en (by simp) hb (Or.inl hbg))
  have HC : Hid (∀ w0 o, Below w.heap.size w w0 → Calls Tryz.prog 99 #[.pointer (some ⟨eb, 0, none⟩), .agg #[.int .i64 2, .int .i64 f, .int .i64 n, .slice sv len cb]] ((w0.setCell ⟨eb, 30, none⟩ (.bool true)).alloc o) fun e w' => e = .returned (.tuple #[]) ∧ R w') := fun w0 o hb0 => by
    obtain ⟨g1, h1, h2⟩ := (h.below hb0).begins
    exact hc _ g1 (ahead_of hb0 h1 h2 ((Below.refl _ _).alloc (Nat.le_refl _) _))
  have HE : Hid (∀ w0, Below w.heap.size w w0 → w0.cell? ⟨eb, 30, none⟩ = some (.bool g.m.begun) ∧ w0.frozen? ⟨eb, 30, none⟩ = false ∧ eb < w0.heap.size) := fun w0 hb0 => ⟨(h.below hb0).en.c30, (h.below hb0).en.fr 30, (h.below hb0).en.lt⟩
  clear h hb hbg hc
  skip
  go_enter Tryz.func69, Tryz.ntmps69
  go_wp2_with fail
  refine HT.out.mono ?_
  rintro e w0 ⟨rfl, hb0⟩
  obtain ⟨k30, f30, hlt⟩ := HE.out w0 hb0
  have HB0 := hide hb0
  clear hb0
  go_wp2_with fail
  refine (HC.out w0 _ HB0.out).mono ?_
  rintro e w' ⟨rfl, hx⟩
  have HX := hide hx
  clear hx
  go_wp2
  exact bodyPost_end (results_none rfl _ _ _) rfl ⟨rfl, HX.out⟩
set_option maxRecDepth 100000 in
set_option maxHeartbeats 800000 in
theorem come_settings (f nv : Int) (sv : Option Addr) (len cb : Nat) (h : Inv w eb mb g) (hb : g.m.bstream = 0) (hak : hasB f 1 = false) (hf : 0 ≤ f ∧ f ≤ 255) (hc : ∀ w1 g1, Ahead w w1 eb mb g g1 → Calls Tryz.prog 100 #[.pointer (some ⟨eb, 0, none⟩), .agg #[.int .i64 3, .int .i64 f, .int .i64 0, .slice sv len cb, .int .i64 nv]] w1 fun e w' => e = .returned (.tuple #[]) ∧ R w') :
    Calls Tryz.prog 69 #[.pointer (some ⟨eb, 0, none⟩), .iface 173 (.agg #[.int .i64 3, .int .i64 f, .int .i64 0, .slice sv len cb, .int .i64 nv])] w fun e w' => e = .returned (.tuple #[]) ∧ R w' := by
  have hta : ∀ (x : Value) (w : World), (Instr.typeAssert (.iface 173 x) 140 173 true).run Tryz.prog w = .ok (.tuple #[x, .bool true]) w := fun _ _ => by kernel_rfl
  have ht0 : ∀ (x : Value) (w : World), (Instr.typeAssert (.iface 173 x) 140 162 true).run Tryz.prog w = .ok (.tuple #[.agg #[.int .i64 0, .int .i64 0, .int .i64 0, .slice none 0 0, .slice none 0 0], .bool false]) w := fun _ _ => by kernel_rfl
  have ht1 : ∀ (x : Value) (w : World), (Instr.typeAssert (.iface 173 x) 140 165 true).run Tryz.prog w = .ok (.tuple #[.agg #[.int .i64 0, .int .i64 0, .int .i64 0, .slice none 0 0, .slice none 0 0], .bool false]) w := fun _ _ => by kernel_rfl
  have ht2 : ∀ (x : Value) (w : World), (Instr.typeAssert (.iface 173 x) 140 167 true).run Tryz.prog w = .ok (.tuple #[.agg #[.int .i64 0, .int .i64 0, .int .i64 0, .slice none 0 0, .slice none 0 0], .bool false]) w := fun _ _ => by kernel_rfl
  have ht3 : ∀ (x : Value) (w : World), (Instr.typeAssert (.iface 173 x) 140 170 true).run Tryz.prog w = .ok (.tuple #[.agg #[.int .i64 0, .int .i64 0, .int .i64 0, .slice none 0 0], .bool false]) w := fun _ _ => by kernel_rfl
  have HT := hide (checkTurn_ok eb g.m 173 (.agg #[.int .i64 3, .int .i64 f, .int .i64 0, .slice sv len cb, .int .i64 nv]) w h.en (by simp) hb (Or.inr fun w => by
    have := opensTalk_set 3 f 0 sv len cb nv w hf.1 (by omega)
    rw [hak] at this
    exact this))
  have HC : Hid (∀ w0 o, Below w.heap.size w w0 → Calls Tryz.prog 100 #[.pointer (some ⟨eb, 0, none⟩), .agg #[.int .i64 3, .int .i64 f, .int .i64 0, .slice sv len cb, .int .i64 nv]] ((w0.setCell ⟨eb, 30, none⟩ (.bool true)).alloc o) fun e w' => e = .returned (.tuple #[]) ∧ R w') := fun w0 o hb0 => by
    obtain ⟨g1, h1, h2⟩ := (h.below hb0).begins
    exact hc _ g1 (ahead_of hb0 h1 h2 ((Below.refl _ _).alloc (Nat.le_refl _) _))
  have HE : Hid (∀ w0, Below w.heap.size w w0 → w0.cell? ⟨eb, 30, none⟩ = some (.bool g.m.begun) ∧ w0.frozen? ⟨eb, 30, none⟩ = false ∧ eb < w0.heap.size) := fun w0 hb0 => ⟨(h.below hb0).en.c30, (h.below hb0).en.fr 30, (h.below hb0).en.lt⟩
  clear h hb hak hf hc
  skip
  go_enter Tryz.func69, Tryz.ntmps69
  go_wp2_with fail
  refine HT.out.mono ?_
  rintro e w0 ⟨rfl, hb0⟩
  obtain ⟨k30, f30, hlt⟩ := HE.out w0 hb0
  have HB0 := hide hb0
  clear hb0
  go_wp2_with fail
  refine (HC.out w0 _ HB0.out).mono ?_
  rintro e w' ⟨rfl, hx⟩
  have HX := hide hx
  clear hx
  go_wp2
  exact bodyPost_end (results_none rfl _ _ _) rfl ⟨rfl, HX.out⟩
end
end Go.Proofs.YtdccldbefdfppaaGreatDoor
/-
  Package ends: come, by kinds, whether it ends well or gives up.
-/
namespace Go.Proofs.YtdccldbefdfppaaGreatDoor
set_option linter.unusedVariables false
set_option linter.unusedSimpArgs false
open Go.RowKit

section
variable (eb mb : Nat) (g : GEnd) (w : World) (R S : World → Prop) (code : Int)
set_option maxRecDepth 100000 in
set_option maxHeartbeats 800000 in
theorem come2_settings (f n : Int) (sv : Option Addr) (len cb : Nat) (nv : Int) (h : Inv w eb mb g) (hb : g.m.bstream = 0) (hbg : g.m.begun = true) (hc : ∀ w1 g1, Ahead w w1 eb mb g g1 → Calls Tryz.prog 100 #[.pointer (some ⟨eb, 0, none⟩), .agg #[.int .i64 3, .int .i64 f, .int .i64 n, .slice sv len cb, .int .i64 nv]] w1 fun e w' => (e = .returned (.tuple #[]) ∧ R w') ∨ (e = .panicked [{ v := .iface 41 (.int .i64 code), recovered := false }] ∧ S w')) :
    Calls Tryz.prog 69 #[.pointer (some ⟨eb, 0, none⟩), .iface 173 (.agg #[.int .i64 3, .int .i64 f, .int .i64 n, .slice sv len cb, .int .i64 nv])] w fun e w' => (e = .returned (.tuple #[]) ∧ R w') ∨ (e = .panicked [{ v := .iface 41 (.int .i64 code), recovered := false }] ∧ S w') := by
  have hta : ∀ (x : Value) (w : World), (Instr.typeAssert (.iface 173 x) 140 173 true).run Tryz.prog w = .ok (.tuple #[x, .bool true]) w := fun _ _ => by kernel_rfl
  have ht0 : ∀ (x : Value) (w : World), (Instr.typeAssert (.iface 173 x) 140 162 true).run Tryz.prog w = .ok (.tuple #[.agg #[.int .i64 0, .int .i64 0, .int .i64 0, .slice none 0 0, .slice none 0 0], .bool false]) w := fun _ _ => by kernel_rfl
  have ht1 : ∀ (x : Value) (w : World), (Instr.typeAssert (.iface 173 x) 140 165 true).run Tryz.prog w = .ok (.tuple #[.agg #[.int .i64 0, .int .i64 0, .int .i64 0, .slice none 0 0, .slice none 0 0], .bool false]) w := fun _ _ => by kernel_rfl
  have ht2 : ∀ (x : Value) (w : World), (Instr.typeAssert (.iface 173 x) 140 167 true).run Tryz.prog w = .ok (.tuple #[.agg #[.int .i64 0, .int .i64 0, .int .i64 0, .slice none 0 0, .slice none 0 0], .bool false]) w := fun _ _ => by kernel_rfl
  have ht3 : ∀ (x : Value) (w : World), (Instr.typeAssert (.iface 173 x) 140 170 true).run Tryz.prog w = .ok (.tuple #[.agg #[.int .i64 0, .int .i64 0, .int .i64 0, .slice none 0 0], .bool false]) w := fun _ _ => by kernel_rfl
  have HT := hide (checkTurn_ok eb g.m 173 (.agg #[.int .i64 3, .int .i64 f, .int .i64 n, .slice sv len cb, .int .i64 nv]) w h.en (by simp) hb (Or.inl hbg))
  have HC : Hid (∀ w0 o, Below w.heap.size w w0 → Calls Tryz.prog 100 #[.pointer (some ⟨eb, 0, none⟩), .agg #[.int .i64 3, .int .i64 f, .int .i64 n, .slice sv len cb, .int .i64 nv]] ((w0.setCell ⟨eb, 30, none⟩ (.bool true)).alloc o) fun e w' => (e = .returned (.tuple #[]) ∧ R w') ∨ (e = .panicked [{ v := .iface 41 (.int .i64 code), recovered := false }] ∧ S w')) := fun w0 o hb0 => by
    obtain ⟨g1, h1, h2⟩ := (h.below hb0).begins
    exact hc _ g1 (ahead_of hb0 h1 h2 ((Below.refl _ _).alloc (Nat.le_refl _) _))
  have HE : Hid (∀ w0, Below w.heap.size w w0 → w0.cell? ⟨eb, 30, none⟩ = some (.bool g.m.begun) ∧ w0.frozen? ⟨eb, 30, none⟩ = false ∧ eb < w0.heap.size) := fun w0 hb0 => ⟨(h.below hb0).en.c30, (h.below hb0).en.fr 30, (h.below hb0).en.lt⟩
  clear h hb hbg hc
  go_enter Tryz.func69, Tryz.ntmps69
  go_wp2_with fail
  refine HT.out.mono ?_
  rintro e w0 ⟨rfl, hb0⟩
  obtain ⟨k30, f30, hlt⟩ := HE.out w0 hb0
  have HB0 := hide hb0
  clear hb0
  go_wp2_with fail
  refine (HC.out w0 _ HB0.out).mono ?_
  rintro e w' (⟨rfl, hx⟩ | ⟨rfl, hx⟩)
  · have HX := hide hx
    clear hx
    go_wp2
    exact bodyPost_end (results_none rfl _ _ _) rfl (Or.inl ⟨rfl, HX.out⟩)
  · have HX := hide hx
    clear hx
    go_wp2
    exact ⟨rfl, Or.inr ⟨rfl, HX.out⟩⟩
set_option maxRecDepth 100000 in
set_option maxHeartbeats 800000 in
theorem come2_ping (f n : Int) (sv : Option Addr) (len cb : Nat) (nv : Int) (h : Inv w eb mb g) (hb : g.m.bstream = 0) (hbg : g.m.begun = true) (hc : ∀ w1 g1, Ahead w w1 eb mb g g1 → Calls Tryz.prog 101 #[.pointer (some ⟨eb, 0, none⟩), .agg #[.int .i64 4, .int .i64 f, .int .i64 n, .slice sv len cb, .int .u32 nv]] w1 fun e w' => (e = .returned (.tuple #[]) ∧ R w') ∨ (e = .panicked [{ v := .iface 41 (.int .i64 code), recovered := false }] ∧ S w')) :
    Calls Tryz.prog 69 #[.pointer (some ⟨eb, 0, none⟩), .iface 176 (.agg #[.int .i64 4, .int .i64 f, .int .i64 n, .slice sv len cb, .int .u32 nv])] w fun e w' => (e = .returned (.tuple #[]) ∧ R w') ∨ (e = .panicked [{ v := .iface 41 (.int .i64 code), recovered := false }] ∧ S w') := by
  have hta : ∀ (x : Value) (w : World), (Instr.typeAssert (.iface 176 x) 140 176 true).run Tryz.prog w = .ok (.tuple #[x, .bool true]) w := fun _ _ => by kernel_rfl
  have ht0 : ∀ (x : Value) (w : World), (Instr.typeAssert (.iface 176 x) 140 162 true).run Tryz.prog w = .ok (.tuple #[.agg #[.int .i64 0, .int .i64 0, .int .i64 0, .slice none 0 0, .slice none 0 0], .bool false]) w := fun _ _ => by kernel_rfl
  have ht1 : ∀ (x : Value) (w : World), (Instr.typeAssert (.iface 176 x) 140 165 true).run Tryz.prog w = .ok (.tuple #[.agg #[.int .i64 0, .int .i64 0, .int .i64 0, .slice none 0 0, .slice none 0 0], .bool false]) w := fun _ _ => by kernel_rfl
  have ht2 : ∀ (x : Value) (w : World), (Instr.typeAssert (.iface 176 x) 140 167 true).run Tryz.prog w = .ok (.tuple #[.agg #[.int .i64 0, .int .i64 0, .int .i64 0, .slice none 0 0, .slice none 0 0], .bool false]) w := fun _ _ => by kernel_rfl
  have ht3 : ∀ (x : Value) (w : World), (Instr.typeAssert (.iface 176 x) 140 170 true).run Tryz.prog w = .ok (.tuple #[.agg #[.int .i64 0, .int .i64 0, .int .i64 0, .slice none 0 0], .bool false]) w := fun _ _ => by kernel_rfl
  have ht4 : ∀ (x : Value) (w : World), (Instr.typeAssert (.iface 176 x) 140 173 true).run Tryz.prog w = .ok (.tuple #[.agg #[.int .i64 0, .int .i64 0, .int .i64 0, .slice none 0 0, .int .i64 0], .bool false]) w := fun _ _ => by kernel_rfl
  have HT := hide (checkTurn_ok eb g.m 176 (.agg #[.int .i64 4, .int .i64 f, .int .i64 n, .slice sv len cb, .int .u32 nv]) w h.en (by simp) hb (Or.inl hbg))
  have HC : Hid (∀ w0 o, Below w.heap.size w w0 → Calls Tryz.prog 101 #[.pointer (some ⟨eb, 0, none⟩), .agg #[.int .i64 4, .int .i64 f, .int .i64 n, .slice sv len cb, .int .u32 nv]] ((w0.setCell ⟨eb, 30, none⟩ (.bool true)).alloc o) fun e w' => (e = .returned (.tuple #[]) ∧ R w') ∨ (e = .panicked [{ v := .iface 41 (.int .i64 code), recovered := false }] ∧ S w')) := fun w0 o hb0 => by
    obtain ⟨g1, h1, h2⟩ := (h.below hb0).begins
    exact hc _ g1 (ahead_of hb0 h1 h2 ((Below.refl _ _).alloc (Nat.le_refl _) _))
  have HE : Hid (∀ w0, Below w.heap.size w w0 → w0.cell? ⟨eb, 30, none⟩ = some (.bool g.m.begun) ∧ w0.frozen? ⟨eb, 30, none⟩ = false ∧ eb < w0.heap.size) := fun w0 hb0 => ⟨(h.below hb0).en.c30, (h.below hb0).en.fr 30, (h.below hb0).en.lt⟩
  clear h hb hbg hc
  go_enter Tryz.func69, Tryz.ntmps69
  go_wp2_with fail
  refine HT.out.mono ?_
  rintro e w0 ⟨rfl, hb0⟩
  obtain ⟨k30, f30, hlt⟩ := HE.out w0 hb0
  have HB0 := hide hb0
  clear hb0
  go_wp2_with fail
  refine (HC.out w0 _ HB0.out).mono ?_
  rintro e w' (⟨rfl, hx⟩ | ⟨rfl, hx⟩)
  · have HX := hide hx
    clear hx
    go_wp2
    exact bodyPost_end (results_none rfl _ _ _) rfl (Or.inl ⟨rfl, HX.out⟩)
  · have HX := hide hx
    clear hx
    go_wp2
    exact ⟨rfl, Or.inr ⟨rfl, HX.out⟩⟩
set_option maxRecDepth 100000 in
set_option maxHeartbeats 800000 in
theorem come2_credit (f n : Int) (sv : Option Addr) (len cb : Nat) (nv : Int) (h : Inv w eb mb g) (hb : g.m.bstream = 0) (hbg : g.m.begun = true) (hc : ∀ w1 g1, Ahead w w1 eb mb g g1 → Calls Tryz.prog 102 #[.pointer (some ⟨eb, 0, none⟩), .agg #[.int .i64 6, .int .i64 f, .int .i64 n, .slice sv len cb, .int .i64 nv]] w1 fun e w' => (e = .returned (.tuple #[]) ∧ R w') ∨ (e = .panicked [{ v := .iface 41 (.int .i64 code), recovered := false }] ∧ S w')) :
    Calls Tryz.prog 69 #[.pointer (some ⟨eb, 0, none⟩), .iface 179 (.agg #[.int .i64 6, .int .i64 f, .int .i64 n, .slice sv len cb, .int .i64 nv])] w fun e w' => (e = .returned (.tuple #[]) ∧ R w') ∨ (e = .panicked [{ v := .iface 41 (.int .i64 code), recovered := false }] ∧ S w') := by
  have hta : ∀ (x : Value) (w : World), (Instr.typeAssert (.iface 179 x) 140 179 true).run Tryz.prog w = .ok (.tuple #[x, .bool true]) w := fun _ _ => by kernel_rfl
  have ht0 : ∀ (x : Value) (w : World), (Instr.typeAssert (.iface 179 x) 140 162 true).run Tryz.prog w = .ok (.tuple #[.agg #[.int .i64 0, .int .i64 0, .int .i64 0, .slice none 0 0, .slice none 0 0], .bool false]) w := fun _ _ => by kernel_rfl
  have ht1 : ∀ (x : Value) (w : World), (Instr.typeAssert (.iface 179 x) 140 165 true).run Tryz.prog w = .ok (.tuple #[.agg #[.int .i64 0, .int .i64 0, .int .i64 0, .slice none 0 0, .slice none 0 0], .bool false]) w := fun _ _ => by kernel_rfl
  have ht2 : ∀ (x : Value) (w : World), (Instr.typeAssert (.iface 179 x) 140 167 true).run Tryz.prog w = .ok (.tuple #[.agg #[.int .i64 0, .int .i64 0, .int .i64 0, .slice none 0 0, .slice none 0 0], .bool false]) w := fun _ _ => by kernel_rfl
  have ht3 : ∀ (x : Value) (w : World), (Instr.typeAssert (.iface 179 x) 140 170 true).run Tryz.prog w = .ok (.tuple #[.agg #[.int .i64 0, .int .i64 0, .int .i64 0, .slice none 0 0], .bool false]) w := fun _ _ => by kernel_rfl
  have ht4 : ∀ (x : Value) (w : World), (Instr.typeAssert (.iface 179 x) 140 173 true).run Tryz.prog w = .ok (.tuple #[.agg #[.int .i64 0, .int .i64 0, .int .i64 0, .slice none 0 0, .int .i64 0], .bool false]) w := fun _ _ => by kernel_rfl
  have ht5 : ∀ (x : Value) (w : World), (Instr.typeAssert (.iface 179 x) 140 176 true).run Tryz.prog w = .ok (.tuple #[.agg #[.int .i64 0, .int .i64 0, .int .i64 0, .slice none 0 0, .int .u32 0], .bool false]) w := fun _ _ => by kernel_rfl
  have ht6 : ∀ (x : Value) (w : World), (Instr.typeAssert (.iface 179 x) 140 178 true).run Tryz.prog w = .ok (.tuple #[.agg #[.int .i64 0, .int .i64 0, .int .i64 0, .slice none 0 0], .bool false]) w := fun _ _ => by kernel_rfl
  have HT := hide (checkTurn_ok eb g.m 179 (.agg #[.int .i64 6, .int .i64 f, .int .i64 n, .slice sv len cb, .int .i64 nv]) w h.en (by simp) hb (Or.inl hbg))
  have HC : Hid (∀ w0 o, Below w.heap.size w w0 → Calls Tryz.prog 102 #[.pointer (some ⟨eb, 0, none⟩), .agg #[.int .i64 6, .int .i64 f, .int .i64 n, .slice sv len cb, .int .i64 nv]] ((w0.setCell ⟨eb, 30, none⟩ (.bool true)).alloc o) fun e w' => (e = .returned (.tuple #[]) ∧ R w') ∨ (e = .panicked [{ v := .iface 41 (.int .i64 code), recovered := false }] ∧ S w')) := fun w0 o hb0 => by
    obtain ⟨g1, h1, h2⟩ := (h.below hb0).begins
    exact hc _ g1 (ahead_of hb0 h1 h2 ((Below.refl _ _).alloc (Nat.le_refl _) _))
  have HE : Hid (∀ w0, Below w.heap.size w w0 → w0.cell? ⟨eb, 30, none⟩ = some (.bool g.m.begun) ∧ w0.frozen? ⟨eb, 30, none⟩ = false ∧ eb < w0.heap.size) := fun w0 hb0 => ⟨(h.below hb0).en.c30, (h.below hb0).en.fr 30, (h.below hb0).en.lt⟩
  clear h hb hbg hc
  go_enter Tryz.func69, Tryz.ntmps69
  go_wp2_with fail
  refine HT.out.mono ?_
  rintro e w0 ⟨rfl, hb0⟩
  obtain ⟨k30, f30, hlt⟩ := HE.out w0 hb0
  have HB0 := hide hb0
  clear hb0
  go_wp2_with fail
  refine (HC.out w0 _ HB0.out).mono ?_
  rintro e w' (⟨rfl, hx⟩ | ⟨rfl, hx⟩)
  · have HX := hide hx
    clear hx
    go_wp2
    exact bodyPost_end (results_none rfl _ _ _) rfl (Or.inl ⟨rfl, HX.out⟩)
  · have HX := hide hx
    clear hx
    go_wp2
    exact ⟨rfl, Or.inr ⟨rfl, HX.out⟩⟩
end
end Go.Proofs.YtdccldbefdfppaaGreatDoor
/-
  Package ends: frames that are a fault, kind by kind.
-/
namespace Go.Proofs.YtdccldbefdfppaaGreatDoor
set_option linter.unusedVariables false
set_option linter.unusedSimpArgs false
open Go.RowKit

end Go.Proofs.YtdccldbefdfppaaGreatDoor
/-
  Package ends: the Ack of Settings comes; a sample; the tuner's answer.
-/
namespace Go.Proofs.YtdccldbefdfppaaGreatDoor
set_option linter.unusedVariables false
set_option linter.unusedSimpArgs false
open Go.RowKit

/-- Cells of the end alone change. -/
theorem Inv.onM {w w' : World} {eb mb : Nat} {g : GEnd} {m' : EndM} (h : Inv w eb mb g) (hc : Chg (fun j => j = eb) w w') (hen : EnB w' eb m') (h1 : m'.known = g.m.known) (h2 : m'.opn = g.m.opn) (h3 : m'.got = g.m.got) (h4 : m'.out = g.m.out) (h5 : m'.answers = g.m.answers) (h6 : m'.resets = g.m.resets) : Next w w' eb mb g { g with m := m' } :=
  h.onEnd (S := fun j => j = eb) (o' := g.out) (A' := g.ans) (R' := g.res) hc (fun j e => Or.inl e) hen h1 h2 h3 (by rw [h4]; exact owns_chg h.out hc (fun j hj e => by rw [e] at hj; exact owns_ne h.out h.en.blk (by decide) hj)) (fun j hj => Or.inl (by rw [← h4]; exact hj)) (by rw [h5]; exact h.ans) (fun a ha => ha) (fun j hj => by rw [← h5]; exact hj) (by rw [h6]; exact h.res) (fun j hj => by rw [← h6]; exact hj)
def EndM.acked (m : EndM) : EndM := { m with waits := false, own := m.made }
set_option maxRecDepth 100000 in
set_option maxHeartbeats 800000 in
theorem comeAck_ok (eb : Nat) (m : EndM) (w : World) (h : EnB w eb m) (hw : m.waits = true) :
    Calls Tryz.prog 135 #[.pointer (some ⟨eb, 0, none⟩)] w fun e w' => e = .returned (.tuple #[]) ∧ EnB w' eb m.acked ∧ Chg (fun j => j = eb) w w' := by
  have c10 := h.c10
  rw [hw] at c10
  have c9 := h.c9
  have c11 := h.c11
  have f10 := h.fr 10
  have f11 := h.fr 11
  have hlt := h.lt
  have H := hide h
  clear h
  go_enter Tryz.func135, Tryz.ntmps135
  go_wp2
  have h1 : EnB ((w.setCell ⟨eb, 10, none⟩ (.bool false)).setCell ⟨eb, 11, none⟩ (.int .i64 m.made)) eb m.acked := EnB.of (blk_set (blk_set H.out.blk)) rfl
  have h2 : Chg (fun j => j = eb) w ((w.setCell ⟨eb, 10, none⟩ (.bool false)).setCell ⟨eb, 11, none⟩ (.int .i64 m.made)) := chg_set (chg_set (Chg.refl _ _) rfl) rfl
  exact bodyPost_end (results_none rfl _ _ _) rfl ⟨rfl, h1, h2⟩
set_option maxRecDepth 100000 in
set_option maxHeartbeats 800000 in
theorem comeSettings_ack (eb mb : Nat) (g : GEnd) (f n nv : Int) (sv : Option Addr) (len cb : Nat) (w : World) (h : Inv w eb mb g) (hw : g.m.waits = true) (hf : 0 ≤ f ∧ f ≤ 255) (hak : hasB f 1 = true) :
    Calls Tryz.prog 100 #[.pointer (some ⟨eb, 0, none⟩), .agg #[.int .i64 3, .int .i64 f, .int .i64 n, .slice sv len cb, .int .i64 nv]] w fun e w' => e = .returned (.tuple #[]) ∧ Next w w' eb mb g { g with m := g.m.acked } := by
  have hbA : Below w.heap.size w (w.alloc (.cells #[.int .i64 3, .int .i64 f, .int .i64 n, .slice sv len cb, .int .i64 nv] 173)) := (Below.refl _ _).alloc (Nat.le_refl _) _
  have HH : Hid (∀ w, Calls Tryz.prog 98 #[.agg #[.int .i64 3, .int .i64 f, .int .i64 n, .slice sv len cb], .int .i64 1] w fun e w' => e = .returned (.bool true) ∧ Below w.heap.size w w') := fun w => by
    have := has_any 3 f n 1 (.slice sv len cb) w hf.1 (by omega) (Or.inl rfl)
    rw [hak] at this
    exact this
  have HA : Hid (∀ w1, Below w.heap.size w w1 → Calls Tryz.prog 135 #[.pointer (some ⟨eb, 0, none⟩)] w1 fun e w' => e = .returned (.tuple #[]) ∧ Next w w' eb mb g { g with m := g.m.acked }) := fun w1 hb => by
    refine (comeAck_ok eb g.m w1 (h.en.below hb) hw).mono ?_
    rintro e w' ⟨rfl, h1, h2⟩
    exact ⟨rfl, ((h.below hb).onM h2 h1 rfl rfl rfl rfl rfl rfl).pre hb⟩
  have HB := hide hbA
  clear h hw hf hak hbA
  go_enter Tryz.func100, Tryz.ntmps100
  go_wp2_with fail
  refine (HH.out _).mono ?_
  rintro e w1 ⟨rfl, hb1⟩
  have hb : Below w.heap.size w w1 := HB.out.trans (hb1.mono HB.out.size)
  have HB1 := hide hb
  clear hb1 hb
  go_wp2_with fail
  refine (HA.out w1 HB1.out).mono ?_
  rintro e w2 ⟨rfl, hn⟩
  have HN := hide hn
  clear hn
  go_wp2
  refine bodyPost_ret (v := .tuple #[]) ?_ rfl ⟨rfl, HN.out⟩
  simp [results, Tryz.results100, go_sem]
set_option maxRecDepth 100000 in
set_option maxHeartbeats 800000 in
theorem isMore_any (a0 a1 b0 b1 : Int) (w : World) (h1 : 0 ≤ a0 ∧ a0 ≤ 2147483647) (h2 : 0 ≤ a1 ∧ a1 ≤ 2147483647) (h3 : 0 ≤ b0 ∧ b0 ≤ 2147483647) (h4 : 0 ≤ b1 ∧ b1 ≤ 2147483647) :
    Calls Tryz.prog 161 #[.agg #[.int .i64 a0, .int .i64 a1], .agg #[.int .i64 b0, .int .i64 b1]] w fun e w' => e = .returned (.bool (decide (b0 * a1 < a0 * b1))) ∧ Below w.heap.size w w' := by
  have mul_le : ∀ x y : Int, 0 ≤ x ∧ x ≤ 2147483647 → 0 ≤ y ∧ y ≤ 2147483647 → 0 ≤ x * y ∧ x * y ≤ 4611686014132420609 := fun x y hx hy => by
    refine ⟨Int.mul_nonneg hx.1 hy.1, ?_⟩
    have : x * y ≤ 2147483647 * 2147483647 := Int.mul_le_mul hx.2 hy.2 hy.1 (by omega)
    omega
  have k1 := mul_le a0 b1 h1 h4
  have k2 := mul_le b0 a1 h3 h2
  have hw1 : IntKind.i64.wrap (a0 * b1) = a0 * b1 := by rw [IntKind.wrap_i64]; omega
  have hw2 : IntKind.i64.wrap (b0 * a1) = b0 * a1 := by rw [IntKind.wrap_i64]; omega
  have HB : Hid (Below w.heap.size w ((w.alloc (.cells #[.int .i64 a0, .int .i64 a1] 72)).alloc (.cells #[.int .i64 b0, .int .i64 b1] 72))) := ((Below.refl _ _).alloc (Nat.le_refl _) _).alloc (by simp) _
  clear mul_le k1 k2
  go_enter Tryz.func161, Tryz.ntmps161
  go_wp2
  go_ret
  exact ⟨rfl, HB.out⟩
end Go.Proofs.YtdccldbefdfppaaGreatDoor
