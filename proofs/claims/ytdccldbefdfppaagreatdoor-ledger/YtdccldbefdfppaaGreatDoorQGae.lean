import Derived.Test.YtdccldbefdfppaaGreatDoorQGad
import Derived.Test.YtdccldbefdfppaaGreatDoorQGaa
import Derived.Lib.BufferWrite
import Derived.Lib.UnsafeStr
import Derived.Lib.Hide
import Derived.Laws.MakeOwn
set_option linter.unusedVariables false
set_option linter.unusedSimpArgs false
/-
  Package blocks: resize, add.
-/
namespace Go.Proofs.YtdccldbefdfppaaGreatDoor
set_option linter.unusedVariables false
set_option linter.unusedSimpArgs false
open Go.RowKit

/-- A table behind a call on it. -/
structure TbTo (w w' : World) (b : Nat) (cs cs' : Array Value) (tP : TypeId) (lim : Nat) (tv tv' : Value) (tab' : List HP) : Prop where
  st : TbS w' b cs' tP lim tv' tab'
  cs3 : ∀ i, 3 ≤ i → cs'[i]? = cs[i]?
  chg : Chg (TouchT b tv) w w'
  own : ∀ j, tv'.ownBlock = some j → tv.ownBlock = some j ∨ w.heap.size ≤ j

end Go.Proofs.YtdccldbefdfppaaGreatDoor
/-
  Package blocks: Unpacker's takeTexts.
-/
namespace Go.Proofs.YtdccldbefdfppaaGreatDoor
set_option linter.unusedVariables false
set_option linter.unusedSimpArgs false
open Go.RowKit

theorem SrS.alloc {w : World} {sb : Nat} {rv : Value} {l : List UInt8} (h : SrS w sb rv l) (o : Obj) : SrS (w.alloc o) sb rv l := h.below ((Below.refl _ _).alloc (Nat.le_refl _) _)
theorem SrTo.set {w w1 : World} {sb : Nat} {rv r1 : Value} {l1 : List UInt8} (h : SrTo w w1 sb rv r1 l1) {b o : Nat} (hb : w.heap.size ≤ b) (hsb : sb < w.heap.size) (hr : ∀ j, rv.ownBlock = some j → j < w.heap.size) (u : Value) : SrTo w (w1.setCell ⟨b, o, none⟩ u) sb rv r1 l1 := by
  have hc : Chg (fun j => j = b) w1 (w1.setCell ⟨b, o, none⟩ u) := (Chg.refl (fun j => j = b) w1).setCell (p := ⟨b, o, none⟩) (Or.inr rfl) _
  exact ⟨h.st.chg hc (by omega) (fun j hj e => by have := hr j (h.own j hj); omega), h.chg.trans (hc.mono fun j _ e => Or.inl (by omega)), h.own⟩
end Go.Proofs.YtdccldbefdfppaaGreatDoor
/-
  Package blocks: Unpacker's takePair, where there is a pair.
-/
namespace Go.Proofs.YtdccldbefdfppaaGreatDoor
set_option linter.unusedVariables false
set_option linter.unusedSimpArgs false
open Go.RowKit

/-- An unpacker and its source behind a call. -/
structure UnTo (w w' : World) (ub : Nat) (cs cs' : Array Value) (tP : TypeId) (lim : Nat) (tv tv' : Value) (tab' : List HP) (sb : Nat) (rv rv' : Value) (l' : List UInt8) : Prop where
  st : TbS w' ub cs' tP lim tv' tab'
  cs3 : ∀ i, 3 ≤ i → cs'[i]? = cs[i]?
  sr : SrS w' sb rv' l'
  chg : Chg (fun j => j = sb ∨ TouchT ub tv j) w w'
  tfresh : ∀ j, tv'.ownBlock = some j → tv.ownBlock = some j ∨ w.heap.size ≤ j
  own : ∀ j, rv'.ownBlock = some j → rv.ownBlock = some j
/-- They lie apart. -/
structure Apart (ub sb : Nat) (tv rv : Value) : Prop where
  us : ub ≠ sb
  ts : tv.ownBlock ≠ some sb
  ru : rv.ownBlock ≠ some ub
  rt : ∀ j, rv.ownBlock = some j → tv.ownBlock ≠ some j
theorem SrTo.un {w w' : World} {ub : Nat} {cs : Array Value} {tP : TypeId} {lim : Nat} {tv : Value} {tab : List HP} {sb : Nat} {rv rv' : Value} {l' : List UInt8} (h : SrTo w w' sb rv rv' l') (ht : TbS w ub cs tP lim tv tab) (ha : Apart ub sb tv rv) : UnTo w w' ub cs cs tP lim tv tv tab sb rv rv' l' :=
  ⟨ht.chg h.chg ha.us (fun j hj e => ha.ts (e ▸ hj)), fun _ _ => rfl, h.st, h.chg.mono fun _ _ e => Or.inl e, fun _ e => Or.inl e, h.own⟩
theorem UnTo.below {w w1 w2 : World} {ub : Nat} {cs cs' : Array Value} {tP : TypeId} {lim : Nat} {tv tv' : Value} {tab' : List HP} {sb : Nat} {rv rv' : Value} {l' : List UInt8} (h : UnTo w w1 ub cs cs' tP lim tv tv' tab' sb rv rv' l') (hb : Below w1.heap.size w1 w2) : UnTo w w2 ub cs cs' tP lim tv tv' tab' sb rv rv' l' :=
  ⟨h.st.below hb, h.cs3, h.sr.below hb, h.chg.then_below hb, h.tfresh, h.own⟩
theorem UnTo.before {w w1 w2 : World} {ub : Nat} {cs cs' : Array Value} {tP : TypeId} {lim : Nat} {tv tv' : Value} {tab' : List HP} {sb : Nat} {rv rv' : Value} {l' : List UInt8} (hb : Below w.heap.size w w1) (h : UnTo w1 w2 ub cs cs' tP lim tv tv' tab' sb rv rv' l') : UnTo w w2 ub cs cs' tP lim tv tv' tab' sb rv rv' l' :=
  ⟨h.st, h.cs3, h.sr, (Chg.of_below hb).trans (h.chg.mono fun _ _ e => Or.inr e), fun j hj => (h.tfresh j hj).imp_right fun e => Nat.le_trans hb.size e, h.own⟩
theorem UnTo.turn {w w1 w2 : World} {ub : Nat} {cs cs1 cs' : Array Value} {tP : TypeId} {lim lim' : Nat} {tv tv1 tv' : Value} {tab tab' : List HP} {sb : Nat} {rv rv' : Value} {l' : List UInt8} (h : UnTo w w1 ub cs cs1 tP lim tv tv1 tab sb rv rv' l') (k : TbTo w1 w2 ub cs1 cs' tP lim' tv1 tv' tab') (ha : Apart ub sb tv1 rv') : UnTo w w2 ub cs cs' tP lim' tv tv' tab' sb rv rv' l' := by
  have hsz := h.chg.size
  refine ⟨k.st, fun i hi => (k.cs3 i hi).trans (h.cs3 i hi), h.sr.chg k.chg ?_ ?_, h.chg.trans (k.chg.mono ?_), fun j hj => ?_, h.own⟩
  · rintro (e | e)
    · exact ha.us e.symm
    · exact ha.ts e
  · rintro j hj (e | e)
    · exact ha.ru (e ▸ hj)
    · exact ha.rt j hj e
  · rintro j _ (e | e)
    · exact Or.inr (Or.inr (Or.inl e))
    · rcases h.tfresh j e with a | a
      · exact Or.inr (Or.inr (Or.inr a))
      · exact Or.inl a
  · rcases k.own j hj with e | e
    · exact h.tfresh j e
    · exact Or.inr (Nat.le_trans hsz e)
/-- They stay apart. -/
theorem UnTo.apart {w w' : World} {ub : Nat} {cs cs' : Array Value} {tP : TypeId} {lim : Nat} {tv tv' : Value} {tab' : List HP} {sb : Nat} {rv rv' : Value} {l l' : List UInt8} (h : UnTo w w' ub cs cs' tP lim tv tv' tab' sb rv rv' l') (ha : Apart ub sb tv rv) (hs : SrS w sb rv l) : Apart ub sb tv' rv' := by
  refine ⟨ha.us, ?_, fun e => ha.ru (h.own _ e), fun j hj e => ?_⟩
  · intro e
    rcases h.tfresh sb e with a | a
    · exact ha.ts a
    · have := lt_of_block hs.blk; omega
  · have hj' := h.own j hj
    rcases h.tfresh j e with a | a
    · exact ha.rt j hj' a
    · have := hs.bytes.lt hj'; omega
theorem UnTo.trans {w w1 w2 : World} {ub : Nat} {cs cs1 cs2 : Array Value} {tP : TypeId} {lim lim2 : Nat} {tv tv1 tv2 : Value} {tab tab2 : List HP} {sb : Nat} {rv r1 r2 : Value} {l1 l2 : List UInt8} (h : UnTo w w1 ub cs cs1 tP lim tv tv1 tab sb rv r1 l1) (k : UnTo w1 w2 ub cs1 cs2 tP lim2 tv1 tv2 tab2 sb r1 r2 l2) : UnTo w w2 ub cs cs2 tP lim2 tv tv2 tab2 sb rv r2 l2 := by
  have hsz := h.chg.size
  refine ⟨k.st, fun i hi => (k.cs3 i hi).trans (h.cs3 i hi), k.sr, h.chg.trans (k.chg.mono ?_), fun j hj => ?_, fun j hj => h.own j (k.own j hj)⟩
  · rintro j _ (e | e | e)
    · exact Or.inr (Or.inl e)
    · exact Or.inr (Or.inr (Or.inl e))
    · rcases h.tfresh j e with a | a
      · exact Or.inr (Or.inr (Or.inr a))
      · exact Or.inl a
  · rcases k.tfresh j hj with e | e
    · exact h.tfresh j e
    · exact Or.inr (Nat.le_trans hsz e)
theorem UnTo.gl {w w' : World} {ub : Nat} {cs cs' : Array Value} {tP : TypeId} {lim : Nat} {tv tv' : Value} {tab' : List HP} {sb : Nat} {rv rv' : Value} {l' : List UInt8} (h : UnTo w w' ub cs cs' tP lim tv tv' tab' sb rv rv' l') (hg : Gl w) (hub : 7 ≤ ub) (hsb : 7 ≤ sb) (htv : ∀ j, tv.ownBlock = some j → 7 ≤ j) : Gl w' := by
  refine hg.chg h.chg ?_
  rintro j hj (e | e | e)
  · omega
  · omega
  · have := htv j e; omega

end Go.Proofs.YtdccldbefdfppaaGreatDoor
/-
  Package blocks: Unpacker's takePair, where there is a pair: the walk.
-/
namespace Go.Proofs.YtdccldbefdfppaaGreatDoor
set_option linter.unusedVariables false
set_option linter.unusedSimpArgs false
open Go.RowKit

theorem UnTo.set {w w1 : World} {ub : Nat} {cs cs' : Array Value} {tP : TypeId} {lim : Nat} {tv tv' : Value} {tab' : List HP} {sb : Nat} {rv rv' : Value} {l' : List UInt8} (h : UnTo w w1 ub cs cs' tP lim tv tv' tab' sb rv rv' l') {b o : Nat} (hb : w.heap.size ≤ b) (hub : ub < w.heap.size) (hsb : sb < w.heap.size) (hr : ∀ j, rv.ownBlock = some j → j < w.heap.size) (hne : tv'.ownBlock ≠ some b) (u : Value) : UnTo w (w1.setCell ⟨b, o, none⟩ u) ub cs cs' tP lim tv tv' tab' sb rv rv' l' := by
  have hc : Chg (fun j => j = b) w1 (w1.setCell ⟨b, o, none⟩ u) := (Chg.refl (fun j => j = b) w1).setCell (p := ⟨b, o, none⟩) (Or.inr rfl) _
  exact ⟨h.st.chg hc (by omega) (fun j hj e => hne (e ▸ hj)), h.cs3, h.sr.chg hc (by omega) (fun j hj e => by have := hr j (h.own j hj); omega), h.chg.trans (hc.mono fun j _ e => Or.inl (by omega)), h.tfresh, h.own⟩

end Go.Proofs.YtdccldbefdfppaaGreatDoor
/-
  Package blocks: Unpacker's takeLimit, where there is a limit.
-/
namespace Go.Proofs.YtdccldbefdfppaaGreatDoor
set_option linter.unusedVariables false
set_option linter.unusedSimpArgs false
open Go.RowKit

theorem SrS.drew {w : World} {sb : Nat} {rv : Value} {l : List UInt8} (h : SrS w sb rv l) : SrS w.drew sb rv l := h.chg ((Chg.refl (fun _ => False) _).drew) id (fun _ _ => id)

end Go.Proofs.YtdccldbefdfppaaGreatDoor
/-
  strings.Clone.
-/
namespace Go.Proofs.YtdccldbefdfppaaGreatDoor
set_option linter.unusedVariables false
set_option linter.unusedSimpArgs false
open Go.RowKit

end Go.Proofs.YtdccldbefdfppaaGreatDoor
/-
  Package blocks: appendTexts.
-/
namespace Go.Proofs.YtdccldbefdfppaaGreatDoor
set_option linter.unusedVariables false
set_option linter.unusedSimpArgs false
open Go.RowKit

theorem Laid.gl {w w' : World} {gv v : Value} {l : List UInt8} (h : Laid w gv w' v l) (hg : Gl w) (hgg : ∀ j, gv.ownBlock = some j → 7 ≤ j) : Gl w' := hg.chg h.chg (fun j hj e => by have := hgg j e; omega)
theorem Laid.gg {w w' : World} {gv v : Value} {l : List UInt8} (h : Laid w gv w' v l) (hg : Gl w) (hgg : ∀ j, gv.ownBlock = some j → 7 ≤ j) : ∀ j, v.ownBlock = some j → 7 ≤ j := fun j hj => by
  rcases h.fresh j hj with e | e
  · exact hgg j e
  · exact Nat.le_trans hg.lt e
theorem Laid.keep {w w' : World} {gv v : Value} {l : List UInt8} (h : Laid w gv w' v l) {q : Nat} {o : Obj} (hq : w.heap[q]? = some o) (hne : gv.ownBlock ≠ some q) : w'.heap[q]? = some o := by
  rw [h.chg.block q (Array.getElem?_eq_some_iff.1 hq).1 hne]; exact hq
theorem Laid.ne {w w' : World} {gv v : Value} {l : List UInt8} (h : Laid w gv w' v l) {q : Nat} (hq : q < w.heap.size) (hne : gv.ownBlock ≠ some q) : v.ownBlock ≠ some q := fun e => by
  rcases h.fresh q e with a | a
  · exact hne a
  · omega
end Go.Proofs.YtdccldbefdfppaaGreatDoor
