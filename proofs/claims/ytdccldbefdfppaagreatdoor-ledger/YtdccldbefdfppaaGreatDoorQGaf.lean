import Derived.Test.YtdccldbefdfppaaGreatDoorQGae
import Derived.Test.YtdccldbefdfppaaGreatDoorQGac
import Derived.Defers
import Derived.Recover
set_option linter.unusedVariables false
set_option linter.unusedSimpArgs false
/-
  Package blocks: appendPair.
-/
namespace Go.Proofs.YtdccldbefdfppaaGreatDoor
set_option linter.unusedVariables false
set_option linter.unusedSimpArgs false
open Go.RowKit

/-- A packer behind a call that lays bytes down. -/
structure Pkd (w w' : World) (pb : Nat) (cs cs' : Array Value) (tP : TypeId) (lim : Nat) (tv tv' : Value) (tab' : List HP) (gv v : Value) (l' : List UInt8) : Prop where
  own : w'.ownsRow 0 5 1 v l'.length (l'.map B)
  st : TbS w' pb cs' tP lim tv' tab'
  cs3 : ∀ i, 3 ≤ i → cs'[i]? = cs[i]?
  chg : Chg (fun j => gv.ownBlock = some j ∨ TouchT pb tv j) w w'
  fresh : ∀ j, v.ownBlock = some j → gv.ownBlock = some j ∨ w.heap.size ≤ j
  tfresh : ∀ j, tv'.ownBlock = some j → tv.ownBlock = some j ∨ w.heap.size ≤ j

theorem Laid.tab {w w' : World} {gv v : Value} {l l0 : List UInt8} {pb : Nat} {cs : Array Value} {tP : TypeId} {lim : Nat} {tv : Value} {tab : List HP} (h : Laid w gv w' v l) (hown : w.ownsRow 0 5 1 gv l0.length (l0.map B)) (ht : TbS w pb cs tP lim tv tab) (htP : tP ≠ 5) : TbS w' pb cs tP lim tv tab :=
  ht.chg h.chg (fun e => owns_ne hown ht.tb.blk (fun e => htP e.symm) e) (fun j hj e => rows_ne hown ht.row (by decide) e hj)
theorem Pkd.add {w w3 w5 w6 : World} {gv v : Value} {l : List UInt8} {pb : Nat} {cs cs' : Array Value} {tP : TypeId} {lim : Nat} {tv tv' : Value} {tab tab' : List HP} (h : Pkd w w3 pb cs cs tP lim tv tv tab gv v l) (hb : Below w3.heap.size w3 w5) (h6 : TbTo w5 w6 pb cs cs' tP lim tv tv' tab') (htP : tP ≠ 5) : Pkd w w6 pb cs cs' tP lim tv tv' tab' gv v l := by
  have h35 := owns_chg h.own (Chg.of_below (S := fun _ => False) hb) (fun _ _ => id)
  have ht5 := h.st.below hb
  have hsz := h.chg.size
  refine ⟨owns_chg h35 h6.chg ?_, h6.st, h6.cs3, (h.chg.then_below hb).trans (h6.chg.mono fun j _ e => Or.inr (Or.inr e)), h.fresh, fun j hj => ?_⟩
  · rintro j hj (e | e)
    · subst e; exact owns_ne h35 ht5.tb.blk (fun e => htP e.symm) hj
    · exact rows_ne h35 ht5.row (by decide) hj e
  · rcases h6.own j hj with e | e
    · exact Or.inl e
    · exact Or.inr (Nat.le_trans hsz (Nat.le_trans hb.size e))
theorem Pkd.below {w wx w' : World} {gv v : Value} {l : List UInt8} {pb : Nat} {cs cs' : Array Value} {tP : TypeId} {lim : Nat} {tv tv' : Value} {tab' : List HP} (hb : Below w.heap.size w wx) (h : Pkd wx w' pb cs cs' tP lim tv tv' tab' gv v l) : Pkd w w' pb cs cs' tP lim tv tv' tab' gv v l :=
  ⟨h.own, h.st, h.cs3, (Chg.of_below hb).trans (h.chg.mono fun _ _ e => Or.inr e), fun j hj => (h.fresh j hj).imp_right fun e => Nat.le_trans hb.size e, fun j hj => (h.tfresh j hj).imp_right fun e => Nat.le_trans hb.size e⟩

end Go.Proofs.YtdccldbefdfppaaGreatDoor
/-
  Package blocks: (*Packer).Pack.
-/
namespace Go.Proofs.YtdccldbefdfppaaGreatDoor
set_option linter.unusedVariables false
set_option linter.unusedSimpArgs false
open Go.RowKit

theorem Pkd.lay {w w1 w2 : World} {gv v v2 : Value} {l l2 : List UInt8} {pb : Nat} {cs cs1 : Array Value} {tP : TypeId} {lim : Nat} {tv tv1 : Value} {tab : List HP} (h : Pkd w w1 pb cs cs1 tP lim tv tv1 tab gv v l) (k : Laid w1 v w2 v2 l2) (htP : tP ≠ 5) : Pkd w w2 pb cs cs1 tP lim tv tv1 tab gv v2 l2 :=
  ⟨k.own, k.tab h.own h.st htP, h.cs3, h.chg.trans (k.chg.mono fun j _ e => by
    rcases h.fresh j e with a | a
    · exact Or.inr (Or.inl a)
    · exact Or.inl a), fun j hj => by
    rcases k.fresh j hj with e | e
    · exact h.fresh j e
    · exact Or.inr (Nat.le_trans h.chg.size e), h.tfresh⟩
theorem Pkd.turn {w w3 w6 : World} {gv v : Value} {l : List UInt8} {pb : Nat} {cs cs1 cs' : Array Value} {tP : TypeId} {lim lim' : Nat} {tv tv1 tv' : Value} {tab tab' : List HP} (h : Pkd w w3 pb cs cs1 tP lim tv tv1 tab gv v l) (h6 : TbTo w3 w6 pb cs1 cs' tP lim' tv1 tv' tab') (htP : tP ≠ 5) : Pkd w w6 pb cs cs' tP lim' tv tv' tab' gv v l := by
  have hsz := h.chg.size
  refine ⟨owns_chg h.own h6.chg ?_, h6.st, fun i hi => (h6.cs3 i hi).trans (h.cs3 i hi), h.chg.trans (h6.chg.mono ?_), h.fresh, fun j hj => ?_⟩
  · rintro j hj (e | e)
    · subst e; exact owns_ne h.own h.st.tb.blk (fun e => htP e.symm) hj
    · exact rows_ne h.own h.st.row (by decide) hj e
  · rintro j _ (e | e)
    · exact Or.inr (Or.inr (Or.inl e))
    · rcases h.tfresh j e with a | a
      · exact Or.inr (Or.inr (Or.inr a))
      · exact Or.inl a
  · rcases h6.own j hj with e | e
    · exact h.tfresh j e
    · exact Or.inr (Nat.le_trans hsz e)
theorem Pkd.trans {w w1 w2 : World} {gv v v2 : Value} {l l2 : List UInt8} {pb : Nat} {cs cs1 cs2 : Array Value} {tP : TypeId} {lim lim2 : Nat} {tv tv1 tv2 : Value} {tab tab2 : List HP} (h : Pkd w w1 pb cs cs1 tP lim tv tv1 tab gv v l) (k : Pkd w1 w2 pb cs1 cs2 tP lim2 tv1 tv2 tab2 v v2 l2) : Pkd w w2 pb cs cs2 tP lim2 tv tv2 tab2 gv v2 l2 := by
  have hsz := h.chg.size
  refine ⟨k.own, k.st, fun i hi => (k.cs3 i hi).trans (h.cs3 i hi), h.chg.trans (k.chg.mono ?_), fun j hj => ?_, fun j hj => ?_⟩
  · rintro j _ (e | e | e)
    · rcases h.fresh j e with a | a
      · exact Or.inr (Or.inl a)
      · exact Or.inl a
    · exact Or.inr (Or.inr (Or.inl e))
    · rcases h.tfresh j e with a | a
      · exact Or.inr (Or.inr (Or.inr a))
      · exact Or.inl a
  · rcases k.fresh j hj with e | e
    · exact h.fresh j e
    · exact Or.inr (Nat.le_trans hsz e)
  · rcases k.tfresh j hj with e | e
    · exact h.tfresh j e
    · exact Or.inr (Nat.le_trans hsz e)

/-- A list of pairs, somewhere in memory. -/
def HsIn (w : World) (v : Value) (hs : List HP) : Prop :=
  (v = .slice none 0 0 ∧ hs = []) ∨ ∃ bb off cap, v = .slice (some ⟨bb, off, none⟩) hs.length cap ∧ bb < w.heap.size ∧ ∀ i (h : i < hs.length), w.cell? ⟨bb, off + i * 2, none⟩ = some (.string hs[i].n) ∧ w.cell? ⟨bb, off + i * 2 + 1, none⟩ = some (.string hs[i].v)
theorem HsIn.chg {S : Nat → Prop} {w w' : World} {v : Value} {hs : List HP} (h : HsIn w v hs) (hc : Chg S w w') (hsep : ∀ j, v.ownBlock = some j → ¬ S j) : HsIn w' v hs := by
  rcases h with h | ⟨bb, off, cap, rfl, h1, h2⟩
  · exact Or.inl h
  · refine Or.inr ⟨bb, off, cap, rfl, Nat.lt_of_lt_of_le h1 hc.size, fun i hi => ?_⟩
    rw [hc.cell (p := ⟨bb, off + i * 2, none⟩) h1 (hsep bb rfl), hc.cell (p := ⟨bb, off + i * 2 + 1, none⟩) h1 (hsep bb rfl)]
    exact h2 i hi
theorem HsIn.len {w : World} {v : Value} {hs : List HP} (h : HsIn w v hs) : ∃ sv cv, v = .slice sv hs.length cv := by
  rcases h with ⟨rfl, rfl⟩ | ⟨bb, off, cap, rfl, _⟩
  · exact ⟨_, _, rfl⟩
  · exact ⟨_, _, rfl⟩

end Go.Proofs.YtdccldbefdfppaaGreatDoor
/-
  Package blocks: (*Packer).Pack, walked.
-/
namespace Go.Proofs.YtdccldbefdfppaaGreatDoor
set_option linter.unusedVariables false
set_option linter.unusedSimpArgs false
open Go.RowKit

theorem Pkd.gl {w w' : World} {v : Value} {l : List UInt8} {pb : Nat} {cs cs' : Array Value} {tP : TypeId} {lim : Nat} {tv tv' : Value} {tab' : List HP} (h : Pkd w w' pb cs cs' tP lim tv tv' tab' (.slice none 0 0) v l) (hg : Gl w) (hpb : 7 ≤ pb) (htv : ∀ j, tv.ownBlock = some j → 7 ≤ j) : Gl w' := by
  refine hg.chg h.chg ?_
  rintro j hj (e | e | e)
  · simp [Value.ownBlock] at e
  · omega
  · have := htv j e; omega
theorem Pkd.gg {w w' : World} {v : Value} {l : List UInt8} {pb : Nat} {cs cs' : Array Value} {tP : TypeId} {lim : Nat} {tv tv' : Value} {tab' : List HP} (h : Pkd w w' pb cs cs' tP lim tv tv' tab' (.slice none 0 0) v l) (hg : Gl w) : ∀ j, v.ownBlock = some j → 7 ≤ j := fun j hj => by
  rcases h.fresh j hj with e | e
  · simp [Value.ownBlock] at e
  · exact Nat.le_trans hg.lt e
theorem Pkd.alloc {w w' : World} {gv v : Value} {l : List UInt8} {pb : Nat} {cs cs' : Array Value} {tP : TypeId} {lim : Nat} {tv tv' : Value} {tab' : List HP} (h : Pkd w w' pb cs cs' tP lim tv tv' tab' gv v l) (o : Obj) : Pkd w (w'.alloc o) pb cs cs' tP lim tv tv' tab' gv v l :=
  ⟨h.own.alloc _, h.st.below ((Below.refl _ _).alloc (Nat.le_refl _) _), h.cs3, h.chg.alloc o, h.fresh, h.tfresh⟩

end Go.Proofs.YtdccldbefdfppaaGreatDoor
/-
  Package blocks: IsList; package sluice: NewPacker, Pack, Size, Resize refused.
-/
namespace Go.Proofs.YtdccldbefdfppaaGreatDoor
set_option linter.unusedVariables false
set_option linter.unusedSimpArgs false
open Go.RowKit

end Go.Proofs.YtdccldbefdfppaaGreatDoor
/-
  Package blocks: Unpacker's Unpack, where there is a list.
-/
namespace Go.Proofs.YtdccldbefdfppaaGreatDoor
set_option linter.unusedVariables false
set_option linter.unusedSimpArgs false
open Go.RowKit

/-- The end of Unpack. -/
structure Unpd (w w' : World) (ub : Nat) (cs cs' : Array Value) (tP : TypeId) (lim : Nat) (tv tv' : Value) (tab : List HP) (lv : Value) (hs : List HP) : Prop where
  st : TbS w' ub cs' tP lim tv' tab
  cs3 : ∀ i, 3 ≤ i → cs'[i]? = cs[i]?
  chg : Chg (TouchT ub tv) w w'
  tfresh : ∀ j, tv'.ownBlock = some j → tv.ownBlock = some j ∨ w.heap.size ≤ j
  row : w'.ownsRow w.heap.size 130 2 lv hs.length (hpCells hs)
  ap : ∀ j, lv.ownBlock = some j → tv'.ownBlock ≠ some j

def lenV : Value → Nat
  | .slice _ n _ => n
  | _ => 0
end Go.Proofs.YtdccldbefdfppaaGreatDoor
/-
  Package sluice: Size and Resize of a packer; what is refused.
-/
namespace Go.Proofs.YtdccldbefdfppaaGreatDoor
set_option linter.unusedVariables false
set_option linter.unusedSimpArgs false
open Go.RowKit

end Go.Proofs.YtdccldbefdfppaaGreatDoor
/-
  Package sluice: NewUnpacker, Unpack (where there is a list), the sizes.
-/
namespace Go.Proofs.YtdccldbefdfppaaGreatDoor
set_option linter.unusedVariables false
set_option linter.unusedSimpArgs false
open Go.RowKit

theorem Unpd.out {w wA w1 : World} {ub : Nat} {cs cs' : Array Value} {tP : TypeId} {lim : Nat} {tv tv' : Value} {tab : List HP} {lv : Value} {hs : List HP} (h : Unpd wA w1 ub cs cs' tP lim tv tv' tab lv hs) (hb : Below w.heap.size w wA) {b : Nat} {bs : Array Value} {t : TypeId} {f : Nat × Nat} (hx : w1.heap[b]? = some (.cells bs t f)) (ht : t ≠ 130) (hbw : w.heap.size ≤ b) (hub : ub < w.heap.size) (u : Value) : Unpd w (w1.setCell ⟨b, 0, none⟩ u) ub cs cs' tP lim tv tv' tab lv hs := by
  have hc : Chg (fun j => j = b) w1 (w1.setCell ⟨b, 0, none⟩ u) := (Chg.refl (fun j => j = b) w1).setCell (p := ⟨b, 0, none⟩) (Or.inr rfl) _
  refine ⟨h.st.chg hc (by omega) (fun j hj e => owns_ne h.st.row hx (fun e => ht e.symm) (e ▸ hj)), h.cs3, ((Chg.of_below hb).trans (h.chg.mono fun j _ e => Or.inr e)).trans (hc.mono fun j _ e => Or.inl (by omega)), fun j hj => (h.tfresh j hj).imp_right fun e => Nat.le_trans hb.size e, owns_base (owns_chg h.row hc (fun j hj e => owns_ne h.row hx (fun e => ht e.symm) (e ▸ hj))) (fun j hj => Nat.le_trans hb.size (h.row.lt j hj).1), h.ap⟩

end Go.Proofs.YtdccldbefdfppaaGreatDoor
