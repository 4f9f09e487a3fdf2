import Derived.Test.YtdccldbefdfppaaGreatDoorQGac
import Derived.Laws.IdiomStrings
import Derived.Laws.BytesArg
import Derived.Lib.SliceRun
set_option linter.unusedVariables false
set_option linter.unusedSimpArgs false
/-
  Package blocks: bitReader's onlyFill and takeByte.
-/
namespace Go.Proofs.YtdccldbefdfppaaGreatDoor
set_option linter.unusedVariables false
set_option linter.unusedSimpArgs false
open Go.RowKit

end Go.Proofs.YtdccldbefdfppaaGreatDoor
/-
  Package blocks: unpackBits.
-/
namespace Go.Proofs.YtdccldbefdfppaaGreatDoor
set_option linter.unusedVariables false
set_option linter.unusedSimpArgs false
open Go.RowKit

end Go.Proofs.YtdccldbefdfppaaGreatDoor
/-
  Package blocks: source's takeText.
-/
namespace Go.Proofs.YtdccldbefdfppaaGreatDoor
set_option linter.unusedVariables false
set_option linter.unusedSimpArgs false
open Go.RowKit

theorem Gl.sr {w w' : World} {sb : Nat} (h : Gl w) (hc : Chg (fun j => j = sb) w w') (hsb : 7 ≤ sb) : Gl w' := h.chg hc (fun j hj e => by omega)

end Go.Proofs.YtdccldbefdfppaaGreatDoor
/-
  Package blocks: tables: highest, pair.
-/
namespace Go.Proofs.YtdccldbefdfppaaGreatDoor
set_option linter.unusedVariables false
set_option linter.unusedSimpArgs false
open Go.RowKit

def hpCells : List HP → List Value
  | [] => []
  | h :: r => .string h.n :: .string h.v :: hpCells r
/-- A table in the first cells of a block. -/
structure TbB (w : World) (b : Nat) (cs : Array Value) (tP : TypeId) (lim sz : Nat) (tv : Value) : Prop where
  blk : w.heap[b]? = some (.cells cs tP (0, 0))
  c0 : cs[0]? = some (.int .i64 (lim : Int))
  c1 : cs[1]? = some (.int .i64 (sz : Int))
  c2 : cs[2]? = some tv
  ne : tP ≠ 130
theorem TbB.cells {w : World} {b : Nat} {cs : Array Value} {tP : TypeId} {lim sz : Nat} {tv : Value} (h : TbB w b cs tP lim sz tv) :
    w.cell? ⟨b, 0, none⟩ = some (.int .i64 (lim : Int)) ∧ w.cell? ⟨b, 1, none⟩ = some (.int .i64 (sz : Int)) ∧ w.cell? ⟨b, 2, none⟩ = some tv := by
  refine ⟨?_, ?_, ?_⟩ <;> rw [cell_of_row w b _ _ _ _ h.blk]
  · exact h.c0
  · exact h.c1
  · exact h.c2
theorem TbB.free {w : World} {b : Nat} {cs : Array Value} {tP : TypeId} {lim sz : Nat} {tv : Value} (h : TbB w b cs tP lim sz tv) (o : Nat) : w.frozen? ⟨b, o, none⟩ = false := by
  have := h.blk
  simp [World.frozen?, this]
theorem TbB.lt {w : World} {b : Nat} {cs : Array Value} {tP : TypeId} {lim sz : Nat} {tv : Value} (h : TbB w b cs tP lim sz tv) : b < w.heap.size := lt_of_block h.blk
theorem TbB.chg {S : Nat → Prop} {w w' : World} {b : Nat} {cs : Array Value} {tP : TypeId} {lim sz : Nat} {tv : Value} (h : TbB w b cs tP lim sz tv) (hc : Chg S w w') (hs : ¬ S b) : TbB w' b cs tP lim sz tv :=
  ⟨by rw [hc.block b (lt_of_block h.blk) hs]; exact h.blk, h.c0, h.c1, h.c2, h.ne⟩

/-- A table: its pairs, the oldest first. -/
structure TbS (w : World) (b : Nat) (cs : Array Value) (tP : TypeId) (lim : Nat) (tv : Value) (tab : List HP) : Prop where
  tb : TbB w b cs tP lim (szT tab) tv
  row : w.ownsRow 0 130 2 tv tab.length (hpCells tab)
  fit : szT tab ≤ lim
  small : lim ≤ 256
theorem TbS.chg {S : Nat → Prop} {w w' : World} {b : Nat} {cs : Array Value} {tP : TypeId} {lim : Nat} {tv : Value} {tab : List HP} (h : TbS w b cs tP lim tv tab) (hc : Chg S w w') (h1 : ¬ S b) (h2 : ∀ j, tv.ownBlock = some j → ¬ S j) : TbS w' b cs tP lim tv tab :=
  ⟨h.tb.chg hc h1, owns_chg h.row hc h2, h.fit, h.small⟩
theorem TbS.below {w w' : World} {b : Nat} {cs : Array Value} {tP : TypeId} {lim : Nat} {tv : Value} {tab : List HP} (h : TbS w b cs tP lim tv tab) (hb : Below w.heap.size w w') : TbS w' b cs tP lim tv tab :=
  h.chg (Chg.of_below (S := fun _ => False) hb) id (fun _ _ => id)
theorem TbS.few {w : World} {b : Nat} {cs : Array Value} {tP : TypeId} {lim : Nat} {tv : Value} {tab : List HP} (h : TbS w b cs tP lim tv tab) : tab.length ≤ 32 := by
  have h1 := szT_len tab
  have h2 := h.fit
  have h3 := h.small
  omega
end Go.Proofs.YtdccldbefdfppaaGreatDoor
/-
  Package blocks: find, findPair, findName.
-/
namespace Go.Proofs.YtdccldbefdfppaaGreatDoor
set_option linter.unusedVariables false
set_option linter.unusedSimpArgs false
open Go.RowKit

end Go.Proofs.YtdccldbefdfppaaGreatDoor
/-
  slices.Delete of pairs, from the first on.
-/
namespace Go.Proofs.YtdccldbefdfppaaGreatDoor
set_option linter.unusedVariables false
set_option linter.unusedSimpArgs false
open Go.RowKit

theorem Tryz.info130 : (Tryz.prog.info? 130).map (fun i => (i.zero, i.size, i.bytes)) = some (some (.agg #[.string ⟨#[]⟩, .string ⟨#[]⟩]), 2, 32) := by kernel_rfl
/-- clear, of n pairs. -/
theorem run_clear_pairs {P : Program} (w : World) (t ty e : TypeId) (z : Value) (ht : P.underlying t = some (.slice e)) (hv : ∀ w, (zeroValue e).run P w = .ok z w) (zs : List Value) (b o n c : Nat) (hz : (Builtin.zeroCells z.cells n).toList = zs) (hn : 0 < n) (cur : Array Value) (hg : w.heap[b]? = some (.cells cur e (0, 0)))
    (hfit : o + zs.length ≤ cur.size) (h1 : ∀ u ∈ zs, u.oneCell' = true) :
    (Builtin.clear_ #[t] ty #[.slice (some ⟨b, o, none⟩) n c]).run P w = .ok (.tuple #[]) (w.setRow b (cur.toList.take o ++ zs ++ cur.toList.drop (o + zs.length)).toArray) := by
  have hst := run_storeCells_at P b o e zs 0 cur w hg (by simpa using hfit) h1
  simp only [Nat.add_zero] at hst
  obtain ⟨m, rfl⟩ : ∃ m, n = m + 1 := ⟨n - 1, by omega⟩
  simp [Builtin.clear_, run_underlying ht, hv, hz, hst]

theorem chg_setRow (w : World) (g : Nat) (row : Array Value) : Chg (fun j => j = g) w (w.setRow g row) := ⟨rfl, rfl, rfl, by simp, fun k _ hn => setRow_other w g k row (fun e => hn e)⟩

end Go.Proofs.YtdccldbefdfppaaGreatDoor
/-
  Package blocks: shrink, resize, add.
-/
namespace Go.Proofs.YtdccldbefdfppaaGreatDoor
set_option linter.unusedVariables false
set_option linter.unusedSimpArgs false
open Go.RowKit

theorem set_get {cs : Array Value} {i : Nat} {x y : Value} (h : cs[i]? = some x) : (cs.setIfInBounds i y)[i]? = some y := by
  have := (Array.getElem?_eq_some_iff.1 h).1
  simp [this]
theorem set_ne {cs : Array Value} {i j : Nat} {y : Value} (h : i ≠ j) : (cs.setIfInBounds i y)[j]? = cs[j]? := by simp [Array.getElem?_setIfInBounds, h]

theorem set_set {cs : Array Value} {i : Nat} {x y : Value} : (cs.setIfInBounds i x).setIfInBounds i y = cs.setIfInBounds i y := by
  apply Array.ext
  · simp
  · intro j h1 h2
    simp [Array.getElem_setIfInBounds]
theorem TbB.set0 {w : World} {b : Nat} {cs : Array Value} {tP : TypeId} {lim sz : Nat} {tv : Value} (h : TbB w b cs tP lim sz tv) (x : Nat) : TbB (w.setCell ⟨b, 0, none⟩ (.int .i64 (x : Int))) b (cs.setIfInBounds 0 (.int .i64 (x : Int))) tP x sz tv :=
  ⟨block_setCell h.blk, set_get h.c0, by rw [set_ne (by decide)]; exact h.c1, by rw [set_ne (by decide)]; exact h.c2, h.ne⟩
/-- What a call on a table may change. -/
def TouchT (b : Nat) (tv : Value) (j : Nat) : Prop := j = b ∨ tv.ownBlock = some j

end Go.Proofs.YtdccldbefdfppaaGreatDoor
