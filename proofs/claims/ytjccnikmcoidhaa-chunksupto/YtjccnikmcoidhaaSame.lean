import Derived.Test.YtjccnikmcoidhaaFeedAny
import Derived.Laws.IdiomStrings
import Derived.Laws.BytesArg
set_option linter.unusedVariables false
set_option linter.unusedSimpArgs false
/-
  sluicekeep.same, at two frames that are alike.
-/
namespace Go.Proofs.Ytjccnikmcoidhaa
open Go.RowKit

theorem conv_bytes {w : World} {bv : Value} {l : List UInt8} (h : BytesIn w bv l) : (convert 24 9 bv).run Try.prog w = .ok (.string ⟨l.toArray⟩) w := by
  rcases h with ⟨rfl, rfl⟩ | ⟨bb, off, cap, rfl, h1, h2, h3⟩
  · exact run_convert_bytes_nil w 24 5 Try.underlying24 Try.underlying5 0 0 9 Try.underlying9
  · refine run_convert_bytes_back w 24 9 5 ⟨bb, off, none⟩ cap l Try.underlying24 Try.underlying5 Try.underlying9 (fun j hj => ?_)
    have e : (⟨bb, off, none⟩ : Addr).add j = ⟨bb, off + j, none⟩ := by unfold Addr.add; split <;> simp_all
    rw [e, h3 j hj, getD_lt _ _ _ hj]

set_option maxHeartbeats 800000 in
theorem same_true (k f s : Int) (sa sb : Option Addr) (na ca nb cb : Nat) (l : List UInt8) (w : World) (ha : BytesIn w (.slice sa na ca) l) (hb : BytesIn w (.slice sb nb cb) l) :
    Calls Try.prog 7 #[.agg #[.int .i64 k, .int .i64 f, .int .i64 s, .slice sa na ca], .agg #[.int .i64 k, .int .i64 f, .int .i64 s, .slice sb nb cb]] w fun e w' => e = .returned (.bool true) ∧ Below w.heap.size w w' := by
  have hch : ∀ o1 o2, Chg (fun _ => False) w ((w.alloc o1).alloc o2) := fun o1 o2 => ((Chg.refl _ _).alloc _).alloc _
  have h1 := conv_bytes (ha.chg (hch (.cells #[.int .i64 k, .int .i64 f, .int .i64 s, .slice sa na ca] 26) (.cells #[.int .i64 k, .int .i64 f, .int .i64 s, .slice sb nb cb] 26)) (fun _ _ => id))
  have h2 := conv_bytes (hb.chg (hch (.cells #[.int .i64 k, .int .i64 f, .int .i64 s, .slice sa na ca] 26) (.cells #[.int .i64 k, .int .i64 f, .int .i64 s, .slice sb nb cb] 26)) (fun _ _ => id))
  clear ha hb hch
  go_enter Try.func7, Try.ntmps7
  go_wp2
  go_ret
  exact ⟨rfl, ((Below.refl _ _).alloc (Nat.le_refl _) _).alloc (by simp) _⟩
end Go.Proofs.Ytjccnikmcoidhaa
