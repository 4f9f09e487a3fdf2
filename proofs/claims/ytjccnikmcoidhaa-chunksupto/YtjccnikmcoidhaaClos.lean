import Derived.Test.YtjccnikmcoidhaaMem
import Derived.Defers
import Derived.Recover
set_option linter.unusedVariables false
set_option linter.unusedSimpArgs false
/-
  Feed's deferred literal: behind a panic it lays the fault down; else it does nothing.
-/
namespace Go.Proofs.Ytjccnikmcoidhaa
open Go.RowKit

set_option maxRecDepth 100000 in
set_option maxHeartbeats 400000 in
theorem faultOf_any (c : Int) (w : World) :
    Calls Try.prog 21 #[.iface 32 (.int .i64 c)] w fun e w' => e = .returned (.int .i64 c) ∧ w' = w := by
  have hta : ∀ (c : Int) (w : World), (Instr.typeAssert (.iface 32 (.int .i64 c)) 20 32 false).run Try.prog w = .ok (.int .i64 c) w := fun _ _ => by kernel_rfl
  go_enter Try.func21, Try.ntmps21
  go_wp2
  go_ret
  exact ⟨rfl, rfl⟩

set_option maxRecDepth 100000 in
set_option maxHeartbeats 400000 in
theorem clos_idle (fa ra : Nat) (w : World) :
    CallsD Try.prog 20 #[.pointer (some ⟨fa, 0, none⟩), .pointer (some ⟨ra, 0, none⟩)] .returning w fun e u' w' => e = .returned (.tuple #[]) ∧ u' = .returning ∧ w' = w := by
  refine callsD_of_wpS Try.func20 rfl fun c₀ cs hu => ?_
  apply wpS_seq
  apply wpS_region
  simp [wpOpsS, go_sem, recoverD, hu, Try.ntmps20, Exit.thenS]
  refine wpS_of_wp ?_
  change Code.wp Try.prog _ _ ⟨#[.pointer (some ⟨fa, 0, none⟩), .pointer (some ⟨ra, 0, none⟩), .nilIface, .nilIface, undef, undef, undef, undef, undef, undef, undef, undef], []⟩ w
  go_wp2
  cases c₀
  simp_all [bodyPostS, results, Try.results20]

/-- The reader's block, overwritten. -/
def wiped (w : World) (fa rb : Nat) (c : Int) : World :=
  ((((((w.setCell ⟨fa, 0, none⟩ (.int .i64 c)).setCell ⟨rb, 0, none⟩ (.slice none 0 0)).setCell ⟨rb, 1, none⟩ (.int .i64 0)).setCell ⟨rb, 2, none⟩ (.int .i64 0)).setCell ⟨rb, 3, none⟩ (.int .i64 0)).setCell ⟨rb, 4, none⟩ (.int .i64 0)).setCell ⟨rb, 5, none⟩ (.int .i64 c)

set_option maxRecDepth 100000 in
set_option maxHeartbeats 400000 in
theorem clos_panic (fa ra rb : Nat) (c : Int) (older : List PanicEntry) (w : World) (hf : w.heap[fa]? = some (.cells #[.int .i64 0] 32 (0, 0))) (hra : w.cell? ⟨ra, 0, none⟩ = some (.pointer (some ⟨rb, 0, none⟩)))
    (gv : Value) (L K F S c0 : Int) (hr : RdB w rb gv L K F S c0) (h1 : fa ≠ ra) (h2 : fa ≠ rb) :
    CallsD Try.prog 20 #[.pointer (some ⟨fa, 0, none⟩), .pointer (some ⟨ra, 0, none⟩)] (.panicking ({ v := .iface 32 (.int .i64 c), recovered := false } :: older)) w fun e u' w' =>
      e = .returned (.tuple #[]) ∧ u' = .panicking ({ v := .iface 32 (.int .i64 c), recovered := true } :: older) ∧ w' = wiped w fa rb c := by
  obtain ⟨c0, c1, c2, c3, c4, c5⟩ := hr.cells
  have f0 := hr.free 0
  have f1 := hr.free 1
  have f2 := hr.free 2
  have f3 := hr.free 3
  have f4 := hr.free 4
  have f5 := hr.free 5
  have cf := cell_of_one hf
  have ff := free_of_one hf
  clear hf hr
  unfold wiped
  refine callsD_of_wpS Try.func20 rfl fun c₀ cs hu => ?_
  apply wpS_seq
  apply wpS_region
  simp [wpOpsS, go_sem, recoverD, hu, Try.ntmps20, Exit.thenS]
  refine wpS_of_wp ?_
  change Code.wp Try.prog _ _ ⟨#[.pointer (some ⟨fa, 0, none⟩), .pointer (some ⟨ra, 0, none⟩), .iface 32 (.int .i64 c), .iface 32 (.int .i64 c), undef, undef, undef, undef, undef, undef, undef, undef], []⟩ w
  go_wp2_with (go_at_call 21; refine (faultOf_any _ _).mono ?_; rintro e w' ⟨rfl, rfl⟩)
  exact ⟨rfl, _, rfl, .tuple #[], by simp [results, Try.results20], rfl, rfl, rfl⟩
end Go.Proofs.Ytjccnikmcoidhaa
