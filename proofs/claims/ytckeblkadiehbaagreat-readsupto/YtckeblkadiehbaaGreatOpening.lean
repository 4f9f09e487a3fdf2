/-
  sluicelaw: opening, known.
-/
import Derived.Test.YtckeblkadiehbaaGreatApp
import Derived.Lib.SlBytesConst
namespace Go.Proofs.YtckeblkadiehbaaGreat
open Go.RowKit

theorem heap_at {w : World} {o : Obj} {k : Nat} (h : w.heap.size = k) : (w.alloc o).heap[k]? = some o := by
  subst h
  show (w.heap.push o)[w.heap.size]? = _
  simp
theorem heap_in {w : World} {o o2 : Obj} {k : Nat} (hk : k < w.heap.size) (h : w.heap[k]? = some o2) : (w.alloc o).heap[k]? = some o2 := by rw [Below.heap_alloc _ _ _ hk]; exact h

/-- A step of a script. -/
structure OpV where
  k : Int
  a : Int
  b : Int
  c : Int
  s : ByteArray

def opCells : List OpV → List Value
  | [] => []
  | o :: r => [.int .i64 o.k, .int .i64 o.a, .int .i64 o.b, .int .i64 o.c, .string o.s] ++ opCells r

/-- The document's examples, as a script. -/
def openOps : List OpV := [⟨1, 0, 0, 0, ⟨#[]⟩⟩, ⟨2, 0, 0, 0, ⟨#[]⟩⟩, ⟨3, 0, 0, 0, ⟨#[0, 2, 0, 1, 0, 1, 104, 105]⟩⟩, ⟨4, 128, 0, 0, ⟨#[]⟩⟩, ⟨6, 0, 0, 0, ⟨#[]⟩⟩, ⟨7, 0, 0, 0, ⟨#[]⟩⟩, ⟨8, 128, 0, 0, ⟨#[]⟩⟩,
  ⟨9, 0, 0, 0, ⟨#[129, 71, 130, 2, 31]⟩⟩, ⟨11, 0, 0, 0, ⟨#[]⟩⟩, ⟨12, 0, 0, 0, ⟨#[]⟩⟩, ⟨13, 0, 0, 0, ⟨#[]⟩⟩, ⟨14, 0, 1, 0, ⟨#[104, 105]⟩⟩, ⟨20, 0, 1000, 0, ⟨#[]⟩⟩, ⟨27, 0, 0, 0, ⟨#[]⟩⟩]

set_option maxRecDepth 100000 in
set_option maxHeartbeats 6400000 in
theorem opening_any (w : World) :
    Calls Tryz.prog 7 #[] w fun e w' => e = .returned (.slice (some ⟨w.heap.size, 0, none⟩) 14 14) ∧ w' = w.alloc (.cells (opCells openOps).toArray 49) := by
  go_enter Tryz.func7, Tryz.ntmps7
  go_wp2
  go_ret
  exact ⟨rfl, rfl⟩

set_option maxRecDepth 100000 in
set_option maxHeartbeats 6400000 in
theorem known_any (w : World) :
    Calls Tryz.prog 6 #[] w fun e w' => e = .returned (.agg #[.slice (some ⟨w.heap.size + 6, 0, none⟩) 1 1, .slice (some ⟨w.heap.size + 8, 0, none⟩) 1 1, .slice (some ⟨w.heap.size + 9, 0, none⟩) 1 1, .slice (some ⟨w.heap.size + 10, 0, none⟩) 1 1]) ∧ Below w.heap.size w w' ∧
      w'.heap[w.heap.size + 6]? = some (.cells #[.int .i64 0, .int .i64 1, .int .i64 1, .slice (some ⟨w.heap.size + 2, 0, none⟩) 2 2] 56 (0, 0)) ∧ w'.heap[w.heap.size + 2]? = some (.cells #[.int .u8 104, .int .u8 105] 5 (2, 3)) := by
  have kc : ∀ (w : World) (C : Array Value) (n c k : Nat), w.heap.size = k → (convert 54 54 (.slice (some ⟨k, 0, none⟩) n c)).run Tryz.prog (w.alloc (.cells C 5)) = .ok (.slice (some ⟨k, 0, none⟩) n c) (w.alloc (.cells C 5 (C.size, C.size + 1))) := by
    intro w C n c k hk
    subst hk
    exact Lib.run_convert_bytes_const (P := Tryz.prog) w 54 5 C n c Tryz.underlying54 Tryz.underlying5
  go_enter Tryz.func6, Tryz.ntmps6
  go_wp2
  refine bodyPost_ret (v := .agg #[.slice (some ⟨w.heap.size + 6, 0, none⟩) 1 1, .slice (some ⟨w.heap.size + 8, 0, none⟩) 1 1, .slice (some ⟨w.heap.size + 9, 0, none⟩) 1 1, .slice (some ⟨w.heap.size + 10, 0, none⟩) 1 1]) ?_ rfl ⟨rfl, ?_, ?_, ?_⟩
  · simp [results, Tryz.results6, go_sem]
  · repeat (first | exact Below.refl _ _ | refine Below.alloc ?_ (by simp; try omega) _)
  · refine heap_in (by simp) (heap_in (by simp) (heap_in (by simp) (heap_in (by simp) (heap_at (by simp)))))
  · refine heap_in (by simp) (heap_in (by simp) (heap_in (by simp) (heap_in (by simp) (heap_in (by simp) (heap_in (by simp) (heap_in (by simp) (heap_in (by simp) (heap_at (by simp)))))))))
end Go.Proofs.YtckeblkadiehbaaGreat
