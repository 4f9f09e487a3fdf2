import Derived.Test.YtpmmpbklpclnhaaDoorBkSrc
import Derived.Test.YtpmmpbklpclnhaaDoorBkBack
set_option linter.unusedVariables false
set_option linter.unusedSimpArgs false
/-
  Package blocks: form's begins, source's has and takeCount.
-/
namespace Go.Proofs.YtpmmpbklpclnhaaDoor
set_option linter.unusedVariables false
set_option linter.unusedSimpArgs false
open Go.RowKit

/-- What gives up. -/
def Gone (e : Ending) : Prop := e = .panicked [{ v := .iface 25 (.int .i64 13), recovered := false }]

set_option maxRecDepth 100000 in
set_option maxHeartbeats 800000 in
theorem fbegins_any (f k : Nat) (c : UInt8) (w : World) (hk : k = 4 ∨ k = 5 ∨ k = 6 ∨ k = 7) :
    Calls Tryd.prog 44 #[fm f k, .int .u8 c.toNat] w fun e w' => e = .returned (.bool (decide (c.toNat / 2 ^ k = f / 2 ^ k))) ∧ Below w.heap.size w w' := by
  have hc : c.toNat ≤ 255 := Nat.le_of_lt_succ c.toNat_lt
  generalize c.toNat = x at *
  rcases hk with rfl | rfl | rfl | rfl
  all_goals go_enter Tryd.func44, Tryd.ntmps44
  all_goals go_wp2
  all_goals go_quiet (fail)
  all_goals go_wp2
  all_goals go_ret
  all_goals refine ⟨ret_bool ?_, ⟨rfl, rfl, rfl, by simp, fun k hk => Below.heap_alloc _ _ _ hk⟩⟩
  all_goals first
    | (simp; done)
    | (rw [Bool.eq_iff_iff]; simp; omega)
    | (simp; omega)

def hasF (f k : Nat) : List UInt8 → Bool
  | [] => false
  | c :: _ => decide (c.toNat / 2 ^ k = f / 2 ^ k)
set_option maxRecDepth 100000 in
set_option maxHeartbeats 800000 in
theorem shas_any (sb : Nat) (rv : Value) (l : List UInt8) (f k : Nat) (w : World) (h : SrS w sb rv l) (hk : k = 4 ∨ k = 5 ∨ k = 6 ∨ k = 7) :
    Calls Tryd.prog 32 #[.pointer (some ⟨sb, 0, none⟩), fm f k] w fun e w' => e = .returned (.bool (hasF f k l)) ∧ Below w.heap.size w w' := by
  have hbl : Below w.heap.size w (w.alloc (.cells #[.int .u8 (f : Int), .int .i64 (k : Int)] 69)) := (Below.refl _ _).alloc (Nat.le_refl _) _
  have hs1 := h.below hbl
  have hs2 : SrS (w.alloc (.cells #[.int .u8 (f : Int), .int .i64 (k : Int)] 69)).drew sb rv l := ⟨hs1.blk, hs1.bytes.chg ((Chg.refl (fun _ => False) _).drew) (fun _ _ => id), hs1.ne⟩
  have hae := atEnd_any sb rv l _ hs2
  have c0 := cell_of_one hs1.blk
  have hlt := lt_of_block h.blk
  have HAE := hide hae
  have HBL := hide hbl
  have haq : ∀ n, Calls Tryd.prog 34 #[.pointer (some ⟨sb, 0, none⟩)] ((w.alloc (.cells #[.int .u8 (f : Int), .int .i64 (k : Int)] 69)).drewN n) fun e w' => e = .returned (.bool l.isEmpty) ∧ w' = (w.alloc (.cells #[.int .u8 (f : Int), .int .i64 (k : Int)] 69)).drewN n := fun n => atEnd_any sb rv l _ ⟨hs1.blk, hs1.bytes.chg ((Chg.refl (fun _ => False) _).drewN n) (fun _ _ => id), hs1.ne⟩
  have HAQ := hide haq
  cases l with
  | nil =>
    simp only [List.isEmpty_nil] at HAE HAQ
    clear hs1 hs2 hae h hbl haq
    go_enter Tryd.func32, Tryd.ntmps32
    go_wp2
    go_quiet ((go_at_call 34; refine Calls.quiet_of_same (HAQ.out _)))
    all_goals go_wp2
    all_goals go_ret
    all_goals exact ⟨rfl, HBL.out.os, HBL.out.tape, HBL.out.output, HBL.out.size, HBL.out.block⟩
  | cons c r =>
    simp only [List.isEmpty_cons] at HAE
    rcases hs1.bytes with ⟨_, h0⟩ | ⟨bb, off, cap, hv, h1, h2, h3⟩
    · simp at h0
    · subst hv
      have d0 := h3 0 (by simp)
      simp only [Nat.add_zero, List.getD_cons_zero] at d0
      have HFB := hide (fun wx => fbegins_any f k c wx hk)
      clear hs1 hs2 hae h h3 hbl haq
      go_enter Tryd.func32, Tryd.ntmps32
      go_wp2
      go_region_with (first
        | (go_at_call 34; refine HAE.out.mono ?_; rintro e w1 ⟨rfl, rfl⟩)
        | (go_at_call 44; refine (HFB.out _).mono ?_; rintro e w1 ⟨rfl, hb1⟩; have HB1 := hide hb1; clear hb1))
      all_goals go_wp2
      all_goals go_ret
      all_goals refine ⟨ret_bool ?_, ?_⟩
      all_goals first
        | rfl
        | (have h9 := HB1.out; have h8 : Below w.heap.size w w1 := HBL.out.trans ((Below.mk h9.os h9.tape h9.output h9.size h9.block : Below (w.alloc (.cells #[.int .u8 (f : Int), .int .i64 (k : Int)] 69)).heap.size (w.alloc (.cells #[.int .u8 (f : Int), .int .i64 (k : Int)] 69)) w1).mono HBL.out.size); exact h8)
end Go.Proofs.YtpmmpbklpclnhaaDoor
