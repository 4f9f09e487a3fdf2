import Derived.Test.YtlhlmgfblbpdpaaGreatDoorWGam
import Derived.Test.YtlhlmgfblbpdpaaGreatDoorWGak
import Derived.Test.YtlhlmgfblbpdpaaGreatDoorWGac
import Derived.Test.YtlhlmgfblbpdpaaGreatDoorWGal
import Derived.ArgAppend
set_option linter.unusedVariables false
set_option linter.unusedSimpArgs false
/-
  Package ends: come, by kinds, whether it ends well or gives up.
-/
namespace Go.Proofs.YtlhlmgfblbpdpaaGreatDoor
set_option linter.unusedVariables false
set_option linter.unusedSimpArgs false
open Go.RowKit

section
variable (eb mb : Nat) (g : GEnd) (w : World) (R S : World → Prop) (code : Int)
set_option maxRecDepth 100000 in
set_option maxHeartbeats 800000 in
theorem come2_data (f n : Int) (sv : Option Addr) (len cb : Nat) (h : Inv w eb mb g) (hb : g.m.bstream = 0) (hbg : g.m.begun = true) (hc : ∀ w1 g1, Ahead w w1 eb mb g g1 → Calls Tryz.prog 73 #[.pointer (some ⟨eb, 0, none⟩), .agg #[.int .i64 0, .int .i64 f, .int .i64 n, .slice sv len cb, .slice sv len cb]] w1 fun e w' => (e = .returned (.tuple #[]) ∧ R w') ∨ (e = .panicked [{ v := .iface 41 (.int .i64 code), recovered := false }] ∧ S w')) :
    Calls Tryz.prog 55 #[.pointer (some ⟨eb, 0, none⟩), .iface 136 (.agg #[.int .i64 0, .int .i64 f, .int .i64 n, .slice sv len cb, .slice sv len cb])] w fun e w' => (e = .returned (.tuple #[]) ∧ R w') ∨ (e = .panicked [{ v := .iface 41 (.int .i64 code), recovered := false }] ∧ S w') := by
  have hta : ∀ (x : Value) (w : World), (Instr.typeAssert (.iface 136 x) 124 136 true).run Tryz.prog w = .ok (.tuple #[x, .bool true]) w := fun _ _ => by kernel_rfl
  have HT := hide (checkTurn_ok eb g.m 136 (.agg #[.int .i64 0, .int .i64 f, .int .i64 n, .slice sv len cb, .slice sv len cb]) w h.en (by simp) hb (Or.inl hbg))
  have HC : Hid (∀ w0 o, Below w.heap.size w w0 → Calls Tryz.prog 73 #[.pointer (some ⟨eb, 0, none⟩), .agg #[.int .i64 0, .int .i64 f, .int .i64 n, .slice sv len cb, .slice sv len cb]] ((w0.setCell ⟨eb, 30, none⟩ (.bool true)).alloc o) fun e w' => (e = .returned (.tuple #[]) ∧ R w') ∨ (e = .panicked [{ v := .iface 41 (.int .i64 code), recovered := false }] ∧ S w')) := fun w0 o hb0 => by
    obtain ⟨g1, h1, h2⟩ := (h.below hb0).begins
    exact hc _ g1 (ahead_of hb0 h1 h2 ((Below.refl _ _).alloc (Nat.le_refl _) _))
  have HE : Hid (∀ w0, Below w.heap.size w w0 → w0.cell? ⟨eb, 30, none⟩ = some (.bool g.m.begun) ∧ w0.frozen? ⟨eb, 30, none⟩ = false ∧ eb < w0.heap.size) := fun w0 hb0 => ⟨(h.below hb0).en.c30, (h.below hb0).en.fr 30, (h.below hb0).en.lt⟩
  clear h hb hbg hc
  go_enter Tryz.func55, Tryz.ntmps55
  go_wp2_with fail
  refine HT.out.mono ?_
  rintro e w0 ⟨rfl, hb0⟩
  obtain ⟨k30, f30, hlt⟩ := HE.out w0 hb0
  have HB0 := hide hb0
  clear hb0
  go_wp2_with fail
  refine (HC.out w0 _ HB0.out).mono ?_
  rintro e w' (⟨rfl, hx⟩ | ⟨rfl, hx⟩)
  · have HX := hide hx
    clear hx
    go_wp2
    exact bodyPost_end (results_none rfl _ _ _) rfl (Or.inl ⟨rfl, HX.out⟩)
  · have HX := hide hx
    clear hx
    go_wp2
    exact ⟨rfl, Or.inr ⟨rfl, HX.out⟩⟩
set_option maxRecDepth 100000 in
set_option maxHeartbeats 800000 in
theorem come2_headers (f n : Int) (sv : Option Addr) (len cb : Nat) (h : Inv w eb mb g) (hb : g.m.bstream = 0) (hbg : g.m.begun = true) (hc : ∀ w1 g1, Ahead w w1 eb mb g g1 → Calls Tryz.prog 74 #[.pointer (some ⟨eb, 0, none⟩), .agg #[.int .i64 1, .int .i64 f, .int .i64 n, .slice sv len cb, .slice sv len cb]] w1 fun e w' => (e = .returned (.tuple #[]) ∧ R w') ∨ (e = .panicked [{ v := .iface 41 (.int .i64 code), recovered := false }] ∧ S w')) :
    Calls Tryz.prog 55 #[.pointer (some ⟨eb, 0, none⟩), .iface 139 (.agg #[.int .i64 1, .int .i64 f, .int .i64 n, .slice sv len cb, .slice sv len cb])] w fun e w' => (e = .returned (.tuple #[]) ∧ R w') ∨ (e = .panicked [{ v := .iface 41 (.int .i64 code), recovered := false }] ∧ S w') := by
  have hta : ∀ (x : Value) (w : World), (Instr.typeAssert (.iface 139 x) 124 139 true).run Tryz.prog w = .ok (.tuple #[x, .bool true]) w := fun _ _ => by kernel_rfl
  have ht0 : ∀ (x : Value) (w : World), (Instr.typeAssert (.iface 139 x) 124 136 true).run Tryz.prog w = .ok (.tuple #[.agg #[.int .i64 0, .int .i64 0, .int .i64 0, .slice none 0 0, .slice none 0 0], .bool false]) w := fun _ _ => by kernel_rfl
  have HT := hide (checkTurn_ok eb g.m 139 (.agg #[.int .i64 1, .int .i64 f, .int .i64 n, .slice sv len cb, .slice sv len cb]) w h.en (by simp) hb (Or.inl hbg))
  have HC : Hid (∀ w0 o, Below w.heap.size w w0 → Calls Tryz.prog 74 #[.pointer (some ⟨eb, 0, none⟩), .agg #[.int .i64 1, .int .i64 f, .int .i64 n, .slice sv len cb, .slice sv len cb]] ((w0.setCell ⟨eb, 30, none⟩ (.bool true)).alloc o) fun e w' => (e = .returned (.tuple #[]) ∧ R w') ∨ (e = .panicked [{ v := .iface 41 (.int .i64 code), recovered := false }] ∧ S w')) := fun w0 o hb0 => by
    obtain ⟨g1, h1, h2⟩ := (h.below hb0).begins
    exact hc _ g1 (ahead_of hb0 h1 h2 ((Below.refl _ _).alloc (Nat.le_refl _) _))
  have HE : Hid (∀ w0, Below w.heap.size w w0 → w0.cell? ⟨eb, 30, none⟩ = some (.bool g.m.begun) ∧ w0.frozen? ⟨eb, 30, none⟩ = false ∧ eb < w0.heap.size) := fun w0 hb0 => ⟨(h.below hb0).en.c30, (h.below hb0).en.fr 30, (h.below hb0).en.lt⟩
  clear h hb hbg hc
  go_enter Tryz.func55, Tryz.ntmps55
  go_wp2_with fail
  refine HT.out.mono ?_
  rintro e w0 ⟨rfl, hb0⟩
  obtain ⟨k30, f30, hlt⟩ := HE.out w0 hb0
  have HB0 := hide hb0
  clear hb0
  go_wp2_with fail
  refine (HC.out w0 _ HB0.out).mono ?_
  rintro e w' (⟨rfl, hx⟩ | ⟨rfl, hx⟩)
  · have HX := hide hx
    clear hx
    go_wp2
    exact bodyPost_end (results_none rfl _ _ _) rfl (Or.inl ⟨rfl, HX.out⟩)
  · have HX := hide hx
    clear hx
    go_wp2
    exact ⟨rfl, Or.inr ⟨rfl, HX.out⟩⟩
set_option maxRecDepth 100000 in
set_option maxHeartbeats 800000 in
theorem come2_settings (f n : Int) (sv : Option Addr) (len cb : Nat) (nv : Int) (h : Inv w eb mb g) (hb : g.m.bstream = 0) (hbg : g.m.begun = true) (hc : ∀ w1 g1, Ahead w w1 eb mb g g1 → Calls Tryz.prog 78 #[.pointer (some ⟨eb, 0, none⟩), .agg #[.int .i64 3, .int .i64 f, .int .i64 n, .slice sv len cb, .int .i64 nv]] w1 fun e w' => (e = .returned (.tuple #[]) ∧ R w') ∨ (e = .panicked [{ v := .iface 41 (.int .i64 code), recovered := false }] ∧ S w')) :
    Calls Tryz.prog 55 #[.pointer (some ⟨eb, 0, none⟩), .iface 148 (.agg #[.int .i64 3, .int .i64 f, .int .i64 n, .slice sv len cb, .int .i64 nv])] w fun e w' => (e = .returned (.tuple #[]) ∧ R w') ∨ (e = .panicked [{ v := .iface 41 (.int .i64 code), recovered := false }] ∧ S w') := by
  have hta : ∀ (x : Value) (w : World), (Instr.typeAssert (.iface 148 x) 124 148 true).run Tryz.prog w = .ok (.tuple #[x, .bool true]) w := fun _ _ => by kernel_rfl
  have ht0 : ∀ (x : Value) (w : World), (Instr.typeAssert (.iface 148 x) 124 136 true).run Tryz.prog w = .ok (.tuple #[.agg #[.int .i64 0, .int .i64 0, .int .i64 0, .slice none 0 0, .slice none 0 0], .bool false]) w := fun _ _ => by kernel_rfl
  have ht1 : ∀ (x : Value) (w : World), (Instr.typeAssert (.iface 148 x) 124 139 true).run Tryz.prog w = .ok (.tuple #[.agg #[.int .i64 0, .int .i64 0, .int .i64 0, .slice none 0 0, .slice none 0 0], .bool false]) w := fun _ _ => by kernel_rfl
  have ht2 : ∀ (x : Value) (w : World), (Instr.typeAssert (.iface 148 x) 124 141 true).run Tryz.prog w = .ok (.tuple #[.agg #[.int .i64 0, .int .i64 0, .int .i64 0, .slice none 0 0, .slice none 0 0], .bool false]) w := fun _ _ => by kernel_rfl
  have ht3 : ∀ (x : Value) (w : World), (Instr.typeAssert (.iface 148 x) 124 145 true).run Tryz.prog w = .ok (.tuple #[.agg #[.int .i64 0, .int .i64 0, .int .i64 0, .slice none 0 0], .bool false]) w := fun _ _ => by kernel_rfl
  have HT := hide (checkTurn_ok eb g.m 148 (.agg #[.int .i64 3, .int .i64 f, .int .i64 n, .slice sv len cb, .int .i64 nv]) w h.en (by simp) hb (Or.inl hbg))
  have HC : Hid (∀ w0 o, Below w.heap.size w w0 → Calls Tryz.prog 78 #[.pointer (some ⟨eb, 0, none⟩), .agg #[.int .i64 3, .int .i64 f, .int .i64 n, .slice sv len cb, .int .i64 nv]] ((w0.setCell ⟨eb, 30, none⟩ (.bool true)).alloc o) fun e w' => (e = .returned (.tuple #[]) ∧ R w') ∨ (e = .panicked [{ v := .iface 41 (.int .i64 code), recovered := false }] ∧ S w')) := fun w0 o hb0 => by
    obtain ⟨g1, h1, h2⟩ := (h.below hb0).begins
    exact hc _ g1 (ahead_of hb0 h1 h2 ((Below.refl _ _).alloc (Nat.le_refl _) _))
  have HE : Hid (∀ w0, Below w.heap.size w w0 → w0.cell? ⟨eb, 30, none⟩ = some (.bool g.m.begun) ∧ w0.frozen? ⟨eb, 30, none⟩ = false ∧ eb < w0.heap.size) := fun w0 hb0 => ⟨(h.below hb0).en.c30, (h.below hb0).en.fr 30, (h.below hb0).en.lt⟩
  clear h hb hbg hc
  go_enter Tryz.func55, Tryz.ntmps55
  go_wp2_with fail
  refine HT.out.mono ?_
  rintro e w0 ⟨rfl, hb0⟩
  obtain ⟨k30, f30, hlt⟩ := HE.out w0 hb0
  have HB0 := hide hb0
  clear hb0
  go_wp2_with fail
  refine (HC.out w0 _ HB0.out).mono ?_
  rintro e w' (⟨rfl, hx⟩ | ⟨rfl, hx⟩)
  · have HX := hide hx
    clear hx
    go_wp2
    exact bodyPost_end (results_none rfl _ _ _) rfl (Or.inl ⟨rfl, HX.out⟩)
  · have HX := hide hx
    clear hx
    go_wp2
    exact ⟨rfl, Or.inr ⟨rfl, HX.out⟩⟩
set_option maxRecDepth 100000 in
set_option maxHeartbeats 800000 in
theorem come2_ping (f n : Int) (sv : Option Addr) (len cb : Nat) (nv : Int) (h : Inv w eb mb g) (hb : g.m.bstream = 0) (hbg : g.m.begun = true) (hc : ∀ w1 g1, Ahead w w1 eb mb g g1 → Calls Tryz.prog 79 #[.pointer (some ⟨eb, 0, none⟩), .agg #[.int .i64 4, .int .i64 f, .int .i64 n, .slice sv len cb, .int .u32 nv]] w1 fun e w' => (e = .returned (.tuple #[]) ∧ R w') ∨ (e = .panicked [{ v := .iface 41 (.int .i64 code), recovered := false }] ∧ S w')) :
    Calls Tryz.prog 55 #[.pointer (some ⟨eb, 0, none⟩), .iface 151 (.agg #[.int .i64 4, .int .i64 f, .int .i64 n, .slice sv len cb, .int .u32 nv])] w fun e w' => (e = .returned (.tuple #[]) ∧ R w') ∨ (e = .panicked [{ v := .iface 41 (.int .i64 code), recovered := false }] ∧ S w') := by
  have hta : ∀ (x : Value) (w : World), (Instr.typeAssert (.iface 151 x) 124 151 true).run Tryz.prog w = .ok (.tuple #[x, .bool true]) w := fun _ _ => by kernel_rfl
  have ht0 : ∀ (x : Value) (w : World), (Instr.typeAssert (.iface 151 x) 124 136 true).run Tryz.prog w = .ok (.tuple #[.agg #[.int .i64 0, .int .i64 0, .int .i64 0, .slice none 0 0, .slice none 0 0], .bool false]) w := fun _ _ => by kernel_rfl
  have ht1 : ∀ (x : Value) (w : World), (Instr.typeAssert (.iface 151 x) 124 139 true).run Tryz.prog w = .ok (.tuple #[.agg #[.int .i64 0, .int .i64 0, .int .i64 0, .slice none 0 0, .slice none 0 0], .bool false]) w := fun _ _ => by kernel_rfl
  have ht2 : ∀ (x : Value) (w : World), (Instr.typeAssert (.iface 151 x) 124 141 true).run Tryz.prog w = .ok (.tuple #[.agg #[.int .i64 0, .int .i64 0, .int .i64 0, .slice none 0 0, .slice none 0 0], .bool false]) w := fun _ _ => by kernel_rfl
  have ht3 : ∀ (x : Value) (w : World), (Instr.typeAssert (.iface 151 x) 124 145 true).run Tryz.prog w = .ok (.tuple #[.agg #[.int .i64 0, .int .i64 0, .int .i64 0, .slice none 0 0], .bool false]) w := fun _ _ => by kernel_rfl
  have ht4 : ∀ (x : Value) (w : World), (Instr.typeAssert (.iface 151 x) 124 148 true).run Tryz.prog w = .ok (.tuple #[.agg #[.int .i64 0, .int .i64 0, .int .i64 0, .slice none 0 0, .int .i64 0], .bool false]) w := fun _ _ => by kernel_rfl
  have HT := hide (checkTurn_ok eb g.m 151 (.agg #[.int .i64 4, .int .i64 f, .int .i64 n, .slice sv len cb, .int .u32 nv]) w h.en (by simp) hb (Or.inl hbg))
  have HC : Hid (∀ w0 o, Below w.heap.size w w0 → Calls Tryz.prog 79 #[.pointer (some ⟨eb, 0, none⟩), .agg #[.int .i64 4, .int .i64 f, .int .i64 n, .slice sv len cb, .int .u32 nv]] ((w0.setCell ⟨eb, 30, none⟩ (.bool true)).alloc o) fun e w' => (e = .returned (.tuple #[]) ∧ R w') ∨ (e = .panicked [{ v := .iface 41 (.int .i64 code), recovered := false }] ∧ S w')) := fun w0 o hb0 => by
    obtain ⟨g1, h1, h2⟩ := (h.below hb0).begins
    exact hc _ g1 (ahead_of hb0 h1 h2 ((Below.refl _ _).alloc (Nat.le_refl _) _))
  have HE : Hid (∀ w0, Below w.heap.size w w0 → w0.cell? ⟨eb, 30, none⟩ = some (.bool g.m.begun) ∧ w0.frozen? ⟨eb, 30, none⟩ = false ∧ eb < w0.heap.size) := fun w0 hb0 => ⟨(h.below hb0).en.c30, (h.below hb0).en.fr 30, (h.below hb0).en.lt⟩
  clear h hb hbg hc
  go_enter Tryz.func55, Tryz.ntmps55
  go_wp2_with fail
  refine HT.out.mono ?_
  rintro e w0 ⟨rfl, hb0⟩
  obtain ⟨k30, f30, hlt⟩ := HE.out w0 hb0
  have HB0 := hide hb0
  clear hb0
  go_wp2_with fail
  refine (HC.out w0 _ HB0.out).mono ?_
  rintro e w' (⟨rfl, hx⟩ | ⟨rfl, hx⟩)
  · have HX := hide hx
    clear hx
    go_wp2
    exact bodyPost_end (results_none rfl _ _ _) rfl (Or.inl ⟨rfl, HX.out⟩)
  · have HX := hide hx
    clear hx
    go_wp2
    exact ⟨rfl, Or.inr ⟨rfl, HX.out⟩⟩
set_option maxRecDepth 100000 in
set_option maxHeartbeats 800000 in
theorem come2_credit (f n : Int) (sv : Option Addr) (len cb : Nat) (nv : Int) (h : Inv w eb mb g) (hb : g.m.bstream = 0) (hbg : g.m.begun = true) (hc : ∀ w1 g1, Ahead w w1 eb mb g g1 → Calls Tryz.prog 80 #[.pointer (some ⟨eb, 0, none⟩), .agg #[.int .i64 6, .int .i64 f, .int .i64 n, .slice sv len cb, .int .i64 nv]] w1 fun e w' => (e = .returned (.tuple #[]) ∧ R w') ∨ (e = .panicked [{ v := .iface 41 (.int .i64 code), recovered := false }] ∧ S w')) :
    Calls Tryz.prog 55 #[.pointer (some ⟨eb, 0, none⟩), .iface 154 (.agg #[.int .i64 6, .int .i64 f, .int .i64 n, .slice sv len cb, .int .i64 nv])] w fun e w' => (e = .returned (.tuple #[]) ∧ R w') ∨ (e = .panicked [{ v := .iface 41 (.int .i64 code), recovered := false }] ∧ S w') := by
  have hta : ∀ (x : Value) (w : World), (Instr.typeAssert (.iface 154 x) 124 154 true).run Tryz.prog w = .ok (.tuple #[x, .bool true]) w := fun _ _ => by kernel_rfl
  have ht0 : ∀ (x : Value) (w : World), (Instr.typeAssert (.iface 154 x) 124 136 true).run Tryz.prog w = .ok (.tuple #[.agg #[.int .i64 0, .int .i64 0, .int .i64 0, .slice none 0 0, .slice none 0 0], .bool false]) w := fun _ _ => by kernel_rfl
  have ht1 : ∀ (x : Value) (w : World), (Instr.typeAssert (.iface 154 x) 124 139 true).run Tryz.prog w = .ok (.tuple #[.agg #[.int .i64 0, .int .i64 0, .int .i64 0, .slice none 0 0, .slice none 0 0], .bool false]) w := fun _ _ => by kernel_rfl
  have ht2 : ∀ (x : Value) (w : World), (Instr.typeAssert (.iface 154 x) 124 141 true).run Tryz.prog w = .ok (.tuple #[.agg #[.int .i64 0, .int .i64 0, .int .i64 0, .slice none 0 0, .slice none 0 0], .bool false]) w := fun _ _ => by kernel_rfl
  have ht3 : ∀ (x : Value) (w : World), (Instr.typeAssert (.iface 154 x) 124 145 true).run Tryz.prog w = .ok (.tuple #[.agg #[.int .i64 0, .int .i64 0, .int .i64 0, .slice none 0 0], .bool false]) w := fun _ _ => by kernel_rfl
  have ht4 : ∀ (x : Value) (w : World), (Instr.typeAssert (.iface 154 x) 124 148 true).run Tryz.prog w = .ok (.tuple #[.agg #[.int .i64 0, .int .i64 0, .int .i64 0, .slice none 0 0, .int .i64 0], .bool false]) w := fun _ _ => by kernel_rfl
  have ht5 : ∀ (x : Value) (w : World), (Instr.typeAssert (.iface 154 x) 124 151 true).run Tryz.prog w = .ok (.tuple #[.agg #[.int .i64 0, .int .i64 0, .int .i64 0, .slice none 0 0, .int .u32 0], .bool false]) w := fun _ _ => by kernel_rfl
  have ht6 : ∀ (x : Value) (w : World), (Instr.typeAssert (.iface 154 x) 124 153 true).run Tryz.prog w = .ok (.tuple #[.agg #[.int .i64 0, .int .i64 0, .int .i64 0, .slice none 0 0], .bool false]) w := fun _ _ => by kernel_rfl
  have HT := hide (checkTurn_ok eb g.m 154 (.agg #[.int .i64 6, .int .i64 f, .int .i64 n, .slice sv len cb, .int .i64 nv]) w h.en (by simp) hb (Or.inl hbg))
  have HC : Hid (∀ w0 o, Below w.heap.size w w0 → Calls Tryz.prog 80 #[.pointer (some ⟨eb, 0, none⟩), .agg #[.int .i64 6, .int .i64 f, .int .i64 n, .slice sv len cb, .int .i64 nv]] ((w0.setCell ⟨eb, 30, none⟩ (.bool true)).alloc o) fun e w' => (e = .returned (.tuple #[]) ∧ R w') ∨ (e = .panicked [{ v := .iface 41 (.int .i64 code), recovered := false }] ∧ S w')) := fun w0 o hb0 => by
    obtain ⟨g1, h1, h2⟩ := (h.below hb0).begins
    exact hc _ g1 (ahead_of hb0 h1 h2 ((Below.refl _ _).alloc (Nat.le_refl _) _))
  have HE : Hid (∀ w0, Below w.heap.size w w0 → w0.cell? ⟨eb, 30, none⟩ = some (.bool g.m.begun) ∧ w0.frozen? ⟨eb, 30, none⟩ = false ∧ eb < w0.heap.size) := fun w0 hb0 => ⟨(h.below hb0).en.c30, (h.below hb0).en.fr 30, (h.below hb0).en.lt⟩
  clear h hb hbg hc
  go_enter Tryz.func55, Tryz.ntmps55
  go_wp2_with fail
  refine HT.out.mono ?_
  rintro e w0 ⟨rfl, hb0⟩
  obtain ⟨k30, f30, hlt⟩ := HE.out w0 hb0
  have HB0 := hide hb0
  clear hb0
  go_wp2_with fail
  refine (HC.out w0 _ HB0.out).mono ?_
  rintro e w' (⟨rfl, hx⟩ | ⟨rfl, hx⟩)
  · have HX := hide hx
    clear hx
    go_wp2
    exact bodyPost_end (results_none rfl _ _ _) rfl (Or.inl ⟨rfl, HX.out⟩)
  · have HX := hide hx
    clear hx
    go_wp2
    exact ⟨rfl, Or.inr ⟨rfl, HX.out⟩⟩
end
end Go.Proofs.YtlhlmgfblbpdpaaGreatDoor
/-
  append onto a row that may begin inside its block.
-/
namespace Go.Proofs.YtlhlmgfblbpdpaaGreatDoor
set_option linter.unusedVariables false
set_option linter.unusedSimpArgs false
open Go.RowKit

theorem heap_setCs_same (g : Nat) : ∀ (vs : List Value) (o : Nat) (w : World) (C : Array Value) (t : TypeId) (fr : Nat × Nat), w.heap[g]? = some (.cells C t fr) → ∃ C', (w.setCells g o vs).heap[g]? = some (.cells C' t fr) ∧ C'.size = C.size ∧ ∀ j, C'[j]? = if o ≤ j ∧ j < o + vs.length ∧ j < C.size then vs[j - o]? else C[j]?
  | [], o, w, C, t, fr, h => ⟨C, h, rfl, fun j => by rw [if_neg (by simp; omega)]⟩
  | v :: r, o, w, C, t, fr, h => by
    rw [World.setCells]
    obtain ⟨C', h1, h2, h3⟩ := heap_setCs_same g r (o + 1) (w.setCell ⟨g, o, none⟩ v) (C.setIfInBounds o v) t fr (block_setCell h)
    refine ⟨C', h1, by simpa using h2, fun j => ?_⟩
    rw [h3 j]
    simp only [Array.size_setIfInBounds, List.length_cons, Array.getElem?_setIfInBounds]
    by_cases hj : o = j
    · subst hj
      rw [if_neg (by omega)]
      by_cases hs : o < C.size
      · simp [hs]
      · simp [hs]
    · simp only [if_neg hj]
      by_cases hin : o + 1 ≤ j ∧ j < o + 1 + r.length ∧ j < C.size
      · rw [if_pos hin, if_pos (by omega)]
        have : j - o = (j - (o + 1)) + 1 := by omega
        rw [this, List.getElem?_cons_succ]
      · rw [if_neg hin, if_neg (by omega)]
theorem chg_setCs {S : Nat → Prop} {g : Nat} {a : World} (hp : S g) : ∀ (vs : List Value) (o : Nat) (w : World), Chg S a w → Chg S a (w.setCells g o vs)
  | [], _, _, h => h
  | v :: r, o, _, h => chg_setCs hp r (o + 1) _ (chg_set h hp)
theorem rowAt_app {P : Program} (w : World) (t ty e : TypeId) (i : TypeInfo) (z : Value) (size bytes : Nat) (ht : P.underlying t = some (.slice e)) (hi : P.info? e = some i) (hz : i.zero = some z)
    (hsize : i.size = size) (hby : i.bytes = bytes) (hzs : z.cells.size = size) (hsz : 0 < size)
    (v : Value) (n : Nat) (xs : List Value) (hrow : RowAt w e size v n xs)
    (ad : Addr) (m c : Nat) (news : List Value) (hl : news.length = m * size) (hcells : ∀ j u, news[j]? = some u → w.cell? (ad.add j) = some u) (h1 : ∀ u ∈ news, u.oneCell' = true)
    (h63 : n + m ≤ maxLen) (hbytes : (n + m) * bytes ≤ 140737488355328) (hm : 0 < m) :
    ∃ v' w', (Builtin.append_ #[t, t] ty #[v, .slice (some ad) m c]).run P w = .ok v' w' ∧ RowAt w' e size v' (n + m) (xs ++ news) ∧ Chg (fun j => v.ownBlock = some j) w w' ∧ (v'.ownBlock = v.ownBlock ∨ v'.ownBlock = some w.heap.size) ∧ ∃ g o cap, v' = .slice (some ⟨g, o, none⟩) (n + m) cap := by
  have hsmall : n + m ≤ 9223372036854775807 := by simp only [maxLen] at h63; omega
  subst hsize
  subst hby
  have hlx : (xs ++ news).length = (n + m) * i.size := by rw [List.length_append, hrow.1, hl, Nat.add_mul]
  rcases hrow.2 with ⟨rfl, rfl⟩ | ⟨g, o, cap, cur, rfl, hg, hnc, hcm, hcs, htake⟩
  · obtain ⟨v', w', hr, h2, h3, h4⟩ := run_app (P := P) w t ty e i z i.size i.bytes ht hi hz rfl rfl hzs hsz (.slice none 0 0) 0 [] (World.ownsRow_nil _ _ _ _) (.slice (some ad) m c) m news hl (Or.inr ⟨ad, c, rfl, hcells⟩) h1 h63 hbytes
    have hx0 : xs = [] := List.length_eq_zero_iff.1 (by rw [hrow.1, Nat.zero_mul])
    subst hx0
    refine ⟨v', w', hr, RowAt.of_owns h2, ⟨h3.os, h3.tape, h3.output, h3.size, fun j hj hs => h3.block j hj (fun e => hs e.symm)⟩, h4, ?_⟩
    rcases h2.2 with ⟨-, h0⟩ | ⟨g, cap, cur, h5, -⟩
    · omega
    · exact ⟨g, 0, cap, h5⟩
  · have hcell : ∀ j u, xs[j]? = some u → w.cell? ((⟨g, o, none⟩ : Addr).add j) = some u := fun j u hu => by
      rw [Addr.add_mid, cell_of_row _ _ _ _ _ _ hg]
      have hjl := (List.getElem?_eq_some_iff.1 hu).1
      rw [← htake, List.getElem?_take, if_pos (by rw [← hrow.1]; exact hjl), List.getElem?_drop, Array.getElem?_toList] at hu
      exact hu
    by_cases hroom : n + m ≤ cap
    · have hfit : o + (n + m) * i.size ≤ cur.size := by
        have := Nat.mul_le_mul_right i.size hroom
        omega
      rw [Nat.add_mul] at hfit
      have hr := run_append_room_cells (P := P) (w := w) t ty e i ht hi g o n cap ad m c news hl hcells h1 hroom (fun j hj => by rw [cell_of_row _ _ _ _ _ _ hg, Array.getElem?_eq_getElem (by omega)]; rfl) (fun j hj => by simp [World.frozen?, hg])
      obtain ⟨C', c1, c2, c3⟩ := heap_setCs_same g news (o + n * i.size) w cur e (0, 0) hg
      refine ⟨_, _, hr, ⟨hlx, Or.inr ⟨g, o, cap, C', rfl, c1, hroom, hcm, by rw [c2]; exact hcs, ?_⟩⟩, chg_setCs (S := fun j => (Value.slice (some ⟨g, o, none⟩) n cap).ownBlock = some j) rfl news _ w (Chg.refl _ _), Or.inl rfl, g, o, cap, rfl⟩
      apply List.ext_getElem?
      intro j
      rw [List.getElem?_take, List.getElem?_drop, Array.getElem?_toList, c3]
      by_cases hj : j < (n + m) * i.size
      · rw [if_pos hj]
        rw [Nat.add_mul] at hj
        by_cases hj2 : j < n * i.size
        · rw [if_neg (by omega), List.getElem?_append_left (by rw [hrow.1]; exact hj2), ← htake, List.getElem?_take, if_pos hj2, List.getElem?_drop, Array.getElem?_toList]
        · rw [if_pos (by omega), List.getElem?_append_right (by rw [hrow.1]; omega), hrow.1]
          congr 1
          omega
      · rw [if_neg hj, List.getElem?_eq_none (by rw [hlx]; omega)]
    · have hr := run_append_grow (P := P) w t ty e i z ht hi hz ⟨g, o, none⟩ n cap xs hrow.1 hcell ad m c news hl hcells (by omega) (by omega) (growslice_fits (by omega) hbytes)
      have hge := grownCap_ge w (n + m) cap e
      have hbl := heap_alloc_new w.drew (.cells (xs.toArray ++ news.toArray ++ Builtin.zeroCells z.cells (grownCap w (n + m) cap e - (n + m))) e)
      have hch : Chg (fun j => (Value.slice (some ⟨g, o, none⟩) n cap).ownBlock = some j) w (w.drew.alloc (.cells (xs.toArray ++ news.toArray ++ Builtin.zeroCells z.cells (grownCap w (n + m) cap e - (n + m))) e)) := Chg.of_below (((Below.refl _ _).drew).alloc (Nat.le_refl _) _)
      refine ⟨_, _, hr, ⟨hlx, Or.inr ⟨w.heap.size, 0, _, _, rfl, hbl, hge, grownCap_le_maxLen w (n + m) cap e h63, ?_, ?_⟩⟩, hch, Or.inr rfl, _, _, _, rfl⟩
      · rw [Array.size_append, Array.size_append, List.size_toArray, List.size_toArray]
        have hz2 : (Builtin.zeroCells z.cells (grownCap w (n + m) cap e - (n + m))).size = (grownCap w (n + m) cap e - (n + m)) * i.size := by rw [size_zeroCells, hzs]
        rw [hz2, hrow.1, hl, ← Nat.add_mul, ← Nat.add_mul]
        have : n + m + (grownCap w (n + m) cap e - (n + m)) = grownCap w (n + m) cap e := by omega
        rw [this]
        omega
      · rw [List.drop_zero, Array.toList_append, Array.toList_append, List.take_append_of_le_length (by simp [hrow.1, hl, Nat.add_mul])]
        rw [List.take_of_length_le (by simp [hrow.1, hl, Nat.add_mul])]
/-- As a step of a region that draws. -/
theorem step_appR {P : Program} {ops : Array Oper} {o : Oper} {a : Act} {w : World} {K : Act → World → Prop} {Q : Exit → Act → World → Prop} {E : Prop} (hgd : o.guard = none) (s y : Operand) (t : TypeId)
    (ho : o.op = .call { callee := .builtin .append, args := #[s, y], argTypes := #[t, t] })
    (e : TypeId) (i : TypeInfo) (z : Value) (size bytes : Nat) (ht : P.underlying t = some (.slice e)) (hi : P.info? e = some i) (hz : i.zero = some z)
    (hsize : i.size = size) (hby : i.bytes = bytes) (hzs : z.cells.size = size) (hsz : 0 < size)
    (v : Value) (n : Nat) (xs : List Value) (hs : a.eval s = v) (hrow : RowAt w e size v n xs)
    (ad : Addr) (m c : Nat) (news : List Value) (hx : a.eval y = .slice (some ad) m c) (hl : news.length = m * size) (hnews : ∀ j u, news[j]? = some u → w.cell? (ad.add j) = some u) (h1 : ∀ u ∈ news, u.oneCell' = true)
    (h63 : n + m ≤ maxLen) (hbytes : (n + m) * bytes ≤ 140737488355328) (hm : 0 < m)
    (hK : ∀ v' w', RowAt w' e size v' (n + m) (xs ++ news) → Chg (fun j => v.ownBlock = some j) w w' → (v'.ownBlock = v.ownBlock ∨ v'.ownBlock = some w.heap.size) → (∃ g o cap, v' = .slice (some ⟨g, o, none⟩) (n + m) cap) → K (a.put o.dst v') w') :
    if Region.wanted o (yielded ops a.tmps) = true then Oper.wp P o a w K Q else E := by
  have hw : Region.wanted o (yielded ops a.tmps) = true := by simp [Region.wanted, hgd]
  rw [if_pos hw]
  obtain ⟨v', w', hr, h2, h3, h4, h5⟩ := rowAt_app (P := P) w t o.type e i z size bytes ht hi hz hsize hby hzs hsz v n xs hrow ad m c news hl hnews h1 h63 hbytes hm
  unfold Oper.wp
  simp [execOp, ho, resolve, invoke, builtin, hs, hx, hr, Result.andThen]
  exact hK v' w' h2 h3 h4 h5
end Go.Proofs.YtlhlmgfblbpdpaaGreatDoor
/-
  Package ends: makeAnswer, makeReset.
-/
namespace Go.Proofs.YtlhlmgfblbpdpaaGreatDoor
set_option linter.unusedVariables false
set_option linter.unusedSimpArgs false
open Go.RowKit

/-- A frame was made, or there was none. -/
def MadeO (w w' : World) (eb mb : Nat) (g : GEnd) (o : Option GEnd) (e : Ending) : Prop := match o with
  | none => e = .returned (.bool false) ∧ Below w.heap.size w w'
  | some q => e = .returned (.bool true) ∧ ∃ g', g'.bare = q.bare ∧ Next w w' eb mb g g'

theorem own_shape {v : Value} {j : Nat} (h : v.ownBlock = some j) : ∃ a n c, v = .slice (some a) n c := by
  cases v with
  | slice s n c =>
    cases s with
    | none => simp [Value.ownBlock] at h
    | some a => exact ⟨a, n, c, rfl⟩
  | _ => simp [Value.ownBlock] at h
/-- The row but its first. -/
theorem RowAt.tail {w : World} {e : TypeId} {size n : Nat} {g o cap : Nat} {x xs : List Value} (hx : x.length = size) (h : RowAt w e size (.slice (some ⟨g, o, none⟩) (n + 1) cap) (n + 1) (x ++ xs)) : RowAt w e size (.slice (some ⟨g, o + size, none⟩) n (cap - 1)) n xs ∧ (cap = 1 → RowAt w e size (.slice (some ⟨g, o, none⟩) 0 0) n xs ∧ n = 0) := by
  obtain ⟨h0, h1⟩ := h
  rcases h1 with ⟨h1, -⟩ | ⟨g', o', cap', cur, h1, h3, h4, h5, h6, h7⟩
  · cases h1
  · simp only [Value.slice.injEq, Option.some.injEq, Addr.mk.injEq, and_true, true_and] at h1
    obtain ⟨⟨rfl, rfl⟩, rfl⟩ := h1
    rw [List.length_append, hx, Nat.add_mul, Nat.one_mul] at h0
    have hl : xs.length = n * size := by omega
    rw [Nat.add_mul, Nat.one_mul] at h7
    have h6' : o + size + (cap - 1) * size ≤ cur.size := by
      have e : cap * size = size + (cap - 1) * size := by
        have : cap = (cap - 1) + 1 := by omega
        rw [this, Nat.add_mul, Nat.one_mul, Nat.add_sub_cancel]
        omega
      omega
    have ht : (cur.toList.drop (o + size)).take (n * size) = xs := by
      have : ((cur.toList.drop o).take (n * size + size)).drop size = xs := by rw [h7, List.drop_left' hx]
      rw [List.drop_take, List.drop_drop, Nat.add_sub_cancel] at this
      exact this
    refine ⟨⟨hl, Or.inr ⟨g, o + size, cap - 1, cur, rfl, h3, by omega, by omega, h6', ht⟩⟩, fun hc => ?_⟩
    have hn : n = 0 := by omega
    subst hn
    refine ⟨⟨hl, Or.inr ⟨g, o, 0, cur, rfl, h3, Nat.le_refl _, Nat.zero_le _, by omega, ?_⟩⟩, rfl⟩
    rw [Nat.zero_mul, List.take_zero]
    rw [Nat.zero_mul] at hl
    exact (List.length_eq_zero_iff.1 hl).symm
theorem RowAt.cellAt {w : World} {e : TypeId} {size n : Nat} {g o cap : Nat} {xs : List Value} (h : RowAt w e size (.slice (some ⟨g, o, none⟩) n cap) n xs) {i : Nat} (hi : i < n * size) : w.cell? ⟨g, o + i, none⟩ = xs[i]? := by
  obtain ⟨h0, h1⟩ := h
  rcases h1 with ⟨h1, -⟩ | ⟨g', o', cap', cur, h1, h3, h4, h5, h6, h7⟩
  · cases h1
  · simp only [Value.slice.injEq, Option.some.injEq, Addr.mk.injEq, and_true, true_and] at h1
    obtain ⟨⟨rfl, rfl⟩, rfl⟩ := h1
    rw [cell_of_row w g _ _ _ _ h3, ← h7, List.getElem?_take, if_pos hi, List.getElem?_drop, Array.getElem?_toList]
theorem RowAt.shape {w : World} {e : TypeId} {size n : Nat} {v : Value} {xs : List Value} (h : RowAt w e size v (n + 1) xs) : ∃ g o cap, v = .slice (some ⟨g, o, none⟩) (n + 1) cap ∧ n + 1 ≤ cap ∧ cap ≤ maxLen ∧ g < w.heap.size := by
  rcases h.2 with ⟨_, h1⟩ | ⟨g', o', cap', cur, h1, h3, h4, h5, h6, h7⟩
  · omega
  · exact ⟨_, _, _, h1, h4, h5, lt_of_block h3⟩
theorem RowAt.len {w : World} {e : TypeId} {size n : Nat} {v : Value} {xs : List Value} (h : RowAt w e size v n xs) : ∃ s cap, v = .slice s n cap := by
  rcases h.2 with ⟨rfl, rfl⟩ | ⟨g', o', cap', cur, h1, h3, h4, h5, h6, h7⟩
  · exact ⟨_, _, rfl⟩
  · exact ⟨_, _, h1⟩

set_option maxRecDepth 100000 in
set_option maxHeartbeats 1600000 in
theorem i_makeAnswer (eb mb : Nat) (g : GEnd) (w : World) (h : Inv w eb mb g) (hf : Fine g) (hl : g.out.length ≤ 1073741824) :
    Calls Tryz.prog 61 #[.pointer (some ⟨eb, 0, none⟩)] w fun e w' => MadeO w w' eb mb g g.oAnswer e := by
  have c42 := h.en.c42
  cases ha : g.ans with
  | nil =>
    have hr := h.ans
    rw [ha] at hr
    obtain ⟨s, cap, hv⟩ := hr.len
    rw [hv] at c42
    have ho : g.oAnswer = none := by unfold GEnd.oAnswer; rw [ha]
    rw [ho]
    clear h hf ha hr hv ho
    go_enter Tryz.func61, Tryz.ntmps61
    go_wp2
    go_ret
    exact ⟨rfl, Below.refl _ _⟩
  | cons a r =>
    have hr := h.ans
    rw [ha, List.length_cons, List.flatMap_cons] at hr
    obtain ⟨ga, oa, ca, hv, hca, hcm, hga⟩ := hr.shape
    rw [hv] at c42 hr
    obtain ⟨ht1, ht2⟩ := RowAt.tail (x := a.cells) rfl hr
    have k0 : w.cell? ⟨ga, oa, none⟩ = some (.int .i64 a.kind) := by have := hr.cellAt (i := 0) (by omega); rw [Nat.add_zero] at this; rw [this]; rfl
    have k1 : w.cell? ⟨ga, oa + 1, none⟩ = some (.int .i64 a.flags) := by rw [hr.cellAt (i := 1) (by omega)]; rfl
    have k2 : w.cell? ⟨ga, oa + 2, none⟩ = some (.int .i64 0) := by rw [hr.cellAt (i := 2) (by omega)]; rfl
    have k3 : w.cell? ⟨ga, oa + 3, none⟩ = some a.bv := by rw [hr.cellAt (i := 3) (by omega)]; rfl
    have ham : a ∈ g.ans := by rw [ha]; exact List.mem_cons_self
    obtain ⟨f1, f2, f3, f4, f5⟩ := hf.ans a ham
    have hb := h.anb a ham
    obtain ⟨sa, cap, hbv⟩ := slice_len hb
    rw [hbv] at hb k3
    have HP := hide (en_put eb g.m g.out a.kind a.flags 0 sa a.body cap w h.en hf.greets h.out hl f1 f2 f3 f4 (by omega) (by omega) f5 (bytesIn_of_owns hb rfl))
    have ho : g.oAnswer = some { g with ans := r, out := g.out ++ lay a.kind a.flags 0 a.body } := by unfold GEnd.oAnswer; rw [ha]
    rw [ho]
    -- what is left behind the frame
    have HN : Hid (∀ (w1 : World) (v vt : Value), Put w w1 eb g.m g.out (lay a.kind a.flags 0 a.body) v → (vt.ownBlock = some ga) → RowAt w 99 4 vt r.length (r.flatMap Ans.cells) → MadeO w (w1.setCell ⟨eb, 42, none⟩ vt) eb mb g (some { g with ans := r, out := g.out ++ lay a.kind a.flags 0 a.body }) (.returned (.bool true))) := fun w1 v vt hp hvt hrow => by
      have hn := h.put rfl rfl rfl rfl rfl rfl hp
      have hrow1 : RowAt w1 99 4 vt r.length (r.flatMap Ans.cells) := hrow.chg hp.chg (fun j hj e => by
        rcases e with e | e
        · rw [e] at hj; exact hrow.ne h.en.blk (by decide) hj
        · exact rows_ne2 h.out hrow (by decide) e hj)
      have hn2 := hn.inv.onEnd (S := fun j => j = eb) (w' := w1.setCell ⟨eb, 42, none⟩ vt) (m' := { g.m with out := v, answers := vt }) (A' := r) (o' := g.out ++ lay a.kind a.flags 0 a.body) (R' := g.res) (chg_set (Chg.refl _ _) rfl) (fun j e => Or.inl e) (EnB.of (blk_set hp.b.blk) rfl) rfl rfl rfl
        (owns_chg hn.inv.out (chg_set (S := fun j => j = eb) (Chg.refl _ _) rfl) (fun j hj e => by rw [e] at hj; exact owns_ne hn.inv.out hn.inv.en.blk (by decide) hj)) (fun j hj => Or.inl hj) hrow1 (fun b hb => by rw [show ({ g with m := { g.m with out := v }, out := g.out ++ lay a.kind a.flags 0 a.body } : GEnd).ans = g.ans from rfl, ha]; exact List.mem_cons_of_mem _ hb) (fun j hj => by
          have e1 : ({ g.m with out := v, answers := vt } : EndM).answers.ownBlock = some ga := hvt
          rw [e1] at hj
          rw [← hj]
          show g.m.answers.ownBlock = _
          rw [hv]; rfl) hn.inv.res (fun j hj => hj)
      refine ⟨rfl, _, ?_, hn.trans hn2⟩
      obtain ⟨sx, lx, cx, hvx⟩ := own_shape hvt
      subst hvx
      unfold GEnd.bare EndM.bare
      simp only [hv]
      rfl
    have hlt := h.en.lt
    clear h hf ha hr ho hb ham
    have hn1 : 1 ≤ r.length + 1 := by omega
    by_cases hc1 : ca = 1
    · obtain ⟨ht3, hn0⟩ := ht2 hc1
      subst hc1
      have hr0 : r.length + 1 = 1 := by omega
      rw [hr0] at c42 hv
      have HT := hide ht3
      have HV := hide hv
      clear ht1 ht2 ht3 hv hbv hn0 hr0
      go_enter Tryz.func61, Tryz.ntmps61
      go_wp2_with fail
      refine HP.out.mono ?_
      rintro e w1 ⟨rfl, v, hp⟩
      have d42 : w1.cell? ⟨eb, 42, none⟩ = some (.slice (some ⟨ga, oa, none⟩) 1 1) := by rw [hp.b.c42]; exact congrArg some HV.out
      have f42 := hp.b.fr 42
      have HPP := hide hp
      clear hp
      go_wp2
      go_ret
      exact HN.out w1 v _ HPP.out rfl HT.out
    · have HT := hide ht1
      have HV := hide hv
      have hc2 : 1 ≤ ca := by omega
      clear ht1 ht2 hv hbv
      go_enter Tryz.func61, Tryz.ntmps61
      go_wp2_with fail
      refine HP.out.mono ?_
      rintro e w1 ⟨rfl, v, hp⟩
      have d42 : w1.cell? ⟨eb, 42, none⟩ = some (.slice (some ⟨ga, oa, none⟩) (r.length + 1) ca) := by rw [hp.b.c42]; exact congrArg some HV.out
      have f42 := hp.b.fr 42
      have HPP := hide hp
      clear hp
      go_wp2
      go_ret
      exact HN.out w1 v _ HPP.out rfl HT.out

set_option maxRecDepth 100000 in
set_option maxHeartbeats 1600000 in
theorem i_makeReset (eb mb : Nat) (g : GEnd) (w : World) (h : Inv w eb mb g) (hf : Fine g) (hl : g.out.length ≤ 1073741824) :
    Calls Tryz.prog 66 #[.pointer (some ⟨eb, 0, none⟩)] w fun e w' => MadeO w w' eb mb g g.oReset e := by
  have c43 := h.en.c43
  cases ha : g.res with
  | nil =>
    have hr := h.res
    rw [ha] at hr
    obtain ⟨s, cap, hv⟩ := hr.len
    rw [hv] at c43
    have ho : g.oReset = none := by unfold GEnd.oReset; rw [ha]
    rw [ho]
    clear h hf ha hr hv ho
    go_enter Tryz.func66, Tryz.ntmps66
    go_wp2
    go_ret
    exact ⟨rfl, Below.refl _ _⟩
  | cons a r =>
    have hr := h.res
    rw [ha, List.length_cons, List.map_cons] at hr
    obtain ⟨ga, oa, ca, hv, hca, hcm, hga⟩ := hr.shape
    rw [hv] at c43 hr
    obtain ⟨ht1, ht2⟩ := RowAt.tail (x := [.int .i64 a]) rfl hr
    have k0 : w.cell? ⟨ga, oa, none⟩ = some (.int .i64 a) := by have := hr.cellAt (i := 0) (by omega); rw [Nat.add_zero] at this; rw [this]; rfl
    have ham : a ∈ g.res := by rw [ha]; exact List.mem_cons_self
    obtain ⟨f1, f2⟩ := hf.res a ham
    have HP : Hid (∀ w0, Below w.heap.size w w0 → BytesIn w0 (.slice (some ⟨w.heap.size, 0, none⟩) 1 1) [0] → Calls Tryz.prog 81 #[.pointer (some ⟨eb, 0, none⟩), .agg #[.int .i64 2, .int .i64 0, .int .i64 a, .slice (some ⟨w.heap.size, 0, none⟩) 1 1]] w0 fun e w' => e = .returned (.tuple #[]) ∧ ∃ v, Put w w' eb g.m g.out (lay 2 0 a [0]) v) := fun w0 hb0 hby => by
      have h0 := h.below hb0
      refine (en_put eb g.m g.out 2 0 a _ [0] 1 w0 h0.en hf.greets h0.out hl (by omega) (by omega) (by omega) (by omega) f1 f2 (by decide) hby).mono ?_
      rintro e w' ⟨rfl, v, hp⟩
      exact ⟨rfl, v, hp.pre (w := w) (Chg.refl _ _) hb0⟩
    have ho : g.oReset = some { g with res := r, out := g.out ++ lay 2 0 a [0] } := by unfold GEnd.oReset; rw [ha]
    rw [ho]
    -- what is left behind the frame
    have HN : Hid (∀ (w1 : World) (v vt : Value), Put w w1 eb g.m g.out (lay 2 0 a [0]) v → (vt.ownBlock = some ga) → RowAt w 3 1 vt r.length (r.map fun i => .int .i64 i) → MadeO w (w1.setCell ⟨eb, 43, none⟩ vt) eb mb g (some { g with res := r, out := g.out ++ lay 2 0 a [0] }) (.returned (.bool true))) := fun w1 v vt hp hvt hrow => by
      have hn := h.put rfl rfl rfl rfl rfl rfl hp
      have hrow1 : RowAt w1 3 1 vt r.length (r.map fun i => .int .i64 i) := hrow.chg hp.chg (fun j hj e => by
        rcases e with e | e
        · rw [e] at hj; exact hrow.ne h.en.blk (by decide) hj
        · exact rows_ne2 h.out hrow (by decide) e hj)
      have hn2 := hn.inv.onEnd (S := fun j => j = eb) (w' := w1.setCell ⟨eb, 43, none⟩ vt) (m' := { g.m with out := v, resets := vt }) (A' := g.ans) (o' := g.out ++ lay 2 0 a [0]) (R' := r) (chg_set (Chg.refl _ _) rfl) (fun j e => Or.inl e) (EnB.of (blk_set hp.b.blk) rfl) rfl rfl rfl
        (owns_chg hn.inv.out (chg_set (S := fun j => j = eb) (Chg.refl _ _) rfl) (fun j hj e => by rw [e] at hj; exact owns_ne hn.inv.out hn.inv.en.blk (by decide) hj)) (fun j hj => Or.inl hj) hn.inv.ans (fun b hb => hb) (fun j hj => hj) hrow1 (fun j hj => by
          have e1 : ({ g.m with out := v, resets := vt } : EndM).resets.ownBlock = some ga := hvt
          rw [e1] at hj
          rw [← hj]
          show g.m.resets.ownBlock = _
          rw [hv]; rfl)
      refine ⟨rfl, _, ?_, hn.trans hn2⟩
      obtain ⟨sx, lx, cx, hvx⟩ := own_shape hvt
      subst hvx
      unfold GEnd.bare EndM.bare
      simp only [hv]
      rfl
    have hlt := h.en.lt
    clear h hf ha hr ho ham
    have hn1 : 1 ≤ r.length + 1 := by omega
    by_cases hc1 : ca = 1
    · obtain ⟨ht3, hn0⟩ := ht2 hc1
      subst hc1
      have hr0 : r.length + 1 = 1 := by omega
      rw [hr0] at c43 hv
      have HT := hide ht3
      have HV := hide hv
      clear ht1 ht2 ht3 hv hn0 hr0
      go_enter Tryz.func66, Tryz.ntmps66
      go_wp2_with fail
      refine (HP.out _ ?b1 ?b2).mono ?_
      case b1 => exact (Below.refl _ _).alloc (Nat.le_refl _) _
      case b2 => exact Or.inr ⟨_, 0, 1, rfl, by simp, by simp, fun i hi => by have : i = 0 := (by simpa using hi); subst this; exact one_alloc _ _ _⟩
      rintro e w1 ⟨rfl, v, hp⟩
      have d43 : w1.cell? ⟨eb, 43, none⟩ = some (.slice (some ⟨ga, oa, none⟩) 1 1) := by rw [hp.b.c43]; exact congrArg some HV.out
      have f43 := hp.b.fr 43
      have HPP := hide hp
      clear hp
      go_wp2
      go_ret
      exact HN.out w1 v _ HPP.out rfl HT.out
    · have HT := hide ht1
      have HV := hide hv
      have hc2 : 1 ≤ ca := by omega
      clear ht1 ht2 hv
      go_enter Tryz.func66, Tryz.ntmps66
      go_wp2_with fail
      refine (HP.out _ ?b1 ?b2).mono ?_
      case b1 => exact (Below.refl _ _).alloc (Nat.le_refl _) _
      case b2 => exact Or.inr ⟨_, 0, 1, rfl, by simp, by simp, fun i hi => by have : i = 0 := (by simpa using hi); subst this; exact one_alloc _ _ _⟩
      rintro e w1 ⟨rfl, v, hp⟩
      have d43 : w1.cell? ⟨eb, 43, none⟩ = some (.slice (some ⟨ga, oa, none⟩) (r.length + 1) ca) := by rw [hp.b.c43]; exact congrArg some HV.out
      have f43 := hp.b.fr 43
      have HPP := hide hp
      clear hp
      go_wp2
      go_ret
      exact HN.out w1 v _ HPP.out rfl HT.out
end Go.Proofs.YtlhlmgfblbpdpaaGreatDoor
/-
  Package ends: an answer more; a Ping comes.
-/
namespace Go.Proofs.YtlhlmgfblbpdpaaGreatDoor
set_option linter.unusedVariables false
set_option linter.unusedSimpArgs false
open Go.RowKit

set_option maxRecDepth 100000 in
set_option maxHeartbeats 1600000 in
theorem answer_any (eb mb : Nat) (g : GEnd) (x0 x1 : Int) (sb : Option Addr) (len cb : Nat) (w : World) (h : Inv w eb mb g) (hn : g.ans.length < 8) :
    Calls Tryz.prog 109 #[.pointer (some ⟨eb, 0, none⟩), .agg #[.int .i64 x0, .int .i64 x1, .int .i64 0, .slice sb len cb]] w fun e w' => e = .returned (.tuple #[]) ∧ ∃ gr go cr, EnB w' eb { g.m with answers := .slice (some ⟨gr, go, none⟩) (g.ans.length + 1) cr } ∧ RowAt w' 99 4 (.slice (some ⟨gr, go, none⟩) (g.ans.length + 1) cr) (g.ans.length + 1) (g.ans.flatMap Ans.cells ++ [.int .i64 x0, .int .i64 x1, .int .i64 0, .slice sb len cb]) ∧ Chg (fun j => j = eb ∨ g.m.answers.ownBlock = some j) w w' ∧ (g.m.answers.ownBlock = some gr ∨ w.heap.size ≤ gr) := by
  obtain ⟨i0, hi, hz0, hz1, hz2⟩ := info_parts Tryz.info99
  have c42 := h.en.c42
  obtain ⟨sa, ca, hv⟩ := h.ans.len
  have hrow := h.ans
  rw [hv] at c42 hrow
  rw [hv]
  have f42 := h.en.fr 42
  have hlt := h.en.lt
  have hne : (Value.slice sa g.ans.length ca).ownBlock ≠ some eb := by rw [← hv]; exact h.ans.ne h.en.blk (by decide)
  have HNE := hide hne
  have H := hide h.en
  have HROW : Hid (RowAt ((w.alloc (.cells #[.int .i64 x0, .int .i64 x1, .int .i64 0, .slice sb len cb] 99)).alloc (.cells #[.int .i64 x0, .int .i64 x1, .int .i64 0, .slice sb len cb] 99)).drew 99 4 (.slice sa g.ans.length ca) g.ans.length (g.ans.flatMap Ans.cells)) := hrow.chg (S := fun _ => False) (((Chg.refl (fun _ => False) w).alloc _).alloc _).drew (fun _ _ => id)
  have HLIE : Hid (∀ j u, ([.int .i64 x0, .int .i64 x1, .int .i64 0, .slice sb len cb] : List Value)[j]? = some u → ((w.alloc (.cells #[.int .i64 x0, .int .i64 x1, .int .i64 0, .slice sb len cb] 99)).alloc (.cells #[.int .i64 x0, .int .i64 x1, .int .i64 0, .slice sb len cb] 99)).drew.cell? ((⟨w.heap.size + 1, 0, none⟩ : Addr).add j) = some u) := fun j u hu => by
    have q := lies_row (w := w.alloc (.cells #[.int .i64 x0, .int .i64 x1, .int .i64 0, .slice sb len cb] 99)) (xs := [.int .i64 x0, .int .i64 x1, .int .i64 0, .slice sb len cb]) (t := 99) j u hu
    rw [show (w.alloc (.cells #[.int .i64 x0, .int .i64 x1, .int .i64 0, .slice sb len cb] 99)).heap.size = w.heap.size + 1 from by simp] at q
    exact q
  have hlen : (g.ans.length : Int) < 8 := by omega
  obtain ⟨m0, hm0⟩ : ∃ m0, m0 = g.m := ⟨_, rfl⟩
  rw [← hm0] at H ⊢
  generalize g.ans.flatMap Ans.cells = xs at *
  generalize g.ans.length = n at *
  clear h hv hrow hne hm0
  go_enter Tryz.func109, Tryz.ntmps109
  go_upto_region 3 with fail
  go_region_law (first
    | (refine step_appR rfl (.tmp 17) (.tmp 19) 83 rfl 99 i0 (.agg #[.int .i64 0, .int .i64 0, .int .i64 0, .slice none 0 0]) 4 48 Tryz.underlying83 hi hz0 hz1 hz2 rfl (by decide) (.slice sa n ca) n xs (by simp [Act.eval, Act.put]) HROW.out ⟨w.heap.size + 1, 0, none⟩ 1 1 [.int .i64 x0, .int .i64 x1, .int .i64 0, .slice sb len cb] (by simp [Act.eval, Act.put]) rfl HLIE.out (by intro u hu; simp only [List.mem_cons, List.not_mem_nil, or_false] at hu; rcases hu with rfl | rfl | rfl | rfl <;> rfl) (by unfold maxLen; omega) (by omega) (by decide) ?_; intro v3 w3 ho3 hg3 hfr3 hsh3; obtain ⟨gr, go, cr, hv3⟩ := hsh3; subst hv3; have hcg : Chg (fun j => (Value.slice sa n ca).ownBlock = some j) w w3 := (((Chg.refl (fun j => (Value.slice sa n ca).ownBlock = some j) w).alloc (.cells #[.int .i64 x0, .int .i64 x1, .int .i64 0, .slice sb len cb] 99)).alloc (.cells #[.int .i64 x0, .int .i64 x1, .int .i64 0, .slice sb len cb] 99)).drew.trans (hg3.mono fun j _ e => Or.inr e); have k42 : w3.cell? ⟨eb, 42, none⟩ = some (.slice sa n ca) := (by rw [hcg.cell (p := ⟨eb, 42, none⟩) hlt HNE.out]; exact c42); have g42 : w3.frozen? ⟨eb, 42, none⟩ = false := (by rw [hcg.frozen (p := ⟨eb, 42, none⟩) hlt HNE.out]; exact f42); have HO3 := hide ho3; have HCG := hide hcg; have HF3 := hide hfr3; clear ho3 hg3 hfr3 hcg))
  all_goals go_wp2
  all_goals
    have hE3 : EnB w3 eb m0 := H.out.chg HCG.out HNE.out
    have hset : Chg (fun j => j = eb) w3 (w3.setCell ⟨eb, 42, none⟩ (.slice (some ⟨gr, go, none⟩) (n + 1) cr)) := chg_set (Chg.refl _ _) rfl
    refine bodyPost_end (results_none rfl _ _ _) rfl ⟨rfl, gr, go, cr, EnB.of (blk_set hE3.blk) rfl, HO3.out.chg hset (fun j hj e => by rw [e] at hj; exact HO3.out.ne hE3.blk (by decide) hj), (HCG.out.mono fun _ _ e => Or.inr e).trans (hset.mono fun j _ e => Or.inr (Or.inl e)), ?_⟩
    rcases HF3.out with e | e
    · exact Or.inl e.symm
    · refine Or.inr ?_
      simp [Value.ownBlock] at e
      omega
/-- With an answer more. -/
theorem Inv.answers {w w' : World} {eb mb : Nat} {g : GEnd} {v : Value} {a : Ans} (h : Inv w eb mb g) (hc : Chg (fun j => j = eb ∨ g.m.answers.ownBlock = some j) w w') (hen : EnB w' eb { g.m with answers := v }) (hr : RowAt w' 99 4 v (g.ans.length + 1) (g.ans.flatMap Ans.cells ++ a.cells)) (hfr : ∀ j, v.ownBlock = some j → g.m.answers.ownBlock = some j ∨ w.heap.size ≤ j)
    (hb : w.ownsRow 0 5 1 a.bv a.body.length (a.body.map B)) (hbn : ∀ j, a.bv.ownBlock = some j → ¬ Foot eb mb g j) {w0 : World} {g0 : GEnd} (hn0 : Next w0 w eb mb g0 g) (hb0 : ∀ j, a.bv.ownBlock = some j → Foot eb mb g0 j ∨ w0.heap.size ≤ j) :
    Next w0 w' eb mb g0 { g with m := { g.m with answers := v }, ans := g.ans ++ [a] } := by
  have hrow : ∀ {k : Nat} {v' : Value} {xs : List Value} {ty : TypeId}, ty ≠ 91 → ty ≠ 99 → w.ownsRow 0 ty 1 v' k xs → w'.ownsRow 0 ty 1 v' k xs := fun hne hne2 hr => owns_chg hr hc (fun j hj e => by
    rcases e with e | e
    · rw [e] at hj; exact owns_ne hr h.en.blk hne hj
    · exact rows_ne2 hr h.ans hne2 hj e)
  have hmb : g.m.answers.ownBlock ≠ some mb := rowAt_mb h.kn h.ans
  refine ⟨⟨hen, h.kn.chg hc ?_ (fun p hp => ?_), h.km, h.nd, h.nn, h.ln, h.has, hrow (by decide) (by decide) h.row, hrow (by decide) (by decide) h.out, hrow (by decide) (by decide) h.got, fun p hp => hrow (by decide) (by decide) (h.un p hp), fun p hp => hrow (by decide) (by decide) (h.wa p hp), ?_, ?_, ?_, ?_⟩, hn0.chg.trans (hc.mono fun j _ e => ?_), ?_⟩
  · rintro (e | e)
    · exact h.eb_mb e
    · exact hmb e
  · obtain ⟨q, hq, rfl⟩ := List.mem_map.1 hp
    rintro (e | e)
    · exact h.st_eb hq e
    · exact h.ans.ne (h.st hq).blk (by decide) e
  · show RowAt w' 99 4 v (g.ans ++ [a]).length ((g.ans ++ [a]).flatMap Ans.cells)
    rw [List.length_append, List.flatMap_append]
    simpa using hr
  · intro b hbm
    rcases List.mem_append.1 hbm with hbm | hbm
    · exact hrow (by decide) (by decide) (h.anb b hbm)
    · rw [List.mem_singleton.1 hbm]
      exact hrow (by decide) (by decide) hb
  · refine h.res.chg hc (fun j hj e => ?_)
    rcases e with e | e
    · rw [e] at hj; exact h.res.ne h.en.blk (by decide) hj
    · exact rows_ne3 h.ans h.res (by decide) e hj
  · obtain ⟨T, hT⟩ := h.ap
    have hoff : ∀ j, Foot eb mb g j → (if a.bv.ownBlock = some j then 2 else T j) = T j := fun j hf => if_neg (fun e => hbn j e hf)
    refine ⟨fun j => if a.bv.ownBlock = some j then 2 else T j, ⟨fun j hj => ?_, fun j hj => ?_, fun p hp j hj => ?_, fun p hp j hj => ?_, fun b hbm j hj => ?_⟩⟩
    · rw [hoff j (Or.inr (Or.inr (Or.inl hj)))]; exact hT.out j hj
    · rw [hoff j (Or.inr (Or.inr (Or.inr (Or.inl hj))))]; exact hT.got j hj
    · rw [hoff j (foot_un (g := g) hp hj)]; exact hT.un p hp j hj
    · rw [hoff j (foot_wa (g := g) hp hj)]; exact hT.wa p hp j hj
    · rcases List.mem_append.1 hbm with hbm | hbm
      · rw [hoff j (Or.inr (Or.inr (Or.inr (Or.inr (Or.inr (Or.inr (Or.inr (Or.inl ⟨b, hbm, hj⟩))))))))]; exact hT.an b hbm j hj
      · rw [List.mem_singleton.1 hbm] at hj
        rw [if_pos hj]
  · have hf : Foot eb mb g j := by
      rcases e with e | e
      · exact Or.inl e
      · exact Or.inr (Or.inr (Or.inr (Or.inr (Or.inr (Or.inl e)))))
    rcases hn0.grow j hf with a | a
    · exact Or.inr a
    · exact Or.inl a
  · intro j hj
    have hold : Foot eb mb g j → Foot eb mb g0 j ∨ w0.heap.size ≤ j := hn0.grow j
    rcases hj with e | e | e | e | e | e | e | ⟨b, hbm, e⟩ | e
    · exact hold (Or.inl e)
    · exact hold (Or.inr (Or.inl e))
    · exact hold (Or.inr (Or.inr (Or.inl e)))
    · exact hold (Or.inr (Or.inr (Or.inr (Or.inl e))))
    · exact hold (Or.inr (Or.inr (Or.inr (Or.inr (Or.inl e)))))
    · rcases hfr j e with a | a
      · exact hold (Or.inr (Or.inr (Or.inr (Or.inr (Or.inr (Or.inl a))))))
      · exact Or.inr (Nat.le_trans hn0.chg.size a)
    · exact hold (Or.inr (Or.inr (Or.inr (Or.inr (Or.inr (Or.inr (Or.inl e)))))))
    · rcases List.mem_append.1 hbm with hbm | hbm
      · exact hold (Or.inr (Or.inr (Or.inr (Or.inr (Or.inr (Or.inr (Or.inr (Or.inl ⟨b, hbm, e⟩))))))))
      · rw [List.mem_singleton.1 hbm] at e
        exact hb0 j e
    · exact hold (Or.inr (Or.inr (Or.inr (Or.inr (Or.inr (Or.inr (Or.inr (Or.inr e))))))))
set_option maxRecDepth 100000 in
set_option maxHeartbeats 800000 in
/-- A Ping that wants an answer. -/
theorem comePing_any (eb mb : Nat) (g : GEnd) (f nv : Int) (sv : Option Addr) (cb : Nat) (body : List UInt8) (w : World) (h : Inv w eb mb g) (hf : 0 ≤ f ∧ f ≤ 255) (hak : hasB f 1 = false) (hn : g.ans.length < 8) (hb : w.ownsRow 0 5 1 (.slice sv body.length cb) body.length (body.map B)) (hbn : ∀ j, (Value.slice sv body.length cb).ownBlock = some j → ¬ Foot eb mb g j) {w0 : World} {g0 : GEnd} (hn0 : Next w0 w eb mb g0 g) (hb0 : ∀ j, (Value.slice sv body.length cb).ownBlock = some j → Foot eb mb g0 j ∨ w0.heap.size ≤ j) :
    Calls Tryz.prog 79 #[.pointer (some ⟨eb, 0, none⟩), .agg #[.int .i64 4, .int .i64 f, .int .i64 0, .slice sv body.length cb, .int .u32 nv]] w fun e w' => e = .returned (.tuple #[]) ∧ ∃ g', g'.bare = ({ g with m := { g.m with answers := .tuple #[] }, ans := g.ans ++ [⟨4, 1, body, .slice none 0 0⟩] } : GEnd).bare ∧ Next w0 w' eb mb g0 g' := by
  obtain ⟨len, hle⟩ : ∃ len, len = body.length := ⟨_, rfl⟩
  have hbA : Below w.heap.size w (w.alloc (.cells #[.int .i64 4, .int .i64 f, .int .i64 0, .slice sv body.length cb, .int .u32 nv] 151)) := (Below.refl _ _).alloc (Nat.le_refl _) _
  have hnew := heap_alloc_new w (.cells #[.int .i64 4, .int .i64 f, .int .i64 0, .slice sv body.length cb, .int .u32 nv] 151)
  have HH : Hid (∀ w, Calls Tryz.prog 76 #[.agg #[.int .i64 4, .int .i64 f, .int .i64 0, .slice sv body.length cb], .int .i64 1] w fun e w' => e = .returned (.bool false) ∧ Below w.heap.size w w') := fun w => by
    have := has_any 4 f 0 1 (.slice sv body.length cb) w hf.1 (by omega) (Or.inl rfl)
    rw [hak] at this
    exact this
  have HA : Hid (∀ w1, Below w.heap.size w w1 → Calls Tryz.prog 109 #[.pointer (some ⟨eb, 0, none⟩), .agg #[.int .i64 4, .int .i64 1, .int .i64 0, .slice sv body.length cb]] w1 fun e w' => e = .returned (.tuple #[]) ∧ ∃ g', g'.bare = ({ g with m := { g.m with answers := .tuple #[] }, ans := g.ans ++ [⟨4, 1, body, .slice none 0 0⟩] } : GEnd).bare ∧ Next w0 w' eb mb g0 g') := fun w1 hb1 => by
    have h1 := h.below hb1
    refine (answer_any eb mb g 4 1 sv body.length cb w1 h1 hn).mono ?_
    rintro e w' ⟨rfl, gr, go, cr, hen, hrow, hch, hfr⟩
    refine ⟨rfl, { g with m := { g.m with answers := .slice (some ⟨gr, go, none⟩) (g.ans.length + 1) cr }, ans := g.ans ++ [⟨4, 1, body, .slice sv body.length cb⟩] }, ?_, ?_⟩
    · unfold GEnd.bare
      simp only [GEnd.mk.injEq, true_and, and_true]
      refine ⟨rfl, ?_⟩
      rw [List.map_append, List.map_append]
      rfl
    · refine h1.answers (a := ⟨4, 1, body, .slice sv body.length cb⟩) hch hen hrow (fun j hj => ?_) (owns_chg hb (Chg.of_below (S := fun _ => False) hb1) (fun _ _ => id)) hbn (hn0.then_below hb1) hb0
      simp [Value.ownBlock] at hj
      subst hj
      exact hfr
  have HB := hide hbA
  have HC3 : Hid (∀ w1, Below (w.alloc (.cells #[.int .i64 4, .int .i64 f, .int .i64 0, .slice sv body.length cb, .int .u32 nv] 151)).heap.size (w.alloc (.cells #[.int .i64 4, .int .i64 f, .int .i64 0, .slice sv body.length cb, .int .u32 nv] 151)) w1 → w1.cell? ⟨w.heap.size, 3, none⟩ = some (.slice sv body.length cb)) := fun w1 hb1 => by
    rw [cell_of_row _ _ _ _ _ _ (kept_told hnew hb1)]
    rfl
  clear h hf hak hn hb hbn hn0 hb0 hbA hnew
  rw [← hle] at *
  clear hle
  go_enter Tryz.func79, Tryz.ntmps79
  go_wp2_with fail
  refine (HH.out _).mono ?_
  rintro e w1 ⟨rfl, hb1⟩
  have k3 := HC3.out w1 hb1
  have HB1 : Hid (Below w.heap.size w w1) := HB.out.trans (hb1.mono HB.out.size)
  clear hb1
  go_wp2_with fail
  refine (HA.out w1 HB1.out).mono ?_
  rintro e w2 ⟨rfl, hx⟩
  have HX := hide hx
  clear hx
  go_wp2
  exact bodyPost_end (results_none rfl _ _ _) rfl ⟨rfl, HX.out⟩
end Go.Proofs.YtlhlmgfblbpdpaaGreatDoor
/-
  Package ends: comeData, of Data that may be padded.
-/
namespace Go.Proofs.YtlhlmgfblbpdpaaGreatDoor
set_option linter.unusedVariables false
set_option linter.unusedSimpArgs false
open Go.RowKit

/-- The value of Data, and its content. -/
def dataP (f n : Int) (sv : Option Addr) (len cb : Nat) (sc : Option Addr) (cl cc : Nat) : Value := .agg #[.int .i64 0, .int .i64 f, .int .i64 n, .slice sv len cb, .slice sc cl cc]
/-- Content is laid down to be read; what pads it is owed. -/
def GSt.morep (s : GSt) (n k : Nat) (c : List UInt8) (e : Bool) : GSt := { s with st := { s.st with receive := s.st.receive - n, owed := s.st.owed + k, hasAll := e }, un := s.un ++ c }
set_option maxRecDepth 100000 in
set_option maxHeartbeats 1200000 in
/-- Data for a stream that is open. -/
theorem comeData_pad (eb mb : Nat) (g : GEnd) (s : GSt) (f : Int) (sv : Option Addr) (len cb : Nat) (sc : Option Addr) (c : List UInt8) (cc k : Nat) (w : World) (h : Inv w eb mb g) (hs : s ∈ g.K) (ha : s.st.announced = true) (hh : s.st.hasAll = false) (hr : s.st.reset = 0) (hf : 0 ≤ f ∧ f ≤ 255) (hcl : ({ s.st with hasAll := hasB f 1 } : StM).closed = false) (hbd : BytesIn w (.slice sc c.length cc) c) (hbn : ∀ j, (Value.slice sc c.length cc).ownBlock = some j → ¬ Foot eb mb g j) (hlk : len = c.length + k) (hlen : len ≤ 1073741824) (hun : s.un.length ≤ 1073741824) (hfl : len = 0 ∨ ((len : Int) ≤ g.m.receive ∧ (len : Int) ≤ g.m.own + s.st.receive))
    (b1 : -1099511627776 ≤ g.m.receive ∧ g.m.receive ≤ 1099511627776) (b2 : -1099511627776 ≤ g.m.owed ∧ g.m.owed ≤ 1099511627776) (b3 : 0 ≤ g.m.count ∧ g.m.count ≤ 1099511627776) (b4 : -1099511627776 ≤ g.m.own ∧ g.m.own ≤ 1099511627776) (b5 : -1099511627776 ≤ s.st.receive ∧ s.st.receive ≤ 1099511627776) (b6 : -1099511627776 ≤ s.st.owed ∧ s.st.owed ≤ 1099511627776) :
    Calls Tryz.prog 73 #[.pointer (some ⟨eb, 0, none⟩), dataP f s.st.number sv len cb sc c.length cc] w fun e w' => e = .returned (.tuple #[]) ∧ ∃ g', g'.bare = ({ g with m := (g.m.got_ len).owes k, K := updN s.st.number (fun s => s.morep len k c (hasB f 1)) g.K } : GEnd).bare ∧ Next w w' eb mb g g' := by
  have hbA : Below w.heap.size w (w.alloc (.cells #[.int .i64 0, .int .i64 f, .int .i64 s.st.number, .slice sv len cb, .slice sc c.length cc] 136)) := (Below.refl _ _).alloc (Nat.le_refl _) _
  have hnew := heap_alloc_new w (.cells #[.int .i64 0, .int .i64 f, .int .i64 s.st.number, .slice sv len cb, .slice sc c.length cc] 136)
  obtain ⟨wA, hwA⟩ : ∃ wA, wA = w.alloc (.cells #[.int .i64 0, .int .i64 f, .int .i64 s.st.number, .slice sv len cb, .slice sc c.length cc] 136) := ⟨_, rfl⟩
  have hA := h.below hbA
  have han := announced_any eb mb g.m _ s.st.number _ hA.en h.km hA.kn
  rw [hA.find hs] at han
  simp only [GSt.str, ha, if_true] at han
  have hir := isReset_any s.sb s.st _ (hA.st hs)
  rw [show (!(s.st.reset == 0)) = false from by rw [hr]; rfl] at hir
  rw [← hwA] at hbA hA han hir hnew
  have HAN := hide han
  have HIR := hide hir
  have HRW := hide (receiveWindow_any eb s.sb g.m s.st wA hA.en (hA.st hs) (by omega) (by omega) (by omega) (by omega))
  have k9 := (hA.st hs).c9
  rw [hh] at k9
  have k10 := (hA.st hs).c10
  rw [hr] at k10
  have n2 : wA.cell? ⟨w.heap.size, 2, none⟩ = some (.int .i64 s.st.number) := by rw [cell_of_row _ _ _ _ _ _ hnew]; rfl
  have n3 : wA.cell? ⟨w.heap.size, 3, none⟩ = some (.slice sv len cb) := by rw [cell_of_row _ _ _ _ _ _ hnew]; rfl
  obtain ⟨b1a, b1b⟩ := b1
  obtain ⟨b2a, b2b⟩ := b2
  obtain ⟨hq1, hq2, hq3, hq4, hq5, hq6, hq7, hq8⟩ := counted_same { g.m with receive := g.m.receive - len } len
  have hsne := hA.st_eb hs
  -- behind the checks: at a world that is wA but for new blocks
  have HCELL : Hid (∀ wx, Below wA.heap.size wA wx → wx.cell? ⟨eb, 5, none⟩ = some (.int .i64 g.m.receive) ∧ wx.frozen? ⟨eb, 5, none⟩ = false ∧ (Calls Tryz.prog 99 #[.pointer (some ⟨eb, 13, none⟩), .int .i64 len] (wx.setCell ⟨eb, 5, none⟩ (.int .i64 (g.m.receive - len))) fun e w' => e = .returned (.tuple #[]) ∧ EnB w' eb (g.m.got_ len) ∧ Chg (fun j => j = eb) wA w')) := fun wx hx => by
    have hX := hA.below hx
    refine ⟨hX.en.c5, hX.en.fr 5, ?_⟩
    have hen5 : EnB (wx.setCell ⟨eb, 5, none⟩ (.int .i64 (g.m.receive - len))) eb { g.m with receive := g.m.receive - len } := EnB.of (blk_set hX.en.blk) rfl
    refine (tcount_any eb { g.m with receive := g.m.receive - len } len _ hen5 b3.1 (by have := b3.2; show g.m.count ≤ _; omega) (by omega) (by omega)).mono ?_
    rintro e w' ⟨h1, h2, h3⟩
    exact ⟨h1, h2, (chg_set (S := fun j => j = eb) (Chg.of_below hx) rfl).trans (h3.mono fun j _ e => Or.inr e)⟩
  have HIR2 : Hid (∀ w1, Chg (fun j => j = eb) wA w1 → Calls Tryz.prog 58 #[.pointer (some ⟨s.sb, 0, none⟩)] w1 fun e w' => e = .returned (.bool false) ∧ w' = w1) := fun w1 hc => by
    have := isReset_any s.sb s.st w1 ((hA.st hs).chg hc hsne)
    rw [show (!(s.st.reset == 0)) = false from by rw [hr]; rfl] at this
    exact this
  have HBOX : Hid (∀ w1, Chg (fun j => j = eb) wA w1 → w1.heap[w.heap.size]? = some (.cells #[.int .i64 0, .int .i64 f, .int .i64 s.st.number, .slice sv len cb, .slice sc c.length cc] 136 (0, 0))) := fun w1 hc => by
    rw [hc.block _ (lt_of_block hnew) (by have := h.en.lt; omega)]
    exact hnew
  have HKEEP : Hid (∀ w1, EnB w1 eb (g.m.got_ len) → Chg (fun j => j = eb) wA w1 → Calls Tryz.prog 100 #[.pointer (some ⟨eb, 0, none⟩), .pointer (some ⟨s.sb, 0, none⟩), .agg #[.int .i64 0, .int .i64 f, .int .i64 s.st.number, .slice sv len cb, .slice sc c.length cc]] w1 fun e w' => e = .returned (.tuple #[]) ∧ ∃ g', g'.bare = ({ g with m := (g.m.got_ len).owes k, K := updN s.st.number (fun s => s.morep len k c (hasB f 1)) g.K } : GEnd).bare ∧ Next w w' eb mb g g') := fun w1 he hc => by
    have hs1 := (hA.st hs).chg hc hsne
    have hu1 := owns_chg (hA.un s hs) hc (fun j hj e => by rw [e] at hj; exact owns_ne (hA.un s hs) hA.en.blk (by decide) hj)
    have hcw : Chg (fun j => j = eb) w w1 := (Chg.of_below hbA).trans (hc.mono fun j _ e => Or.inr e)
    have hby1 : BytesIn w1 (.slice sc c.length cc) c := hbd.chg hcw (fun j hj e => hbn j hj (Or.inl e))
    refine (keep_any eb s.sb (g.m.got_ len) s.st s.un c 0 f s.st.number sv len k cb sc cc w1 he hs1 hu1 hby1 (fun j hj => ⟨fun e => hbn j hj (Or.inl e), fun e => hbn j hj (by rw [e]; exact h.foot_st hs)⟩) hlk hf hcl hun (by omega) (by omega) (by rw [show (g.m.got_ len).owed = g.m.owed from hq7]; omega) (by omega) (by omega)).mono ?_
    rintro e w' ⟨rfl, v, hk⟩
    refine ⟨rfl, ?_⟩
    have hen' : EnB w' eb ((g.m.got_ len).owes k) := hk.en
    have hcc : Chg (fun j => j = eb ∨ j = s.sb ∨ s.st.unread.ownBlock = some j) w w' := (hcw.mono fun j _ e => Or.inl e).trans (hk.chg.mono fun j _ e => Or.inr e)
    have keep : ∀ {k : Nat} {v' : Value} {xs : List Value} {ty : TypeId}, w.ownsRow 0 ty 1 v' k xs → (∀ j, v'.ownBlock = some j → j ≠ eb ∧ j ≠ s.sb ∧ s.st.unread.ownBlock ≠ some j) → w'.ownsRow 0 ty 1 v' k xs := fun hr hj => owns_chg hr hcc (fun j hjj e => by
      obtain ⟨a, b, c⟩ := hj j hjj
      rcases e with e | e | e
      · exact a e
      · exact b e
      · exact c e)
    refine ⟨_, ?_, h.onSt (S := fun j => j = eb ∨ j = s.sb ∨ s.st.unread.ownBlock = some j) (m' := (g.m.got_ len).owes k) (s := s) (s' := ⟨s.sb, s.st.kept len k v (hasB f 1), s.un ++ c, s.wa⟩) (L' := g.L) (o' := g.out) (3 + 2 * s.sb) hs hcc ?_ hen' hk.st rfl rfl hq1 hq3 hq5 hq6 ?_ (fun j hj => Or.inl (by rw [← hq2]; exact hj)) (List.Sublist.refl _) ?_ (fun j hj => Or.inl (by rw [← hq4]; exact hj)) hk.row ?_ ?_ (fun j hj => Or.inl hj)⟩
    · unfold GEnd.bare
      simp only [GEnd.mk.injEq, true_and, and_true]
      rw [updN, updN, List.map_map, List.map_map]
      apply List.map_congr_left
      intro x hx
      show (if x.st.number = s.st.number then _ else x).bare = (if x.st.number = s.st.number then _ else x).bare
      by_cases e : x.st.number = s.st.number
      · rw [if_pos e, if_pos e, inj_nd (fun s : GSt => s.st.number) h.nn hx hs e]
        unfold GSt.bare GSt.morep StM.bare StM.kept
        simp
      · rw [if_neg e, if_neg e]
    · rintro j (e | e | e)
      · exact Or.inl e
      · exact Or.inr (Or.inl e)
      · exact Or.inr (Or.inr (Or.inr (Or.inr (Or.inl e))))
    · rw [show ((g.m.got_ len).owes k).opn = g.m.opn from hq2]
      exact keep h.row (fun j hj => ⟨fun e => by rw [e] at hj; exact owns_ne h.row h.en.blk (by decide) hj, fun e => by rw [e] at hj; exact owns_ne h.row (h.st hs).blk (by decide) hj, fun e => rows_ne (h.un s hs) h.row (by decide) e hj⟩)
    · rw [show ((g.m.got_ len).owes k).out = g.m.out from hq4]
      exact keep h.out (fun j hj => ⟨fun e => by rw [e] at hj; exact owns_ne h.out h.en.blk (by decide) hj, fun e => by rw [e] at hj; exact owns_ne h.out (h.st hs).blk (by decide) hj, fun e => h.out_un hs e hj⟩)
    · intro j hj
      rcases hk.fresh j hj with a | a
      · exact Or.inl a
      · exact Or.inr ⟨Nat.le_trans hcw.size a, rfl⟩
    · exact keep (h.wa s hs) (fun j hj => ⟨fun e => by rw [e] at hj; exact owns_ne (h.wa s hs) h.en.blk (by decide) hj, fun e => by rw [e] at hj; exact owns_ne (h.wa s hs) (h.st hs).blk (by decide) hj, fun e => h.un_wa hs hs e hj⟩)
  have hlt : eb < wA.heap.size := hA.en.lt
  have hw1 : IntKind.i64.wrap (g.m.receive - (len : Int)) = g.m.receive - len := by rw [IntKind.wrap_i64]; omega
  have HWA := hide hwA
  have k5 := hA.en.c5
  clear h hA han hir hbA hnew hq1 hq2 hq3 hq4 hq5 hq6 hq7 hq8 b3 hbd hbn hlk
  unfold dataP
  go_enter Tryz.func73, Tryz.ntmps73
  go_wp2_with fail
  rw [← HWA.out]
  clear hwA
  refine HAN.out.mono ?_
  rintro e w' ⟨hw', rfl⟩
  rw [hw']
  clear hw' w'
  by_cases hz : len = 0
  · have hge : ((1 : Int) ≤ (len : Int)) = False := eq_false (by omega)
    clear hz hfl
    obtain ⟨-, f5, htc⟩ := HCELL.out wA (Below.refl _ _)
    have HTC := hide htc
    clear htc
    go_wp2_with fail
    refine HTC.out.mono ?_
    rintro e w1 ⟨rfl, he1, hc1⟩
    have HI2 := hide (HIR2.out w1 hc1)
    have HK := hide (HKEEP.out w1 he1 hc1)
    have hbx := HBOX.out w1 hc1
    have q0 : w1.cell? ⟨w.heap.size, 0, none⟩ = some (.int .i64 0) := by rw [cell_of_row _ _ _ _ _ _ hbx]; rfl
    have q1 : w1.cell? ⟨w.heap.size, 1, none⟩ = some (.int .i64 f) := by rw [cell_of_row _ _ _ _ _ _ hbx]; rfl
    have q2 : w1.cell? ⟨w.heap.size, 2, none⟩ = some (.int .i64 s.st.number) := by rw [cell_of_row _ _ _ _ _ _ hbx]; rfl
    have q3 : w1.cell? ⟨w.heap.size, 3, none⟩ = some (.slice sv len cb) := by rw [cell_of_row _ _ _ _ _ _ hbx]; rfl
    have q4 : w1.cell? ⟨w.heap.size, 4, none⟩ = some (.slice sc c.length cc) := by rw [cell_of_row _ _ _ _ _ _ hbx]; rfl
    clear he1 hc1 hbx
    go_wp2_with fail
    refine HI2.out.mono ?_
    rintro e w' ⟨rfl, hw'⟩
    rw [hw']
    clear hw' w'
    go_wp2_with fail
    refine HK.out.mono ?_
    rintro e w' ⟨rfl, hx⟩
    have HX := hide hx
    clear hx
    go_wp2
    exact bodyPost_end (results_none rfl _ _ _) rfl ⟨rfl, HX.out⟩
  · have hge : ((1 : Int) ≤ (len : Int)) = True := eq_true (by omega)
    have hgt : ((g.m.receive : Int) < (len : Int)) = False := eq_false (by omega)
    have hgt2 : (g.m.own + s.st.receive < (len : Int)) = False := eq_false (by omega)
    clear hz hfl
    go_wp2_with fail
    refine HIR.out.mono ?_
    rintro e w' ⟨rfl, hw'⟩
    rw [hw']
    clear hw' w'
    go_wp2_with fail
    refine HRW.out.mono ?_
    rintro e wB ⟨rfl, hbB⟩
    obtain ⟨k5B, f5, htc⟩ := HCELL.out wB hbB
    have HTC := hide htc
    clear htc
    go_wp2_with fail
    refine HTC.out.mono ?_
    rintro e w1 ⟨rfl, he1, hc1⟩
    have HI2 := hide (HIR2.out w1 hc1)
    have HK := hide (HKEEP.out w1 he1 hc1)
    have hbx := HBOX.out w1 hc1
    have q0 : w1.cell? ⟨w.heap.size, 0, none⟩ = some (.int .i64 0) := by rw [cell_of_row _ _ _ _ _ _ hbx]; rfl
    have q1 : w1.cell? ⟨w.heap.size, 1, none⟩ = some (.int .i64 f) := by rw [cell_of_row _ _ _ _ _ _ hbx]; rfl
    have q2 : w1.cell? ⟨w.heap.size, 2, none⟩ = some (.int .i64 s.st.number) := by rw [cell_of_row _ _ _ _ _ _ hbx]; rfl
    have q3 : w1.cell? ⟨w.heap.size, 3, none⟩ = some (.slice sv len cb) := by rw [cell_of_row _ _ _ _ _ _ hbx]; rfl
    have q4 : w1.cell? ⟨w.heap.size, 4, none⟩ = some (.slice sc c.length cc) := by rw [cell_of_row _ _ _ _ _ _ hbx]; rfl
    clear he1 hc1 hbx
    go_wp2_with fail
    refine HI2.out.mono ?_
    rintro e w' ⟨rfl, hw'⟩
    rw [hw']
    clear hw' w'
    go_wp2_with fail
    refine HK.out.mono ?_
    rintro e w' ⟨rfl, hx⟩
    have HX := hide hx
    clear hx
    go_wp2
    exact bodyPost_end (results_none rfl _ _ _) rfl ⟨rfl, HX.out⟩
section
variable (eb mb : Nat) (g : GEnd) (w : World) (R : World → Prop)
set_option maxRecDepth 100000 in
set_option maxHeartbeats 800000 in
theorem come_dataP (f n : Int) (sv : Option Addr) (len cb : Nat) (sc : Option Addr) (cl cc : Nat) (h : Inv w eb mb g) (hb : g.m.bstream = 0) (hbg : g.m.begun = true) (hc : ∀ w1 g1, Ahead w w1 eb mb g g1 → Calls Tryz.prog 73 #[.pointer (some ⟨eb, 0, none⟩), dataP f n sv len cb sc cl cc] w1 fun e w' => e = .returned (.tuple #[]) ∧ R w') :
    Calls Tryz.prog 55 #[.pointer (some ⟨eb, 0, none⟩), .iface 136 (dataP f n sv len cb sc cl cc)] w fun e w' => e = .returned (.tuple #[]) ∧ R w' := by
  have hta : ∀ (x : Value) (w : World), (Instr.typeAssert (.iface 136 x) 124 136 true).run Tryz.prog w = .ok (.tuple #[x, .bool true]) w := fun _ _ => by kernel_rfl
  have HT := hide (checkTurn_ok eb g.m 136 (dataP f n sv len cb sc cl cc) w h.en (by simp) hb (Or.inl hbg))
  have HC : Hid (∀ w0 o, Below w.heap.size w w0 → Calls Tryz.prog 73 #[.pointer (some ⟨eb, 0, none⟩), dataP f n sv len cb sc cl cc] ((w0.setCell ⟨eb, 30, none⟩ (.bool true)).alloc o) fun e w' => e = .returned (.tuple #[]) ∧ R w') := fun w0 o hb0 => by
    obtain ⟨g1, h1, h2⟩ := (h.below hb0).begins
    exact hc _ g1 (ahead_of hb0 h1 h2 ((Below.refl _ _).alloc (Nat.le_refl _) _))
  have HE : Hid (∀ w0, Below w.heap.size w w0 → w0.cell? ⟨eb, 30, none⟩ = some (.bool g.m.begun) ∧ w0.frozen? ⟨eb, 30, none⟩ = false ∧ eb < w0.heap.size) := fun w0 hb0 => ⟨(h.below hb0).en.c30, (h.below hb0).en.fr 30, (h.below hb0).en.lt⟩
  clear h hb hbg hc
  unfold dataP at *
  go_enter Tryz.func55, Tryz.ntmps55
  go_wp2_with fail
  refine HT.out.mono ?_
  rintro e w0 ⟨rfl, hb0⟩
  obtain ⟨k30, f30, hlt⟩ := HE.out w0 hb0
  have HB0 := hide hb0
  clear hb0
  go_wp2_with fail
  refine (HC.out w0 _ HB0.out).mono ?_
  rintro e w' ⟨rfl, hx⟩
  have HX := hide hx
  clear hx
  go_wp2
  exact bodyPost_end (results_none rfl _ _ _) rfl ⟨rfl, HX.out⟩
end
/-- The content of padded Data, as it lies in the body. -/
theorem cut_in {w : World} {f : Int} {bv cv : Value} {b : List UInt8} (hp : hasB f 8 = true) (hb : BytesIn w bv b) (hc : ContV f bv cv b) (h1 : 1 ≤ b.length) : ∃ sc cc, cv = .slice sc (cutB f b).length cc ∧ BytesIn w cv (cutB f b) ∧ ∀ j, cv.ownBlock = some j → bv.ownBlock = some j := by
  unfold ContV at hc
  rw [hp] at hc
  simp only [if_true] at hc
  obtain ⟨g, off, cap, rfl, o, rfl, ho⟩ := hc
  rcases hb with ⟨e, -⟩ | ⟨bb, off', cap', e, h2, h3, h4⟩
  · cases e
  · simp only [Value.slice.injEq, Option.some.injEq, Addr.mk.injEq, true_and, and_true] at e
    obtain ⟨⟨rfl, rfl⟩, rfl⟩ := e
    have hl : (cutB f b).length ≤ b.length - 1 := by
      unfold cutB
      rw [hp]
      simp
    refine ⟨_, _, rfl, Or.inr ⟨g, o, cap - 1, rfl, h2, by omega, fun i hi => ?_⟩, fun j hj => by simpa [Value.ownBlock] using hj⟩
    rw [ho (by omega), show off + 1 + i = off + (1 + i) from by omega, h4 (1 + i) (by omega)]
    have e2 : (cutB f b).getD i 0 = b.getD (1 + i) 0 := by
      have hi2 := hi
      unfold cutB at hi2 ⊢
      rw [hp] at hi2 ⊢
      simp only [if_true, List.length_take, List.length_drop] at hi2 ⊢
      simp only [List.getD_eq_getElem?_getD]
      rw [List.getElem?_take_of_lt (by omega), List.getElem?_drop]
    rw [e2]
end Go.Proofs.YtlhlmgfblbpdpaaGreatDoor
/-
  Package ends: frames that are a fault, kind by kind.
-/
namespace Go.Proofs.YtlhlmgfblbpdpaaGreatDoor
set_option linter.unusedVariables false
set_option linter.unusedSimpArgs false
open Go.RowKit

set_option maxHeartbeats 400000 in
theorem comeAck_p (eb : Nat) (m : EndM) (w : World) (h : EnB w eb m) (hw : m.waits = false) :
    Calls Tryz.prog 107 #[.pointer (some ⟨eb, 0, none⟩)] w fun e w' => e = .panicked [{ v := .iface 41 (.int .i64 11), recovered := false }] ∧ w' = w := by
  have c10 := h.c10
  rw [hw] at c10
  clear h
  go_enter Tryz.func107, Tryz.ntmps107
  go_wp2
  exact ⟨rfl, rfl, rfl⟩
set_option maxRecDepth 100000 in
set_option maxHeartbeats 800000 in
theorem comeSettings_p (eb : Nat) (m : EndM) (f n nv : Int) (sv : Option Addr) (len cb : Nat) (w : World) (h : EnB w eb m) (hw : m.waits = false) (hf : 0 ≤ f ∧ f ≤ 255) (hak : hasB f 1 = true) :
    Calls Tryz.prog 78 #[.pointer (some ⟨eb, 0, none⟩), .agg #[.int .i64 3, .int .i64 f, .int .i64 n, .slice sv len cb, .int .i64 nv]] w fun e w' => e = .panicked [{ v := .iface 41 (.int .i64 11), recovered := false }] ∧ Below w.heap.size w w' := by
  have hbA : Below w.heap.size w (w.alloc (.cells #[.int .i64 3, .int .i64 f, .int .i64 n, .slice sv len cb, .int .i64 nv] 148)) := (Below.refl _ _).alloc (Nat.le_refl _) _
  have HH : Hid (∀ w, Calls Tryz.prog 76 #[.agg #[.int .i64 3, .int .i64 f, .int .i64 n, .slice sv len cb], .int .i64 1] w fun e w' => e = .returned (.bool true) ∧ Below w.heap.size w w') := fun w => by
    have := has_any 3 f n 1 (.slice sv len cb) w hf.1 (by omega) (Or.inl rfl)
    rw [hak] at this
    exact this
  have HA : Hid (∀ w', Below w.heap.size w w' → Calls Tryz.prog 107 #[.pointer (some ⟨eb, 0, none⟩)] w' fun e w'' => e = .panicked [{ v := .iface 41 (.int .i64 11), recovered := false }] ∧ w'' = w') := fun w' hb => comeAck_p eb m w' (h.below hb) hw
  have HB := hide hbA
  clear h hw hf hak hbA
  go_enter Tryz.func78, Tryz.ntmps78
  go_wp2_with fail
  refine (HH.out _).mono ?_
  rintro e w1 ⟨rfl, hb1⟩
  have hb : Below w.heap.size w w1 := HB.out.trans (hb1.mono HB.out.size)
  have HB1 := hide hb
  clear hb1 hb
  go_wp2_with fail
  refine (HA.out w1 HB1.out).mono ?_
  rintro e w2 ⟨rfl, hw2⟩
  rw [hw2]
  clear hw2 w2
  go_wp2
  exact ⟨rfl, rfl, HB1.out⟩
set_option maxRecDepth 100000 in
set_option maxHeartbeats 800000 in
/-- Data for a stream that there is not. -/
theorem comeData_none (eb mb : Nat) (g : GEnd) (f n : Int) (sv : Option Addr) (len cb : Nat) (w : World) (h : Inv w eb mb g) (hn : ∀ s ∈ g.K, s.st.number ≠ n) :
    Calls Tryz.prog 73 #[.pointer (some ⟨eb, 0, none⟩), dataV f n sv len cb] w fun e w' => e = .panicked [{ v := .iface 41 (.int .i64 11), recovered := false }] ∧ Below w.heap.size w w' := by
  have hbA : Below w.heap.size w (w.alloc (.cells #[.int .i64 0, .int .i64 f, .int .i64 n, .slice sv len cb, .slice sv len cb] 136)) := (Below.refl _ _).alloc (Nat.le_refl _) _
  have hA := h.below hbA
  have han := announced_any eb mb g.m _ n _ hA.en h.km hA.kn
  have hfi : findK (g.K.map GSt.str) n = none := by
    unfold findK
    rw [List.find?_eq_none]
    intro x hx
    obtain ⟨s, hs, rfl⟩ := List.mem_map.1 hx
    simpa [GSt.str] using hn s hs
  rw [hfi] at han
  have HAN := hide han
  have HB := hide hbA
  clear h hA han hbA
  unfold dataV
  go_enter Tryz.func73, Tryz.ntmps73
  go_wp2_with fail
  refine HAN.out.mono ?_
  rintro e w' ⟨hw', rfl⟩
  rw [hw']
  clear hw' w'
  go_wp2
  exact ⟨rfl, rfl, HB.out⟩
set_option maxRecDepth 100000 in
set_option maxHeartbeats 800000 in
/-- More Data than there was credit for. -/
theorem comeData_flow (eb mb : Nat) (g : GEnd) (s : GSt) (f : Int) (sv : Option Addr) (len cb : Nat) (w : World) (h : Inv w eb mb g) (hs : s ∈ g.K) (ha : s.st.announced = true) (hh : s.st.hasAll = false) (hr : s.st.reset = 0) (hl : 1 ≤ (len : Int) ∧ g.m.receive < (len : Int)) :
    Calls Tryz.prog 73 #[.pointer (some ⟨eb, 0, none⟩), dataV f s.st.number sv len cb] w fun e w' => e = .panicked [{ v := .iface 41 (.int .i64 12), recovered := false }] ∧ Below w.heap.size w w' := by
  have hbA : Below w.heap.size w (w.alloc (.cells #[.int .i64 0, .int .i64 f, .int .i64 s.st.number, .slice sv len cb, .slice sv len cb] 136)) := (Below.refl _ _).alloc (Nat.le_refl _) _
  have hA := h.below hbA
  have han := announced_any eb mb g.m _ s.st.number _ hA.en h.km hA.kn
  rw [hA.find hs] at han
  simp only [GSt.str, ha, if_true] at han
  have HAN := hide han
  have k9 := (hA.st hs).c9
  rw [hh] at k9
  have k10 := (hA.st hs).c10
  rw [hr] at k10
  have c5 := hA.en.c5
  have HB := hide hbA
  obtain ⟨l1, l2⟩ := hl
  clear h hA han hbA
  unfold dataV
  go_enter Tryz.func73, Tryz.ntmps73
  go_wp2_with fail
  refine HAN.out.mono ?_
  rintro e w' ⟨hw', rfl⟩
  rw [hw']
  clear hw' w'
  go_wp2
  exact ⟨rfl, rfl, HB.out⟩
set_option maxHeartbeats 400000 in
theorem checkWindow_p (n : Int) (w : World) (h : 2147483647 < n) :
    Calls Tryz.prog 108 #[.int .i64 n] w fun e w' => e = .panicked [{ v := .iface 41 (.int .i64 12), recovered := false }] ∧ w' = w := by
  go_enter Tryz.func108, Tryz.ntmps108
  go_wp2
  exact ⟨rfl, rfl, rfl⟩
end Go.Proofs.YtlhlmgfblbpdpaaGreatDoor
/-
  Package ends: the Ack of Settings comes; a sample; the tuner's answer.
-/
namespace Go.Proofs.YtlhlmgfblbpdpaaGreatDoor
set_option linter.unusedVariables false
set_option linter.unusedSimpArgs false
open Go.RowKit

/-- Cells of the end alone change. -/
theorem Inv.onM {w w' : World} {eb mb : Nat} {g : GEnd} {m' : EndM} (h : Inv w eb mb g) (hc : Chg (fun j => j = eb) w w') (hen : EnB w' eb m') (h1 : m'.known = g.m.known) (h2 : m'.opn = g.m.opn) (h3 : m'.got = g.m.got) (h4 : m'.out = g.m.out) (h5 : m'.answers = g.m.answers) (h6 : m'.resets = g.m.resets) : Next w w' eb mb g { g with m := m' } :=
  h.onEnd (S := fun j => j = eb) (o' := g.out) (A' := g.ans) (R' := g.res) hc (fun j e => Or.inl e) hen h1 h2 h3 (by rw [h4]; exact owns_chg h.out hc (fun j hj e => by rw [e] at hj; exact owns_ne h.out h.en.blk (by decide) hj)) (fun j hj => Or.inl (by rw [← h4]; exact hj)) (by rw [h5]; exact h.ans) (fun a ha => ha) (fun j hj => by rw [← h5]; exact hj) (by rw [h6]; exact h.res) (fun j hj => by rw [← h6]; exact hj)
def EndM.acked (m : EndM) : EndM := { m with waits := false, own := m.made }
set_option maxRecDepth 100000 in
set_option maxHeartbeats 800000 in
theorem comeAck_ok (eb : Nat) (m : EndM) (w : World) (h : EnB w eb m) (hw : m.waits = true) :
    Calls Tryz.prog 107 #[.pointer (some ⟨eb, 0, none⟩)] w fun e w' => e = .returned (.tuple #[]) ∧ EnB w' eb m.acked ∧ Chg (fun j => j = eb) w w' := by
  have c10 := h.c10
  rw [hw] at c10
  have c9 := h.c9
  have c11 := h.c11
  have f10 := h.fr 10
  have f11 := h.fr 11
  have hlt := h.lt
  have H := hide h
  clear h
  go_enter Tryz.func107, Tryz.ntmps107
  go_wp2
  have h1 : EnB ((w.setCell ⟨eb, 10, none⟩ (.bool false)).setCell ⟨eb, 11, none⟩ (.int .i64 m.made)) eb m.acked := EnB.of (blk_set (blk_set H.out.blk)) rfl
  have h2 : Chg (fun j => j = eb) w ((w.setCell ⟨eb, 10, none⟩ (.bool false)).setCell ⟨eb, 11, none⟩ (.int .i64 m.made)) := chg_set (chg_set (Chg.refl _ _) rfl) rfl
  exact bodyPost_end (results_none rfl _ _ _) rfl ⟨rfl, h1, h2⟩
set_option maxRecDepth 100000 in
set_option maxHeartbeats 800000 in
theorem comeSettings_ack (eb mb : Nat) (g : GEnd) (f n nv : Int) (sv : Option Addr) (len cb : Nat) (w : World) (h : Inv w eb mb g) (hw : g.m.waits = true) (hf : 0 ≤ f ∧ f ≤ 255) (hak : hasB f 1 = true) :
    Calls Tryz.prog 78 #[.pointer (some ⟨eb, 0, none⟩), .agg #[.int .i64 3, .int .i64 f, .int .i64 n, .slice sv len cb, .int .i64 nv]] w fun e w' => e = .returned (.tuple #[]) ∧ Next w w' eb mb g { g with m := g.m.acked } := by
  have hbA : Below w.heap.size w (w.alloc (.cells #[.int .i64 3, .int .i64 f, .int .i64 n, .slice sv len cb, .int .i64 nv] 148)) := (Below.refl _ _).alloc (Nat.le_refl _) _
  have HH : Hid (∀ w, Calls Tryz.prog 76 #[.agg #[.int .i64 3, .int .i64 f, .int .i64 n, .slice sv len cb], .int .i64 1] w fun e w' => e = .returned (.bool true) ∧ Below w.heap.size w w') := fun w => by
    have := has_any 3 f n 1 (.slice sv len cb) w hf.1 (by omega) (Or.inl rfl)
    rw [hak] at this
    exact this
  have HA : Hid (∀ w1, Below w.heap.size w w1 → Calls Tryz.prog 107 #[.pointer (some ⟨eb, 0, none⟩)] w1 fun e w' => e = .returned (.tuple #[]) ∧ Next w w' eb mb g { g with m := g.m.acked }) := fun w1 hb => by
    refine (comeAck_ok eb g.m w1 (h.en.below hb) hw).mono ?_
    rintro e w' ⟨rfl, h1, h2⟩
    exact ⟨rfl, ((h.below hb).onM h2 h1 rfl rfl rfl rfl rfl rfl).pre hb⟩
  have HB := hide hbA
  clear h hw hf hak hbA
  go_enter Tryz.func78, Tryz.ntmps78
  go_wp2_with fail
  refine (HH.out _).mono ?_
  rintro e w1 ⟨rfl, hb1⟩
  have hb : Below w.heap.size w w1 := HB.out.trans (hb1.mono HB.out.size)
  have HB1 := hide hb
  clear hb1 hb
  go_wp2_with fail
  refine (HA.out w1 HB1.out).mono ?_
  rintro e w2 ⟨rfl, hn⟩
  have HN := hide hn
  clear hn
  go_wp2
  refine bodyPost_ret (v := .tuple #[]) ?_ rfl ⟨rfl, HN.out⟩
  simp [results, Tryz.results78, go_sem]
set_option maxRecDepth 100000 in
set_option maxHeartbeats 800000 in
theorem isMore_any (a0 a1 b0 b1 : Int) (w : World) (h1 : 0 ≤ a0 ∧ a0 ≤ 2147483647) (h2 : 0 ≤ a1 ∧ a1 ≤ 2147483647) (h3 : 0 ≤ b0 ∧ b0 ≤ 2147483647) (h4 : 0 ≤ b1 ∧ b1 ≤ 2147483647) :
    Calls Tryz.prog 126 #[.agg #[.int .i64 a0, .int .i64 a1], .agg #[.int .i64 b0, .int .i64 b1]] w fun e w' => e = .returned (.bool (decide (b0 * a1 < a0 * b1))) ∧ Below w.heap.size w w' := by
  have mul_le : ∀ x y : Int, 0 ≤ x ∧ x ≤ 2147483647 → 0 ≤ y ∧ y ≤ 2147483647 → 0 ≤ x * y ∧ x * y ≤ 4611686014132420609 := fun x y hx hy => by
    refine ⟨Int.mul_nonneg hx.1 hy.1, ?_⟩
    have : x * y ≤ 2147483647 * 2147483647 := Int.mul_le_mul hx.2 hy.2 hy.1 (by omega)
    omega
  have k1 := mul_le a0 b1 h1 h4
  have k2 := mul_le b0 a1 h3 h2
  have hw1 : IntKind.i64.wrap (a0 * b1) = a0 * b1 := by rw [IntKind.wrap_i64]; omega
  have hw2 : IntKind.i64.wrap (b0 * a1) = b0 * a1 := by rw [IntKind.wrap_i64]; omega
  have HB : Hid (Below w.heap.size w ((w.alloc (.cells #[.int .i64 a0, .int .i64 a1] 60)).alloc (.cells #[.int .i64 b0, .int .i64 b1] 60))) := ((Below.refl _ _).alloc (Nat.le_refl _) _).alloc (by simp) _
  clear mul_le k1 k2
  go_enter Tryz.func126, Tryz.ntmps126
  go_wp2
  go_ret
  exact ⟨rfl, HB.out⟩
end Go.Proofs.YtlhlmgfblbpdpaaGreatDoor
