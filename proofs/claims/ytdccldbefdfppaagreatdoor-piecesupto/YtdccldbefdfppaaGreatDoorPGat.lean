import Derived.Test.YtdccldbefdfppaaGreatDoorPGap
import Derived.Test.YtdccldbefdfppaaGreatDoorPGaq
import Derived.Test.YtdccldbefdfppaaGreatDoorPGaa
import Derived.Test.YtdccldbefdfppaaGreatDoorPGao
import Derived.Test.YtdccldbefdfppaaGreatDoorPGar
import Derived.Test.YtdccldbefdfppaaGreatDoorPGak
import Derived.BigRegion
import Derived.Deep.RegionWith
import Derived.ArgAppend
set_option linter.unusedVariables false
set_option linter.unusedSimpArgs false
namespace Go.Proofs.YtdccldbefdfppaaGreatDoor
open Go.RowKit
section
section
variable (eb mb : Nat) (g : GEnd) (w : World) (R S : World → Prop) (code : Int)
set_option maxRecDepth 100000 in
set_option maxHeartbeats 800000 in
theorem comeK_data (f n : Int) (sv : Option Addr) (len cb : Nat) (sc : Option Addr) (cl cc : Nat) (h : Inv w eb mb g) (hT : Calls Tryz.prog 94 #[.pointer (some ⟨eb, 0, none⟩), .iface 162 (.agg #[.int .i64 0, .int .i64 f, .int .i64 n, .slice sv len cb, .slice sc cl cc])] w fun e w' => e = .returned (.tuple #[]) ∧ Below w.heap.size w w') (hc : ∀ w1 g1, Ahead w w1 eb mb g g1 → Calls Tryz.prog 95 #[.pointer (some ⟨eb, 0, none⟩), .agg #[.int .i64 0, .int .i64 f, .int .i64 n, .slice sv len cb, .slice sc cl cc]] w1 fun e w' => (e = .returned (.tuple #[]) ∧ R w') ∨ (e = .panicked [{ v := .iface 41 (.int .i64 code), recovered := false }] ∧ S w')) :
  Calls Tryz.prog 69 #[.pointer (some ⟨eb, 0, none⟩), .iface 162 (.agg #[.int .i64 0, .int .i64 f, .int .i64 n, .slice sv len cb, .slice sc cl cc])] w fun e w' => (e = .returned (.tuple #[]) ∧ R w') ∨ (e = .panicked [{ v := .iface 41 (.int .i64 code), recovered := false }] ∧ S w') := by
 have hta : ∀ (x : Value) (w : World), (Instr.typeAssert (.iface 162 x) 140 162 true).run Tryz.prog w = .ok (.tuple #[x, .bool true]) w := fun _ _ => by kernel_rfl
 have HT := hide hT
 have HC : Hid (∀ w0 o, Below w.heap.size w w0 → Calls Tryz.prog 95 #[.pointer (some ⟨eb, 0, none⟩), .agg #[.int .i64 0, .int .i64 f, .int .i64 n, .slice sv len cb, .slice sc cl cc]] ((w0.setCell ⟨eb, 30, none⟩ (.bool true)).alloc o) fun e w' => (e = .returned (.tuple #[]) ∧ R w') ∨ (e = .panicked [{ v := .iface 41 (.int .i64 code), recovered := false }] ∧ S w')) := fun w0 o hb0 => by
  obtain ⟨g1, h1, h2⟩ := (h.below hb0).begins
  exact hc _ g1 (ahead_of hb0 h1 h2 ((Below.refl _ _).alloc (Nat.le_refl _) _))
 have HE : Hid (∀ w0, Below w.heap.size w w0 → w0.cell? ⟨eb, 30, none⟩ = some (.bool g.m.begun) ∧ w0.frozen? ⟨eb, 30, none⟩ = false ∧ eb < w0.heap.size) := fun w0 hb0 => ⟨(h.below hb0).en.c30, (h.below hb0).en.fr 30, (h.below hb0).en.lt⟩
 clear h hT hc
 go_enter Tryz.func69, Tryz.ntmps69
 go_wp2_with fail
 refine HT.out.mono ?_
 rintro e w0 ⟨rfl, hb0⟩
 obtain ⟨k30, f30, hlt⟩ := HE.out w0 hb0
 have HB0 := hide hb0
 clear hb0
 go_wp2_with fail
 refine (HC.out w0 _ HB0.out).mono ?_
 rintro e w' (⟨rfl, hx⟩ | ⟨rfl, hx⟩)
 ·have HX := hide hx
  clear hx
  go_wp2
  exact bodyPost_end (results_none rfl _ _ _) rfl (Or.inl ⟨rfl, HX.out⟩)
 ·have HX := hide hx
  clear hx
  go_wp2
  exact ⟨rfl, Or.inr ⟨rfl, HX.out⟩⟩
set_option maxRecDepth 100000 in
set_option maxHeartbeats 800000 in
theorem comeK_headers (f n : Int) (sv : Option Addr) (len cb : Nat) (h : Inv w eb mb g) (hT : Calls Tryz.prog 94 #[.pointer (some ⟨eb, 0, none⟩), .iface 165 (.agg #[.int .i64 1, .int .i64 f, .int .i64 n, .slice sv len cb, .slice sv len cb])] w fun e w' => e = .returned (.tuple #[]) ∧ Below w.heap.size w w') (hc : ∀ w1 g1, Ahead w w1 eb mb g g1 → Calls Tryz.prog 96 #[.pointer (some ⟨eb, 0, none⟩), .agg #[.int .i64 1, .int .i64 f, .int .i64 n, .slice sv len cb, .slice sv len cb]] w1 fun e w' => (e = .returned (.tuple #[]) ∧ R w') ∨ (e = .panicked [{ v := .iface 41 (.int .i64 code), recovered := false }] ∧ S w')) :
  Calls Tryz.prog 69 #[.pointer (some ⟨eb, 0, none⟩), .iface 165 (.agg #[.int .i64 1, .int .i64 f, .int .i64 n, .slice sv len cb, .slice sv len cb])] w fun e w' => (e = .returned (.tuple #[]) ∧ R w') ∨ (e = .panicked [{ v := .iface 41 (.int .i64 code), recovered := false }] ∧ S w') := by
 have hta : ∀ (x : Value) (w : World), (Instr.typeAssert (.iface 165 x) 140 165 true).run Tryz.prog w = .ok (.tuple #[x, .bool true]) w := fun _ _ => by kernel_rfl
 have ht0 : ∀ (x : Value) (w : World), (Instr.typeAssert (.iface 165 x) 140 162 true).run Tryz.prog w = .ok (.tuple #[.agg #[.int .i64 0, .int .i64 0, .int .i64 0, .slice none 0 0, .slice none 0 0], .bool false]) w := fun _ _ => by kernel_rfl
 have HT := hide hT
 have HC : Hid (∀ w0 o, Below w.heap.size w w0 → Calls Tryz.prog 96 #[.pointer (some ⟨eb, 0, none⟩), .agg #[.int .i64 1, .int .i64 f, .int .i64 n, .slice sv len cb, .slice sv len cb]] ((w0.setCell ⟨eb, 30, none⟩ (.bool true)).alloc o) fun e w' => (e = .returned (.tuple #[]) ∧ R w') ∨ (e = .panicked [{ v := .iface 41 (.int .i64 code), recovered := false }] ∧ S w')) := fun w0 o hb0 => by
  obtain ⟨g1, h1, h2⟩ := (h.below hb0).begins
  exact hc _ g1 (ahead_of hb0 h1 h2 ((Below.refl _ _).alloc (Nat.le_refl _) _))
 have HE : Hid (∀ w0, Below w.heap.size w w0 → w0.cell? ⟨eb, 30, none⟩ = some (.bool g.m.begun) ∧ w0.frozen? ⟨eb, 30, none⟩ = false ∧ eb < w0.heap.size) := fun w0 hb0 => ⟨(h.below hb0).en.c30, (h.below hb0).en.fr 30, (h.below hb0).en.lt⟩
 clear h hT hc
 go_enter Tryz.func69, Tryz.ntmps69
 go_wp2_with fail
 refine HT.out.mono ?_
 rintro e w0 ⟨rfl, hb0⟩
 obtain ⟨k30, f30, hlt⟩ := HE.out w0 hb0
 have HB0 := hide hb0
 clear hb0
 go_wp2_with fail
 refine (HC.out w0 _ HB0.out).mono ?_
 rintro e w' (⟨rfl, hx⟩ | ⟨rfl, hx⟩)
 ·have HX := hide hx
  clear hx
  go_wp2
  exact bodyPost_end (results_none rfl _ _ _) rfl (Or.inl ⟨rfl, HX.out⟩)
 ·have HX := hide hx
  clear hx
  go_wp2
  exact ⟨rfl, Or.inr ⟨rfl, HX.out⟩⟩
set_option maxRecDepth 100000 in
set_option maxHeartbeats 800000 in
theorem comeK_reset (f n : Int) (sv : Option Addr) (len cb : Nat) (h : Inv w eb mb g) (hT : Calls Tryz.prog 94 #[.pointer (some ⟨eb, 0, none⟩), .iface 170 (.agg #[.int .i64 2, .int .i64 f, .int .i64 n, .slice sv len cb])] w fun e w' => e = .returned (.tuple #[]) ∧ Below w.heap.size w w') (hc : ∀ w1 g1, Ahead w w1 eb mb g g1 → Calls Tryz.prog 99 #[.pointer (some ⟨eb, 0, none⟩), .agg #[.int .i64 2, .int .i64 f, .int .i64 n, .slice sv len cb]] w1 fun e w' => (e = .returned (.tuple #[]) ∧ R w') ∨ (e = .panicked [{ v := .iface 41 (.int .i64 code), recovered := false }] ∧ S w')) :
  Calls Tryz.prog 69 #[.pointer (some ⟨eb, 0, none⟩), .iface 170 (.agg #[.int .i64 2, .int .i64 f, .int .i64 n, .slice sv len cb])] w fun e w' => (e = .returned (.tuple #[]) ∧ R w') ∨ (e = .panicked [{ v := .iface 41 (.int .i64 code), recovered := false }] ∧ S w') := by
 have hta : ∀ (x : Value) (w : World), (Instr.typeAssert (.iface 170 x) 140 170 true).run Tryz.prog w = .ok (.tuple #[x, .bool true]) w := fun _ _ => by kernel_rfl
 have ht0 : ∀ (x : Value) (w : World), (Instr.typeAssert (.iface 170 x) 140 162 true).run Tryz.prog w = .ok (.tuple #[.agg #[.int .i64 0, .int .i64 0, .int .i64 0, .slice none 0 0, .slice none 0 0], .bool false]) w := fun _ _ => by kernel_rfl
 have ht1 : ∀ (x : Value) (w : World), (Instr.typeAssert (.iface 170 x) 140 165 true).run Tryz.prog w = .ok (.tuple #[.agg #[.int .i64 0, .int .i64 0, .int .i64 0, .slice none 0 0, .slice none 0 0], .bool false]) w := fun _ _ => by kernel_rfl
 have ht2 : ∀ (x : Value) (w : World), (Instr.typeAssert (.iface 170 x) 140 167 true).run Tryz.prog w = .ok (.tuple #[.agg #[.int .i64 0, .int .i64 0, .int .i64 0, .slice none 0 0, .slice none 0 0], .bool false]) w := fun _ _ => by kernel_rfl
 have HT := hide hT
 have HC : Hid (∀ w0 o, Below w.heap.size w w0 → Calls Tryz.prog 99 #[.pointer (some ⟨eb, 0, none⟩), .agg #[.int .i64 2, .int .i64 f, .int .i64 n, .slice sv len cb]] ((w0.setCell ⟨eb, 30, none⟩ (.bool true)).alloc o) fun e w' => (e = .returned (.tuple #[]) ∧ R w') ∨ (e = .panicked [{ v := .iface 41 (.int .i64 code), recovered := false }] ∧ S w')) := fun w0 o hb0 => by
  obtain ⟨g1, h1, h2⟩ := (h.below hb0).begins
  exact hc _ g1 (ahead_of hb0 h1 h2 ((Below.refl _ _).alloc (Nat.le_refl _) _))
 have HE : Hid (∀ w0, Below w.heap.size w w0 → w0.cell? ⟨eb, 30, none⟩ = some (.bool g.m.begun) ∧ w0.frozen? ⟨eb, 30, none⟩ = false ∧ eb < w0.heap.size) := fun w0 hb0 => ⟨(h.below hb0).en.c30, (h.below hb0).en.fr 30, (h.below hb0).en.lt⟩
 clear h hT hc
 go_enter Tryz.func69, Tryz.ntmps69
 go_wp2_with fail
 refine HT.out.mono ?_
 rintro e w0 ⟨rfl, hb0⟩
 obtain ⟨k30, f30, hlt⟩ := HE.out w0 hb0
 have HB0 := hide hb0
 clear hb0
 go_wp2_with fail
 refine (HC.out w0 _ HB0.out).mono ?_
 rintro e w' (⟨rfl, hx⟩ | ⟨rfl, hx⟩)
 ·have HX := hide hx
  clear hx
  go_wp2
  exact bodyPost_end (results_none rfl _ _ _) rfl (Or.inl ⟨rfl, HX.out⟩)
 ·have HX := hide hx
  clear hx
  go_wp2
  exact ⟨rfl, Or.inr ⟨rfl, HX.out⟩⟩
set_option maxRecDepth 100000 in
set_option maxHeartbeats 800000 in
theorem comeK_settings (f n : Int) (sv : Option Addr) (len cb : Nat) (nv : Int) (h : Inv w eb mb g) (hT : Calls Tryz.prog 94 #[.pointer (some ⟨eb, 0, none⟩), .iface 173 (.agg #[.int .i64 3, .int .i64 f, .int .i64 n, .slice sv len cb, .int .i64 nv])] w fun e w' => e = .returned (.tuple #[]) ∧ Below w.heap.size w w') (hc : ∀ w1 g1, Ahead w w1 eb mb g g1 → Calls Tryz.prog 100 #[.pointer (some ⟨eb, 0, none⟩), .agg #[.int .i64 3, .int .i64 f, .int .i64 n, .slice sv len cb, .int .i64 nv]] w1 fun e w' => (e = .returned (.tuple #[]) ∧ R w') ∨ (e = .panicked [{ v := .iface 41 (.int .i64 code), recovered := false }] ∧ S w')) :
  Calls Tryz.prog 69 #[.pointer (some ⟨eb, 0, none⟩), .iface 173 (.agg #[.int .i64 3, .int .i64 f, .int .i64 n, .slice sv len cb, .int .i64 nv])] w fun e w' => (e = .returned (.tuple #[]) ∧ R w') ∨ (e = .panicked [{ v := .iface 41 (.int .i64 code), recovered := false }] ∧ S w') := by
 have hta : ∀ (x : Value) (w : World), (Instr.typeAssert (.iface 173 x) 140 173 true).run Tryz.prog w = .ok (.tuple #[x, .bool true]) w := fun _ _ => by kernel_rfl
 have ht0 : ∀ (x : Value) (w : World), (Instr.typeAssert (.iface 173 x) 140 162 true).run Tryz.prog w = .ok (.tuple #[.agg #[.int .i64 0, .int .i64 0, .int .i64 0, .slice none 0 0, .slice none 0 0], .bool false]) w := fun _ _ => by kernel_rfl
 have ht1 : ∀ (x : Value) (w : World), (Instr.typeAssert (.iface 173 x) 140 165 true).run Tryz.prog w = .ok (.tuple #[.agg #[.int .i64 0, .int .i64 0, .int .i64 0, .slice none 0 0, .slice none 0 0], .bool false]) w := fun _ _ => by kernel_rfl
 have ht2 : ∀ (x : Value) (w : World), (Instr.typeAssert (.iface 173 x) 140 167 true).run Tryz.prog w = .ok (.tuple #[.agg #[.int .i64 0, .int .i64 0, .int .i64 0, .slice none 0 0, .slice none 0 0], .bool false]) w := fun _ _ => by kernel_rfl
 have ht3 : ∀ (x : Value) (w : World), (Instr.typeAssert (.iface 173 x) 140 170 true).run Tryz.prog w = .ok (.tuple #[.agg #[.int .i64 0, .int .i64 0, .int .i64 0, .slice none 0 0], .bool false]) w := fun _ _ => by kernel_rfl
 have HT := hide hT
 have HC : Hid (∀ w0 o, Below w.heap.size w w0 → Calls Tryz.prog 100 #[.pointer (some ⟨eb, 0, none⟩), .agg #[.int .i64 3, .int .i64 f, .int .i64 n, .slice sv len cb, .int .i64 nv]] ((w0.setCell ⟨eb, 30, none⟩ (.bool true)).alloc o) fun e w' => (e = .returned (.tuple #[]) ∧ R w') ∨ (e = .panicked [{ v := .iface 41 (.int .i64 code), recovered := false }] ∧ S w')) := fun w0 o hb0 => by
  obtain ⟨g1, h1, h2⟩ := (h.below hb0).begins
  exact hc _ g1 (ahead_of hb0 h1 h2 ((Below.refl _ _).alloc (Nat.le_refl _) _))
 have HE : Hid (∀ w0, Below w.heap.size w w0 → w0.cell? ⟨eb, 30, none⟩ = some (.bool g.m.begun) ∧ w0.frozen? ⟨eb, 30, none⟩ = false ∧ eb < w0.heap.size) := fun w0 hb0 => ⟨(h.below hb0).en.c30, (h.below hb0).en.fr 30, (h.below hb0).en.lt⟩
 clear h hT hc
 go_enter Tryz.func69, Tryz.ntmps69
 go_wp2_with fail
 refine HT.out.mono ?_
 rintro e w0 ⟨rfl, hb0⟩
 obtain ⟨k30, f30, hlt⟩ := HE.out w0 hb0
 have HB0 := hide hb0
 clear hb0
 go_wp2_with fail
 refine (HC.out w0 _ HB0.out).mono ?_
 rintro e w' (⟨rfl, hx⟩ | ⟨rfl, hx⟩)
 ·have HX := hide hx
  clear hx
  go_wp2
  exact bodyPost_end (results_none rfl _ _ _) rfl (Or.inl ⟨rfl, HX.out⟩)
 ·have HX := hide hx
  clear hx
  go_wp2
  exact ⟨rfl, Or.inr ⟨rfl, HX.out⟩⟩
set_option maxRecDepth 100000 in
set_option maxHeartbeats 800000 in
theorem comeK_ping (f n : Int) (sv : Option Addr) (len cb : Nat) (nv : Int) (h : Inv w eb mb g) (hT : Calls Tryz.prog 94 #[.pointer (some ⟨eb, 0, none⟩), .iface 176 (.agg #[.int .i64 4, .int .i64 f, .int .i64 n, .slice sv len cb, .int .u32 nv])] w fun e w' => e = .returned (.tuple #[]) ∧ Below w.heap.size w w') (hc : ∀ w1 g1, Ahead w w1 eb mb g g1 → Calls Tryz.prog 101 #[.pointer (some ⟨eb, 0, none⟩), .agg #[.int .i64 4, .int .i64 f, .int .i64 n, .slice sv len cb, .int .u32 nv]] w1 fun e w' => (e = .returned (.tuple #[]) ∧ R w') ∨ (e = .panicked [{ v := .iface 41 (.int .i64 code), recovered := false }] ∧ S w')) :
  Calls Tryz.prog 69 #[.pointer (some ⟨eb, 0, none⟩), .iface 176 (.agg #[.int .i64 4, .int .i64 f, .int .i64 n, .slice sv len cb, .int .u32 nv])] w fun e w' => (e = .returned (.tuple #[]) ∧ R w') ∨ (e = .panicked [{ v := .iface 41 (.int .i64 code), recovered := false }] ∧ S w') := by
 have hta : ∀ (x : Value) (w : World), (Instr.typeAssert (.iface 176 x) 140 176 true).run Tryz.prog w = .ok (.tuple #[x, .bool true]) w := fun _ _ => by kernel_rfl
 have ht0 : ∀ (x : Value) (w : World), (Instr.typeAssert (.iface 176 x) 140 162 true).run Tryz.prog w = .ok (.tuple #[.agg #[.int .i64 0, .int .i64 0, .int .i64 0, .slice none 0 0, .slice none 0 0], .bool false]) w := fun _ _ => by kernel_rfl
 have ht1 : ∀ (x : Value) (w : World), (Instr.typeAssert (.iface 176 x) 140 165 true).run Tryz.prog w = .ok (.tuple #[.agg #[.int .i64 0, .int .i64 0, .int .i64 0, .slice none 0 0, .slice none 0 0], .bool false]) w := fun _ _ => by kernel_rfl
 have ht2 : ∀ (x : Value) (w : World), (Instr.typeAssert (.iface 176 x) 140 167 true).run Tryz.prog w = .ok (.tuple #[.agg #[.int .i64 0, .int .i64 0, .int .i64 0, .slice none 0 0, .slice none 0 0], .bool false]) w := fun _ _ => by kernel_rfl
 have ht3 : ∀ (x : Value) (w : World), (Instr.typeAssert (.iface 176 x) 140 170 true).run Tryz.prog w = .ok (.tuple #[.agg #[.int .i64 0, .int .i64 0, .int .i64 0, .slice none 0 0], .bool false]) w := fun _ _ => by kernel_rfl
 have ht4 : ∀ (x : Value) (w : World), (Instr.typeAssert (.iface 176 x) 140 173 true).run Tryz.prog w = .ok (.tuple #[.agg #[.int .i64 0, .int .i64 0, .int .i64 0, .slice none 0 0, .int .i64 0], .bool false]) w := fun _ _ => by kernel_rfl
 have HT := hide hT
 have HC : Hid (∀ w0 o, Below w.heap.size w w0 → Calls Tryz.prog 101 #[.pointer (some ⟨eb, 0, none⟩), .agg #[.int .i64 4, .int .i64 f, .int .i64 n, .slice sv len cb, .int .u32 nv]] ((w0.setCell ⟨eb, 30, none⟩ (.bool true)).alloc o) fun e w' => (e = .returned (.tuple #[]) ∧ R w') ∨ (e = .panicked [{ v := .iface 41 (.int .i64 code), recovered := false }] ∧ S w')) := fun w0 o hb0 => by
  obtain ⟨g1, h1, h2⟩ := (h.below hb0).begins
  exact hc _ g1 (ahead_of hb0 h1 h2 ((Below.refl _ _).alloc (Nat.le_refl _) _))
 have HE : Hid (∀ w0, Below w.heap.size w w0 → w0.cell? ⟨eb, 30, none⟩ = some (.bool g.m.begun) ∧ w0.frozen? ⟨eb, 30, none⟩ = false ∧ eb < w0.heap.size) := fun w0 hb0 => ⟨(h.below hb0).en.c30, (h.below hb0).en.fr 30, (h.below hb0).en.lt⟩
 clear h hT hc
 go_enter Tryz.func69, Tryz.ntmps69
 go_wp2_with fail
 refine HT.out.mono ?_
 rintro e w0 ⟨rfl, hb0⟩
 obtain ⟨k30, f30, hlt⟩ := HE.out w0 hb0
 have HB0 := hide hb0
 clear hb0
 go_wp2_with fail
 refine (HC.out w0 _ HB0.out).mono ?_
 rintro e w' (⟨rfl, hx⟩ | ⟨rfl, hx⟩)
 ·have HX := hide hx
  clear hx
  go_wp2
  exact bodyPost_end (results_none rfl _ _ _) rfl (Or.inl ⟨rfl, HX.out⟩)
 ·have HX := hide hx
  clear hx
  go_wp2
  exact ⟨rfl, Or.inr ⟨rfl, HX.out⟩⟩
set_option maxRecDepth 100000 in
set_option maxHeartbeats 800000 in
theorem comeK_goaway (f n : Int) (sv : Option Addr) (len cb : Nat) (h : Inv w eb mb g) (hT : Calls Tryz.prog 94 #[.pointer (some ⟨eb, 0, none⟩), .iface 178 (.agg #[.int .i64 5, .int .i64 f, .int .i64 n, .slice sv len cb])] w fun e w' => e = .returned (.tuple #[]) ∧ Below w.heap.size w w') (hc : ∀ w1 g1, Ahead w w1 eb mb g g1 → Calls Tryz.prog 32 #[.pointer (some ⟨eb, 0, none⟩), .int .i64 7] w1 fun e w' => (e = .returned (.tuple #[]) ∧ R w') ∨ (e = .panicked [{ v := .iface 41 (.int .i64 code), recovered := false }] ∧ S w')) :
  Calls Tryz.prog 69 #[.pointer (some ⟨eb, 0, none⟩), .iface 178 (.agg #[.int .i64 5, .int .i64 f, .int .i64 n, .slice sv len cb])] w fun e w' => (e = .returned (.tuple #[]) ∧ R w') ∨ (e = .panicked [{ v := .iface 41 (.int .i64 code), recovered := false }] ∧ S w') := by
 have hta : ∀ (x : Value) (w : World), (Instr.typeAssert (.iface 178 x) 140 178 true).run Tryz.prog w = .ok (.tuple #[x, .bool true]) w := fun _ _ => by kernel_rfl
 have ht0 : ∀ (x : Value) (w : World), (Instr.typeAssert (.iface 178 x) 140 162 true).run Tryz.prog w = .ok (.tuple #[.agg #[.int .i64 0, .int .i64 0, .int .i64 0, .slice none 0 0, .slice none 0 0], .bool false]) w := fun _ _ => by kernel_rfl
 have ht1 : ∀ (x : Value) (w : World), (Instr.typeAssert (.iface 178 x) 140 165 true).run Tryz.prog w = .ok (.tuple #[.agg #[.int .i64 0, .int .i64 0, .int .i64 0, .slice none 0 0, .slice none 0 0], .bool false]) w := fun _ _ => by kernel_rfl
 have ht2 : ∀ (x : Value) (w : World), (Instr.typeAssert (.iface 178 x) 140 167 true).run Tryz.prog w = .ok (.tuple #[.agg #[.int .i64 0, .int .i64 0, .int .i64 0, .slice none 0 0, .slice none 0 0], .bool false]) w := fun _ _ => by kernel_rfl
 have ht3 : ∀ (x : Value) (w : World), (Instr.typeAssert (.iface 178 x) 140 170 true).run Tryz.prog w = .ok (.tuple #[.agg #[.int .i64 0, .int .i64 0, .int .i64 0, .slice none 0 0], .bool false]) w := fun _ _ => by kernel_rfl
 have ht4 : ∀ (x : Value) (w : World), (Instr.typeAssert (.iface 178 x) 140 173 true).run Tryz.prog w = .ok (.tuple #[.agg #[.int .i64 0, .int .i64 0, .int .i64 0, .slice none 0 0, .int .i64 0], .bool false]) w := fun _ _ => by kernel_rfl
 have ht5 : ∀ (x : Value) (w : World), (Instr.typeAssert (.iface 178 x) 140 176 true).run Tryz.prog w = .ok (.tuple #[.agg #[.int .i64 0, .int .i64 0, .int .i64 0, .slice none 0 0, .int .u32 0], .bool false]) w := fun _ _ => by kernel_rfl
 have HT := hide hT
 have HC : Hid (∀ w0 o, Below w.heap.size w w0 → Calls Tryz.prog 32 #[.pointer (some ⟨eb, 0, none⟩), .int .i64 7] ((w0.setCell ⟨eb, 30, none⟩ (.bool true)).alloc o) fun e w' => (e = .returned (.tuple #[]) ∧ R w') ∨ (e = .panicked [{ v := .iface 41 (.int .i64 code), recovered := false }] ∧ S w')) := fun w0 o hb0 => by
  obtain ⟨g1, h1, h2⟩ := (h.below hb0).begins
  exact hc _ g1 (ahead_of hb0 h1 h2 ((Below.refl _ _).alloc (Nat.le_refl _) _))
 have HE : Hid (∀ w0, Below w.heap.size w w0 → w0.cell? ⟨eb, 30, none⟩ = some (.bool g.m.begun) ∧ w0.frozen? ⟨eb, 30, none⟩ = false ∧ eb < w0.heap.size) := fun w0 hb0 => ⟨(h.below hb0).en.c30, (h.below hb0).en.fr 30, (h.below hb0).en.lt⟩
 clear h hT hc
 go_enter Tryz.func69, Tryz.ntmps69
 go_wp2_with fail
 refine HT.out.mono ?_
 rintro e w0 ⟨rfl, hb0⟩
 obtain ⟨k30, f30, hlt⟩ := HE.out w0 hb0
 have HB0 := hide hb0
 clear hb0
 go_wp2_with fail
 refine (HC.out w0 _ HB0.out).mono ?_
 rintro e w' (⟨rfl, hx⟩ | ⟨rfl, hx⟩)
 ·have HX := hide hx
  clear hx
  go_wp2
  exact bodyPost_end (results_none rfl _ _ _) rfl (Or.inl ⟨rfl, HX.out⟩)
 ·have HX := hide hx
  clear hx
  go_wp2
  exact ⟨rfl, Or.inr ⟨rfl, HX.out⟩⟩
set_option maxRecDepth 100000 in
set_option maxHeartbeats 800000 in
theorem comeK_credit (f n : Int) (sv : Option Addr) (len cb : Nat) (nv : Int) (h : Inv w eb mb g) (hT : Calls Tryz.prog 94 #[.pointer (some ⟨eb, 0, none⟩), .iface 179 (.agg #[.int .i64 6, .int .i64 f, .int .i64 n, .slice sv len cb, .int .i64 nv])] w fun e w' => e = .returned (.tuple #[]) ∧ Below w.heap.size w w') (hc : ∀ w1 g1, Ahead w w1 eb mb g g1 → Calls Tryz.prog 102 #[.pointer (some ⟨eb, 0, none⟩), .agg #[.int .i64 6, .int .i64 f, .int .i64 n, .slice sv len cb, .int .i64 nv]] w1 fun e w' => (e = .returned (.tuple #[]) ∧ R w') ∨ (e = .panicked [{ v := .iface 41 (.int .i64 code), recovered := false }] ∧ S w')) :
  Calls Tryz.prog 69 #[.pointer (some ⟨eb, 0, none⟩), .iface 179 (.agg #[.int .i64 6, .int .i64 f, .int .i64 n, .slice sv len cb, .int .i64 nv])] w fun e w' => (e = .returned (.tuple #[]) ∧ R w') ∨ (e = .panicked [{ v := .iface 41 (.int .i64 code), recovered := false }] ∧ S w') := by
 have hta : ∀ (x : Value) (w : World), (Instr.typeAssert (.iface 179 x) 140 179 true).run Tryz.prog w = .ok (.tuple #[x, .bool true]) w := fun _ _ => by kernel_rfl
 have ht0 : ∀ (x : Value) (w : World), (Instr.typeAssert (.iface 179 x) 140 162 true).run Tryz.prog w = .ok (.tuple #[.agg #[.int .i64 0, .int .i64 0, .int .i64 0, .slice none 0 0, .slice none 0 0], .bool false]) w := fun _ _ => by kernel_rfl
 have ht1 : ∀ (x : Value) (w : World), (Instr.typeAssert (.iface 179 x) 140 165 true).run Tryz.prog w = .ok (.tuple #[.agg #[.int .i64 0, .int .i64 0, .int .i64 0, .slice none 0 0, .slice none 0 0], .bool false]) w := fun _ _ => by kernel_rfl
 have ht2 : ∀ (x : Value) (w : World), (Instr.typeAssert (.iface 179 x) 140 167 true).run Tryz.prog w = .ok (.tuple #[.agg #[.int .i64 0, .int .i64 0, .int .i64 0, .slice none 0 0, .slice none 0 0], .bool false]) w := fun _ _ => by kernel_rfl
 have ht3 : ∀ (x : Value) (w : World), (Instr.typeAssert (.iface 179 x) 140 170 true).run Tryz.prog w = .ok (.tuple #[.agg #[.int .i64 0, .int .i64 0, .int .i64 0, .slice none 0 0], .bool false]) w := fun _ _ => by kernel_rfl
 have ht4 : ∀ (x : Value) (w : World), (Instr.typeAssert (.iface 179 x) 140 173 true).run Tryz.prog w = .ok (.tuple #[.agg #[.int .i64 0, .int .i64 0, .int .i64 0, .slice none 0 0, .int .i64 0], .bool false]) w := fun _ _ => by kernel_rfl
 have ht5 : ∀ (x : Value) (w : World), (Instr.typeAssert (.iface 179 x) 140 176 true).run Tryz.prog w = .ok (.tuple #[.agg #[.int .i64 0, .int .i64 0, .int .i64 0, .slice none 0 0, .int .u32 0], .bool false]) w := fun _ _ => by kernel_rfl
 have ht6 : ∀ (x : Value) (w : World), (Instr.typeAssert (.iface 179 x) 140 178 true).run Tryz.prog w = .ok (.tuple #[.agg #[.int .i64 0, .int .i64 0, .int .i64 0, .slice none 0 0], .bool false]) w := fun _ _ => by kernel_rfl
 have HT := hide hT
 have HC : Hid (∀ w0 o, Below w.heap.size w w0 → Calls Tryz.prog 102 #[.pointer (some ⟨eb, 0, none⟩), .agg #[.int .i64 6, .int .i64 f, .int .i64 n, .slice sv len cb, .int .i64 nv]] ((w0.setCell ⟨eb, 30, none⟩ (.bool true)).alloc o) fun e w' => (e = .returned (.tuple #[]) ∧ R w') ∨ (e = .panicked [{ v := .iface 41 (.int .i64 code), recovered := false }] ∧ S w')) := fun w0 o hb0 => by
  obtain ⟨g1, h1, h2⟩ := (h.below hb0).begins
  exact hc _ g1 (ahead_of hb0 h1 h2 ((Below.refl _ _).alloc (Nat.le_refl _) _))
 have HE : Hid (∀ w0, Below w.heap.size w w0 → w0.cell? ⟨eb, 30, none⟩ = some (.bool g.m.begun) ∧ w0.frozen? ⟨eb, 30, none⟩ = false ∧ eb < w0.heap.size) := fun w0 hb0 => ⟨(h.below hb0).en.c30, (h.below hb0).en.fr 30, (h.below hb0).en.lt⟩
 clear h hT hc
 go_enter Tryz.func69, Tryz.ntmps69
 go_wp2_with fail
 refine HT.out.mono ?_
 rintro e w0 ⟨rfl, hb0⟩
 obtain ⟨k30, f30, hlt⟩ := HE.out w0 hb0
 have HB0 := hide hb0
 clear hb0
 go_wp2_with fail
 refine (HC.out w0 _ HB0.out).mono ?_
 rintro e w' (⟨rfl, hx⟩ | ⟨rfl, hx⟩)
 ·have HX := hide hx
  clear hx
  go_wp2
  exact bodyPost_end (results_none rfl _ _ _) rfl (Or.inl ⟨rfl, HX.out⟩)
 ·have HX := hide hx
  clear hx
  go_wp2
  exact ⟨rfl, Or.inr ⟨rfl, HX.out⟩⟩
set_option maxRecDepth 100000 in
set_option maxHeartbeats 800000 in
theorem comeK_other (f n : Int) (sv : Option Addr) (len cb : Nat) (k : Int) (h : Inv w eb mb g) (hT : Calls Tryz.prog 94 #[.pointer (some ⟨eb, 0, none⟩), .iface 181 (.agg #[.int .i64 k, .int .i64 f, .int .i64 n, .slice sv len cb])] w fun e w' => e = .returned (.tuple #[]) ∧ Below w.heap.size w w') (hc : ∀ w1 g1, Ahead w w1 eb mb g g1 → R w1) :
  Calls Tryz.prog 69 #[.pointer (some ⟨eb, 0, none⟩), .iface 181 (.agg #[.int .i64 k, .int .i64 f, .int .i64 n, .slice sv len cb])] w fun e w' => (e = .returned (.tuple #[]) ∧ R w') ∨ (e = .panicked [{ v := .iface 41 (.int .i64 code), recovered := false }] ∧ S w') := by
 have hta : ∀ (x : Value) (w : World), (Instr.typeAssert (.iface 181 x) 140 181 true).run Tryz.prog w = .ok (.tuple #[x, .bool true]) w := fun _ _ => by kernel_rfl
 have ht0 : ∀ (x : Value) (w : World), (Instr.typeAssert (.iface 181 x) 140 162 true).run Tryz.prog w = .ok (.tuple #[.agg #[.int .i64 0, .int .i64 0, .int .i64 0, .slice none 0 0, .slice none 0 0], .bool false]) w := fun _ _ => by kernel_rfl
 have ht1 : ∀ (x : Value) (w : World), (Instr.typeAssert (.iface 181 x) 140 165 true).run Tryz.prog w = .ok (.tuple #[.agg #[.int .i64 0, .int .i64 0, .int .i64 0, .slice none 0 0, .slice none 0 0], .bool false]) w := fun _ _ => by kernel_rfl
 have ht2 : ∀ (x : Value) (w : World), (Instr.typeAssert (.iface 181 x) 140 167 true).run Tryz.prog w = .ok (.tuple #[.agg #[.int .i64 0, .int .i64 0, .int .i64 0, .slice none 0 0, .slice none 0 0], .bool false]) w := fun _ _ => by kernel_rfl
 have ht3 : ∀ (x : Value) (w : World), (Instr.typeAssert (.iface 181 x) 140 170 true).run Tryz.prog w = .ok (.tuple #[.agg #[.int .i64 0, .int .i64 0, .int .i64 0, .slice none 0 0], .bool false]) w := fun _ _ => by kernel_rfl
 have ht4 : ∀ (x : Value) (w : World), (Instr.typeAssert (.iface 181 x) 140 173 true).run Tryz.prog w = .ok (.tuple #[.agg #[.int .i64 0, .int .i64 0, .int .i64 0, .slice none 0 0, .int .i64 0], .bool false]) w := fun _ _ => by kernel_rfl
 have ht5 : ∀ (x : Value) (w : World), (Instr.typeAssert (.iface 181 x) 140 176 true).run Tryz.prog w = .ok (.tuple #[.agg #[.int .i64 0, .int .i64 0, .int .i64 0, .slice none 0 0, .int .u32 0], .bool false]) w := fun _ _ => by kernel_rfl
 have ht6 : ∀ (x : Value) (w : World), (Instr.typeAssert (.iface 181 x) 140 178 true).run Tryz.prog w = .ok (.tuple #[.agg #[.int .i64 0, .int .i64 0, .int .i64 0, .slice none 0 0], .bool false]) w := fun _ _ => by kernel_rfl
 have ht7 : ∀ (x : Value) (w : World), (Instr.typeAssert (.iface 181 x) 140 179 true).run Tryz.prog w = .ok (.tuple #[.agg #[.int .i64 0, .int .i64 0, .int .i64 0, .slice none 0 0, .int .i64 0], .bool false]) w := fun _ _ => by kernel_rfl
 have HT := hide hT
 have HC : Hid (∀ w0 w1, Below w.heap.size w w0 → Below (w0.setCell ⟨eb, 30, none⟩ (.bool true)).heap.size (w0.setCell ⟨eb, 30, none⟩ (.bool true)) w1 → R w1) := fun w0 w1 hb0 hb1 => by
  obtain ⟨g1, h1, h2⟩ := (h.below hb0).begins
  exact hc _ g1 (ahead_of hb0 h1 h2 hb1)
 have HE : Hid (∀ w0, Below w.heap.size w w0 → w0.cell? ⟨eb, 30, none⟩ = some (.bool g.m.begun) ∧ w0.frozen? ⟨eb, 30, none⟩ = false ∧ eb < w0.heap.size) := fun w0 hb0 => ⟨(h.below hb0).en.c30, (h.below hb0).en.fr 30, (h.below hb0).en.lt⟩
 clear h hT hc
 go_enter Tryz.func69, Tryz.ntmps69
 go_wp2_with fail
 refine HT.out.mono ?_
 rintro e w0 ⟨rfl, hb0⟩
 obtain ⟨k30, f30, hlt⟩ := HE.out w0 hb0
 have HB0 := hide hb0
 clear hb0
 go_wp2
 refine bodyPost_end (results_none rfl _ _ _) rfl (Or.inl ⟨rfl, HC.out w0 _ HB0.out ?_⟩)
 exact (Below.refl _ _).alloc (Nat.le_refl _) _
end
end
section
set_option maxRecDepth 100000 in
set_option maxHeartbeats 400000 in
theorem goesOn_yes (k f n : Int) (sv : Option Addr) (len cb : Nat) (w : World) :
  Calls Tryz.prog 127 #[.iface 167 (.agg #[.int .i64 k, .int .i64 f, .int .i64 n, .slice sv len cb, .slice sv len cb])] w fun e w' => e = .returned (.int .i64 n) ∧ Below w.heap.size w w' := by
 have hta : ∀ (x : Value) (w : World), (Instr.typeAssert (.iface 167 x) 140 167 true).run Tryz.prog w = .ok (.tuple #[x, .bool true]) w := fun _ _ => by kernel_rfl
 go_enter Tryz.func127, Tryz.ntmps127
 go_wp2
 go_ret
 exact ⟨rfl, (Below.refl _ _).alloc (Nat.le_refl _) _⟩
set_option maxRecDepth 100000 in
set_option maxHeartbeats 800000 in
theorem answer_p (eb mb : Nat) (g : GEnd) (x0 x1 x2 : Int) (bv : Value) (w : World) (h : Inv w eb mb g) (hn : 8 ≤ g.ans.length) :
  Calls Tryz.prog 137 #[.pointer (some ⟨eb, 0, none⟩), .agg #[.int .i64 x0, .int .i64 x1, .int .i64 x2, bv]] w fun e w' => e = .panicked [{ v := .iface 41 (.int .i64 14), recovered := false }] ∧ Below w.heap.size w w' := by
 have c42 := h.en.c42
 obtain ⟨sa, ca, hv⟩ := h.ans.len
 rw [hv] at c42
 have hlt := h.en.lt
 have hle : (8 : Int) ≤ (g.ans.length : Int) := by omega
 clear h
 go_enter Tryz.func137, Tryz.ntmps137
 go_wp2
 exact ⟨rfl, rfl, (Below.refl _ _).alloc (Nat.le_refl _) _⟩
set_option maxRecDepth 100000 in
set_option maxHeartbeats 800000 in
theorem comePing_p (eb mb : Nat) (g : GEnd) (f nv : Int) (sv : Option Addr) (len cb : Nat) (w : World) (h : Inv w eb mb g) (hf : 0 ≤ f ∧ f ≤ 255) (hak : hasB f 1 = false) (hn : 8 ≤ g.ans.length) :
  Calls Tryz.prog 101 #[.pointer (some ⟨eb, 0, none⟩), .agg #[.int .i64 4, .int .i64 f, .int .i64 0, .slice sv len cb, .int .u32 nv]] w fun e w' => e = .panicked [{ v := .iface 41 (.int .i64 14), recovered := false }] ∧ Below w.heap.size w w' := by
 have hbA : Below w.heap.size w (w.alloc (.cells #[.int .i64 4, .int .i64 f, .int .i64 0, .slice sv len cb, .int .u32 nv] 176)) := (Below.refl _ _).alloc (Nat.le_refl _) _
 have hnew := heap_alloc_new w (.cells #[.int .i64 4, .int .i64 f, .int .i64 0, .slice sv len cb, .int .u32 nv] 176)
 have HH : Hid (∀ w, Calls Tryz.prog 98 #[.agg #[.int .i64 4, .int .i64 f, .int .i64 0, .slice sv len cb], .int .i64 1] w fun e w' => e = .returned (.bool false) ∧ Below w.heap.size w w') := fun w => by
  have := has_any 4 f 0 1 (.slice sv len cb) w hf.1 (by omega) (Or.inl rfl)
  rw [hak] at this
  exact this
 have HA : Hid (∀ w1, Below w.heap.size w w1 → Calls Tryz.prog 137 #[.pointer (some ⟨eb, 0, none⟩), .agg #[.int .i64 4, .int .i64 1, .int .i64 0, .slice sv len cb]] w1 fun e w' => e = .panicked [{ v := .iface 41 (.int .i64 14), recovered := false }] ∧ Below w.heap.size w w') := fun w1 hb1 => by
  refine (answer_p eb mb g 4 1 0 (.slice sv len cb) w1 (h.below hb1) hn).mono ?_
  rintro e w' ⟨rfl, hb2⟩
  exact ⟨rfl, hb1.trans (hb2.mono hb1.size)⟩
 have HB := hide hbA
 have HC3 : Hid (∀ w1, Below (w.alloc (.cells #[.int .i64 4, .int .i64 f, .int .i64 0, .slice sv len cb, .int .u32 nv] 176)).heap.size (w.alloc (.cells #[.int .i64 4, .int .i64 f, .int .i64 0, .slice sv len cb, .int .u32 nv] 176)) w1 → w1.cell? ⟨w.heap.size, 3, none⟩ = some (.slice sv len cb)) := fun w1 hb1 => by
  rw [cell_of_row _ _ _ _ _ _ (kept_told hnew hb1)]
  rfl
 clear h hf hak hn hbA hnew
 go_enter Tryz.func101, Tryz.ntmps101
 go_wp2_with fail
 refine (HH.out _).mono ?_
 rintro e w1 ⟨rfl, hb1⟩
 have k3 := HC3.out w1 hb1
 have HB1 : Hid (Below w.heap.size w w1) := HB.out.trans (hb1.mono HB.out.size)
 clear hb1
 go_wp2_with fail
 refine (HA.out w1 HB1.out).mono ?_
 rintro e w2 ⟨rfl, hx⟩
 have HX := hide hx
 clear hx
 go_wp2
 exact ⟨rfl, rfl, HX.out⟩
end
section
theorem step_both {P : Program} {ops : Array Oper} {o : Oper} {a : Act} {w : World} {K : Act → World → Prop} {Q : Exit → Act → World → Prop} {E : Prop} (hgd : o.guard = none) (f : Nat) (fn : Func) (hfn : P.funcs[f]? = some fn) (hnm : (fn.name == "runtime.NumGoroutine") = false) (hbd : fn.body.isNone = false) (xs : List Operand) (ts : Array TypeId)
  (ho : o.op = .call { callee := .value (.func f), args := xs.toArray, argTypes := ts }) (vs : List Value) (hvs : xs.map a.eval = vs) (r : Value) (ps : List PanicEntry) {R S : World → Prop} (hc : Calls P f vs.toArray w fun e w' => (e = .returned r ∧ R w') ∨ (e = .panicked ps ∧ S w'))
  (hG : ∀ w', S w' → Q (.panic ps) a w') (hK : ∀ w', R w' → K (a.put o.dst r) w') :
  if Region.wanted o (yielded ops a.tmps) = true then Oper.wp P o a w K Q else E := by
 have hw : Region.wanted o (yielded ops a.tmps) = true := by simp [Region.wanted, hgd]
 rw [if_pos hw]
 unfold Oper.wp
 have he : (callFunc f vs.toArray).run P w = .ok (.enter f vs.toArray) w := by
  unfold callFunc
  simp only [Sem.run_bind, run_program, Result.andThen_ok, hfn, hnm, hbd, Bool.false_eq_true, if_false, Sem.run_pure]
 have hx : (execOp a.eval o).run P w = .ok (.enter f vs.toArray) w := by
  simp [execOp, ho, resolve, invoke, hvs, Act.eval, Deferred.ofValue, he]
 rw [hx, Oper.upon_enter]
 refine hc.mono ?_
 rintro e w' (⟨rfl, hr⟩ | ⟨rfl, hs⟩)
 ·exact hK w' hr
 ·exact hG w' hs
end
section
set_option maxHeartbeats 800000 in
theorem come_turnX (eb : Nat) (t : TypeId) (x : Value) (w : World) (h : Calls Tryz.prog 94 #[.pointer (some ⟨eb, 0, none⟩), .iface t x] w fun e w' => e = faultE 11 ∧ Below w.heap.size w w') :
  Calls Tryz.prog 69 #[.pointer (some ⟨eb, 0, none⟩), .iface t x] w fun e w' => e = faultE 11 ∧ Below w.heap.size w w' := by
 have HT := hide h
 clear h
 go_enter Tryz.func69, Tryz.ntmps69
 go_wp2_with fail
 refine HT.out.mono ?_
 rintro e w0 ⟨rfl, hb0⟩
 have HX := hide hb0
 clear hb0
 simp only [faultE]
 go_wp2
 exact ⟨rfl, rfl, HX.out⟩
theorem opensTalk_noC (x : Value) (w : World) : Calls Tryz.prog 126 #[.iface 167 x] w fun e w' => e = .returned (.bool false) ∧ Below w.heap.size w w' := by
 have hta : ∀ (x : Value) (w : World), (Instr.typeAssert (.iface 167 x) 140 173 true).run Tryz.prog w = .ok (.tuple #[.agg #[.int .i64 0, .int .i64 0, .int .i64 0, .slice none 0 0, .int .i64 0], .bool false]) w := fun _ _ => by kernel_rfl
 go_enter Tryz.func126, Tryz.ntmps126
 go_wp2
 go_ret
 exact ⟨rfl, (Below.refl _ _).alloc (Nat.le_refl _) _⟩
section
variable (eb mb : Nat) (g : GEnd) (w : World) (R S : World → Prop) (code : Int)
set_option maxRecDepth 100000 in
set_option maxHeartbeats 1600000 in
theorem come2_continue (f n : Int) (sv : Option Addr) (len cb : Nat) (h : Inv w eb mb g) (hb : g.m.bstream = n) (hbg : g.m.begun = true) (hf : 0 ≤ f ∧ f ≤ 255) (hc : ∀ w1 g1, Ahead w w1 eb mb g g1 → Calls Tryz.prog 97 #[.pointer (some ⟨eb, 0, none⟩), .agg #[.int .i64 n, g.m.bbytes, .bool g.m.blast], .slice sv len cb, .bool (hasB f 4)] w1 fun e w' => (e = .returned (.tuple #[]) ∧ R w') ∨ (e = .panicked [{ v := .iface 41 (.int .i64 code), recovered := false }] ∧ S w')) :
  Calls Tryz.prog 69 #[.pointer (some ⟨eb, 0, none⟩), .iface 167 (.agg #[.int .i64 7, .int .i64 f, .int .i64 n, .slice sv len cb, .slice sv len cb])] w fun e w' => (e = .returned (.tuple #[]) ∧ R w') ∨ (e = .panicked [{ v := .iface 41 (.int .i64 code), recovered := false }] ∧ S w') := by
 have hta : ∀ (x : Value) (w : World), (Instr.typeAssert (.iface 167 x) 140 167 true).run Tryz.prog w = .ok (.tuple #[x, .bool true]) w := fun _ _ => by kernel_rfl
 have ht0 : ∀ (x : Value) (w : World), (Instr.typeAssert (.iface 167 x) 140 162 true).run Tryz.prog w = .ok (.tuple #[.agg #[.int .i64 0, .int .i64 0, .int .i64 0, .slice none 0 0, .slice none 0 0], .bool false]) w := fun _ _ => by kernel_rfl
 have ht1 : ∀ (x : Value) (w : World), (Instr.typeAssert (.iface 167 x) 140 165 true).run Tryz.prog w = .ok (.tuple #[.agg #[.int .i64 0, .int .i64 0, .int .i64 0, .slice none 0 0, .slice none 0 0], .bool false]) w := fun _ _ => by kernel_rfl
 have hct := checkTurnX eb g.m 167 (.agg #[.int .i64 7, .int .i64 f, .int .i64 n, .slice sv len cb, .slice sv len cb]) false n w h.en (fun w => opensTalk_noC _ w) (fun w => goesOn_yes 7 f n sv len cb w)
 have htr : g.m.turn false n = true := by unfold EndM.turn; rw [hbg, hb]; simp
 rw [htr, if_pos rfl] at hct
 have HT := hide hct
 have HC : Hid (∀ w0 w1, Below w.heap.size w w0 → Below (w0.setCell ⟨eb, 30, none⟩ (.bool true)).heap.size (w0.setCell ⟨eb, 30, none⟩ (.bool true)) w1 → Calls Tryz.prog 97 #[.pointer (some ⟨eb, 0, none⟩), .agg #[.int .i64 n, g.m.bbytes, .bool g.m.blast], .slice sv len cb, .bool (hasB f 4)] w1 fun e w' => (e = .returned (.tuple #[]) ∧ R w') ∨ (e = .panicked [{ v := .iface 41 (.int .i64 code), recovered := false }] ∧ S w')) := fun w0 w1 hb0 hb1 => by
  obtain ⟨g1, h1, h2⟩ := (h.below hb0).begins
  exact hc _ g1 (ahead_of hb0 h1 h2 hb1)
 have HE : Hid (∀ w0, Below w.heap.size w w0 → w0.cell? ⟨eb, 30, none⟩ = some (.bool g.m.begun) ∧ w0.frozen? ⟨eb, 30, none⟩ = false ∧ eb < w0.heap.size ∧ ∀ w1, Below (w0.setCell ⟨eb, 30, none⟩ (.bool true)).heap.size (w0.setCell ⟨eb, 30, none⟩ (.bool true)) w1 → w1.cell? ⟨eb, 31, none⟩ = some (.int .i64 n) ∧ w1.cell? ⟨eb, 32, none⟩ = some g.m.bbytes ∧ w1.cell? ⟨eb, 33, none⟩ = some (.bool g.m.blast)) := fun w0 hb0 => by
  refine ⟨(h.below hb0).en.c30, (h.below hb0).en.fr 30, (h.below hb0).en.lt, fun w1 hb1 => ?_⟩
  have hen : EnB (w0.setCell ⟨eb, 30, none⟩ (.bool true)) eb { g.m with begun := true } := ⟨(blk_set (h.below hb0).en.blk).trans (by simp [EndM.cells])⟩
  have hen1 := hen.below hb1
  refine ⟨?_, hen1.c32, hen1.c33⟩
  rw [hen1.c31]
  exact congrArg (fun z => some (Value.int .i64 z)) hb
 have HHB : Hid (∀ (wx : World), Calls Tryz.prog 98 #[.agg #[.int .i64 7, .int .i64 f, .int .i64 n, .slice sv len cb], .int .i64 4] wx fun e w' => e = .returned (.bool (hasB f 4)) ∧ Below wx.heap.size wx w') := fun wx => has4_any 7 f n (.slice sv len cb) wx hf.1 (by omega)
 clear h hb hbg hc hct htr hf
 go_enter Tryz.func69, Tryz.ntmps69
 go_wp2_with fail
 refine HT.out.mono ?_
 rintro e w0 ⟨rfl, hb0⟩
 obtain ⟨k30, f30, hlt, hcells⟩ := HE.out w0 hb0
 have HB0 := hide hb0
 have HCE := hide hcells
 clear hb0 hcells
 obtain ⟨W1, hW1⟩ : ∃ W1, W1 = (w0.setCell ⟨eb, 30, none⟩ (.bool true)).alloc (.cells #[.int .i64 7, .int .i64 f, .int .i64 n, .slice sv len cb, .slice sv len cb] 167) := ⟨_, rfl⟩
 have hbW : Below (w0.setCell ⟨eb, 30, none⟩ (.bool true)).heap.size (w0.setCell ⟨eb, 30, none⟩ (.bool true)) W1 := by rw [hW1]; exact (Below.refl _ _).alloc (Nat.le_refl _) _
 have hbox : W1.heap[w0.heap.size]? = some (.cells #[.int .i64 7, .int .i64 f, .int .i64 n, .slice sv len cb, .slice sv len cb] 167 (0, 0)) := by
  have := heap_alloc_new (w0.setCell ⟨eb, 30, none⟩ (.bool true)) (.cells #[.int .i64 7, .int .i64 f, .int .i64 n, .slice sv len cb, .slice sv len cb] 167)
  rw [← hW1] at this
  simpa using this
 have HCX : Hid (∀ wx, Below W1.heap.size W1 wx → wx.cell? ⟨eb, 31, none⟩ = some (.int .i64 n) ∧ wx.cell? ⟨eb, 32, none⟩ = some g.m.bbytes ∧ wx.cell? ⟨eb, 33, none⟩ = some (.bool g.m.blast) ∧ wx.cell? ⟨w0.heap.size, 0, none⟩ = some (.int .i64 7) ∧ wx.cell? ⟨w0.heap.size, 1, none⟩ = some (.int .i64 f) ∧ wx.cell? ⟨w0.heap.size, 2, none⟩ = some (.int .i64 n) ∧ wx.cell? ⟨w0.heap.size, 3, none⟩ = some (.slice sv len cb) ∧ wx.cell? ⟨w0.heap.size, 4, none⟩ = some (.slice sv len cb)) := fun wx hbx => by
  obtain ⟨d1, d2, d3⟩ := HCE.out wx (hbW.trans (hbx.mono hbW.size))
  have hb2 := kept_told hbox hbx
  refine ⟨d1, d2, d3, ?_, ?_, ?_, ?_, ?_⟩ <;> (rw [cell_of_row _ _ _ _ _ _ hb2]; rfl)
 obtain ⟨a1, a2, a3, b0, b1, b2, b3, b4⟩ := HCX.out W1.drew (Below.drew (Below.refl _ _))
 have HCP : Hid (∀ w2, Below W1.heap.size W1 w2 → Calls Tryz.prog 97 #[.pointer (some ⟨eb, 0, none⟩), .agg #[.int .i64 n, g.m.bbytes, .bool g.m.blast], .slice sv len cb, .bool (hasB f 4)] w2 fun e w' => (e = .returned (.tuple #[]) ∧ R w') ∨ (e = .panicked [{ v := .iface 41 (.int .i64 code), recovered := false }] ∧ S w')) := fun w2 hb2 => HC.out w0 w2 HB0.out (hbW.trans (hb2.mono hbW.size))
 have HW1 := hide hW1
 clear hbW hbox hW1 HC HE
 generalize g.m.bbytes = bv at *
 generalize g.m.blast = bl at *
 go_upto_region 11 with fail
 rw [← HW1.out]
 go_region_law (first
  | (refine step_call rfl 98 Tryz.f98 Tryz.func98 (by kernel_rfl) rfl [.tmp 45, .const (.int .i64 4)] #[160, 3] rfl [.agg #[.int .i64 7, .int .i64 f, .int .i64 n, .slice sv len cb], .int .i64 4] (by simp [Act.eval, Act.put]) (HHB.out W1.drew) ?_; rintro e w2 ⟨rfl, hb2⟩; refine ⟨_, rfl, ?_⟩; have hbx : Below W1.heap.size W1 w2 := ⟨hb2.os, hb2.tape, hb2.output, hb2.size, hb2.block⟩; obtain ⟨u1, u2, u3, v0, v1, v2, v3, v4⟩ := HCX.out w2 hbx; have HCP2 := hide (HCP.out w2 hbx); clear hb2 hbx)
  | (refine step_both rfl 97 Tryz.f97 Tryz.func97 (by kernel_rfl) rfl [.tmp 36, .tmp 41, .tmp 43, .tmp 46] #[123, 87, 44, 4] rfl [.pointer (some ⟨eb, 0, none⟩), .agg #[.int .i64 n, bv, .bool bl], .slice sv len cb, .bool (hasB f 4)] (by simp [Act.eval, Act.put]) _ _ HCP2.out (fun w3 hs => ⟨rfl, Or.inr ⟨rfl, hs⟩⟩) ?_; intro w3 hR; have HR := hide hR; clear hR))
 all_goals (go_wp2; exact bodyPost_end (results_none rfl _ _ _) rfl (Or.inl ⟨rfl, HR.out⟩))
end
end
section
set_option maxRecDepth 100000 in
set_option maxHeartbeats 1600000 in
theorem comeCredit_p (eb : Nat) (m : EndM) (f nv : Int) (sv : Option Addr) (len cb : Nat) (w : World) (h : EnB w eb m) (h1 : 2147483647 < m.send + nv) (h2 : m.send ≤ 1099511627776) (h3 : nv ≤ 1099511627776) :
  Calls Tryz.prog 102 #[.pointer (some ⟨eb, 0, none⟩), .agg #[.int .i64 6, .int .i64 f, .int .i64 0, .slice sv len cb, .int .i64 nv]] w fun e w' => e = .panicked [{ v := .iface 41 (.int .i64 12), recovered := false }] ∧ Below w.heap.size w w' := by
 have hbA : Below w.heap.size w (w.alloc (.cells #[.int .i64 6, .int .i64 f, .int .i64 0, .slice sv len cb, .int .i64 nv] 179)) := (Below.refl _ _).alloc (Nat.le_refl _) _
 have hnew := heap_alloc_new w (.cells #[.int .i64 6, .int .i64 f, .int .i64 0, .slice sv len cb, .int .i64 nv] 179)
 obtain ⟨wA, hwA⟩ : ∃ wA, wA = w.alloc (.cells #[.int .i64 6, .int .i64 f, .int .i64 0, .slice sv len cb, .int .i64 nv] 179) := ⟨_, rfl⟩
 rw [← hwA] at hbA hnew
 have hA := h.below hbA
 have z2 : wA.cell? ⟨w.heap.size, 2, none⟩ = some (.int .i64 0) := by rw [cell_of_row _ _ _ _ _ _ hnew]; rfl
 have z4 : wA.cell? ⟨w.heap.size, 4, none⟩ = some (.int .i64 nv) := by rw [cell_of_row _ _ _ _ _ _ hnew]; rfl
 have c4 := hA.c4
 have hwr : IntKind.i64.wrap (m.send + nv) = m.send + nv := by rw [IntKind.wrap_i64]; omega
 have HC : Hid (Calls Tryz.prog 136 #[.int .i64 (m.send + nv)] wA.drew fun e w' => e = .panicked [{ v := .iface 41 (.int .i64 12), recovered := false }] ∧ Below w.heap.size w w') := (checkWindow_p (m.send + nv) wA.drew h1).mono fun e w' hx => ⟨hx.1, by rw [hx.2]; exact hbA.drew⟩
 have hltb : w.heap.size < wA.heap.size := lt_of_block hnew
 have HWA := hide hwA
 clear h hA hbA hnew h1 h2 h3
 go_enter Tryz.func102, Tryz.ntmps102
 go_upto_region 2 with fail
 rw [← HWA.out]
 clear hwA
 go_region_law (refine step_gone rfl 136 Tryz.f136 Tryz.func136 (by kernel_rfl) rfl [.tmp 17] #[3] rfl [.int .i64 (m.send + nv)] (by simp [Act.eval, Act.put]) HC.out (fun e w3 he => ⟨_, he.1, rfl, rfl, he.2⟩) (.tuple #[]) ?_; intro hf; have HFL : Hid False := hf; clear hf)
 all_goals exact HFL.out.elim
end
section
set_option maxRecDepth 100000 in
set_option maxHeartbeats 1600000 in
theorem comeCredit_great (eb mb : Nat) (g : GEnd) (s : GSt) (f n : Int) (sv : Option Addr) (len cb : Nat) (w : World) (h : Inv w eb mb g) (hs : s ∈ g.K) (h0 : s.st.number ≠ 0) (ha : s.st.announced = true) (hr : s.st.reset = 0) (hn : 2147483647 < g.m.other + s.st.send + n) (hn0 : 0 ≤ n ∧ n ≤ 1099511627776) (b1 : -1099511627776 ≤ g.m.other ∧ g.m.other ≤ 1099511627776) (b2 : -1099511627776 ≤ s.st.send ∧ s.st.send ≤ 1099511627776) :
  Calls Tryz.prog 102 #[.pointer (some ⟨eb, 0, none⟩), .agg #[.int .i64 6, .int .i64 f, .int .i64 s.st.number, .slice sv len cb, .int .i64 n]] w fun e w' => e = faultE 12 ∧ Below w.heap.size w w' := by
 obtain ⟨w0, hw0⟩ : ∃ w0, w0 = w.alloc (.cells #[.int .i64 6, .int .i64 f, .int .i64 s.st.number, .slice sv len cb, .int .i64 n] 179) := ⟨_, rfl⟩
 have hfr : w0.heap[w.heap.size]? = some (.cells #[.int .i64 6, .int .i64 f, .int .i64 s.st.number, .slice sv len cb, .int .i64 n] 179 (0, 0)) := by rw [hw0]; exact heap_alloc_new w _
 have hb0 : Below w.heap.size w w0 := by rw [hw0]; exact (Below.refl _ _).alloc (Nat.le_refl _) _
 have y2 : w0.cell? ⟨w.heap.size, 2, none⟩ = some (.int .i64 s.st.number) := by rw [cell_of_row _ _ _ _ _ _ hfr]; rfl
 have hi0 := h.below hb0
 have hst := hi0.st hs
 have han := announced_any eb mb g.m (g.K.map GSt.str) s.st.number w0 hi0.en hi0.km hi0.kn
 rw [hi0.find hs] at han
 have han : Calls Tryz.prog 128 #[.pointer (some ⟨eb, 0, none⟩), .int .i64 s.st.number] w0 fun e w' => w' = w0 ∧ e = .returned (.pointer (some ⟨s.sb, 0, none⟩)) := by
  refine han.mono ?_
  rintro e w' ⟨h1, h2⟩
  refine ⟨h1, ?_⟩
  have h2 : if s.st.announced then e = .returned (.pointer (some ⟨s.sb, 0, none⟩)) else e = .panicked [{ v := .iface 41 (.int .i64 11), recovered := false }] := h2
  rw [ha] at h2
  simpa using h2
 have hrs := isReset_any s.sb s.st w0 hst
 rw [show (!(s.st.reset == 0)) = false from by rw [hr]; rfl] at hrs
 have HAN := hide han
 have HRS := hide hrs
 have HSW := hide (sendWindow_any eb s.sb g.m s.st w0.drew (hi0.en.below (Below.drew (Below.refl _ _))) (hst.below (Below.drew (Below.refl _ _))) (by omega) (by omega) (by omega) (by omega))
 have hw1 : IntKind.i64.wrap (g.m.other + s.st.send + n) = g.m.other + s.st.send + n := by rw [IntKind.wrap_i64]; omega
 have hw2 : IntKind.i64.wrap (s.st.send + n) = s.st.send + n := by rw [IntKind.wrap_i64]; omega
 have HCK := hide (fun W => checkWindow_p (g.m.other + s.st.send + n) W hn)
 have hne : (s.st.number == 0) = false := by simp [h0]
 have HFR := hide hfr
 have HB0 := hide hb0
 have HW0 := hide hw0
 clear h hs h0 ha hr hn hn0 b1 b2 hfr hb0 hi0 hst han hrs hw0
 go_enter Tryz.func102, Tryz.ntmps102
 go_upto_region 1 with fail
 rw [← HW0.out]
 go_wp2_with fail
 refine HAN.out.mono ?_
 rintro e w' ⟨hw', rfl⟩
 rw [hw']
 clear hw' w'
 go_wp2_with fail
 refine HRS.out.mono ?_
 rintro e w' ⟨rfl, hw'⟩
 rw [hw']
 clear hw' w'
 have y4 : w0.cell? ⟨w.heap.size, 4, none⟩ = some (.int .i64 n) := by rw [cell_of_row _ _ _ _ _ _ HFR.out]; rfl
 go_upto_region 6 with fail
 go_region_law (first
  | (refine step_call rfl 66 Tryz.f66 Tryz.func66 (by kernel_rfl) rfl [.tmp 38, .tmp 39] #[123, 124] rfl [.pointer (some ⟨eb, 0, none⟩), .pointer (some ⟨s.sb, 0, none⟩)] (by simp [Act.eval, Act.put]) HSW.out ?_; rintro e w2 ⟨rfl, hb2⟩; refine ⟨_, rfl, ?_⟩; have hbx : Below w0.heap.size w0 w2 := ⟨hb2.os, hb2.tape, hb2.output, hb2.size, hb2.block⟩; have q4 : w2.cell? ⟨w.heap.size, 4, none⟩ = some (.int .i64 n) := (by rw [cell_of_row _ _ _ _ _ _ (kept_told HFR.out hbx)]; rfl); have HB2 := hide hbx; clear hb2 hbx)
  | (refine step_gone rfl 136 Tryz.f136 Tryz.func136 (by kernel_rfl) rfl [.tmp 43] #[3] rfl [.int .i64 (g.m.other + s.st.send + n)] (by simp [Act.eval, Act.put, hw1]) (HCK.out _) (fun e w3 he => ⟨_, he.1, rfl, rfl, by rw [he.2]; exact HB0.out.trans (HB2.out.mono HB0.out.size)⟩) (.tuple #[]) ?_; intro hf; have HFL : Hid False := hf; clear hf))
 all_goals exact HFL.out.elim
end
section
theorem heap_setCs_same (g : Nat) : ∀ (vs : List Value) (o : Nat) (w : World) (C : Array Value) (t : TypeId) (fr : Nat × Nat), w.heap[g]? = some (.cells C t fr) → ∃ C', (w.setCells g o vs).heap[g]? = some (.cells C' t fr) ∧ C'.size = C.size ∧ ∀ j, C'[j]? = if o ≤ j ∧ j < o + vs.length ∧ j < C.size then vs[j - o]? else C[j]?
 | [], o, w, C, t, fr, h => ⟨C, h, rfl, fun j => by rw [if_neg (by simp; omega)]⟩
 | v :: r, o, w, C, t, fr, h => by
  rw [World.setCells]
  obtain ⟨C', h1, h2, h3⟩ := heap_setCs_same g r (o + 1) (w.setCell ⟨g, o, none⟩ v) (C.setIfInBounds o v) t fr (block_setCell h)
  refine ⟨C', h1, by simpa using h2, fun j => ?_⟩
  rw [h3 j]
  simp only [Array.size_setIfInBounds, List.length_cons, Array.getElem?_setIfInBounds]
  by_cases hj : o = j
  ·subst hj
   rw [if_neg (by omega)]
   by_cases hs : o < C.size
   ·simp [hs]
   ·simp [hs]
  ·simp only [if_neg hj]
   by_cases hin : o + 1 ≤ j ∧ j < o + 1 + r.length ∧ j < C.size
   ·rw [if_pos hin, if_pos (by omega)]
    have : j - o = (j - (o + 1)) + 1 := by omega
    rw [this, List.getElem?_cons_succ]
   ·rw [if_neg hin, if_neg (by omega)]
theorem chg_setCs {S : Nat → Prop} {g : Nat} {a : World} (hp : S g) : ∀ (vs : List Value) (o : Nat) (w : World), Chg S a w → Chg S a (w.setCells g o vs)
 | [], _, _, h => h
 | v :: r, o, _, h => chg_setCs hp r (o + 1) _ (chg_set h hp)
theorem rowAt_app {P : Program} (w : World) (t ty e : TypeId) (i : TypeInfo) (z : Value) (size bytes : Nat) (ht : P.underlying t = some (.slice e)) (hi : P.info? e = some i) (hz : i.zero = some z)
  (hsize : i.size = size) (hby : i.bytes = bytes) (hzs : z.cells.size = size) (hsz : 0 < size)
  (v : Value) (n : Nat) (xs : List Value) (hrow : RowAt w e size v n xs)
  (ad : Addr) (m c : Nat) (news : List Value) (hl : news.length = m * size) (hcells : ∀ j u, news[j]? = some u → w.cell? (ad.add j) = some u) (h1 : ∀ u ∈ news, u.oneCell' = true)
  (h63 : n + m ≤ maxLen) (hbytes : (n + m) * bytes ≤ 140737488355328) (hm : 0 < m) :
  ∃ v' w', (Builtin.append_ #[t, t] ty #[v, .slice (some ad) m c]).run P w = .ok v' w' ∧ RowAt w' e size v' (n + m) (xs ++ news) ∧ Chg (fun j => v.ownBlock = some j) w w' ∧ (v'.ownBlock = v.ownBlock ∨ v'.ownBlock = some w.heap.size) ∧ ∃ g o cap, v' = .slice (some ⟨g, o, none⟩) (n + m) cap := by
 have hsmall : n + m ≤ 9223372036854775807 := by simp only [maxLen] at h63; omega
 subst hsize
 subst hby
 have hlx : (xs ++ news).length = (n + m) * i.size := by rw [List.length_append, hrow.1, hl, Nat.add_mul]
 rcases hrow.2 with ⟨rfl, rfl⟩ | ⟨g, o, cap, cur, rfl, hg, hnc, hcm, hcs, htake⟩
 ·obtain ⟨v', w', hr, h2, h3, h4⟩ := run_app (P := P) w t ty e i z i.size i.bytes ht hi hz rfl rfl hzs hsz (.slice none 0 0) 0 [] (World.ownsRow_nil _ _ _ _) (.slice (some ad) m c) m news hl (Or.inr ⟨ad, c, rfl, hcells⟩) h1 h63 hbytes
  have hx0 : xs = [] := List.length_eq_zero_iff.1 (by rw [hrow.1, Nat.zero_mul])
  subst hx0
  refine ⟨v', w', hr, RowAt.of_owns h2, ⟨h3.os, h3.tape, h3.output, h3.size, fun j hj hs => h3.block j hj (fun e => hs e.symm)⟩, h4, ?_⟩
  rcases h2.2 with ⟨-, h0⟩ | ⟨g, cap, cur, h5, -⟩
  ·omega
  ·exact ⟨g, 0, cap, h5⟩
 ·have hcell : ∀ j u, xs[j]? = some u → w.cell? ((⟨g, o, none⟩ : Addr).add j) = some u := fun j u hu => by
   rw [Addr.add_mid, cell_of_row _ _ _ _ _ _ hg]
   have hjl := (List.getElem?_eq_some_iff.1 hu).1
   rw [← htake, List.getElem?_take, if_pos (by rw [← hrow.1]; exact hjl), List.getElem?_drop, Array.getElem?_toList] at hu
   exact hu
  by_cases hroom : n + m ≤ cap
  ·have hfit : o + (n + m) * i.size ≤ cur.size := by
    have := Nat.mul_le_mul_right i.size hroom
    omega
   rw [Nat.add_mul] at hfit
   have hr := run_append_room_cells (P := P) (w := w) t ty e i ht hi g o n cap ad m c news hl hcells h1 hroom (fun j hj => by rw [cell_of_row _ _ _ _ _ _ hg, Array.getElem?_eq_getElem (by omega)]; rfl) (fun j hj => by simp [World.frozen?, hg])
   obtain ⟨C', c1, c2, c3⟩ := heap_setCs_same g news (o + n * i.size) w cur e (0, 0) hg
   refine ⟨_, _, hr, ⟨hlx, Or.inr ⟨g, o, cap, C', rfl, c1, hroom, hcm, by rw [c2]; exact hcs, ?_⟩⟩, chg_setCs (S := fun j => (Value.slice (some ⟨g, o, none⟩) n cap).ownBlock = some j) rfl news _ w (Chg.refl _ _), Or.inl rfl, g, o, cap, rfl⟩
   apply List.ext_getElem?
   intro j
   rw [List.getElem?_take, List.getElem?_drop, Array.getElem?_toList, c3]
   by_cases hj : j < (n + m) * i.size
   ·rw [if_pos hj]
    rw [Nat.add_mul] at hj
    by_cases hj2 : j < n * i.size
    ·rw [if_neg (by omega), List.getElem?_append_left (by rw [hrow.1]; exact hj2), ← htake, List.getElem?_take, if_pos hj2, List.getElem?_drop, Array.getElem?_toList]
    ·rw [if_pos (by omega), List.getElem?_append_right (by rw [hrow.1]; omega), hrow.1]
     congr 1
     omega
   ·rw [if_neg hj, List.getElem?_eq_none (by rw [hlx]; omega)]
  ·have hr := run_append_grow (P := P) w t ty e i z ht hi hz ⟨g, o, none⟩ n cap xs hrow.1 hcell ad m c news hl hcells (by omega) (by omega) (growslice_fits (by omega) hbytes)
   have hge := grownCap_ge w (n + m) cap e
   have hbl := heap_alloc_new w.drew (.cells (xs.toArray ++ news.toArray ++ Builtin.zeroCells z.cells (grownCap w (n + m) cap e - (n + m))) e)
   have hch : Chg (fun j => (Value.slice (some ⟨g, o, none⟩) n cap).ownBlock = some j) w (w.drew.alloc (.cells (xs.toArray ++ news.toArray ++ Builtin.zeroCells z.cells (grownCap w (n + m) cap e - (n + m))) e)) := Chg.of_below (((Below.refl _ _).drew).alloc (Nat.le_refl _) _)
   refine ⟨_, _, hr, ⟨hlx, Or.inr ⟨w.heap.size, 0, _, _, rfl, hbl, hge, grownCap_le_maxLen w (n + m) cap e h63, ?_, ?_⟩⟩, hch, Or.inr rfl, _, _, _, rfl⟩
   ·rw [Array.size_append, Array.size_append, List.size_toArray, List.size_toArray]
    have hz2 : (Builtin.zeroCells z.cells (grownCap w (n + m) cap e - (n + m))).size = (grownCap w (n + m) cap e - (n + m)) * i.size := by rw [size_zeroCells, hzs]
    rw [hz2, hrow.1, hl, ← Nat.add_mul, ← Nat.add_mul]
    have : n + m + (grownCap w (n + m) cap e - (n + m)) = grownCap w (n + m) cap e := by omega
    rw [this]
    omega
   ·rw [List.drop_zero, Array.toList_append, Array.toList_append, List.take_append_of_le_length (by simp [hrow.1, hl, Nat.add_mul])]
    rw [List.take_of_length_le (by simp [hrow.1, hl, Nat.add_mul])]
theorem step_appR {P : Program} {ops : Array Oper} {o : Oper} {a : Act} {w : World} {K : Act → World → Prop} {Q : Exit → Act → World → Prop} {E : Prop} (hgd : o.guard = none) (s y : Operand) (t : TypeId)
  (ho : o.op = .call { callee := .builtin .append, args := #[s, y], argTypes := #[t, t] })
  (e : TypeId) (i : TypeInfo) (z : Value) (size bytes : Nat) (ht : P.underlying t = some (.slice e)) (hi : P.info? e = some i) (hz : i.zero = some z)
  (hsize : i.size = size) (hby : i.bytes = bytes) (hzs : z.cells.size = size) (hsz : 0 < size)
  (v : Value) (n : Nat) (xs : List Value) (hs : a.eval s = v) (hrow : RowAt w e size v n xs)
  (ad : Addr) (m c : Nat) (news : List Value) (hx : a.eval y = .slice (some ad) m c) (hl : news.length = m * size) (hnews : ∀ j u, news[j]? = some u → w.cell? (ad.add j) = some u) (h1 : ∀ u ∈ news, u.oneCell' = true)
  (h63 : n + m ≤ maxLen) (hbytes : (n + m) * bytes ≤ 140737488355328) (hm : 0 < m)
  (hK : ∀ v' w', RowAt w' e size v' (n + m) (xs ++ news) → Chg (fun j => v.ownBlock = some j) w w' → (v'.ownBlock = v.ownBlock ∨ v'.ownBlock = some w.heap.size) → (∃ g o cap, v' = .slice (some ⟨g, o, none⟩) (n + m) cap) → K (a.put o.dst v') w') :
  if Region.wanted o (yielded ops a.tmps) = true then Oper.wp P o a w K Q else E := by
 have hw : Region.wanted o (yielded ops a.tmps) = true := by simp [Region.wanted, hgd]
 rw [if_pos hw]
 obtain ⟨v', w', hr, h2, h3, h4, h5⟩ := rowAt_app (P := P) w t o.type e i z size bytes ht hi hz hsize hby hzs hsz v n xs hrow ad m c news hl hnews h1 h63 hbytes hm
 unfold Oper.wp
 simp [execOp, ho, resolve, invoke, builtin, hs, hx, hr, Result.andThen]
 exact hK v' w' h2 h3 h4 h5
end
section
set_option maxRecDepth 100000 in
set_option maxHeartbeats 1600000 in
theorem answer_any (eb mb : Nat) (g : GEnd) (x0 x1 : Int) (sb : Option Addr) (len cb : Nat) (w : World) (h : Inv w eb mb g) (hn : g.ans.length < 8) :
  Calls Tryz.prog 137 #[.pointer (some ⟨eb, 0, none⟩), .agg #[.int .i64 x0, .int .i64 x1, .int .i64 0, .slice sb len cb]] w fun e w' => e = .returned (.tuple #[]) ∧ ∃ gr go cr, EnB w' eb { g.m with answers := .slice (some ⟨gr, go, none⟩) (g.ans.length + 1) cr } ∧ RowAt w' 48 4 (.slice (some ⟨gr, go, none⟩) (g.ans.length + 1) cr) (g.ans.length + 1) (g.ans.flatMap Ans.cells ++ [.int .i64 x0, .int .i64 x1, .int .i64 0, .slice sb len cb]) ∧ Chg (fun j => j = eb ∨ g.m.answers.ownBlock = some j) w w' ∧ (g.m.answers.ownBlock = some gr ∨ w.heap.size ≤ gr) := by
 obtain ⟨i0, hi, hz0, hz1, hz2⟩ := info_parts Tryz.info48
 have c42 := h.en.c42
 obtain ⟨sa, ca, hv⟩ := h.ans.len
 have hrow := h.ans
 rw [hv] at c42 hrow
 rw [hv]
 have f42 := h.en.fr 42
 have hlt := h.en.lt
 have hne : (Value.slice sa g.ans.length ca).ownBlock ≠ some eb := by rw [← hv]; exact h.ans.ne h.en.blk (by decide)
 have HNE := hide hne
 have H := hide h.en
 have HROW : Hid (RowAt ((w.alloc (.cells #[.int .i64 x0, .int .i64 x1, .int .i64 0, .slice sb len cb] 48)).alloc (.cells #[.int .i64 x0, .int .i64 x1, .int .i64 0, .slice sb len cb] 48)).drew 48 4 (.slice sa g.ans.length ca) g.ans.length (g.ans.flatMap Ans.cells)) := hrow.chg (S := fun _ => False) (((Chg.refl (fun _ => False) w).alloc _).alloc _).drew (fun _ _ => id)
 have HLIE : Hid (∀ j u, ([.int .i64 x0, .int .i64 x1, .int .i64 0, .slice sb len cb] : List Value)[j]? = some u → ((w.alloc (.cells #[.int .i64 x0, .int .i64 x1, .int .i64 0, .slice sb len cb] 48)).alloc (.cells #[.int .i64 x0, .int .i64 x1, .int .i64 0, .slice sb len cb] 48)).drew.cell? ((⟨w.heap.size + 1, 0, none⟩ : Addr).add j) = some u) := fun j u hu => by
  have q := lies_row (w := w.alloc (.cells #[.int .i64 x0, .int .i64 x1, .int .i64 0, .slice sb len cb] 48)) (xs := [.int .i64 x0, .int .i64 x1, .int .i64 0, .slice sb len cb]) (t := 48) j u hu
  rw [show (w.alloc (.cells #[.int .i64 x0, .int .i64 x1, .int .i64 0, .slice sb len cb] 48)).heap.size = w.heap.size + 1 from by simp] at q
  exact q
 have hlen : (g.ans.length : Int) < 8 := by omega
 obtain ⟨m0, hm0⟩ : ∃ m0, m0 = g.m := ⟨_, rfl⟩
 rw [← hm0] at H ⊢
 generalize g.ans.flatMap Ans.cells = xs at *
 generalize g.ans.length = n at *
 clear h hv hrow hne hm0
 go_enter Tryz.func137, Tryz.ntmps137
 go_upto_region 3 with fail
 go_region_law (first
  | (refine step_appR rfl (.tmp 17) (.tmp 19) 39 rfl 48 i0 (.agg #[.int .i64 0, .int .i64 0, .int .i64 0, .slice none 0 0]) 4 48 Tryz.underlying39 hi hz0 hz1 hz2 rfl (by decide) (.slice sa n ca) n xs (by simp [Act.eval, Act.put]) HROW.out ⟨w.heap.size + 1, 0, none⟩ 1 1 [.int .i64 x0, .int .i64 x1, .int .i64 0, .slice sb len cb] (by simp [Act.eval, Act.put]) rfl HLIE.out (by intro u hu; simp only [List.mem_cons, List.not_mem_nil, or_false] at hu; rcases hu with rfl | rfl | rfl | rfl <;> rfl) (by unfold maxLen; omega) (by omega) (by decide) ?_; intro v3 w3 ho3 hg3 hfr3 hsh3; obtain ⟨gr, go, cr, hv3⟩ := hsh3; subst hv3; have hcg : Chg (fun j => (Value.slice sa n ca).ownBlock = some j) w w3 := (((Chg.refl (fun j => (Value.slice sa n ca).ownBlock = some j) w).alloc (.cells #[.int .i64 x0, .int .i64 x1, .int .i64 0, .slice sb len cb] 48)).alloc (.cells #[.int .i64 x0, .int .i64 x1, .int .i64 0, .slice sb len cb] 48)).drew.trans (hg3.mono fun j _ e => Or.inr e); have k42 : w3.cell? ⟨eb, 42, none⟩ = some (.slice sa n ca) := (by rw [hcg.cell (p := ⟨eb, 42, none⟩) hlt HNE.out]; exact c42); have g42 : w3.frozen? ⟨eb, 42, none⟩ = false := (by rw [hcg.frozen (p := ⟨eb, 42, none⟩) hlt HNE.out]; exact f42); have HO3 := hide ho3; have HCG := hide hcg; have HF3 := hide hfr3; clear ho3 hg3 hfr3 hcg))
 all_goals go_wp2
 all_goals
  have hE3 : EnB w3 eb m0 := H.out.chg HCG.out HNE.out
  have hset : Chg (fun j => j = eb) w3 (w3.setCell ⟨eb, 42, none⟩ (.slice (some ⟨gr, go, none⟩) (n + 1) cr)) := chg_set (Chg.refl _ _) rfl
  refine bodyPost_end (results_none rfl _ _ _) rfl ⟨rfl, gr, go, cr, EnB.of (blk_set hE3.blk) rfl, HO3.out.chg hset (fun j hj e => by rw [e] at hj; exact HO3.out.ne hE3.blk (by decide) hj), (HCG.out.mono fun _ _ e => Or.inr e).trans (hset.mono fun j _ e => Or.inr (Or.inl e)), ?_⟩
  rcases HF3.out with e | e
  ·exact Or.inl e.symm
  ·refine Or.inr ?_
   simp [Value.ownBlock] at e
   omega
theorem Inv.answers {w w' : World} {eb mb : Nat} {g : GEnd} {v : Value} {a : Ans} (h : Inv w eb mb g) (hc : Chg (fun j => j = eb ∨ g.m.answers.ownBlock = some j) w w') (hen : EnB w' eb { g.m with answers := v }) (hr : RowAt w' 48 4 v (g.ans.length + 1) (g.ans.flatMap Ans.cells ++ a.cells)) (hfr : ∀ j, v.ownBlock = some j → g.m.answers.ownBlock = some j ∨ w.heap.size ≤ j)
  (hb : w.ownsRow 0 5 1 a.bv a.body.length (a.body.map B)) (hbn : ∀ j, a.bv.ownBlock = some j → ¬ Foot eb mb g j) {w0 : World} {g0 : GEnd} (hn0 : Next w0 w eb mb g0 g) (hb0 : ∀ j, a.bv.ownBlock = some j → Foot eb mb g0 j ∨ w0.heap.size ≤ j) :
  Next w0 w' eb mb g0 { g with m := { g.m with answers := v }, ans := g.ans ++ [a] } := by
 have hrow : ∀ {k : Nat} {v' : Value} {xs : List Value} {ty : TypeId}, ty ≠ 103 → ty ≠ 48 → w.ownsRow 0 ty 1 v' k xs → w'.ownsRow 0 ty 1 v' k xs := fun hne hne2 hr => owns_chg hr hc (fun j hj e => by
  rcases e with e | e
  ·rw [e] at hj; exact owns_ne hr h.en.blk hne hj
  ·exact rows_ne2 hr h.ans hne2 hj e)
 have hmb : g.m.answers.ownBlock ≠ some mb := rowAt_mb h.kn h.ans
 refine ⟨⟨hen, h.kn.chg hc ?_ (fun p hp => ?_), h.km, h.nd, h.nn, h.ln, h.has, hrow (by decide) (by decide) h.row, hrow (by decide) (by decide) h.out, hrow (by decide) (by decide) h.got, fun p hp => hrow (by decide) (by decide) (h.un p hp), fun p hp => hrow (by decide) (by decide) (h.wa p hp), ?_, ?_, ?_, ?_⟩, hn0.chg.trans (hc.mono fun j _ e => ?_), ?_⟩
 ·rintro (e | e)
  ·exact h.eb_mb e
  ·exact hmb e
 ·obtain ⟨q, hq, rfl⟩ := List.mem_map.1 hp
  rintro (e | e)
  ·exact h.st_eb hq e
  ·exact h.ans.ne (h.st hq).blk (by decide) e
 ·show RowAt w' 48 4 v (g.ans ++ [a]).length ((g.ans ++ [a]).flatMap Ans.cells)
  rw [List.length_append, List.flatMap_append]
  simpa using hr
 ·intro b hbm
  rcases List.mem_append.1 hbm with hbm | hbm
  ·exact hrow (by decide) (by decide) (h.anb b hbm)
  ·rw [List.mem_singleton.1 hbm]
   exact hrow (by decide) (by decide) hb
 ·refine h.res.chg hc (fun j hj e => ?_)
  rcases e with e | e
  ·rw [e] at hj; exact h.res.ne h.en.blk (by decide) hj
  ·exact rows_ne3 h.ans h.res (by decide) e hj
 ·obtain ⟨T, hT⟩ := h.ap
  have hoff : ∀ j, Foot eb mb g j → (if a.bv.ownBlock = some j then 2 else T j) = T j := fun j hf => if_neg (fun e => hbn j e hf)
  refine ⟨fun j => if a.bv.ownBlock = some j then 2 else T j, ⟨fun j hj => ?_, fun j hj => ?_, fun p hp j hj => ?_, fun p hp j hj => ?_, fun b hbm j hj => ?_⟩⟩
  ·rw [hoff j (Or.inr (Or.inr (Or.inl hj)))]; exact hT.out j hj
  ·rw [hoff j (Or.inr (Or.inr (Or.inr (Or.inl hj))))]; exact hT.got j hj
  ·rw [hoff j (foot_un (g := g) hp hj)]; exact hT.un p hp j hj
  ·rw [hoff j (foot_wa (g := g) hp hj)]; exact hT.wa p hp j hj
  ·rcases List.mem_append.1 hbm with hbm | hbm
   ·rw [hoff j (Or.inr (Or.inr (Or.inr (Or.inr (Or.inr (Or.inr (Or.inr (Or.inl ⟨b, hbm, hj⟩))))))))]; exact hT.an b hbm j hj
   ·rw [List.mem_singleton.1 hbm] at hj
    rw [if_pos hj]
 ·have hf : Foot eb mb g j := by
   rcases e with e | e
   ·exact Or.inl e
   ·exact Or.inr (Or.inr (Or.inr (Or.inr (Or.inr (Or.inl e)))))
  rcases hn0.grow j hf with a | a
  ·exact Or.inr a
  ·exact Or.inl a
 ·intro j hj
  have hold : Foot eb mb g j → Foot eb mb g0 j ∨ w0.heap.size ≤ j := hn0.grow j
  rcases hj with e | e | e | e | e | e | e | ⟨b, hbm, e⟩ | e
  ·exact hold (Or.inl e)
  ·exact hold (Or.inr (Or.inl e))
  ·exact hold (Or.inr (Or.inr (Or.inl e)))
  ·exact hold (Or.inr (Or.inr (Or.inr (Or.inl e))))
  ·exact hold (Or.inr (Or.inr (Or.inr (Or.inr (Or.inl e)))))
  ·rcases hfr j e with a | a
   ·exact hold (Or.inr (Or.inr (Or.inr (Or.inr (Or.inr (Or.inl a))))))
   ·exact Or.inr (Nat.le_trans hn0.chg.size a)
  ·exact hold (Or.inr (Or.inr (Or.inr (Or.inr (Or.inr (Or.inr (Or.inl e)))))))
  ·rcases List.mem_append.1 hbm with hbm | hbm
   ·exact hold (Or.inr (Or.inr (Or.inr (Or.inr (Or.inr (Or.inr (Or.inr (Or.inl ⟨b, hbm, e⟩))))))))
   ·rw [List.mem_singleton.1 hbm] at e
    exact hb0 j e
  ·exact hold (Or.inr (Or.inr (Or.inr (Or.inr (Or.inr (Or.inr (Or.inr (Or.inr e))))))))
set_option maxRecDepth 100000 in
set_option maxHeartbeats 800000 in
theorem comePing_any (eb mb : Nat) (g : GEnd) (f nv : Int) (sv : Option Addr) (cb : Nat) (body : List UInt8) (w : World) (h : Inv w eb mb g) (hf : 0 ≤ f ∧ f ≤ 255) (hak : hasB f 1 = false) (hn : g.ans.length < 8) (hb : w.ownsRow 0 5 1 (.slice sv body.length cb) body.length (body.map B)) (hbn : ∀ j, (Value.slice sv body.length cb).ownBlock = some j → ¬ Foot eb mb g j) {w0 : World} {g0 : GEnd} (hn0 : Next w0 w eb mb g0 g) (hb0 : ∀ j, (Value.slice sv body.length cb).ownBlock = some j → Foot eb mb g0 j ∨ w0.heap.size ≤ j) :
  Calls Tryz.prog 101 #[.pointer (some ⟨eb, 0, none⟩), .agg #[.int .i64 4, .int .i64 f, .int .i64 0, .slice sv body.length cb, .int .u32 nv]] w fun e w' => e = .returned (.tuple #[]) ∧ ∃ g', g'.bare = ({ g with m := { g.m with answers := .tuple #[] }, ans := g.ans ++ [⟨4, 1, body, .slice none 0 0⟩] } : GEnd).bare ∧ Next w0 w' eb mb g0 g' := by
 obtain ⟨len, hle⟩ : ∃ len, len = body.length := ⟨_, rfl⟩
 have hbA : Below w.heap.size w (w.alloc (.cells #[.int .i64 4, .int .i64 f, .int .i64 0, .slice sv body.length cb, .int .u32 nv] 176)) := (Below.refl _ _).alloc (Nat.le_refl _) _
 have hnew := heap_alloc_new w (.cells #[.int .i64 4, .int .i64 f, .int .i64 0, .slice sv body.length cb, .int .u32 nv] 176)
 have HH : Hid (∀ w, Calls Tryz.prog 98 #[.agg #[.int .i64 4, .int .i64 f, .int .i64 0, .slice sv body.length cb], .int .i64 1] w fun e w' => e = .returned (.bool false) ∧ Below w.heap.size w w') := fun w => by
  have := has_any 4 f 0 1 (.slice sv body.length cb) w hf.1 (by omega) (Or.inl rfl)
  rw [hak] at this
  exact this
 have HA : Hid (∀ w1, Below w.heap.size w w1 → Calls Tryz.prog 137 #[.pointer (some ⟨eb, 0, none⟩), .agg #[.int .i64 4, .int .i64 1, .int .i64 0, .slice sv body.length cb]] w1 fun e w' => e = .returned (.tuple #[]) ∧ ∃ g', g'.bare = ({ g with m := { g.m with answers := .tuple #[] }, ans := g.ans ++ [⟨4, 1, body, .slice none 0 0⟩] } : GEnd).bare ∧ Next w0 w' eb mb g0 g') := fun w1 hb1 => by
  have h1 := h.below hb1
  refine (answer_any eb mb g 4 1 sv body.length cb w1 h1 hn).mono ?_
  rintro e w' ⟨rfl, gr, go, cr, hen, hrow, hch, hfr⟩
  refine ⟨rfl, { g with m := { g.m with answers := .slice (some ⟨gr, go, none⟩) (g.ans.length + 1) cr }, ans := g.ans ++ [⟨4, 1, body, .slice sv body.length cb⟩] }, ?_, ?_⟩
  ·unfold GEnd.bare
   simp only [GEnd.mk.injEq, true_and, and_true]
   refine ⟨rfl, ?_⟩
   rw [List.map_append, List.map_append]
   rfl
  ·refine h1.answers (a := ⟨4, 1, body, .slice sv body.length cb⟩) hch hen hrow (fun j hj => ?_) (owns_chg hb (Chg.of_below (S := fun _ => False) hb1) (fun _ _ => id)) hbn (hn0.then_below hb1) hb0
   simp [Value.ownBlock] at hj
   subst hj
   exact hfr
 have HB := hide hbA
 have HC3 : Hid (∀ w1, Below (w.alloc (.cells #[.int .i64 4, .int .i64 f, .int .i64 0, .slice sv body.length cb, .int .u32 nv] 176)).heap.size (w.alloc (.cells #[.int .i64 4, .int .i64 f, .int .i64 0, .slice sv body.length cb, .int .u32 nv] 176)) w1 → w1.cell? ⟨w.heap.size, 3, none⟩ = some (.slice sv body.length cb)) := fun w1 hb1 => by
  rw [cell_of_row _ _ _ _ _ _ (kept_told hnew hb1)]
  rfl
 clear h hf hak hn hb hbn hn0 hb0 hbA hnew
 rw [← hle] at *
 clear hle
 go_enter Tryz.func101, Tryz.ntmps101
 go_wp2_with fail
 refine (HH.out _).mono ?_
 rintro e w1 ⟨rfl, hb1⟩
 have k3 := HC3.out w1 hb1
 have HB1 : Hid (Below w.heap.size w w1) := HB.out.trans (hb1.mono HB.out.size)
 clear hb1
 go_wp2_with fail
 refine (HA.out w1 HB1.out).mono ?_
 rintro e w2 ⟨rfl, hx⟩
 have HX := hide hx
 clear hx
 go_wp2
 exact bodyPost_end (results_none rfl _ _ _) rfl ⟨rfl, HX.out⟩
end
end Go.Proofs.YtdccldbefdfppaaGreatDoor
