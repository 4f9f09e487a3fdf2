import Derived.Test.YtiphkngfbpdeoaaGreatDoorVGal
import Derived.Test.YtiphkngfbpdeoaaGreatDoorVGaj
import Derived.Test.YtiphkngfbpdeoaaGreatDoorVGaa
import Derived.Test.YtiphkngfbpdeoaaGreatDoorVGak
import Derived.Test.YtiphkngfbpdeoaaGreatDoorVGag
import Derived.ArgAppend
set_option linter.unusedVariables false
set_option linter.unusedSimpArgs false
namespace Go.Proofs.YtiphkngfbpdeoaaGreatDoor
set_option linter.unusedVariables false
set_option linter.unusedSimpArgs false
open Go.RowKit
section
variable (eb mb : Nat) (g : GEnd) (w : World) (R S : World → Prop) (code : Int)
set_option maxRecDepth 100000 in
set_option maxHeartbeats 800000 in
theorem come2_data (f n : Int) (sv : Option Addr) (len cb : Nat) (h : Inv w eb mb g) (hb : g.m.bstream = 0) (hbg : g.m.begun = true) (hc : ∀ w1 g1, Ahead w w1 eb mb g g1 → Calls Tryz.prog 80 #[.pointer (some ⟨eb, 0, none⟩), .agg #[.int .i64 0, .int .i64 f, .int .i64 n, .slice sv len cb, .slice sv len cb]] w1 fun e w' => (e = .returned (.tuple #[]) ∧ R w') ∨ (e = .panicked [{ v := .iface 36 (.int .i64 code), recovered := false }] ∧ S w')) :
    Calls Tryz.prog 66 #[.pointer (some ⟨eb, 0, none⟩), .iface 155 (.agg #[.int .i64 0, .int .i64 f, .int .i64 n, .slice sv len cb, .slice sv len cb])] w fun e w' => (e = .returned (.tuple #[]) ∧ R w') ∨ (e = .panicked [{ v := .iface 36 (.int .i64 code), recovered := false }] ∧ S w') := by
  have hta : ∀ (x : Value) (w : World), (Instr.typeAssert (.iface 155 x) 135 155 true).run Tryz.prog w = .ok (.tuple #[x, .bool true]) w := fun _ _ => by kernel_rfl
  have HT := hide (checkTurn_ok eb g.m 155 (.agg #[.int .i64 0, .int .i64 f, .int .i64 n, .slice sv len cb, .slice sv len cb]) w h.en (by simp) hb (Or.inl hbg))
  have HC : Hid (∀ w0 o, Below w.heap.size w w0 → Calls Tryz.prog 80 #[.pointer (some ⟨eb, 0, none⟩), .agg #[.int .i64 0, .int .i64 f, .int .i64 n, .slice sv len cb, .slice sv len cb]] ((w0.setCell ⟨eb, 30, none⟩ (.bool true)).alloc o) fun e w' => (e = .returned (.tuple #[]) ∧ R w') ∨ (e = .panicked [{ v := .iface 36 (.int .i64 code), recovered := false }] ∧ S w')) := fun w0 o hb0 => by
    obtain ⟨g1, h1, h2⟩ := (h.below hb0).begins
    exact hc _ g1 (ahead_of hb0 h1 h2 ((Below.refl _ _).alloc (Nat.le_refl _) _))
  have HE : Hid (∀ w0, Below w.heap.size w w0 → w0.cell? ⟨eb, 30, none⟩ = some (.bool g.m.begun) ∧ w0.frozen? ⟨eb, 30, none⟩ = false ∧ eb < w0.heap.size) := fun w0 hb0 => ⟨(h.below hb0).en.c30, (h.below hb0).en.fr 30, (h.below hb0).en.lt⟩
  clear h hb hbg hc
  go_enter Tryz.func66, Tryz.ntmps66
  go_wp2_with fail
  refine HT.out.mono ?_
  rintro e w0 ⟨rfl, hb0⟩
  obtain ⟨k30, f30, hlt⟩ := HE.out w0 hb0
  have HB0 := hide hb0
  clear hb0
  go_wp2_with fail
  refine (HC.out w0 _ HB0.out).mono ?_
  rintro e w' (⟨rfl, hx⟩ | ⟨rfl, hx⟩)
  · have HX := hide hx
    clear hx
    go_wp2
    exact bodyPost_end (results_none rfl _ _ _) rfl (Or.inl ⟨rfl, HX.out⟩)
  · have HX := hide hx
    clear hx
    go_wp2
    exact ⟨rfl, Or.inr ⟨rfl, HX.out⟩⟩
set_option maxRecDepth 100000 in
set_option maxHeartbeats 800000 in
theorem come2_headers (f n : Int) (sv : Option Addr) (len cb : Nat) (h : Inv w eb mb g) (hb : g.m.bstream = 0) (hbg : g.m.begun = true) (hc : ∀ w1 g1, Ahead w w1 eb mb g g1 → Calls Tryz.prog 81 #[.pointer (some ⟨eb, 0, none⟩), .agg #[.int .i64 1, .int .i64 f, .int .i64 n, .slice sv len cb, .slice sv len cb]] w1 fun e w' => (e = .returned (.tuple #[]) ∧ R w') ∨ (e = .panicked [{ v := .iface 36 (.int .i64 code), recovered := false }] ∧ S w')) :
    Calls Tryz.prog 66 #[.pointer (some ⟨eb, 0, none⟩), .iface 158 (.agg #[.int .i64 1, .int .i64 f, .int .i64 n, .slice sv len cb, .slice sv len cb])] w fun e w' => (e = .returned (.tuple #[]) ∧ R w') ∨ (e = .panicked [{ v := .iface 36 (.int .i64 code), recovered := false }] ∧ S w') := by
  have hta : ∀ (x : Value) (w : World), (Instr.typeAssert (.iface 158 x) 135 158 true).run Tryz.prog w = .ok (.tuple #[x, .bool true]) w := fun _ _ => by kernel_rfl
  have ht0 : ∀ (x : Value) (w : World), (Instr.typeAssert (.iface 158 x) 135 155 true).run Tryz.prog w = .ok (.tuple #[.agg #[.int .i64 0, .int .i64 0, .int .i64 0, .slice none 0 0, .slice none 0 0], .bool false]) w := fun _ _ => by kernel_rfl
  have HT := hide (checkTurn_ok eb g.m 158 (.agg #[.int .i64 1, .int .i64 f, .int .i64 n, .slice sv len cb, .slice sv len cb]) w h.en (by simp) hb (Or.inl hbg))
  have HC : Hid (∀ w0 o, Below w.heap.size w w0 → Calls Tryz.prog 81 #[.pointer (some ⟨eb, 0, none⟩), .agg #[.int .i64 1, .int .i64 f, .int .i64 n, .slice sv len cb, .slice sv len cb]] ((w0.setCell ⟨eb, 30, none⟩ (.bool true)).alloc o) fun e w' => (e = .returned (.tuple #[]) ∧ R w') ∨ (e = .panicked [{ v := .iface 36 (.int .i64 code), recovered := false }] ∧ S w')) := fun w0 o hb0 => by
    obtain ⟨g1, h1, h2⟩ := (h.below hb0).begins
    exact hc _ g1 (ahead_of hb0 h1 h2 ((Below.refl _ _).alloc (Nat.le_refl _) _))
  have HE : Hid (∀ w0, Below w.heap.size w w0 → w0.cell? ⟨eb, 30, none⟩ = some (.bool g.m.begun) ∧ w0.frozen? ⟨eb, 30, none⟩ = false ∧ eb < w0.heap.size) := fun w0 hb0 => ⟨(h.below hb0).en.c30, (h.below hb0).en.fr 30, (h.below hb0).en.lt⟩
  clear h hb hbg hc
  go_enter Tryz.func66, Tryz.ntmps66
  go_wp2_with fail
  refine HT.out.mono ?_
  rintro e w0 ⟨rfl, hb0⟩
  obtain ⟨k30, f30, hlt⟩ := HE.out w0 hb0
  have HB0 := hide hb0
  clear hb0
  go_wp2_with fail
  refine (HC.out w0 _ HB0.out).mono ?_
  rintro e w' (⟨rfl, hx⟩ | ⟨rfl, hx⟩)
  · have HX := hide hx
    clear hx
    go_wp2
    exact bodyPost_end (results_none rfl _ _ _) rfl (Or.inl ⟨rfl, HX.out⟩)
  · have HX := hide hx
    clear hx
    go_wp2
    exact ⟨rfl, Or.inr ⟨rfl, HX.out⟩⟩
set_option maxRecDepth 100000 in
set_option maxHeartbeats 800000 in
theorem come2_settings (f n : Int) (sv : Option Addr) (len cb : Nat) (nv : Int) (h : Inv w eb mb g) (hb : g.m.bstream = 0) (hbg : g.m.begun = true) (hc : ∀ w1 g1, Ahead w w1 eb mb g g1 → Calls Tryz.prog 85 #[.pointer (some ⟨eb, 0, none⟩), .agg #[.int .i64 3, .int .i64 f, .int .i64 n, .slice sv len cb, .int .i64 nv]] w1 fun e w' => (e = .returned (.tuple #[]) ∧ R w') ∨ (e = .panicked [{ v := .iface 36 (.int .i64 code), recovered := false }] ∧ S w')) :
    Calls Tryz.prog 66 #[.pointer (some ⟨eb, 0, none⟩), .iface 167 (.agg #[.int .i64 3, .int .i64 f, .int .i64 n, .slice sv len cb, .int .i64 nv])] w fun e w' => (e = .returned (.tuple #[]) ∧ R w') ∨ (e = .panicked [{ v := .iface 36 (.int .i64 code), recovered := false }] ∧ S w') := by
  have hta : ∀ (x : Value) (w : World), (Instr.typeAssert (.iface 167 x) 135 167 true).run Tryz.prog w = .ok (.tuple #[x, .bool true]) w := fun _ _ => by kernel_rfl
  have ht0 : ∀ (x : Value) (w : World), (Instr.typeAssert (.iface 167 x) 135 155 true).run Tryz.prog w = .ok (.tuple #[.agg #[.int .i64 0, .int .i64 0, .int .i64 0, .slice none 0 0, .slice none 0 0], .bool false]) w := fun _ _ => by kernel_rfl
  have ht1 : ∀ (x : Value) (w : World), (Instr.typeAssert (.iface 167 x) 135 158 true).run Tryz.prog w = .ok (.tuple #[.agg #[.int .i64 0, .int .i64 0, .int .i64 0, .slice none 0 0, .slice none 0 0], .bool false]) w := fun _ _ => by kernel_rfl
  have ht2 : ∀ (x : Value) (w : World), (Instr.typeAssert (.iface 167 x) 135 160 true).run Tryz.prog w = .ok (.tuple #[.agg #[.int .i64 0, .int .i64 0, .int .i64 0, .slice none 0 0, .slice none 0 0], .bool false]) w := fun _ _ => by kernel_rfl
  have ht3 : ∀ (x : Value) (w : World), (Instr.typeAssert (.iface 167 x) 135 164 true).run Tryz.prog w = .ok (.tuple #[.agg #[.int .i64 0, .int .i64 0, .int .i64 0, .slice none 0 0], .bool false]) w := fun _ _ => by kernel_rfl
  have HT := hide (checkTurn_ok eb g.m 167 (.agg #[.int .i64 3, .int .i64 f, .int .i64 n, .slice sv len cb, .int .i64 nv]) w h.en (by simp) hb (Or.inl hbg))
  have HC : Hid (∀ w0 o, Below w.heap.size w w0 → Calls Tryz.prog 85 #[.pointer (some ⟨eb, 0, none⟩), .agg #[.int .i64 3, .int .i64 f, .int .i64 n, .slice sv len cb, .int .i64 nv]] ((w0.setCell ⟨eb, 30, none⟩ (.bool true)).alloc o) fun e w' => (e = .returned (.tuple #[]) ∧ R w') ∨ (e = .panicked [{ v := .iface 36 (.int .i64 code), recovered := false }] ∧ S w')) := fun w0 o hb0 => by
    obtain ⟨g1, h1, h2⟩ := (h.below hb0).begins
    exact hc _ g1 (ahead_of hb0 h1 h2 ((Below.refl _ _).alloc (Nat.le_refl _) _))
  have HE : Hid (∀ w0, Below w.heap.size w w0 → w0.cell? ⟨eb, 30, none⟩ = some (.bool g.m.begun) ∧ w0.frozen? ⟨eb, 30, none⟩ = false ∧ eb < w0.heap.size) := fun w0 hb0 => ⟨(h.below hb0).en.c30, (h.below hb0).en.fr 30, (h.below hb0).en.lt⟩
  clear h hb hbg hc
  go_enter Tryz.func66, Tryz.ntmps66
  go_wp2_with fail
  refine HT.out.mono ?_
  rintro e w0 ⟨rfl, hb0⟩
  obtain ⟨k30, f30, hlt⟩ := HE.out w0 hb0
  have HB0 := hide hb0
  clear hb0
  go_wp2_with fail
  refine (HC.out w0 _ HB0.out).mono ?_
  rintro e w' (⟨rfl, hx⟩ | ⟨rfl, hx⟩)
  · have HX := hide hx
    clear hx
    go_wp2
    exact bodyPost_end (results_none rfl _ _ _) rfl (Or.inl ⟨rfl, HX.out⟩)
  · have HX := hide hx
    clear hx
    go_wp2
    exact ⟨rfl, Or.inr ⟨rfl, HX.out⟩⟩
set_option maxRecDepth 100000 in
set_option maxHeartbeats 800000 in
theorem come2_ping (f n : Int) (sv : Option Addr) (len cb : Nat) (nv : Int) (h : Inv w eb mb g) (hb : g.m.bstream = 0) (hbg : g.m.begun = true) (hc : ∀ w1 g1, Ahead w w1 eb mb g g1 → Calls Tryz.prog 86 #[.pointer (some ⟨eb, 0, none⟩), .agg #[.int .i64 4, .int .i64 f, .int .i64 n, .slice sv len cb, .int .u32 nv]] w1 fun e w' => (e = .returned (.tuple #[]) ∧ R w') ∨ (e = .panicked [{ v := .iface 36 (.int .i64 code), recovered := false }] ∧ S w')) :
    Calls Tryz.prog 66 #[.pointer (some ⟨eb, 0, none⟩), .iface 170 (.agg #[.int .i64 4, .int .i64 f, .int .i64 n, .slice sv len cb, .int .u32 nv])] w fun e w' => (e = .returned (.tuple #[]) ∧ R w') ∨ (e = .panicked [{ v := .iface 36 (.int .i64 code), recovered := false }] ∧ S w') := by
  have hta : ∀ (x : Value) (w : World), (Instr.typeAssert (.iface 170 x) 135 170 true).run Tryz.prog w = .ok (.tuple #[x, .bool true]) w := fun _ _ => by kernel_rfl
  have ht0 : ∀ (x : Value) (w : World), (Instr.typeAssert (.iface 170 x) 135 155 true).run Tryz.prog w = .ok (.tuple #[.agg #[.int .i64 0, .int .i64 0, .int .i64 0, .slice none 0 0, .slice none 0 0], .bool false]) w := fun _ _ => by kernel_rfl
  have ht1 : ∀ (x : Value) (w : World), (Instr.typeAssert (.iface 170 x) 135 158 true).run Tryz.prog w = .ok (.tuple #[.agg #[.int .i64 0, .int .i64 0, .int .i64 0, .slice none 0 0, .slice none 0 0], .bool false]) w := fun _ _ => by kernel_rfl
  have ht2 : ∀ (x : Value) (w : World), (Instr.typeAssert (.iface 170 x) 135 160 true).run Tryz.prog w = .ok (.tuple #[.agg #[.int .i64 0, .int .i64 0, .int .i64 0, .slice none 0 0, .slice none 0 0], .bool false]) w := fun _ _ => by kernel_rfl
  have ht3 : ∀ (x : Value) (w : World), (Instr.typeAssert (.iface 170 x) 135 164 true).run Tryz.prog w = .ok (.tuple #[.agg #[.int .i64 0, .int .i64 0, .int .i64 0, .slice none 0 0], .bool false]) w := fun _ _ => by kernel_rfl
  have ht4 : ∀ (x : Value) (w : World), (Instr.typeAssert (.iface 170 x) 135 167 true).run Tryz.prog w = .ok (.tuple #[.agg #[.int .i64 0, .int .i64 0, .int .i64 0, .slice none 0 0, .int .i64 0], .bool false]) w := fun _ _ => by kernel_rfl
  have HT := hide (checkTurn_ok eb g.m 170 (.agg #[.int .i64 4, .int .i64 f, .int .i64 n, .slice sv len cb, .int .u32 nv]) w h.en (by simp) hb (Or.inl hbg))
  have HC : Hid (∀ w0 o, Below w.heap.size w w0 → Calls Tryz.prog 86 #[.pointer (some ⟨eb, 0, none⟩), .agg #[.int .i64 4, .int .i64 f, .int .i64 n, .slice sv len cb, .int .u32 nv]] ((w0.setCell ⟨eb, 30, none⟩ (.bool true)).alloc o) fun e w' => (e = .returned (.tuple #[]) ∧ R w') ∨ (e = .panicked [{ v := .iface 36 (.int .i64 code), recovered := false }] ∧ S w')) := fun w0 o hb0 => by
    obtain ⟨g1, h1, h2⟩ := (h.below hb0).begins
    exact hc _ g1 (ahead_of hb0 h1 h2 ((Below.refl _ _).alloc (Nat.le_refl _) _))
  have HE : Hid (∀ w0, Below w.heap.size w w0 → w0.cell? ⟨eb, 30, none⟩ = some (.bool g.m.begun) ∧ w0.frozen? ⟨eb, 30, none⟩ = false ∧ eb < w0.heap.size) := fun w0 hb0 => ⟨(h.below hb0).en.c30, (h.below hb0).en.fr 30, (h.below hb0).en.lt⟩
  clear h hb hbg hc
  go_enter Tryz.func66, Tryz.ntmps66
  go_wp2_with fail
  refine HT.out.mono ?_
  rintro e w0 ⟨rfl, hb0⟩
  obtain ⟨k30, f30, hlt⟩ := HE.out w0 hb0
  have HB0 := hide hb0
  clear hb0
  go_wp2_with fail
  refine (HC.out w0 _ HB0.out).mono ?_
  rintro e w' (⟨rfl, hx⟩ | ⟨rfl, hx⟩)
  · have HX := hide hx
    clear hx
    go_wp2
    exact bodyPost_end (results_none rfl _ _ _) rfl (Or.inl ⟨rfl, HX.out⟩)
  · have HX := hide hx
    clear hx
    go_wp2
    exact ⟨rfl, Or.inr ⟨rfl, HX.out⟩⟩
set_option maxRecDepth 100000 in
set_option maxHeartbeats 800000 in
theorem come2_credit (f n : Int) (sv : Option Addr) (len cb : Nat) (nv : Int) (h : Inv w eb mb g) (hb : g.m.bstream = 0) (hbg : g.m.begun = true) (hc : ∀ w1 g1, Ahead w w1 eb mb g g1 → Calls Tryz.prog 87 #[.pointer (some ⟨eb, 0, none⟩), .agg #[.int .i64 6, .int .i64 f, .int .i64 n, .slice sv len cb, .int .i64 nv]] w1 fun e w' => (e = .returned (.tuple #[]) ∧ R w') ∨ (e = .panicked [{ v := .iface 36 (.int .i64 code), recovered := false }] ∧ S w')) :
    Calls Tryz.prog 66 #[.pointer (some ⟨eb, 0, none⟩), .iface 173 (.agg #[.int .i64 6, .int .i64 f, .int .i64 n, .slice sv len cb, .int .i64 nv])] w fun e w' => (e = .returned (.tuple #[]) ∧ R w') ∨ (e = .panicked [{ v := .iface 36 (.int .i64 code), recovered := false }] ∧ S w') := by
  have hta : ∀ (x : Value) (w : World), (Instr.typeAssert (.iface 173 x) 135 173 true).run Tryz.prog w = .ok (.tuple #[x, .bool true]) w := fun _ _ => by kernel_rfl
  have ht0 : ∀ (x : Value) (w : World), (Instr.typeAssert (.iface 173 x) 135 155 true).run Tryz.prog w = .ok (.tuple #[.agg #[.int .i64 0, .int .i64 0, .int .i64 0, .slice none 0 0, .slice none 0 0], .bool false]) w := fun _ _ => by kernel_rfl
  have ht1 : ∀ (x : Value) (w : World), (Instr.typeAssert (.iface 173 x) 135 158 true).run Tryz.prog w = .ok (.tuple #[.agg #[.int .i64 0, .int .i64 0, .int .i64 0, .slice none 0 0, .slice none 0 0], .bool false]) w := fun _ _ => by kernel_rfl
  have ht2 : ∀ (x : Value) (w : World), (Instr.typeAssert (.iface 173 x) 135 160 true).run Tryz.prog w = .ok (.tuple #[.agg #[.int .i64 0, .int .i64 0, .int .i64 0, .slice none 0 0, .slice none 0 0], .bool false]) w := fun _ _ => by kernel_rfl
  have ht3 : ∀ (x : Value) (w : World), (Instr.typeAssert (.iface 173 x) 135 164 true).run Tryz.prog w = .ok (.tuple #[.agg #[.int .i64 0, .int .i64 0, .int .i64 0, .slice none 0 0], .bool false]) w := fun _ _ => by kernel_rfl
  have ht4 : ∀ (x : Value) (w : World), (Instr.typeAssert (.iface 173 x) 135 167 true).run Tryz.prog w = .ok (.tuple #[.agg #[.int .i64 0, .int .i64 0, .int .i64 0, .slice none 0 0, .int .i64 0], .bool false]) w := fun _ _ => by kernel_rfl
  have ht5 : ∀ (x : Value) (w : World), (Instr.typeAssert (.iface 173 x) 135 170 true).run Tryz.prog w = .ok (.tuple #[.agg #[.int .i64 0, .int .i64 0, .int .i64 0, .slice none 0 0, .int .u32 0], .bool false]) w := fun _ _ => by kernel_rfl
  have ht6 : ∀ (x : Value) (w : World), (Instr.typeAssert (.iface 173 x) 135 172 true).run Tryz.prog w = .ok (.tuple #[.agg #[.int .i64 0, .int .i64 0, .int .i64 0, .slice none 0 0], .bool false]) w := fun _ _ => by kernel_rfl
  have HT := hide (checkTurn_ok eb g.m 173 (.agg #[.int .i64 6, .int .i64 f, .int .i64 n, .slice sv len cb, .int .i64 nv]) w h.en (by simp) hb (Or.inl hbg))
  have HC : Hid (∀ w0 o, Below w.heap.size w w0 → Calls Tryz.prog 87 #[.pointer (some ⟨eb, 0, none⟩), .agg #[.int .i64 6, .int .i64 f, .int .i64 n, .slice sv len cb, .int .i64 nv]] ((w0.setCell ⟨eb, 30, none⟩ (.bool true)).alloc o) fun e w' => (e = .returned (.tuple #[]) ∧ R w') ∨ (e = .panicked [{ v := .iface 36 (.int .i64 code), recovered := false }] ∧ S w')) := fun w0 o hb0 => by
    obtain ⟨g1, h1, h2⟩ := (h.below hb0).begins
    exact hc _ g1 (ahead_of hb0 h1 h2 ((Below.refl _ _).alloc (Nat.le_refl _) _))
  have HE : Hid (∀ w0, Below w.heap.size w w0 → w0.cell? ⟨eb, 30, none⟩ = some (.bool g.m.begun) ∧ w0.frozen? ⟨eb, 30, none⟩ = false ∧ eb < w0.heap.size) := fun w0 hb0 => ⟨(h.below hb0).en.c30, (h.below hb0).en.fr 30, (h.below hb0).en.lt⟩
  clear h hb hbg hc
  go_enter Tryz.func66, Tryz.ntmps66
  go_wp2_with fail
  refine HT.out.mono ?_
  rintro e w0 ⟨rfl, hb0⟩
  obtain ⟨k30, f30, hlt⟩ := HE.out w0 hb0
  have HB0 := hide hb0
  clear hb0
  go_wp2_with fail
  refine (HC.out w0 _ HB0.out).mono ?_
  rintro e w' (⟨rfl, hx⟩ | ⟨rfl, hx⟩)
  · have HX := hide hx
    clear hx
    go_wp2
    exact bodyPost_end (results_none rfl _ _ _) rfl (Or.inl ⟨rfl, HX.out⟩)
  · have HX := hide hx
    clear hx
    go_wp2
    exact ⟨rfl, Or.inr ⟨rfl, HX.out⟩⟩
end
end Go.Proofs.YtiphkngfbpdeoaaGreatDoor
namespace Go.Proofs.YtiphkngfbpdeoaaGreatDoor
set_option linter.unusedVariables false
set_option linter.unusedSimpArgs false
open Go.RowKit
theorem heap_setCs_same (g : Nat) : ∀ (vs : List Value) (o : Nat) (w : World) (C : Array Value) (t : TypeId) (fr : Nat × Nat), w.heap[g]? = some (.cells C t fr) → ∃ C', (w.setCells g o vs).heap[g]? = some (.cells C' t fr) ∧ C'.size = C.size ∧ ∀ j, C'[j]? = if o ≤ j ∧ j < o + vs.length ∧ j < C.size then vs[j - o]? else C[j]?
  | [], o, w, C, t, fr, h => ⟨C, h, rfl, fun j => by rw [if_neg (by simp; omega)]⟩
  | v :: r, o, w, C, t, fr, h => by
    rw [World.setCells]
    obtain ⟨C', h1, h2, h3⟩ := heap_setCs_same g r (o + 1) (w.setCell ⟨g, o, none⟩ v) (C.setIfInBounds o v) t fr (block_setCell h)
    refine ⟨C', h1, by simpa using h2, fun j => ?_⟩
    rw [h3 j]
    simp only [Array.size_setIfInBounds, List.length_cons, Array.getElem?_setIfInBounds]
    by_cases hj : o = j
    · subst hj
      rw [if_neg (by omega)]
      by_cases hs : o < C.size
      · simp [hs]
      · simp [hs]
    · simp only [if_neg hj]
      by_cases hin : o + 1 ≤ j ∧ j < o + 1 + r.length ∧ j < C.size
      · rw [if_pos hin, if_pos (by omega)]
        have : j - o = (j - (o + 1)) + 1 := by omega
        rw [this, List.getElem?_cons_succ]
      · rw [if_neg hin, if_neg (by omega)]
theorem chg_setCs {S : Nat → Prop} {g : Nat} {a : World} (hp : S g) : ∀ (vs : List Value) (o : Nat) (w : World), Chg S a w → Chg S a (w.setCells g o vs)
  | [], _, _, h => h
  | v :: r, o, _, h => chg_setCs hp r (o + 1) _ (chg_set h hp)
theorem rowAt_app {P : Program} (w : World) (t ty e : TypeId) (i : TypeInfo) (z : Value) (size bytes : Nat) (ht : P.underlying t = some (.slice e)) (hi : P.info? e = some i) (hz : i.zero = some z)
    (hsize : i.size = size) (hby : i.bytes = bytes) (hzs : z.cells.size = size) (hsz : 0 < size)
    (v : Value) (n : Nat) (xs : List Value) (hrow : RowAt w e size v n xs)
    (ad : Addr) (m c : Nat) (news : List Value) (hl : news.length = m * size) (hcells : ∀ j u, news[j]? = some u → w.cell? (ad.add j) = some u) (h1 : ∀ u ∈ news, u.oneCell' = true)
    (h63 : n + m ≤ maxLen) (hbytes : (n + m) * bytes ≤ 140737488355328) (hm : 0 < m) :
    ∃ v' w', (Builtin.append_ #[t, t] ty #[v, .slice (some ad) m c]).run P w = .ok v' w' ∧ RowAt w' e size v' (n + m) (xs ++ news) ∧ Chg (fun j => v.ownBlock = some j) w w' ∧ (v'.ownBlock = v.ownBlock ∨ v'.ownBlock = some w.heap.size) ∧ ∃ g o cap, v' = .slice (some ⟨g, o, none⟩) (n + m) cap := by
  have hsmall : n + m ≤ 9223372036854775807 := by simp only [maxLen] at h63; omega
  subst hsize
  subst hby
  have hlx : (xs ++ news).length = (n + m) * i.size := by rw [List.length_append, hrow.1, hl, Nat.add_mul]
  rcases hrow.2 with ⟨rfl, rfl⟩ | ⟨g, o, cap, cur, rfl, hg, hnc, hcm, hcs, htake⟩
  · obtain ⟨v', w', hr, h2, h3, h4⟩ := run_app (P := P) w t ty e i z i.size i.bytes ht hi hz rfl rfl hzs hsz (.slice none 0 0) 0 [] (World.ownsRow_nil _ _ _ _) (.slice (some ad) m c) m news hl (Or.inr ⟨ad, c, rfl, hcells⟩) h1 h63 hbytes
    have hx0 : xs = [] := List.length_eq_zero_iff.1 (by rw [hrow.1, Nat.zero_mul])
    subst hx0
    refine ⟨v', w', hr, RowAt.of_owns h2, ⟨h3.os, h3.tape, h3.output, h3.size, fun j hj hs => h3.block j hj (fun e => hs e.symm)⟩, h4, ?_⟩
    rcases h2.2 with ⟨-, h0⟩ | ⟨g, cap, cur, h5, -⟩
    · omega
    · exact ⟨g, 0, cap, h5⟩
  · have hcell : ∀ j u, xs[j]? = some u → w.cell? ((⟨g, o, none⟩ : Addr).add j) = some u := fun j u hu => by
      rw [Addr.add_mid, cell_of_row _ _ _ _ _ _ hg]
      have hjl := (List.getElem?_eq_some_iff.1 hu).1
      rw [← htake, List.getElem?_take, if_pos (by rw [← hrow.1]; exact hjl), List.getElem?_drop, Array.getElem?_toList] at hu
      exact hu
    by_cases hroom : n + m ≤ cap
    · have hfit : o + (n + m) * i.size ≤ cur.size := by
        have := Nat.mul_le_mul_right i.size hroom
        omega
      rw [Nat.add_mul] at hfit
      have hr := run_append_room_cells (P := P) (w := w) t ty e i ht hi g o n cap ad m c news hl hcells h1 hroom (fun j hj => by rw [cell_of_row _ _ _ _ _ _ hg, Array.getElem?_eq_getElem (by omega)]; rfl) (fun j hj => by simp [World.frozen?, hg])
      obtain ⟨C', c1, c2, c3⟩ := heap_setCs_same g news (o + n * i.size) w cur e (0, 0) hg
      refine ⟨_, _, hr, ⟨hlx, Or.inr ⟨g, o, cap, C', rfl, c1, hroom, hcm, by rw [c2]; exact hcs, ?_⟩⟩, chg_setCs (S := fun j => (Value.slice (some ⟨g, o, none⟩) n cap).ownBlock = some j) rfl news _ w (Chg.refl _ _), Or.inl rfl, g, o, cap, rfl⟩
      apply List.ext_getElem?
      intro j
      rw [List.getElem?_take, List.getElem?_drop, Array.getElem?_toList, c3]
      by_cases hj : j < (n + m) * i.size
      · rw [if_pos hj]
        rw [Nat.add_mul] at hj
        by_cases hj2 : j < n * i.size
        · rw [if_neg (by omega), List.getElem?_append_left (by rw [hrow.1]; exact hj2), ← htake, List.getElem?_take, if_pos hj2, List.getElem?_drop, Array.getElem?_toList]
        · rw [if_pos (by omega), List.getElem?_append_right (by rw [hrow.1]; omega), hrow.1]
          congr 1
          omega
      · rw [if_neg hj, List.getElem?_eq_none (by rw [hlx]; omega)]
    · have hr := run_append_grow (P := P) w t ty e i z ht hi hz ⟨g, o, none⟩ n cap xs hrow.1 hcell ad m c news hl hcells (by omega) (by omega) (growslice_fits (by omega) hbytes)
      have hge := grownCap_ge w (n + m) cap e
      have hbl := heap_alloc_new w.drew (.cells (xs.toArray ++ news.toArray ++ Builtin.zeroCells z.cells (grownCap w (n + m) cap e - (n + m))) e)
      have hch : Chg (fun j => (Value.slice (some ⟨g, o, none⟩) n cap).ownBlock = some j) w (w.drew.alloc (.cells (xs.toArray ++ news.toArray ++ Builtin.zeroCells z.cells (grownCap w (n + m) cap e - (n + m))) e)) := Chg.of_below (((Below.refl _ _).drew).alloc (Nat.le_refl _) _)
      refine ⟨_, _, hr, ⟨hlx, Or.inr ⟨w.heap.size, 0, _, _, rfl, hbl, hge, grownCap_le_maxLen w (n + m) cap e h63, ?_, ?_⟩⟩, hch, Or.inr rfl, _, _, _, rfl⟩
      · rw [Array.size_append, Array.size_append, List.size_toArray, List.size_toArray]
        have hz2 : (Builtin.zeroCells z.cells (grownCap w (n + m) cap e - (n + m))).size = (grownCap w (n + m) cap e - (n + m)) * i.size := by rw [size_zeroCells, hzs]
        rw [hz2, hrow.1, hl, ← Nat.add_mul, ← Nat.add_mul]
        have : n + m + (grownCap w (n + m) cap e - (n + m)) = grownCap w (n + m) cap e := by omega
        rw [this]
        omega
      · rw [List.drop_zero, Array.toList_append, Array.toList_append, List.take_append_of_le_length (by simp [hrow.1, hl, Nat.add_mul])]
        rw [List.take_of_length_le (by simp [hrow.1, hl, Nat.add_mul])]
theorem step_appR {P : Program} {ops : Array Oper} {o : Oper} {a : Act} {w : World} {K : Act → World → Prop} {Q : Exit → Act → World → Prop} {E : Prop} (hgd : o.guard = none) (s y : Operand) (t : TypeId)
    (ho : o.op = .call { callee := .builtin .append, args := #[s, y], argTypes := #[t, t] })
    (e : TypeId) (i : TypeInfo) (z : Value) (size bytes : Nat) (ht : P.underlying t = some (.slice e)) (hi : P.info? e = some i) (hz : i.zero = some z)
    (hsize : i.size = size) (hby : i.bytes = bytes) (hzs : z.cells.size = size) (hsz : 0 < size)
    (v : Value) (n : Nat) (xs : List Value) (hs : a.eval s = v) (hrow : RowAt w e size v n xs)
    (ad : Addr) (m c : Nat) (news : List Value) (hx : a.eval y = .slice (some ad) m c) (hl : news.length = m * size) (hnews : ∀ j u, news[j]? = some u → w.cell? (ad.add j) = some u) (h1 : ∀ u ∈ news, u.oneCell' = true)
    (h63 : n + m ≤ maxLen) (hbytes : (n + m) * bytes ≤ 140737488355328) (hm : 0 < m)
    (hK : ∀ v' w', RowAt w' e size v' (n + m) (xs ++ news) → Chg (fun j => v.ownBlock = some j) w w' → (v'.ownBlock = v.ownBlock ∨ v'.ownBlock = some w.heap.size) → (∃ g o cap, v' = .slice (some ⟨g, o, none⟩) (n + m) cap) → K (a.put o.dst v') w') :
    if Region.wanted o (yielded ops a.tmps) = true then Oper.wp P o a w K Q else E := by
  have hw : Region.wanted o (yielded ops a.tmps) = true := by simp [Region.wanted, hgd]
  rw [if_pos hw]
  obtain ⟨v', w', hr, h2, h3, h4, h5⟩ := rowAt_app (P := P) w t o.type e i z size bytes ht hi hz hsize hby hzs hsz v n xs hrow ad m c news hl hnews h1 h63 hbytes hm
  unfold Oper.wp
  simp [execOp, ho, resolve, invoke, builtin, hs, hx, hr, Result.andThen]
  exact hK v' w' h2 h3 h4 h5
end Go.Proofs.YtiphkngfbpdeoaaGreatDoor
namespace Go.Proofs.YtiphkngfbpdeoaaGreatDoor
set_option linter.unusedVariables false
set_option linter.unusedSimpArgs false
open Go.RowKit
def MadeO (w w' : World) (eb mb : Nat) (g : GEnd) (o : Option GEnd) (e : Ending) : Prop := match o with
  | none => e = .returned (.bool false) ∧ Below w.heap.size w w'
  | some q => e = .returned (.bool true) ∧ ∃ g', g'.bare = q.bare ∧ Next w w' eb mb g g'
theorem own_shape {v : Value} {j : Nat} (h : v.ownBlock = some j) : ∃ a n c, v = .slice (some a) n c := by
  cases v with
  | slice s n c =>
    cases s with
    | none => simp [Value.ownBlock] at h
    | some a => exact ⟨a, n, c, rfl⟩
  | _ => simp [Value.ownBlock] at h
theorem RowAt.tail {w : World} {e : TypeId} {size n : Nat} {g o cap : Nat} {x xs : List Value} (hx : x.length = size) (h : RowAt w e size (.slice (some ⟨g, o, none⟩) (n + 1) cap) (n + 1) (x ++ xs)) : RowAt w e size (.slice (some ⟨g, o + size, none⟩) n (cap - 1)) n xs ∧ (cap = 1 → RowAt w e size (.slice (some ⟨g, o, none⟩) 0 0) n xs ∧ n = 0) := by
  obtain ⟨h0, h1⟩ := h
  rcases h1 with ⟨h1, -⟩ | ⟨g', o', cap', cur, h1, h3, h4, h5, h6, h7⟩
  · cases h1
  · simp only [Value.slice.injEq, Option.some.injEq, Addr.mk.injEq, and_true, true_and] at h1
    obtain ⟨⟨rfl, rfl⟩, rfl⟩ := h1
    rw [List.length_append, hx, Nat.add_mul, Nat.one_mul] at h0
    have hl : xs.length = n * size := by omega
    rw [Nat.add_mul, Nat.one_mul] at h7
    have h6' : o + size + (cap - 1) * size ≤ cur.size := by
      have e : cap * size = size + (cap - 1) * size := by
        have : cap = (cap - 1) + 1 := by omega
        rw [this, Nat.add_mul, Nat.one_mul, Nat.add_sub_cancel]
        omega
      omega
    have ht : (cur.toList.drop (o + size)).take (n * size) = xs := by
      have : ((cur.toList.drop o).take (n * size + size)).drop size = xs := by rw [h7, List.drop_left' hx]
      rw [List.drop_take, List.drop_drop, Nat.add_sub_cancel] at this
      exact this
    refine ⟨⟨hl, Or.inr ⟨g, o + size, cap - 1, cur, rfl, h3, by omega, by omega, h6', ht⟩⟩, fun hc => ?_⟩
    have hn : n = 0 := by omega
    subst hn
    refine ⟨⟨hl, Or.inr ⟨g, o, 0, cur, rfl, h3, Nat.le_refl _, Nat.zero_le _, by omega, ?_⟩⟩, rfl⟩
    rw [Nat.zero_mul, List.take_zero]
    rw [Nat.zero_mul] at hl
    exact (List.length_eq_zero_iff.1 hl).symm
theorem RowAt.cellAt {w : World} {e : TypeId} {size n : Nat} {g o cap : Nat} {xs : List Value} (h : RowAt w e size (.slice (some ⟨g, o, none⟩) n cap) n xs) {i : Nat} (hi : i < n * size) : w.cell? ⟨g, o + i, none⟩ = xs[i]? := by
  obtain ⟨h0, h1⟩ := h
  rcases h1 with ⟨h1, -⟩ | ⟨g', o', cap', cur, h1, h3, h4, h5, h6, h7⟩
  · cases h1
  · simp only [Value.slice.injEq, Option.some.injEq, Addr.mk.injEq, and_true, true_and] at h1
    obtain ⟨⟨rfl, rfl⟩, rfl⟩ := h1
    rw [cell_of_row w g _ _ _ _ h3, ← h7, List.getElem?_take, if_pos hi, List.getElem?_drop, Array.getElem?_toList]
theorem RowAt.shape {w : World} {e : TypeId} {size n : Nat} {v : Value} {xs : List Value} (h : RowAt w e size v (n + 1) xs) : ∃ g o cap, v = .slice (some ⟨g, o, none⟩) (n + 1) cap ∧ n + 1 ≤ cap ∧ cap ≤ maxLen ∧ g < w.heap.size := by
  rcases h.2 with ⟨_, h1⟩ | ⟨g', o', cap', cur, h1, h3, h4, h5, h6, h7⟩
  · omega
  · exact ⟨_, _, _, h1, h4, h5, lt_of_block h3⟩
theorem RowAt.len {w : World} {e : TypeId} {size n : Nat} {v : Value} {xs : List Value} (h : RowAt w e size v n xs) : ∃ s cap, v = .slice s n cap := by
  rcases h.2 with ⟨rfl, rfl⟩ | ⟨g', o', cap', cur, h1, h3, h4, h5, h6, h7⟩
  · exact ⟨_, _, rfl⟩
  · exact ⟨_, _, h1⟩
set_option maxRecDepth 100000 in
set_option maxHeartbeats 1600000 in
theorem i_makeAnswer (eb mb : Nat) (g : GEnd) (w : World) (h : Inv w eb mb g) (hf : Fine g) (hl : g.out.length ≤ 1073741824) :
    Calls Tryz.prog 90 #[.pointer (some ⟨eb, 0, none⟩)] w fun e w' => MadeO w w' eb mb g g.oAnswer e := by
  have c42 := h.en.c42
  cases ha : g.ans with
  | nil =>
    have hr := h.ans
    rw [ha] at hr
    obtain ⟨s, cap, hv⟩ := hr.len
    rw [hv] at c42
    have ho : g.oAnswer = none := by unfold GEnd.oAnswer; rw [ha]
    rw [ho]
    clear h hf ha hr hv ho
    go_enter Tryz.func90, Tryz.ntmps90
    go_wp2
    go_ret
    exact ⟨rfl, Below.refl _ _⟩
  | cons a r =>
    have hr := h.ans
    rw [ha, List.length_cons, List.flatMap_cons] at hr
    obtain ⟨ga, oa, ca, hv, hca, hcm, hga⟩ := hr.shape
    rw [hv] at c42 hr
    obtain ⟨ht1, ht2⟩ := RowAt.tail (x := a.cells) rfl hr
    have k0 : w.cell? ⟨ga, oa, none⟩ = some (.int .i64 a.kind) := by have := hr.cellAt (i := 0) (by omega); rw [Nat.add_zero] at this; rw [this]; rfl
    have k1 : w.cell? ⟨ga, oa + 1, none⟩ = some (.int .i64 a.flags) := by rw [hr.cellAt (i := 1) (by omega)]; rfl
    have k2 : w.cell? ⟨ga, oa + 2, none⟩ = some (.int .i64 0) := by rw [hr.cellAt (i := 2) (by omega)]; rfl
    have k3 : w.cell? ⟨ga, oa + 3, none⟩ = some a.bv := by rw [hr.cellAt (i := 3) (by omega)]; rfl
    have ham : a ∈ g.ans := by rw [ha]; exact List.mem_cons_self
    obtain ⟨f1, f2, f3, f4, f5⟩ := hf.ans a ham
    have hb := h.anb a ham
    obtain ⟨sa, cap, hbv⟩ := slice_len hb
    rw [hbv] at hb k3
    have HP := hide (en_put eb g.m g.out a.kind a.flags 0 sa a.body cap w h.en hf.greets h.out hl f1 f2 f3 f4 (by omega) (by omega) f5 (bytesIn_of_owns hb rfl))
    have ho : g.oAnswer = some { g with ans := r, out := g.out ++ lay a.kind a.flags 0 a.body } := by unfold GEnd.oAnswer; rw [ha]
    rw [ho]
    have HN : Hid (∀ (w1 : World) (v vt : Value), Put w w1 eb g.m g.out (lay a.kind a.flags 0 a.body) v → (vt.ownBlock = some ga) → RowAt w 105 4 vt r.length (r.flatMap Ans.cells) → MadeO w (w1.setCell ⟨eb, 42, none⟩ vt) eb mb g (some { g with ans := r, out := g.out ++ lay a.kind a.flags 0 a.body }) (.returned (.bool true))) := fun w1 v vt hp hvt hrow => by
      have hn := h.put rfl rfl rfl rfl rfl rfl hp
      have hrow1 : RowAt w1 105 4 vt r.length (r.flatMap Ans.cells) := hrow.chg hp.chg (fun j hj e => by
        rcases e with e | e
        · rw [e] at hj; exact hrow.ne h.en.blk (by decide) hj
        · exact rows_ne2 h.out hrow (by decide) e hj)
      have hn2 := hn.inv.onEnd (S := fun j => j = eb) (w' := w1.setCell ⟨eb, 42, none⟩ vt) (m' := { g.m with out := v, answers := vt }) (A' := r) (o' := g.out ++ lay a.kind a.flags 0 a.body) (R' := g.res) (chg_set (Chg.refl _ _) rfl) (fun j e => Or.inl e) (EnB.of (blk_set hp.b.blk) rfl) rfl rfl rfl
        (owns_chg hn.inv.out (chg_set (S := fun j => j = eb) (Chg.refl _ _) rfl) (fun j hj e => by rw [e] at hj; exact owns_ne hn.inv.out hn.inv.en.blk (by decide) hj)) (fun j hj => Or.inl hj) hrow1 (fun b hb => by rw [show ({ g with m := { g.m with out := v }, out := g.out ++ lay a.kind a.flags 0 a.body } : GEnd).ans = g.ans from rfl, ha]; exact List.mem_cons_of_mem _ hb) (fun j hj => by
          have e1 : ({ g.m with out := v, answers := vt } : EndM).answers.ownBlock = some ga := hvt
          rw [e1] at hj
          rw [← hj]
          show g.m.answers.ownBlock = _
          rw [hv]; rfl) hn.inv.res (fun j hj => hj)
      refine ⟨rfl, _, ?_, hn.trans hn2⟩
      obtain ⟨sx, lx, cx, hvx⟩ := own_shape hvt
      subst hvx
      unfold GEnd.bare EndM.bare
      simp only [hv]
      rfl
    have hlt := h.en.lt
    clear h hf ha hr ho hb ham
    have hn1 : 1 ≤ r.length + 1 := by omega
    by_cases hc1 : ca = 1
    · obtain ⟨ht3, hn0⟩ := ht2 hc1
      subst hc1
      have hr0 : r.length + 1 = 1 := by omega
      rw [hr0] at c42 hv
      have HT := hide ht3
      have HV := hide hv
      clear ht1 ht2 ht3 hv hbv hn0 hr0
      go_enter Tryz.func90, Tryz.ntmps90
      go_wp2_with fail
      refine HP.out.mono ?_
      rintro e w1 ⟨rfl, v, hp⟩
      have d42 : w1.cell? ⟨eb, 42, none⟩ = some (.slice (some ⟨ga, oa, none⟩) 1 1) := by rw [hp.b.c42]; exact congrArg some HV.out
      have f42 := hp.b.fr 42
      have HPP := hide hp
      clear hp
      go_wp2
      go_ret
      exact HN.out w1 v _ HPP.out rfl HT.out
    · have HT := hide ht1
      have HV := hide hv
      have hc2 : 1 ≤ ca := by omega
      clear ht1 ht2 hv hbv
      go_enter Tryz.func90, Tryz.ntmps90
      go_wp2_with fail
      refine HP.out.mono ?_
      rintro e w1 ⟨rfl, v, hp⟩
      have d42 : w1.cell? ⟨eb, 42, none⟩ = some (.slice (some ⟨ga, oa, none⟩) (r.length + 1) ca) := by rw [hp.b.c42]; exact congrArg some HV.out
      have f42 := hp.b.fr 42
      have HPP := hide hp
      clear hp
      go_wp2
      go_ret
      exact HN.out w1 v _ HPP.out rfl HT.out
set_option maxRecDepth 100000 in
set_option maxHeartbeats 1600000 in
theorem i_makeReset (eb mb : Nat) (g : GEnd) (w : World) (h : Inv w eb mb g) (hf : Fine g) (hl : g.out.length ≤ 1073741824) :
    Calls Tryz.prog 95 #[.pointer (some ⟨eb, 0, none⟩)] w fun e w' => MadeO w w' eb mb g g.oReset e := by
  have c43 := h.en.c43
  cases ha : g.res with
  | nil =>
    have hr := h.res
    rw [ha] at hr
    obtain ⟨s, cap, hv⟩ := hr.len
    rw [hv] at c43
    have ho : g.oReset = none := by unfold GEnd.oReset; rw [ha]
    rw [ho]
    clear h hf ha hr hv ho
    go_enter Tryz.func95, Tryz.ntmps95
    go_wp2
    go_ret
    exact ⟨rfl, Below.refl _ _⟩
  | cons a r =>
    have hr := h.res
    rw [ha, List.length_cons, List.map_cons] at hr
    obtain ⟨ga, oa, ca, hv, hca, hcm, hga⟩ := hr.shape
    rw [hv] at c43 hr
    obtain ⟨ht1, ht2⟩ := RowAt.tail (x := [.int .i64 a]) rfl hr
    have k0 : w.cell? ⟨ga, oa, none⟩ = some (.int .i64 a) := by have := hr.cellAt (i := 0) (by omega); rw [Nat.add_zero] at this; rw [this]; rfl
    have ham : a ∈ g.res := by rw [ha]; exact List.mem_cons_self
    obtain ⟨f1, f2⟩ := hf.res a ham
    have HP : Hid (∀ w0, Below w.heap.size w w0 → BytesIn w0 (.slice (some ⟨w.heap.size, 0, none⟩) 1 1) [0] → Calls Tryz.prog 129 #[.pointer (some ⟨eb, 0, none⟩), .agg #[.int .i64 2, .int .i64 0, .int .i64 a, .slice (some ⟨w.heap.size, 0, none⟩) 1 1]] w0 fun e w' => e = .returned (.tuple #[]) ∧ ∃ v, Put w w' eb g.m g.out (lay 2 0 a [0]) v) := fun w0 hb0 hby => by
      have h0 := h.below hb0
      refine (en_put eb g.m g.out 2 0 a _ [0] 1 w0 h0.en hf.greets h0.out hl (by omega) (by omega) (by omega) (by omega) f1 f2 (by decide) hby).mono ?_
      rintro e w' ⟨rfl, v, hp⟩
      exact ⟨rfl, v, hp.pre (w := w) (Chg.refl _ _) hb0⟩
    have ho : g.oReset = some { g with res := r, out := g.out ++ lay 2 0 a [0] } := by unfold GEnd.oReset; rw [ha]
    rw [ho]
    have HN : Hid (∀ (w1 : World) (v vt : Value), Put w w1 eb g.m g.out (lay 2 0 a [0]) v → (vt.ownBlock = some ga) → RowAt w 3 1 vt r.length (r.map fun i => .int .i64 i) → MadeO w (w1.setCell ⟨eb, 43, none⟩ vt) eb mb g (some { g with res := r, out := g.out ++ lay 2 0 a [0] }) (.returned (.bool true))) := fun w1 v vt hp hvt hrow => by
      have hn := h.put rfl rfl rfl rfl rfl rfl hp
      have hrow1 : RowAt w1 3 1 vt r.length (r.map fun i => .int .i64 i) := hrow.chg hp.chg (fun j hj e => by
        rcases e with e | e
        · rw [e] at hj; exact hrow.ne h.en.blk (by decide) hj
        · exact rows_ne2 h.out hrow (by decide) e hj)
      have hn2 := hn.inv.onEnd (S := fun j => j = eb) (w' := w1.setCell ⟨eb, 43, none⟩ vt) (m' := { g.m with out := v, resets := vt }) (A' := g.ans) (o' := g.out ++ lay 2 0 a [0]) (R' := r) (chg_set (Chg.refl _ _) rfl) (fun j e => Or.inl e) (EnB.of (blk_set hp.b.blk) rfl) rfl rfl rfl
        (owns_chg hn.inv.out (chg_set (S := fun j => j = eb) (Chg.refl _ _) rfl) (fun j hj e => by rw [e] at hj; exact owns_ne hn.inv.out hn.inv.en.blk (by decide) hj)) (fun j hj => Or.inl hj) hn.inv.ans (fun b hb => hb) (fun j hj => hj) hrow1 (fun j hj => by
          have e1 : ({ g.m with out := v, resets := vt } : EndM).resets.ownBlock = some ga := hvt
          rw [e1] at hj
          rw [← hj]
          show g.m.resets.ownBlock = _
          rw [hv]; rfl)
      refine ⟨rfl, _, ?_, hn.trans hn2⟩
      obtain ⟨sx, lx, cx, hvx⟩ := own_shape hvt
      subst hvx
      unfold GEnd.bare EndM.bare
      simp only [hv]
      rfl
    have hlt := h.en.lt
    clear h hf ha hr ho ham
    have hn1 : 1 ≤ r.length + 1 := by omega
    by_cases hc1 : ca = 1
    · obtain ⟨ht3, hn0⟩ := ht2 hc1
      subst hc1
      have hr0 : r.length + 1 = 1 := by omega
      rw [hr0] at c43 hv
      have HT := hide ht3
      have HV := hide hv
      clear ht1 ht2 ht3 hv hn0 hr0
      go_enter Tryz.func95, Tryz.ntmps95
      go_wp2_with fail
      refine (HP.out _ ?b1 ?b2).mono ?_
      case b1 => exact (Below.refl _ _).alloc (Nat.le_refl _) _
      case b2 => exact Or.inr ⟨_, 0, 1, rfl, by simp, by simp, fun i hi => by have : i = 0 := (by simpa using hi); subst this; exact one_alloc _ _ _⟩
      rintro e w1 ⟨rfl, v, hp⟩
      have d43 : w1.cell? ⟨eb, 43, none⟩ = some (.slice (some ⟨ga, oa, none⟩) 1 1) := by rw [hp.b.c43]; exact congrArg some HV.out
      have f43 := hp.b.fr 43
      have HPP := hide hp
      clear hp
      go_wp2
      go_ret
      exact HN.out w1 v _ HPP.out rfl HT.out
    · have HT := hide ht1
      have HV := hide hv
      have hc2 : 1 ≤ ca := by omega
      clear ht1 ht2 hv
      go_enter Tryz.func95, Tryz.ntmps95
      go_wp2_with fail
      refine (HP.out _ ?b1 ?b2).mono ?_
      case b1 => exact (Below.refl _ _).alloc (Nat.le_refl _) _
      case b2 => exact Or.inr ⟨_, 0, 1, rfl, by simp, by simp, fun i hi => by have : i = 0 := (by simpa using hi); subst this; exact one_alloc _ _ _⟩
      rintro e w1 ⟨rfl, v, hp⟩
      have d43 : w1.cell? ⟨eb, 43, none⟩ = some (.slice (some ⟨ga, oa, none⟩) (r.length + 1) ca) := by rw [hp.b.c43]; exact congrArg some HV.out
      have f43 := hp.b.fr 43
      have HPP := hide hp
      clear hp
      go_wp2
      go_ret
      exact HN.out w1 v _ HPP.out rfl HT.out
end Go.Proofs.YtiphkngfbpdeoaaGreatDoor
namespace Go.Proofs.YtiphkngfbpdeoaaGreatDoor
set_option linter.unusedVariables false
set_option linter.unusedSimpArgs false
open Go.RowKit
set_option maxRecDepth 100000 in
set_option maxHeartbeats 1600000 in
theorem answer_any (eb mb : Nat) (g : GEnd) (x0 x1 : Int) (sb : Option Addr) (len cb : Nat) (w : World) (h : Inv w eb mb g) (hn : g.ans.length < 8) :
    Calls Tryz.prog 126 #[.pointer (some ⟨eb, 0, none⟩), .agg #[.int .i64 x0, .int .i64 x1, .int .i64 0, .slice sb len cb]] w fun e w' => e = .returned (.tuple #[]) ∧ ∃ gr go cr, EnB w' eb { g.m with answers := .slice (some ⟨gr, go, none⟩) (g.ans.length + 1) cr } ∧ RowAt w' 105 4 (.slice (some ⟨gr, go, none⟩) (g.ans.length + 1) cr) (g.ans.length + 1) (g.ans.flatMap Ans.cells ++ [.int .i64 x0, .int .i64 x1, .int .i64 0, .slice sb len cb]) ∧ Chg (fun j => j = eb ∨ g.m.answers.ownBlock = some j) w w' ∧ (g.m.answers.ownBlock = some gr ∨ w.heap.size ≤ gr) := by
  obtain ⟨i0, hi, hz0, hz1, hz2⟩ := info_parts Tryz.info105
  have c42 := h.en.c42
  obtain ⟨sa, ca, hv⟩ := h.ans.len
  have hrow := h.ans
  rw [hv] at c42 hrow
  rw [hv]
  have f42 := h.en.fr 42
  have hlt := h.en.lt
  have hne : (Value.slice sa g.ans.length ca).ownBlock ≠ some eb := by rw [← hv]; exact h.ans.ne h.en.blk (by decide)
  have HNE := hide hne
  have H := hide h.en
  have HROW : Hid (RowAt ((w.alloc (.cells #[.int .i64 x0, .int .i64 x1, .int .i64 0, .slice sb len cb] 105)).alloc (.cells #[.int .i64 x0, .int .i64 x1, .int .i64 0, .slice sb len cb] 105)).drew 105 4 (.slice sa g.ans.length ca) g.ans.length (g.ans.flatMap Ans.cells)) := hrow.chg (S := fun _ => False) (((Chg.refl (fun _ => False) w).alloc _).alloc _).drew (fun _ _ => id)
  have HLIE : Hid (∀ j u, ([.int .i64 x0, .int .i64 x1, .int .i64 0, .slice sb len cb] : List Value)[j]? = some u → ((w.alloc (.cells #[.int .i64 x0, .int .i64 x1, .int .i64 0, .slice sb len cb] 105)).alloc (.cells #[.int .i64 x0, .int .i64 x1, .int .i64 0, .slice sb len cb] 105)).drew.cell? ((⟨w.heap.size + 1, 0, none⟩ : Addr).add j) = some u) := fun j u hu => by
    have q := lies_row (w := w.alloc (.cells #[.int .i64 x0, .int .i64 x1, .int .i64 0, .slice sb len cb] 105)) (xs := [.int .i64 x0, .int .i64 x1, .int .i64 0, .slice sb len cb]) (t := 105) j u hu
    rw [show (w.alloc (.cells #[.int .i64 x0, .int .i64 x1, .int .i64 0, .slice sb len cb] 105)).heap.size = w.heap.size + 1 from by simp] at q
    exact q
  have hlen : (g.ans.length : Int) < 8 := by omega
  obtain ⟨m0, hm0⟩ : ∃ m0, m0 = g.m := ⟨_, rfl⟩
  rw [← hm0] at H ⊢
  generalize g.ans.flatMap Ans.cells = xs at *
  generalize g.ans.length = n at *
  clear h hv hrow hne hm0
  go_enter Tryz.func126, Tryz.ntmps126
  go_upto_region 3 with fail
  go_region_law (first
    | (refine step_appR rfl (.tmp 17) (.tmp 19) 90 rfl 105 i0 (.agg #[.int .i64 0, .int .i64 0, .int .i64 0, .slice none 0 0]) 4 48 Tryz.underlying90 hi hz0 hz1 hz2 rfl (by decide) (.slice sa n ca) n xs (by simp [Act.eval, Act.put]) HROW.out ⟨w.heap.size + 1, 0, none⟩ 1 1 [.int .i64 x0, .int .i64 x1, .int .i64 0, .slice sb len cb] (by simp [Act.eval, Act.put]) rfl HLIE.out (by intro u hu; simp only [List.mem_cons, List.not_mem_nil, or_false] at hu; rcases hu with rfl | rfl | rfl | rfl <;> rfl) (by unfold maxLen; omega) (by omega) (by decide) ?_; intro v3 w3 ho3 hg3 hfr3 hsh3; obtain ⟨gr, go, cr, hv3⟩ := hsh3; subst hv3; have hcg : Chg (fun j => (Value.slice sa n ca).ownBlock = some j) w w3 := (((Chg.refl (fun j => (Value.slice sa n ca).ownBlock = some j) w).alloc (.cells #[.int .i64 x0, .int .i64 x1, .int .i64 0, .slice sb len cb] 105)).alloc (.cells #[.int .i64 x0, .int .i64 x1, .int .i64 0, .slice sb len cb] 105)).drew.trans (hg3.mono fun j _ e => Or.inr e); have k42 : w3.cell? ⟨eb, 42, none⟩ = some (.slice sa n ca) := (by rw [hcg.cell (p := ⟨eb, 42, none⟩) hlt HNE.out]; exact c42); have g42 : w3.frozen? ⟨eb, 42, none⟩ = false := (by rw [hcg.frozen (p := ⟨eb, 42, none⟩) hlt HNE.out]; exact f42); have HO3 := hide ho3; have HCG := hide hcg; have HF3 := hide hfr3; clear ho3 hg3 hfr3 hcg))
  all_goals go_wp2
  all_goals
    have hE3 : EnB w3 eb m0 := H.out.chg HCG.out HNE.out
    have hset : Chg (fun j => j = eb) w3 (w3.setCell ⟨eb, 42, none⟩ (.slice (some ⟨gr, go, none⟩) (n + 1) cr)) := chg_set (Chg.refl _ _) rfl
    refine bodyPost_end (results_none rfl _ _ _) rfl ⟨rfl, gr, go, cr, EnB.of (blk_set hE3.blk) rfl, HO3.out.chg hset (fun j hj e => by rw [e] at hj; exact HO3.out.ne hE3.blk (by decide) hj), (HCG.out.mono fun _ _ e => Or.inr e).trans (hset.mono fun j _ e => Or.inr (Or.inl e)), ?_⟩
    rcases HF3.out with e | e
    · exact Or.inl e.symm
    · refine Or.inr ?_
      simp [Value.ownBlock] at e
      omega
theorem Inv.answers {w w' : World} {eb mb : Nat} {g : GEnd} {v : Value} {a : Ans} (h : Inv w eb mb g) (hc : Chg (fun j => j = eb ∨ g.m.answers.ownBlock = some j) w w') (hen : EnB w' eb { g.m with answers := v }) (hr : RowAt w' 105 4 v (g.ans.length + 1) (g.ans.flatMap Ans.cells ++ a.cells)) (hfr : ∀ j, v.ownBlock = some j → g.m.answers.ownBlock = some j ∨ w.heap.size ≤ j)
    (hb : w.ownsRow 0 5 1 a.bv a.body.length (a.body.map B)) (hbn : ∀ j, a.bv.ownBlock = some j → ¬ Foot eb mb g j) {w0 : World} {g0 : GEnd} (hn0 : Next w0 w eb mb g0 g) (hb0 : ∀ j, a.bv.ownBlock = some j → Foot eb mb g0 j ∨ w0.heap.size ≤ j) :
    Next w0 w' eb mb g0 { g with m := { g.m with answers := v }, ans := g.ans ++ [a] } := by
  have hrow : ∀ {k : Nat} {v' : Value} {xs : List Value} {ty : TypeId}, ty ≠ 98 → ty ≠ 105 → w.ownsRow 0 ty 1 v' k xs → w'.ownsRow 0 ty 1 v' k xs := fun hne hne2 hr => owns_chg hr hc (fun j hj e => by
    rcases e with e | e
    · rw [e] at hj; exact owns_ne hr h.en.blk hne hj
    · exact rows_ne2 hr h.ans hne2 hj e)
  have hmb : g.m.answers.ownBlock ≠ some mb := rowAt_mb h.kn h.ans
  refine ⟨⟨hen, h.kn.chg hc ?_ (fun p hp => ?_), h.km, h.nd, h.nn, h.ln, h.has, hrow (by decide) (by decide) h.row, hrow (by decide) (by decide) h.out, hrow (by decide) (by decide) h.got, fun p hp => hrow (by decide) (by decide) (h.un p hp), fun p hp => hrow (by decide) (by decide) (h.wa p hp), ?_, ?_, ?_, ?_⟩, hn0.chg.trans (hc.mono fun j _ e => ?_), ?_⟩
  · rintro (e | e)
    · exact h.eb_mb e
    · exact hmb e
  · obtain ⟨q, hq, rfl⟩ := List.mem_map.1 hp
    rintro (e | e)
    · exact h.st_eb hq e
    · exact h.ans.ne (h.st hq).blk (by decide) e
  · show RowAt w' 105 4 v (g.ans ++ [a]).length ((g.ans ++ [a]).flatMap Ans.cells)
    rw [List.length_append, List.flatMap_append]
    simpa using hr
  · intro b hbm
    rcases List.mem_append.1 hbm with hbm | hbm
    · exact hrow (by decide) (by decide) (h.anb b hbm)
    · rw [List.mem_singleton.1 hbm]
      exact hrow (by decide) (by decide) hb
  · refine h.res.chg hc (fun j hj e => ?_)
    rcases e with e | e
    · rw [e] at hj; exact h.res.ne h.en.blk (by decide) hj
    · exact rows_ne3 h.ans h.res (by decide) e hj
  · obtain ⟨T, hT⟩ := h.ap
    have hoff : ∀ j, Foot eb mb g j → (if a.bv.ownBlock = some j then 2 else T j) = T j := fun j hf => if_neg (fun e => hbn j e hf)
    refine ⟨fun j => if a.bv.ownBlock = some j then 2 else T j, ⟨fun j hj => ?_, fun j hj => ?_, fun p hp j hj => ?_, fun p hp j hj => ?_, fun b hbm j hj => ?_⟩⟩
    · rw [hoff j (Or.inr (Or.inr (Or.inl hj)))]; exact hT.out j hj
    · rw [hoff j (Or.inr (Or.inr (Or.inr (Or.inl hj))))]; exact hT.got j hj
    · rw [hoff j (foot_un (g := g) hp hj)]; exact hT.un p hp j hj
    · rw [hoff j (foot_wa (g := g) hp hj)]; exact hT.wa p hp j hj
    · rcases List.mem_append.1 hbm with hbm | hbm
      · rw [hoff j (Or.inr (Or.inr (Or.inr (Or.inr (Or.inr (Or.inr (Or.inr (Or.inl ⟨b, hbm, hj⟩))))))))]; exact hT.an b hbm j hj
      · rw [List.mem_singleton.1 hbm] at hj
        rw [if_pos hj]
  · have hf : Foot eb mb g j := by
      rcases e with e | e
      · exact Or.inl e
      · exact Or.inr (Or.inr (Or.inr (Or.inr (Or.inr (Or.inl e)))))
    rcases hn0.grow j hf with a | a
    · exact Or.inr a
    · exact Or.inl a
  · intro j hj
    have hold : Foot eb mb g j → Foot eb mb g0 j ∨ w0.heap.size ≤ j := hn0.grow j
    rcases hj with e | e | e | e | e | e | e | ⟨b, hbm, e⟩ | e
    · exact hold (Or.inl e)
    · exact hold (Or.inr (Or.inl e))
    · exact hold (Or.inr (Or.inr (Or.inl e)))
    · exact hold (Or.inr (Or.inr (Or.inr (Or.inl e))))
    · exact hold (Or.inr (Or.inr (Or.inr (Or.inr (Or.inl e)))))
    · rcases hfr j e with a | a
      · exact hold (Or.inr (Or.inr (Or.inr (Or.inr (Or.inr (Or.inl a))))))
      · exact Or.inr (Nat.le_trans hn0.chg.size a)
    · exact hold (Or.inr (Or.inr (Or.inr (Or.inr (Or.inr (Or.inr (Or.inl e)))))))
    · rcases List.mem_append.1 hbm with hbm | hbm
      · exact hold (Or.inr (Or.inr (Or.inr (Or.inr (Or.inr (Or.inr (Or.inr (Or.inl ⟨b, hbm, e⟩))))))))
      · rw [List.mem_singleton.1 hbm] at e
        exact hb0 j e
    · exact hold (Or.inr (Or.inr (Or.inr (Or.inr (Or.inr (Or.inr (Or.inr (Or.inr e))))))))
set_option maxRecDepth 100000 in
set_option maxHeartbeats 800000 in
theorem comePing_any (eb mb : Nat) (g : GEnd) (f nv : Int) (sv : Option Addr) (cb : Nat) (body : List UInt8) (w : World) (h : Inv w eb mb g) (hf : 0 ≤ f ∧ f ≤ 255) (hak : hasB f 1 = false) (hn : g.ans.length < 8) (hb : w.ownsRow 0 5 1 (.slice sv body.length cb) body.length (body.map B)) (hbn : ∀ j, (Value.slice sv body.length cb).ownBlock = some j → ¬ Foot eb mb g j) {w0 : World} {g0 : GEnd} (hn0 : Next w0 w eb mb g0 g) (hb0 : ∀ j, (Value.slice sv body.length cb).ownBlock = some j → Foot eb mb g0 j ∨ w0.heap.size ≤ j) :
    Calls Tryz.prog 86 #[.pointer (some ⟨eb, 0, none⟩), .agg #[.int .i64 4, .int .i64 f, .int .i64 0, .slice sv body.length cb, .int .u32 nv]] w fun e w' => e = .returned (.tuple #[]) ∧ ∃ g', g'.bare = ({ g with m := { g.m with answers := .tuple #[] }, ans := g.ans ++ [⟨4, 1, body, .slice none 0 0⟩] } : GEnd).bare ∧ Next w0 w' eb mb g0 g' := by
  obtain ⟨len, hle⟩ : ∃ len, len = body.length := ⟨_, rfl⟩
  have hbA : Below w.heap.size w (w.alloc (.cells #[.int .i64 4, .int .i64 f, .int .i64 0, .slice sv body.length cb, .int .u32 nv] 170)) := (Below.refl _ _).alloc (Nat.le_refl _) _
  have hnew := heap_alloc_new w (.cells #[.int .i64 4, .int .i64 f, .int .i64 0, .slice sv body.length cb, .int .u32 nv] 170)
  have HH : Hid (∀ w, Calls Tryz.prog 83 #[.agg #[.int .i64 4, .int .i64 f, .int .i64 0, .slice sv body.length cb], .int .i64 1] w fun e w' => e = .returned (.bool false) ∧ Below w.heap.size w w') := fun w => by
    have := has_any 4 f 0 1 (.slice sv body.length cb) w hf.1 (by omega) (Or.inl rfl)
    rw [hak] at this
    exact this
  have HA : Hid (∀ w1, Below w.heap.size w w1 → Calls Tryz.prog 126 #[.pointer (some ⟨eb, 0, none⟩), .agg #[.int .i64 4, .int .i64 1, .int .i64 0, .slice sv body.length cb]] w1 fun e w' => e = .returned (.tuple #[]) ∧ ∃ g', g'.bare = ({ g with m := { g.m with answers := .tuple #[] }, ans := g.ans ++ [⟨4, 1, body, .slice none 0 0⟩] } : GEnd).bare ∧ Next w0 w' eb mb g0 g') := fun w1 hb1 => by
    have h1 := h.below hb1
    refine (answer_any eb mb g 4 1 sv body.length cb w1 h1 hn).mono ?_
    rintro e w' ⟨rfl, gr, go, cr, hen, hrow, hch, hfr⟩
    refine ⟨rfl, { g with m := { g.m with answers := .slice (some ⟨gr, go, none⟩) (g.ans.length + 1) cr }, ans := g.ans ++ [⟨4, 1, body, .slice sv body.length cb⟩] }, ?_, ?_⟩
    · unfold GEnd.bare
      simp only [GEnd.mk.injEq, true_and, and_true]
      refine ⟨rfl, ?_⟩
      rw [List.map_append, List.map_append]
      rfl
    · refine h1.answers (a := ⟨4, 1, body, .slice sv body.length cb⟩) hch hen hrow (fun j hj => ?_) (owns_chg hb (Chg.of_below (S := fun _ => False) hb1) (fun _ _ => id)) hbn (hn0.then_below hb1) hb0
      simp [Value.ownBlock] at hj
      subst hj
      exact hfr
  have HB := hide hbA
  have HC3 : Hid (∀ w1, Below (w.alloc (.cells #[.int .i64 4, .int .i64 f, .int .i64 0, .slice sv body.length cb, .int .u32 nv] 170)).heap.size (w.alloc (.cells #[.int .i64 4, .int .i64 f, .int .i64 0, .slice sv body.length cb, .int .u32 nv] 170)) w1 → w1.cell? ⟨w.heap.size, 3, none⟩ = some (.slice sv body.length cb)) := fun w1 hb1 => by
    rw [cell_of_row _ _ _ _ _ _ (kept_told hnew hb1)]
    rfl
  clear h hf hak hn hb hbn hn0 hb0 hbA hnew
  rw [← hle] at *
  clear hle
  go_enter Tryz.func86, Tryz.ntmps86
  go_wp2_with fail
  refine (HH.out _).mono ?_
  rintro e w1 ⟨rfl, hb1⟩
  have k3 := HC3.out w1 hb1
  have HB1 : Hid (Below w.heap.size w w1) := HB.out.trans (hb1.mono HB.out.size)
  clear hb1
  go_wp2_with fail
  refine (HA.out w1 HB1.out).mono ?_
  rintro e w2 ⟨rfl, hx⟩
  have HX := hide hx
  clear hx
  go_wp2
  exact bodyPost_end (results_none rfl _ _ _) rfl ⟨rfl, HX.out⟩
end Go.Proofs.YtiphkngfbpdeoaaGreatDoor
namespace Go.Proofs.YtiphkngfbpdeoaaGreatDoor
set_option linter.unusedVariables false
set_option linter.unusedSimpArgs false
open Go.RowKit
theorem counted_bare (m : EndM) (n : Int) : (m.counted n).bare = m.bare.counted n := by
  unfold EndM.counted
  by_cases h1 : m.under = true
  · rw [if_pos h1, if_pos (show m.bare.under = true from h1)]; rfl
  · rw [if_neg h1, if_neg (show ¬ m.bare.under = true from h1)]
    by_cases h2 : 1 ≤ n ∧ m.target < m.most
    · rw [if_pos h2, if_pos (show 1 ≤ n ∧ m.bare.target < m.bare.most from h2)]; rfl
    · rw [if_neg h2, if_neg (show ¬ (1 ≤ n ∧ m.bare.target < m.bare.most) from h2)]
theorem got_bare (m : EndM) (n : Nat) : (m.got_ n).bare = m.bare.got_ n := counted_bare { m with receive := m.receive - n } n
def GEnd.begin (p : GEnd) : GEnd := { p with m := { p.m with begun := true } }
def Come (p : GEnd) (z1 : Fr) (z2 : GEnd) : Prop := ∀ Z : Fr → GEnd → Prop, (∀ (fl : Int) (b : List UInt8) (hf : 0 ≤ fl ∧ fl ≤ 255) (ha : hasB fl 1 = false) (hK : p.K = []) (hA : p.ans = []) (hv : p.m.answers = .slice none 0 0) (hb : p.m.bstream = 0), Z ⟨3, fl, 0, b⟩ { p with m := { p.m with begun := true, other := num4 b, answers := .tuple #[] }, ans := [⟨3, 1, [], .slice none 0 0⟩] }) → (∀ (fl n : Int) (hf : 0 ≤ fl ∧ fl ≤ 255) (hla : hasB fl 4 = true) (hop : p.m.opensN n = false) (hnw : p.m.newest < n) (h4 : p.L.length < 4) (hn : ∀ x ∈ p.K, x.st.number ≠ n) (hup : ∀ i (h : i + 1 < (p.L ++ [n]).length), (p.L ++ [n])[i] ≤ (p.L ++ [n])[i + 1]) (hb : p.m.bstream = 0) (hg : p.m.begun = true), Z ⟨1, fl, n, []⟩ (p.begin.opened n (hasB fl 1))) → (∀ (fl : Int) (s : GSt) (b : List UInt8) (hs : s ∈ p.K) (hf : 0 ≤ fl ∧ fl ≤ 255) (hp : hasB fl 8 = false) (ha : s.st.announced = true) (hh : s.st.hasAll = false) (hr : s.st.reset = 0) (hcl : ({ s.st with hasAll := hasB fl 1 } : StM).closed = false) (hlen : b.length ≤ 1073741824) (hun : s.un.length ≤ 1073741824) (hfl : b.length = 0 ∨ ((b.length : Int) ≤ p.m.receive ∧ (b.length : Int) ≤ p.m.own + s.st.receive)) (b1 : -1099511627776 ≤ p.m.receive ∧ p.m.receive ≤ 1099511627776) (b2 : -1099511627776 ≤ p.m.owed ∧ p.m.owed ≤ 1099511627776) (b3 : 0 ≤ p.m.count ∧ p.m.count ≤ 1099511627776) (b4 : -1099511627776 ≤ p.m.own ∧ p.m.own ≤ 1099511627776) (b5 : -1099511627776 ≤ s.st.receive ∧ s.st.receive ≤ 1099511627776) (b6 : -1099511627776 ≤ s.st.owed ∧ s.st.owed ≤ 1099511627776) (hb : p.m.bstream = 0) (hg : p.m.begun = true), Z ⟨0, fl, s.st.number, b⟩ { p with m := p.begin.m.got_ b.length, K := updN s.st.number (fun s => s.more b (hasB fl 1)) p.K }) → (∀ (fl : Int) (s : GSt) (b : List UInt8) (hs : s ∈ p.K) (hf : 0 ≤ fl ∧ fl ≤ 255) (hp : hasB fl 8 = false) (ha : s.st.announced = true) (hh : s.st.hasAll = false) (hr : s.st.reset = 1) (hlen : b.length ≤ 1073741824) (hfl : b.length = 0 ∨ (b.length : Int) ≤ p.m.receive) (b1 : -1099511627776 ≤ p.m.receive ∧ p.m.receive ≤ 1099511627776) (b2 : -1099511627776 ≤ p.m.owed ∧ p.m.owed ≤ 1099511627776) (b3 : 0 ≤ p.m.count ∧ p.m.count ≤ 1099511627776) (hb : p.m.bstream = 0) (hg : p.m.begun = true), Z ⟨0, fl, s.st.number, b⟩ { p with m := (p.begin.m.got_ b.length).owes b.length }) → (∀ (fl : Int) (k : Nat) (b : List UInt8) (hk : k < p.L.length) (hf : 0 ≤ fl ∧ fl ≤ 255) (ha : (atN p.K p.L[k]).st.announced = true) (hcl : (atN p.K p.L[k]).st.closed = false) (hL : p.L.length ≤ 1048576) (hul : (atN p.K p.L[k]).un.length ≤ 1048576) (b2 : -1099511627776 ≤ p.m.owed ∧ p.m.owed ≤ 1099511627776) (hb : p.m.bstream = 0) (hg : p.m.begun = true), Z ⟨2, fl, p.L[k], b⟩ { p with m := p.begin.m.owes (atN p.K p.L[k]).un.length, K := updN p.L[k] (fun s => s.drop 2) p.K, L := p.L.eraseIdx k }) → (∀ (fl : Int) (b : List UInt8) (hf : 0 ≤ fl ∧ fl ≤ 255) (ha : hasB fl 1 = false) (h8 : p.ans.length < 8) (hb : p.m.bstream = 0) (hg : p.m.begun = true), Z ⟨4, fl, 0, b⟩ { p with m := { p.m with begun := true, answers := .tuple #[] }, ans := p.ans ++ [⟨4, 1, b, .slice none 0 0⟩] }) → Z z1 z2
theorem Come.settings {p : GEnd} (fl : Int) (b : List UInt8) (hf : 0 ≤ fl ∧ fl ≤ 255) (ha : hasB fl 1 = false) (hK : p.K = []) (hA : p.ans = []) (hv : p.m.answers = .slice none 0 0) (hb : p.m.bstream = 0) : Come p ⟨3, fl, 0, b⟩ { p with m := { p.m with begun := true, other := num4 b, answers := .tuple #[] }, ans := [⟨3, 1, [], .slice none 0 0⟩] } := fun Z zk1 zk2 zk3 zk4 zk5 zk6 => zk1 fl b hf ha hK hA hv hb
theorem Come.headers {p : GEnd} (fl n : Int) (hf : 0 ≤ fl ∧ fl ≤ 255) (hla : hasB fl 4 = true) (hop : p.m.opensN n = false) (hnw : p.m.newest < n) (h4 : p.L.length < 4) (hn : ∀ x ∈ p.K, x.st.number ≠ n) (hup : ∀ i (h : i + 1 < (p.L ++ [n]).length), (p.L ++ [n])[i] ≤ (p.L ++ [n])[i + 1]) (hb : p.m.bstream = 0) (hg : p.m.begun = true) : Come p ⟨1, fl, n, []⟩ (p.begin.opened n (hasB fl 1)) := fun Z zk1 zk2 zk3 zk4 zk5 zk6 => zk2 fl n hf hla hop hnw h4 hn hup hb hg
theorem Come.kept {p : GEnd} (fl : Int) (s : GSt) (b : List UInt8) (hs : s ∈ p.K) (hf : 0 ≤ fl ∧ fl ≤ 255) (hp : hasB fl 8 = false) (ha : s.st.announced = true) (hh : s.st.hasAll = false) (hr : s.st.reset = 0) (hcl : ({ s.st with hasAll := hasB fl 1 } : StM).closed = false) (hlen : b.length ≤ 1073741824) (hun : s.un.length ≤ 1073741824) (hfl : b.length = 0 ∨ ((b.length : Int) ≤ p.m.receive ∧ (b.length : Int) ≤ p.m.own + s.st.receive)) (b1 : -1099511627776 ≤ p.m.receive ∧ p.m.receive ≤ 1099511627776) (b2 : -1099511627776 ≤ p.m.owed ∧ p.m.owed ≤ 1099511627776) (b3 : 0 ≤ p.m.count ∧ p.m.count ≤ 1099511627776) (b4 : -1099511627776 ≤ p.m.own ∧ p.m.own ≤ 1099511627776) (b5 : -1099511627776 ≤ s.st.receive ∧ s.st.receive ≤ 1099511627776) (b6 : -1099511627776 ≤ s.st.owed ∧ s.st.owed ≤ 1099511627776) (hb : p.m.bstream = 0) (hg : p.m.begun = true) : Come p ⟨0, fl, s.st.number, b⟩ { p with m := p.begin.m.got_ b.length, K := updN s.st.number (fun s => s.more b (hasB fl 1)) p.K } := fun Z zk1 zk2 zk3 zk4 zk5 zk6 => zk3 fl s b hs hf hp ha hh hr hcl hlen hun hfl b1 b2 b3 b4 b5 b6 hb hg
theorem Come.lost {p : GEnd} (fl : Int) (s : GSt) (b : List UInt8) (hs : s ∈ p.K) (hf : 0 ≤ fl ∧ fl ≤ 255) (hp : hasB fl 8 = false) (ha : s.st.announced = true) (hh : s.st.hasAll = false) (hr : s.st.reset = 1) (hlen : b.length ≤ 1073741824) (hfl : b.length = 0 ∨ (b.length : Int) ≤ p.m.receive) (b1 : -1099511627776 ≤ p.m.receive ∧ p.m.receive ≤ 1099511627776) (b2 : -1099511627776 ≤ p.m.owed ∧ p.m.owed ≤ 1099511627776) (b3 : 0 ≤ p.m.count ∧ p.m.count ≤ 1099511627776) (hb : p.m.bstream = 0) (hg : p.m.begun = true) : Come p ⟨0, fl, s.st.number, b⟩ { p with m := (p.begin.m.got_ b.length).owes b.length } := fun Z zk1 zk2 zk3 zk4 zk5 zk6 => zk4 fl s b hs hf hp ha hh hr hlen hfl b1 b2 b3 hb hg
theorem Come.reset {p : GEnd} (fl : Int) (k : Nat) (b : List UInt8) (hk : k < p.L.length) (hf : 0 ≤ fl ∧ fl ≤ 255) (ha : (atN p.K p.L[k]).st.announced = true) (hcl : (atN p.K p.L[k]).st.closed = false) (hL : p.L.length ≤ 1048576) (hul : (atN p.K p.L[k]).un.length ≤ 1048576) (b2 : -1099511627776 ≤ p.m.owed ∧ p.m.owed ≤ 1099511627776) (hb : p.m.bstream = 0) (hg : p.m.begun = true) : Come p ⟨2, fl, p.L[k], b⟩ { p with m := p.begin.m.owes (atN p.K p.L[k]).un.length, K := updN p.L[k] (fun s => s.drop 2) p.K, L := p.L.eraseIdx k } := fun Z zk1 zk2 zk3 zk4 zk5 zk6 => zk5 fl k b hk hf ha hcl hL hul b2 hb hg
theorem Come.ping {p : GEnd} (fl : Int) (b : List UInt8) (hf : 0 ≤ fl ∧ fl ≤ 255) (ha : hasB fl 1 = false) (h8 : p.ans.length < 8) (hb : p.m.bstream = 0) (hg : p.m.begun = true) : Come p ⟨4, fl, 0, b⟩ { p with m := { p.m with begun := true, answers := .tuple #[] }, ans := p.ans ++ [⟨4, 1, b, .slice none 0 0⟩] } := fun Z zk1 zk2 zk3 zk4 zk5 zk6 => zk6 fl b hf ha h8 hb hg
theorem Come.ind {p : GEnd} {motive : ∀ (z1 : Fr) (z2 : GEnd), Come p z1 z2 → Prop} (settings : ∀ (fl : Int) (b : List UInt8) (hf : 0 ≤ fl ∧ fl ≤ 255) (ha : hasB fl 1 = false) (hK : p.K = []) (hA : p.ans = []) (hv : p.m.answers = .slice none 0 0) (hb : p.m.bstream = 0), motive ⟨3, fl, 0, b⟩ { p with m := { p.m with begun := true, other := num4 b, answers := .tuple #[] }, ans := [⟨3, 1, [], .slice none 0 0⟩] } (@Come.settings p fl b hf ha hK hA hv hb)) (headers : ∀ (fl n : Int) (hf : 0 ≤ fl ∧ fl ≤ 255) (hla : hasB fl 4 = true) (hop : p.m.opensN n = false) (hnw : p.m.newest < n) (h4 : p.L.length < 4) (hn : ∀ x ∈ p.K, x.st.number ≠ n) (hup : ∀ i (h : i + 1 < (p.L ++ [n]).length), (p.L ++ [n])[i] ≤ (p.L ++ [n])[i + 1]) (hb : p.m.bstream = 0) (hg : p.m.begun = true), motive ⟨1, fl, n, []⟩ (p.begin.opened n (hasB fl 1)) (@Come.headers p fl n hf hla hop hnw h4 hn hup hb hg)) (kept : ∀ (fl : Int) (s : GSt) (b : List UInt8) (hs : s ∈ p.K) (hf : 0 ≤ fl ∧ fl ≤ 255) (hp : hasB fl 8 = false) (ha : s.st.announced = true) (hh : s.st.hasAll = false) (hr : s.st.reset = 0) (hcl : ({ s.st with hasAll := hasB fl 1 } : StM).closed = false) (hlen : b.length ≤ 1073741824) (hun : s.un.length ≤ 1073741824) (hfl : b.length = 0 ∨ ((b.length : Int) ≤ p.m.receive ∧ (b.length : Int) ≤ p.m.own + s.st.receive)) (b1 : -1099511627776 ≤ p.m.receive ∧ p.m.receive ≤ 1099511627776) (b2 : -1099511627776 ≤ p.m.owed ∧ p.m.owed ≤ 1099511627776) (b3 : 0 ≤ p.m.count ∧ p.m.count ≤ 1099511627776) (b4 : -1099511627776 ≤ p.m.own ∧ p.m.own ≤ 1099511627776) (b5 : -1099511627776 ≤ s.st.receive ∧ s.st.receive ≤ 1099511627776) (b6 : -1099511627776 ≤ s.st.owed ∧ s.st.owed ≤ 1099511627776) (hb : p.m.bstream = 0) (hg : p.m.begun = true), motive ⟨0, fl, s.st.number, b⟩ { p with m := p.begin.m.got_ b.length, K := updN s.st.number (fun s => s.more b (hasB fl 1)) p.K } (@Come.kept p fl s b hs hf hp ha hh hr hcl hlen hun hfl b1 b2 b3 b4 b5 b6 hb hg)) (lost : ∀ (fl : Int) (s : GSt) (b : List UInt8) (hs : s ∈ p.K) (hf : 0 ≤ fl ∧ fl ≤ 255) (hp : hasB fl 8 = false) (ha : s.st.announced = true) (hh : s.st.hasAll = false) (hr : s.st.reset = 1) (hlen : b.length ≤ 1073741824) (hfl : b.length = 0 ∨ (b.length : Int) ≤ p.m.receive) (b1 : -1099511627776 ≤ p.m.receive ∧ p.m.receive ≤ 1099511627776) (b2 : -1099511627776 ≤ p.m.owed ∧ p.m.owed ≤ 1099511627776) (b3 : 0 ≤ p.m.count ∧ p.m.count ≤ 1099511627776) (hb : p.m.bstream = 0) (hg : p.m.begun = true), motive ⟨0, fl, s.st.number, b⟩ { p with m := (p.begin.m.got_ b.length).owes b.length } (@Come.lost p fl s b hs hf hp ha hh hr hlen hfl b1 b2 b3 hb hg)) (reset : ∀ (fl : Int) (k : Nat) (b : List UInt8) (hk : k < p.L.length) (hf : 0 ≤ fl ∧ fl ≤ 255) (ha : (atN p.K p.L[k]).st.announced = true) (hcl : (atN p.K p.L[k]).st.closed = false) (hL : p.L.length ≤ 1048576) (hul : (atN p.K p.L[k]).un.length ≤ 1048576) (b2 : -1099511627776 ≤ p.m.owed ∧ p.m.owed ≤ 1099511627776) (hb : p.m.bstream = 0) (hg : p.m.begun = true), motive ⟨2, fl, p.L[k], b⟩ { p with m := p.begin.m.owes (atN p.K p.L[k]).un.length, K := updN p.L[k] (fun s => s.drop 2) p.K, L := p.L.eraseIdx k } (@Come.reset p fl k b hk hf ha hcl hL hul b2 hb hg)) (ping : ∀ (fl : Int) (b : List UInt8) (hf : 0 ≤ fl ∧ fl ≤ 255) (ha : hasB fl 1 = false) (h8 : p.ans.length < 8) (hb : p.m.bstream = 0) (hg : p.m.begun = true), motive ⟨4, fl, 0, b⟩ { p with m := { p.m with begun := true, answers := .tuple #[] }, ans := p.ans ++ [⟨4, 1, b, .slice none 0 0⟩] } (@Come.ping p fl b hf ha h8 hb hg)) {z1 : Fr} {z2 : GEnd} (zt : Come p z1 z2) : motive z1 z2 zt := (zt (fun z1 z2 => ∃ zt : Come p z1 z2, motive z1 z2 zt) (fun fl b hf ha hK hA hv hb => ⟨_, @settings fl b hf ha hK hA hv hb⟩) (fun fl n hf hla hop hnw h4 hn hup hb hg => ⟨_, @headers fl n hf hla hop hnw h4 hn hup hb hg⟩) (fun fl s b hs hf hp ha hh hr hcl hlen hun hfl b1 b2 b3 b4 b5 b6 hb hg => ⟨_, @kept fl s b hs hf hp ha hh hr hcl hlen hun hfl b1 b2 b3 b4 b5 b6 hb hg⟩) (fun fl s b hs hf hp ha hh hr hlen hfl b1 b2 b3 hb hg => ⟨_, @lost fl s b hs hf hp ha hh hr hlen hfl b1 b2 b3 hb hg⟩) (fun fl k b hk hf ha hcl hL hul b2 hb hg => ⟨_, @reset fl k b hk hf ha hcl hL hul b2 hb hg⟩) (fun fl b hf ha h8 hb hg => ⟨_, @ping fl b hf ha h8 hb hg⟩)).elim fun _ zx => zx
theorem mem_bare {g : GEnd} {p : GEnd} (hp : g.bare = p) {s : GSt} (hs : s ∈ p.K) : ∃ x ∈ g.K, x.bare = s := by
  rw [← hp] at hs
  exact List.mem_map.1 hs
theorem up_eq {l l' : List Int} (e : l = l') (h : ∀ i (h : i + 1 < l'.length), l'[i] ≤ l'[i + 1]) : ∀ i (h : i + 1 < l.length), l[i] ≤ l[i + 1] := by subst e; exact h
theorem i_come (eb mb : Nat) (g p q : GEnd) (f : Fr) (bv cv : Value) (w : World) (h : Inv w eb mb g) (hp : g.bare = p) (hc : Come p f q) (hgl : Gl w) (hge : ∀ j, j < 7 → ¬ Foot eb mb g j) (hbv : w.ownsRow 0 5 1 bv f.body.length (f.body.map B)) (hbn : ∀ j, bv.ownBlock = some j → ¬ Foot eb mb g j) (hcv : f.kind = 0 → ContV f.flags bv cv f.body) {w0 : World} {g0 : GEnd} (hn0 : Next w0 w eb mb g0 g) (hb0 : ∀ j, bv.ownBlock = some j → w0.heap.size ≤ j) :
    Calls Tryz.prog 66 #[.pointer (some ⟨eb, 0, none⟩), frV f.kind f.flags f.stream bv cv f.body] w fun e w' => e = .returned (.tuple #[]) ∧ ∃ g', g'.bare = q ∧ Next w0 w' eb mb g0 g' := by
  have hbs : g.m.bstream = p.m.bstream := by rw [← hp]; rfl
  have hbg : g.m.begun = p.m.begun := by rw [← hp]; rfl
  obtain ⟨sv, cb, hsv⟩ := slice_len hbv
  have hah : ∀ {w1 : World} {g1 : GEnd}, Ahead w w1 eb mb g g1 → g1.bare = p.begin ∧ Next w w1 eb mb g g1 ∧ BytesIn w1 bv f.body ∧ ∀ j, bv.ownBlock = some j → ¬ Foot eb mb g1 j := fun {w1 g1} ha => by
    obtain ⟨h1, h2⟩ := ha
    obtain ⟨h3, h4⟩ := h2.bytes (bytesIn_of_owns hbv rfl) hbn
    refine ⟨?_, h2, h3, h4⟩
    rw [h1, ← hp]
    rfl
  cases hc using Come.ind with
  | settings fl b hf ha hK hA hv hb =>
    rw [show frV (Fr.mk 3 fl 0 b).kind (Fr.mk 3 fl 0 b).flags (Fr.mk 3 fl 0 b).stream bv cv (Fr.mk 3 fl 0 b).body = .iface 167 (.agg #[.int .i64 3, .int .i64 fl, .int .i64 0, .slice sv b.length cb, .int .i64 (num4 b)]) from by
      simp only at hsv
      unfold frV
      simp [hsv, ha]]
    refine come_settings eb mb g w (fun w' => ∃ g', g'.bare = _ ∧ Next w0 w' eb mb g0 g') fl (num4 b) sv b.length cb h (by rw [hbs]; exact hb) ha hf ?_
    intro w1 g1 hah1
    obtain ⟨e1, n1, -, -⟩ := hah hah1
    have hK1 : g1.K = [] := by
      have := congrArg GEnd.K e1
      simpa [GEnd.bare, GEnd.begin, hK] using this
    have hA1 : g1.ans = [] := by
      have := congrArg GEnd.ans e1
      simpa [GEnd.bare, GEnd.begin, hA] using this
    have hv1 : g1.m.answers = .slice none 0 0 := by
      have e2 : nilV g1.m.answers = .slice none 0 0 := by
        have := congrArg (fun x : GEnd => x.m.answers) e1
        simpa [GEnd.bare, EndM.bare, GEnd.begin, hv] using this
      rcases n1.inv.ans.2 with ⟨h1, -⟩ | ⟨a1, a2, a3, a4, h1, -⟩
      · exact h1
      · rw [h1] at e2; cases e2
    refine (comeSettings_none eb mb g1 fl (num4 b) sv b.length cb w1 n1.inv hf ha hK1 hv1 hA1).mono ?_
    rintro e w' ⟨rfl, g', h1, h2⟩
    refine ⟨rfl, g', ?_, hn0.trans (n1.trans h2)⟩
    rw [h1]
    have e3 : ({ g1 with m := { g1.m with other := num4 b, answers := .tuple #[] }, ans := [⟨3, 1, [], .slice none 0 0⟩] } : GEnd).bare = { g1.bare with m := { g1.bare.m with other := num4 b, answers := .tuple #[] }, ans := [⟨3, 1, [], .slice none 0 0⟩] } := rfl
    rw [e3, e1]
    rfl
  | headers fl n hf hla hop hnw h4 hn hup hb hg =>
    rw [show frV (Fr.mk 1 fl n []).kind (Fr.mk 1 fl n []).flags (Fr.mk 1 fl n []).stream bv cv (Fr.mk 1 fl n []).body = .iface 158 (.agg #[.int .i64 1, .int .i64 fl, .int .i64 n, .slice sv 0 cb, .slice sv 0 cb]) from by
      simp only [List.length_nil] at hsv
      unfold frV
      simp [hsv]]
    have hsn : sv = none → cb = 0 := fun e => by
      subst e
      rcases hbv.2 with ⟨h1, -⟩ | ⟨a1, a2, a3, h1, -⟩
      · rw [hsv] at h1; simp at h1; exact h1
      · rw [hsv] at h1; simp at h1
    refine come_headers eb mb g w (fun w' => ∃ g', g'.bare = _ ∧ Next w0 w' eb mb g0 g') fl n sv 0 cb h (by rw [hbs]; exact hb) (by rw [hbg]; exact hg) ?_
    intro w1 g1 hah1
    obtain ⟨e1, n1, -, -⟩ := hah hah1
    have hL1 : g1.L = p.L := by have := congrArg GEnd.L e1; exact this
    have hge1 : ∀ j, j < 7 → ¬ Foot eb mb g1 j := fun j hj hf => by
      rcases n1.grow j hf with a | a
      · exact hge j hj a
      · have := hgl.lt; omega
    have hgl1 : Gl w1 := hgl.chg n1.chg hge
    refine (comeHeaders_nil eb mb g1 fl n sv cb w1 n1.inv hgl1 hge1 hsn hf hla ?_ ?_ ?_ ?_ ?_ ?_).mono ?_
    · have : g1.m.opensN n = p.m.opensN n := by
        have e2 : g1.bare.m.opensN n = p.begin.m.opensN n := by rw [e1]
        exact e2
      rw [this]; exact hop
    · have : g1.m.newest = p.m.newest := by have := congrArg (fun x : GEnd => x.m.newest) e1; exact this
      rw [this]; exact hnw
    · rw [hL1]; omega
    · intro x hx e
      have hx2 : x.bare ∈ p.K := by
        have : g1.bare.K = p.K := by have := congrArg GEnd.K e1; exact this
        rw [← this]
        exact List.mem_map.2 ⟨x, hx, rfl⟩
      exact hn _ hx2 e
    · exact up_eq (by rw [hL1]) hup
    · rw [hL1]; omega
    · rintro e w' ⟨rfl, g', h1, h2⟩
      refine ⟨rfl, g', ?_, hn0.trans (n1.trans h2)⟩
      rw [h1]
      have e3 : (g1.opened n (hasB fl 1)).bare = g1.bare.opened n (hasB fl 1) := by
        unfold GEnd.opened GEnd.bare
        simp only [GEnd.mk.injEq, true_and, and_true]
        refine ⟨rfl, ?_⟩
        rw [List.map_append]
        rfl
      rw [e3, e1]
  | kept fl s b hs hf hpd ha hh hr hcl hlen hun hfl b1 b2 b3 b4 b5 b6 hb hg =>
    have hcb : cv = bv := by
      have := hcv rfl
      unfold ContV at this
      rw [hpd] at this
      simpa using this
    rw [show frV (Fr.mk 0 fl s.st.number b).kind (Fr.mk 0 fl s.st.number b).flags (Fr.mk 0 fl s.st.number b).stream bv cv (Fr.mk 0 fl s.st.number b).body = .iface 155 (dataV fl s.st.number sv b.length cb) from by
      simp only at hsv
      unfold frV dataV
      simp [hcb, hsv]]
    refine come_data eb mb g w (fun w' => ∃ g', g'.bare = _ ∧ Next w0 w' eb mb g0 g') fl s.st.number sv b.length cb h (by rw [hbs]; exact hb) (by rw [hbg]; exact hg) ?_
    intro w1 g1 hah1
    obtain ⟨e1, n1, hby, hnf⟩ := hah hah1
    obtain ⟨x, hx, rfl⟩ := mem_bare e1 hs
    simp only at hsv hby
    rw [hsv] at hby hnf
    have hmm : g1.bare.m = p.begin.m := congrArg GEnd.m e1
    have m1 : g1.m.receive = p.m.receive := by have := congrArg (fun m : EndM => m.receive) hmm; exact this
    have m2 : g1.m.owed = p.m.owed := by have := congrArg (fun m : EndM => m.owed) hmm; exact this
    have m3 : g1.m.count = p.m.count := by have := congrArg (fun m : EndM => m.count) hmm; exact this
    have m4 : g1.m.own = p.m.own := by have := congrArg (fun m : EndM => m.own) hmm; exact this
    refine (comeData_kept eb mb g1 x fl sv b cb w1 n1.inv hx ha hh hr hf hcl hby hnf hlen hun (by rw [m1, m4]; exact hfl) (by rw [m1]; exact b1) (by rw [m2]; exact b2) (by rw [m3]; exact b3) (by rw [m4]; exact b4) b5 b6).mono ?_
    rintro e w' ⟨rfl, g', h1, h2⟩
    refine ⟨rfl, g', ?_, hn0.trans (n1.trans h2)⟩
    rw [h1]
    have e3 : ({ g1 with m := g1.m.got_ b.length, K := updN x.st.number (fun s => s.more b (hasB fl 1)) g1.K } : GEnd).bare = { g1.bare with m := g1.bare.m.got_ b.length, K := updN x.st.number (fun s => s.more b (hasB fl 1)) g1.bare.K } := by
      unfold GEnd.bare
      simp only [GEnd.mk.injEq, true_and, and_true]
      exact ⟨got_bare _ _, updN_bare _ (fun s => s.more b (hasB fl 1)) (fun s => rfl) _⟩
    rw [e3, e1]
    rfl
  | lost fl s b hs hf hpd ha hh hr hlen hfl b1 b2 b3 hb hg =>
    have hcb : cv = bv := by
      have := hcv rfl
      unfold ContV at this
      rw [hpd] at this
      simpa using this
    rw [show frV (Fr.mk 0 fl s.st.number b).kind (Fr.mk 0 fl s.st.number b).flags (Fr.mk 0 fl s.st.number b).stream bv cv (Fr.mk 0 fl s.st.number b).body = .iface 155 (dataV fl s.st.number sv b.length cb) from by
      simp only at hsv
      unfold frV dataV
      simp [hcb, hsv]]
    refine come_data eb mb g w (fun w' => ∃ g', g'.bare = _ ∧ Next w0 w' eb mb g0 g') fl s.st.number sv b.length cb h (by rw [hbs]; exact hb) (by rw [hbg]; exact hg) ?_
    intro w1 g1 hah1
    obtain ⟨e1, n1, hby, hnf⟩ := hah hah1
    obtain ⟨x, hx, rfl⟩ := mem_bare e1 hs
    have hmm : g1.bare.m = p.begin.m := congrArg GEnd.m e1
    have m1 : g1.m.receive = p.m.receive := by have := congrArg (fun m : EndM => m.receive) hmm; exact this
    have m2 : g1.m.owed = p.m.owed := by have := congrArg (fun m : EndM => m.owed) hmm; exact this
    have m3 : g1.m.count = p.m.count := by have := congrArg (fun m : EndM => m.count) hmm; exact this
    refine (comeData_lost eb mb g1 x fl sv b.length cb w1 n1.inv hx ha hh hr hlen (by rw [m1]; exact hfl) (by rw [m1]; exact b1) (by rw [m2]; exact b2) (by rw [m3]; exact b3)).mono ?_
    rintro e w' ⟨rfl, h2⟩
    refine ⟨rfl, _, ?_, hn0.trans (n1.trans h2)⟩
    have e3 : ({ g1 with m := (g1.m.got_ b.length).owes b.length } : GEnd).bare = { g1.bare with m := (g1.bare.m.got_ b.length).owes b.length } := by
      unfold GEnd.bare
      simp only [GEnd.mk.injEq, true_and, and_true]
      have := congrArg (fun m : EndM => m.owes b.length) (got_bare g1.m b.length)
      exact this
    rw [e3, e1]
    rfl
  | reset fl k b hk hf ha hcl hL hul b2 hb hg =>
    rw [show frV (Fr.mk 2 fl p.L[k] b).kind (Fr.mk 2 fl p.L[k] b).flags (Fr.mk 2 fl p.L[k] b).stream bv cv (Fr.mk 2 fl p.L[k] b).body = .iface 164 (.agg #[.int .i64 2, .int .i64 fl, .int .i64 p.L[k], .slice sv b.length cb]) from by
      simp only at hsv
      unfold frV
      simp [hsv]]
    refine come_reset eb mb g w (fun w' => ∃ g', g'.bare = _ ∧ Next w0 w' eb mb g0 g') fl p.L[k] sv b.length cb h (by rw [hbs]; exact hb) (by rw [hbg]; exact hg) ?_
    intro w1 g1 hah1
    obtain ⟨e1, n1, -, -⟩ := hah hah1
    have hL1 : g1.L = p.L := by have := congrArg GEnd.L e1; exact this
    have hk1 : k < g1.L.length := by rw [hL1]; exact hk
    have hLk : g1.L[k] = p.L[k] := by simp only [hL1]
    have hK1 : g1.K.map GSt.bare = p.K := by have := congrArg GEnd.K e1; exact this
    have hat : (atN g1.K p.L[k]).bare = atN p.K p.L[k] := by rw [← hK1, atN_bare]
    have m2 : g1.m.owed = p.m.owed := by have := congrArg (fun x : GEnd => x.m.owed) e1; exact this
    have q1 : (atN g1.K p.L[k]).st.announced = true := by
      have : (atN g1.K p.L[k]).bare.st.announced = true := by rw [hat]; exact ha
      exact this
    have q2 : (atN g1.K p.L[k]).st.closed = false := by
      have : (atN g1.K p.L[k]).bare.st.closed = false := by rw [hat]; exact hcl
      exact this
    have q3 : (atN g1.K p.L[k]).un = (atN p.K p.L[k]).un := by
      have : (atN g1.K p.L[k]).bare.un = (atN p.K p.L[k]).un := by rw [hat]
      exact this
    rw [← hLk] at q1 q2 q3
    have hcr := comeReset_ok eb mb g1 k fl sv b.length cb w1 n1.inv hk1 q1 q2 (by rw [hL1]; exact hL) (by rw [q3, hLk]; exact hul) (by rw [m2]; exact b2)
    rw [hLk] at hcr q3
    refine hcr.mono ?_
    rintro e w' ⟨rfl, g', h1, h2, -, -⟩
    refine ⟨rfl, g', ?_, hn0.trans (n1.trans h2)⟩
    rw [h1, q3, hL1]
    have e3 : ({ g1 with m := g1.m.owes (atN p.K p.L[k]).un.length, K := updN p.L[k] (fun s => s.drop 2) g1.K, L := p.L.eraseIdx k } : GEnd).bare = { g1.bare with m := g1.bare.m.owes (atN p.K p.L[k]).un.length, K := updN p.L[k] (fun s => s.drop 2) g1.bare.K, L := p.L.eraseIdx k } := by
      unfold GEnd.bare
      simp only [GEnd.mk.injEq, true_and, and_true]
      exact ⟨rfl, updN_bare _ (fun s => s.drop 2) (fun s => rfl) _⟩
    rw [e3, e1]
    rfl
  | ping fl b hf ha h8 hb hg =>
    rw [show frV (Fr.mk 4 fl 0 b).kind (Fr.mk 4 fl 0 b).flags (Fr.mk 4 fl 0 b).stream bv cv (Fr.mk 4 fl 0 b).body = .iface 170 (.agg #[.int .i64 4, .int .i64 fl, .int .i64 0, .slice sv b.length cb, .int .u32 (num4 b)]) from by
      simp only at hsv
      unfold frV
      simp [hsv]]
    refine (come2_ping eb mb g w (fun w' => ∃ g', g'.bare = _ ∧ Next w0 w' eb mb g0 g') (fun _ => False) 0 fl 0 sv b.length cb (num4 b) h (by rw [hbs]; exact hb) (by rw [hbg]; exact hg) ?_).mono (fun e w' hx => by
      rcases hx with hx | ⟨-, hx⟩
      · exact hx
      · exact hx.elim)
    intro w1 g1 hah1
    obtain ⟨e1, n1, hby, hnf⟩ := hah hah1
    have ha1 : g1.ans.length = p.ans.length := by
      have e2 : g1.bare.ans = p.begin.ans := by rw [e1]
      have e3 : (g1.ans.map Ans.bare).length = p.ans.length := by rw [show g1.ans.map Ans.bare = p.ans from e2]
      simpa using e3
    simp only at hsv hby hbv
    rw [hsv] at hby hnf hbv hb0 hbn
    have hown1 : w1.ownsRow 0 5 1 (.slice sv b.length cb) b.length (b.map B) := owns_chg hbv n1.chg hbn
    refine (comePing_any eb mb g1 fl (num4 b) sv cb b w1 n1.inv hf ha (by omega) hown1 hnf (hn0.trans n1) (fun j hj => Or.inr (hb0 j hj))).mono ?_
    rintro e w' ⟨rfl, g', h1, h2⟩
    refine Or.inl ⟨rfl, g', ?_, h2⟩
    rw [h1]
    have e3 : ({ g1 with m := { g1.m with answers := .tuple #[] }, ans := g1.ans ++ [⟨4, 1, b, .slice none 0 0⟩] } : GEnd).bare = { g1.bare with m := { g1.bare.m with answers := .tuple #[] }, ans := g1.bare.ans ++ [⟨4, 1, b, .slice none 0 0⟩] } := by
      unfold GEnd.bare
      simp only [GEnd.mk.injEq, true_and, and_true]
      refine ⟨rfl, ?_⟩
      rw [List.map_append]
      rfl
    rw [e3, e1]
    rfl
def greetB : List UInt8 := [115, 108, 117, 105, 99, 101, 10]
def FeedR (z1 : GEnd) (z2 : List UInt8) (z3 : GEnd) : Prop := ∀ Z : GEnd → List UInt8 → GEnd → Prop, (∀ (p : GEnd), Z p [] p) → (∀ (p q : GEnd) (k : Nat) (c : UInt8) (r : List UInt8) (hk : p.m.greeted = (k : Int)) (hk7 : k < 7) (hf : p.m.fault = 0) (hc : greetB[k]? = some c) (h : Z { p with m := { p.m with greeted := (k + 1 : Nat) } } r q), Z p (c :: r) q) → (∀ (p q : GEnd) (c : UInt8) (g' r : List UInt8) (hg : p.m.greeted = 7) (hf : p.m.fault = 0) (hs : step p.got c = .more g') (h : Z { p with got := g' } r q), Z p (c :: r) q) → (∀ (p p1 q : GEnd) (c : UInt8) (f : Fr) (r : List UInt8) (hg : p.m.greeted = 7) (hf : p.m.fault = 0) (hs : step p.got c = .frame f) (hc : Come { p with got := [] } f p1) (h : Z p1 r q), Z p (c :: r) q) → Z z1 z2 z3
theorem FeedR.nil {p : GEnd} : FeedR p [] p := fun Z zk1 zk2 zk3 zk4 => zk1 p
theorem FeedR.greet {p q : GEnd} {k : Nat} {c : UInt8} {r : List UInt8} (hk : p.m.greeted = (k : Int)) (hk7 : k < 7) (hf : p.m.fault = 0) (hc : greetB[k]? = some c) (h : FeedR { p with m := { p.m with greeted := (k + 1 : Nat) } } r q) : FeedR p (c :: r) q := fun Z zk1 zk2 zk3 zk4 => zk2 p q k c r hk hk7 hf hc (h Z zk1 zk2 zk3 zk4)
theorem FeedR.more {p q : GEnd} {c : UInt8} {g' r : List UInt8} (hg : p.m.greeted = 7) (hf : p.m.fault = 0) (hs : step p.got c = .more g') (h : FeedR { p with got := g' } r q) : FeedR p (c :: r) q := fun Z zk1 zk2 zk3 zk4 => zk3 p q c g' r hg hf hs (h Z zk1 zk2 zk3 zk4)
theorem FeedR.frame {p p1 q : GEnd} {c : UInt8} {f : Fr} {r : List UInt8} (hg : p.m.greeted = 7) (hf : p.m.fault = 0) (hs : step p.got c = .frame f) (hc : Come { p with got := [] } f p1) (h : FeedR p1 r q) : FeedR p (c :: r) q := fun Z zk1 zk2 zk3 zk4 => zk4 p p1 q c f r hg hf hs hc (h Z zk1 zk2 zk3 zk4)
theorem FeedR.ind {motive : ∀ (z1 : GEnd) (z2 : List UInt8) (z3 : GEnd), FeedR z1 z2 z3 → Prop} (nil : ∀ {p : GEnd}, motive p [] p (@FeedR.nil p)) (greet : ∀ {p q : GEnd} {k : Nat} {c : UInt8} {r : List UInt8} (hk : p.m.greeted = (k : Int)) (hk7 : k < 7) (hf : p.m.fault = 0) (hc : greetB[k]? = some c) (h : FeedR { p with m := { p.m with greeted := (k + 1 : Nat) } } r q) (ih : motive { p with m := { p.m with greeted := (k + 1 : Nat) } } r q h), motive p (c :: r) q (@FeedR.greet p q k c r hk hk7 hf hc h)) (more : ∀ {p q : GEnd} {c : UInt8} {g' r : List UInt8} (hg : p.m.greeted = 7) (hf : p.m.fault = 0) (hs : step p.got c = .more g') (h : FeedR { p with got := g' } r q) (ih : motive { p with got := g' } r q h), motive p (c :: r) q (@FeedR.more p q c g' r hg hf hs h)) (frame : ∀ {p p1 q : GEnd} {c : UInt8} {f : Fr} {r : List UInt8} (hg : p.m.greeted = 7) (hf : p.m.fault = 0) (hs : step p.got c = .frame f) (hc : Come { p with got := [] } f p1) (h : FeedR p1 r q) (ih : motive p1 r q h), motive p (c :: r) q (@FeedR.frame p p1 q c f r hg hf hs hc h)) {z1 : GEnd} {z2 : List UInt8} {z3 : GEnd} (zt : FeedR z1 z2 z3) : motive z1 z2 z3 zt := (zt (fun z1 z2 z3 => ∃ zt : FeedR z1 z2 z3, motive z1 z2 z3 zt) (fun p => ⟨_, @nil p⟩) (fun p q k c r hk hk7 hf hc zy => zy.elim fun h zx => ⟨_, @greet p q k c r hk hk7 hf hc h zx⟩) (fun p q c g' r hg hf hs zy => zy.elim fun h zx => ⟨_, @more p q c g' r hg hf hs h zx⟩) (fun p p1 q c f r hg hf hs hc zy => zy.elim fun h zx => ⟨_, @frame p p1 q c f r hg hf hs hc h zx⟩)).elim fun _ zx => zx
theorem Come.got {p q : GEnd} {f : Fr} (h : Come p f q) : q.got = p.got := by cases h using Come.ind <;> rfl
theorem frV_iface (k f s : Int) (bv cv : Value) (l : List UInt8) : ∃ t x, frV k f s bv cv l = .iface t x := by
  unfold frV
  repeat' split
  all_goals exact ⟨_, _, rfl⟩
def ByteR (p : GEnd) (c : UInt8) (z1 : GEnd) : Prop := ∀ Z : GEnd → Prop, (∀ (k : Nat) (hk : p.m.greeted = (k : Int)) (hk7 : k < 7) (hc : greetB[k]? = some c), Z { p with m := { p.m with greeted := (k + 1 : Nat) } }) → (∀ (g' : List UInt8) (hg : p.m.greeted = 7) (hs : step p.got c = .more g'), Z { p with got := g' }) → (∀ (p1 : GEnd) (f : Fr) (hg : p.m.greeted = 7) (hs : step p.got c = .frame f) (hc : Come { p with got := [] } f p1), Z p1) → Z z1
theorem ByteR.greet {p : GEnd} {c : UInt8} {k : Nat} (hk : p.m.greeted = (k : Int)) (hk7 : k < 7) (hc : greetB[k]? = some c) : ByteR p c { p with m := { p.m with greeted := (k + 1 : Nat) } } := fun Z zk1 zk2 zk3 => zk1 k hk hk7 hc
theorem ByteR.more {p : GEnd} {c : UInt8} {g' : List UInt8} (hg : p.m.greeted = 7) (hs : step p.got c = .more g') : ByteR p c { p with got := g' } := fun Z zk1 zk2 zk3 => zk2 g' hg hs
theorem ByteR.frame {p : GEnd} {c : UInt8} {p1 : GEnd} {f : Fr} (hg : p.m.greeted = 7) (hs : step p.got c = .frame f) (hc : Come { p with got := [] } f p1) : ByteR p c p1 := fun Z zk1 zk2 zk3 => zk3 p1 f hg hs hc
theorem ByteR.ind {p : GEnd} {c : UInt8} {motive : ∀ (z1 : GEnd), ByteR p c z1 → Prop} (greet : ∀ {k : Nat} (hk : p.m.greeted = (k : Int)) (hk7 : k < 7) (hc : greetB[k]? = some c), motive { p with m := { p.m with greeted := (k + 1 : Nat) } } (@ByteR.greet p c k hk hk7 hc)) (more : ∀ {g' : List UInt8} (hg : p.m.greeted = 7) (hs : step p.got c = .more g'), motive { p with got := g' } (@ByteR.more p c g' hg hs)) (frame : ∀ {p1 : GEnd} {f : Fr} (hg : p.m.greeted = 7) (hs : step p.got c = .frame f) (hc : Come { p with got := [] } f p1), motive p1 (@ByteR.frame p c p1 f hg hs hc)) {z1 : GEnd} (zt : ByteR p c z1) : motive z1 zt := (zt (fun z1 => ∃ zt : ByteR p c z1, motive z1 zt) (fun k hk hk7 hc => ⟨_, @greet k hk hk7 hc⟩) (fun g' hg hs => ⟨_, @more g' hg hs⟩) (fun p1 f hg hs hc => ⟨_, @frame p1 f hg hs hc⟩)).elim fun _ zx => zx
set_option maxRecDepth 100000 in
set_option maxHeartbeats 1200000 in
theorem i_byte (eb mb : Nat) (g p q : GEnd) (c : UInt8) (w : World) (h : Inv w eb mb g) (hr : RdOk g) (hp : g.bare = p) (hb : ByteR p c q) (hgl : Gl w) (hge : ∀ j, j < 7 → ¬ Foot eb mb g j) :
    Calls Tryz.prog 47 #[.pointer (some ⟨eb, 0, none⟩), .int .u8 c.toNat] w fun e w' => e = .returned (.tuple #[]) ∧ ∃ g', g'.bare = q ∧ RdOk g' ∧ Next w w' eb mb g g' := by
  have c24 := h.en.c24
  have f24 := h.en.fr 24
  have hlt := h.en.lt
  have hgr : g.m.greeted = p.m.greeted := by rw [← hp]; rfl
  have hgot : g.got = p.got := by rw [← hp]; rfl
  cases hb using ByteR.ind with
  | @greet k hk hk7 hc =>
    have hset : Chg (fun j => j = eb) w (w.setCell ⟨eb, 24, none⟩ (.int .i64 ((k : Int) + 1))) := chg_set (Chg.refl _ _) rfl
    have hn := h.onEnd (S := fun j => j = eb) (m' := { g.m with greeted := (k : Int) + 1 }) (o' := g.out) (A' := g.ans) (R' := g.res) hset (fun j e => Or.inl e) (EnB.of (blk_set h.en.blk) rfl) rfl rfl rfl (owns_chg h.out hset (fun j hj e => by rw [e] at hj; exact owns_ne h.out h.en.blk (by decide) hj)) (fun j hj => Or.inl hj) h.ans (fun _ h => h) (fun _ h => h) h.res (fun _ h => h)
    have HEND : Hid (∃ g', g'.bare = ({ p with m := { p.m with greeted := ((k + 1 : Nat) : Int) } } : GEnd) ∧ RdOk g' ∧ Next w (w.setCell ⟨eb, 24, none⟩ (.int .i64 ((k : Int) + 1))) eb mb g g') := by
      refine ⟨{ g with m := { g.m with greeted := (k : Int) + 1 } }, ?_, ⟨hr.got, hr.head⟩, hn⟩
      rw [← hp]
      rfl
    rw [hgr, hk] at c24
    clear h hr hp hgl hge hset hn hgr hgot
    obtain rfl | rfl | rfl | rfl | rfl | rfl | rfl : k = 0 ∨ k = 1 ∨ k = 2 ∨ k = 3 ∨ k = 4 ∨ k = 5 ∨ k = 6 := by omega
    all_goals
      simp only [greetB, List.getElem?_cons_zero, List.getElem?_cons_succ, Option.some.injEq] at hc
      subst hc
      clear hk hk7
      go_enter Tryz.func47, Tryz.ntmps47
      go_wp2
      refine bodyPost_ret (v := .tuple #[]) ?_ rfl ⟨rfl, HEND.out⟩
      simp [results, Tryz.results47, go_sem]
  | @more g' hg hs =>
    rw [hgr, hg] at c24
    have hT := take_any eb 25 98 g.m.cells g.m.got g.got c w (h.rdsg hr)
    rw [← hgot] at hs
    have HT : Hid (Calls Tryz.prog 65 #[.pointer (some ⟨eb, 25, none⟩), .int .u8 c.toNat] w fun e w' => e = .returned (.tuple #[.nilIface, .bool false]) ∧ ∃ g1, g1.bare = ({ p with got := g' } : GEnd) ∧ RdOk g1 ∧ Next w w' eb mb g g1) := by
      refine hT.mono ?_
      rintro e w' (⟨g1, cs', gv', h1, h2, h3⟩ | ⟨code, h1, -⟩ | ⟨f, bv, cv, cs', gv', h1, -⟩)
      · rw [hs] at h1
        simp only [Sum.inl.injEq] at h1
        subst h1
        obtain ⟨g2, e1, e2, e3, -⟩ := h.onGot h3
        refine ⟨h2, g2, ?_, e2, e3⟩
        rw [e1, ← hp]
        rfl
      · rw [hs] at h1; cases h1
      · rw [hs] at h1; cases h1
    clear h hr hp hgl hge hT hs hgr hgot
    go_enter Tryz.func47, Tryz.ntmps47
    go_wp2_with fail
    refine HT.out.mono ?_
    rintro e w' ⟨rfl, hx⟩
    have HX := hide hx
    clear hx
    go_wp2
    exact bodyPost_end (results_none rfl _ _ _) rfl ⟨rfl, HX.out⟩
  | @frame p1 f hg hs hc =>
    rw [hgr, hg] at c24
    have hT := take_any eb 25 98 g.m.cells g.m.got g.got c w (h.rdsg hr)
    rw [← hgot] at hs
    have HT : Hid (Calls Tryz.prog 65 #[.pointer (some ⟨eb, 25, none⟩), .int .u8 c.toNat] w fun e w' => ∃ bv cv, e = .returned (.tuple #[frV f.kind f.flags f.stream bv cv f.body, .bool true]) ∧ Calls Tryz.prog 66 #[.pointer (some ⟨eb, 0, none⟩), frV f.kind f.flags f.stream bv cv f.body] w' fun e w'' => e = .returned (.tuple #[]) ∧ ∃ g', g'.bare = q ∧ RdOk g' ∧ Next w w'' eb mb g g') := by
      refine hT.mono ?_
      rintro e w' (⟨g1, cs', gv', h1, -⟩ | ⟨code, h1, -⟩ | ⟨f', bv, cv, cs', gv', h1, h2, h3, h4, h5, h6, h7⟩)
      · rw [hs] at h1; cases h1
      · rw [hs] at h1; cases h1
      · rw [hs] at h1
        simp only [Sum.inl.injEq, Sum.inr.injEq] at h1
        subst h1
        refine ⟨bv, cv, h2, ?_⟩
        obtain ⟨g2, e1, e2, e3, e4⟩ := h.onGot h6
        have hge2 : ∀ j, j < 7 → ¬ Foot eb mb g2 j := fun j hj hf => by
          rcases e3.grow j hf with a | a
          · exact hge j hj a
          · have := hgl.lt; omega
        have hbn : ∀ j, bv.ownBlock = some j → ¬ Foot eb mb g2 j := fun j hj hf => by
          rcases e4 j hf with a | a
          · have := Foot.lt h a; have := h5 j hj; omega
          · exact h7 j hj a
        refine (i_come eb mb g2 { p with got := [] } q f bv cv w' e3.inv (by rw [e1, ← hp]; rfl) hc (hgl.chg e3.chg hge) hge2 h4 hbn h3 e3 h5).mono ?_
        rintro e w'' ⟨rfl, g', q1, q2⟩
        refine ⟨rfl, g', q1, RdOk.nil ?_, q2⟩
        have : g'.bare.got = q.got := by rw [q1]
        exact this.trans hc.got
    clear h hr hp hgl hge hT hs hgr hgot
    go_enter Tryz.func47, Tryz.ntmps47
    go_wp2_with fail
    refine HT.out.mono ?_
    rintro e w' ⟨bv, cv, rfl, hx⟩
    have HX := hide hx
    clear hx
    obtain ⟨ty, x, hfv⟩ := frV_iface f.kind f.flags f.stream bv cv f.body
    rw [hfv] at HX ⊢
    go_wp2_with fail
    refine HX.out.mono ?_
    rintro e w'' ⟨rfl, hx⟩
    have HY := hide hx
    clear hx
    go_wp2
    exact bodyPost_end (results_none rfl _ _ _) rfl ⟨rfl, HY.out⟩
end Go.Proofs.YtiphkngfbpdeoaaGreatDoor
namespace Go.Proofs.YtiphkngfbpdeoaaGreatDoor
set_option linter.unusedVariables false
set_option linter.unusedSimpArgs false
open Go.RowKit
theorem FeedR.byte {p q : GEnd} {c : UInt8} {r : List UInt8} (h : FeedR p (c :: r) q) : p.m.fault = 0 ∧ ∃ p1, ByteR p c p1 ∧ FeedR p1 r q := by
  cases h using FeedR.ind with
  | greet hk hk7 hf hc h => exact ⟨hf, _, .greet hk hk7 hc, h⟩
  | more hg hf hs h => exact ⟨hf, _, .more hg hs, h⟩
  | frame hg hf hs hc h => exact ⟨hf, _, .frame hg hs hc, h⟩
theorem FeedR.app {p p1 q : GEnd} {l r : List UInt8} (h : FeedR p l p1) (h2 : FeedR p1 r q) : FeedR p (l ++ r) q := by
  induction h using FeedR.ind with
  | nil => exact h2
  | greet hk hk7 hf hc _ ih => exact .greet hk hk7 hf hc (ih h2)
  | more hg hf hs _ ih => exact .more hg hf hs (ih h2)
  | frame hg hf hs hc _ ih => exact .frame hg hf hs hc (ih h2)
set_option maxRecDepth 100000 in
set_option maxHeartbeats 1200000 in
theorem i_feed (eb mb : Nat) (g q : GEnd) (bv : Value) (l : List UInt8) (w : World) (h : Inv w eb mb g) (hr : RdOk g) (hf : FeedR g.bare l q) (hgl : Gl w) (hge : ∀ j, j < 7 → ¬ Foot eb mb g j) (hb : BytesIn w bv l) (hbn : ∀ j, bv.ownBlock = some j → ¬ Foot eb mb g j) (hl : l.length ≤ 268435456) :
    Calls Tryz.prog 26 #[.pointer (some ⟨eb, 0, none⟩), bv] w fun e w' => e = .returned (.tuple #[]) ∧ ∃ g', g'.bare = q ∧ RdOk g' ∧ Next w w' eb mb g g' := by
  obtain ⟨sv, cv, hv, -⟩ := bytesIn_len hb
  subst hv
  have H := hide h
  have HR := hide hr
  have HF := hide hf
  have HGL := hide hgl
  have HGE := hide hge
  have HB := hide hb
  have HBN := hide hbn
  clear h hr hf hgl hge hb hbn
  go_enter Tryz.func26, Tryz.ntmps26
  go_wp2
  go_loopw [8] (fun i wr => ∃ (k : Nat) (wv : World) (c : GEnd), wv = wr ∧ i = .int .i64 (k : Int) ∧ k ≤ l.length ∧ Next w wv eb mb g c ∧ RdOk c ∧ FeedR c.bare (l.drop k) q) (fun i _ => l.length - (intOf i).toNat)
  case atStart => exact ⟨0, _, g, rfl, rfl, Nat.zero_le _, Next.refl H.out, HR.out, HF.out⟩
  case round =>
    obtain ⟨k, wv, c, hwv, rfl, hk, hnx, hrd, hfe⟩ := hrel
    subst hwv
    by_cases hlk : k < l.length
    · rw [drop_cons hlk] at hfe
      obtain ⟨hfa, p1, hby, hfr⟩ := hfe.byte
      obtain ⟨hbyt, hnf⟩ := hnx.bytes HB.out HBN.out
      have hgl1 := HGL.out.chg hnx.chg HGE.out
      have hge1 : ∀ j, j < 7 → ¬ Foot eb mb c j := fun j hj hf => by
        rcases hnx.grow j hf with a | a
        · exact HGE.out j hj a
        · have := HGL.out.lt; omega
      have hi := i_byte eb mb c c.bare p1 (l.getD k 0) wv hnx.inv hrd rfl hby hgl1 hge1
      have hd := isDead_any eb c.m wv hnx.inv.en
      have hfa' : c.m.fault = 0 := hfa
      rw [show (!(c.m.fault == 0)) = false from by rw [hfa']; rfl] at hd
      rcases hbyt with ⟨-, h0⟩ | ⟨bb, off, cap, h1, h2, h3, h4⟩
      · rw [h0] at hlk; simp at hlk
      · simp only [Value.slice.injEq] at h1
        obtain ⟨rfl, _, rfl⟩ := h1
        have hcell := h4 k hlk
        have HI := hide hi
        have HD := hide hd
        have HNX := hide hnx
        have HFR := hide hfr
        generalize l.getD k 0 = cc at *
        clear hi hd hnx hfr hby hfe hrd hgl1 hge1 h4 hfa hfa' hnf
        go_wp2_with fail
        refine HD.out.mono ?_
        rintro e w' ⟨rfl, hw'⟩
        rw [hw']
        clear hw' w'
        go_wp2_with fail
        refine HI.out.mono ?_
        rintro e w1 ⟨rfl, c1, hc1, hr1, hn1⟩
        have HC1 := hide hc1
        have HR1 := hide hr1
        have HN1 := hide hn1
        clear hc1 hr1 hn1
        go_wp2
        all_goals go_roundw
        case rel => exact ⟨k + 1, _, c1, rfl, by go_num, by omega, HNX.out.trans HN1.out, HR1.out, by rw [HC1.out]; exact HFR.out⟩
        case measure => simp [intOf]; omega
    · have hke : k = l.length := by omega
      rw [List.drop_of_length_le (by omega)] at hfe
      have hq : c.bare = q := by cases hfe using FeedR.ind; rfl
      have HQ := hide hq
      have HNX := hide hnx
      have HRD := hide hrd
      clear hq hnx hrd hfe hke
      go_wp2
      exact bodyPost_end (results_none rfl _ _ _) rfl ⟨rfl, c, HQ.out, HRD.out, HNX.out⟩
end Go.Proofs.YtiphkngfbpdeoaaGreatDoor
namespace Go.Proofs.YtiphkngfbpdeoaaGreatDoor
set_option linter.unusedVariables false
set_option linter.unusedSimpArgs false
open Go.RowKit
set_option maxRecDepth 100000 in
set_option maxHeartbeats 400000 in
theorem xclos_idle (fa ra : Nat) (w : World) :
    CallsD Tryz.prog 23 #[.pointer (some ⟨fa, 0, none⟩), .pointer (some ⟨ra, 0, none⟩)] .returning w fun e u' w' => e = .returned (.tuple #[]) ∧ u' = .returning ∧ w' = w := by
  refine callsD_of_wpS Tryz.func23 rfl fun c₀ cs hu => ?_
  apply wpS_seq
  apply wpS_region
  simp [wpOpsS, go_sem, recoverD, hu, Tryz.ntmps23, Exit.thenS]
  refine wpS_of_wp ?_
  change Code.wp Tryz.prog _ _ ⟨#[.pointer (some ⟨fa, 0, none⟩), .pointer (some ⟨ra, 0, none⟩), .nilIface, .nilIface, undef, undef, undef, undef, undef, undef, undef, undef, undef], []⟩ w
  go_wp2
  cases c₀
  simp_all [bodyPostS, results, Tryz.results23]
theorem Next.out {w w1 w2 : World} {eb mb : Nat} {g g' : GEnd} {S : Nat → Prop} (h : Next w w1 eb mb g g') (hc : Chg S w1 w2) (hs : ∀ j, S j → w.heap.size ≤ j ∧ ¬ Foot eb mb g' j) : Next w w2 eb mb g g' where
  inv := h.inv.chg hc (fun j hj e => (hs j e).2 hj)
  chg := h.chg.trans (hc.mono fun j _ e => Or.inl (hs j e).1)
  grow := h.grow
set_option maxRecDepth 100000 in
set_option maxHeartbeats 1200000 in
theorem x_feed (eb mb : Nat) (g q : GEnd) (bv : Value) (l : List UInt8) (w : World) (h : Inv w eb mb g) (hr : RdOk g) (hf : FeedR g.bare l q) (hq : q.m.fault = 0) (hgl : Gl w) (hge : ∀ j, j < 7 → ¬ Foot eb mb g j) (hb : BytesIn w bv l) (hbn : ∀ j, bv.ownBlock = some j → ¬ Foot eb mb g j) (hl : l.length ≤ 268435456) :
    Calls Tryz.prog 8 #[.pointer (some ⟨eb, 0, none⟩), bv] w fun e w' => e = .returned (.int .i64 0) ∧ ∃ g', g'.bare = q ∧ RdOk g' ∧ Next w w' eb mb g g' := by
  have hmf : ∀ (fn : Fn) (first cap : Array Value) (w : World), (Instr.makeFunc fn first cap).run Tryz.prog w = .ok (.func fn first cap) w := fun _ _ _ _ => rfl
  obtain ⟨wA, hwA⟩ : ∃ wA, wA = (w.alloc (.cells #[.pointer (some ⟨eb, 0, none⟩)] 29)).alloc (.cells #[.int .i64 0] 36) := ⟨_, rfl⟩
  have hbA : Below w.heap.size w wA := by rw [hwA]; exact ((Below.refl _ _).alloc (Nat.le_refl _) _).alloc (by simp) _
  have hbx : wA.heap[w.heap.size]? = some (.cells #[.pointer (some ⟨eb, 0, none⟩)] 29 (0, 0)) := by
    rw [hwA, heap_alloc_old _ _ (by simp)]
    exact heap_alloc_new w _
  have hfc : wA.heap[w.heap.size + 1]? = some (.cells #[.int .i64 0] 36 (0, 0)) := by
    have := heap_alloc_new (w.alloc (.cells #[.pointer (some ⟨eb, 0, none⟩)] 29)) (.cells #[.int .i64 0] 36)
    rw [hwA]
    simpa using this
  have hA := h.below hbA
  have HFE := hide (i_feed eb mb g q bv l wA hA hr hf (hgl.below hbA) hge (hb.chg (Chg.of_below (S := fun _ => False) hbA) (fun _ _ => id)) hbn hl)
  have hnf : ∀ j, w.heap.size ≤ j → ¬ Foot eb mb g j := fun j hj hf => by have := Foot.lt h hf; omega
  have hlA : w.heap.size + 1 < wA.heap.size := lt_of_block hfc
  have HMID : Hid (∀ w1 g', g'.bare = q → Next wA w1 eb mb g g' → w1.cell? ⟨w.heap.size, 0, none⟩ = some (.pointer (some ⟨eb, 0, none⟩)) ∧ w1.cell? ⟨w.heap.size + 1, 0, none⟩ = some (.int .i64 0) ∧ w1.frozen? ⟨w.heap.size + 1, 0, none⟩ = false ∧ (Calls Tryz.prog 27 #[.pointer (some ⟨eb, 0, none⟩)] w1 fun e w' => e = .returned (.int .i64 0) ∧ w' = w1) ∧ (∀ v, (w1.setCell ⟨w.heap.size + 1, 0, none⟩ v).cell? ⟨w.heap.size + 1, 0, none⟩ = some v) ∧ ∀ v, Next w (w1.setCell ⟨w.heap.size + 1, 0, none⟩ v) eb mb g g') := fun w1 g' hg hn => by
    have e1 : w1.heap[w.heap.size]? = some (.cells #[.pointer (some ⟨eb, 0, none⟩)] 29 (0, 0)) := by rw [hn.chg.block _ (lt_of_block hbx) (hnf _ (Nat.le_refl _))]; exact hbx
    have e2 : w1.heap[w.heap.size + 1]? = some (.cells #[.int .i64 0] 36 (0, 0)) := by rw [hn.chg.block _ hlA (hnf _ (Nat.le_succ _))]; exact hfc
    refine ⟨cell_of_one e1, cell_of_one e2, free_of_one e2, ?_, fun v => cell_of_one (show (w1.setCell ⟨w.heap.size + 1, 0, none⟩ v).heap[w.heap.size + 1]? = some (.cells #[v] 36 (0, 0)) from blk_set e2), fun v => ?_⟩
    · have := eFault_any eb g'.m w1 hn.inv.en
      rw [show g'.m.fault = 0 from by have e3 : g'.bare.m.fault = 0 := (by rw [hg]; exact hq); exact e3] at this
      exact this
    · refine (hn.pre hbA).out (S := fun j => j = w.heap.size + 1) (chg_set (Chg.refl _ _) rfl) (fun j e => ⟨by omega, fun hf => ?_⟩)
      rcases hn.grow j hf with a | a
      · exact hnf j (by omega) a
      · omega
  have HWA := hide hwA
  have hlt := h.en.lt
  obtain ⟨sv, cv, hv, -⟩ := bytesIn_len hb
  subst hv
  clear h hr hf hq hgl hge hb hbn hbA hbx hfc hA hnf
  go_enter_defers Tryz.func8, Tryz.ntmps8
  go_wp2_with fail
  rw [← HWA.out]
  clear hwA
  refine HFE.out.mono ?_
  rintro e w1 ⟨rfl, g', hg', hr', hn'⟩
  obtain ⟨k0, k1, f1, hef, hsame, hend⟩ := HMID.out w1 g' hg' hn'
  have HSAME := hide hsame
  have HEF := hide hef
  have HEND := hide hend
  have HG := hide hg'
  have HR' := hide hr'
  clear hef hend hg' hr' hn' HMID hsame
  go_wp2_with fail
  refine HEF.out.mono ?_
  rintro e w' ⟨rfl, hw'⟩
  rw [hw']
  clear hw' w'
  go_wp2
  refine leaves_cons (f := 23) (args := #[.pointer (some ⟨w.heap.size + 1, 0, none⟩), .pointer (some ⟨w.heap.size, 0, none⟩)]) (by simp) (by simp [go_sem]) ?_
  refine (xclos_idle (w.heap.size + 1) w.heap.size _).mono ?_
  rintro e u' w'' ⟨rfl, rfl, rfl⟩
  refine ⟨.int .i64 0, ?_, ?_⟩
  · have hs := HSAME.out (.int .i64 0)
    simp [results, Tryz.results8, go_sem, hs]
  · exact ⟨rfl, g', HG.out, HR'.out, HEND.out _⟩
end Go.Proofs.YtiphkngfbpdeoaaGreatDoor
