import Derived.Test.YtghongdbohjaaaaGreatDoorUGae
import Derived.Lib.SliceRun
import Derived.Lib.BufferWrite
import Derived.Lib.UnsafeStr
import Derived.Lib.Hide
import Derived.Laws.MakeOwn
set_option linter.unusedVariables false
set_option linter.unusedSimpArgs false
/-
  Package blocks: tables: highest, pair.
-/
namespace Go.Proofs.YtghongdbohjaaaaGreatDoor
set_option linter.unusedVariables false
set_option linter.unusedSimpArgs false
open Go.RowKit

def hpCells : List HP → List Value
  | [] => []
  | h :: r => .string h.n :: .string h.v :: hpCells r
theorem hpCells_length (l : List HP) : (hpCells l).length = l.length * 2 := by
  induction l with
  | nil => rfl
  | cons c r ih => simp [hpCells, ih]; omega
theorem hpCells_append (a b : List HP) : hpCells (a ++ b) = hpCells a ++ hpCells b := by
  induction a with
  | nil => rfl
  | cons c r ih => simp [hpCells, ih]
theorem hpCells_drop (l : List HP) (k : Nat) : hpCells (l.drop k) = (hpCells l).drop (k * 2) := by
  induction l generalizing k with
  | nil => simp [hpCells]
  | cons c r ih =>
    cases k with
    | zero => simp
    | succ k => rw [List.drop_succ_cons, ih, Nat.succ_mul]; simp [hpCells]
theorem hpCells_get {l : List HP} {k : Nat} (h : k < l.length) : (hpCells l)[k * 2]? = some (.string l[k].n) ∧ (hpCells l)[k * 2 + 1]? = some (.string l[k].v) := by
  induction l generalizing k with
  | nil => simp at h
  | cons p r ih =>
    cases k with
    | zero => simp [hpCells]
    | succ k =>
      simp only [List.length_cons] at h
      have := ih (k := k) (by omega)
      rw [Nat.succ_mul]
      simpa [hpCells, Nat.add_assoc] using this

/-- A table in the first cells of a block. -/
structure TbB (w : World) (b : Nat) (cs : Array Value) (tP : TypeId) (lim sz : Nat) (tv : Value) : Prop where
  blk : w.heap[b]? = some (.cells cs tP (0, 0))
  c0 : cs[0]? = some (.int .i64 (lim : Int))
  c1 : cs[1]? = some (.int .i64 (sz : Int))
  c2 : cs[2]? = some tv
  ne : tP ≠ 62
theorem TbB.cells {w : World} {b : Nat} {cs : Array Value} {tP : TypeId} {lim sz : Nat} {tv : Value} (h : TbB w b cs tP lim sz tv) :
    w.cell? ⟨b, 0, none⟩ = some (.int .i64 (lim : Int)) ∧ w.cell? ⟨b, 1, none⟩ = some (.int .i64 (sz : Int)) ∧ w.cell? ⟨b, 2, none⟩ = some tv := by
  refine ⟨?_, ?_, ?_⟩ <;> rw [cell_of_row w b _ _ _ _ h.blk]
  · exact h.c0
  · exact h.c1
  · exact h.c2
theorem TbB.free {w : World} {b : Nat} {cs : Array Value} {tP : TypeId} {lim sz : Nat} {tv : Value} (h : TbB w b cs tP lim sz tv) (o : Nat) : w.frozen? ⟨b, o, none⟩ = false := by
  have := h.blk
  simp [World.frozen?, this]
theorem TbB.lt {w : World} {b : Nat} {cs : Array Value} {tP : TypeId} {lim sz : Nat} {tv : Value} (h : TbB w b cs tP lim sz tv) : b < w.heap.size := lt_of_block h.blk
theorem TbB.chg {S : Nat → Prop} {w w' : World} {b : Nat} {cs : Array Value} {tP : TypeId} {lim sz : Nat} {tv : Value} (h : TbB w b cs tP lim sz tv) (hc : Chg S w w') (hs : ¬ S b) : TbB w' b cs tP lim sz tv :=
  ⟨by rw [hc.block b (lt_of_block h.blk) hs]; exact h.blk, h.c0, h.c1, h.c2, h.ne⟩

/-- A table: its pairs, the oldest first. -/
structure TbS (w : World) (b : Nat) (cs : Array Value) (tP : TypeId) (lim : Nat) (tv : Value) (tab : List HP) : Prop where
  tb : TbB w b cs tP lim (szT tab) tv
  row : w.ownsRow 0 62 2 tv tab.length (hpCells tab)
  fit : szT tab ≤ lim
  small : lim ≤ 256
theorem TbS.chg {S : Nat → Prop} {w w' : World} {b : Nat} {cs : Array Value} {tP : TypeId} {lim : Nat} {tv : Value} {tab : List HP} (h : TbS w b cs tP lim tv tab) (hc : Chg S w w') (h1 : ¬ S b) (h2 : ∀ j, tv.ownBlock = some j → ¬ S j) : TbS w' b cs tP lim tv tab :=
  ⟨h.tb.chg hc h1, owns_chg h.row hc h2, h.fit, h.small⟩
theorem TbS.below {w w' : World} {b : Nat} {cs : Array Value} {tP : TypeId} {lim : Nat} {tv : Value} {tab : List HP} (h : TbS w b cs tP lim tv tab) (hb : Below w.heap.size w w') : TbS w' b cs tP lim tv tab :=
  h.chg (Chg.of_below (S := fun _ => False) hb) id (fun _ _ => id)
theorem TbS.few {w : World} {b : Nat} {cs : Array Value} {tP : TypeId} {lim : Nat} {tv : Value} {tab : List HP} (h : TbS w b cs tP lim tv tab) : tab.length ≤ 32 := by
  have h1 := szT_len tab
  have h2 := h.fit
  have h3 := h.small
  omega
theorem szT_mem {l : List HP} {h : HP} (hm : h ∈ l) : tk h ≤ szT l := by
  induction l with
  | nil => simp at hm
  | cons x r ih =>
    rw [szT_cons]
    rcases List.mem_cons.1 hm with rfl | hm
    · omega
    · have := ih hm; omega

set_option maxRecDepth 100000 in
set_option maxHeartbeats 1600000 in
theorem highest_any (b : Nat) (s : Option Addr) (n c : Nat) (w : World) (hc : w.cell? ⟨b, 2, none⟩ = some (.slice s n c)) (hn : n ≤ 1099511627776) :
    Calls Tryz.prog 293 #[.pointer (some ⟨b, 0, none⟩)] w fun e w' => e = .returned (.int .i64 ((8 + n : Nat) : Int)) ∧ w' = w := by
  go_enter Tryz.func293, Tryz.ntmps293
  go_wp2
  go_ret
  exact ⟨by go_num, rfl⟩

theorem numd_fix {l : List HP} {n : Nat} (h1 : 1 ≤ n) (h2 : n ≤ 8) : (numd l)[n - 1]? = some (fixed8[n - 1]'(by simp [fixed8]; omega)) := by
  unfold numd
  rw [List.getElem?_append_left (by simp [fixed8]; omega), List.getElem?_eq_getElem (by simp [fixed8]; omega)]
theorem numd_tab {l : List HP} {n : Nat} (h1 : 8 < n) (h2 : n ≤ 8 + l.length) : (numd l)[n - 1]? = some (l[8 + l.length - n]'(by omega)) := by
  unfold numd
  have h8 : fixed8.length = 8 := rfl
  rw [List.getElem?_append_right (by omega), h8, List.getElem?_reverse (by omega), List.getElem?_eq_getElem (by omega)]
  congr 2
  omega

set_option maxRecDepth 100000 in
set_option maxHeartbeats 3200000 in
theorem pair_fix (b : Nat) (cs : Array Value) (tP : TypeId) (lim : Nat) (tv : Value) (tab : List HP) (n : Nat) (x : HP) (w : World) (hgl : Gl w) (ht : TbS w b cs tP lim tv tab) (h1 : 1 ≤ n) (h2 : n ≤ 8) (hx : (numd tab)[n - 1]? = some x) :
    Calls Tryz.prog 222 #[.pointer (some ⟨b, 0, none⟩), .int .i64 n] w fun e w' => e = .returned (.agg #[.string x.n, .string x.v]) ∧ Below w.heap.size w w' := by
  have hfew := ht.few
  rw [numd_fix h1 h2] at hx
  simp only [Option.some.injEq] at hx
  obtain ⟨f0, f1⟩ := hgl.fix (n - 1) (by simp [fixed8]; omega)
  rw [hx] at f0 f1
  obtain ⟨sv, cv, hsv⟩ := slice_len ht.row
  subst hsv
  obtain ⟨z0, z1, z2⟩ := ht.tb.cells
  have hbl := ht.tb.lt
  have hgx := hgl.lt
  have HH := hide (fun wx hc => highest_any b sv tab.length cv wx hc (by omega))
  have g0 : ((w.alloc (.cells #[.string ⟨#[]⟩, .string ⟨#[]⟩] 62))).cell? ⟨b, 2, none⟩ = some (.slice sv tab.length cv) := (((Chg.refl (fun _ => False) w).alloc _).cell (p := ⟨b, 2, none⟩) hbl id).trans z2
  have hf0 : (w.alloc (.cells #[.string ⟨#[]⟩, .string ⟨#[]⟩] 62)).cell? ⟨4, (n - 1) * 2, none⟩ = some (.string x.n) := by
    have e : (n - 1) * 2 = 2 * (n - 1) := by omega
    rw [e]
    exact (((Chg.refl (fun _ => False) w).alloc _).cell (p := ⟨4, 2 * (n - 1), none⟩) (show 4 < w.heap.size by omega) id).trans f0
  have hf1 : (w.alloc (.cells #[.string ⟨#[]⟩, .string ⟨#[]⟩] 62)).cell? ⟨4, (n - 1) * 2 + 1, none⟩ = some (.string x.v) := by
    have e : (n - 1) * 2 + 1 = 2 * (n - 1) + 1 := by omega
    rw [e]
    exact (((Chg.refl (fun _ => False) w).alloc _).cell (p := ⟨4, 2 * (n - 1) + 1, none⟩) (show 4 < w.heap.size by omega) id).trans f1
  clear ht hgl hx f0 f1 z0 z1 z2
  go_enter Tryz.func222, Tryz.ntmps222
  go_wp2_with fail
  refine (HH.out _ g0).mono ?_
  rintro e w1 ⟨rfl, hw1⟩
  rw [hw1]
  clear hw1 w1
  go_wp2
  refine bodyPost_ret (v := .agg #[.string x.n, .string x.v]) ?_ rfl ⟨rfl, ?_⟩
  · simp [results, Tryz.results222, go_sem]
  · exact (Below.refl w.heap.size w).alloc (Nat.le_refl _) _

theorem wrap_nat (q : Nat) (h : q ≤ 1099511627776) : IntKind.i64.wrap (q : Int) = (q : Int) := by
  simp only [IntKind.wrap, IntKind.bits, IntKind.signed]
  simp
  omega
set_option maxRecDepth 100000 in
set_option maxHeartbeats 3200000 in
theorem pair_tab (b : Nat) (cs : Array Value) (tP : TypeId) (lim : Nat) (tv : Value) (tab : List HP) (n : Nat) (x : HP) (w : World) (ht : TbS w b cs tP lim tv tab) (h1 : 8 < n) (h2 : n ≤ 8 + tab.length) (hx : (numd tab)[n - 1]? = some x) :
    Calls Tryz.prog 222 #[.pointer (some ⟨b, 0, none⟩), .int .i64 n] w fun e w' => e = .returned (.agg #[.string x.n, .string x.v]) ∧ Below w.heap.size w w' := by
  have hfew := ht.few
  rw [numd_tab h1 h2] at hx
  simp only [Option.some.injEq] at hx
  obtain ⟨e0, e1⟩ := hpCells_get (l := tab) (k := 8 + tab.length - n) (by omega)
  rw [hx] at e0 e1
  obtain ⟨sv, cv, hsv⟩ := slice_len ht.row
  subst hsv
  obtain ⟨g, hg, hcl⟩ := slice_some ht.row (by omega)
  subst hg
  have d0 : w.cell? ⟨g, (8 + tab.length - n) * 2, none⟩ = some (.string x.n) := by rw [ht.row.cellAt _ (by have := hpCells_length tab; omega)]; exact e0
  have d1 : w.cell? ⟨g, (8 + tab.length - n) * 2 + 1, none⟩ = some (.string x.v) := by rw [ht.row.cellAt _ (by have := hpCells_length tab; omega)]; exact e1
  have hgl : g < w.heap.size := owns_lt ht.row rfl
  obtain ⟨z0, z1, z2⟩ := ht.tb.cells
  have hbl := ht.tb.lt
  have HH := hide (fun wx hc => highest_any b (some ⟨g, 0, none⟩) tab.length cv wx hc (by omega))
  have g0 : ((w.alloc (.cells #[.string ⟨#[]⟩, .string ⟨#[]⟩] 62))).cell? ⟨b, 2, none⟩ = some (.slice (some ⟨g, 0, none⟩) tab.length cv) := (((Chg.refl (fun _ => False) w).alloc _).cell (p := ⟨b, 2, none⟩) hbl id).trans z2
  have hf0 : (w.alloc (.cells #[.string ⟨#[]⟩, .string ⟨#[]⟩] 62)).cell? ⟨g, (8 + tab.length - n) * 2, none⟩ = some (.string x.n) := (((Chg.refl (fun _ => False) w).alloc _).cell (p := ⟨g, (8 + tab.length - n) * 2, none⟩) hgl id).trans d0
  have hf1 : (w.alloc (.cells #[.string ⟨#[]⟩, .string ⟨#[]⟩] 62)).cell? ⟨g, (8 + tab.length - n) * 2 + 1, none⟩ = some (.string x.v) := (((Chg.refl (fun _ => False) w).alloc _).cell (p := ⟨g, (8 + tab.length - n) * 2 + 1, none⟩) hgl id).trans d1
  obtain ⟨q, hq⟩ : ∃ q, q = 8 + tab.length - n := ⟨_, rfl⟩
  rw [← hq] at hf0 hf1
  have hql : q < tab.length := by omega
  have hwr : IntKind.i64.wrap ((8 : Int) + (tab.length : Int) - (n : Int)) = (q : Int) := by
    have e : (8 : Int) + (tab.length : Int) - (n : Int) = (q : Int) := by omega
    rw [e]
    exact wrap_nat q (by omega)
  have HQ := hide hq
  clear hq
  clear ht hx e0 e1 d0 d1 z0 z1 z2
  go_enter Tryz.func222, Tryz.ntmps222
  go_wp2_with fail
  refine (HH.out _ g0).mono ?_
  rintro e w1 ⟨rfl, hw1⟩
  rw [hw1]
  clear hw1 w1
  go_wp2
  go_region_law (refine step_call rfl 293 Tryz.f293 Tryz.func293 (by kernel_rfl) rfl [.tmp 24] #[360] rfl [.pointer (some ⟨b, 0, none⟩)] (by simp [Act.eval, Act.put]) (HH.out (w.alloc (.cells #[.string ⟨#[]⟩, .string ⟨#[]⟩] 62)).drew g0) ?_; rintro e w2 ⟨rfl, rfl⟩; refine ⟨_, rfl, ?_⟩)
  all_goals go_wp2
  all_goals refine bodyPost_ret (v := .agg #[.string x.n, .string x.v]) ?_ rfl ⟨rfl, ?_⟩
  all_goals first
    | (simp [results, Tryz.results222, go_sem]; done)
    | (have hb := (Below.refl w.heap.size w).alloc (Nat.le_refl _) (.cells #[.string x.n, .string x.v] 62); exact ⟨hb.os, hb.tape, hb.output, hb.size, hb.block⟩)

theorem pair_any (b : Nat) (cs : Array Value) (tP : TypeId) (lim : Nat) (tv : Value) (tab : List HP) (n : Nat) (x : HP) (w : World) (hgl : Gl w) (ht : TbS w b cs tP lim tv tab) (h1 : 1 ≤ n) (hx : (numd tab)[n - 1]? = some x) :
    Calls Tryz.prog 222 #[.pointer (some ⟨b, 0, none⟩), .int .i64 n] w fun e w' => e = .returned (.agg #[.string x.n, .string x.v]) ∧ Below w.heap.size w w' := by
  have hn := (List.getElem?_eq_some_iff.1 hx).1
  rw [numd_length] at hn
  by_cases h : n ≤ 8
  · exact pair_fix b cs tP lim tv tab n x w hgl ht h1 h hx
  · exact pair_tab b cs tP lim tv tab n x w ht (by omega) (by omega) hx

set_option maxRecDepth 100000 in
set_option maxHeartbeats 3200000 in
theorem pair_bad (b : Nat) (cs : Array Value) (tP : TypeId) (lim : Nat) (tv : Value) (tab : List HP) (n : Nat) (w : World) (ht : TbS w b cs tP lim tv tab) (hn : n ≤ 1099511627776) (hx : n = 0 ∨ 8 + tab.length < n) :
    Calls Tryz.prog 222 #[.pointer (some ⟨b, 0, none⟩), .int .i64 n] w fun e w' => e = .panicked [{ v := .iface 83 (.int .i64 13), recovered := false }] ∧ Below w.heap.size w w' := by
  have hfew := ht.few
  obtain ⟨sv, cv, hsv⟩ := slice_len ht.row
  subst hsv
  obtain ⟨z0, z1, z2⟩ := ht.tb.cells
  have hbl := ht.tb.lt
  have HH := hide (fun wx hc => highest_any b sv tab.length cv wx hc (by omega))
  have g0 : ((w.alloc (.cells #[.string ⟨#[]⟩, .string ⟨#[]⟩] 62))).cell? ⟨b, 2, none⟩ = some (.slice sv tab.length cv) := (((Chg.refl (fun _ => False) w).alloc _).cell (p := ⟨b, 2, none⟩) hbl id).trans z2
  clear ht z0 z1 z2
  rcases hx with rfl | hx
  · go_enter Tryz.func222, Tryz.ntmps222
    go_wp2
    exact ⟨rfl, rfl, (Below.refl w.heap.size w).alloc (Nat.le_refl _) _⟩
  · go_enter Tryz.func222, Tryz.ntmps222
    go_wp2_with fail
    refine (HH.out _ g0).mono ?_
    rintro e w1 ⟨rfl, hw1⟩
    rw [hw1]
    clear hw1 w1
    go_wp2
    exact ⟨rfl, rfl, (Below.refl w.heap.size w).alloc (Nat.le_refl _) _⟩
end Go.Proofs.YtghongdbohjaaaaGreatDoor
/-
  Package blocks: find, findPair, findName.
-/
namespace Go.Proofs.YtghongdbohjaaaaGreatDoor
set_option linter.unusedVariables false
set_option linter.unusedSimpArgs false
open Go.RowKit

set_option maxRecDepth 100000 in
set_option maxHeartbeats 1600000 in
theorem fitsPair_any (x h : HP) (bb : Nat) (w : World) (h0 : w.cell? ⟨bb, 0, none⟩ = some (.string h.n)) (h1 : w.cell? ⟨bb, 1, none⟩ = some (.string h.v)) :
    Calls Tryz.prog 287 #[.agg #[.string x.n, .string x.v], .pointer (some ⟨bb, 0, none⟩)] w fun e w' => e = .returned (.bool (hpEq x h)) ∧ Below w.heap.size w w' := by
  obtain ⟨n, v⟩ := x
  obtain ⟨m, u⟩ := h
  simp only at h0 h1
  have hbl : bb < w.heap.size := World.block_lt_of_cell? w _ h0
  go_enter Tryz.func287, Tryz.ntmps287
  go_wp2
  all_goals go_ret
  all_goals refine ⟨ret_bool ?_, (Below.refl _ _).alloc (Nat.le_refl _) _⟩
  all_goals simp_all [hpEq]

set_option maxRecDepth 100000 in
set_option maxHeartbeats 1600000 in
theorem fitsName_any (x : HP) (m : ByteArray) (bb : Nat) (w : World) (h0 : w.cell? ⟨bb, 0, none⟩ = some (.string m)) :
    Calls Tryz.prog 337 #[.agg #[.string x.n, .string x.v], .pointer (some ⟨bb, 0, none⟩)] w fun e w' => e = .returned (.bool (x.n.toList == m.toList)) ∧ Below w.heap.size w w' := by
  obtain ⟨n, v⟩ := x
  have hbl : bb < w.heap.size := World.block_lt_of_cell? w _ h0
  go_enter Tryz.func337, Tryz.ntmps337
  go_wp2
  all_goals go_ret
  all_goals refine ⟨ret_bool ?_, (Below.refl _ _).alloc (Nat.le_refl _) _⟩
  all_goals simp_all

/-- The least number, from k + 1 on, of a pair of which p holds; 0: none. -/
def fromN (p : HP → Bool) (l : List HP) (k : Nat) : Nat := match (l.drop k).findIdx? p with
  | some i => k + i + 1
  | none => 0
theorem fromN_hit {p : HP → Bool} {l : List HP} {k : Nat} (h : k < l.length) (he : p l[k] = true) : fromN p l k = k + 1 := by
  unfold fromN
  rw [List.drop_eq_getElem_cons h, List.findIdx?_cons, he]
  simp
theorem fromN_miss {p : HP → Bool} {l : List HP} {k : Nat} (h : k < l.length) (he : p l[k] = false) : fromN p l k = fromN p l (k + 1) := by
  unfold fromN
  rw [List.drop_eq_getElem_cons h, List.findIdx?_cons, he]
  cases hx : (l.drop (k + 1)).findIdx? p with
  | none => simp
  | some i => simp; omega
theorem fromN_end {p : HP → Bool} {l : List HP} {k : Nat} (h : l.length ≤ k) : fromN p l k = 0 := by
  unfold fromN
  rw [List.drop_of_length_le h]
  rfl
theorem fromN_le (p : HP → Bool) (l : List HP) (k : Nat) : fromN p l k ≤ l.length := by
  unfold fromN
  split
  · next i hi =>
    have := (List.findIdx?_eq_some_iff_getElem.1 hi).1
    simp at this
    omega
  · omega

set_option maxRecDepth 100000 in
set_option maxHeartbeats 3200000 in
theorem find_pair (b : Nat) (cs : Array Value) (tP : TypeId) (lim : Nat) (tv : Value) (tab : List HP) (bb : Nat) (p : HP → Bool) (w : World) (hgl : Gl w) (ht : TbS w b cs tP lim tv tab)
    (hp : ∀ x wx, Below w.heap.size w wx → Calls Tryz.prog 287 #[.agg #[.string x.n, .string x.v], .pointer (some ⟨bb, 0, none⟩)] wx fun e w' => e = .returned (.bool (p x)) ∧ Below wx.heap.size wx w') :
    Calls Tryz.prog 286 #[.pointer (some ⟨b, 0, none⟩), .func (.func 287) #[] #[.pointer (some ⟨bb, 0, none⟩)]] w fun e w' => e = .returned (.int .i64 (fromN p (numd tab) 0 : Nat)) ∧ Below w.heap.size w w' := by
  have hfew := ht.few
  obtain ⟨sv, cv, hsv⟩ := slice_len ht.row
  subst hsv
  have HH := hide (fun wx hc => highest_any b sv tab.length cv wx hc (by omega))
  have HT := hide ht
  have HG := hide hgl
  have HP := hide hp
  have hnl := numd_length tab
  clear ht hgl hp
  go_enter Tryz.func286, Tryz.ntmps286
  go_wp2
  go_loopw [5] (fun i wr => ∃ k : Nat, i = .int .i64 ((k + 1 : Nat) : Int) ∧ k ≤ (numd tab).length ∧ fromN p (numd tab) 0 = fromN p (numd tab) k ∧ Below w.heap.size w wr) (fun i _ => (numd tab).length + 1 - (intOf i).toNat)
  case atStart => exact ⟨0, rfl, Nat.zero_le _, rfl, Below.refl _ _⟩
  case round =>
    obtain ⟨k, rfl, hk, heq, hbel⟩ := hrel
    have htr := HT.out.below hbel
    have hgr := HG.out.below hbel
    obtain ⟨z0, z1, z2⟩ := htr.tb.cells
    have HB := hide hbel
    have HEQ := hide heq
    have HTR := hide htr
    have HGR := hide hgr
    clear hbel heq htr hgr z0 z1
    go_wp2_with fail
    refine (HH.out _ z2).mono ?_
    rintro e w1 ⟨rfl, hw1⟩
    rw [hw1]
    clear hw1 w1
    by_cases hlt : k < (numd tab).length
    · have hx : (numd tab)[k + 1 - 1]? = some (numd tab)[k] := by rw [Nat.add_sub_cancel]; exact List.getElem?_eq_getElem hlt
      have hpr := pair_any b cs tP lim _ tab (k + 1) _ wr HGR.out HTR.out (by omega) hx
      have hhit := fun he => fromN_hit (p := p) hlt he
      have hmis := fun he => fromN_miss (p := p) hlt he
      generalize (numd tab)[k] = x at hpr hhit hmis
      have HPR := hide hpr
      have HHIT := hide hhit
      have HMIS := hide hmis
      clear hx hpr hhit hmis
      go_wp2_with fail
      refine HPR.out.mono ?_
      rintro e w2 ⟨rfl, hb2⟩
      have hB2 := HB.out.trans (hb2.mono HB.out.size)
      have HB2 := hide hB2
      clear hb2 hB2
      cases hpx : p x with
      | true =>
        have hpc := HP.out x w2 HB2.out
        rw [hpx] at hpc
        have HPC := hide hpc
        clear hpc
        go_wp2_with fail
        refine HPC.out.mono ?_
        rintro e w3 ⟨rfl, hb3⟩
        have HB3 := hide (HB2.out.trans (hb3.mono HB2.out.size))
        clear hb3
        go_wp2
        go_ret
        refine ⟨?_, HB3.out⟩
        rw [HEQ.out, HHIT.out hpx]
        try go_num
      | false =>
        have hpc := HP.out x w2 HB2.out
        rw [hpx] at hpc
        have HPC := hide hpc
        clear hpc
        go_wp2_with fail
        refine HPC.out.mono ?_
        rintro e w3 ⟨rfl, hb3⟩
        have HB3 := hide (HB2.out.trans (hb3.mono HB2.out.size))
        clear hb3
        go_wp2
        go_roundw
        case rel => exact ⟨k + 1, by go_num, by omega, by rw [HEQ.out, HMIS.out hpx], HB3.out⟩
        case measure => simp [intOf]; omega
    · have hke : k = (numd tab).length := by omega
      go_wp2
      go_ret
      refine ⟨?_, HB.out⟩
      rw [HEQ.out, fromN_end (by omega)]
      try rfl

set_option maxRecDepth 100000 in
set_option maxHeartbeats 3200000 in
theorem find_name (b : Nat) (cs : Array Value) (tP : TypeId) (lim : Nat) (tv : Value) (tab : List HP) (bb : Nat) (p : HP → Bool) (w : World) (hgl : Gl w) (ht : TbS w b cs tP lim tv tab)
    (hp : ∀ x wx, Below w.heap.size w wx → Calls Tryz.prog 337 #[.agg #[.string x.n, .string x.v], .pointer (some ⟨bb, 0, none⟩)] wx fun e w' => e = .returned (.bool (p x)) ∧ Below wx.heap.size wx w') :
    Calls Tryz.prog 286 #[.pointer (some ⟨b, 0, none⟩), .func (.func 337) #[] #[.pointer (some ⟨bb, 0, none⟩)]] w fun e w' => e = .returned (.int .i64 (fromN p (numd tab) 0 : Nat)) ∧ Below w.heap.size w w' := by
  have hfew := ht.few
  obtain ⟨sv, cv, hsv⟩ := slice_len ht.row
  subst hsv
  have HH := hide (fun wx hc => highest_any b sv tab.length cv wx hc (by omega))
  have HT := hide ht
  have HG := hide hgl
  have HP := hide hp
  have hnl := numd_length tab
  clear ht hgl hp
  go_enter Tryz.func286, Tryz.ntmps286
  go_wp2
  go_loopw [5] (fun i wr => ∃ k : Nat, i = .int .i64 ((k + 1 : Nat) : Int) ∧ k ≤ (numd tab).length ∧ fromN p (numd tab) 0 = fromN p (numd tab) k ∧ Below w.heap.size w wr) (fun i _ => (numd tab).length + 1 - (intOf i).toNat)
  case atStart => exact ⟨0, rfl, Nat.zero_le _, rfl, Below.refl _ _⟩
  case round =>
    obtain ⟨k, rfl, hk, heq, hbel⟩ := hrel
    have htr := HT.out.below hbel
    have hgr := HG.out.below hbel
    obtain ⟨z0, z1, z2⟩ := htr.tb.cells
    have HB := hide hbel
    have HEQ := hide heq
    have HTR := hide htr
    have HGR := hide hgr
    clear hbel heq htr hgr z0 z1
    go_wp2_with fail
    refine (HH.out _ z2).mono ?_
    rintro e w1 ⟨rfl, hw1⟩
    rw [hw1]
    clear hw1 w1
    by_cases hlt : k < (numd tab).length
    · have hx : (numd tab)[k + 1 - 1]? = some (numd tab)[k] := by rw [Nat.add_sub_cancel]; exact List.getElem?_eq_getElem hlt
      have hpr := pair_any b cs tP lim _ tab (k + 1) _ wr HGR.out HTR.out (by omega) hx
      have hhit := fun he => fromN_hit (p := p) hlt he
      have hmis := fun he => fromN_miss (p := p) hlt he
      generalize (numd tab)[k] = x at hpr hhit hmis
      have HPR := hide hpr
      have HHIT := hide hhit
      have HMIS := hide hmis
      clear hx hpr hhit hmis
      go_wp2_with fail
      refine HPR.out.mono ?_
      rintro e w2 ⟨rfl, hb2⟩
      have hB2 := HB.out.trans (hb2.mono HB.out.size)
      have HB2 := hide hB2
      clear hb2 hB2
      cases hpx : p x with
      | true =>
        have hpc := HP.out x w2 HB2.out
        rw [hpx] at hpc
        have HPC := hide hpc
        clear hpc
        go_wp2_with fail
        refine HPC.out.mono ?_
        rintro e w3 ⟨rfl, hb3⟩
        have HB3 := hide (HB2.out.trans (hb3.mono HB2.out.size))
        clear hb3
        go_wp2
        go_ret
        refine ⟨?_, HB3.out⟩
        rw [HEQ.out, HHIT.out hpx]
        try go_num
      | false =>
        have hpc := HP.out x w2 HB2.out
        rw [hpx] at hpc
        have HPC := hide hpc
        clear hpc
        go_wp2_with fail
        refine HPC.out.mono ?_
        rintro e w3 ⟨rfl, hb3⟩
        have HB3 := hide (HB2.out.trans (hb3.mono HB2.out.size))
        clear hb3
        go_wp2
        go_roundw
        case rel => exact ⟨k + 1, by go_num, by omega, by rw [HEQ.out, HMIS.out hpx], HB3.out⟩
        case measure => simp [intOf]; omega
    · have hke : k = (numd tab).length := by omega
      go_wp2
      go_ret
      refine ⟨?_, HB.out⟩
      rw [HEQ.out, fromN_end (by omega)]
      try rfl

theorem fromN_pn (h : HP) (l : List HP) : fromN (fun x => hpEq x h) l 0 = pnN l h := by
  unfold fromN pnN pnF hpEq
  rw [List.drop_zero]
  cases l.findIdx? (fun x => decide (x.n.toList = h.n.toList ∧ x.v.toList = h.v.toList)) with
  | none => rfl
  | some i => simp
theorem fromN_nm (m : ByteArray) (l : List HP) : fromN (fun x => x.n.toList == m.toList) l 0 = nmF l m := by
  unfold fromN nmF
  rw [List.drop_zero]
  cases l.findIdx? (fun x => x.n.toList == m.toList) with
  | none => rfl
  | some i => simp

set_option maxRecDepth 100000 in
set_option maxHeartbeats 1600000 in
theorem findPair_any (b : Nat) (cs : Array Value) (tP : TypeId) (lim : Nat) (tv : Value) (tab : List HP) (h : HP) (w : World) (hgl : Gl w) (ht : TbS w b cs tP lim tv tab) :
    Calls Tryz.prog 212 #[.pointer (some ⟨b, 0, none⟩), .agg #[.string h.n, .string h.v]] w fun e w' => e = .returned (.int .i64 (pnN (numd tab) h : Nat)) ∧ Below w.heap.size w w' := by
  have hmf : ∀ (fn : Fn) (first cap : Array Value) (w : World), (Instr.makeFunc fn first cap).run Tryz.prog w = .ok (.func fn first cap) w := fun _ _ _ _ => rfl
  have hbx := (Below.refl w.heap.size w).alloc (Nat.le_refl _) (.cells #[.string h.n, .string h.v] 62)
  have hh := heap_alloc_new w (.cells #[.string h.n, .string h.v] 62)
  have hsz := lt_of_block hh
  have hf := find_pair b cs tP lim tv tab w.heap.size (fun x => hpEq x h) (w.alloc (.cells #[.string h.n, .string h.v] 62)) (hgl.below hbx) (ht.below hbx) (fun x wx hb => fitsPair_any x h w.heap.size wx (by rw [hb.cell (p := ⟨w.heap.size, 0, none⟩) hsz, cell_of_row _ _ _ _ _ _ hh]; rfl) (by rw [hb.cell (p := ⟨w.heap.size, 1, none⟩) hsz, cell_of_row _ _ _ _ _ _ hh]; rfl))
  rw [fromN_pn] at hf
  have HF := hide hf
  have HBX := hide hbx
  clear hf hbx hh hsz hgl ht
  go_enter Tryz.func212, Tryz.ntmps212
  go_wp2_with fail
  refine HF.out.mono ?_
  rintro e w' ⟨rfl, hb⟩
  have HB := hide (HBX.out.trans (hb.mono HBX.out.size))
  clear hb
  go_wp2
  go_ret
  exact ⟨rfl, HB.out⟩
set_option maxRecDepth 100000 in
set_option maxHeartbeats 1600000 in
theorem findName_any (b : Nat) (cs : Array Value) (tP : TypeId) (lim : Nat) (tv : Value) (tab : List HP) (m : ByteArray) (w : World) (hgl : Gl w) (ht : TbS w b cs tP lim tv tab) :
    Calls Tryz.prog 288 #[.pointer (some ⟨b, 0, none⟩), .string m] w fun e w' => e = .returned (.int .i64 (nmF (numd tab) m : Nat)) ∧ Below w.heap.size w w' := by
  have hmf : ∀ (fn : Fn) (first cap : Array Value) (w : World), (Instr.makeFunc fn first cap).run Tryz.prog w = .ok (.func fn first cap) w := fun _ _ _ _ => rfl
  have hbx := (Below.refl w.heap.size w).alloc (Nat.le_refl _) (.cells #[.string m] 9)
  have hh := heap_alloc_new w (.cells #[.string m] 9)
  have hsz := lt_of_block hh
  have hf := find_name b cs tP lim tv tab w.heap.size (fun x => x.n.toList == m.toList) (w.alloc (.cells #[.string m] 9)) (hgl.below hbx) (ht.below hbx) (fun x wx hb => fitsName_any x m w.heap.size wx (by rw [hb.cell (p := ⟨w.heap.size, 0, none⟩) hsz, cell_of_row _ _ _ _ _ _ hh]; rfl))
  rw [fromN_nm] at hf
  have HF := hide hf
  have HBX := hide hbx
  clear hf hbx hh hsz hgl ht
  go_enter Tryz.func288, Tryz.ntmps288
  go_wp2_with fail
  refine HF.out.mono ?_
  rintro e w' ⟨rfl, hb⟩
  have HB := hide (HBX.out.trans (hb.mono HBX.out.size))
  clear hb
  go_wp2
  go_ret
  exact ⟨rfl, HB.out⟩
end Go.Proofs.YtghongdbohjaaaaGreatDoor
/-
  slices.Delete of pairs, from the first on.
-/
namespace Go.Proofs.YtghongdbohjaaaaGreatDoor
set_option linter.unusedVariables false
set_option linter.unusedSimpArgs false
open Go.RowKit

/-- append where there is room, in a region that draws its order: the row is told. -/
theorem step_app_room {P : Program} {ops : Array Oper} {o : Oper} {a : Act} {w : World} {K : Act → World → Prop} {Q : Exit → Act → World → Prop} {E : Prop} (hgd : o.guard = none) (s y : Operand) (t : TypeId)
    (ho : o.op = .call { callee := .builtin .append, args := #[s, y], argTypes := #[t, t] })
    (e : TypeId) (i : TypeInfo) (ht : P.underlying t = some (.slice e)) (hi : P.info? e = some i)
    (g n cap : Nat) (cur : Array Value) (hs : a.eval s = .slice (some ⟨g, 0, none⟩) n cap) (hg : w.heap[g]? = some (.cells cur e (0, 0)))
    (ad : Addr) (m c : Nat) (news : List Value) (hx : a.eval y = .slice (some ad) m c) (hl : news.length = m * i.size) (hcells : ∀ j u, news[j]? = some u → w.cell? (ad.add j) = some u) (h1 : ∀ u ∈ news, u.oneCell' = true)
    (hroom : n + m ≤ cap) (hfit : n * i.size + news.length ≤ cur.size)
    (hK : ∀ w', (Builtin.append_ #[t, t] o.type #[.slice (some ⟨g, 0, none⟩) n cap, .slice (some ad) m c]).run P w = .ok (.slice (some ⟨g, 0, none⟩) (n + m) cap) w' → w' = w.setRow g (cur.toList.take (n * i.size) ++ news ++ cur.toList.drop (n * i.size + news.length)).toArray → K (a.put o.dst (.slice (some ⟨g, 0, none⟩) (n + m) cap)) w') :
    if Region.wanted o (yielded ops a.tmps) = true then Oper.wp P o a w K Q else E := by
  have hw : Region.wanted o (yielded ops a.tmps) = true := by simp [Region.wanted, hgd]
  rw [if_pos hw]
  have h := run_append_room (P := P) w t o.type e i ht hi g n cap cur hg ad m c news hl hcells h1 hroom hfit
  obtain ⟨w', hw'⟩ : ∃ w', w' = w.setRow g (cur.toList.take (n * i.size) ++ news ++ cur.toList.drop (n * i.size + news.length)).toArray := ⟨_, rfl⟩
  rw [← hw'] at h
  have h2 := hK w' h hw'
  clear hw' hK
  unfold Oper.wp
  simp [execOp, ho, resolve, invoke, builtin, hs, hx, h, Result.andThen]
  exact h2
theorem Tryz.info62 : (Tryz.prog.info? 62).map (fun i => (i.zero, i.size, i.bytes)) = some (some (.agg #[.string ⟨#[]⟩, .string ⟨#[]⟩]), 2, 32) := by kernel_rfl
/-- clear, of n pairs. -/
theorem run_clear_pairs {P : Program} (w : World) (t ty e : TypeId) (z : Value) (ht : P.underlying t = some (.slice e)) (hv : ∀ w, (zeroValue e).run P w = .ok z w) (zs : List Value) (b o n c : Nat) (hz : (Builtin.zeroCells z.cells n).toList = zs) (hn : 0 < n) (cur : Array Value) (hg : w.heap[b]? = some (.cells cur e (0, 0)))
    (hfit : o + zs.length ≤ cur.size) (h1 : ∀ u ∈ zs, u.oneCell' = true) :
    (Builtin.clear_ #[t] ty #[.slice (some ⟨b, o, none⟩) n c]).run P w = .ok (.tuple #[]) (w.setRow b (cur.toList.take o ++ zs ++ cur.toList.drop (o + zs.length)).toArray) := by
  have hst := run_storeCells_at P b o e zs 0 cur w hg (by simpa using hfit) h1
  simp only [Nat.add_zero] at hst
  obtain ⟨m, rfl⟩ : ∃ m, n = m + 1 := ⟨n - 1, by omega⟩
  simp [Builtin.clear_, run_underlying ht, hv, hz, hst]

theorem zero_len (m : Nat) : (Builtin.zeroCells (Value.agg #[.string ⟨#[]⟩, .string ⟨#[]⟩]).cells m).toList.length = m * 2 := by
  rw [Array.length_toList, size_zeroCells]
  rfl
theorem zero_one (m : Nat) : ∀ u ∈ (Builtin.zeroCells (Value.agg #[.string ⟨#[]⟩, .string ⟨#[]⟩]).cells m).toList, u.oneCell' = true := by
  intro u hu
  have hc : (Value.agg #[.string ⟨#[]⟩, .string ⟨#[]⟩]).cells = #[.string ⟨#[]⟩, .string ⟨#[]⟩] := rfl
  rw [hc] at hu
  obtain ⟨i, hi, rfl⟩ := List.mem_iff_getElem.1 hu
  simp only [Builtin.zeroCells, Array.getElem_toList, Array.getElem_map, Array.getElem_range]
  have : i % 2 = 0 ∨ i % 2 = 1 := by omega
  rcases this with h | h <;> simp [h, Value.oneCell']
theorem chg_setRow (w : World) (g : Nat) (row : Array Value) : Chg (fun j => j = g) w (w.setRow g row) := ⟨rfl, rfl, rfl, by simp, fun k _ hn => setRow_other w g k row (fun e => hn e)⟩

set_option maxRecDepth 100000 in
set_option maxHeartbeats 3200000 in
theorem delete_any (g n cap k : Nat) (cur : Array Value) (tab : List HP) (w : World) (hg : w.heap[g]? = some (.cells cur 62 (0, 0))) (hcs : cur.size = cap * 2) (hn : n ≤ cap) (hcm : cap ≤ 9223372036854775807) (hk0 : 0 < k) (hk : k ≤ n) (hnt : tab.length = n) (htake : cur.toList.take (n * 2) = hpCells tab) :
    Calls Tryz.prog 285 #[.slice (some ⟨g, 0, none⟩) n cap, .int .i64 0, .int .i64 k] w fun e w' => ∃ cur', e = .returned (.slice (some ⟨g, 0, none⟩) (n - k) cap) ∧ w'.heap[g]? = some (.cells cur' 62 (0, 0)) ∧ cur'.size = cap * 2 ∧ cur'.toList.take ((n - k) * 2) = hpCells (tab.drop k) ∧ Chg (fun j => j = g) w w' := by
  obtain ⟨i0, hi, hz0, hz1, hz2⟩ := info_parts Tryz.info62
  obtain ⟨AD, hAD, hAC⟩ : ∃ AD : Addr, (if cap = k then some (⟨g, 0, none⟩ : Addr) else some ⟨g, k * 2, none⟩) = some AD ∧ ∀ j u, (hpCells (tab.drop k))[j]? = some u → w.cell? (AD.add j) = some u := by
    by_cases hck : cap = k
    · refine ⟨⟨g, 0, none⟩, by rw [if_pos hck], fun j u hu => ?_⟩
      rw [List.drop_of_length_le (by omega)] at hu
      simp [hpCells] at hu
    · refine ⟨⟨g, k * 2, none⟩, by rw [if_neg hck], fun j u hu => ?_⟩
      have e : (⟨g, k * 2, none⟩ : Addr).add j = ⟨g, k * 2 + j, none⟩ := by unfold Addr.add; split <;> simp_all
      rw [hpCells_drop, List.getElem?_drop, ← htake, List.getElem?_take] at hu
      rw [e, cell_of_row _ _ _ _ _ _ hg]
      split at hu
      · rw [Array.getElem?_toList] at hu; exact hu
      · cases hu
  have hlen : (hpCells (tab.drop k)).length = (n - k) * i0.size := by rw [hpCells_length, hz1, List.length_drop, hnt]
  have hone : ∀ u ∈ hpCells (tab.drop k), u.oneCell' = true := by
    intro u hu
    have : ∀ l : List HP, ∀ u ∈ hpCells l, u.oneCell' = true := by
      intro l
      induction l with
      | nil => intro u hu; simp [hpCells] at hu
      | cons h r ih =>
        intro u hu
        simp only [hpCells, List.mem_cons] at hu
        rcases hu with rfl | rfl | hu
        · rfl
        · rfl
        · exact ih u hu
    exact this _ u hu
  have HG : Hid (w.drew.heap[g]? = some (.cells cur 62 (0, 0))) := hg
  have HAC : Hid (∀ j u, (hpCells (tab.drop k))[j]? = some u → w.drew.cell? (AD.add j) = some u) := hAC
  have HLEN := hide hlen
  have HONE := hide hone
  have HFIT : Hid (0 * i0.size + (hpCells (tab.drop k)).length ≤ cur.size) := by show _ ≤ _; rw [hlen, hz1, hcs]; omega
  have HRM : Hid (0 + (n - k) ≤ cap) := by show _ ≤ _; omega
  have hdl : (hpCells (tab.drop k)).length = (n - k) * 2 := by rw [hpCells_length, List.length_drop, hnt]
  generalize hpCells (tab.drop k) = NW at hlen hone HLEN HONE HAC HFIT hdl ⊢
  have HDL := hide hdl
  have HCS := hide hcs
  clear hAC hlen hone hg htake hnt hcs hdl
  go_enter Tryz.func285, Tryz.ntmps285
  go_wp2
  go_region_law (refine step_app_room rfl (.tmp 22) (.tmp 25) 57 rfl 62 i0 Tryz.underlying57 hi g 0 cap cur (by simp [Act.eval, Act.put]) HG.out AD (n - k) (cap - k) NW (by simp [Act.eval, Act.put, hAD]) HLEN.out HAC.out HONE.out HRM.out HFIT.out ?_; intro w2 _ hw2; have HW2 := hide hw2; clear hw2)
  go_wp2
  have hw2 := HW2.out
  rw [Nat.zero_mul, List.take_zero, List.nil_append, Nat.zero_add] at hw2
  have hg2 : w2.heap[g]? = some (.cells (NW ++ cur.toList.drop NW.length).toArray 62 (0, 0)) := by rw [hw2]; exact setRow_heap _ _ cur _ _ _ HG.out
  have hs2 : (NW ++ cur.toList.drop NW.length).toArray.size = cap * 2 := by
    have h1 := HDL.out
    have h2 := HCS.out
    have h3 : (n - k) * 2 ≤ cap * 2 := Nat.mul_le_mul_right _ (by omega)
    have h4 : cur.toList.length = cap * 2 := by rw [Array.length_toList]; exact h2
    rw [List.size_toArray, List.length_append, List.length_drop, h4, h1]
    omega
  rw [run_clear_pairs (P := Tryz.prog) w2 57 0 62 (.agg #[.string ⟨#[]⟩, .string ⟨#[]⟩]) Tryz.underlying57 (fun _ => by kernel_rfl) _ g ((n - k) * 2) (n - (n - k)) (cap - (n - k)) rfl (by omega) _ hg2 (by rw [hs2, zero_len]; omega) (zero_one _)]
  obtain ⟨cur3, hcur3⟩ : ∃ c3, c3 = ((NW ++ cur.toList.drop NW.length).toArray.toList.take ((n - k) * 2) ++ (Builtin.zeroCells (Value.agg #[.string ⟨#[]⟩, .string ⟨#[]⟩]).cells (n - (n - k))).toList ++ (NW ++ cur.toList.drop NW.length).toArray.toList.drop ((n - k) * 2 + (Builtin.zeroCells (Value.agg #[.string ⟨#[]⟩, .string ⟨#[]⟩]).cells (n - (n - k))).toList.length)).toArray := ⟨_, rfl⟩
  rw [← hcur3]
  have H3 := hide hcur3
  have HG2 := hide hg2
  have HS2 := hide hs2
  have HWW := hide hw2
  clear hcur3 hg2 hs2 hw2
  simp only [Result.andThen_ok]
  rw [Oper.upon_value]
  go_wp2
  go_ret
  refine ⟨rfl, cur3, setRow_heap _ _ _ _ _ _ HG2.out, ?_, ?_, ?_⟩
  · rw [H3.out, List.size_toArray, List.length_append, List.length_append, List.length_take, List.length_drop, zero_len]
    have h9 := HS2.out
    rw [List.size_toArray] at h9
    rw [h9]
    omega
  · rw [H3.out]
    have h1 := HDL.out
    simp only [List.append_assoc]
    rw [List.take_append_of_le_length (by rw [List.length_take, List.length_append]; omega), List.take_take, Nat.min_self, ← h1, List.take_left]
  · rw [HWW.out]
    have hc1 : Chg (fun j => j = g) w w.drew := (Chg.refl _ _).drew
    exact (hc1.trans ((chg_setRow w.drew g _).mono fun j _ e => Or.inr e)).trans ((chg_setRow _ g _).mono fun j _ e => Or.inr e)
end Go.Proofs.YtghongdbohjaaaaGreatDoor
/-
  Package blocks: shrink, resize, add.
-/
namespace Go.Proofs.YtghongdbohjaaaaGreatDoor
set_option linter.unusedVariables false
set_option linter.unusedSimpArgs false
open Go.RowKit

theorem set_same {cs : Array Value} {i : Nat} {x : Value} (h : cs[i]? = some x) : cs.setIfInBounds i x = cs := by
  obtain ⟨hi, hx⟩ := Array.getElem?_eq_some_iff.1 h
  apply Array.ext
  · simp
  · intro j h1 h2
    rw [Array.getElem_setIfInBounds]
    split
    · next e => subst e; exact hx.symm
    · rfl
theorem set_get {cs : Array Value} {i : Nat} {x y : Value} (h : cs[i]? = some x) : (cs.setIfInBounds i y)[i]? = some y := by
  have := (Array.getElem?_eq_some_iff.1 h).1
  simp [this]
theorem set_ne {cs : Array Value} {i j : Nat} {y : Value} (h : i ≠ j) : (cs.setIfInBounds i y)[j]? = cs[j]? := by simp [Array.getElem?_setIfInBounds, h]

theorem set_set {cs : Array Value} {i : Nat} {x y : Value} : (cs.setIfInBounds i x).setIfInBounds i y = cs.setIfInBounds i y := by
  apply Array.ext
  · simp
  · intro j h1 h2
    simp [Array.getElem_setIfInBounds]
theorem TbB.set0 {w : World} {b : Nat} {cs : Array Value} {tP : TypeId} {lim sz : Nat} {tv : Value} (h : TbB w b cs tP lim sz tv) (x : Nat) : TbB (w.setCell ⟨b, 0, none⟩ (.int .i64 (x : Int))) b (cs.setIfInBounds 0 (.int .i64 (x : Int))) tP x sz tv :=
  ⟨block_setCell h.blk, set_get h.c0, by rw [set_ne (by decide)]; exact h.c1, by rw [set_ne (by decide)]; exact h.c2, h.ne⟩
theorem TbB.set1 {w : World} {b : Nat} {cs : Array Value} {tP : TypeId} {lim sz : Nat} {tv : Value} (h : TbB w b cs tP lim sz tv) (x : Nat) : TbB (w.setCell ⟨b, 1, none⟩ (.int .i64 (x : Int))) b (cs.setIfInBounds 1 (.int .i64 (x : Int))) tP lim x tv :=
  ⟨block_setCell h.blk, by rw [set_ne (by decide)]; exact h.c0, set_get h.c1, by rw [set_ne (by decide)]; exact h.c2, h.ne⟩
theorem TbB.set2 {w : World} {b : Nat} {cs : Array Value} {tP : TypeId} {lim sz : Nat} {tv : Value} (h : TbB w b cs tP lim sz tv) (x : Value) : TbB (w.setCell ⟨b, 2, none⟩ x) b (cs.setIfInBounds 2 x) tP lim sz x :=
  ⟨block_setCell h.blk, by rw [set_ne (by decide)]; exact h.c0, by rw [set_ne (by decide)]; exact h.c1, set_get h.c2, h.ne⟩

theorem goneN_next {l : List HP} {k : Nat} {most : Int} (h : k < l.length) (hm : most < (szT (l.drop k) : Int)) : goneN (l.drop k) most = goneN (l.drop (k + 1)) most + 1 := by
  rw [List.drop_eq_getElem_cons h] at hm ⊢
  simp only [goneN]
  rw [if_pos hm]
theorem goneN_stop {l : List HP} {most : Int} (hm : (szT l : Int) ≤ most ∨ l = []) : goneN l most = 0 := by
  rcases hm with h | h
  · exact goneN_fits h
  · rw [h]; rfl
theorem szT_drop {l : List HP} {k : Nat} (h : k < l.length) : szT (l.drop k) = tk l[k] + szT (l.drop (k + 1)) := by rw [List.drop_eq_getElem_cons h, szT_cons]

/-- What a call on a table may change. -/
def TouchT (b : Nat) (tv : Value) (j : Nat) : Prop := j = b ∨ tv.ownBlock = some j

set_option maxRecDepth 100000 in
set_option maxHeartbeats 1600000 in
theorem delete_none (s : Option Addr) (n cap : Nat) (w : World) (hn : n ≤ cap) (hcm : cap ≤ 9223372036854775807) :
    Calls Tryz.prog 285 #[.slice s n cap, .int .i64 0, .int .i64 0] w fun e w' => e = .returned (.slice s n cap) ∧ w' = w := by
  go_enter Tryz.func285, Tryz.ntmps285
  go_wp2
  go_ret
  exact ⟨rfl, rfl⟩

/-- The end of shrink. -/
structure Shr (w w' : World) (b : Nat) (cs cs' : Array Value) (tP : TypeId) (lim : Nat) (tv tv' : Value) (tab' : List HP) : Prop where
  tb : TbB w' b cs' tP lim (szT tab') tv'
  row : w'.ownsRow 0 62 2 tv' tab'.length (hpCells tab')
  cs3 : ∀ i, 3 ≤ i → cs'[i]? = cs[i]?
  chg : Chg (TouchT b tv) w w'
  own : ∀ j, tv'.ownBlock = some j → tv.ownBlock = some j ∨ w.heap.size ≤ j

set_option maxRecDepth 100000 in
set_option maxHeartbeats 3200000 in
theorem shrink_any (b : Nat) (cs : Array Value) (tP : TypeId) (lim : Nat) (tv : Value) (tab : List HP) (most : Int) (w : World) (ht : TbB w b cs tP lim (szT tab) tv) (hrow : w.ownsRow 0 62 2 tv tab.length (hpCells tab)) (hsz : szT tab ≤ 256) (hm0 : -1099511627776 ≤ most) (hm1 : most ≤ 1099511627776) :
    Calls Tryz.prog 211 #[.pointer (some ⟨b, 0, none⟩), .int .i64 most] w fun e w' => e = .returned (.tuple #[]) ∧ ∃ cs' tv', Shr w w' b cs cs' tP lim tv tv' (shr tab most) := by
  have hfew : tab.length ≤ 32 := by have := szT_len tab; omega
  obtain ⟨sv, cv, hsv⟩ := slice_len hrow
  subst hsv
  have hcv : tab.length ≤ cv ∧ cv ≤ maxLen := by
    rcases hrow.2 with ⟨h1, h2⟩ | ⟨g, cap, cur, h1, _, _, h2, h3, _⟩
    · simp only [Value.slice.injEq] at h1
      exact ⟨by omega, by rw [h1.2.2]; exact Nat.zero_le _⟩
    · simp only [Value.slice.injEq] at h1
      obtain ⟨_, _, rfl⟩ := h1
      exact ⟨h2, h3⟩
  have hT0 : TbB w b (cs.setIfInBounds 1 (.int .i64 (szT (tab.drop 0) : Int))) tP lim (szT (tab.drop 0)) (.slice sv tab.length cv) := by
    rw [List.drop_zero, set_same ht.c1]; exact ht
  have HT0 := hide hT0
  have HR := hide hrow
  have HT := hide ht
  have hblt := ht.lt
  clear ht hrow hT0
  go_enter Tryz.func211, Tryz.ntmps211
  go_wp2
  go_loopw [4] (fun i wr => ∃ k : Nat, i = .int .i64 (k : Int) ∧ k ≤ tab.length ∧ TbB wr b (cs.setIfInBounds 1 (.int .i64 (szT (tab.drop k) : Int))) tP lim (szT (tab.drop k)) (.slice sv tab.length cv) ∧ Chg (fun j => j = b) w wr ∧ goneN tab most = k + goneN (tab.drop k) most) (fun i _ => tab.length - (intOf i).toNat)
  case atStart => exact ⟨0, rfl, Nat.zero_le _, HT0.out, Chg.refl _ _, by simp⟩
  case round =>
    obtain ⟨k, rfl, hk, htb, hch, hgn⟩ := hrel
    obtain ⟨z0, z1, z2⟩ := htb.cells
    have y1 := htb.free 1
    have y2 := htb.free 2
    have hszk : szT (tab.drop k) ≤ 256 := by
      have h2 := congrArg szT (List.take_append_drop k tab)
      rw [szT_append] at h2
      omega
    by_cases hgo : most < (szT (tab.drop k) : Int) ∧ k < tab.length
    · obtain ⟨hgo1, hgo2⟩ := hgo
      have hnx := goneN_next hgo2 hgo1
      have hsd := szT_drop hgo2
      have hrw := owns_chg HR.out hch (fun j hj e => by subst e; exact owns_ne HR.out HT.out.blk (fun e => HT.out.ne e.symm) hj)
      obtain ⟨g, hg, hcl⟩ := slice_some hrw (by omega)
      subst hg
      obtain ⟨e0, e1⟩ := hpCells_get hgo2
      have d0 : wr.cell? ⟨g, k * 2, none⟩ = some (.string tab[k].n) := by rw [hrw.cellAt _ (by have := hpCells_length tab; omega)]; exact e0
      have d1 : wr.cell? ⟨g, k * 2 + 1, none⟩ = some (.string tab[k].v) := by rw [hrw.cellAt _ (by have := hpCells_length tab; omega)]; exact e1
      have hglt : g < wr.heap.size := owns_lt hrw rfl
      have hxs : tk tab[k] ≤ 256 := by omega
      generalize tab[k] = x at d0 d1 hsd hxs
      obtain ⟨n, v⟩ := x
      simp only at d0 d1
      have htk : tk ⟨n, v⟩ = n.size + v.size + 8 := rfl
      have HRM := hide (fun wx => room_any ⟨n, v⟩ wx (show n.size ≤ _ by omega) (show v.size ≤ _ by omega))
      generalize tk ⟨n, v⟩ = t at HRM hsd hxs htk
      simp only at HRM
      have HTB := hide htb
      have HCH := hide hch
      have HGN : Hid (goneN tab most = k + 1 + goneN (tab.drop (k + 1)) most) := by show _ = _; rw [hgn, hnx]; omega
      obtain ⟨S1, hS1⟩ : ∃ S1, S1 = szT (tab.drop (k + 1)) := ⟨_, rfl⟩
      rw [← hS1] at hsd
      have HS1 := hide hS1
      clear hS1
      generalize szT (tab.drop k) = S0 at hsd hgo1 hszk z1 HTB ⊢
      have hwr : IntKind.i64.wrap ((S0 : Int) - (t : Int)) = (S1 : Int) := by
        have e : (S0 : Int) - (t : Int) = (S1 : Int) := by omega
        rw [e]
        exact wrap_nat S1 (by omega)
      have HSD := hide hsd
      clear htb hch hgn hnx e0 e1 hrw hsd htk
      go_wp2
      go_region_law (refine step_call rfl 213 Tryz.f213 Tryz.func213 (by kernel_rfl) rfl [.tmp 30] #[62] rfl [.agg #[.string n, .string v]] (by simp [Act.eval, Act.put]) (HRM.out wr.drew) ?_; rintro e w1 ⟨rfl, hb1⟩; refine ⟨_, rfl, ?_⟩; have htb1 : TbB w1 b (cs.setIfInBounds 1 (.int .i64 (S0 : Int))) tP lim S0 (.slice (some ⟨g, 0, none⟩) tab.length cv) := (HTB.out.chg (w' := wr.drew) ((Chg.refl (fun _ => False) wr).drew) id).chg (Chg.of_below (S := fun _ => False) hb1) id; obtain ⟨p0, p1, p2⟩ := htb1.cells; have f1 := htb1.free 1; have HTB1 := hide htb1; have HB1 : Hid (Chg (fun j => j = b) w w1) := HCH.out.drew.then_below hb1; clear htb1 hb1)
      all_goals go_wp2
      all_goals refine ⟨⟨k + 1, by go_num, by omega, ?_, HB1.out.setCell (p := ⟨b, 1, none⟩) (Or.inr rfl) _, HGN.out⟩, by simp [intOf]; omega⟩
      all_goals (have h9 := HTB1.out.set1 S1; rw [set_set, HS1.out] at h9; rw [HS1.out]; exact h9)
    · have hk0 : shr tab most = tab.drop k := by
        have hz : goneN (tab.drop k) most = 0 := by
          apply goneN_stop
          by_cases h1 : most < (szT (tab.drop k) : Int)
          · right
            exact List.drop_of_length_le (by omega)
          · left; omega
        unfold shr
        rw [hgn, hz]
        rfl
      have hrw := owns_chg HR.out hch (fun j hj e => by subst e; exact owns_ne HR.out HT.out.blk (fun e => HT.out.ne e.symm) hj)
      have HTB := hide htb
      have HCH := hide hch
      have HRW := hide hrw
      have HK0 := hide hk0
      have HCV := hide hcv
      have HCS : Hid (∀ (y : Value) i, 3 ≤ i → ((cs.setIfInBounds 1 (.int .i64 (szT (tab.drop k) : Int))).setIfInBounds 2 y)[i]? = cs[i]?) := by
        intro y i hi
        rw [set_ne (by omega), set_ne (by omega)]
      clear htb hch hrw hk0 hgn hcv
      rcases Nat.eq_zero_or_pos k with hkz | hkp
      · subst hkz
        have HDN := hide (fun wx => delete_none sv tab.length cv wx HCV.out.1 (by have := HCV.out.2; unfold maxLen at this; omega))
        by_cases h1 : most < (szT (tab.drop 0) : Int)
        all_goals go_wp2_with fail
        all_goals refine (HDN.out _).mono ?_
        all_goals rintro e w1 ⟨rfl, hw1⟩
        all_goals rw [hw1]
        all_goals clear hw1 w1
        all_goals go_wp2
        all_goals refine bodyPost_end (results_none rfl _ _ _) rfl ⟨rfl, (cs.setIfInBounds 1 (.int .i64 (szT (tab.drop 0) : Int))).setIfInBounds 2 (.slice sv tab.length cv), .slice sv tab.length cv, ?_⟩
        all_goals rw [HK0.out]
        all_goals refine ⟨HTB.out.set2 _, ?_, HCS.out _, (HCH.out.mono fun j _ e => Or.inl e).setCell (p := ⟨b, 2, none⟩) (Or.inr (Or.inl rfl)) _, fun j hj => Or.inl hj⟩
        all_goals rw [List.drop_zero]
        all_goals exact owns_chg HRW.out ((Chg.refl (fun j => j = b) wr).setCell (p := ⟨b, 2, none⟩) (Or.inr rfl) _) (fun j hj e => by subst e; exact owns_ne HRW.out HTB.out.blk (fun e => HTB.out.ne e.symm) hj)
      · rcases HRW.out.2 with ⟨h0, h0'⟩ | ⟨g, cap, cur, h0, _, hg, hnc, hcm, hcs, htk⟩
        · omega
        · simp only [Value.slice.injEq] at h0
          obtain ⟨hsv, _, hcap⟩ := h0
          subst hsv hcap
          have HDA := hide (delete_any g tab.length cv k cur tab wr hg hcs hnc (by have := HCV.out.2; unfold maxLen at this; exact this) hkp hk rfl htk)
          have hgb : g ≠ b := by
            rintro rfl
            exact owns_ne HRW.out HTB.out.blk (fun e => HTB.out.ne e.symm) rfl
          have HGB := hide hgb
          have HCM := hide hcm
          clear hg hcs htk hgb hnc hcm
          by_cases h1 : most < (szT (tab.drop k) : Int)
          all_goals go_wp2_with fail
          all_goals refine HDA.out.mono ?_
          all_goals rintro e w1 ⟨cur', rfl, hg1, hs1, ht1, hc1⟩
          all_goals have htb1 := HTB.out.chg hc1 (fun e => HGB.out e.symm)
          all_goals obtain ⟨-, -, p2⟩ := htb1.cells
          all_goals have f2 := htb1.free 2
          all_goals have HTB1 := hide htb1
          all_goals have HG1 := hide hg1
          all_goals have HS1 := hide hs1
          all_goals have HT1 := hide ht1
          all_goals have HC1 := hide hc1
          all_goals clear htb1 hg1 hs1 ht1 hc1
          all_goals go_wp2
          all_goals refine bodyPost_end (results_none rfl _ _ _) rfl ⟨rfl, (cs.setIfInBounds 1 (.int .i64 (szT (tab.drop k) : Int))).setIfInBounds 2 (.slice (some ⟨g, 0, none⟩) (tab.length - k) cv), .slice (some ⟨g, 0, none⟩) (tab.length - k) cv, ?_⟩
          all_goals rw [HK0.out]
          all_goals refine ⟨HTB1.out.set2 _, ?_, HCS.out _, ((HCH.out.mono fun j _ e => Or.inl e).trans (HC1.out.mono fun j _ e => Or.inr (Or.inr (by rw [e]; rfl)))).setCell (p := ⟨b, 2, none⟩) (Or.inr (Or.inl rfl)) _, fun j hj => Or.inl hj⟩
          all_goals rw [List.length_drop]
          all_goals refine ⟨by rw [hpCells_length, List.length_drop], Or.inr ⟨g, cv, cur', rfl, Nat.zero_le _, ?_, by have := HCV.out.1; omega, HCM.out, HS1.out, HT1.out⟩⟩
          all_goals rw [((Chg.refl (fun j => j = b) w1).setCell (p := ⟨b, 2, none⟩) (Or.inr rfl) _).block g (lt_of_block HG1.out) HGB.out]
          all_goals exact HG1.out
end Go.Proofs.YtghongdbohjaaaaGreatDoor
/-
  Package blocks: resize, add.
-/
namespace Go.Proofs.YtghongdbohjaaaaGreatDoor
set_option linter.unusedVariables false
set_option linter.unusedSimpArgs false
open Go.RowKit

/-- A table behind a call on it. -/
structure TbTo (w w' : World) (b : Nat) (cs cs' : Array Value) (tP : TypeId) (lim : Nat) (tv tv' : Value) (tab' : List HP) : Prop where
  st : TbS w' b cs' tP lim tv' tab'
  cs3 : ∀ i, 3 ≤ i → cs'[i]? = cs[i]?
  chg : Chg (TouchT b tv) w w'
  own : ∀ j, tv'.ownBlock = some j → tv.ownBlock = some j ∨ w.heap.size ≤ j

set_option maxRecDepth 100000 in
set_option maxHeartbeats 1600000 in
theorem tresize_any (b : Nat) (cs : Array Value) (tP : TypeId) (lim : Nat) (tv : Value) (tab : List HP) (n : Nat) (w : World) (ht : TbS w b cs tP lim tv tab) (hn : n ≤ 256) :
    Calls Tryz.prog 139 #[.pointer (some ⟨b, 0, none⟩), .int .i64 n] w fun e w' => e = .returned (.tuple #[]) ∧ ∃ cs' tv', TbTo w w' b cs cs' tP n tv tv' (shr tab n) := by
  have hsz : szT tab ≤ 256 := Nat.le_trans ht.fit ht.small
  have hc1 : Chg (fun j => j = b) w (w.setCell ⟨b, 0, none⟩ (.int .i64 (n : Int))) := (Chg.refl (fun j => j = b) w).setCell (p := ⟨b, 0, none⟩) (Or.inr rfl) _
  have hro := owns_chg ht.row hc1 (fun j hj e => by subst e; exact owns_ne ht.row ht.tb.blk (fun e => ht.tb.ne e.symm) hj)
  have hsh := shrink_any b (cs.setIfInBounds 0 (.int .i64 (n : Int))) tP n tv tab (n : Int) _ (ht.tb.set0 n) hro hsz (by omega) (by omega)
  obtain ⟨z0, z1, z2⟩ := ht.tb.cells
  have y0 := ht.tb.free 0
  have HSH := hide hsh
  have HC1 := hide hc1
  clear hsh hc1 hro z1 z2
  go_enter Tryz.func139, Tryz.ntmps139
  go_wp2_with fail
  refine HSH.out.mono ?_
  rintro e w1 ⟨rfl, cs', tv', h1⟩
  have H1 := hide h1
  clear h1
  go_wp2
  refine bodyPost_end (results_none rfl _ _ _) rfl ⟨rfl, cs', tv', ⟨H1.out.tb, H1.out.row, ?_, hn⟩, fun i hi => ?_, (HC1.out.mono fun j _ e => Or.inl e).trans (H1.out.chg.mono fun j _ e => Or.inr e), fun j hj => ?_⟩
  · have := shr_size tab (n : Int) (by omega)
    omega
  · rw [H1.out.cs3 i hi, set_ne (by omega)]
  · rcases H1.out.own j hj with e | e
    · exact Or.inl e
    · exact Or.inr (Nat.le_trans HC1.out.size e)

theorem hp_one (h : HP) : ∀ u ∈ hpCells [h], u.oneCell' = true := by
  intro u hu
  simp [hpCells] at hu
  rcases hu with rfl | rfl <;> rfl
theorem lies_pair (w : World) (h : HP) : Lies (w.alloc (.cells #[.string h.n, .string h.v] 62)) (.slice (some ⟨w.heap.size, 0, none⟩) 1 1) 1 (hpCells [h]) := by
  refine Or.inr ⟨_, _, rfl, fun j u hu => ?_⟩
  have hh := heap_alloc_new w (.cells #[.string h.n, .string h.v] 62)
  have e : (⟨w.heap.size, 0, none⟩ : Addr).add j = ⟨w.heap.size, j, none⟩ := by unfold Addr.add; split <;> simp_all
  rw [e, cell_of_row _ _ _ _ _ _ hh, ← hu]
  simp [hpCells]
/-- A pair is laid behind the others. -/
theorem add_end {w wa w1 w2 : World} {b : Nat} {cs cs1 : Array Value} {tP : TypeId} {lim : Nat} {tv tv1 tv2 : Value} {tab : List HP} {h : HP} {o : Obj} (hb : Below w.heap.size w wa) (h1 : Shr wa w1 b cs cs1 tP lim tv tv1 tab) (hf : szT tab + tk h ≤ lim) (hl : lim ≤ 256)
    (hown : w2.ownsRow 0 62 2 tv2 (tab.length + 1) (hpCells tab ++ hpCells [h])) (hg : (w1.alloc o).drew.grownBy w2 tv1.ownBlock) (hfr : tv2.ownBlock = tv1.ownBlock ∨ tv2.ownBlock = some (w1.heap.size + 1)) :
    TbB w2 b cs1 tP lim (szT tab) tv1 ∧ TbTo w ((w2.setCell ⟨b, 2, none⟩ tv2).setCell ⟨b, 1, none⟩ (.int .i64 (szT (tab ++ [h]) : Int))) b cs ((cs1.setIfInBounds 2 tv2).setIfInBounds 1 (.int .i64 (szT (tab ++ [h]) : Int))) tP lim tv tv2 (tab ++ [h]) := by
  have hne : tv1.ownBlock ≠ some b := owns_ne h1.row h1.tb.blk (fun e => h1.tb.ne e.symm)
  have hc : Chg (fun j => tv1.ownBlock = some j) w1 w2 := (((Chg.refl _ _).alloc o).drew).trans (Chg.of_grown hg (fun j hj => Or.inr hj))
  have hb2 := h1.tb.chg hc hne
  have hne2 : tv2.ownBlock ≠ some b := owns_ne hown hb2.blk (fun e => hb2.ne e.symm)
  have hc2 : Chg (fun j => j = b) w2 ((w2.setCell ⟨b, 2, none⟩ tv2).setCell ⟨b, 1, none⟩ (.int .i64 (szT (tab ++ [h]) : Int))) := ((Chg.refl (fun j => j = b) w2).setCell (p := ⟨b, 2, none⟩) (Or.inr rfl) _).setCell (p := ⟨b, 1, none⟩) (Or.inr rfl) _
  have hsz : szT (tab ++ [h]) = szT tab + tk h := by rw [szT_append, szT_cons]; simp [szT]
  have hs1 := h1.chg.size
  have hs0 := hb.size
  refine ⟨hb2, ⟨⟨(hb2.set2 tv2).set1 _, ?_, by omega, hl⟩, fun i hi => ?_, ?_, fun j hj => ?_⟩⟩
  · rw [List.length_append, hpCells_append]
    exact owns_chg hown hc2 (fun j hj e => by subst e; exact hne2 hj)
  · rw [set_ne (by omega), set_ne (by omega)]
    exact h1.cs3 i hi
  · refine (((Chg.of_below hb).trans (h1.chg.mono fun j _ e => Or.inr e)).trans (hc.mono fun j _ e => ?_)).trans (hc2.mono fun j _ e => Or.inr (Or.inl e))
    rcases h1.own j e with a | a
    · exact Or.inr (Or.inr a)
    · exact Or.inl (Nat.le_trans hs0 a)
  · have : tv1.ownBlock = some j ∨ w1.heap.size ≤ j := by
      rcases hfr with e | e
      · rw [e] at hj; exact Or.inl hj
      · rw [e] at hj; simp at hj; exact Or.inr (by omega)
    rcases this with e | e
    · rcases h1.own j e with a | a
      · exact Or.inl a
      · exact Or.inr (Nat.le_trans hs0 a)
    · exact Or.inr (by omega)

set_option maxRecDepth 100000 in
set_option maxHeartbeats 800000 in
theorem add_any (b : Nat) (cs : Array Value) (tP : TypeId) (lim : Nat) (tv : Value) (tab : List HP) (h : HP) (w : World) (ht : TbS w b cs tP lim tv tab) (hn : h.n.size ≤ 268435456) (hv : h.v.size ≤ 268435456) :
    Calls Tryz.prog 215 #[.pointer (some ⟨b, 0, none⟩), .agg #[.string h.n, .string h.v]] w fun e w' => e = .returned (.tuple #[]) ∧ ∃ cs' tv', TbTo w w' b cs cs' tP lim tv tv' (addT tab lim h) := by
  obtain ⟨i0, hi, hz0, hz1, hz2⟩ := info_parts Tryz.info62
  have hsz : szT tab ≤ 256 := Nat.le_trans ht.fit ht.small
  have hlim := ht.small
  have hfit := ht.fit
  have htk : tk h = h.n.size + h.v.size + 8 := rfl
  have hbx := (Below.refl w.heap.size w).alloc (Nat.le_refl _) (.cells #[.string h.n, .string h.v] 62)
  have hh := heap_alloc_new w (.cells #[.string h.n, .string h.v] 62)
  have HRM := hide (fun wx => room_any h wx (by omega) (by omega))
  have hlp := fun wx => lies_pair wx h
  have hon := hp_one h
  have hadd : addT tab lim h = if tk h ≤ lim then shr tab ((lim : Int) - tk h) ++ [h] else shr tab ((lim : Int) - tk h) := rfl
  have hall : lim < tk h → shr tab ((lim : Int) - tk h) = [] := fun e => by unfold shr; rw [goneN_all _ _ (by omega)]; simp
  have hszs : tk h ≤ lim → szT (shr tab ((lim : Int) - tk h)) + tk h ≤ lim := fun e => by have := shr_size tab ((lim : Int) - tk h) (by omega); omega
  have HADD := hide hadd
  have HALL := hide hall
  have HSZS := hide hszs
  have HT := hide ht
  have HBX := hide hbx
  have HHB := hide hh
  have HLP := hide hlp
  have HON := hide hon
  have htb : tk h ≤ 536870920 := by omega
  clear htk
  generalize hte : tk h = t at HRM htb HADD HALL HSZS
  have HTE := hide hte
  clear hte
  clear ht hbx hh hadd hall hszs hlp hon
  go_enter Tryz.func215, Tryz.ntmps215
  go_wp2_with fail
  refine (HRM.out _).mono ?_
  rintro e w1 ⟨rfl, hb1⟩
  have hbel : Below w.heap.size w w1 := HBX.out.trans (hb1.mono HBX.out.size)
  have hbox : w1.heap[w.heap.size]? = some (.cells #[.string h.n, .string h.v] 62 (0, 0)) := by rw [hb1.block _ (lt_of_block HHB.out)]; exact HHB.out
  have ht1 := HT.out.below hbel
  obtain ⟨z0, z1, z2⟩ := ht1.tb.cells
  have hbl : b ≠ w.heap.size := by have := HT.out.tb.lt; omega
  have hsh := shrink_any b cs tP lim tv tab ((lim : Int) - (t : Int)) w1 ht1.tb ht1.row hsz (by omega) (by omega)
  have hvb : tv.ownBlock ≠ some w.heap.size := fun e => by have := owns_lt HT.out.row e; omega
  have HSH := hide hsh
  have HB1 := hide hbel
  have HBOX := hide hbox
  have HVB := hide hvb
  clear hsh hbel hbox hb1 ht1 hvb z1 z2
  go_wp2_with fail
  refine HSH.out.mono ?_
  rintro e w2 ⟨rfl, cs1, tv1, h2⟩
  have hbox2 : w2.heap[w.heap.size]? = some (.cells #[.string h.n, .string h.v] 62 (0, 0)) := by
    rw [h2.chg.block _ (lt_of_block HBOX.out) (by rintro (e | e); exact hbl e.symm; exact HVB.out e)]; exact HBOX.out
  obtain ⟨z0, z1, z2⟩ := h2.tb.cells
  have y1 := h2.tb.free 1
  have y2 := h2.tb.free 2
  have q0 : w2.cell? ⟨w.heap.size, 0, none⟩ = some (.string h.n) := by rw [cell_of_row _ _ _ _ _ _ hbox2]; rfl
  have q1 : w2.cell? ⟨w.heap.size, 1, none⟩ = some (.string h.v) := by rw [cell_of_row _ _ _ _ _ _ hbox2]; rfl
  have H2 := hide h2
  clear h2 hbox2
  by_cases hle : t ≤ lim
  · have hsum := HSZS.out hle
    obtain ⟨tab1, htab1⟩ : ∃ tab1, tab1 = shr tab ((lim : Int) - (t : Int)) := ⟨_, rfl⟩
    rw [← htab1] at hsum H2 z1
    have HTAB := hide htab1
    clear htab1
    have hlen1 : tab1.length ≤ 32 := by have := szT_len tab1; omega
    obtain ⟨s1, c1, hs1⟩ := slice_len H2.out.row
    subst hs1
    have HOWN : Hid ((w2.alloc (.cells #[.string h.n, .string h.v] 62)).drew.ownsRow 0 62 2 (.slice s1 tab1.length c1) tab1.length (hpCells tab1)) := H2.out.row.alloc _
    have HLI : Hid (Lies (w2.alloc (.cells #[.string h.n, .string h.v] 62)).drew (.slice (some ⟨w2.heap.size, 0, none⟩) 1 1) 1 (hpCells [h])) := HLP.out w2
    have z2a : (w2.alloc (.cells #[.string h.n, .string h.v] 62)).cell? ⟨b, 2, none⟩ = some (.slice s1 tab1.length c1) := (H2.out.tb.chg ((Chg.refl (fun _ => False) w2).alloc _) id).cells.2.2
    have HN1 : Hid (tab1.length + 1 ≤ maxLen) := by show _ ≤ _; unfold maxLen; omega
    have HN2 : Hid ((tab1.length + 1) * 32 ≤ 140737488355328) := by show _ ≤ _; omega
    have HSS : Hid (szT (tab1 ++ [h]) = szT tab1 + t) := by show _ = _; rw [szT_append, szT_cons, HTE.out]; simp [szT]
    have HSF : Hid (szT tab1 + tk h ≤ lim) := by show _ ≤ _; rw [HTE.out]; exact hsum
    go_wp2
    go_region_law (refine step_app rfl (.tmp 25) (.tmp 27) 57 rfl 62 i0 (.agg #[.string ⟨#[]⟩, .string ⟨#[]⟩]) 2 32 Tryz.underlying57 hi hz0 hz1 hz2 rfl (by decide) (.slice s1 tab1.length c1) tab1.length (hpCells tab1) (by simp [Act.eval]) HOWN.out (.slice (some ⟨w2.heap.size, 0, none⟩) 1 1) 1 (hpCells [h]) (by simp [Act.eval]) rfl HLI.out HON.out HN1.out HN2.out ?_; intro tv2 w3 hown3 hg3 hf3; obtain ⟨s3, c3, hs3⟩ := slice_len hown3; subst hs3; obtain ⟨p1, p2⟩ := add_end HB1.out H2.out HSF.out hlim hown3 hg3 (by simpa using hf3); obtain ⟨x0, x1, x2⟩ := p1.cells; have u1 := p1.free 1; have u2 := p1.free 2; have HP2 := hide p2; clear hown3 hg3 hf3 p1 p2)
    all_goals go_wp2
    all_goals refine bodyPost_end (results_none rfl _ _ _) rfl ⟨rfl, (cs1.setIfInBounds 2 (.slice s3 (tab1.length + 1) c3)).setIfInBounds 1 (.int .i64 (szT (tab1 ++ [h]) : Int)), .slice s3 (tab1.length + 1) c3, ?_⟩
    all_goals have ha := HADD.out
    all_goals rw [if_pos hle, ← HTAB.out] at ha
    all_goals rw [ha]
    all_goals have h9 := HP2.out
    all_goals rw [HSS.out] at h9 ⊢
    all_goals exact h9
  · have hd : decide ((t : Int) ≤ (lim : Int)) = false := by simp; omega
    go_wp2
    refine bodyPost_end (results_none rfl _ _ _) rfl ⟨rfl, cs1, tv1, ?_⟩
    have ha := HADD.out
    rw [if_neg hle] at ha
    rw [ha]
    have hal := HALL.out (by omega)
    have h3 := H2.out
    refine ⟨⟨h3.tb, h3.row, ?_, hlim⟩, h3.cs3, (Chg.of_below HB1.out).trans (h3.chg.mono fun j _ e => Or.inr e), fun j hj => ?_⟩
    · rw [hal]; exact Nat.zero_le _
    · rcases h3.own j hj with e | e
      · exact Or.inl e
      · exact Or.inr (Nat.le_trans HB1.out.size e)
end Go.Proofs.YtghongdbohjaaaaGreatDoor
/-
  strings.Clone.
-/
namespace Go.Proofs.YtghongdbohjaaaaGreatDoor
set_option linter.unusedVariables false
set_option linter.unusedSimpArgs false
open Go.RowKit

set_option maxRecDepth 100000 in
set_option maxHeartbeats 4000000 in
theorem slClone_any (s : ByteArray) (w : World) (hlim : s.size ≤ 281474976710656) :
    Calls Tryz.prog 290 #[.string s] w fun e w' => e = .returned (.string s) ∧ Below w.heap.size w w' := by
  by_cases h0 : s.size = 0
  · have hs : s = ⟨#[]⟩ := by
      apply ByteArray.ext
      exact Array.eq_empty_of_size_eq_zero h0
    subst hs
    go_enter Tryz.func290, Tryz.ntmps290
    go_wp2
    go_ret
    exact ⟨rfl, Below.refl _ _⟩
  · obtain ⟨i0, hi, hz0, hz1, hz2⟩ := info_parts Tryz.info5
    have hinfo : (Tryz.prog.info? 5).map (·.size) = some 1 := by rw [hi]; simp [hz1]
    have hco : Tryz.prog.cellsOf 5 = 1 := by simp [Program.cellsOf, hi, hz1]
    obtain ⟨M, hM⟩ : ∃ M, M = madeCells (Value.int .u8 0).cells (((s.size : Nat) : Int).toNat * i0.size) := ⟨_, rfl⟩
    have hMs : M.size = s.size := by rw [hM, size_madeCells, hz1]; simp
    have hmk : ∀ W : World, (Instr.makeSlice 54 (.int .i64 (s.size : Int)) (.int .i64 (s.size : Int))).run Tryz.prog W = .ok (.slice (some ⟨W.heap.size, 0, none⟩) s.size s.size) (W.alloc (.cells M 5)) := fun W => by
      have h := run_make (P := Tryz.prog) W 54 5 i0 (.int .u8 0) Tryz.underlying54 hi hz0 .i64 .i64 (s.size : Int) (s.size : Int) (by omega) (by omega) (by rw [hz2]; omega) (by omega)
      rw [← hM] at h
      simpa using h
    clear hM
    have hcp := Lib.run_copy_row_string (P := Tryz.prog) (w.alloc (.cells M 5)) 54 9 3 5 w.heap.size 0 s.size s.size s M 5 Tryz.underlying54 hinfo (heap_alloc_new w _) (Nat.le_refl _) (by omega)
    obtain ⟨Y, hY⟩ : ∃ Y, Y = (M.toList.take 0 ++ Lib.byteCells s.data.toList ++ M.toList.drop (0 + s.size)).toArray := ⟨_, rfl⟩
    rw [← hY] at hcp
    have hYl : Y.toList = Lib.byteCells s.data.toList := by
      rw [hY, List.toList_toArray, List.take_zero, List.nil_append, List.drop_of_length_le (by rw [Array.length_toList]; omega), List.append_nil]
    have hYs : Y.size = s.size := by rw [← Array.length_toList, hYl, Lib.byteCells_length, ← Lib.size_eq]
    have hgY : ((w.alloc (.cells M 5)).setRow w.heap.size Y).heap[w.heap.size]? = some (.cells Y 5 (0, 0)) := setRow_heap _ _ M _ 5 (0, 0) (heap_alloc_new w _)
    have hne : s.data.toList ≠ [] := fun e => h0 (by rw [Lib.size_eq, e]; rfl)
    have hUS := Lib.run_unsafeString_row (P := Tryz.prog) ((w.alloc (.cells M 5)).setRow w.heap.size Y) 443 3 9 5 Tryz.underlying443 hco w.heap.size Y.size (by unfold World.shape?; rw [hgY]) s.data.toList hne (by rw [← Lib.size_eq]; omega) (by rw [← Lib.size_eq]; omega)
      (fun j x hx => Lib.cells_of_row hgY Y.size j _ (by rw [List.take_of_length_le (by rw [Array.length_toList]; exact Nat.le_refl _), hYl]; simp [Lib.byteCells, hx]))
    rw [← Lib.size_eq] at hUS
    clear hY
    go_enter Tryz.func290, Tryz.ntmps290
    go_wp2
    go_ret
    have hb1 : Below w.heap.size w (w.alloc (.cells M 5)) := (Below.refl _ w).alloc (Nat.le_refl _) _
    have hb2 : Below w.heap.size (w.alloc (.cells M 5)) ((w.alloc (.cells M 5)).setRow w.heap.size Y) := ⟨rfl, rfl, rfl, by simp, fun k hk => setRow_other _ _ _ _ (by omega)⟩
    exact ⟨rfl, Lib.below_freeze (hb1.trans hb2) (p := ⟨w.heap.size, 0, none⟩) (Nat.le_refl _) _⟩

set_option maxRecDepth 100000 in
set_option maxHeartbeats 1600000 in
theorem clone_any (s : ByteArray) (w : World) (hlim : s.size ≤ 281474976710656) :
    Calls Tryz.prog 216 #[.string s] w fun e w' => e = .returned (.string s) ∧ Below w.heap.size w w' := by
  have H := hide (slClone_any s w hlim)
  go_enter Tryz.func216, Tryz.ntmps216
  go_wp2_with fail
  refine H.out.mono ?_
  rintro e w' ⟨rfl, hb⟩
  go_wp2
  go_ret
  exact ⟨rfl, hb⟩
end Go.Proofs.YtghongdbohjaaaaGreatDoor
/-
  Package blocks: appendTexts.
-/
namespace Go.Proofs.YtghongdbohjaaaaGreatDoor
set_option linter.unusedVariables false
set_option linter.unusedSimpArgs false
open Go.RowKit

theorem Laid.gl {w w' : World} {gv v : Value} {l : List UInt8} (h : Laid w gv w' v l) (hg : Gl w) (hgg : ∀ j, gv.ownBlock = some j → 7 ≤ j) : Gl w' := hg.chg h.chg (fun j hj e => by have := hgg j e; omega)
theorem Laid.gg {w w' : World} {gv v : Value} {l : List UInt8} (h : Laid w gv w' v l) (hg : Gl w) (hgg : ∀ j, gv.ownBlock = some j → 7 ≤ j) : ∀ j, v.ownBlock = some j → 7 ≤ j := fun j hj => by
  rcases h.fresh j hj with e | e
  · exact hgg j e
  · exact Nat.le_trans hg.lt e
theorem Laid.keep {w w' : World} {gv v : Value} {l : List UInt8} (h : Laid w gv w' v l) {q : Nat} {o : Obj} (hq : w.heap[q]? = some o) (hne : gv.ownBlock ≠ some q) : w'.heap[q]? = some o := by
  rw [h.chg.block q (Array.getElem?_eq_some_iff.1 hq).1 hne]; exact hq
theorem Laid.ne {w w' : World} {gv v : Value} {l : List UInt8} (h : Laid w gv w' v l) {q : Nat} (hq : q < w.heap.size) (hne : gv.ownBlock ≠ some q) : v.ownBlock ≠ some q := fun e => by
  rcases h.fresh q e with a | a
  · exact hne a
  · omega
theorem cnt_len (f k n : Nat) (hn : n ≤ 1048576) : (cnt f k n).length ≤ 1048580 := by
  have := tail7_len (n - (2 ^ k - 1))
  unfold cnt
  split
  · simp
  · rw [List.length_cons]; omega
theorem txt_le (t : List UInt8) (h : t.length ≤ 262144) : (txt t).length ≤ 2097152 := by
  have h1 := packB_len t
  unfold txt
  split
  · have := cnt_len 128 7 (bytesB (packB t)).length (by omega)
    rw [List.length_append]; omega
  · have := cnt_len 0 7 t.length (by omega)
    rw [List.length_append]; omega

set_option maxRecDepth 100000 in
set_option maxHeartbeats 800000 in
theorem appendTexts_any (pb : Nat) (cs : Array Value) (tP : TypeId) (lim : Nat) (tv : Value) (tab : List HP) (f k : Nat) (h : HP) (gv : Value) (l : List UInt8) (w : World) (hgl : Gl w) (ht : TbS w pb cs tP lim tv tab) (hown : w.ownsRow 0 5 1 gv l.length (l.map B)) (hgg : ∀ j, gv.ownBlock = some j → 7 ≤ j)
    (hl : l.length ≤ 134217728) (hn : h.n.size ≤ 262144) (hv : h.v.size ≤ 262144) (hk : k = 4 ∨ k = 5 ∨ k = 6 ∨ k = 7) (hf : f + 2 ^ k ≤ 256) (hz : f % 2 ^ k = 0) :
    Calls Tryz.prog 214 #[.pointer (some ⟨pb, 0, none⟩), gv, fm f k, .agg #[.string h.n, .string h.v]] w fun e w' => ∃ v, e = .returned v ∧ Laid w gv w' v (l ++ txs tab f k h) := by
  have hfew := ht.few
  have hbel : Below w.heap.size w ((w.alloc (.cells #[.int .u8 (f : Int), .int .i64 (k : Int)] 287)).alloc (.cells #[.string h.n, .string h.v] 62)) := ((Below.refl _ _).alloc (Nat.le_refl _) _).alloc (by simp) _
  have hfr : ((w.alloc (.cells #[.int .u8 (f : Int), .int .i64 (k : Int)] 287)).alloc (.cells #[.string h.n, .string h.v] 62)).heap[w.heap.size]? = some (.cells #[.int .u8 (f : Int), .int .i64 (k : Int)] 287 (0, 0)) := by
    rw [Below.heap_alloc _ _ _ (by simp)]; exact heap_alloc_new w _
  have hhd : ((w.alloc (.cells #[.int .u8 (f : Int), .int .i64 (k : Int)] 287)).alloc (.cells #[.string h.n, .string h.v] 62)).heap[w.heap.size + 1]? = some (.cells #[.string h.n, .string h.v] 62 (0, 0)) := by
    have := heap_alloc_new (w.alloc (.cells #[.int .u8 (f : Int), .int .i64 (k : Int)] 287)) (.cells #[.string h.n, .string h.v] 62)
    simpa using this
  have hfn := findName_any pb cs tP lim tv tab h.n ((w.alloc (.cells #[.int .u8 (f : Int), .int .i64 (k : Int)] 287)).alloc (.cells #[.string h.n, .string h.v] 62)).drew ((hgl.below hbel).below ⟨rfl, rfl, rfl, Nat.le_refl _, fun _ _ => rfl⟩) ((ht.below hbel).below ⟨rfl, rfl, rfl, Nat.le_refl _, fun _ _ => rfl⟩)
  have hgvl : ∀ j, gv.ownBlock = some j → j < w.heap.size := fun j hj => owns_lt hown hj
  have htx : txs tab f k h = cnt f k (nmF (numd tab) h.n) ++ ((if nmF (numd tab) h.n = 0 then txt h.n.data.toList else []) ++ txt h.v.data.toList) := rfl
  have hnm := nmF_le (numd tab) h.n
  rw [numd_length] at hnm
  generalize nmF (numd tab) h.n = N at hfn htx hnm
  have HFN := hide hfn
  have HBEL := hide hbel
  have HFR := hide hfr
  have HHD := hide hhd
  have HGL := hide hgl
  have HOW := hide hown
  have HGG := hide hgg
  have HGV := hide hgvl
  have HTX := hide htx
  have HKF := hide (And.intro hk (And.intro hf hz))
  clear hfn hbel hfr hhd hgl ht hown hgg hgvl htx hk hf hz
  go_enter Tryz.func214, Tryz.ntmps214
  go_wp2
  go_cut [9] (fun s9 wx => s9 = .int .i64 (N : Int) ∧ Below ((w.alloc (.cells #[.int .u8 (f : Int), .int .i64 (k : Int)] 287)).alloc (.cells #[.string h.n, .string h.v] 62)).heap.size ((w.alloc (.cells #[.int .u8 (f : Int), .int .i64 (k : Int)] 287)).alloc (.cells #[.string h.n, .string h.v] 62)) wx)
  case first =>
    go_region_law (refine step_call rfl 288 Tryz.f288 Tryz.func288 (by kernel_rfl) rfl [.tmp 12, .tmp 14] #[172, 9] rfl [.pointer (some ⟨pb, 0, none⟩), .string h.n] (by simp [Act.eval, Act.put]) HFN.out ?_; rintro e w1 ⟨rfl, hb1⟩; refine ⟨_, rfl, ?_⟩; have HB1 := hide hb1; clear hb1)
    all_goals (go_wp2_with fail; go_meet; exact ⟨rfl, HB1.out.os, HB1.out.tape, HB1.out.output, HB1.out.size, HB1.out.block⟩)
  case rest =>
    obtain ⟨rfl, hb1⟩ := hcut
    have hB1 : Below w.heap.size w wc := HBEL.out.trans (hb1.mono HBEL.out.size)
    have hg1 := HGL.out.below hB1
    have ho1 := owns_chg HOW.out (Chg.of_below (S := fun _ => False) hB1) (fun _ _ => id)
    have hf1 : wc.heap[w.heap.size]? = some (.cells #[.int .u8 (f : Int), .int .i64 (k : Int)] 287 (0, 0)) := by rw [hb1.block _ (lt_of_block HFR.out)]; exact HFR.out
    have hh1 : wc.heap[w.heap.size + 1]? = some (.cells #[.string h.n, .string h.v] 62 (0, 0)) := by rw [hb1.block _ (lt_of_block HHD.out)]; exact HHD.out
    have hac := appendCount_any f k N gv l wc ho1 (by omega) HKF.out.1 HKF.out.2.1 HKF.out.2.2 (by omega)
    have q0 : wc.cell? ⟨w.heap.size, 0, none⟩ = some (.int .u8 (f : Int)) := by rw [cell_of_row _ _ _ _ _ _ hf1]; rfl
    have q1 : wc.cell? ⟨w.heap.size, 1, none⟩ = some (.int .i64 (k : Int)) := by rw [cell_of_row _ _ _ _ _ _ hf1]; rfl
    have hcl := cnt_len f k N (by omega)
    have HB1 := hide hB1
    have HG1 := hide hg1
    have HH1 := hide hh1
    have HAC := hide hac
    clear hb1 hB1 hg1 ho1 hf1 hh1 hac
    go_wp2_with fail
    refine HAC.out.mono ?_
    rintro e w2 ⟨v2, rfl, hl2⟩
    have hnb : gv.ownBlock ≠ some (w.heap.size + 1) := fun e => by have := HGV.out _ e; omega
    have hh2 := hl2.keep HH1.out hnb
    have hnb2 := hl2.ne (lt_of_block HH1.out) hnb
    have hg2 := hl2.gl HG1.out HGG.out
    have hgg2 := hl2.gg HG1.out HGG.out
    have r0 : w2.cell? ⟨w.heap.size + 1, 0, none⟩ = some (.string h.n) := by rw [cell_of_row _ _ _ _ _ _ hh2]; rfl
    have r1 : w2.cell? ⟨w.heap.size + 1, 1, none⟩ = some (.string h.v) := by rw [cell_of_row _ _ _ _ _ _ hh2]; rfl
    have hll : (l ++ cnt f k N).length ≤ 134217728 + 1048580 := by rw [List.length_append]; omega
    obtain ⟨L2, hL2⟩ : ∃ L2, L2 = l ++ cnt f k N := ⟨_, rfl⟩
    rw [← hL2] at hl2 hll
    have HL2 := hide hl2
    have HE2 := hide hL2
    have HH2 := hide hh2
    have HNB2 := hide hnb2
    have HG2 := hide hg2
    have HGG2 := hide hgg2
    clear hl2 hL2 hh2 hnb hnb2 hg2 hgg2
    by_cases hN : N = 0
    · have hN' : ((N : Int) == 0) = true := by simp [hN]
      have HHN := hide hN
      have hat := appendText_any h.n v2 L2 w2 HG2.out HL2.out.own (by omega) hn
      have htl := txt_le h.n.data.toList hn
      have HAT := hide hat
      clear hat hN
      go_wp2_with fail
      refine HAT.out.mono ?_
      rintro e w3 ⟨v3, rfl, hl3⟩
      have hh3 := hl3.keep HH2.out HNB2.out
      have s1 : w3.cell? ⟨w.heap.size + 1, 1, none⟩ = some (.string h.v) := by rw [cell_of_row _ _ _ _ _ _ hh3]; rfl
      have hll3 : (L2 ++ txt h.n.data.toList).length ≤ 134217728 + 1048580 + 2097152 := by rw [List.length_append]; omega
      have hat3 := appendText_any h.v v3 _ w3 (hl3.gl HG2.out HGG2.out) hl3.own (by omega) hv
      have hfin := Laid.below HB1.out (HL2.out.trans hl3)
      have HAT3 := hide hat3
      have HFIN := hide hfin
      clear hat3 hl3 hh3 hfin
      go_wp2_with fail
      refine HAT3.out.mono ?_
      rintro e w4 ⟨v4, rfl, hl4⟩
      have HF4 := hide (HFIN.out.trans hl4)
      clear hl4
      go_wp2
      go_ret
      refine ⟨v4, rfl, ?_⟩
      rw [HTX.out, if_pos HHN.out]
      have h9 := HF4.out
      rw [HE2.out] at h9
      simpa [List.append_assoc] using h9
    · have hN' : ((N : Int) == 0) = false := by simp; omega
      have HHN := hide hN
      have hat3 := appendText_any h.v v2 L2 w2 HG2.out HL2.out.own (by omega) hv
      have hfin := Laid.below HB1.out HL2.out
      have HAT3 := hide hat3
      have HFIN := hide hfin
      clear hat3 hfin hN
      go_wp2_with fail
      refine HAT3.out.mono ?_
      rintro e w4 ⟨v4, rfl, hl4⟩
      have HF4 := hide (HFIN.out.trans hl4)
      clear hl4
      go_wp2
      go_ret
      refine ⟨v4, rfl, ?_⟩
      rw [HTX.out, if_neg HHN.out]
      have h9 := HF4.out
      rw [HE2.out] at h9
      simpa [List.append_assoc] using h9
end Go.Proofs.YtghongdbohjaaaaGreatDoor
/-
  Package blocks: appendPair.
-/
namespace Go.Proofs.YtghongdbohjaaaaGreatDoor
set_option linter.unusedVariables false
set_option linter.unusedSimpArgs false
open Go.RowKit

/-- A packer behind a call that lays bytes down. -/
structure Pkd (w w' : World) (pb : Nat) (cs cs' : Array Value) (tP : TypeId) (lim : Nat) (tv tv' : Value) (tab' : List HP) (gv v : Value) (l' : List UInt8) : Prop where
  own : w'.ownsRow 0 5 1 v l'.length (l'.map B)
  st : TbS w' pb cs' tP lim tv' tab'
  cs3 : ∀ i, 3 ≤ i → cs'[i]? = cs[i]?
  chg : Chg (fun j => gv.ownBlock = some j ∨ TouchT pb tv j) w w'
  fresh : ∀ j, v.ownBlock = some j → gv.ownBlock = some j ∨ w.heap.size ≤ j
  tfresh : ∀ j, tv'.ownBlock = some j → tv.ownBlock = some j ∨ w.heap.size ≤ j

theorem Laid.tab {w w' : World} {gv v : Value} {l l0 : List UInt8} {pb : Nat} {cs : Array Value} {tP : TypeId} {lim : Nat} {tv : Value} {tab : List HP} (h : Laid w gv w' v l) (hown : w.ownsRow 0 5 1 gv l0.length (l0.map B)) (ht : TbS w pb cs tP lim tv tab) (htP : tP ≠ 5) : TbS w' pb cs tP lim tv tab :=
  ht.chg h.chg (fun e => owns_ne hown ht.tb.blk (fun e => htP e.symm) e) (fun j hj e => rows_ne hown ht.row (by decide) e hj)
theorem Pkd.of_laid {w w' : World} {gv v : Value} {l l0 : List UInt8} {pb : Nat} {cs : Array Value} {tP : TypeId} {lim : Nat} {tv : Value} {tab : List HP} (h : Laid w gv w' v l) (hown : w.ownsRow 0 5 1 gv l0.length (l0.map B)) (ht : TbS w pb cs tP lim tv tab) (htP : tP ≠ 5) : Pkd w w' pb cs cs tP lim tv tv tab gv v l :=
  ⟨h.own, h.tab hown ht htP, fun _ _ => rfl, h.chg.mono fun _ _ e => Or.inl e, h.fresh, fun _ hj => Or.inl hj⟩
theorem Pkd.add {w w3 w5 w6 : World} {gv v : Value} {l : List UInt8} {pb : Nat} {cs cs' : Array Value} {tP : TypeId} {lim : Nat} {tv tv' : Value} {tab tab' : List HP} (h : Pkd w w3 pb cs cs tP lim tv tv tab gv v l) (hb : Below w3.heap.size w3 w5) (h6 : TbTo w5 w6 pb cs cs' tP lim tv tv' tab') (htP : tP ≠ 5) : Pkd w w6 pb cs cs' tP lim tv tv' tab' gv v l := by
  have h35 := owns_chg h.own (Chg.of_below (S := fun _ => False) hb) (fun _ _ => id)
  have ht5 := h.st.below hb
  have hsz := h.chg.size
  refine ⟨owns_chg h35 h6.chg ?_, h6.st, h6.cs3, (h.chg.then_below hb).trans (h6.chg.mono fun j _ e => Or.inr (Or.inr e)), h.fresh, fun j hj => ?_⟩
  · rintro j hj (e | e)
    · subst e; exact owns_ne h35 ht5.tb.blk (fun e => htP e.symm) hj
    · exact rows_ne h35 ht5.row (by decide) hj e
  · rcases h6.own j hj with e | e
    · exact Or.inl e
    · exact Or.inr (Nat.le_trans hsz (Nat.le_trans hb.size e))
theorem Pkd.below {w wx w' : World} {gv v : Value} {l : List UInt8} {pb : Nat} {cs cs' : Array Value} {tP : TypeId} {lim : Nat} {tv tv' : Value} {tab' : List HP} (hb : Below w.heap.size w wx) (h : Pkd wx w' pb cs cs' tP lim tv tv' tab' gv v l) : Pkd w w' pb cs cs' tP lim tv tv' tab' gv v l :=
  ⟨h.own, h.st, h.cs3, (Chg.of_below hb).trans (h.chg.mono fun _ _ e => Or.inr e), fun j hj => (h.fresh j hj).imp_right fun e => Nat.le_trans hb.size e, fun j hj => (h.tfresh j hj).imp_right fun e => Nat.le_trans hb.size e⟩

set_option maxRecDepth 100000 in
set_option maxHeartbeats 800000 in
theorem appendPair_any (pb : Nat) (cs : Array Value) (tP : TypeId) (lim : Nat) (tv : Value) (tab : List HP) (h : HP) (gv : Value) (l : List UInt8) (w : World) (hgl : Gl w) (ht : TbS w pb cs tP lim tv tab) (htP : tP ≠ 5) (hown : w.ownsRow 0 5 1 gv l.length (l.map B)) (hgg : ∀ j, gv.ownBlock = some j → 7 ≤ j)
    (hl : l.length ≤ 134217728) (hn : h.n.size ≤ 262144) (hv : h.v.size ≤ 262144) :
    Calls Tryz.prog 140 #[.pointer (some ⟨pb, 0, none⟩), gv, .agg #[.string h.n, .string h.v]] w fun e w' => ∃ v cs' tv', e = .returned v ∧ Pkd w w' pb cs cs' tP lim tv tv' (pairK tab lim h).2 gv v (l ++ (pairK tab lim h).1) := by
  have hfew := ht.few
  have hlim := ht.small
  have hbel : Below w.heap.size w (w.alloc (.cells #[.string h.n, .string h.v] 62)) := (Below.refl _ _).alloc (Nat.le_refl _) _
  have hhd := heap_alloc_new w (.cells #[.string h.n, .string h.v] 62)
  have hdr : ∀ wx : World, Below wx.heap.size wx wx.drew := fun wx => ⟨rfl, rfl, rfl, Nat.le_refl _, fun _ _ => rfl⟩
  have hfp := findPair_any pb cs tP lim tv tab h (w.alloc (.cells #[.string h.n, .string h.v] 62)).drew ((hgl.below hbel).below (hdr _)) ((ht.below hbel).below (hdr _))
  have hgvl : ∀ j, gv.ownBlock = some j → j < w.heap.size := fun j hj => owns_lt hown hj
  have hpk : pairK tab lim h = if pnN (numd tab) h = 0 then (if lim < tk h then (txs tab 0 4 h, tab) else (txs tab 64 6 h, addT tab lim h)) else (cnt 128 7 (pnN (numd tab) h), tab) := rfl
  have hnm := pnN_le (numd tab) h
  rw [numd_length] at hnm
  generalize pnN (numd tab) h = N at hfp hpk hnm
  have htk : tk h ≤ 524296 := by show h.n.size + h.v.size + 8 ≤ _; omega
  have HRM := hide (fun wx => room_any h wx (by omega) (by omega))
  generalize hte : tk h = t at HRM hpk htk
  have HFP := hide hfp
  have HBEL := hide hbel
  have HHD := hide hhd
  have HGL := hide hgl
  have HOW := hide hown
  have HGG := hide hgg
  have HGV := hide hgvl
  have HPK := hide hpk
  have HT := hide ht
  have HTP := hide htP
  clear hfp hbel hhd hgl ht hown hgg hgvl hpk hdr hte htP
  go_enter Tryz.func140, Tryz.ntmps140
  go_wp2
  go_cut [7] (fun s7 wx => s7 = .int .i64 (N : Int) ∧ Below (w.alloc (.cells #[.string h.n, .string h.v] 62)).heap.size (w.alloc (.cells #[.string h.n, .string h.v] 62)) wx)
  case first =>
    go_region_law (refine step_call rfl 212 Tryz.f212 Tryz.func212 (by kernel_rfl) rfl [.tmp 10, .tmp 11] #[172, 62] rfl [.pointer (some ⟨pb, 0, none⟩), .agg #[.string h.n, .string h.v]] (by simp [Act.eval, Act.put]) HFP.out ?_; rintro e w1 ⟨rfl, hb1⟩; refine ⟨_, rfl, ?_⟩; have HB1 := hide hb1; clear hb1)
    all_goals (go_wp2_with fail; go_meet; exact ⟨rfl, HB1.out.os, HB1.out.tape, HB1.out.output, HB1.out.size, HB1.out.block⟩)
  case rest =>
    obtain ⟨rfl, hb1⟩ := hcut
    obtain ⟨wa, hwa⟩ : ∃ wa, wa = wc := ⟨wc, rfl⟩
    subst hwa
    have hB1 : Below w.heap.size w wa := HBEL.out.trans (hb1.mono HBEL.out.size)
    have hg1 := HGL.out.below hB1
    have ho1 := owns_chg HOW.out (Chg.of_below (S := fun _ => False) hB1) (fun _ _ => id)
    have ht1 := HT.out.below hB1
    have hh1 : wa.heap[w.heap.size]? = some (.cells #[.string h.n, .string h.v] 62 (0, 0)) := by rw [hb1.block _ (lt_of_block HHD.out)]; exact HHD.out
    obtain ⟨g0, g1⟩ := hg1.num
    have HB1 := hide hB1
    have HG1 := hide hg1
    have HH1 := hide hh1
    have HO1 := hide ho1
    have HT1 := hide ht1
    clear hb1 hB1 hg1 ho1 hh1 ht1
    by_cases hN : ¬ 0 < N
    · have hpk := HPK.out
      rw [if_pos (by omega)] at hpk
      have q0 : wa.cell? ⟨w.heap.size, 0, none⟩ = some (.string h.n) := by rw [cell_of_row _ _ _ _ _ _ HH1.out]; rfl
      have q1 : wa.cell? ⟨w.heap.size, 1, none⟩ = some (.string h.v) := by rw [cell_of_row _ _ _ _ _ _ HH1.out]; rfl
      obtain ⟨z0, z1, z2⟩ := HT1.out.tb.cells
      have HP1 := hide hpk
      clear hpk z1 z2
      go_wp2
      go_cut [20, 25, 26] (fun _ _ s26 wx => s26 = .bool (decide (lim < t)) ∧ Below wa.heap.size wa wx)
      case first =>
        have hrm := HRM.out wa.drew
        have HRM' := hide hrm
        clear hrm
        go_region_law (refine step_call rfl 213 Tryz.f213 Tryz.func213 (by kernel_rfl) rfl [.tmp 19] #[62] rfl [.agg #[.string h.n, .string h.v]] (by simp [Act.eval, Act.put]) HRM'.out ?_; rintro e w1 ⟨rfl, hb1⟩; refine ⟨_, rfl, ?_⟩; have hb1' : Below wa.heap.size wa w1 := ⟨hb1.os, hb1.tape, hb1.output, hb1.size, hb1.block⟩; have x0 : w1.cell? ⟨pb, 0, none⟩ = some (.int .i64 (lim : Int)) := (HT1.out.below hb1').tb.cells.1; have HB2 := hide hb1'; clear hb1 hb1')
        all_goals (go_wp2_with fail; go_meet; exact ⟨rfl, HB2.out⟩)
      case rest =>
        obtain ⟨rfl, hb2⟩ := hcut
        have hB2 := HB1.out.trans (hb2.mono HB1.out.size)
        have hg2 := HG1.out.below hb2
        have ho2 := owns_chg HO1.out (Chg.of_below (S := fun _ => False) hb2) (fun _ _ => id)
        have ht2 := HT1.out.below hb2
        have hh2 : wc.heap[w.heap.size]? = some (.cells #[.string h.n, .string h.v] 62 (0, 0)) := by rw [hb2.block _ (lt_of_block HH1.out)]; exact HH1.out
        obtain ⟨na0, na1⟩ := hg2.nta
        obtain ⟨ad0, ad1⟩ := hg2.add
        have q0 : wc.cell? ⟨w.heap.size, 0, none⟩ = some (.string h.n) := by rw [cell_of_row _ _ _ _ _ _ hh2]; rfl
        have q1 : wc.cell? ⟨w.heap.size, 1, none⟩ = some (.string h.v) := by rw [cell_of_row _ _ _ _ _ _ hh2]; rfl
        have HB2 := hide hB2
        have HG2 := hide hg2
        have HO2 := hide ho2
        have HT2 := hide ht2
        have HH2 := hide hh2
        clear hb2 hB2 hg2 ho2 ht2 hh2 g0 g1 z0
        by_cases hlt : lim < t
        · have hpk := HP1.out
          rw [if_pos hlt] at hpk
          have HP2 := hide hpk
          have hat := appendTexts_any pb cs tP lim tv tab 0 4 h gv l wc HG2.out HT2.out HO2.out HGG.out hl hn hv (by omega) (by decide) (by decide)
          have HAT := hide hat
          clear hpk hat
          go_wp2_with fail
          refine HAT.out.mono ?_
          rintro e w3 ⟨v3, rfl, hl3⟩
          have HF := hide (Pkd.below HB2.out (Pkd.of_laid hl3 HO2.out HT2.out HTP.out))
          clear hl3
          go_wp2
          go_ret
          refine ⟨v3, cs, tv, rfl, ?_⟩
          rw [HP2.out]
          exact HF.out
        · have hpk := HP1.out
          rw [if_neg hlt] at hpk
          have HP2 := hide hpk
          have hat := appendTexts_any pb cs tP lim tv tab 64 6 h gv l wc HG2.out HT2.out HO2.out HGG.out hl hn hv (by omega) (by decide) (by decide)
          have HAT := hide hat
          clear hpk hat
          go_wp2_with fail
          refine HAT.out.mono ?_
          rintro e w3 ⟨v3, rfl, hl3⟩
          have hnb : gv.ownBlock ≠ some w.heap.size := fun e => by have := HGV.out _ e; omega
          have hh3 := hl3.keep HH2.out hnb
          have q0 : w3.cell? ⟨w.heap.size, 0, none⟩ = some (.string h.n) := by rw [cell_of_row _ _ _ _ _ _ hh3]; rfl
          have q1 : w3.cell? ⟨w.heap.size, 1, none⟩ = some (.string h.v) := by rw [cell_of_row _ _ _ _ _ _ hh3]; rfl
          have hF := Pkd.below HB2.out (Pkd.of_laid hl3 HO2.out HT2.out HTP.out)
          have HF := hide hF
          have HH3 := hide hh3
          have hcn := clone_any h.n w3.drew (by omega)
          have HCN := hide hcn
          have HCV := hide (fun wx => clone_any h.v wx (by omega))
          have HAD := hide (fun cs tv wx ht => add_any pb cs tP lim tv tab h wx ht (by omega) (by omega))
          clear hF hl3 hh3 hcn hnb
          go_wp2
          go_region_law (first
            | (refine step_call rfl 216 Tryz.f216 Tryz.func216 (by kernel_rfl) rfl [.tmp 41] #[9] rfl [.string h.n] (by simp [Act.eval, Act.put]) HCN.out ?_; rintro e w4 ⟨rfl, hb4⟩; refine ⟨_, rfl, ?_⟩; have hb4' : Below w3.heap.size w3 w4 := ⟨hb4.os, hb4.tape, hb4.output, hb4.size, hb4.block⟩; have x1 : w4.cell? ⟨w.heap.size, 1, none⟩ = some (.string h.v) := (by rw [hb4'.cell (p := ⟨w.heap.size, 1, none⟩) (lt_of_block HH3.out)]; exact q1); have HB4 := hide hb4'; clear hb4 hb4')
            | (refine step_call rfl 216 Tryz.f216 Tryz.func216 (by kernel_rfl) rfl [.tmp 44] #[9] rfl [.string h.v] (by simp [Act.eval, Act.put]) (HCV.out w4) ?_; rintro e w5 ⟨rfl, hb5⟩; refine ⟨_, rfl, ?_⟩; have HB5 := hide (HB4.out.trans (hb5.mono HB4.out.size)); clear hb5)
            | (refine step_call rfl 215 Tryz.f215 Tryz.func215 (by kernel_rfl) rfl [.tmp 39, .tmp 46] #[172, 62] rfl [.pointer (some ⟨pb, 0, none⟩), .agg #[.string h.n, .string h.v]] (by simp [Act.eval, Act.put]) (HAD.out cs tv w5 (HF.out.st.below HB5.out)) ?_; rintro e w6 ⟨rfl, cs6, tv6, h6⟩; refine ⟨_, rfl, ?_⟩; have HF6 := hide (Pkd.add HF.out HB5.out h6 HTP.out); clear h6))
          all_goals go_wp2
          all_goals go_ret
          all_goals refine ⟨v3, cs6, tv6, rfl, ?_⟩
          all_goals rw [HP2.out]
          all_goals exact HF6.out
    · have hN' : 0 < N := by omega
      have hpk := HPK.out
      rw [if_neg (by omega)] at hpk
      have HP1 := hide hpk
      have hac := appendCount_any 128 7 N gv l wa HO1.out (by omega) (by omega) (by decide) (by decide) (by omega)
      have HAC := hide hac
      clear hpk hac hN
      go_wp2_with fail
      refine HAC.out.mono ?_
      rintro e w2 ⟨v2, rfl, hl2⟩
      have HF := hide (Pkd.below HB1.out (Pkd.of_laid hl2 HO1.out HT1.out HTP.out))
      clear hl2
      go_wp2
      go_ret
      refine ⟨v2, cs, tv, rfl, ?_⟩
      rw [HP1.out]
      exact HF.out
end Go.Proofs.YtghongdbohjaaaaGreatDoor
