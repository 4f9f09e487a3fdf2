import Derived.Test.YtpmmpbklpclnhaaDoorBkText
set_option linter.unusedVariables false
set_option linter.unusedSimpArgs false
/-
  Package blocks: tables: highest, pair.
-/
namespace Go.Proofs.YtpmmpbklpclnhaaDoor
set_option linter.unusedVariables false
set_option linter.unusedSimpArgs false
open Go.RowKit

def hpCells : List HP → List Value
  | [] => []
  | h :: r => .string h.n :: .string h.v :: hpCells r
theorem hpCells_length (l : List HP) : (hpCells l).length = l.length * 2 := by
  induction l with
  | nil => rfl
  | cons c r ih => simp [hpCells, ih]; omega
theorem hpCells_append (a b : List HP) : hpCells (a ++ b) = hpCells a ++ hpCells b := by
  induction a with
  | nil => rfl
  | cons c r ih => simp [hpCells, ih]
theorem hpCells_drop (l : List HP) (k : Nat) : hpCells (l.drop k) = (hpCells l).drop (k * 2) := by
  induction l generalizing k with
  | nil => simp [hpCells]
  | cons c r ih =>
    cases k with
    | zero => simp
    | succ k => rw [List.drop_succ_cons, ih, Nat.succ_mul]; simp [hpCells]
theorem hpCells_get {l : List HP} {k : Nat} (h : k < l.length) : (hpCells l)[k * 2]? = some (.string l[k].n) ∧ (hpCells l)[k * 2 + 1]? = some (.string l[k].v) := by
  induction l generalizing k with
  | nil => simp at h
  | cons p r ih =>
    cases k with
    | zero => simp [hpCells]
    | succ k =>
      simp only [List.length_cons] at h
      have := ih (k := k) (by omega)
      rw [Nat.succ_mul]
      simpa [hpCells, Nat.add_assoc] using this

/-- A table in the first cells of a block. -/
structure TbB (w : World) (b : Nat) (cs : Array Value) (tP : TypeId) (lim sz : Nat) (tv : Value) : Prop where
  blk : w.heap[b]? = some (.cells cs tP (0, 0))
  c0 : cs[0]? = some (.int .i64 (lim : Int))
  c1 : cs[1]? = some (.int .i64 (sz : Int))
  c2 : cs[2]? = some tv
  ne : tP ≠ 33
theorem TbB.cells {w : World} {b : Nat} {cs : Array Value} {tP : TypeId} {lim sz : Nat} {tv : Value} (h : TbB w b cs tP lim sz tv) :
    w.cell? ⟨b, 0, none⟩ = some (.int .i64 (lim : Int)) ∧ w.cell? ⟨b, 1, none⟩ = some (.int .i64 (sz : Int)) ∧ w.cell? ⟨b, 2, none⟩ = some tv := by
  refine ⟨?_, ?_, ?_⟩ <;> rw [cell_of_row w b _ _ _ _ h.blk]
  · exact h.c0
  · exact h.c1
  · exact h.c2
theorem TbB.free {w : World} {b : Nat} {cs : Array Value} {tP : TypeId} {lim sz : Nat} {tv : Value} (h : TbB w b cs tP lim sz tv) (o : Nat) : w.frozen? ⟨b, o, none⟩ = false := by
  have := h.blk
  simp [World.frozen?, this]
theorem TbB.lt {w : World} {b : Nat} {cs : Array Value} {tP : TypeId} {lim sz : Nat} {tv : Value} (h : TbB w b cs tP lim sz tv) : b < w.heap.size := lt_of_block h.blk
theorem TbB.chg {S : Nat → Prop} {w w' : World} {b : Nat} {cs : Array Value} {tP : TypeId} {lim sz : Nat} {tv : Value} (h : TbB w b cs tP lim sz tv) (hc : Chg S w w') (hs : ¬ S b) : TbB w' b cs tP lim sz tv :=
  ⟨by rw [hc.block b (lt_of_block h.blk) hs]; exact h.blk, h.c0, h.c1, h.c2, h.ne⟩

/-- A table: its pairs, the oldest first. -/
structure TbS (w : World) (b : Nat) (cs : Array Value) (tP : TypeId) (lim : Nat) (tv : Value) (tab : List HP) : Prop where
  tb : TbB w b cs tP lim (szT tab) tv
  row : w.ownsRow 0 33 2 tv tab.length (hpCells tab)
  fit : szT tab ≤ lim
  small : lim ≤ 256
theorem TbS.chg {S : Nat → Prop} {w w' : World} {b : Nat} {cs : Array Value} {tP : TypeId} {lim : Nat} {tv : Value} {tab : List HP} (h : TbS w b cs tP lim tv tab) (hc : Chg S w w') (h1 : ¬ S b) (h2 : ∀ j, tv.ownBlock = some j → ¬ S j) : TbS w' b cs tP lim tv tab :=
  ⟨h.tb.chg hc h1, owns_chg h.row hc h2, h.fit, h.small⟩
theorem TbS.below {w w' : World} {b : Nat} {cs : Array Value} {tP : TypeId} {lim : Nat} {tv : Value} {tab : List HP} (h : TbS w b cs tP lim tv tab) (hb : Below w.heap.size w w') : TbS w' b cs tP lim tv tab :=
  h.chg (Chg.of_below (S := fun _ => False) hb) id (fun _ _ => id)
theorem TbS.few {w : World} {b : Nat} {cs : Array Value} {tP : TypeId} {lim : Nat} {tv : Value} {tab : List HP} (h : TbS w b cs tP lim tv tab) : tab.length ≤ 32 := by
  have h1 := szT_len tab
  have h2 := h.fit
  have h3 := h.small
  omega
theorem szT_mem {l : List HP} {h : HP} (hm : h ∈ l) : tk h ≤ szT l := by
  induction l with
  | nil => simp at hm
  | cons x r ih =>
    rw [szT_cons]
    rcases List.mem_cons.1 hm with rfl | hm
    · omega
    · have := ih hm; omega

set_option maxRecDepth 100000 in
set_option maxHeartbeats 1600000 in
theorem highest_any (b : Nat) (s : Option Addr) (n c : Nat) (w : World) (hc : w.cell? ⟨b, 2, none⟩ = some (.slice s n c)) (hn : n ≤ 1099511627776) :
    Calls Tryd.prog 56 #[.pointer (some ⟨b, 0, none⟩)] w fun e w' => e = .returned (.int .i64 ((8 + n : Nat) : Int)) ∧ w' = w := by
  go_enter Tryd.func56, Tryd.ntmps56
  go_wp2
  go_ret
  exact ⟨by go_num, rfl⟩

theorem numd_fix {l : List HP} {n : Nat} (h1 : 1 ≤ n) (h2 : n ≤ 8) : (numd l)[n - 1]? = some (fixed8[n - 1]'(by simp [fixed8]; omega)) := by
  unfold numd
  rw [List.getElem?_append_left (by simp [fixed8]; omega), List.getElem?_eq_getElem (by simp [fixed8]; omega)]
theorem numd_tab {l : List HP} {n : Nat} (h1 : 8 < n) (h2 : n ≤ 8 + l.length) : (numd l)[n - 1]? = some (l[8 + l.length - n]'(by omega)) := by
  unfold numd
  have h8 : fixed8.length = 8 := rfl
  rw [List.getElem?_append_right (by omega), h8, List.getElem?_reverse (by omega), List.getElem?_eq_getElem (by omega)]
  congr 2
  omega

set_option maxRecDepth 100000 in
set_option maxHeartbeats 3200000 in
theorem pair_fix (b : Nat) (cs : Array Value) (tP : TypeId) (lim : Nat) (tv : Value) (tab : List HP) (n : Nat) (x : HP) (w : World) (hgl : Gl w) (ht : TbS w b cs tP lim tv tab) (h1 : 1 ≤ n) (h2 : n ≤ 8) (hx : (numd tab)[n - 1]? = some x) :
    Calls Tryd.prog 47 #[.pointer (some ⟨b, 0, none⟩), .int .i64 n] w fun e w' => e = .returned (.agg #[.string x.n, .string x.v]) ∧ Below w.heap.size w w' := by
  have hfew := ht.few
  rw [numd_fix h1 h2] at hx
  simp only [Option.some.injEq] at hx
  obtain ⟨f0, f1⟩ := hgl.fix (n - 1) (by simp [fixed8]; omega)
  rw [hx] at f0 f1
  obtain ⟨sv, cv, hsv⟩ := slice_len ht.row
  subst hsv
  obtain ⟨z0, z1, z2⟩ := ht.tb.cells
  have hbl := ht.tb.lt
  have hgx := hgl.lt
  have HH := hide (fun wx hc => highest_any b sv tab.length cv wx hc (by omega))
  have g0 : ((w.alloc (.cells #[.string ⟨#[]⟩, .string ⟨#[]⟩] 33))).cell? ⟨b, 2, none⟩ = some (.slice sv tab.length cv) := (((Chg.refl (fun _ => False) w).alloc _).cell (p := ⟨b, 2, none⟩) hbl id).trans z2
  have hf0 : (w.alloc (.cells #[.string ⟨#[]⟩, .string ⟨#[]⟩] 33)).cell? ⟨4, (n - 1) * 2, none⟩ = some (.string x.n) := by
    have e : (n - 1) * 2 = 2 * (n - 1) := by omega
    rw [e]
    exact (((Chg.refl (fun _ => False) w).alloc _).cell (p := ⟨4, 2 * (n - 1), none⟩) (show 4 < w.heap.size by omega) id).trans f0
  have hf1 : (w.alloc (.cells #[.string ⟨#[]⟩, .string ⟨#[]⟩] 33)).cell? ⟨4, (n - 1) * 2 + 1, none⟩ = some (.string x.v) := by
    have e : (n - 1) * 2 + 1 = 2 * (n - 1) + 1 := by omega
    rw [e]
    exact (((Chg.refl (fun _ => False) w).alloc _).cell (p := ⟨4, 2 * (n - 1) + 1, none⟩) (show 4 < w.heap.size by omega) id).trans f1
  clear ht hgl hx f0 f1 z0 z1 z2
  go_enter Tryd.func47, Tryd.ntmps47
  go_wp2_with fail
  refine (HH.out _ g0).mono ?_
  rintro e w1 ⟨rfl, hw1⟩
  rw [hw1]
  clear hw1 w1
  go_wp2
  refine bodyPost_ret (v := .agg #[.string x.n, .string x.v]) ?_ rfl ⟨rfl, ?_⟩
  · simp [results, Tryd.results47, go_sem]
  · exact (Below.refl w.heap.size w).alloc (Nat.le_refl _) _

theorem wrap_nat (q : Nat) (h : q ≤ 1099511627776) : IntKind.i64.wrap (q : Int) = (q : Int) := by
  simp only [IntKind.wrap, IntKind.bits, IntKind.signed]
  simp
  omega
set_option maxRecDepth 100000 in
set_option maxHeartbeats 3200000 in
theorem pair_tab (b : Nat) (cs : Array Value) (tP : TypeId) (lim : Nat) (tv : Value) (tab : List HP) (n : Nat) (x : HP) (w : World) (ht : TbS w b cs tP lim tv tab) (h1 : 8 < n) (h2 : n ≤ 8 + tab.length) (hx : (numd tab)[n - 1]? = some x) :
    Calls Tryd.prog 47 #[.pointer (some ⟨b, 0, none⟩), .int .i64 n] w fun e w' => e = .returned (.agg #[.string x.n, .string x.v]) ∧ Below w.heap.size w w' := by
  have hfew := ht.few
  rw [numd_tab h1 h2] at hx
  simp only [Option.some.injEq] at hx
  obtain ⟨e0, e1⟩ := hpCells_get (l := tab) (k := 8 + tab.length - n) (by omega)
  rw [hx] at e0 e1
  obtain ⟨sv, cv, hsv⟩ := slice_len ht.row
  subst hsv
  obtain ⟨g, hg, hcl⟩ := slice_some ht.row (by omega)
  subst hg
  have d0 : w.cell? ⟨g, (8 + tab.length - n) * 2, none⟩ = some (.string x.n) := by rw [ht.row.cellAt _ (by have := hpCells_length tab; omega)]; exact e0
  have d1 : w.cell? ⟨g, (8 + tab.length - n) * 2 + 1, none⟩ = some (.string x.v) := by rw [ht.row.cellAt _ (by have := hpCells_length tab; omega)]; exact e1
  have hgl : g < w.heap.size := owns_lt ht.row rfl
  obtain ⟨z0, z1, z2⟩ := ht.tb.cells
  have hbl := ht.tb.lt
  have HH := hide (fun wx hc => highest_any b (some ⟨g, 0, none⟩) tab.length cv wx hc (by omega))
  have g0 : ((w.alloc (.cells #[.string ⟨#[]⟩, .string ⟨#[]⟩] 33))).cell? ⟨b, 2, none⟩ = some (.slice (some ⟨g, 0, none⟩) tab.length cv) := (((Chg.refl (fun _ => False) w).alloc _).cell (p := ⟨b, 2, none⟩) hbl id).trans z2
  have hf0 : (w.alloc (.cells #[.string ⟨#[]⟩, .string ⟨#[]⟩] 33)).cell? ⟨g, (8 + tab.length - n) * 2, none⟩ = some (.string x.n) := (((Chg.refl (fun _ => False) w).alloc _).cell (p := ⟨g, (8 + tab.length - n) * 2, none⟩) hgl id).trans d0
  have hf1 : (w.alloc (.cells #[.string ⟨#[]⟩, .string ⟨#[]⟩] 33)).cell? ⟨g, (8 + tab.length - n) * 2 + 1, none⟩ = some (.string x.v) := (((Chg.refl (fun _ => False) w).alloc _).cell (p := ⟨g, (8 + tab.length - n) * 2 + 1, none⟩) hgl id).trans d1
  obtain ⟨q, hq⟩ : ∃ q, q = 8 + tab.length - n := ⟨_, rfl⟩
  rw [← hq] at hf0 hf1
  have hql : q < tab.length := by omega
  have hwr : IntKind.i64.wrap ((8 : Int) + (tab.length : Int) - (n : Int)) = (q : Int) := by
    have e : (8 : Int) + (tab.length : Int) - (n : Int) = (q : Int) := by omega
    rw [e]
    exact wrap_nat q (by omega)
  have HQ := hide hq
  clear hq
  clear ht hx e0 e1 d0 d1 z0 z1 z2
  go_enter Tryd.func47, Tryd.ntmps47
  go_wp2_with fail
  refine (HH.out _ g0).mono ?_
  rintro e w1 ⟨rfl, hw1⟩
  rw [hw1]
  clear hw1 w1
  go_wp2
  go_region_law (refine step_call rfl 56 Tryd.f56 Tryd.func56 (by kernel_rfl) rfl [.tmp 24] #[81] rfl [.pointer (some ⟨b, 0, none⟩)] (by simp [Act.eval, Act.put]) (HH.out (w.alloc (.cells #[.string ⟨#[]⟩, .string ⟨#[]⟩] 33)).drew g0) ?_; rintro e w2 ⟨rfl, rfl⟩; refine ⟨_, rfl, ?_⟩)
  all_goals go_wp2
  all_goals refine bodyPost_ret (v := .agg #[.string x.n, .string x.v]) ?_ rfl ⟨rfl, ?_⟩
  all_goals first
    | (simp [results, Tryd.results47, go_sem]; done)
    | (have hb := (Below.refl w.heap.size w).alloc (Nat.le_refl _) (.cells #[.string x.n, .string x.v] 33); exact ⟨hb.os, hb.tape, hb.output, hb.size, hb.block⟩)

theorem pair_any (b : Nat) (cs : Array Value) (tP : TypeId) (lim : Nat) (tv : Value) (tab : List HP) (n : Nat) (x : HP) (w : World) (hgl : Gl w) (ht : TbS w b cs tP lim tv tab) (h1 : 1 ≤ n) (hx : (numd tab)[n - 1]? = some x) :
    Calls Tryd.prog 47 #[.pointer (some ⟨b, 0, none⟩), .int .i64 n] w fun e w' => e = .returned (.agg #[.string x.n, .string x.v]) ∧ Below w.heap.size w w' := by
  have hn := (List.getElem?_eq_some_iff.1 hx).1
  rw [numd_length] at hn
  by_cases h : n ≤ 8
  · exact pair_fix b cs tP lim tv tab n x w hgl ht h1 h hx
  · exact pair_tab b cs tP lim tv tab n x w ht (by omega) (by omega) hx

set_option maxRecDepth 100000 in
set_option maxHeartbeats 3200000 in
theorem pair_bad (b : Nat) (cs : Array Value) (tP : TypeId) (lim : Nat) (tv : Value) (tab : List HP) (n : Nat) (w : World) (ht : TbS w b cs tP lim tv tab) (hn : n ≤ 1099511627776) (hx : n = 0 ∨ 8 + tab.length < n) :
    Calls Tryd.prog 47 #[.pointer (some ⟨b, 0, none⟩), .int .i64 n] w fun e w' => e = .panicked [{ v := .iface 25 (.int .i64 13), recovered := false }] ∧ Below w.heap.size w w' := by
  have hfew := ht.few
  obtain ⟨sv, cv, hsv⟩ := slice_len ht.row
  subst hsv
  obtain ⟨z0, z1, z2⟩ := ht.tb.cells
  have hbl := ht.tb.lt
  have HH := hide (fun wx hc => highest_any b sv tab.length cv wx hc (by omega))
  have g0 : ((w.alloc (.cells #[.string ⟨#[]⟩, .string ⟨#[]⟩] 33))).cell? ⟨b, 2, none⟩ = some (.slice sv tab.length cv) := (((Chg.refl (fun _ => False) w).alloc _).cell (p := ⟨b, 2, none⟩) hbl id).trans z2
  clear ht z0 z1 z2
  rcases hx with rfl | hx
  · go_enter Tryd.func47, Tryd.ntmps47
    go_wp2
    exact ⟨rfl, rfl, (Below.refl w.heap.size w).alloc (Nat.le_refl _) _⟩
  · go_enter Tryd.func47, Tryd.ntmps47
    go_wp2_with fail
    refine (HH.out _ g0).mono ?_
    rintro e w1 ⟨rfl, hw1⟩
    rw [hw1]
    clear hw1 w1
    go_wp2
    exact ⟨rfl, rfl, (Below.refl w.heap.size w).alloc (Nat.le_refl _) _⟩
end Go.Proofs.YtpmmpbklpclnhaaDoor
