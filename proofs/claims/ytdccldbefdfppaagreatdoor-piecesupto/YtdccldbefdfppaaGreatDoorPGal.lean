import Derived.Test.YtdccldbefdfppaaGreatDoorPGak
import Derived.Test.YtdccldbefdfppaaGreatDoorPGad
import Derived.Test.YtdccldbefdfppaaGreatDoorPGae
import Derived.Test.YtdccldbefdfppaaGreatDoorPGac
set_option linter.unusedVariables false
set_option linter.unusedSimpArgs false
namespace Go.Proofs.YtdccldbefdfppaaGreatDoor
open Go.RowKit
section
set_option maxRecDepth 100000 in
set_option maxHeartbeats 800000 in
theorem openThere_any (eb : Nat) (m : EndM) (L : List Str) (w : World) (h : EnB w eb m) (ho : OpenS w m.opn L) (hL : L.length ≤ 1048576) :
  Calls Tryz.prog 131 #[.pointer (some ⟨eb, 0, none⟩)] w fun e w' => e = .returned (.int .i64 ((L.length : Int) - (m.hereN L : Nat))) ∧ Below w.heap.size w w' := by
 obtain ⟨sr, cr, hv⟩ := slice_len ho.row
 have c23 := h.c23
 rw [hv] at c23
 have hd : Below w.heap.size w w.drew := ⟨rfl, rfl, rfl, Nat.le_refl _, fun _ _ => rfl⟩
 have HC := hide (openHere_any eb m L w.drew (h.below hd) (ho.below hd) hL)
 have hle : m.hereN L ≤ L.length := List.countP_le_length
 have hw1 : IntKind.i64.wrap ((L.length : Int) - ((m.hereN L : Nat) : Int)) = (L.length : Int) - ((m.hereN L : Nat) : Int) := by rw [IntKind.wrap_i64]; omega
 generalize m.hereN L = H at *
 clear h ho hv hd
 go_enter Tryz.func131, Tryz.ntmps131
 go_upto_region 1 with fail
 go_cut [2] (fun s2 wx => s2 = .int .i64 ((L.length : Int) - (H : Int)) ∧ Below w.heap.size w wx)
 case first =>
  go_region_held3 (fun w' => w'.cell? ⟨eb, 23, none⟩ = some (.slice sr L.length cr)) (go_keep)
   (first | (go_at_call 60; refine HC.out.mono ?_; rintro e w' ⟨rfl, rfl⟩))
  all_goals (go_wp2_with fail; go_meet; exact ⟨rfl, ⟨rfl, rfl, rfl, Nat.le_refl _, fun _ _ => rfl⟩⟩)
 case rest =>
  obtain ⟨rfl, hbx⟩ := hcut
  have HX := hide hbx
  clear hbx
  go_wp2
  go_ret
  exact ⟨rfl, HX.out⟩
theorem below_step {wA W w1 : World} (h : Below wA.heap.size wA W) (h1 : Below W.heap.size W w1) : Below wA.heap.size wA w1 := h.trans (h1.mono h.size)
end
section
def BadT (most f lim : Nat) (tab : List HP) (l : List UInt8) : Prop := ∀ lim1 tab1 r, rdLims most f lim tab l = some (lim1, tab1, r) → rdPairs 9 [] tab1 lim1 r = none
end
section
structure TbBZ (w : World) (b : Nat) (cs : Array Value) (tP : TypeId) (lim sz : Nat) (tv : Value) : Prop where
 blk : w.heap[b]? = some (.cells cs tP (0, 0))
 c0 : cs[35]? = some (.int .i64 (lim : Int))
 c1 : cs[36]? = some (.int .i64 (sz : Int))
 c2 : cs[37]? = some tv
 ne : tP ≠ 130
theorem TbBZ.cells {w : World} {b : Nat} {cs : Array Value} {tP : TypeId} {lim sz : Nat} {tv : Value} (h : TbBZ w b cs tP lim sz tv) :
  w.cell? ⟨b, 35, none⟩ = some (.int .i64 (lim : Int)) ∧ w.cell? ⟨b, 36, none⟩ = some (.int .i64 (sz : Int)) ∧ w.cell? ⟨b, 37, none⟩ = some tv := by
 refine ⟨?_, ?_, ?_⟩ <;> rw [cell_of_row w b _ _ _ _ h.blk]
 ·exact h.c0
 ·exact h.c1
 ·exact h.c2
theorem TbBZ.free {w : World} {b : Nat} {cs : Array Value} {tP : TypeId} {lim sz : Nat} {tv : Value} (h : TbBZ w b cs tP lim sz tv) (o : Nat) : w.frozen? ⟨b, o, none⟩ = false := by
 have := h.blk
 simp [World.frozen?, this]
theorem TbBZ.lt {w : World} {b : Nat} {cs : Array Value} {tP : TypeId} {lim sz : Nat} {tv : Value} (h : TbBZ w b cs tP lim sz tv) : b < w.heap.size := lt_of_block h.blk
theorem TbBZ.chg {S : Nat → Prop} {w w' : World} {b : Nat} {cs : Array Value} {tP : TypeId} {lim sz : Nat} {tv : Value} (h : TbBZ w b cs tP lim sz tv) (hc : Chg S w w') (hs : ¬ S b) : TbBZ w' b cs tP lim sz tv :=
 ⟨by rw [hc.block b (lt_of_block h.blk) hs]; exact h.blk, h.c0, h.c1, h.c2, h.ne⟩
structure TbSZ (w : World) (b : Nat) (cs : Array Value) (tP : TypeId) (lim : Nat) (tv : Value) (tab : List HP) : Prop where
 tb : TbBZ w b cs tP lim (szT tab) tv
 row : w.ownsRow 0 130 2 tv tab.length (hpCells tab)
 fit : szT tab ≤ lim
 small : lim ≤ 256
theorem TbSZ.chg {S : Nat → Prop} {w w' : World} {b : Nat} {cs : Array Value} {tP : TypeId} {lim : Nat} {tv : Value} {tab : List HP} (h : TbSZ w b cs tP lim tv tab) (hc : Chg S w w') (h1 : ¬ S b) (h2 : ∀ j, tv.ownBlock = some j → ¬ S j) : TbSZ w' b cs tP lim tv tab :=
 ⟨h.tb.chg hc h1, owns_chg h.row hc h2, h.fit, h.small⟩
theorem TbSZ.below {w w' : World} {b : Nat} {cs : Array Value} {tP : TypeId} {lim : Nat} {tv : Value} {tab : List HP} (h : TbSZ w b cs tP lim tv tab) (hb : Below w.heap.size w w') : TbSZ w' b cs tP lim tv tab :=
 h.chg (Chg.of_below (S := fun _ => False) hb) id (fun _ _ => id)
theorem TbSZ.few {w : World} {b : Nat} {cs : Array Value} {tP : TypeId} {lim : Nat} {tv : Value} {tab : List HP} (h : TbSZ w b cs tP lim tv tab) : tab.length ≤ 32 := by
 have h1 := szT_len tab
 have h2 := h.fit
 have h3 := h.small
 omega
set_option maxRecDepth 100000 in
set_option maxHeartbeats 1600000 in
theorem highest_anyZ (b : Nat) (s : Option Addr) (n c : Nat) (w : World) (hc : w.cell? ⟨b, 37, none⟩ = some (.slice s n c)) (hn : n ≤ 1099511627776) :
  Calls Tryz.prog 196 #[.pointer (some ⟨b, 35, none⟩)] w fun e w' => e = .returned (.int .i64 ((8 + n : Nat) : Int)) ∧ w' = w := by
 go_enter Tryz.func196, Tryz.ntmps196
 go_wp2
 go_ret
 exact ⟨by go_num, rfl⟩
set_option maxRecDepth 100000 in
set_option maxHeartbeats 3200000 in
theorem pair_fixZ (b : Nat) (cs : Array Value) (tP : TypeId) (lim : Nat) (tv : Value) (tab : List HP) (n : Nat) (x : HP) (w : World) (hgl : Gl w) (ht : TbSZ w b cs tP lim tv tab) (h1 : 1 ≤ n) (h2 : n ≤ 8) (hx : (numd tab)[n - 1]? = some x) :
  Calls Tryz.prog 183 #[.pointer (some ⟨b, 35, none⟩), .int .i64 n] w fun e w' => e = .returned (.agg #[.string x.n, .string x.v]) ∧ Below w.heap.size w w' := by
 have hfew := ht.few
 rw [numd_fix h1 h2] at hx
 simp only [Option.some.injEq] at hx
 obtain ⟨f0, f1⟩ := hgl.fix (n - 1) (by simp [fixed8]; omega)
 rw [hx] at f0 f1
 obtain ⟨sv, cv, hsv⟩ := slice_len ht.row
 subst hsv
 obtain ⟨z0, z1, z2⟩ := ht.tb.cells
 have hbl := ht.tb.lt
 have hgx := hgl.lt
 have HH := hide (fun wx hc => highest_anyZ b sv tab.length cv wx hc (by omega))
 have g0 : ((w.alloc (.cells #[.string ⟨#[]⟩, .string ⟨#[]⟩] 130))).cell? ⟨b, 37, none⟩ = some (.slice sv tab.length cv) := (((Chg.refl (fun _ => False) w).alloc _).cell (p := ⟨b, 37, none⟩) hbl id).trans z2
 have hf0 : (w.alloc (.cells #[.string ⟨#[]⟩, .string ⟨#[]⟩] 130)).cell? ⟨4, (n - 1) * 2, none⟩ = some (.string x.n) := by
  have e : (n - 1) * 2 = 2 * (n - 1) := by omega
  rw [e]
  exact (((Chg.refl (fun _ => False) w).alloc _).cell (p := ⟨4, 2 * (n - 1), none⟩) (show 4 < w.heap.size by omega) id).trans f0
 have hf1 : (w.alloc (.cells #[.string ⟨#[]⟩, .string ⟨#[]⟩] 130)).cell? ⟨4, (n - 1) * 2 + 1, none⟩ = some (.string x.v) := by
  have e : (n - 1) * 2 + 1 = 2 * (n - 1) + 1 := by omega
  rw [e]
  exact (((Chg.refl (fun _ => False) w).alloc _).cell (p := ⟨4, 2 * (n - 1) + 1, none⟩) (show 4 < w.heap.size by omega) id).trans f1
 clear ht hgl hx f0 f1 z0 z1 z2
 go_enter Tryz.func183, Tryz.ntmps183
 go_wp2_with fail
 refine (HH.out _ g0).mono ?_
 rintro e w1 ⟨rfl, hw1⟩
 rw [hw1]
 clear hw1 w1
 go_wp2
 refine bodyPost_ret (v := .agg #[.string x.n, .string x.v]) ?_ rfl ⟨rfl, ?_⟩
 ·simp [results, Tryz.results183, go_sem]
 ·exact (Below.refl w.heap.size w).alloc (Nat.le_refl _) _
set_option maxRecDepth 100000 in
set_option maxHeartbeats 3200000 in
theorem pair_tabZ (b : Nat) (cs : Array Value) (tP : TypeId) (lim : Nat) (tv : Value) (tab : List HP) (n : Nat) (x : HP) (w : World) (ht : TbSZ w b cs tP lim tv tab) (h1 : 8 < n) (h2 : n ≤ 8 + tab.length) (hx : (numd tab)[n - 1]? = some x) :
  Calls Tryz.prog 183 #[.pointer (some ⟨b, 35, none⟩), .int .i64 n] w fun e w' => e = .returned (.agg #[.string x.n, .string x.v]) ∧ Below w.heap.size w w' := by
 have hfew := ht.few
 rw [numd_tab h1 h2] at hx
 simp only [Option.some.injEq] at hx
 obtain ⟨e0, e1⟩ := hpCells_get (l := tab) (k := 8 + tab.length - n) (by omega)
 rw [hx] at e0 e1
 obtain ⟨sv, cv, hsv⟩ := slice_len ht.row
 subst hsv
 obtain ⟨g, hg, hcl⟩ := slice_some ht.row (by omega)
 subst hg
 have d0 : w.cell? ⟨g, (8 + tab.length - n) * 2, none⟩ = some (.string x.n) := by rw [ht.row.cellAt _ (by have := hpCells_length tab; omega)]; exact e0
 have d1 : w.cell? ⟨g, (8 + tab.length - n) * 2 + 1, none⟩ = some (.string x.v) := by rw [ht.row.cellAt _ (by have := hpCells_length tab; omega)]; exact e1
 have hgl : g < w.heap.size := owns_lt ht.row rfl
 obtain ⟨z0, z1, z2⟩ := ht.tb.cells
 have hbl := ht.tb.lt
 have HH := hide (fun wx hc => highest_anyZ b (some ⟨g, 0, none⟩) tab.length cv wx hc (by omega))
 have g0 : ((w.alloc (.cells #[.string ⟨#[]⟩, .string ⟨#[]⟩] 130))).cell? ⟨b, 37, none⟩ = some (.slice (some ⟨g, 0, none⟩) tab.length cv) := (((Chg.refl (fun _ => False) w).alloc _).cell (p := ⟨b, 37, none⟩) hbl id).trans z2
 have hf0 : (w.alloc (.cells #[.string ⟨#[]⟩, .string ⟨#[]⟩] 130)).cell? ⟨g, (8 + tab.length - n) * 2, none⟩ = some (.string x.n) := (((Chg.refl (fun _ => False) w).alloc _).cell (p := ⟨g, (8 + tab.length - n) * 2, none⟩) hgl id).trans d0
 have hf1 : (w.alloc (.cells #[.string ⟨#[]⟩, .string ⟨#[]⟩] 130)).cell? ⟨g, (8 + tab.length - n) * 2 + 1, none⟩ = some (.string x.v) := (((Chg.refl (fun _ => False) w).alloc _).cell (p := ⟨g, (8 + tab.length - n) * 2 + 1, none⟩) hgl id).trans d1
 obtain ⟨q, hq⟩ : ∃ q, q = 8 + tab.length - n := ⟨_, rfl⟩
 rw [← hq] at hf0 hf1
 have hql : q < tab.length := by omega
 have hwr : IntKind.i64.wrap ((8 : Int) + (tab.length : Int) - (n : Int)) = (q : Int) := by
  have e : (8 : Int) + (tab.length : Int) - (n : Int) = (q : Int) := by omega
  rw [e]
  exact wrap_nat q (by omega)
 have HQ := hide hq
 clear hq
 clear ht hx e0 e1 d0 d1 z0 z1 z2
 go_enter Tryz.func183, Tryz.ntmps183
 go_wp2_with fail
 refine (HH.out _ g0).mono ?_
 rintro e w1 ⟨rfl, hw1⟩
 rw [hw1]
 clear hw1 w1
 go_wp2
 go_region_law (refine step_call rfl 196 Tryz.f196 Tryz.func196 (by kernel_rfl) rfl [.tmp 24] #[265] rfl [.pointer (some ⟨b, 35, none⟩)] (by simp [Act.eval, Act.put]) (HH.out (w.alloc (.cells #[.string ⟨#[]⟩, .string ⟨#[]⟩] 130)).drew g0) ?_; rintro e w2 ⟨rfl, rfl⟩; refine ⟨_, rfl, ?_⟩)
 all_goals go_wp2
 all_goals refine bodyPost_ret (v := .agg #[.string x.n, .string x.v]) ?_ rfl ⟨rfl, ?_⟩
 all_goals first
  | (simp [results, Tryz.results183, go_sem]; done)
  | (have hb := (Below.refl w.heap.size w).alloc (Nat.le_refl _) (.cells #[.string x.n, .string x.v] 130); exact ⟨hb.os, hb.tape, hb.output, hb.size, hb.block⟩)
theorem pair_anyZ (b : Nat) (cs : Array Value) (tP : TypeId) (lim : Nat) (tv : Value) (tab : List HP) (n : Nat) (x : HP) (w : World) (hgl : Gl w) (ht : TbSZ w b cs tP lim tv tab) (h1 : 1 ≤ n) (hx : (numd tab)[n - 1]? = some x) :
  Calls Tryz.prog 183 #[.pointer (some ⟨b, 35, none⟩), .int .i64 n] w fun e w' => e = .returned (.agg #[.string x.n, .string x.v]) ∧ Below w.heap.size w w' := by
 have hn := (List.getElem?_eq_some_iff.1 hx).1
 rw [numd_length] at hn
 by_cases h : n ≤ 8
 ·exact pair_fixZ b cs tP lim tv tab n x w hgl ht h1 h hx
 ·exact pair_tabZ b cs tP lim tv tab n x w ht (by omega) (by omega) hx
set_option maxRecDepth 100000 in
set_option maxHeartbeats 3200000 in
theorem pair_badZ (b : Nat) (cs : Array Value) (tP : TypeId) (lim : Nat) (tv : Value) (tab : List HP) (n : Nat) (w : World) (ht : TbSZ w b cs tP lim tv tab) (hn : n ≤ 1099511627776) (hx : n = 0 ∨ 8 + tab.length < n) :
  Calls Tryz.prog 183 #[.pointer (some ⟨b, 35, none⟩), .int .i64 n] w fun e w' => e = .panicked [{ v := .iface 41 (.int .i64 13), recovered := false }] ∧ Below w.heap.size w w' := by
 have hfew := ht.few
 obtain ⟨sv, cv, hsv⟩ := slice_len ht.row
 subst hsv
 obtain ⟨z0, z1, z2⟩ := ht.tb.cells
 have hbl := ht.tb.lt
 have HH := hide (fun wx hc => highest_anyZ b sv tab.length cv wx hc (by omega))
 have g0 : ((w.alloc (.cells #[.string ⟨#[]⟩, .string ⟨#[]⟩] 130))).cell? ⟨b, 37, none⟩ = some (.slice sv tab.length cv) := (((Chg.refl (fun _ => False) w).alloc _).cell (p := ⟨b, 37, none⟩) hbl id).trans z2
 clear ht z0 z1 z2
 rcases hx with rfl | hx
 ·go_enter Tryz.func183, Tryz.ntmps183
  go_wp2
  exact ⟨rfl, rfl, (Below.refl w.heap.size w).alloc (Nat.le_refl _) _⟩
 ·go_enter Tryz.func183, Tryz.ntmps183
  go_wp2_with fail
  refine (HH.out _ g0).mono ?_
  rintro e w1 ⟨rfl, hw1⟩
  rw [hw1]
  clear hw1 w1
  go_wp2
  exact ⟨rfl, rfl, (Below.refl w.heap.size w).alloc (Nat.le_refl _) _⟩
end
end Go.Proofs.YtdccldbefdfppaaGreatDoor
