import Derived.Test.YtghongdbohjaaaaGreatDoorUGaa
import Derived.Test.YtghongdbohjaaaaGreatDoorUGab
set_option linter.unusedVariables false
set_option linter.unusedSimpArgs false
/-
  sluiceref's tables: takes, lives, size.
-/
namespace Go.Proofs.YtghongdbohjaaaaGreatDoor
open Go.RowKit

def chCells : List Ch → List Value
  | [] => []
  | c :: r => .string c.h.n :: .string c.h.v :: .int .i64 c.lim :: chCells r
theorem chCells_length (l : List Ch) : (chCells l).length = l.length * 3 := by
  induction l with
  | nil => rfl
  | cons c r ih => simp [chCells, ih]; omega
theorem chCells_append (a b : List Ch) : chCells (a ++ b) = chCells a ++ chCells b := by
  induction a with
  | nil => rfl
  | cons c r ih => simp [chCells, ih]
theorem chCells_get {l : List Ch} {k : Nat} (h : k < l.length) : (chCells l)[k * 3]? = some (.string l[k].h.n) ∧ (chCells l)[k * 3 + 1]? = some (.string l[k].h.v) ∧ (chCells l)[k * 3 + 2]? = some (.int .i64 l[k].lim) := by
  induction l generalizing k with
  | nil => simp at h
  | cons p r ih =>
    cases k with
    | zero => simp [chCells]
    | succ k =>
      simp only [List.length_cons] at h
      have := ih (k := k) (by omega)
      rw [Nat.succ_mul]
      simpa [chCells, Nat.add_assoc] using this

theorem tk_le {n v : ByteArray} (h1 : n.size ≤ 1048576) (h2 : v.size ≤ 1048576) : tk ⟨n, v⟩ ≤ 2097160 := by
  have e : tk ⟨n, v⟩ = n.size + v.size + 8 := rfl
  omega

set_option maxRecDepth 100000 in
set_option maxHeartbeats 1600000 in
theorem takes_any (h : HP) (w : World) (hn : h.n.size ≤ 1099511627776) (hv : h.v.size ≤ 1099511627776) :
    Calls Tryz.prog 135 #[.agg #[.string h.n, .string h.v]] w fun e w' => e = .returned (.int .i64 (tk h)) ∧ Below w.heap.size w w' := by
  obtain ⟨n, v⟩ := h
  simp only at hn hv
  go_enter Tryz.func135, Tryz.ntmps135
  go_wp2
  go_ret
  exact ⟨by simp [tk], (Below.refl _ _).alloc (Nat.le_refl _) _⟩

/-- Pairs whose texts are not too long. -/
def chOk (log : List Ch) : Prop := ∀ c ∈ log, c.h.n.size ≤ 1048576 ∧ c.h.v.size ≤ 1048576

theorem bound_same {x y : Nat} (h : x ≤ y * 4194304) : x ≤ (y + 1) * 4194304 := Nat.le_trans h (Nat.mul_le_mul_right _ (Nat.le_succ _))
theorem bound_more {x y t : Nat} (h : x ≤ y * 4194304) (ht : t ≤ 2097160) : x + t ≤ (y + 1) * 4194304 := by
  rw [Nat.succ_mul]
  exact Nat.add_le_add h (Nat.le_trans ht (by decide))

theorem aliveF_next {log : List Ch} {j s : Nat} (h : j < log.length) : aliveF (log.drop j) s = if log[j].lim < (grow log[j] s : Int) then false else aliveF (log.drop (j + 1)) (grow log[j] s) := by
  rw [List.drop_eq_getElem_cons h]; rfl

set_option maxRecDepth 100000 in
set_option maxHeartbeats 1600000 in
theorem lives_any (b : Nat) (lv : Value) (log : List Ch) (i : Nat) (w : World) (hc : w.cell? ⟨b, 0, none⟩ = some lv) (hrow : w.ownsRow 0 282 3 lv log.length (chCells log)) (hi : i < log.length) (hok : chOk log) (hl : log.length ≤ 1073741824) :
    Calls Tryz.prog 134 #[.pointer (some ⟨b, 0, none⟩), .int .i64 i] w fun e w' => e = .returned (.bool (livesB log i)) ∧ Below w.heap.size w w' := by
  obtain ⟨sl, cl, rfl⟩ := slice_len hrow
  obtain ⟨g, hg, hcl⟩ := slice_some hrow (by omega)
  subst hg
  have hgl : g < w.heap.size := owns_lt hrow rfl
  have hbl : b < w.heap.size := World.block_lt_of_cell? w _ hc
  obtain ⟨e0, e1, e2⟩ := chCells_get hi
  have d0 : w.cell? ⟨g, i * 3, none⟩ = some (.string log[i].h.n) := by rw [hrow.cellAt _ (by have := chCells_length log; omega)]; exact e0
  have hlB : livesB log i = if log[i].h.n.toList.isEmpty then false else aliveF (log.drop i) 0 := by unfold livesB; rw [List.getElem?_eq_getElem hi]
  have HR := hide hrow
  have HLB := hide hlB
  have HOK := hide hok
  clear hrow e0 e1 e2 hlB hok
  cases hem : log[i].h.n.toList.isEmpty with
  | true =>
    go_enter Tryz.func134, Tryz.ntmps134
    go_wp2
    go_ret
    refine ⟨?_, Below.refl _ _⟩
    rw [HLB.out, if_pos hem]
    rfl
  | false =>
    go_enter Tryz.func134, Tryz.ntmps134
    go_wp2
    go_loopw [5, 6] (fun s j wr => ∃ (x y : Nat), s = .int .i64 x ∧ j = .int .i64 y ∧ i ≤ y ∧ y ≤ log.length ∧ x ≤ y * 4194304 ∧ aliveF (log.drop i) 0 = aliveF (log.drop y) x ∧ Below w.heap.size w wr) (fun _ j _ => log.length - (intOf j).toNat)
    case atStart => exact ⟨0, i, rfl, rfl, Nat.le_refl _, by omega, by omega, rfl, Below.refl _ _⟩
    case round =>
      obtain ⟨x, y, rfl, rfl, hiy, hyl, hx, hal, hbel⟩ := hrel
      have hcw := (hbel.cell (p := ⟨b, 0, none⟩) hbl).trans hc
      by_cases hlt : y < log.length
      · obtain ⟨e0, e1, e2⟩ := chCells_get hlt
        have q0 : wr.cell? ⟨g, y * 3, none⟩ = some (.string log[y].h.n) := (hbel.cell (p := ⟨g, y * 3, none⟩) hgl).trans (by rw [HR.out.cellAt _ (by have := chCells_length log; omega)]; exact e0)
        have q1 : wr.cell? ⟨g, y * 3 + 1, none⟩ = some (.string log[y].h.v) := (hbel.cell (p := ⟨g, y * 3 + 1, none⟩) hgl).trans (by rw [HR.out.cellAt _ (by have := chCells_length log; omega)]; exact e1)
        have q2 : wr.cell? ⟨g, y * 3 + 2, none⟩ = some (.int .i64 log[y].lim) := (hbel.cell (p := ⟨g, y * 3 + 2, none⟩) hgl).trans (by rw [HR.out.cellAt _ (by have := chCells_length log; omega)]; exact e2)
        have hnx := aliveF_next (s := x) hlt
        obtain ⟨hz1, hz2⟩ := HOK.out log[y] (List.getElem_mem _)
        generalize log[y] = c at q0 q1 q2 hnx hz1 hz2
        obtain ⟨⟨n, v⟩, lim⟩ := c
        simp only at q0 q1 q2 hz1 hz2
        have HAL := hide (hal.trans hnx)
        have HBE := hide hbel
        have HX2 := hide (bound_same (y := y) hx)
        have HX3 := hide (fun t (ht : t ≤ 2097160) => bound_more (y := y) hx ht)
        clear hal hnx e0 e1 e2 d0
        cases hen : n.toList.isEmpty with
        | true =>
          have hgr : grow ⟨⟨n, v⟩, lim⟩ x = x := by simp [grow, hen]
          have hal := HAL.out
          rw [hgr] at hal
          simp only at hal
          by_cases hlm : lim < (x : Int)
          · rw [if_pos hlm] at hal
            have HF := hide hal
            clear hal hgr
            go_wp2
            go_ret
            refine ⟨?_, HBE.out⟩
            rw [HLB.out, if_neg (by simp [hem]), HF.out]
            rfl
          · rw [if_neg hlm] at hal
            have HF := hide hal
            clear hal hgr
            go_wp2
            go_roundw
            case rel => exact ⟨x, y + 1, rfl, by go_num, by omega, by omega, HX2.out, HF.out, HBE.out⟩
            case measure => simp [intOf]; omega
        | false =>
          have hgr : grow ⟨⟨n, v⟩, lim⟩ x = x + tk ⟨n, v⟩ := by simp [grow, hen]
          have htk := tk_le hz1 hz2
          have hal := HAL.out
          rw [hgr] at hal
          simp only at hal
          have htc := fun wx => takes_any ⟨n, v⟩ wx (Nat.le_trans hz1 (by decide)) (Nat.le_trans hz2 (by decide))
          generalize tk ⟨n, v⟩ = t at htk hal htc
          have HTC := hide htc
          clear htc hgr
          simp only at HTC
          go_wp2_with fail
          refine (HTC.out _).mono ?_
          rintro e w1 ⟨rfl, hb1⟩
          have hB1 := HBE.out.trans (hb1.mono HBE.out.size)
          have r0 := (hb1.cell (p := ⟨b, 0, none⟩) (Nat.lt_of_lt_of_le hbl HBE.out.size)).trans hcw
          have r2 := (hb1.cell (p := ⟨g, y * 3 + 2, none⟩) (Nat.lt_of_lt_of_le hgl HBE.out.size)).trans q2
          have HB1 := hide hB1
          clear hb1 hB1 hcw q0 q1 q2
          by_cases hlm : lim < ((x + t : Nat) : Int)
          · rw [if_pos hlm] at hal
            have HF := hide hal
            clear hal
            have hlm2 : lim < (x : Int) + (t : Int) := by omega
            clear hlm
            go_wp2
            go_ret
            refine ⟨?_, HB1.out⟩
            rw [HLB.out, if_neg (by simp [hem]), HF.out]
            rfl
          · rw [if_neg hlm] at hal
            have HF := hide hal
            clear hal
            have hlm2 : ¬ lim < (x : Int) + (t : Int) := by omega
            clear hlm
            go_wp2
            go_roundw
            case rel => exact ⟨x + t, y + 1, by go_num, by go_num, by omega, by omega, HX3.out t htk, HF.out, HB1.out⟩
            case measure => simp [intOf]; omega
      · have hye : y = log.length := by omega
        subst hye
        have hal2 := hal
        rw [List.drop_length] at hal2
        have HAL := hide hal2
        clear hal hal2
        go_wp2
        go_ret
        refine ⟨?_, hbel⟩
        rw [HLB.out, if_neg (by simp [hem]), HAL.out]
        rfl
end Go.Proofs.YtghongdbohjaaaaGreatDoor
/-
  sluiceref's tables: size, numbered.
-/
namespace Go.Proofs.YtghongdbohjaaaaGreatDoor
open Go.RowKit

theorem Tryz.infoH62 : (Tryz.prog.info? 62).map (fun i => (i.zero, i.size, i.bytes)) = some (some (.agg #[.string ⟨#[]⟩, .string ⟨#[]⟩]), 2, 32) := by kernel_rfl

theorem tkAt_le {log : List Ch} (h : chOk log) (i : Nat) : tkAt log i ≤ 2097160 := by
  unfold tkAt
  split
  · omega
  · next c hc =>
    obtain ⟨h1, h2⟩ := h c (List.mem_of_getElem? hc)
    exact tk_le h1 h2
theorem sizeK_le {log : List Ch} (h : chOk log) (i : Nat) : sizeK log i ≤ i * 4194304 := by
  induction i with
  | zero => simp [sizeK]
  | succ i ih =>
    have ht := tkAt_le h i
    simp only [sizeK]
    split
    · exact bound_more ih ht
    · exact bound_same ih

set_option maxRecDepth 100000 in
set_option maxHeartbeats 1600000 in
theorem tsize_any (b : Nat) (lv : Value) (log : List Ch) (w : World) (hc : w.cell? ⟨b, 0, none⟩ = some lv) (hrow : w.ownsRow 0 282 3 lv log.length (chCells log)) (hok : chOk log) (hl : log.length ≤ 1073741824) :
    Calls Tryz.prog 76 #[.pointer (some ⟨b, 0, none⟩)] w fun e w' => e = .returned (.int .i64 (sizeB log)) ∧ Below w.heap.size w w' := by
  obtain ⟨sl, cl, rfl⟩ := slice_len hrow
  have hbl : b < w.heap.size := World.block_lt_of_cell? w _ hc
  have HR := hide hrow
  have HOK := hide hok
  clear hrow hok
  go_enter Tryz.func76, Tryz.ntmps76
  go_wp2
  go_loopw [3, 4] (fun n i wr => ∃ k : Nat, k ≤ log.length ∧ i = .int .i64 k ∧ n = .int .i64 (sizeK log k) ∧ Below w.heap.size w wr) (fun _ i _ => log.length - (intOf i).toNat)
  case atStart => exact ⟨0, Nat.zero_le _, rfl, rfl, Below.refl _ _⟩
  case round =>
    obtain ⟨k, hk, rfl, rfl, hbel⟩ := hrel
    have hcw := (hbel.cell (p := ⟨b, 0, none⟩) hbl).trans hc
    by_cases hlt : k < log.length
    · have hrw := owns_chg HR.out (Chg.of_below (S := fun _ => False) hbel) (fun _ _ => id)
      have hliv := lives_any b _ log k wr hcw hrw hlt HOK.out hl
      have hsk := sizeK_le HOK.out k
      have hsk2 : sizeK log k ≤ 1073741824 * 4194304 := Nat.le_trans hsk (Nat.mul_le_mul_right _ (by omega))
      have hnx : sizeK log (k + 1) = sizeK log k + (if livesB log k then tkAt log k else 0) := rfl
      have htk := tkAt_le HOK.out k
      have hta : tkAt log k = tk log[k].h := by unfold tkAt; rw [List.getElem?_eq_getElem hlt]
      obtain ⟨hz1, hz2⟩ := HOK.out log[k] (List.getElem_mem _)
      obtain ⟨g, hg, hcl⟩ := slice_some HR.out (by omega)
      subst hg
      have hgl : g < w.heap.size := owns_lt HR.out rfl
      obtain ⟨e0, e1, -⟩ := chCells_get hlt
      have q0 : wr.cell? ⟨g, k * 3, none⟩ = some (.string log[k].h.n) := (hbel.cell (p := ⟨g, k * 3, none⟩) hgl).trans (by rw [HR.out.cellAt _ (by have := chCells_length log; omega)]; exact e0)
      have q1 : wr.cell? ⟨g, k * 3 + 1, none⟩ = some (.string log[k].h.v) := (hbel.cell (p := ⟨g, k * 3 + 1, none⟩) hgl).trans (by rw [HR.out.cellAt _ (by have := chCells_length log; omega)]; exact e1)
      have htc := fun wx => takes_any log[k].h wx (Nat.le_trans hz1 (by decide)) (Nat.le_trans hz2 (by decide))
      rw [← hta] at htc
      generalize log[k].h = h at q0 q1 htc hta
      obtain ⟨n, v⟩ := h
      simp only at q0 q1 htc
      generalize sizeK log k = s at hsk2 hnx ⊢
      generalize tkAt log k = t at htk hnx htc
      have HL := hide hliv
      have HTC := hide htc
      have HNX := hide hnx
      have HBE := hide hbel
      clear hliv hsk hnx htc hta hrw hz1 hz2 e0 e1
      go_wp2_with fail
      refine HL.out.mono ?_
      rintro e w1 ⟨rfl, hb1⟩
      have hB1 := HBE.out.trans (hb1.mono HBE.out.size)
      have r0 := (hb1.cell (p := ⟨b, 0, none⟩) (Nat.lt_of_lt_of_le hbl HBE.out.size)).trans hcw
      have s0 := (hb1.cell (p := ⟨g, k * 3, none⟩) (Nat.lt_of_lt_of_le hgl HBE.out.size)).trans q0
      have s1 := (hb1.cell (p := ⟨g, k * 3 + 1, none⟩) (Nat.lt_of_lt_of_le hgl HBE.out.size)).trans q1
      have HB1 := hide hB1
      clear hb1 hB1 hcw q0 q1 HL
      cases hlv : livesB log k with
      | true =>
        have HN2 : Hid (sizeK log (k + 1) = s + t) := by
          have h := HNX.out
          rw [hlv, if_pos rfl] at h
          exact h
        clear hlv
        go_wp2_with fail
        refine (HTC.out _).mono ?_
        rintro e w2 ⟨rfl, hb2⟩
        have HB2 := hide (HB1.out.trans (hb2.mono HB1.out.size))
        clear hb2
        go_wp2
        go_roundw
        case rel => exact ⟨k + 1, by omega, by go_num, by rw [HN2.out]; go_num, HB2.out⟩
        case measure => simp [intOf]; omega
      | false =>
        have HN2 : Hid (sizeK log (k + 1) = s) := by
          have h := HNX.out
          rw [hlv, if_neg (by decide)] at h
          exact h
        clear hlv
        go_wp2
        go_roundw
        case rel => exact ⟨k + 1, by omega, by go_num, by rw [HN2.out], HB1.out⟩
        case measure => simp [intOf]; omega
    · have hke : k = log.length := by omega
      subst hke
      go_wp2
      go_ret
      exact ⟨rfl, hbel⟩

def hdCells : List HP → List Value
  | [] => []
  | h :: r => .string h.n :: .string h.v :: hdCells r
theorem hdCells_length (l : List HP) : (hdCells l).length = l.length * 2 := by
  induction l with
  | nil => rfl
  | cons c r ih => simp [hdCells, ih]; omega
theorem hdCells_append (a b : List HP) : hdCells (a ++ b) = hdCells a ++ hdCells b := by
  induction a with
  | nil => rfl
  | cons c r ih => simp [hdCells, ih]
theorem hdCells_get {l : List HP} {k : Nat} (h : k < l.length) : (hdCells l)[k * 2]? = some (.string l[k].n) ∧ (hdCells l)[k * 2 + 1]? = some (.string l[k].v) := by
  induction l generalizing k with
  | nil => simp at h
  | cons p r ih =>
    cases k with
    | zero => simp [hdCells]
    | succ k =>
      simp only [List.length_cons] at h
      have := ih (k := k) (by omega)
      rw [Nat.succ_mul]
      simpa [hdCells, Nat.add_assoc] using this

theorem numK_length (log : List Ch) (d : Nat) : (numK log d).length ≤ 8 + d := by
  induction d with
  | zero => simp [numK, fixedP]
  | succ d ih =>
    simp only [numK, List.length_append]
    split <;> simp <;> omega

theorem hd_one (n v : ByteArray) : ∀ u ∈ hdCells [⟨n, v⟩], u.oneCell' = true := by
  intro u hu
  simp [hdCells] at hu
  rcases hu with rfl | rfl <;> rfl

set_option maxRecDepth 100000 in
set_option maxHeartbeats 1600000 in
theorem numbered_any (b : Nat) (lv : Value) (log : List Ch) (w : World) (hc : w.cell? ⟨b, 0, none⟩ = some lv) (hrow : w.ownsRow 0 282 3 lv log.length (chCells log)) (hok : chOk log) (hl : log.length ≤ 1073741824) :
    Calls Tryz.prog 143 #[.pointer (some ⟨b, 0, none⟩)] w fun e w' => ∃ v, e = .returned v ∧ w'.ownsRow w.heap.size 62 2 v (numB log).length (hdCells (numB log)) ∧ Below w.heap.size w w' := by
  obtain ⟨i0, hi, hz0, hz1, hz2⟩ := info_parts Tryz.infoH62
  obtain ⟨sl, cl, rfl⟩ := slice_len hrow
  have hbl : b < w.heap.size := World.block_lt_of_cell? w _ hc
  have HR := hide hrow
  have HOK := hide hok
  clear hrow hok
  go_enter Tryz.func143, Tryz.ntmps143
  go_wp2
  have hfix : (w.alloc (.cells (hdCells fixedP).toArray 62)).ownsRow w.heap.size 62 2 (.slice (some ⟨w.heap.size, 0, none⟩) 8 8) 8 (hdCells fixedP) := ⟨rfl, Or.inr ⟨w.heap.size, 8, _, rfl, Nat.le_refl _, heap_alloc_new w _, Nat.le_refl _, by decide, rfl, rfl⟩⟩
  have HFX := hide hfix
  clear hfix
  go_loopw [3, 4] (fun v i wr => ∃ d : Nat, d ≤ log.length ∧ i = .int .i64 ((log.length : Int) - 1 - (d : Int)) ∧ wr.ownsRow w.heap.size 62 2 v (numK log d).length (hdCells (numK log d)) ∧ Below w.heap.size w wr) (fun _ i _ => (intOf i + 1).toNat)
  case atStart => exact ⟨0, Nat.zero_le _, by simp, HFX.out, (Below.refl _ _).alloc (Nat.le_refl _) _⟩
  case round =>
    obtain ⟨d, hd, rfl, hown, hbel⟩ := hrel
    obtain ⟨sv, cv, rfl⟩ := slice_len hown
    have hcw := (hbel.cell (p := ⟨b, 0, none⟩) hbl).trans hc
    by_cases hlt : d < log.length
    · obtain ⟨k, hk⟩ : ∃ k, k = log.length - 1 - d := ⟨_, rfl⟩
      have hkl : k < log.length := by omega
      have ek : (log.length : Int) - 1 - (d : Int) = (k : Int) := by omega
      have ed : (log.length : Int) - 1 - ((d : Int) + 1) = (k : Int) - 1 := by omega
      rw [ek]
      have hrw := owns_chg HR.out (Chg.of_below (S := fun _ => False) hbel) (fun _ _ => id)
      have hliv := lives_any b _ log k wr hcw hrw hkl HOK.out hl
      have hnx : numK log (d + 1) = numK log d ++ (if livesB log k then [hAt log k] else []) := by rw [hk]; rfl
      have hha : hAt log k = log[k].h := by unfold hAt; rw [List.getElem?_eq_getElem hkl]
      have hnl := numK_length log d
      obtain ⟨g, hg, hcl⟩ := slice_some HR.out (by omega)
      subst hg
      have hgl : g < w.heap.size := owns_lt HR.out rfl
      obtain ⟨e0, e1, -⟩ := chCells_get hkl
      have q0 : wr.cell? ⟨g, k * 3, none⟩ = some (.string log[k].h.n) := (hbel.cell (p := ⟨g, k * 3, none⟩) hgl).trans (by rw [HR.out.cellAt _ (by have := chCells_length log; omega)]; exact e0)
      have q1 : wr.cell? ⟨g, k * 3 + 1, none⟩ = some (.string log[k].h.v) := (hbel.cell (p := ⟨g, k * 3 + 1, none⟩) hgl).trans (by rw [HR.out.cellAt _ (by have := chCells_length log; omega)]; exact e1)
      rw [hha] at hnx
      generalize log[k].h = h at q0 q1 hnx
      obtain ⟨n, v⟩ := h
      simp only at q0 q1
      generalize numK log d = Q at hown hnx hnl ⊢
      have HED := hide ed
      have HEK := hide ek
      have HL := hide hliv
      have HNX := hide hnx
      have HBE := hide hbel
      have HOW := hide hown
      clear hliv hnx hha hrw e0 e1 hown hk ed ek
      go_wp2_with fail
      refine HL.out.mono ?_
      rintro e w1 ⟨rfl, hb1⟩
      have hB1 := HBE.out.trans (hb1.mono HBE.out.size)
      have r0 := (hb1.cell (p := ⟨b, 0, none⟩) (Nat.lt_of_lt_of_le hbl HBE.out.size)).trans hcw
      have s0 := (hb1.cell (p := ⟨g, k * 3, none⟩) (Nat.lt_of_lt_of_le hgl HBE.out.size)).trans q0
      have s1 := (hb1.cell (p := ⟨g, k * 3 + 1, none⟩) (Nat.lt_of_lt_of_le hgl HBE.out.size)).trans q1
      have HB1 := hide hB1
      have HO1 := hide (owns_chg HOW.out (Chg.of_below (S := fun _ => False) hb1) (fun _ _ => id))
      clear hb1 hB1 hcw q0 q1 HL
      cases hlv : livesB log k with
      | true =>
        have HN2 : Hid (numK log (d + 1) = Q ++ [⟨n, v⟩]) := by
          have h := HNX.out
          rw [hlv, if_pos rfl] at h
          exact h
        clear hlv
        go_wp2_with (at_builtin; refine wpList_app _ rfl (.tmp 29) (.tmp 38) 57 rfl 62 i0 (.agg #[.string ⟨#[]⟩, .string ⟨#[]⟩]) 2 32 Tryz.underlying57 hi hz0 hz1 hz2 rfl (by decide) _ _ _ rfl ((owns_base HO1.out (fun _ _ => Nat.zero_le _)).alloc _) (.slice (some ⟨w1.heap.size, 0, none⟩) 1 1) 1 (hdCells [⟨n, v⟩]) rfl rfl ?c1 ?c2 ?c3 ?c4 ?_)
        case c1 => exact Or.inr ⟨_, _, rfl, fun j u hu => lies_row (xs := hdCells [⟨n, v⟩]) j u hu⟩
        case c2 => exact hd_one n v
        case c3 => unfold maxLen; omega
        case c4 => omega
        intro v' w2 hown2 hg2 hfr2
        have hbel2 : Below w.heap.size w (w1.alloc (.cells (hdCells [⟨n, v⟩]).toArray 62)) := HB1.out.alloc HB1.out.size _
        have hk2 := app_keep hbel2 hbel2.size (HO1.out.alloc _) hown2 hg2 (by simpa using hfr2)
        have HK1 : Hid (w2.ownsRow w.heap.size 62 2 v' (numK log (d + 1)).length (hdCells (numK log (d + 1)))) := by
          show World.ownsRow _ _ _ _ _ _ _
          rw [HN2.out, hdCells_append, List.length_append]
          exact hk2.1
        have HK2 := hide hk2.2
        clear hown2 hg2 hfr2 hbel2 hk2 r0 s0 s1
        go_wp2
        go_roundw
        case rel => exact ⟨d + 1, by omega, by have := HED.out; rw [← HEK.out]; go_num, HK1.out, HK2.out⟩
        case measure => simp [intOf]
      | false =>
        have HN2 : Hid (numK log (d + 1) = Q) := by
          have h := HNX.out
          rw [hlv, if_neg (by decide), List.append_nil] at h
          exact h
        clear hlv
        go_wp2
        go_roundw
        case rel => exact ⟨d + 1, by omega, by have := HED.out; rw [← HEK.out]; go_num, by rw [HN2.out]; exact HO1.out, HB1.out⟩
        case measure => simp [intOf]
    · have hde : d = log.length := by omega
      subst hde
      have HO := hide hown
      clear hown
      go_wp2
      go_ret
      exact ⟨_, rfl, HO.out, hbel⟩
end Go.Proofs.YtghongdbohjaaaaGreatDoor
/-
  sluiceref's tables: told, added.
-/
namespace Go.Proofs.YtghongdbohjaaaaGreatDoor
open Go.RowKit

theorem Tryz.info282 : (Tryz.prog.info? 282).map (fun i => (i.zero, i.size, i.bytes)) = some (some (.agg #[.string ⟨#[]⟩, .string ⟨#[]⟩, .int .i64 0]), 3, 40) := by kernel_rfl

/-- What is done to a table that lies at the head of a block. -/
structure TabTo (w w' : World) (b : Nat) (cs cs' : Array Value) (tP : Nat) (lv lv' : Value) (log : List Ch) : Prop where
  blk : w'.heap[b]? = some (.cells cs' tP (0, 0))
  row : w'.ownsRow 0 282 3 lv' log.length (chCells log)
  chg : Chg (fun j => j = b ∨ lv.ownBlock = some j) w w'
  own : ∀ j, lv'.ownBlock = some j → lv.ownBlock = some j ∨ w.heap.size ≤ j

theorem ch_one (c : Ch) : ∀ u ∈ chCells [c], u.oneCell' = true := by
  intro u hu
  simp [chCells] at hu
  rcases hu with rfl | rfl | rfl <;> rfl

set_option maxRecDepth 100000 in
set_option maxHeartbeats 1600000 in
theorem ptold_any (b : Nat) (cs : Array Value) (tP : Nat) (lv : Value) (log : List Ch) (lim n : Int) (w : World) (hb : w.heap[b]? = some (.cells cs tP (0, 0))) (htP : 282 ≠ tP) (h0 : cs[0]? = some lv) (h1 : cs[1]? = some (.int .i64 lim))
    (hrow : w.ownsRow 0 282 3 lv log.length (chCells log)) (hl : log.length ≤ 1073741824) :
    Calls Tryz.prog 82 #[.pointer (some ⟨b, 0, none⟩), .int .i64 n] w fun e w' => e = .returned (.tuple #[]) ∧ ∃ lv', TabTo w w' b cs ((cs.setIfInBounds 1 (.int .i64 n)).setIfInBounds 0 lv') tP lv lv' (log ++ [⟨⟨⟨#[]⟩, ⟨#[]⟩⟩, n⟩]) := by
  obtain ⟨i0, hi, hz0, hz1, hz2⟩ := info_parts Tryz.info282
  obtain ⟨sl, cl, rfl⟩ := slice_len hrow
  have hlt := lt_of_block hb
  have c0 : w.cell? ⟨b, 0, none⟩ = some (.slice sl log.length cl) := by rw [cell_of_row w b _ _ _ _ hb]; exact h0
  have c1 : w.cell? ⟨b, 1, none⟩ = some (.int .i64 lim) := by rw [cell_of_row w b _ _ _ _ hb]; exact h1
  have f1 : w.frozen? ⟨b, 1, none⟩ = false := by simp [World.frozen?, hb]
  have HB := hide hb
  have HR := hide hrow
  have HT := hide htP
  have H0 := hide h0
  clear hb hrow htP h0 h1
  go_enter Tryz.func82, Tryz.ntmps82
  have hset : Chg (fun j => j = b) w (w.setCell ⟨b, 1, none⟩ (.int .i64 n)) := (Chg.refl (fun j => j = b) w).setCell (p := ⟨b, 1, none⟩) (Or.inr rfl) _
  have hb1 : (w.setCell ⟨b, 1, none⟩ (.int .i64 n)).heap[b]? = some (.cells (cs.setIfInBounds 1 (.int .i64 n)) tP (0, 0)) := block_setCell HB.out
  have hr1 : (w.setCell ⟨b, 1, none⟩ (.int .i64 n)).ownsRow 0 282 3 (.slice sl log.length cl) log.length (chCells log) := owns_chg HR.out hset (fun j hj e => by subst e; exact owns_ne HR.out HB.out HT.out hj)
  have HS := hide hset
  have HB1 := hide hb1
  have HR1 := hide hr1
  clear hset hb1 hr1
  go_wp2_with (at_builtin; refine wpList_app _ rfl (.tmp 12) (.tmp 15) 178 rfl 282 i0 (.agg #[.string ⟨#[]⟩, .string ⟨#[]⟩, .int .i64 0]) 3 40 Tryz.underlying178 hi hz0 hz1 hz2 rfl (by decide) _ _ _ rfl (HR1.out.alloc _) (.slice (some ⟨w.heap.size, 0, none⟩) 1 1) 1 (chCells [⟨⟨⟨#[]⟩, ⟨#[]⟩⟩, n⟩]) rfl rfl ?c1 ?c2 ?c3 ?c4 ?_)
  case c1 =>
    refine Or.inr ⟨_, _, rfl, fun j u hu => ?_⟩
    have := lies_row (w := w.setCell ⟨b, 1, none⟩ (.int .i64 n)) (xs := chCells [⟨⟨⟨#[]⟩, ⟨#[]⟩⟩, n⟩]) (t := 282) j u hu
    simpa [chCells] using this
  case c2 => exact ch_one _
  case c3 => unfold maxLen; omega
  case c4 => omega
  intro lv' w2 hown2 hg2 hfr2
  obtain ⟨sl', cl', rfl⟩ := slice_len hown2
  have hb2 := kept_block (HR1.out.alloc _) hg2 (alloc_block HB1.out _) HT.out
  have q0 : w2.cell? ⟨b, 0, none⟩ = some (.slice sl log.length cl) := by
    rw [cell_of_row w2 b _ _ _ _ hb2, Array.getElem?_setIfInBounds, if_neg (by decide)]; exact H0.out
  have qf : w2.frozen? ⟨b, 0, none⟩ = false := by simp [World.frozen?, hb2]
  have hE : TabTo w (w2.setCell ⟨b, 0, none⟩ (.slice sl' (log.length + 1) cl')) b cs ((cs.setIfInBounds 1 (.int .i64 n)).setIfInBounds 0 (.slice sl' (log.length + 1) cl')) tP (.slice sl log.length cl) (.slice sl' (log.length + 1) cl') (log ++ [⟨⟨⟨#[]⟩, ⟨#[]⟩⟩, n⟩]) := by
    have hset2 : Chg (fun j => j = b) w2 (w2.setCell ⟨b, 0, none⟩ (.slice sl' (log.length + 1) cl')) := (Chg.refl (fun j => j = b) w2).setCell (p := ⟨b, 0, none⟩) (Or.inr rfl) _
    refine ⟨block_setCell hb2, ?_, ?_, ?_⟩
    · rw [List.length_append, chCells_append]
      exact owns_chg hown2 hset2 (fun j hj e => by subst e; exact owns_ne hown2 hb2 HT.out hj)
    · have t1 : Chg (fun j => j = b ∨ (Value.slice sl log.length cl).ownBlock = some j) w w2 := ((HS.out.mono (fun j _ e => Or.inl e)).alloc _).trans (Chg.of_grown hg2 (fun j hj => Or.inr (Or.inr hj)))
      exact t1.trans (hset2.mono (fun j _ e => Or.inr (Or.inl e)))
    · intro j hj
      have hsz := HS.out.size
      rcases hfr2 with e | e
      · rw [e] at hj; exact Or.inl hj
      · rw [e] at hj; simp at hj; exact Or.inr (by omega)
  have HE := hide hE
  clear hown2 hg2 hfr2 hb2 hE c0 c1 f1
  go_wp2
  refine bodyPost_end (results_none rfl _ _ _) rfl ⟨rfl, _, HE.out⟩
end Go.Proofs.YtghongdbohjaaaaGreatDoor
/-
  sluiceref's tables: added.
-/
namespace Go.Proofs.YtghongdbohjaaaaGreatDoor
open Go.RowKit

theorem tab_added {w w1 w7 : World} {b tP : Nat} {cs : Array Value} {lv lv' : Value} {log : List Ch} {c : Ch} {X : List Value} (hb : w.heap[b]? = some (.cells cs tP (0, 0))) (htP : 282 ≠ tP) (hbel : Below w.heap.size w w1) (hX : X = chCells [c])
    (hown : w7.ownsRow 0 282 3 lv' (log.length + 1) (chCells log ++ X)) (hg : w1.grownBy w7 lv.ownBlock) (happ : Appd w1 w7 lv lv' log.length 1) (hb7 : w7.heap[b]? = some (.cells cs tP (0, 0))) :
    TabTo w (w7.setCell ⟨b, 0, none⟩ lv') b cs (cs.setIfInBounds 0 lv') tP lv lv' (log ++ [c]) := by
  have hset2 : Chg (fun j => j = b) w7 (w7.setCell ⟨b, 0, none⟩ lv') := (Chg.refl (fun j => j = b) w7).setCell (p := ⟨b, 0, none⟩) (Or.inr rfl) _
  have hsz := hbel.size
  refine ⟨block_setCell hb7, ?_, ?_, ?_⟩
  · rw [List.length_append, chCells_append, ← hX]
    exact owns_chg hown hset2 (fun j hj e => by subst e; exact owns_ne hown hb7 htP hj)
  · have t1 : Chg (fun j => j = b ∨ lv.ownBlock = some j) w w7 := (Chg.of_below hbel).trans (Chg.of_grown hg (fun j hj => Or.inr (Or.inr hj)))
    exact t1.trans (hset2.mono (fun j _ e => Or.inr (Or.inl e)))
  · intro j hj
    rcases happ.block with e | e
    · rw [e] at hj; exact Or.inl hj
    · rw [e] at hj; simp at hj; exact Or.inr (by omega)

theorem pair_blk {w : World} {b : Nat} {v0 v1 : Value} {t : TypeId} {fr : Nat × Nat} (h : w.heap[b]? = some (.cells #[v0, v1] t fr)) : w.cell? ⟨b, 0, none⟩ = some v0 ∧ w.cell? ⟨b, 1, none⟩ = some v1 := by
  refine ⟨?_, ?_⟩ <;> rw [cell_of_row w b _ _ _ _ h] <;> rfl

set_option maxRecDepth 100000 in
set_option maxHeartbeats 3200000 in
theorem padded_any (b : Nat) (cs : Array Value) (tP : Nat) (lv : Value) (log : List Ch) (lim : Int) (h : HP) (w : World) (hb : w.heap[b]? = some (.cells cs tP (0, 0))) (htP : 282 ≠ tP) (h0 : cs[0]? = some lv) (h1 : cs[1]? = some (.int .i64 lim))
    (hrow : w.ownsRow 0 282 3 lv log.length (chCells log)) (hl : log.length ≤ 1073741824) :
    Calls Tryz.prog 144 #[.pointer (some ⟨b, 0, none⟩), .agg #[.string h.n, .string h.v]] w fun e w' => e = .returned (.tuple #[]) ∧ ∃ lv', TabTo w w' b cs (cs.setIfInBounds 0 lv') tP lv lv' (log ++ [⟨h, lim⟩]) := by
  obtain ⟨i0, hi, hz0, hz1, hz2⟩ := info_parts Tryz.info282
  obtain ⟨sl, cl, rfl⟩ := slice_len hrow
  obtain ⟨n, v⟩ := h
  simp only
  have hlt := lt_of_block hb
  have c0 : w.cell? ⟨b, 0, none⟩ = some (.slice sl log.length cl) := by rw [cell_of_row w b _ _ _ _ hb]; exact h0
  have c1 : w.cell? ⟨b, 1, none⟩ = some (.int .i64 lim) := by rw [cell_of_row w b _ _ _ _ hb]; exact h1
  have f0 : w.frozen? ⟨b, 0, none⟩ = false := by simp [World.frozen?, hb]
  have HB := hide hb
  have HT := hide htP
  have H0 := hide h0
  obtain ⟨w1, hw1⟩ : ∃ w1, w1 = w.alloc (.cells #[.string n, .string v] 62) := ⟨_, rfl⟩
  have hbel1 : Below w.heap.size w w1 := by rw [hw1]; exact (Below.refl _ _).alloc (Nat.le_refl _) _
  have hrow1 : w1.ownsRow 0 282 3 (.slice sl log.length cl) log.length (chCells log) := owns_chg hrow (Chg.of_below (S := fun _ => False) hbel1) (fun _ _ => id)
  have hb1 : w1.heap[b]? = some (.cells cs tP (0, 0)) := (by rw [hbel1.block b (lt_of_block hb)]; exact hb)
  have hh1 : w1.heap[w.heap.size]? = some (.cells #[.string n, .string v] 62 (0, 0)) := by rw [hw1]; exact heap_alloc_new w _
  obtain ⟨X, hX⟩ : ∃ X, X = chCells [⟨⟨n, v⟩, lim⟩] := ⟨_, rfl⟩
  have HX := hide hX
  have HXL : Hid (X.length = 1 * 3) := by rw [hX]; rfl
  have HONE : Hid (∀ u ∈ X, u.oneCell' = true) := by rw [hX]; exact ch_one _
  have HOWN : Hid ((w1.alloc (.cells #[.string n, .string v, .int .i64 lim] 282)).drew.ownsRow 0 282 3 (.slice sl log.length cl) log.length (chCells log)) := hrow1.alloc _
  have HCEL : Hid (∀ j u, X[j]? = some u → (w1.alloc (.cells #[.string n, .string v, .int .i64 lim] 282)).drew.cell? ((⟨w1.heap.size, 0, none⟩ : Addr).add j) = some u) := by
    subst hX
    exact fun j u hu => lies_row j u hu
  have HBA : Hid ((w1.alloc (.cells #[.string n, .string v, .int .i64 lim] 282)).drew.heap[b]? = some (.cells cs tP (0, 0))) := alloc_block hb1 _
  have HN1 : Hid (log.length + 1 ≤ maxLen) := by show _ ≤ _; unfold maxLen; omega
  have HN2 : Hid ((log.length + 1) * 40 ≤ 140737488355328) := by show _ ≤ _; omega
  have HBL : Hid (Below w.heap.size w (w1.alloc (.cells #[.string n, .string v, .int .i64 lim] 282)).drew) := by
    have h := hbel1.alloc hbel1.size (.cells #[.string n, .string v, .int .i64 lim] 282)
    exact ⟨h.os, h.tape, h.output, h.size, h.block⟩
  have d0 : w1.cell? ⟨b, 0, none⟩ = some (.slice sl log.length cl) := (hbel1.cell (p := ⟨b, 0, none⟩) hlt).trans c0
  have d1 : w1.cell? ⟨b, 1, none⟩ = some (.int .i64 lim) := (hbel1.cell (p := ⟨b, 1, none⟩) hlt).trans c1
  obtain ⟨p0, p1⟩ := pair_blk hh1
  have hb1lt := lt_of_block hb1
  have hh1lt := lt_of_block hh1
  clear hb hrow htP h0 h1 hX c0 c1 f0 hbel1 hrow1 hb1 hh1
  go_enter Tryz.func144, Tryz.ntmps144
  go_wp2
  rw [← hw1]
  clear hw1
  go_region_law (refine step_app_full rfl (.tmp 8) (.tmp 15) 178 rfl 282 i0 (.agg #[.string ⟨#[]⟩, .string ⟨#[]⟩, .int .i64 0]) 3 40 Tryz.underlying178 hi hz0 hz1 hz2 rfl (by decide) (.slice sl log.length cl) log.length (chCells log) (by simp [Act.eval]) HOWN.out ⟨w1.heap.size, 0, none⟩ 1 1 X (by simp [Act.eval]) (by decide) HXL.out HCEL.out HONE.out HN1.out HN2.out ?_; intro lv' w7 hown7 hg7 happ7; obtain ⟨sl', cl', hlv'⟩ := slice_len hown7; subst hlv'; have hb7 := kept_block HOWN.out hg7 HBA.out HT.out; have c7 : w7.cell? ⟨b, 0, none⟩ = some (.slice sl log.length cl) := (by rw [cell_of_row w7 b _ _ _ _ hb7]; exact H0.out); have f7 : w7.frozen? ⟨b, 0, none⟩ = false := (by simp [World.frozen?, hb7]))
  all_goals go_wp2
  all_goals refine bodyPost_end (results_none rfl _ _ _) rfl ⟨rfl, ?_⟩
  all_goals exact ⟨_, tab_added HB.out HT.out HBL.out HX.out hown7 hg7 happ7 hb7⟩
end Go.Proofs.YtghongdbohjaaaaGreatDoor
/-
  sluiceref.pairRight, ListRight.
-/
namespace Go.Proofs.YtghongdbohjaaaaGreatDoor
open Go.RowKit

set_option maxRecDepth 100000 in
set_option maxHeartbeats 1600000 in
theorem pairRight_any (h : HP) (w : World) (hn : h.n.size ≤ 1099511627776) (hv : h.v.size ≤ 1099511627776) :
    Calls Tryz.prog 141 #[.agg #[.string h.n, .string h.v]] w fun e w' => e = .returned (.bool (prB h)) ∧ Below w.heap.size w w' := by
  obtain ⟨n, v⟩ := h
  simp only at hn hv
  have hpr : prB ⟨n, v⟩ = (!n.toList.isEmpty && decide (n.size ≤ 40) && decide (v.size ≤ 40)) := rfl
  have HPR := hide hpr
  clear hpr
  cases he : n.toList.isEmpty with
  | true =>
    go_enter Tryz.func141, Tryz.ntmps141
    go_wp2
    go_ret
    refine ⟨?_, (Below.refl _ _).alloc (Nat.le_refl _) _⟩
    rw [HPR.out, he]
    rfl
  | false =>
    by_cases h1 : n.size ≤ 40
    · by_cases h2 : v.size ≤ 40
      · go_enter Tryz.func141, Tryz.ntmps141
        go_wp2
        go_ret
        refine ⟨?_, (Below.refl _ _).alloc (Nat.le_refl _) _⟩
        rw [HPR.out, he, decide_eq_true h1, decide_eq_true h2]
        show Ending.returned (.bool (decide ((v.size : Int) ≤ 40))) = _
        rw [decide_eq_true (by omega)]
        rfl
      · go_enter Tryz.func141, Tryz.ntmps141
        go_wp2
        go_ret
        refine ⟨?_, (Below.refl _ _).alloc (Nat.le_refl _) _⟩
        rw [HPR.out, he, decide_eq_true h1, decide_eq_false h2]
        show Ending.returned (.bool (decide ((v.size : Int) ≤ 40))) = _
        rw [decide_eq_false (by omega)]
        rfl
    · go_enter Tryz.func141, Tryz.ntmps141
      go_wp2
      go_ret
      refine ⟨?_, (Below.refl _ _).alloc (Nat.le_refl _) _⟩
      rw [HPR.out, he, decide_eq_false h1]
      rfl

/-- A list of pairs, as it lies. -/
structure HsA (w : World) (sa : Option Addr) (hs : List HP) : Prop where
  cell : ∀ k (_ : k < hs.length), ∃ hb off, sa = some ⟨hb, off, none⟩ ∧ hb < w.heap.size ∧ w.cell? ⟨hb, off + k * 2, none⟩ = some (.string hs[k].n) ∧ w.cell? ⟨hb, off + k * 2 + 1, none⟩ = some (.string hs[k].v)
  ok : ∀ h ∈ hs, h.n.size ≤ 1048576 ∧ h.v.size ≤ 1048576

theorem HsA.below {w w' : World} {sa : Option Addr} {hs : List HP} (h : HsA w sa hs) (hb : Below w.heap.size w w') : HsA w' sa hs := by
  refine ⟨fun k hk => ?_, h.ok⟩
  obtain ⟨g, off, he, hl, a, c⟩ := h.cell k hk
  exact ⟨g, off, he, Nat.lt_of_lt_of_le hl hb.size, (hb.cell (p := ⟨g, off + k * 2, none⟩) hl).trans a, (hb.cell (p := ⟨g, off + k * 2 + 1, none⟩) hl).trans c⟩

set_option maxRecDepth 100000 in
set_option maxHeartbeats 1600000 in
theorem ListRight_any (sa : Option Addr) (cap : Nat) (hs : List HP) (w : World) (h : HsA w sa hs) (hl : hs.length ≤ 1073741824) :
    Calls Tryz.prog 80 #[.slice sa hs.length cap] w fun e w' => e = .returned (.bool (listB hs)) ∧ Below w.heap.size w w' := by
  have H := hide h
  clear h
  by_cases h8 : hs.length ≤ 8
  · have hlb : listB hs = hs.all prB := by unfold listB; rw [decide_eq_true h8]; simp
    have HLB := hide hlb
    clear hlb
    go_enter Tryz.func80, Tryz.ntmps80
    go_wp2
    go_loopw [3] (fun i wr => ∃ k : Nat, k ≤ hs.length ∧ i = .int .i64 k ∧ hs.all prB = (hs.drop k).all prB ∧ Below w.heap.size w wr) (fun i _ => hs.length - (intOf i).toNat)
    case atStart => exact ⟨0, Nat.zero_le _, rfl, rfl, Below.refl _ _⟩
    case round =>
      obtain ⟨k, hk, rfl, hall, hbel⟩ := hrel
      by_cases hlt : k < hs.length
      · obtain ⟨g, off, he, hg, q0, q1⟩ := (H.out.below hbel).cell k hlt
        subst he
        obtain ⟨z1, z2⟩ := H.out.ok hs[k] (List.getElem_mem _)
        rw [List.drop_eq_getElem_cons hlt, List.all_cons] at hall
        have hpr := pairRight_any hs[k] wr (Nat.le_trans z1 (by decide)) (Nat.le_trans z2 (by decide))
        generalize hs[k] = h at q0 q1 hall hpr
        obtain ⟨n, v⟩ := h
        simp only at q0 q1 hpr
        have HPR := hide hpr
        have HAL := hide hall
        have HBE := hide hbel
        clear hpr hall z1 z2
        go_wp2_with fail
        refine HPR.out.mono ?_
        rintro e w1 ⟨rfl, hb1⟩
        have HB1 := hide (HBE.out.trans (hb1.mono HBE.out.size))
        clear hb1 q0 q1 HPR
        cases hp : prB ⟨n, v⟩ with
        | true =>
          have HA2 : Hid (hs.all prB = (hs.drop (k + 1)).all prB) := by
            have h := HAL.out
            rw [hp, Bool.true_and] at h
            exact h
          clear hp
          go_wp2
          go_roundw
          case rel => exact ⟨k + 1, by omega, by go_num, HA2.out, HB1.out⟩
          case measure => simp [intOf]; omega
        | false =>
          have HA2 : Hid (listB hs = false) := by
            have h := HAL.out
            rw [hp, Bool.false_and] at h
            show _ = _
            rw [HLB.out, h]
          clear hp
          go_wp2
          go_ret
          refine ⟨?_, HB1.out⟩
          rw [HA2.out]
          rfl
      · have hke : k = hs.length := by omega
        subst hke
        have HA2 : Hid (listB hs = true) := by
          show _ = _
          rw [HLB.out, hall]
          simp
        clear hall
        go_wp2
        go_ret
        refine ⟨?_, hbel⟩
        rw [HA2.out]
        rfl
  · have hlb : listB hs = false := by unfold listB; rw [decide_eq_false h8]; rfl
    have HLB := hide hlb
    clear hlb
    go_enter Tryz.func80, Tryz.ntmps80
    go_wp2
    go_ret
    refine ⟨?_, Below.refl _ _⟩
    rw [HLB.out]
    rfl
end Go.Proofs.YtghongdbohjaaaaGreatDoor
/-
  Bits, as the document's own answer writes them: texts of 0 and 1.
-/
namespace Go.Proofs.YtghongdbohjaaaaGreatDoor
open Go.RowKit

/-- A text of bits. -/
def bitC (b : Bool) : UInt8 := if b then 49 else 48
def sB (l : List Bool) : ByteArray := ⟨(l.map bitC).toArray⟩
theorem sB_append (a b : List Bool) : sB a ++ sB b = sB (a ++ b) := by
  unfold sB
  rw [List.map_append]
  apply ByteArray.ext
  simp

theorem sB_size (l : List Bool) : (sB l).size = l.length := by simp [sB, ByteArray.size]

set_option maxRecDepth 100000 in
set_option maxHeartbeats 1600000 in
theorem bitsOf_any (v k : Nat) (w : World) (hv : v ≤ 1099511627776) (hk : k ≤ 1024) :
    Calls Tryz.prog 142 #[.int .i64 v, .int .i64 k] w fun e w' => e = .returned (.string (sB (natBits k v))) ∧ w' = w := by
  go_enter Tryz.func142, Tryz.ntmps142
  go_wp2
  go_loop [0, 5, 6] (fun x t i => ∃ j : Nat, j ≤ k ∧ i = .int .i64 j ∧ x = .int .i64 ((v / 2 ^ j : Nat) : Int) ∧ t = .string (sB (natBits j v))) (fun _ _ i => k - (intOf i).toNat)
  case atStart => exact ⟨0, Nat.zero_le _, rfl, by simp, rfl⟩
  case round =>
    obtain ⟨j, hj, rfl, rfl, rfl⟩ := hrel
    by_cases hlt : j < k
    · have hx : v / 2 ^ j ≤ 1099511627776 := Nat.le_trans (Nat.div_le_self _ _) hv
      have hd : v / 2 ^ j / 2 = v / 2 ^ (j + 1) := by rw [Nat.div_div_eq_div_mul, Nat.pow_succ]
      have hb := natBits_high j v
      obtain ⟨x, hxe⟩ : ∃ x, x = v / 2 ^ j := ⟨_, rfl⟩
      obtain ⟨T, hT⟩ : ∃ T, T = sB (natBits j v) := ⟨_, rfl⟩
      rw [← hxe] at hx hd hb ⊢
      rw [← hT]
      have hsz : T.size ≤ 1024 := by rw [hT, sB_size, natBits_length]; omega
      have HD := hide hd
      have HB := hide hb
      have HT := hide hT
      clear hd hb hT hxe
      by_cases h1 : x % 2 = 1
      · have h1' : (x : Int) % 2 = 1 := by omega
        have HE : Hid (ByteArray.mk #[49] ++ T = sB (natBits (j + 1) v)) := by
          show sB [true] ++ T = _
          rw [HT.out, HB.out, show (x % 2 == 1) = true by simp [h1], sB_append]
          rfl
        go_wp2
        go_round
        case rel => exact ⟨j + 1, by omega, by go_num, by rw [← HD.out]; go_num, by rw [← HE.out]⟩
        case measure => simp [intOf]; omega
      · have h1' : (x : Int) % 2 = 0 := by omega
        have HE : Hid (ByteArray.mk #[48] ++ T = sB (natBits (j + 1) v)) := by
          show sB [false] ++ T = _
          rw [HT.out, HB.out, show (x % 2 == 1) = false by simp [h1], sB_append]
          rfl
        go_wp2
        go_round
        case rel => exact ⟨j + 1, by omega, by go_num, by rw [← HD.out]; go_num, by rw [← HE.out]⟩
        case measure => simp [intOf]; omega
    · have hjk : j = k := by omega
      subst hjk
      go_wp2
      go_ret
      exact ⟨rfl, rfl⟩
end Go.Proofs.YtghongdbohjaaaaGreatDoor
/-
  sluiceref.valueOf, place, begins.
-/
namespace Go.Proofs.YtghongdbohjaaaaGreatDoor
open Go.RowKit

theorem sB_get {l : List Bool} {k : Nat} (h : k < l.length) : (sB l)[k]'(by rw [sB_size]; exact h) = bitC l[k] := by
  unfold sB
  show ((l.map bitC).toArray)[k]'(by simpa using h) = _
  simp

set_option maxRecDepth 100000 in
set_option maxHeartbeats 1600000 in
theorem valueOf_any (l : List Bool) (w : World) (hl : l.length ≤ 32) :
    Calls Tryz.prog 146 #[.string (sB l)] w fun e w' => e = .returned (.int .i64 (valB l)) ∧ w' = w := by
  obtain ⟨T, hT⟩ : ∃ T, T = sB l := ⟨_, rfl⟩
  have hsz : T.size = l.length := by rw [hT, sB_size]
  rw [← hT]
  have HT := hide hT
  clear hT
  go_enter Tryz.func146, Tryz.ntmps146
  go_wp2
  go_loop [3, 4] (fun v i => ∃ k : Nat, k ≤ l.length ∧ i = .int .i64 k ∧ v = .int .i64 (valB (l.take k))) (fun _ i => l.length - (intOf i).toNat)
  case atStart => exact ⟨0, Nat.zero_le _, rfl, by simp [valB]⟩
  case round =>
    obtain ⟨k, hk, rfl, rfl⟩ := hrel
    by_cases hlt : k < l.length
    · have hv : valB (l.take k) ≤ 4294967296 := by
        have h1 := valB_lt (l.take k)
        have h2 : 2 ^ (l.take k).length ≤ 2 ^ 32 := Nat.pow_le_pow_right (by omega) (by simp; omega)
        omega
      have hnx : valB (l.take (k + 1)) = 2 * valB (l.take k) + l[k].toNat := by rw [List.take_succ_eq_append_getElem hlt, valB_next]
      generalize valB (l.take k) = v at hv hnx ⊢
      have hkT : k < T.size := by omega
      have hT : T[k] = bitC l[k] := by
        have h1 : ∀ (U : ByteArray) (hu : k < U.size), U = sB l → U[k] = bitC l[k] := by
          intro U hu e
          subst e
          exact sB_get hlt
        exact h1 T hkT HT.out
      have HNX := hide hnx
      clear hnx
      cases hb : l[k] with
      | true =>
        have hc : ((T[k].toNat : Int) == 49) = true := by rw [hT, hb]; rfl
        have HB := hide hb
        clear hT hb
        go_wp2
        go_round
        case rel => exact ⟨k + 1, by omega, by go_num, by rw [HNX.out, HB.out]; go_num⟩
        case measure => simp [intOf]; omega
      | false =>
        have hc : ((T[k].toNat : Int) == 49) = false := by rw [hT, hb]; rfl
        have HB := hide hb
        clear hT hb
        go_wp2
        go_round
        case rel => exact ⟨k + 1, by omega, by go_num, by rw [HNX.out, HB.out]; go_num⟩
        case measure => simp [intOf]; omega
    · have hke : k = l.length := by omega
      subst hke
      go_wp2
      go_ret
      exact ⟨rfl, rfl⟩
end Go.Proofs.YtghongdbohjaaaaGreatDoor
/-
  sluiceref.place, codeOf.
-/
namespace Go.Proofs.YtghongdbohjaaaaGreatDoor
open Go.RowKit

def plI (l : List UInt8) (c : UInt8) : Int := match pl l c with
  | some k => k
  | none => -1

theorem tx_get {T : ByteArray} {l : List UInt8} {k : Nat} (hT : T = ⟨l.toArray⟩) (h : k < l.length) (h' : k < T.size) : T[k] = l[k] := by
  subst hT
  show (l.toArray)[k]'(by simpa using h) = _
  simp

set_option maxRecDepth 100000 in
set_option maxHeartbeats 1600000 in
theorem place_any (l : List UInt8) (c : UInt8) (w : World) (hl : l.length ≤ 1024) :
    Calls Tryz.prog 339 #[.string ⟨l.toArray⟩, B c] w fun e w' => e = .returned (.int .i64 (plI l c)) ∧ w' = w := by
  obtain ⟨T, hT⟩ : ∃ T, T = ByteArray.mk l.toArray := ⟨_, rfl⟩
  have hsz : T.size = l.length := by rw [hT]; simp [ByteArray.size]
  rw [← hT]
  have HT := hide hT
  unfold B
  clear hT
  go_enter Tryz.func339, Tryz.ntmps339
  go_wp2
  go_loop [5] (fun i => ∃ k : Nat, k ≤ l.length ∧ i = .int .i64 k ∧ ∀ j (h : j < l.length), j < k → l[j] ≠ c) (fun i => l.length - (intOf i).toNat)
  case atStart => exact ⟨0, Nat.zero_le _, rfl, fun j _ h => by omega⟩
  case round =>
    obtain ⟨k, hk, rfl, hno⟩ := hrel
    have HNO := hide hno
    clear hno
    by_cases hlt : k < l.length
    · have hkT : k < T.size := by omega
      have hT := tx_get HT.out hlt hkT
      by_cases hc : l[k] = c
      · have hb : ((T[k].toNat : Int) == (c.toNat : Int)) = true := by rw [hT, hc]; simp
        have hpl : plI l c = k := by
          have : pl l c = some k := List.findIdx?_eq_some_iff_getElem.2 ⟨hlt, by simp [hc], fun j hj => by have := HNO.out j (by omega) hj; simpa using this⟩
          unfold plI; rw [this]
        have HP := hide hpl
        clear hT hpl hc
        go_wp2
        go_ret
        exact ⟨by rw [HP.out]; rfl, rfl⟩
      · have hb : ((T[k].toNat : Int) == (c.toNat : Int)) = false := by
          rw [hT]
          simp only [beq_eq_false_iff_ne, ne_eq, Int.natCast_inj]
          intro e
          exact hc (UInt8.toNat_inj.1 e)
        have HC := hide hc
        clear hT hc
        go_wp2
        go_round
        case rel => exact ⟨k + 1, by omega, by go_num, fun j h hj => by
          by_cases e : j = k
          · subst e; exact HC.out
          · exact HNO.out j h (by omega)⟩
        case measure => simp [intOf]; omega
    · have hpl : plI l c = -1 := by
        have : pl l c = none := List.findIdx?_eq_none_iff.2 fun x hx => by
          obtain ⟨j, hj, rfl⟩ := List.mem_iff_getElem.1 hx
          have := HNO.out j hj (by omega)
          simpa using this
        unfold plI; rw [this]
      have HP := hide hpl
      clear hpl
      go_wp2
      go_ret
      exact ⟨by rw [HP.out]; rfl, rfl⟩

set_option maxRecDepth 100000 in
set_option maxHeartbeats 1600000 in
theorem codeOf_any (c : UInt8) (w : World) :
    Calls Tryz.prog 291 #[B c] w fun e w' => e = .returned (.string (sB (codeB c))) ∧ w' = w := by
  have p1 := fun w => place_any oft c w (by decide)
  have p2 := fun w => place_any sel c w (by decide)
  have HP1 := hide p1
  have HP2 := hide p2
  have hcl : c.toNat ≤ 255 := Nat.le_of_lt_succ c.toNat_lt
  clear p1 p2
  cases h1 : pl oft c with
  | some k =>
    have hk : k < 8 := pl_lt h1
    have hi : plI oft c = k := by unfold plI; rw [h1]
    have hcd : codeB c = [false] ++ natBits 3 k := by unfold codeB; rw [h1]
    have hs : (sB (natBits 3 k)).size ≤ 16 := by rw [sB_size, natBits_length]; omega
    have HI := hide hi
    rw [hcd, ← sB_append]
    clear h1 hi hcd
    generalize hT : sB (natBits 3 k) = T at hs ⊢
    have HT := hide hT
    clear hT
    unfold B at HP1 HP2 ⊢
    go_enter Tryz.func291, Tryz.ntmps291
    go_wp2_with fail
    refine (HP1.out w).mono ?_
    rintro e w' ⟨he, hw'⟩
    rw [HI.out] at he
    subst he
    rw [hw']
    clear hw' w'
    go_wp2_with fail
    refine (bitsOf_any k 3 w (by omega) (by omega)).mono ?_
    rintro e w' ⟨he, hw'⟩
    rw [HT.out] at he
    subst he
    rw [hw']
    clear hw' w'
    go_wp2
    go_ret
    exact ⟨rfl, rfl⟩
  | none =>
    have hi : plI oft c = -1 := by unfold plI; rw [h1]
    have HI := hide hi
    clear hi
    cases h2 : pl sel c with
    | some k =>
      have hk : k < 16 := pl_lt h2
      have hi2 : plI sel c = k := by unfold plI; rw [h2]
      have hcd : codeB c = [true, false] ++ natBits 4 k := by unfold codeB; rw [h1, h2]
      have hs : (sB (natBits 4 k)).size ≤ 16 := by rw [sB_size, natBits_length]; omega
      have HI2 := hide hi2
      rw [hcd, ← sB_append]
      clear h1 h2 hi2 hcd
      generalize hT : sB (natBits 4 k) = T at hs ⊢
      have HT := hide hT
      clear hT
      unfold B at HP1 HP2 ⊢
      go_enter Tryz.func291, Tryz.ntmps291
      go_wp2_with fail
      refine (HP1.out w).mono ?_
      rintro e w' ⟨he, hw'⟩
      rw [HI.out] at he
      subst he
      rw [hw']
      clear hw' w'
      go_wp2_with fail
      refine (HP2.out w).mono ?_
      rintro e w' ⟨he, hw'⟩
      rw [HI2.out] at he
      subst he
      rw [hw']
      clear hw' w'
      go_wp2_with fail
      refine (bitsOf_any k 4 w (by omega) (by omega)).mono ?_
      rintro e w' ⟨he, hw'⟩
      rw [HT.out] at he
      subst he
      rw [hw']
      clear hw' w'
      go_wp2
      go_ret
      exact ⟨rfl, rfl⟩
    | none =>
      have hi2 : plI sel c = -1 := by unfold plI; rw [h2]
      have hcd : codeB c = [true, true] ++ natBits 8 c.toNat := by unfold codeB; rw [h1, h2]
      have hs : (sB (natBits 8 c.toNat)).size ≤ 16 := by rw [sB_size, natBits_length]; omega
      have HI2 := hide hi2
      rw [hcd, ← sB_append]
      clear h1 h2 hi2 hcd
      generalize hT : sB (natBits 8 c.toNat) = T at hs ⊢
      have HT := hide hT
      clear hT
      unfold B at HP1 HP2 ⊢
      go_enter Tryz.func291, Tryz.ntmps291
      go_wp2_with fail
      refine (HP1.out w).mono ?_
      rintro e w' ⟨he, hw'⟩
      rw [HI.out] at he
      subst he
      rw [hw']
      clear hw' w'
      go_wp2_with fail
      refine (HP2.out w).mono ?_
      rintro e w' ⟨he, hw'⟩
      rw [HI2.out] at he
      subst he
      rw [hw']
      clear hw' w'
      go_wp2_with fail
      refine (bitsOf_any c.toNat 8 w (by omega) (by omega)).mono ?_
      rintro e w' ⟨he, hw'⟩
      rw [HT.out] at he
      subst he
      rw [hw']
      clear hw' w'
      go_wp2
      go_ret
      exact ⟨rfl, rfl⟩
end Go.Proofs.YtghongdbohjaaaaGreatDoor
/-
  sluiceref.toBytes.
-/
namespace Go.Proofs.YtghongdbohjaaaaGreatDoor
open Go.RowKit

theorem sB_extract (l : List Bool) (a b : Nat) : (sB l).extract a b = sB ((l.drop a).take (b - a)) := by
  unfold sB
  apply ByteArray.ext
  rw [ByteArray.data_extract]
  apply Array.toList_inj.1
  simp [List.extract, List.map_drop, List.map_take]

def tbK (l : List Bool) (k : Nat) : List Value := ((bytesB l).take k).map B ++ (List.replicate (l.length / 8) (Value.int .u8 0)).drop k
theorem tbK_zero (l : List Bool) : tbK l 0 = List.replicate (l.length / 8) (Value.int .u8 0) := by simp [tbK]
theorem tbK_all (l : List Bool) : tbK l (l.length / 8) = (bytesB l).map B := by
  unfold tbK
  rw [List.drop_of_length_le (by simp), List.take_of_length_le (by rw [bytesB_length]; omega)]
  simp
theorem tbK_length (l : List Bool) {k : Nat} (h : k ≤ l.length / 8) : (tbK l k).length = l.length / 8 := by
  unfold tbK
  simp [bytesB_length]; omega
theorem tbK_succ (l : List Bool) {k : Nat} (h : k < l.length / 8) : (tbK l k).set k (B (UInt8.ofNat (valB ((l.drop (8 * k)).take 8)))) = tbK l (k + 1) := by
  unfold tbK
  have hb : k < (bytesB l).length := by rw [bytesB_length]; exact h
  rw [set_next _ (by simp [bytesB_length]; omega) (by simpa using h)]
  rw [List.take_succ_eq_append_getElem hb, List.map_append]
  simp [bytesB]

set_option maxRecDepth 100000 in
set_option maxHeartbeats 1600000 in
theorem toBytes_any (l : List Bool) (w : World) (hl : l.length ≤ 16777216) :
    Calls Tryz.prog 84 #[.string (sB l)] w fun e w' => ∃ v, e = .returned v ∧ w'.ownsRow w.heap.size 5 1 v (l.length / 8) ((bytesB l).map B) ∧ Below w.heap.size w w' := by
  obtain ⟨i0, hi, hz0, hz1, hz2⟩ := info_parts Tryz.info5
  obtain ⟨T, hT⟩ : ∃ T, T = sB l := ⟨_, rfl⟩
  have hsz : T.size = l.length := by rw [hT, sB_size]
  obtain ⟨n, hn⟩ : ∃ n, n = l.length / 8 := ⟨_, rfl⟩
  have hn8 : n * 8 ≤ l.length ∧ l.length < n * 8 + 8 := by omega
  rw [← hT, ← hn]
  have HT := hide hT
  have HN := hide hn
  clear hT hn
  go_enter Tryz.func84, Tryz.ntmps84
  go_wp2_with (at_make; refine wpList_make_full _ rfl _ _ 54 rfl w.heap.size 5 i0 (.int .u8 0) 1 Tryz.underlying54 hi hz0 hz1 _ _ _ _ n rfl rfl ?m1 ?m2 ?m3 ?m4 ?m5 ?_)
  case m1 => omega
  case m2 => omega
  case m3 => rw [hz2]; omega
  case m4 => unfold maxLen; omega
  case m5 => simp
  intro w1 hown1 hg1
  have hbel1 : Below w.heap.size w w1 := (Below.refl _ _).grown hg1 (Nat.le_refl _) (fun k h => by cases h)
  have hh := made_list hown1
  have HH := hide hh
  have HB := hide hbel1
  clear hown1 hg1 hh hbel1
  go_wp2
  go_loopw [4] (fun i wr => ∃ k : Nat, k ≤ n ∧ i = .int .i64 k ∧ Below w.heap.size w wr ∧ wr.heap[w.heap.size]? = some (.cells (tbK l k).toArray 5 (0, 0))) (fun i _ => n - (intOf i).toNat)
  case atStart => exact ⟨0, Nat.zero_le _, rfl, HB.out, by rw [tbK_zero, ← HN.out]; exact HH.out⟩
  case round =>
    obtain ⟨k, hk, rfl, hbel, hrow⟩ := hrel
    by_cases hlt : k < n
    · have HR := hide hrow
      have HBE := hide hbel
      clear hrow
      have hx : T.extract (8 * k) (8 * k + 8) = sB ((l.drop (8 * k)).take 8) := by rw [HT.out, sB_extract]; congr 2; omega
      have hp8 : ((l.drop (8 * k)).take 8).length = 8 := by simp; omega
      have hva := valueOf_any ((l.drop (8 * k)).take 8) wr (by omega)
      rw [← hx] at hva
      have hv8 := valB_lt ((l.drop (8 * k)).take 8)
      rw [hp8] at hv8
      obtain ⟨cv, hc⟩ : ∃ cv, wr.cell? ⟨w.heap.size, k, none⟩ = some cv := ⟨_, by rw [row_cell HR.out, List.getElem?_eq_getElem (by rw [tbK_length l (by have := HN.out; omega)]; have := HN.out; omega)]⟩
      have hfz := row_free (i := k) HR.out
      have HS := hide (row_set (i := k) (u := B (UInt8.ofNat (valB ((l.drop (8 * k)).take 8)))) HR.out)
      have hbv : B (UInt8.ofNat (valB ((l.drop (8 * k)).take 8))) = .int .u8 (valB ((l.drop (8 * k)).take 8) : Nat) := by
        unfold B
        rw [UInt8.toNat_ofNat']
        congr 2
        omega
      rw [hbv] at HS
      have HBV := hide hbv
      have HVA := hide hva
      have HNX := hide (tbK_succ l (k := k) (by have := HN.out; omega))
      generalize valB ((l.drop (8 * k)).take 8) = x at hv8 HS HBV HVA HNX
      clear hx hp8 hva hbv
      go_wp2_with fail
      refine HVA.out.mono ?_
      rintro e w' ⟨rfl, hw'⟩
      rw [hw']
      clear hw' w' HVA
      go_wp2
      go_roundw
      case rel => exact ⟨k + 1, by omega, by go_num, HBE.out.setCell (Nat.le_refl _) _, by rw [← HNX.out, HBV.out]; exact HS.out⟩
      case measure => simp [intOf]; omega
    · have hkn : k = n := by omega
      subst hkn
      have hown := owns_row (b := w.heap.size) hrow (by rw [HN.out, tbK_length _ (Nat.le_refl _)]; unfold maxLen; omega) (Nat.le_refl _)
      rw [HN.out, tbK_length _ (Nat.le_refl _), tbK_all, ← HN.out] at hown
      have HO := hide hown
      clear hown hrow
      go_wp2
      go_ret
      exact ⟨_, rfl, HO.out, hbel⟩
end Go.Proofs.YtghongdbohjaaaaGreatDoor
/-
  sluiceref.toBits.
-/
namespace Go.Proofs.YtghongdbohjaaaaGreatDoor
open Go.RowKit

/-- The row of bits, as far as it is written. -/
def tiK (l : List UInt8) (k : Nat) : List Value := ((bitsB (l.take k)).map bitC).map B ++ (List.replicate (8 * l.length) (Value.int .u8 0)).drop (8 * k)
theorem tiK_zero (l : List UInt8) : tiK l 0 = List.replicate (8 * l.length) (Value.int .u8 0) := by simp [tiK, bitsB]
theorem tiK_all (l : List UInt8) : tiK l l.length = ((bitsB l).map bitC).map B := by
  unfold tiK
  rw [List.drop_of_length_le (by simp), List.take_length]
  simp
theorem tiK_length (l : List UInt8) {k : Nat} (h : k ≤ l.length) : (tiK l k).length = 8 * l.length := by
  unfold tiK
  simp [bitsB_length]; omega
theorem tiK_next (l : List UInt8) {k : Nat} (h : k < l.length) : (tiK l k).take (8 * k) ++ (((natBits 8 l[k].toNat).map bitC).map B ++ (tiK l k).drop (8 * k + 8)) = tiK l (k + 1) := by
  have hL : (((bitsB (l.take k)).map bitC).map B).length = 8 * k := by simp [bitsB_length]; omega
  unfold tiK
  rw [List.take_left' hL, List.drop_append, hL, List.drop_of_length_le (by omega), bitsB_next h]
  simp only [List.nil_append, List.map_append, List.append_assoc, List.drop_drop]
  congr 3
  omega

theorem wpList_copy_strat {P : Program} {w : World} {ops : Array Oper} {rest : List Oper} {o : Oper} {a : Act} {Q : Exit → Act → World → Prop} (hgd : o.guard = none) (d s : Operand) (dT sT : TypeId)
    (ho : o.op = .call { callee := .builtin .copy, args := #[d, s], argTypes := #[dT, sT] }) (elem : TypeId) (hu : P.underlying dT = some (.slice elem)) (hsz : (P.info? elem).map (·.size) = some 1)
    (g off dLen dCap : Nat) (str : ByteArray) (hd : a.eval d = .slice (some ⟨g, off, none⟩) dLen dCap) (hs : a.eval s = .string str)
    (cur : List Value) (t : TypeId) (hg : w.heap[g]? = some (.cells cur.toArray t (0, 0))) (hle : str.size ≤ dLen) (hfit : off + str.size ≤ cur.length) (b : Nat) (w0 : World) (hb : Below b w0 w) (hbg : b ≤ g)
    (h : ∀ w', Hid (w'.heap[g]? = some (.cells (cur.take off ++ (str.data.toList.map B ++ cur.drop (off + str.size))).toArray t (0, 0))) → Below b w0 w' → wpList P ops Q rest (a.put o.dst (goInt str.size)) w') :
    wpList P ops Q (o :: rest) a w := by
  refine wpList_plain hgd fun K hK => ?_
  have hr := Lib.run_copy_row_string (P := P) w dT sT o.type elem g off dLen dCap str cur.toArray t hu hsz hg hle (by simpa using hfit)
  unfold Oper.wp execOp
  simp only [ho, resolve, invoke, builtin, Sem.run_bind, Sem.run_pure, Result.andThen_ok, List.map_toArray, List.map_cons, List.map_nil, hd, hs, hr]
  refine hK _ _ (h _ ?_ (below_setRow hb hbg _))
  show _ = _
  rw [setRow_heap w g _ _ t _ hg]
  simp [Lib.byteCells]

set_option maxRecDepth 100000 in
set_option maxHeartbeats 1600000 in
theorem toBits_any (sa : Option Addr) (cap : Nat) (l : List UInt8) (w : World) (h : BytesA w (.slice sa l.length cap) l) (hl : l.length ≤ 1048576) :
    Calls Tryz.prog 218 #[.slice sa l.length cap] w fun e w' => e = .returned (.string (sB (bitsB l))) ∧ Below w.heap.size w w' := by
  obtain ⟨i0, hi, hz0, hz1, hz2⟩ := info_parts Tryz.info5
  have hsz : (Tryz.prog.info? 5).map (·.size) = some 1 := by rw [hi]; simp [hz1]
  have H := hide h
  clear h
  go_enter Tryz.func218, Tryz.ntmps218
  go_wp2_with (at_make; refine wpList_make_full _ rfl _ _ 54 rfl w.heap.size 5 i0 (.int .u8 0) 1 Tryz.underlying54 hi hz0 hz1 _ _ _ _ (8 * l.length) rfl rfl ?m1 ?m2 ?m3 ?m4 ?m5 ?_)
  case m1 => go_num
  case m2 => go_num
  case m3 => rw [hz2]; omega
  case m4 => unfold maxLen; omega
  case m5 => simp
  intro w1 hown1 hg1
  have hbel1 : Below w.heap.size w w1 := (Below.refl _ _).grown hg1 (Nat.le_refl _) (fun k h => by cases h)
  have hh := made_list hown1
  have HH := hide hh
  have HB := hide hbel1
  clear hown1 hg1 hh hbel1
  go_wp2
  go_loopw [4] (fun i wr => ∃ k : Nat, k ≤ l.length ∧ i = .int .i64 k ∧ Below w.heap.size w wr ∧ wr.heap[w.heap.size]? = some (.cells (tiK l k).toArray 5 (0, 0))) (fun i _ => l.length - (intOf i).toNat)
  case atStart => exact ⟨0, Nat.zero_le _, rfl, HB.out, by rw [tiK_zero]; exact HH.out⟩
  case round =>
    obtain ⟨k, hk, rfl, hbel, hrow⟩ := hrel
    by_cases hlt : k < l.length
    · obtain ⟨bb, off, hsa, hbb, hca, hcell⟩ := BytesA.cell H.out hlt
      subst hsa
      have hc := (hbel.cell (p := ⟨bb, off + k, none⟩) hbb).trans hcell
      have hx : (l.getD k 0).toNat ≤ 255 := Nat.le_of_lt_succ (l.getD k 0).toNat_lt
      have hgd : l.getD k 0 = l[k] := getD_lt _ _ _ hlt
      have hnx := tiK_next l hlt
      rw [← hgd] at hnx
      have hbs : (sB (natBits 8 (l.getD k 0).toNat)).data.toList.map B = ((natBits 8 (l.getD k 0).toNat).map bitC).map B := by simp [sB]
      rw [← hbs] at hnx
      have hbo := bitsOf_any (l.getD k 0).toNat 8 wr (by omega) (by omega)
      have hss : (sB (natBits 8 (l.getD k 0).toNat)).size = 8 := by rw [sB_size, natBits_length]
      generalize (l.getD k 0).toNat = x at hc hx hnx hbo hss
      generalize sB (natBits 8 x) = S at hnx hbo hss
      have HNX := hide hnx
      have HBO := hide hbo
      have HSS := hide hss
      have HR := hide hrow
      have HTL := hide (tiK_length l hk)
      have HBE := hide hbel
      clear hcell hgd hnx hbs hbo hss hrow
      go_wp2_with fail
      refine HBO.out.mono ?_
      rintro e w' ⟨rfl, hw'⟩
      rw [hw']
      clear hw' w' HBO
      have hne : ¬ 8 * l.length = 8 * k := by omega
      go_wp2_with (refine wpList_copy_strat rfl (.tmp 25) (.tmp 26) 54 9 rfl 5 Tryz.underlying54 hsz w.heap.size (8 * k) (8 * l.length - 8 * k) (8 * l.length - 8 * k) S rfl rfl (tiK l k) 5 HR.out ?c1 ?c2 w.heap.size w HBE.out (Nat.le_refl _) ?_)
      case c1 => rw [HSS.out]; omega
      case c2 => rw [HSS.out, HTL.out]; omega
      intro w2 hg2 hb2
      rw [HSS.out] at hg2
      have HG2 : Hid (w2.heap[w.heap.size]? = some (.cells (tiK l (k + 1)).toArray 5 (0, 0))) := by
        have h := hg2.out
        rw [HNX.out] at h
        exact h
      clear hg2
      go_wp2
      go_roundw
      case rel => exact ⟨k + 1, by omega, by go_num, hb2, HG2.out⟩
      case measure => simp [intOf]; omega
    · have hkn : k = l.length := by omega
      subst hkn
      have hown := owns_row (b := w.heap.size) hrow (by rw [tiK_length _ (Nat.le_refl _)]; unfold maxLen; omega) (Nat.le_refl _)
      rw [tiK_length _ (Nat.le_refl _), tiK_all] at hown
      have hby := conv_bytes (bytesIn_of_owns hown (by simp [bitsB_length]))
      clear hown hrow
      go_wp2
      go_ret
      exact ⟨rfl, hbel⟩
end Go.Proofs.YtghongdbohjaaaaGreatDoor
/-
  sluiceref.packed.
-/
namespace Go.Proofs.YtghongdbohjaaaaGreatDoor
open Go.RowKit

def strLen : Value → Nat
  | .string s => s.size
  | _ => 0

set_option maxRecDepth 100000 in
set_option maxHeartbeats 1600000 in
theorem packed_any (t : List UInt8) (w : World) (hl : t.length ≤ 1048576) :
    Calls Tryz.prog 217 #[.string ⟨t.toArray⟩] w fun e w' => ∃ v, e = .returned v ∧ w'.ownsRow w.heap.size 5 1 v ((packB t).length / 8) ((bytesB (packB t)).map B) ∧ Below w.heap.size w w' := by
  obtain ⟨T, hT⟩ : ∃ T, T = ByteArray.mk t.toArray := ⟨_, rfl⟩
  have hsz : T.size = t.length := by rw [hT]; simp [ByteArray.size]
  rw [← hT]
  have HT := hide hT
  clear hT
  go_enter Tryz.func217, Tryz.ntmps217
  go_wp2
  go_loop [3, 4] (fun s i => ∃ k : Nat, k ≤ t.length ∧ i = .int .i64 k ∧ s = .string (sB (rawB (t.take k)))) (fun _ i => t.length - (intOf i).toNat)
  case atStart => exact ⟨0, Nat.zero_le _, rfl, by simp [rawB, sB]⟩
  case round =>
    obtain ⟨k, hk, rfl, rfl⟩ := hrel
    by_cases hlt : k < t.length
    · have hkT : k < T.size := by omega
      have hT := tx_get HT.out hlt hkT
      have hs : (sB (rawB (t.take k))).size ≤ 10485760 := by
        rw [sB_size]
        have h1 := rawB_length (t.take k)
        simp only [List.length_take] at h1
        omega
      have hc : (sB (codeB t[k])).size ≤ 16 := by rw [sB_size]; have := codeB_length t[k]; omega
      have hnx : sB (rawB (t.take k)) ++ sB (codeB t[k]) = sB (rawB (t.take (k + 1))) := by rw [sB_append, rawB_next hlt]
      have hcd := codeOf_any t[k] w
      unfold B at hcd
      generalize sB (rawB (t.take k)) = S at hs hnx ⊢
      generalize sB (codeB t[k]) = C at hc hnx hcd
      rw [← hT] at hcd
      have HNX := hide hnx
      have HCD := hide hcd
      clear hnx hcd hT
      go_wp2_with fail
      refine HCD.out.mono ?_
      rintro e w' ⟨rfl, hw'⟩
      rw [hw']
      clear hw' w'
      go_wp2
      go_round
      case rel => exact ⟨k + 1, by omega, by go_num, by rw [HNX.out]⟩
      case measure => simp [intOf]; omega
    · have hke : k = t.length := by omega
      subst hke
      rw [List.take_length]
      have hR := rawB_length t
      have hpk : packB t = rawB t ++ List.replicate (padN (rawB t).length) true := rfl
      generalize rawB t = R at hR hpk ⊢
      have HPK := hide hpk
      clear hpk hk hlt
      go_wp2
      go_loop [3] (fun s => ∃ j : Nat, j ≤ padN R.length ∧ s = .string (sB (R ++ List.replicate j true))) (fun s => R.length + 8 - strLen s)
      case atStart => exact ⟨0, Nat.zero_le _, by simp⟩
      case round =>
        obtain ⟨j, hj, rfl⟩ := hrel
        have hpn : padN R.length ≤ 7 := by unfold padN; omega
        have hsj : (sB (R ++ List.replicate j true)).size = R.length + j := by rw [sB_size]; simp
        have hnx : sB (R ++ List.replicate j true) ++ sB [true] = sB (R ++ List.replicate (j + 1) true) := by rw [sB_append, List.append_assoc, List.replicate_succ']
        by_cases hm : (R.length + j) % 8 = 0
        · have hjp : j = padN R.length := by unfold padN at hj ⊢; omega
          have hfin : sB (R ++ List.replicate j true) = sB (packB t) := by rw [HPK.out, hjp]
          have hpl : (packB t).length ≤ 16777216 := by rw [HPK.out]; simp; omega
          have htb := toBytes_any (packB t) w hpl
          rw [← hfin] at htb
          have HTB := hide htb
          have hm2 : ((R.length + j : Nat) : Int) % 8 = 0 := by omega
          generalize sB (R ++ List.replicate j true) = S at hsj HTB ⊢
          rw [← hsj] at hm2
          clear hsj hnx hjp hfin htb hm
          go_wp2_with fail
          refine HTB.out.mono ?_
          rintro e w' ⟨v, rfl, hown, hbel⟩
          have HO := hide hown
          have HBE := hide hbel
          clear hown hbel
          go_wp2
          go_ret
          exact ⟨v, rfl, HO.out, HBE.out⟩
        · have hm2 : ((R.length + j : Nat) : Int) % 8 ≠ 0 := by omega
          have hjp : j < padN R.length := by unfold padN at hj ⊢; omega
          have hsl : strLen (.string (sB (R ++ List.replicate (j + 1) true))) = R.length + (j + 1) := by show (sB _).size = _; rw [sB_size]; simp
          have hsl0 : strLen (.string (sB (R ++ List.replicate j true))) = R.length + j := by show (sB _).size = _; rw [sB_size]; simp
          have hsb : (sB (R ++ List.replicate j true)).size ≤ 16777216 := by omega
          rw [← hnx] at hsl
          have HS1 := hide hsl
          have HS0 := hide hsl0
          have HNX := hide hnx
          generalize sB (R ++ List.replicate j true) = S at hsj HS1 HS0 HNX hsb ⊢
          rw [← hsj] at hm2
          clear hsj hnx hm hsl hsl0
          go_wp2
          go_round
          case rel => exact ⟨j + 1, by omega, by rw [← HNX.out]; rfl⟩
          case measure =>
            have h1 := HS1.out
            have h0 := HS0.out
            have h2 : strLen (.string (S ++ ByteArray.mk #[49])) = R.length + (j + 1) := h1
            rw [h0, h2]
            omega
end Go.Proofs.YtghongdbohjaaaaGreatDoor
/-
  sluiceref.countOf.
-/
namespace Go.Proofs.YtghongdbohjaaaaGreatDoor
open Go.RowKit

theorem bitsOf_int (x : Int) (k : Nat) (w : World) (h0 : 0 ≤ x) (h1 : x ≤ 1099511627776) (hk : k ≤ 1024) :
    Calls Tryz.prog 142 #[.int .i64 x, .int .i64 k] w fun e w' => e = .returned (.string (sB (natBits k x.toNat))) ∧ w' = w := by
  have := bitsOf_any x.toNat k w (by omega) hk
  rwa [Int.toNat_of_nonneg h0] at this

set_option maxRecDepth 100000 in
set_option maxHeartbeats 1600000 in
theorem countOf_any (first : List Bool) (n : Nat) (w : World) (hf : first.length ≤ 8) (hn : n ≤ 1048576) :
    Calls Tryz.prog 81 #[.string (sB first), .int .i64 n] w fun e w' => e = .returned (.string (sB (countB first n))) ∧ w' = w := by
  obtain ⟨T, hT⟩ : ∃ T, T = sB first := ⟨_, rfl⟩
  obtain ⟨k, hk⟩ : ∃ k, k = 8 - first.length := ⟨_, rfl⟩
  have hk8 : k ≤ 8 := by omega
  have hsz : (T.size : Int) = 8 - k := by rw [hT, sB_size]; omega
  have hsn : T.size ≤ 8 := by omega
  rw [← hT]
  have HT := hide hT
  have HK := hide hk
  clear hT hk
  go_enter Tryz.func81, Tryz.ntmps81
  go_wp2
  have e8 : (8 : Int) - (8 - (k : Int)) = k := by omega
  rw [e8]
  clear e8 hsz
  have pw : ∀ i, i ≤ k → 1 ≤ 2 ^ i ∧ 2 ^ i ≤ 256 := fun i hi => ⟨Nat.one_le_two_pow, Nat.le_trans (Nat.pow_le_pow_right (by omega) (Nat.le_trans hi hk8)) (by decide)⟩
  have HPW := hide pw
  clear pw
  go_loop [6, 7] (fun m i => ∃ j : Nat, j ≤ k ∧ i = .int .i64 j ∧ m = .int .i64 ((2 ^ j : Nat) : Int)) (fun _ i => k - (intOf i).toNat)
  case atStart => exact ⟨0, Nat.zero_le _, rfl, rfl⟩
  case round =>
    obtain ⟨j, hj, rfl, rfl⟩ := hrel
    obtain ⟨q1, q2⟩ := HPW.out j hj
    by_cases hlt : j < k
    · have hnx : 2 ^ (j + 1) = 2 * 2 ^ j := by rw [Nat.pow_succ, Nat.mul_comm]
      generalize 2 ^ j = P at q1 q2 hnx ⊢
      have HNX := hide hnx
      clear hnx
      go_wp2
      go_round
      case rel => exact ⟨j + 1, by omega, by go_num, by rw [HNX.out]; go_num⟩
      case measure => simp [intOf]; omega
    · have hjk : j = k := by omega
      subst hjk
      have hcb : countB first n = if n < 2 ^ j - 1 then first ++ natBits j n else first ++ natBits j (2 ^ j - 1) ++ tailB (n - (2 ^ j - 1)) := by unfold countB; rw [← HK.out]
      generalize 2 ^ j = P at q1 q2 hcb ⊢
      have HCB := hide hcb
      clear hcb
      by_cases hsm : n < P - 1
      · have hs : (sB (natBits j n)).size ≤ 8 := by rw [sB_size, natBits_length]; omega
        generalize hU : sB (natBits j n) = U at hs
        have HU := hide hU
        clear hU
        go_wp2_with fail
        refine (bitsOf_any n j w (by omega) (by omega)).mono ?_
        rintro e w' ⟨he, hw'⟩
        rw [HU.out] at he
        subst he
        rw [hw']
        clear hw' w'
        have HE : Hid (T ++ U = sB (countB first n)) := by
          show _ = _
          rw [HCB.out, if_pos hsm, ← sB_append, HU.out, ← HT.out]
        go_wp2
        go_ret
        refine ⟨?_, rfl⟩
        rw [← HE.out]
        rfl
      · have hs : (sB (natBits j (P - 1))).size ≤ 8 := by rw [sB_size, natBits_length]; omega
        have hpt : ((P : Int) - 1).toNat = P - 1 := by omega
        generalize hU : sB (natBits j (P - 1)) = U at hs
        have HU := hide hU
        have HPT := hide hpt
        clear hU hpt
        go_wp2_with fail
        refine (bitsOf_int ((P : Int) - 1) j w (by omega) (by omega) (by omega)).mono ?_
        rintro e w' ⟨he, hw'⟩
        rw [HPT.out, HU.out] at he
        subst he
        rw [hw']
        clear hw' w'
        go_wp2
        obtain ⟨V, hV⟩ : ∃ V, V = first ++ natBits j (P - 1) := ⟨_, rfl⟩
        have hVl : V.length ≤ 16 := by rw [hV]; simp [natBits_length]; omega
        have hTU : T ++ U = sB V := by rw [hV, ← sB_append, HU.out, HT.out]
        rw [hTU]
        have hcb := HCB.out
        rw [if_neg hsm, ← hV] at hcb
        clear hTU hV
        obtain ⟨r, hr⟩ : ∃ r, r = n - (P - 1) := ⟨_, rfl⟩
        have er : (n : Int) - ((P : Int) - 1) = r := by omega
        rw [er]
        rw [← hr] at hcb
        have hrn : r ≤ 1048576 := by omega
        have HCB2 := hide hcb
        clear er hr hcb
        go_loop [1, 9] (fun x s => ∃ (m : Nat) (D : List Bool), x = .int .i64 m ∧ s = .string (sB (V ++ D)) ∧ D ++ tailB m = tailB r ∧ D.length + m ≤ r) (fun x _ => (intOf x).toNat)
        case atStart => exact ⟨r, [], rfl, by simp, by simp, by simp⟩
        case round =>
          obtain ⟨m, D, rfl, rfl, hD, hDl⟩ := hrel
          have hsD : (sB (V ++ D)).size ≤ 1048700 := by rw [sB_size, List.length_append]; omega
          generalize hS : sB (V ++ D) = S at hsD ⊢
          have HS := hide hS
          have HD := hide hD
          clear hS hD
          by_cases h128 : 128 ≤ m
          · have hb7 : (sB (natBits 7 (m % 128))).size ≤ 8 := by rw [sB_size, natBits_length]; omega
            have hcast : ((m : Int) % 128).toNat = m % 128 := by omega
            generalize hW : sB (natBits 7 (m % 128)) = W at hb7
            have HW := hide hW
            have HC := hide hcast
            clear hW hcast
            go_wp2_with fail
            refine (bitsOf_int ((m : Int) % 128) 7 w (by omega) (by omega) (by omega)).mono ?_
            rintro e w' ⟨he, hw'⟩
            rw [HC.out, HW.out] at he
            subst he
            rw [hw']
            clear hw' w'
            have hz1 : (S ++ ByteArray.mk #[49]).size ≤ 1048701 := by
              have : (S ++ ByteArray.mk #[49]).size = S.size + 1 := by simp [ByteArray.size_append]; rfl
              omega
            go_wp2
            go_round
            case rel => exact ⟨m / 128, D ++ ([true] ++ natBits 7 (m % 128)), by go_num, by
                rw [← List.append_assoc, ← sB_append, HS.out, ← sB_append, HW.out, ← ByteArray.append_assoc]; rfl, by
                rw [List.append_assoc, ← tailB_more h128]; exact HD.out, by simp [natBits_length]; omega⟩
            case measure => simp [intOf]; omega
          · have hb8 : (sB (natBits 8 m)).size ≤ 8 := by rw [sB_size, natBits_length]; omega
            generalize hW : sB (natBits 8 m) = W at hb8
            have HW := hide hW
            clear hW
            go_wp2_with fail
            refine (bitsOf_any m 8 w (by omega) (by omega)).mono ?_
            rintro e w' ⟨he, hw'⟩
            rw [HW.out] at he
            subst he
            rw [hw']
            clear hw' w'
            go_wp2
            go_ret
            refine ⟨?_, rfl⟩
            have : S ++ W = sB (countB first n) := by rw [HCB2.out, ← HD.out, tailB_last h128, ← HS.out, ← HW.out, sB_append, List.append_assoc]
            rw [← this]
            rfl
end Go.Proofs.YtghongdbohjaaaaGreatDoor
/-
  sluiceref.textOf.
-/
namespace Go.Proofs.YtghongdbohjaaaaGreatDoor
open Go.RowKit

theorem natBits_le (k v : Nat) : (natBits k v).length ≤ k := by rw [natBits_length]; exact Nat.le_refl _
theorem tailB_length (n : Nat) : (tailB n).length ≤ 8 + n := by
  induction n using Nat.strongRecOn with
  | ind n ih =>
    by_cases h : 128 ≤ n
    · rw [tailB_more h]
      have := ih (n / 128) (by omega)
      simp only [List.length_append, natBits_length, List.length_cons, List.length_nil]
      omega
    · rw [tailB_last h, natBits_length]; omega
theorem countB_length (f : List Bool) (n : Nat) (hf : f.length ≤ 8) : (countB f n).length ≤ 16 + n := by
  unfold countB
  split
  · simp [natBits_length]; omega
  · have := tailB_length (n - (2 ^ (8 - f.length) - 1))
    simp [natBits_length]; omega

theorem conv_str (w : World) (l : List UInt8) : ∃ w' cap, (convert 9 54 (.string ⟨l.toArray⟩)).run Tryz.prog w = .ok (.slice (some ⟨w.heap.size, 0, none⟩) l.length cap) w' ∧ BytesA w' (.slice (some ⟨w.heap.size, 0, none⟩) l.length cap) l ∧ Below w.heap.size w w' := by
  have h := run_bytes_of_string (P := Tryz.prog) w 9 54 5 ⟨l.toArray⟩ Tryz.underlying9 Tryz.underlying54 Tryz.underlying5
  have hs : (ByteArray.mk l.toArray).size = l.length := by simp [ByteArray.size]
  rw [hs] at h
  have h1 : Below w.heap.size w w.drew := ⟨rfl, rfl, rfl, Nat.le_refl _, fun _ _ => rfl⟩
  have hh := heap_alloc_new w.drew (.cells (bytesRow ⟨l.toArray⟩ (grownCap w l.length 0 5)) 5 ((bytesRow ⟨l.toArray⟩ (grownCap w l.length 0 5)).size, (bytesRow ⟨l.toArray⟩ (grownCap w l.length 0 5)).size + 1))
  refine ⟨_, _, h, Or.inl (Or.inr ⟨w.heap.size, 0, _, rfl, lt_of_block hh, grownCap_ge w l.length 0 5, fun i hi => ?_⟩), h1.alloc (Nat.le_refl _) _⟩
  rw [cell_of_row _ w.heap.size _ _ _ _ hh, Nat.zero_add]
  simp only [bytesRow]
  rw [Array.getElem?_append_left (by simpa using hi)]
  simp [hi, List.getD]

set_option maxRecDepth 100000 in
set_option maxHeartbeats 1600000 in
theorem textOf_any (s : List UInt8) (w : World) (hl : s.length ≤ 65536) :
    Calls Tryz.prog 145 #[.string ⟨s.toArray⟩] w fun e w' => e = .returned (.string (sB (textB s))) ∧ Below w.heap.size w w' := by
  obtain ⟨T, hT⟩ : ∃ T, T = ByteArray.mk s.toArray := ⟨_, rfl⟩
  have hsz : T.size = s.length := by rw [hT]; simp [ByteArray.size]
  have hpk := packed_any s w (by omega)
  rw [← hT] at hpk ⊢
  have hraw := rawB_length s
  have hpl : (packB s).length ≤ 10 * s.length + 7 := by unfold packB padN; simp; omega
  have hbl : (bytesB (packB s)).length = (packB s).length / 8 := bytesB_length _
  have htx : textB s = if (bytesB (packB s)).length < s.length then countB [true] (bytesB (packB s)).length ++ bitsB (bytesB (packB s)) else countB [false] s.length ++ bitsB s := rfl
  rw [← hbl] at hpk
  have hql : (bytesB (packB s)).length ≤ 131072 := by omega
  generalize bytesB (packB s) = q at hpk hbl htx hql
  have HPK := hide hpk
  have HT := hide hT
  have HTX := hide htx
  clear hpk hraw hpl hbl htx hT
  go_enter Tryz.func145, Tryz.ntmps145
  go_wp2_with fail
  refine HPK.out.mono ?_
  rintro e w1 ⟨v, rfl, hown, hb1⟩
  obtain ⟨sv, cv, rfl⟩ := slice_len hown
  have HO := hide hown
  have HB1 := hide hb1
  clear hown hb1 HPK
  by_cases hlt : q.length < s.length
  · have hc := countOf_any [true] q.length w1 (by simp) (by omega)
    have hcl := countB_length [true] q.length (by simp)
    have hE : sB (countB [true] q.length) ++ sB (bitsB q) = sB (textB s) := by rw [HTX.out, if_pos hlt, sB_append]
    have hs1 : (sB (countB [true] q.length)).size ≤ 1048576 := by rw [sB_size]; omega
    have hs2 : (sB (bitsB q)).size ≤ 1048576 := by rw [sB_size, bitsB_length]; omega
    have hc' : Calls Tryz.prog 81 #[.string ⟨#[49]⟩, .int .i64 q.length] w1 fun e w' => e = .returned (.string (sB (countB [true] q.length))) ∧ w' = w1 := hc
    have hbt := toBits_any sv cv q w1 (Or.inl (bytesIn_of_owns HO.out rfl)) (by omega)
    generalize sB (countB [true] q.length) = U at hc' hs1 hE
    generalize sB (bitsB q) = V at hbt hs2 hE
    have HC := hide hc'
    have HBT := hide hbt
    have HE := hide hE
    clear hc hc' hbt hE hcl
    go_wp2_with fail
    refine HC.out.mono ?_
    rintro e w' ⟨rfl, hw'⟩
    rw [hw']
    clear hw' w' HC
    go_wp2_with fail
    refine HBT.out.mono ?_
    rintro e w2 ⟨rfl, hb2⟩
    have HB2 := hide (HB1.out.trans (hb2.mono HB1.out.size))
    clear hb2 HBT
    go_wp2
    go_ret
    refine ⟨?_, HB2.out⟩
    rw [← HE.out]
    rfl
  · have hc := countOf_any [false] s.length w1 (by simp) (by omega)
    have hcl := countB_length [false] s.length (by simp)
    have hE : sB (countB [false] s.length) ++ sB (bitsB s) = sB (textB s) := by rw [HTX.out, if_neg hlt, sB_append]
    have hs1 : (sB (countB [false] s.length)).size ≤ 1048576 := by rw [sB_size]; omega
    have hs2 : (sB (bitsB s)).size ≤ 1048576 := by rw [sB_size, bitsB_length]; omega
    have hc' : Calls Tryz.prog 81 #[.string ⟨#[48]⟩, .int .i64 s.length] w1 fun e w' => e = .returned (.string (sB (countB [false] s.length))) ∧ w' = w1 := hc
    obtain ⟨wC, capC, hcv, hby, hbC⟩ := conv_str w1 s
    rw [← HT.out] at hcv
    have hbt := toBits_any (some ⟨w1.heap.size, 0, none⟩) capC s wC hby (by omega)
    generalize sB (countB [false] s.length) = U at hc' hs1 hE
    generalize sB (bitsB s) = V at hbt hs2 hE
    have HC := hide hc'
    have HBT := hide hbt
    have HE := hide hE
    have HBC := hide hbC
    clear hc hc' hbt hE hcl hby hbC
    go_wp2_with fail
    refine HC.out.mono ?_
    rintro e w' ⟨rfl, hw'⟩
    rw [hw']
    clear hw' w' HC
    go_wp2_with fail
    refine HBT.out.mono ?_
    rintro e w2 ⟨rfl, hb2⟩
    have hBC := HB1.out.trans (HBC.out.mono HB1.out.size)
    have HB2 := hide (hBC.trans (hb2.mono hBC.size))
    clear hb2 HBT hBC
    go_wp2
    go_ret
    refine ⟨?_, HB2.out⟩
    rw [← HE.out]
    rfl
end Go.Proofs.YtghongdbohjaaaaGreatDoor
