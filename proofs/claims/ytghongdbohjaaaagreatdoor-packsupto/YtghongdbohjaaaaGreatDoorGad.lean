import Derived.Test.YtghongdbohjaaaaGreatDoorGac
import Derived.Test.YtghongdbohjaaaaGreatDoorGab
import Derived.Deep.RegionWith
import Derived.Deep.DeepCutAuto
import Derived.Deep.RegionHeld3
set_option linter.unusedVariables false
set_option linter.unusedSimpArgs false
/-
  (*sluiceref.Packer).pairOf.
-/
namespace Go.Proofs.YtghongdbohjaaaaGreatDoor
open Go.RowKit

theorem nmS_hit {l : List HP} {n : ByteArray} {k : Nat} (h : k < l.length) (he : (l[k].n.toList == n.toList) = true) : nmS l n k = k + 1 := by
  unfold nmS
  rw [List.drop_eq_getElem_cons h, List.findIdx?_cons, he]
  simp
theorem nmS_miss {l : List HP} {n : ByteArray} {k : Nat} (h : k < l.length) (he : (l[k].n.toList == n.toList) = false) : nmS l n k = nmS l n (k + 1) := by
  unfold nmS
  rw [List.drop_eq_getElem_cons h, List.findIdx?_cons, he]
  cases hx : (l.drop (k + 1)).findIdx? (fun x => x.n.toList == n.toList) with
  | none => simp
  | some i => simp; omega
theorem nmS_le (l : List HP) (n : ByteArray) (k : Nat) : nmS l n k ≤ l.length := by
  unfold nmS
  split
  · next i hi =>
    have := (List.findIdx?_eq_some_iff_getElem.1 hi).1
    simp at this
    omega
  · omega

theorem cs_same {cs : Array Value} {i : Nat} {x : Value} (h : cs[i]? = some x) : cs.setIfInBounds i x = cs := by
  obtain ⟨hi, hx⟩ := Array.getElem?_eq_some_iff.1 h
  apply Array.ext
  · simp
  · intro j h1 h2
    rw [Array.getElem_setIfInBounds]
    split
    · next e => subst e; exact hx.symm
    · rfl
theorem tab_same {w w' : World} {b tP : Nat} {cs : Array Value} {lv : Value} {log : List Ch} (hb : w.heap[b]? = some (.cells cs tP (0, 0))) (h0 : cs[0]? = some lv) (hrow : w.ownsRow 0 282 3 lv log.length (chCells log)) (hbel : Below w.heap.size w w') : TabTo w w' b cs (cs.setIfInBounds 0 lv) tP lv lv log :=
  ⟨by rw [cs_same h0, hbel.block b (lt_of_block hb)]; exact hb, owns_chg hrow (Chg.of_below (S := fun _ => False) hbel) (fun _ _ => id), Chg.of_below hbel, fun j hj => Or.inl hj⟩

theorem tab_before {w w5 w6 : World} {b tP : Nat} {cs cs' : Array Value} {lv lv' : Value} {log : List Ch} (hbel : Below w.heap.size w w5) (h : TabTo w5 w6 b cs cs' tP lv lv' log) : TabTo w w6 b cs cs' tP lv lv' log :=
  ⟨h.blk, h.row, (Chg.of_below hbel).trans (h.chg.mono (fun j _ e => Or.inr e)), fun j hj => (h.own j hj).imp_right (fun e => Nat.le_trans hbel.size e)⟩
theorem tab_after {w w6 w7 : World} {b tP : Nat} {cs cs' : Array Value} {lv lv' : Value} {log : List Ch} (h : TabTo w w6 b cs cs' tP lv lv' log) (hbel : Below w6.heap.size w6 w7) : TabTo w w7 b cs cs' tP lv lv' log :=
  ⟨by rw [hbel.block b (lt_of_block h.blk)]; exact h.blk, owns_chg h.row (Chg.of_below (S := fun _ => False) hbel) (fun _ _ => id), h.chg.then_below hbel, h.own⟩
theorem textB_length (s : List UInt8) : (textB s).length ≤ 16 + 9 * s.length := by
  unfold textB
  split
  · have := countB_length [true] (bytesB (packB s)).length (by simp)
    rw [List.length_append, bitsB_length]; omega
  · have := countB_length [false] s.length (by simp)
    rw [List.length_append, bitsB_length]; omega
theorem ba_list (s : ByteArray) : ByteArray.mk s.data.toList.toArray = s := by cases s; simp
theorem ba_len (s : ByteArray) : s.data.toList.length = s.size := by rw [Array.length_toList]; rfl

set_option maxRecDepth 100000 in
set_option maxHeartbeats 6400000 in
theorem pairOf_any (b : Nat) (cs : Array Value) (tP : Nat) (lv : Value) (log : List Ch) (lim : Int) (h : HP) (w : World) (hb : w.heap[b]? = some (.cells cs tP (0, 0))) (htP : 282 ≠ tP) (h0 : cs[0]? = some lv) (h1 : cs[1]? = some (.int .i64 lim))
    (hrow : w.ownsRow 0 282 3 lv log.length (chCells log)) (hok : chOk log) (hl : log.length ≤ 1073741824) (hnum : (numB log).length ≤ 524288) (hn : h.n.size ≤ 40) (hv : h.v.size ≤ 40) :
    Calls Tryz.prog 83 #[.pointer (some ⟨b, 0, none⟩), .agg #[.string h.n, .string h.v]] w fun e w' => e = .returned (.string (sB (pairB log lim h).1)) ∧ ∃ lv', TabTo w w' b cs (cs.setIfInBounds 0 lv') tP lv lv' (pairB log lim h).2 := by
  obtain ⟨sl, cl, rfl⟩ := slice_len hrow
  obtain ⟨n, v⟩ := h
  simp only at hn hv ⊢
  have hlt := lt_of_block hb
  obtain ⟨w1, hw1⟩ : ∃ w1, w1 = w.alloc (.cells #[.string n, .string v] 62) := ⟨_, rfl⟩
  have hbel1 : Below w.heap.size w w1 := by rw [hw1]; exact (Below.refl _ _).alloc (Nat.le_refl _) _
  have hh1 : w1.heap[w.heap.size]? = some (.cells #[.string n, .string v] 62 (0, 0)) := by rw [hw1]; exact heap_alloc_new w _
  have hrow1 : w1.ownsRow 0 282 3 (.slice sl log.length cl) log.length (chCells log) := owns_chg hrow (Chg.of_below (S := fun _ => False) hbel1) (fun _ _ => id)
  have hb1 : w1.heap[b]? = some (.cells cs tP (0, 0)) := by rw [hbel1.block b hlt]; exact hb
  have c0 : w1.cell? ⟨b, 0, none⟩ = some (.slice sl log.length cl) := by rw [cell_of_row w1 b _ _ _ _ hb1]; exact h0
  have HLOW : Hid (∀ j, (Value.slice sl log.length cl).ownBlock = some j → j < w.heap.size) := fun j hj => owns_lt hrow hj
  have HTS := fun (w' : World) => tab_same (w' := w') hb h0 hrow
  have HSAME := hide HTS
  have hpb : pairB log lim ⟨n, v⟩ = match pnF (numB log) ⟨n, v⟩ with
    | some i => (countB [true] (i + 1), log)
    | none => ((if (tk ⟨n, v⟩ : Int) ≤ lim then countB [false, true] (nmS (numB log) n 0) else countB [false, false, false, false] (nmS (numB log) n 0)) ++ (if nmS (numB log) n 0 = 0 then textB n.data.toList else []) ++ textB v.data.toList,
      if (tk ⟨n, v⟩ : Int) ≤ lim then log ++ [⟨⟨n, v⟩, lim⟩] else log) := rfl
  have HBEL1 := hide hbel1
  have HH1 := hide hh1
  have HR1 := hide hrow1
  have HB1 := hide hb1
  have HOK := hide hok
  clear hb hrow hok hbel1 hh1 hrow1 hb1 HTS
  go_enter Tryz.func83, Tryz.ntmps83
  go_wp2_with fail
  rw [← hw1]
  clear hw1
  refine (numbered_any b _ log w1 c0 HR1.out HOK.out (by omega)).mono ?_
  rintro e w2 ⟨v2, rfl, hown2, hb2⟩
  obtain ⟨s2, k2, rfl⟩ := slice_len hown2
  have hnl := hnum
  clear hnum
  generalize numB log = Q at hown2 hnl hpb ⊢
  have HPB := hide hpb
  clear hpb
  have HOW := hide hown2
  have HB2 := hide hb2
  have HH2 : Hid (w2.heap[w.heap.size]? = some (.cells #[.string n, .string v] 62 (0, 0))) := by
    show _ = _
    rw [hb2.block _ (lt_of_block HH1.out)]; exact HH1.out
  clear hown2 hb2 c0
  go_wp2
  go_loopw [6, 7] (fun m i wr => ∃ k : Nat, k ≤ Q.length ∧ i = .int .i64 ((k : Int) - 1) ∧ m = .int .i64 (nmS Q n k) ∧ Below w2.heap.size w2 wr) (fun _ i _ => (intOf i + 1).toNat)
  case atStart => exact ⟨Q.length, Nat.le_refl _, rfl, by simp [nmS], Below.refl _ _⟩
  case round =>
    obtain ⟨k, hk, rfl, rfl, hbel⟩ := hrel
    have hhr : wr.heap[w.heap.size]? = some (.cells #[.string n, .string v] 62 (0, 0)) := by rw [hbel.block _ (lt_of_block HH2.out)]; exact HH2.out
    obtain ⟨p0, p1⟩ := pair_blk hhr
    by_cases hlt0 : 0 < k
    · obtain ⟨j, rfl⟩ : ∃ j, k = j + 1 := ⟨k - 1, by omega⟩
      have hjl : j < Q.length := by omega
      have ej : ((j + 1 : Nat) : Int) - 1 = (j : Int) := by omega
      rw [ej]
      obtain ⟨g, hg, hck⟩ := slice_some HOW.out (by omega)
      subst hg
      have hgl : g < w2.heap.size := owns_lt HOW.out rfl
      obtain ⟨e0, e1⟩ := hdCells_get hjl
      have q0 : wr.cell? ⟨g, j * 2, none⟩ = some (.string Q[j].n) := (hbel.cell (p := ⟨g, j * 2, none⟩) hgl).trans (by rw [HOW.out.cellAt _ (by have := hdCells_length Q; omega)]; exact e0)
      clear e0 e1 hhr
      have hns := nmS_le Q n (j + 1)
      have HBE := hide hbel
      cases hq : Q[j].n.toList == n.toList with
      | true =>
        have HN := hide (nmS_hit hjl hq)
        generalize Q[j].n = qn at q0 hq
        generalize nmS Q n (j + 1) = m at hns ⊢
        go_wp2
        go_region
        all_goals go_wp2
        all_goals go_roundw
        case rel => exact ⟨j, by omega, by go_num, by rw [HN.out]; go_num, ⟨HBE.out.os, HBE.out.tape, HBE.out.output, HBE.out.size, HBE.out.block⟩⟩
        case measure => simp [intOf]
      | false =>
        have HN := hide (nmS_miss hjl hq)
        generalize Q[j].n = qn at q0 hq
        rw [← HN.out]
        go_wp2
        go_region
        all_goals go_wp2
        all_goals go_roundw
        case rel => exact ⟨j, by omega, by go_num, rfl, ⟨HBE.out.os, HBE.out.tape, HBE.out.output, HBE.out.size, HBE.out.block⟩⟩
        case measure => simp [intOf]
    · have hk0 : k = 0 := by omega
      subst hk0
      have hns := nmS_le Q n 0
      have hpb := HPB.out
      generalize nmS Q n 0 = nm at hns hpb ⊢
      have HPB2 := hide hpb
      clear hpb HPB
      obtain ⟨w3, hw3⟩ : ∃ w3, w3 = wr := ⟨wr, rfl⟩
      subst hw3
      have HB3 := hide hbel
      have HH3 := hide hhr
      clear hlt0 hk p0 p1
      go_wp2
      go_loopw [8] (fun i wr => ∃ k : Nat, k ≤ Q.length ∧ i = .int .i64 k ∧ (∀ j (h : j < Q.length), j < k → ¬ (Q[j].n.toList = n.toList ∧ Q[j].v.toList = v.toList)) ∧ Below w3.heap.size w3 wr) (fun i _ => Q.length - (intOf i).toNat)
      case atStart => exact ⟨0, Nat.zero_le _, rfl, fun j _ h => by omega, Below.refl _ _⟩
      case round =>
        obtain ⟨k, hk, rfl, hno, hbe4⟩ := hrel
        have hhr4 : wr.heap[w.heap.size]? = some (.cells #[.string n, .string v] 62 (0, 0)) := by rw [hbe4.block _ (lt_of_block HH3.out)]; exact HH3.out
        obtain ⟨p0, p1⟩ := pair_blk hhr4
        have HNO := hide hno
        have HBE4 := hide hbe4
        clear hno hbel hhr
        by_cases hlt : k < Q.length
        · obtain ⟨g, hg, hck⟩ := slice_some HOW.out (by omega)
          subst hg
          have hgl : g < w2.heap.size := owns_lt HOW.out rfl
          obtain ⟨e0, e1⟩ := hdCells_get hlt
          have hbx := HB3.out.trans (hbe4.mono HB3.out.size)
          have q0 : wr.cell? ⟨g, k * 2, none⟩ = some (.string Q[k].n) := (hbx.cell (p := ⟨g, k * 2, none⟩) hgl).trans (by rw [HOW.out.cellAt _ (by have := hdCells_length Q; omega)]; exact e0)
          have q1 : wr.cell? ⟨g, k * 2 + 1, none⟩ = some (.string Q[k].v) := (hbx.cell (p := ⟨g, k * 2 + 1, none⟩) hgl).trans (by rw [HOW.out.cellAt _ (by have := hdCells_length Q; omega)]; exact e1)
          have HBW := hide (HBEL1.out.trans ((HB2.out.trans (hbx.mono HB2.out.size)).mono HBEL1.out.size))
          by_cases heq : Q[k].n.toList = n.toList ∧ Q[k].v.toList = v.toList
          · have hpn : pnF Q ⟨n, v⟩ = some k := List.findIdx?_eq_some_iff_getElem.2 ⟨hlt, by simpa using heq, fun j hj => by have := HNO.out j (by omega) hj; simpa using this⟩
            have hpb := HPB2.out
            rw [hpn] at hpb
            simp only at hpb
            have hco := countOf_any [true] (k + 1) wr.drew (by simp) (by omega)
            have hco' : Calls Tryz.prog 81 #[.string ⟨#[49]⟩, .int .i64 ((k : Int) + 1)] wr.drew fun e w' => e = .returned (.string (sB (countB [true] (k + 1)))) ∧ w' = wr.drew := hco
            have HCO := hide hco'
            have HPB3 := hide hpb
            obtain ⟨heq1, heq2⟩ := heq
            generalize Q[k].n = qn at q0 heq1
            generalize Q[k].v = qv at q1 heq2
            clear e0 e1 hbx hbe4 hhr4 hpn hpb hco hco'
            go_wp2
            go_region
            all_goals go_wp2_with fail
            all_goals refine HCO.out.mono ?_
            all_goals rintro e w' ⟨rfl, hw'⟩
            all_goals rw [hw']
            all_goals clear hw' w'
            all_goals go_wp2
            all_goals go_ret
            all_goals refine ⟨by rw [HPB3.out]; rfl, ?_⟩
            all_goals rw [HPB3.out]
            all_goals exact ⟨_, HSAME.out _ ⟨HBW.out.os, HBW.out.tape, HBW.out.output, HBW.out.size, HBW.out.block⟩⟩
          · have HEQ := hide heq
            have HREL : Hid (∀ j (h : j < Q.length), j < k + 1 → ¬ (Q[j].n.toList = n.toList ∧ Q[j].v.toList = v.toList)) := fun j h hj => by
              by_cases e : j = k
              · subst e; exact HEQ.out
              · exact HNO.out j h (by omega)
            have heq' : Q[k].n.toList = n.toList → ¬ Q[k].v.toList = v.toList := fun a c => heq ⟨a, c⟩
            clear heq
            generalize Q[k].n = qn at q0 heq'
            generalize Q[k].v = qv at q1 heq'
            clear e0 e1 hbx hbe4 hhr4 HEQ
            by_cases h3 : qn.toList = n.toList
            · have h4 := heq' h3
              clear heq'
              go_wp2
              go_region
              all_goals go_wp2
              all_goals go_roundw
              case rel => exact ⟨k + 1, by omega, by go_num, HREL.out, ⟨HBE4.out.os, HBE4.out.tape, HBE4.out.output, HBE4.out.size, HBE4.out.block⟩⟩
              case measure => simp [intOf]; omega
            · clear heq'
              go_wp2
              go_region
              all_goals go_wp2
              all_goals go_roundw
              case rel => exact ⟨k + 1, by omega, by go_num, HREL.out, ⟨HBE4.out.os, HBE4.out.tape, HBE4.out.output, HBE4.out.size, HBE4.out.block⟩⟩
              case measure => simp [intOf]; omega
        · have hpn : pnF Q ⟨n, v⟩ = none := List.findIdx?_eq_none_iff.2 fun x hx => by
            obtain ⟨j, hj, rfl⟩ := List.mem_iff_getElem.1 hx
            have := HNO.out j hj (by omega)
            simpa using this
          have hpb := HPB2.out
          rw [hpn] at hpb
          simp only at hpb
          obtain ⟨w4, hw4⟩ : ∃ w4, w4 = wr := ⟨wr, rfl⟩
          subst hw4
          have hbx := HB3.out.trans (hbe4.mono HB3.out.size)
          have hBW : Below w.heap.size w w4 := HBEL1.out.trans ((HB2.out.trans (hbx.mono HB2.out.size)).mono HBEL1.out.size)
          have HBW := hide hBW
          have HH4 := hide hhr4
          have htk := takes_any ⟨n, v⟩ w4 (by show n.size ≤ _; omega) (by show v.size ≤ _; omega)
          have htkb : tk ⟨n, v⟩ ≤ 100 := by show n.size + v.size + 8 ≤ 100; omega
          obtain ⟨CC, hCC⟩ : ∃ C, C = if (tk ⟨n, v⟩ : Int) ≤ lim then countB [false, true] nm else countB [false, false, false, false] nm := ⟨_, rfl⟩
          obtain ⟨LL, hLL⟩ : ∃ L, L = if (tk ⟨n, v⟩ : Int) ≤ lim then log ++ [⟨⟨n, v⟩, lim⟩] else log := ⟨_, rfl⟩
          rw [← hCC, ← hLL] at hpb
          have hc2 := countB_length [false, true] nm (by simp)
          have hc4 := countB_length [false, false, false, false] nm (by simp)
          generalize tk ⟨n, v⟩ = t at htk htkb hCC hLL
          have HPB3 := hide hpb
          have HTK := hide htk
          have HCC := hide hCC
          have HLL := hide hLL
          clear hpn hpb hbx hBW htk hCC hLL hbe4 HNO
          simp only at HTK
          go_wp2_with fail
          refine HTK.out.mono ?_
          rintro e w5 ⟨rfl, hb5⟩
          have hB5 := HBW.out.trans (hb5.mono HBW.out.size)
          have hh5 : w5.heap[w.heap.size]? = some (.cells #[.string n, .string v] 62 (0, 0)) := by rw [hb5.block _ (lt_of_block HH4.out)]; exact HH4.out
          have hT5 := HSAME.out w5 hB5
          have hb5w : w5.heap[b]? = some (.cells cs tP (0, 0)) := by have h := hT5.blk; rwa [cs_same h0] at h
          have HB5 := hide hB5
          have HH5 := hide hh5
          have HT5 := hide hT5
          have HB5W := hide hb5w
          obtain ⟨r0, r1⟩ := pair_blk hh5
          have lim5 : w5.cell? ⟨b, 1, none⟩ = some (.int .i64 lim) := by rw [cell_of_row w5 b _ _ _ _ hb5w]; exact h1
          have hblt5 := lt_of_block hb5w
          have hhlt5 := lt_of_block hh5
          clear hb5 hB5 hh5 hT5 hb5w p0 p1 HTK
          have hk4 := countOf_any [false, false, false, false] nm w5 (by simp) (by omega)
          have hk4' : Calls Tryz.prog 81 #[.string ⟨#[48, 48, 48, 48]⟩, .int .i64 nm] w5 fun e w' => e = .returned (.string (sB (countB [false, false, false, false] nm))) ∧ w' = w5 := hk4
          have hk2 := countOf_any [false, true] nm w5 (by simp) (by omega)
          have hk2' : Calls Tryz.prog 81 #[.string ⟨#[48, 49]⟩, .int .i64 nm] w5 fun e w' => e = .returned (.string (sB (countB [false, true] nm))) ∧ w' = w5 := hk2
          have HK4 := hide hk4'
          have HK2 := hide hk2'
          clear hk4 hk4' hk2 hk2'
          go_wp2_with fail
          refine HK4.out.mono ?_
          rintro e w' ⟨rfl, hw'⟩
          rw [hw']
          clear hw' w'
          go_upto_if 59 with fail
          go_cut [10] (fun s10 wx => s10 = .string (sB CC) ∧ (∃ lv', TabTo w wx b cs (cs.setIfInBounds 0 lv') tP (.slice sl log.length cl) lv' LL) ∧ wx.heap[w.heap.size]? = some (.cells #[.string n, .string v] 62 (0, 0)))
          case first =>
            by_cases hle : (t : Int) ≤ lim
            · have HC5 : Hid (CC = countB [false, true] nm) := by show _ = _; rw [HCC.out, if_pos hle]
              have HL5 : Hid (LL = log ++ [⟨⟨n, v⟩, lim⟩]) := by show _ = _; rw [HLL.out, if_pos hle]
              go_wp2_with fail
              refine HK2.out.mono ?_
              rintro e w' ⟨rfl, hw'⟩
              rw [hw']
              clear hw' w'
              have hd5 : Below w5.heap.size w5 w5.drew := ⟨rfl, rfl, rfl, Nat.le_refl _, fun _ _ => rfl⟩
              have hpa := padded_any b cs tP _ log lim ⟨n, v⟩ w5.drew HB5W.out htP h0 h1 HT5.out.row (by omega)
              have HPA := hide hpa
              have HD5 := hide (HB5.out.trans (hd5.mono HB5.out.size))
              have HLVL : Hid (∀ j, (Value.slice sl log.length cl).ownBlock = some j → j < w.heap.size) := HLOW.out
              have HNS : Hid (¬ (w.heap.size = b ∨ (Value.slice sl log.length cl).ownBlock = some w.heap.size)) := by
                rintro (e | e)
                · omega
                · have := HLVL.out _ e; omega
              clear hpa hd5
              simp only at HPA
              go_wp2_with fail
              go_region_held3 (fun w' => w'.cell? ⟨w.heap.size, 0, none⟩ = some (.string n) ∧ w'.cell? ⟨w.heap.size, 1, none⟩ = some (.string v)) (go_keep)
                (first | (go_at_call 144; refine HPA.out.mono ?_; rintro e w6 ⟨rfl, lv6, ht6⟩; have hh6 := (ht6.chg.block _ hhlt5 HNS.out).trans HH5.out; obtain ⟨z0, z1⟩ := pair_blk hh6))
              all_goals (go_wp2_with fail)
              all_goals (go_meet; exact ⟨by rw [HC5.out], ⟨lv6, by rw [HL5.out]; exact tab_before HD5.out ht6⟩, hh6⟩)
            · have HC5 : Hid (CC = countB [false, false, false, false] nm) := by show _ = _; rw [HCC.out, if_neg hle]
              have HL5 : Hid (LL = log) := by show _ = _; rw [HLL.out, if_neg hle]
              go_wp2_with fail
              go_meet
              exact ⟨by rw [HC5.out], ⟨_, by rw [HL5.out]; exact HT5.out⟩, HH5.out⟩
          case rest =>
            obtain ⟨rfl, ⟨lv6, hT6⟩, hh6⟩ := hcut
            obtain ⟨w6, hw6⟩ : ∃ w6, w6 = wc := ⟨wc, rfl⟩
            subst hw6
            obtain ⟨t0, t1⟩ := pair_blk hh6
            have hCl : (sB CC).size ≤ 1000000 := by
              rw [sB_size, HCC.out]
              split <;> omega
            have hhl6 := lt_of_block hh6
            have HT6 := hide hT6
            have HH6 := hide hh6
            clear hT6 hh6 r0 r1 lim5 HK2 HK4
            have txv := fun (wx : World) => textOf_any v.data.toList wx (by rw [ba_len]; omega)
            have txn := fun (wx : World) => textOf_any n.data.toList wx (by rw [ba_len]; omega)
            have lnv := textB_length v.data.toList
            have lnn := textB_length n.data.toList
            rw [ba_len] at lnv lnn
            have szv : (sB (textB v.data.toList)).size ≤ 1000 := by rw [sB_size]; omega
            have szn : (sB (textB n.data.toList)).size ≤ 1000 := by rw [sB_size]; omega
            simp only [ba_list] at txv txn
            have hE := HPB3.out
            have hfin : sB (pairB log lim ⟨n, v⟩).1 = sB CC ++ sB (if nm = 0 then textB n.data.toList else []) ++ sB (textB v.data.toList) := by rw [hE, sB_append, sB_append]
            have hLLe : (pairB log lim ⟨n, v⟩).2 = LL := by rw [hE]
            have HLE := hide hLLe
            clear hE hLLe lnv lnn
            by_cases hnm : nm = 0
            · rw [if_pos hnm] at hfin
              generalize sB CC = U at hCl hfin ⊢
              generalize sB (textB n.data.toList) = X at txn szn hfin
              generalize sB (textB v.data.toList) = Y at txv szv hfin
              have HTN := hide txn
              have HTV := hide txv
              have HFIN := hide hfin
              clear txn txv hfin
              have hnb : ((nm : Int) == 0) = true := by simp [hnm]
              clear hnm
              go_wp2_with fail
              refine (HTN.out w6).mono ?_
              rintro e w7 ⟨rfl, hb7⟩
              have hh7 : w7.heap[w.heap.size]? = some (.cells #[.string n, .string v] 62 (0, 0)) := by rw [hb7.block _ hhl6]; exact HH6.out
              obtain ⟨y0, y1⟩ := pair_blk hh7
              have HT7 := hide (tab_after HT6.out hb7)
              have hUX : (U ++ X).size ≤ 1001000 := by rw [ByteArray.size_append]; omega
              clear hb7 hh7 t0 t1
              go_wp2_with fail
              refine (HTV.out w7).mono ?_
              rintro e w8 ⟨rfl, hb8⟩
              have HT8 := hide (tab_after HT7.out hb8)
              clear hb8
              go_wp2
              go_ret
              refine ⟨by rw [HFIN.out]; rfl, lv6, ?_⟩
              rw [HLE.out]
              exact HT8.out
            · rw [if_neg hnm] at hfin
              have hempty : sB CC ++ sB [] = sB CC := by rw [sB_append, List.append_nil]
              rw [hempty] at hfin
              generalize sB CC = U at hCl hfin ⊢
              generalize sB (textB v.data.toList) = Y at txv szv hfin
              have HTV := hide txv
              have HFIN := hide hfin
              clear txn txv hfin hempty
              have hnb : ((nm : Int) == 0) = false := by simp [hnm]
              clear hnm
              go_wp2_with fail
              refine (HTV.out w6).mono ?_
              rintro e w8 ⟨rfl, hb8⟩
              have HT8 := hide (tab_after HT6.out hb8)
              clear hb8
              go_wp2
              go_ret
              refine ⟨by rw [HFIN.out]; rfl, lv6, ?_⟩
              rw [HLE.out]
              exact HT8.out
end Go.Proofs.YtghongdbohjaaaaGreatDoor
/-
  The document's Pack, without the program.
-/
namespace Go.Proofs.YtghongdbohjaaaaGreatDoor
open Go.RowKit

theorem leastN_next {l : List Nat} {k m : Nat} (h : k < l.length) : leastN (l.take (k + 1)) m = if l[k] < leastN (l.take k) m then l[k] else leastN (l.take k) m := by
  rw [List.take_succ_eq_append_getElem h]
  generalize l.take k = a
  generalize l[k] = x
  induction a generalizing m with
  | nil => rfl
  | cons y r ih => simp only [List.cons_append, leastN]; exact ih
theorem leastN_le (l : List Nat) (m : Nat) : leastN l m ≤ m := by
  induction l generalizing m with
  | nil => exact Nat.le_refl _
  | cons x r ih =>
    simp only [leastN]
    exact Nat.le_trans (ih (if x < m then x else m)) (by split <;> omega)

theorem pairsB_next {hs : List HP} {k : Nat} (h : k < hs.length) (log : List Ch) (lim : Int) :
    pairsB (hs.take (k + 1)) log lim = ((pairsB (hs.take k) log lim).1 ++ (pairB (pairsB (hs.take k) log lim).2 lim hs[k]).1, (pairB (pairsB (hs.take k) log lim).2 lim hs[k]).2) := by
  rw [List.take_succ_eq_append_getElem h]
  generalize hs.take k = a
  generalize hs[k] = x
  induction a generalizing log with
  | nil => simp [pairsB]
  | cons y r ih => simp only [List.cons_append, pairsB, ih, List.append_assoc]
theorem pairB_log (log : List Ch) (lim : Int) (h : HP) : (pairB log lim h).2 = log ∨ (pairB log lim h).2 = log ++ [⟨h, lim⟩] := by
  unfold pairB
  split
  · exact Or.inl rfl
  · split
    · exact Or.inr rfl
    · exact Or.inl rfl
theorem pairB_ok {log : List Ch} {lim : Int} {h : HP} (hok : chOk log) (hn : h.n.size ≤ 1048576) (hv : h.v.size ≤ 1048576) : chOk (pairB log lim h).2 ∧ (pairB log lim h).2.length ≤ log.length + 1 := by
  rcases pairB_log log lim h with e | e
  · rw [e]; exact ⟨hok, by omega⟩
  · rw [e]
    refine ⟨fun c hc => ?_, by simp⟩
    rcases List.mem_append.1 hc with hc | hc
    · exact hok c hc
    · simp only [List.mem_cons, List.not_mem_nil, or_false] at hc
      subst hc
      exact ⟨hn, hv⟩
theorem pairB_bits {log : List Ch} {lim : Int} {h : HP} (hl : (numB log).length ≤ 524300) (hn : h.n.size ≤ 40) (hv : h.v.size ≤ 40) : (pairB log lim h).1.length ≤ 1000000 := by
  have h1 := textB_length h.n.data.toList
  have h2 := textB_length h.v.data.toList
  rw [ba_len] at h1 h2
  have h3 := nmS_le (numB log) h.n 0
  have h4 := hl
  unfold pairB
  split
  · next i hi =>
    have hi' := (List.findIdx?_eq_some_iff_getElem.1 hi).1
    have := countB_length [true] (i + 1) (by simp)
    simp only
    omega
  · have c2 := countB_length [false, true] (nmS (numB log) h.n 0) (by simp)
    have c4 := countB_length [false, false, false, false] (nmS (numB log) h.n 0) (by simp)
    simp only [List.length_append]
    split <;> split <;> simp <;> omega
end Go.Proofs.YtghongdbohjaaaaGreatDoor
/-
  A text as a list of bytes.
-/
namespace Go.Proofs.YtghongdbohjaaaaGreatDoor
set_option linter.unusedVariables false
set_option linter.unusedSimpArgs false

theorem ba_loop (bs : ByteArray) : ∀ n i (r : List UInt8), bs.size - i = n → ByteArray.toList.loop bs i r = r.reverse ++ bs.data.toList.drop i := by
  intro n
  induction n with
  | zero =>
    intro i r h
    unfold ByteArray.toList.loop
    rw [if_neg (by omega)]
    have : bs.data.toList.length ≤ i := by show bs.size ≤ i; omega
    rw [List.drop_of_length_le this]; simp
  | succ n ih =>
    intro i r h
    unfold ByteArray.toList.loop
    rw [if_pos (by omega), ih (i+1) _ (by omega)]
    have hi : i < bs.data.toList.length := by show i < bs.size; omega
    rw [List.drop_eq_getElem_cons hi]
    have hg : bs.get! i = bs.data.toList[i] := by
      show bs.data[i]! = _
      rw [getElem!_pos bs.data i (by show i < bs.size; omega)]
      rfl
    simp [hg]
theorem ba_toList (bs : ByteArray) : bs.toList = bs.data.toList := by
  unfold ByteArray.toList
  rw [ba_loop bs _ 0 [] rfl]; simp
end Go.Proofs.YtghongdbohjaaaaGreatDoor
/-
  Blocks, read, without the program; what was packed comes back.
-/
namespace Go.Proofs.YtghongdbohjaaaaGreatDoor
set_option linter.unusedVariables false
set_option linter.unusedSimpArgs false

theorem u8_ofNat {n : Nat} (h : n < 256) : (UInt8.ofNat n).toNat = n := by rw [UInt8.toNat_ofNat']; omega

/-- What follows a count's first byte: f bytes at most. -/
def rdMore : Nat → Nat → Nat → List UInt8 → Option (Nat × List UInt8)
  | 0, _, _, _ => none
  | _ + 1, _, _, [] => none
  | f + 1, i, n, c :: r => if c.toNat = 0 ∧ 0 < i then none else if c.toNat < 128 then some (n + c.toNat % 128 * 2 ^ (7 * i), r) else rdMore f (i + 1) (n + c.toNat % 128 * 2 ^ (7 * i)) r
def rdCnt (k : Nat) (c : UInt8) (r : List UInt8) : Option (Nat × List UInt8) := if c.toNat % 2 ^ k < 2 ^ k - 1 then some (c.toNat % 2 ^ k, r) else rdMore 3 0 (c.toNat % 2 ^ k) r

theorem rdMore_tail (f : Nat) : ∀ (i m x : Nat) (r : List UInt8), x < 2 ^ (7 * (f + 1)) → (0 < i → x ≠ 0) → rdMore (f + 1) i m (tail7 x ++ r) = some (m + x * 2 ^ (7 * i), r) := by
  induction f with
  | zero =>
    intro i m x r hx hi
    have hx' : x < 128 := by simpa using hx
    rw [tail7_last (by omega)]
    simp only [List.cons_append, List.nil_append, rdMore]
    rw [u8_ofNat (by omega), if_neg (by rintro ⟨a, b⟩; exact hi b a), if_pos hx', Nat.mod_eq_of_lt hx']
  | succ f ih =>
    intro i m x r hx hi
    by_cases h : 127 < x
    · rw [tail7_more h]
      simp only [List.cons_append, rdMore]
      rw [u8_ofNat (by omega), if_neg (by omega), if_neg (by omega)]
      have e7 : 7 * (f + 1 + 1) = 7 * (f + 1) + 7 := by omega
      rw [e7, Nat.pow_add] at hx
      have hx2 : x / 128 < 2 ^ (7 * (f + 1)) := by
        rw [Nat.div_lt_iff_lt_mul (by omega)]
        simpa using hx
      rw [ih (i + 1) _ (x / 128) r hx2 (fun _ => by omega)]
      have e1 : (128 + x % 128) % 128 = x % 128 := by omega
      have e2 : 7 * (i + 1) = 7 * i + 7 := by omega
      have e3 : x = x % 128 + x / 128 * 128 := by omega
      rw [e1, e2, Nat.pow_add]
      congr 2
      generalize 2 ^ (7 * i) = P
      have e4 : x / 128 * (P * 2 ^ 7) = x / 128 * 128 * P := by rw [Nat.mul_comm P, ← Nat.mul_assoc]
      rw [e4]
      conv => rhs; rw [e3, Nat.add_mul]
      omega
    · rw [tail7_last h]
      simp only [List.cons_append, List.nil_append, rdMore]
      rw [u8_ofNat (by omega), if_neg (by rintro ⟨a, b⟩; exact hi b a), if_pos (by omega), Nat.mod_eq_of_lt (by omega)]

theorem rdCnt_cnt {f k n : Nat} {r : List UInt8} (hf : f + 2 ^ k ≤ 256) (hz : f % 2 ^ k = 0) (hn : n < 2097152) : ∃ c q, cnt f k n = c :: q ∧ f ≤ c.toNat ∧ c.toNat < f + 2 ^ k ∧ rdCnt k c (q ++ r) = some (n, r) := by
  have hp : 0 < 2 ^ k := Nat.two_pow_pos k
  unfold cnt
  by_cases h : n < 2 ^ k - 1
  · rw [if_pos h]
    refine ⟨_, [], rfl, ?_, ?_, ?_⟩
    · rw [u8_ofNat (by omega)]; omega
    · rw [u8_ofNat (by omega)]; omega
    · unfold rdCnt
      rw [u8_ofNat (by omega)]
      have e : (f + n) % 2 ^ k = n := by rw [Nat.add_mod, hz, Nat.zero_add, Nat.mod_mod, Nat.mod_eq_of_lt (by omega)]
      rw [e, if_pos h]
      rfl
  · rw [if_neg h]
    refine ⟨_, _, rfl, ?_, ?_, ?_⟩
    · rw [u8_ofNat (by omega)]; omega
    · rw [u8_ofNat (by omega)]; omega
    · unfold rdCnt
      rw [u8_ofNat (by omega)]
      have e : (f + (2 ^ k - 1)) % 2 ^ k = 2 ^ k - 1 := by rw [Nat.add_mod, hz, Nat.zero_add, Nat.mod_mod, Nat.mod_eq_of_lt (by omega)]
      rw [e, if_neg (by omega)]
      rw [rdMore_tail 2 0 _ _ r (by omega) (by omega)]
      congr 2
      simp
      omega

theorem valB_natBits (k v : Nat) : valB (natBits k v) = v % 2 ^ k := by
  induction k generalizing v with
  | zero => simp [natBits, valB, Nat.mod_one]
  | succ k ih =>
    simp only [natBits]
    rw [valB_next, ih, Nat.pow_succ]
    have h1 : (v % 2 == 1).toNat = v % 2 := by
      rcases Nat.mod_two_eq_zero_or_one v with h | h <;> simp [h]
    rw [h1, Nat.mul_comm (2 ^ k) 2, Nat.mod_mul]
    omega

/-- The next byte of packed bits. -/
def decB (bs : List Bool) : Option (UInt8 × List Bool) :=
  if bs.length < 1 then none
  else if valB (bs.take 1) = 0 then (if bs.length < 4 then none else some (oft.getD (valB ((bs.drop 1).take 3)) 0, bs.drop 4))
  else if bs.length < 2 then none
  else if valB ((bs.drop 1).take 1) = 0 then (if bs.length < 6 then none else some (sel.getD (valB ((bs.drop 2).take 4)) 0, bs.drop 6))
  else if bs.length < 10 then none
  else if (codeB (UInt8.ofNat (valB ((bs.drop 2).take 8)))).length < 10 then none else some (UInt8.ofNat (valB ((bs.drop 2).take 8)), bs.drop 10)

theorem pl_get {l : List UInt8} {c : UInt8} {k : Nat} (h : pl l c = some k) : l.getD k 0 = c := by
  obtain ⟨h1, h2, _⟩ := List.findIdx?_eq_some_iff_getElem.1 h
  simp [List.getD, h1] at h2 ⊢
  exact h2

theorem decB_code (c : UInt8) (r : List Bool) : decB (codeB c ++ r) = some (c, r) := by
  unfold codeB
  split
  · next k hk =>
    have hlt := pl_lt hk
    have hlt' : k < 8 := hlt
    obtain ⟨b, hb⟩ : ∃ b, b = natBits 3 k := ⟨_, rfl⟩
    have hbl : b.length = 3 := by rw [hb, natBits_length]
    have hbv : valB b = k := by rw [hb, valB_natBits]; omega
    rw [← hb]
    unfold decB
    have e1 : ([false] ++ b ++ r).length = 4 + r.length := by simp [hbl]; omega
    rw [e1, if_neg (by omega), if_pos (by simp [valB]), if_neg (by omega)]
    have e2 : (([false] ++ b ++ r).drop 1).take 3 = b := by simp [← hbl]
    have e3 : ([false] ++ b ++ r).drop 4 = r := by
      have : 4 = ([false] ++ b).length := by simp [hbl]
      rw [this, List.drop_left]
    rw [e2, e3, hbv, pl_get hk]
  · next hno =>
    split
    · next k hk =>
      have hlt := pl_lt hk
      have hlt' : k < 16 := hlt
      obtain ⟨b, hb⟩ : ∃ b, b = natBits 4 k := ⟨_, rfl⟩
      have hbl : b.length = 4 := by rw [hb, natBits_length]
      have hbv : valB b = k := by rw [hb, valB_natBits]; omega
      rw [← hb]
      unfold decB
      have e1 : ([true, false] ++ b ++ r).length = 6 + r.length := by simp [hbl]; omega
      rw [e1, if_neg (by omega), if_neg (by simp [valB]), if_neg (by omega), if_pos (by simp [valB]), if_neg (by omega)]
      have e2 : (([true, false] ++ b ++ r).drop 2).take 4 = b := by simp [← hbl]
      have e3 : ([true, false] ++ b ++ r).drop 6 = r := by
        have : 6 = ([true, false] ++ b).length := by simp [hbl]
        rw [this, List.drop_left]
      rw [e2, e3, hbv, pl_get hk]
    · next hno2 =>
      obtain ⟨b, hb⟩ : ∃ b, b = natBits 8 c.toNat := ⟨_, rfl⟩
      have hbl : b.length = 8 := by rw [hb, natBits_length]
      have hc := c.toNat_lt
      have hbv : valB b = c.toNat := by rw [hb, valB_natBits]; omega
      have hcb : (codeB c).length = 10 := by unfold codeB; rw [hno]; simp only [hno2]; simp [natBits_length]
      rw [← hb]
      unfold decB
      have e1 : ([true, true] ++ b ++ r).length = 10 + r.length := by simp [hbl]; omega
      rw [e1, if_neg (by omega), if_neg (by simp [valB]), if_neg (by omega), if_neg (by simp [valB]), if_neg (by omega)]
      have e2 : (([true, true] ++ b ++ r).drop 2).take 8 = b := by simp [← hbl]
      have e3 : ([true, true] ++ b ++ r).drop 10 = r := by
        have : 10 = ([true, true] ++ b).length := by simp [hbl]
        rw [this, List.drop_left]
      have e4 : UInt8.ofNat c.toNat = c := by simp
      rw [e2, e3, hbv, e4, if_neg (by omega)]

theorem decB_shorter {bs : List Bool} {c : UInt8} {r : List Bool} (h : decB bs = some (c, r)) : r.length < bs.length := by
  unfold decB at h
  split at h
  · cases h
  · split at h
    · split at h
      · cases h
      · simp at h; rw [← h.2, List.length_drop]; omega
    · split at h
      · cases h
      · split at h
        · split at h
          · cases h
          · simp at h; rw [← h.2, List.length_drop]; omega
        · split at h
          · cases h
          · split at h
            · cases h
            · simp at h; rw [← h.2, List.length_drop]; omega

/-- Is it fill alone? -/
def fillB (bs : List Bool) : Bool := decide (bs.length < 8) && decide (valB bs + 1 = 2 ^ bs.length)
/-- Packed bits, unpacked. -/
def unpF : Nat → List Bool → Option (List UInt8)
  | 0, bs => if fillB bs then some [] else none
  | k + 1, bs => if fillB bs then some [] else (decB bs).bind fun x => (unpF k x.2).map (x.1 :: ·)
def unpB (bs : List Bool) : Option (List UInt8) := unpF bs.length bs
theorem unpF_eq : ∀ (k j : Nat) (bs : List Bool), bs.length ≤ k → bs.length ≤ j → unpF k bs = unpF j bs
  | 0, 0, _, _, _ => rfl
  | 0, j + 1, bs, h, _ => by
    have e : bs = [] := List.length_eq_zero_iff.1 (by omega)
    subst e
    rfl
  | k + 1, 0, bs, _, h => by
    have e : bs = [] := List.length_eq_zero_iff.1 (by omega)
    subst e
    rfl
  | k + 1, j + 1, bs, h1, h2 => by
    unfold unpF
    by_cases hf : fillB bs = true
    · rw [if_pos hf, if_pos hf]
    · rw [if_neg hf, if_neg hf]
      cases hd : decB bs with
      | none => rfl
      | some x =>
        have := decB_shorter (c := x.1) (r := x.2) hd
        show (unpF k x.2).map _ = (unpF j x.2).map _
        rw [unpF_eq k j x.2 (by omega) (by omega)]
theorem unpB_fill {bs : List Bool} (h : fillB bs = true) : unpB bs = some [] := by
  unfold unpB
  cases bs.length with
  | zero => rw [unpF, if_pos h]
  | succ k => rw [unpF, if_pos h]
theorem unpB_none {bs : List Bool} (h : fillB bs = false) (hd : decB bs = none) : unpB bs = none := by
  have h' : ¬ fillB bs = true := by simp [h]
  unfold unpB
  cases bs.length with
  | zero => rw [unpF, if_neg h']
  | succ k =>
    rw [unpF, if_neg h', hd]
    rfl
theorem unpB_next {bs : List Bool} {c : UInt8} {r : List Bool} (h : fillB bs = false) (hd : decB bs = some (c, r)) : unpB bs = (unpB r).map (c :: ·) := by
  have h' : ¬ fillB bs = true := by simp [h]
  have hs := decB_shorter hd
  unfold unpB
  cases hl : bs.length with
  | zero => omega
  | succ k =>
    rw [unpF, if_neg h', hd, unpF_eq r.length k r (Nat.le_refl _) (by omega)]
    rfl

theorem foldB_mono (l : List Bool) (v : Nat) : l.foldl (fun v b => 2 * v + b.toNat) v = v * 2 ^ l.length + valB l := by
  induction l generalizing v with
  | nil => simp [valB]
  | cons b r ih =>
    simp only [List.foldl_cons, List.length_cons, valB]
    rw [ih, ih (2 * 0 + b.toNat), Nat.pow_succ]
    have : (2 * v + b.toNat) * 2 ^ r.length = v * (2 ^ r.length * 2) + b.toNat * 2 ^ r.length := by
      rw [Nat.add_mul, Nat.mul_comm 2 v, Nat.mul_assoc, Nat.mul_comm 2 (2 ^ r.length)]
    simp only [Nat.mul_zero, Nat.zero_add]
    omega
theorem valB_append (a b : List Bool) : valB (a ++ b) = valB a * 2 ^ b.length + valB b := by
  unfold valB
  rw [List.foldl_append]
  exact foldB_mono b _
theorem valB_cons (b : Bool) (r : List Bool) : valB (b :: r) = b.toNat * 2 ^ r.length + valB r := by
  have := valB_append [b] r
  simpa [valB] using this
theorem fillB_false {a b : List Bool} (h : valB a + 1 < 2 ^ a.length) : fillB (a ++ b) = false := by
  unfold fillB
  rw [Bool.and_eq_false_iff]
  right
  rw [decide_eq_false_iff_not, valB_append, List.length_append, Nat.pow_add]
  intro e
  have h1 := valB_lt b
  have h2 : (valB a + 1 + 1) * 2 ^ b.length ≤ 2 ^ a.length * 2 ^ b.length := Nat.mul_le_mul_right _ h
  rw [Nat.add_mul, Nat.add_mul] at h2
  omega
theorem fillB_ones (n : Nat) (h : n < 8) : fillB (List.replicate n true) = true := by
  have : ∀ m, m < 8 → fillB (List.replicate m true) = true := by decide
  exact this n h
theorem fillB_code (c : UInt8) (r : List Bool) : fillB (codeB c ++ r) = false := by
  have hc : 8 ≤ (codeB c).length ∨ valB (codeB c) + 1 < 2 ^ (codeB c).length := by
    unfold codeB
    split
    · next k hk =>
      right
      have hlt : k < 8 := pl_lt hk
      rw [valB_append, valB_natBits, List.length_append, natBits_length]
      simp [valB]
      omega
    · split
      · next k hk =>
        right
        have hlt : k < 16 := pl_lt hk
        rw [valB_append, valB_natBits, List.length_append, natBits_length]
        simp [valB]
        omega
      · left; simp [natBits_length]
  rcases hc with h | h
  · unfold fillB
    rw [Bool.and_eq_false_iff]
    left
    rw [decide_eq_false_iff_not, List.length_append]
    omega
  · exact fillB_false h
theorem unpB_raw (t : List UInt8) (n : Nat) (h : n < 8) : unpB (rawB t ++ List.replicate n true) = some t := by
  induction t with
  | nil => exact unpB_fill (fillB_ones n h)
  | cons c r ih =>
    have e : rawB (c :: r) ++ List.replicate n true = codeB c ++ (rawB r ++ List.replicate n true) := by simp [rawB]
    rw [e, unpB_next (fillB_code _ _) (decB_code _ _), ih]
    rfl
theorem padN_lt (n : Nat) : padN n < 8 := by unfold padN; omega
theorem unpB_pack (t : List UInt8) : unpB (packB t) = some t := unpB_raw t _ (padN_lt _)
theorem packB_eight (t : List UInt8) : (packB t).length % 8 = 0 := by
  unfold packB padN
  rw [List.length_append, List.length_replicate]
  omega

theorem natBits_add (k x y : Nat) : natBits k (x * 2 ^ k + y) = natBits k y := by
  induction k generalizing x y with
  | zero => rfl
  | succ k ihk =>
    have h2 : (x * 2 ^ (k + 1) + y) / 2 = x * 2 ^ k + y / 2 := by rw [Nat.pow_succ, ← Nat.mul_assoc]; omega
    have h3 : (x * 2 ^ (k + 1) + y) % 2 = y % 2 := by rw [Nat.pow_succ, ← Nat.mul_assoc]; omega
    simp only [natBits]
    rw [h2, h3, ihk]
theorem natBits_valB (l : List Bool) : natBits l.length (valB l) = l := by
  induction l with
  | nil => rfl
  | cons b r ih =>
    have hr := valB_lt r
    have hp : 0 < 2 ^ r.length := Nat.two_pow_pos _
    rw [List.length_cons, natBits_high, valB_cons]
    have e1 : (b.toNat * 2 ^ r.length + valB r) / 2 ^ r.length = b.toNat := by
      rw [Nat.mul_comm, Nat.mul_add_div hp, Nat.div_eq_of_lt hr]; omega
    rw [e1, natBits_add, ih]
    cases b <;> rfl
theorem bitsB_append (a b : List UInt8) : bitsB (a ++ b) = bitsB a ++ bitsB b := by simp [bitsB]
theorem bytesB_cons8 (a r : List Bool) (h : a.length = 8) : bytesB (a ++ r) = UInt8.ofNat (valB a) :: bytesB r := by
  unfold bytesB
  have e : (a ++ r).length / 8 = r.length / 8 + 1 := by rw [List.length_append, h]; omega
  rw [e, List.range_succ_eq_map, List.map_cons, List.map_map]
  congr 1
  · simp [← h]
  · apply List.map_congr_left
    intro i _
    show UInt8.ofNat (valB (((a ++ r).drop (8 * (i + 1))).take 8)) = _
    have e2 : 8 * (i + 1) = a.length + 8 * i := by omega
    rw [e2, List.drop_append, List.drop_of_length_le (by omega)]
    simp
theorem bitsB_bytesB (l : List Bool) (h : l.length % 8 = 0) : bitsB (bytesB l) = l := by
  generalize hn : l.length = n at h
  induction n using Nat.strongRecOn generalizing l with
  | ind n ih =>
    by_cases h0 : n = 0
    · subst h0
      rw [List.eq_nil_of_length_eq_zero hn]
      rfl
    · have h8 : 8 ≤ n := by omega
      have e := List.take_append_drop 8 l
      have hl : (l.take 8).length = 8 := by rw [List.length_take]; omega
      rw [← e, bytesB_cons8 _ _ hl]
      have h3 := ih (n - 8) (by omega) (l.drop 8) (by rw [List.length_drop]; omega) (by omega)
      have h4 : bitsB (UInt8.ofNat (valB (l.take 8)) :: bytesB (l.drop 8)) = natBits 8 (UInt8.ofNat (valB (l.take 8))).toNat ++ bitsB (bytesB (l.drop 8)) := by simp [bitsB]
      have hv := valB_lt (l.take 8)
      rw [hl] at hv
      have h5 := natBits_valB (l.take 8)
      rw [hl] at h5
      rw [h4, u8_ofNat (by simpa using hv), h5, h3]
end Go.Proofs.YtghongdbohjaaaaGreatDoor
/-
  The document's blocks are the program's: logs against queues, bits against bytes. Nothing of the translation is imported.
-/
namespace Go.Proofs.YtghongdbohjaaaaGreatDoor
set_option linter.unusedVariables false
set_option linter.unusedSimpArgs false

/-- Is a pair added with this change? -/
def isAdd (c : Ch) : Bool := !c.h.n.toList.isEmpty
def tkC (c : Ch) : Nat := if isAdd c then tk c.h else 0
theorem grow_eq (c : Ch) (s : Nat) : grow c s = s + tkC c := by
  unfold grow tkC isAdd
  cases c.h.n.toList.isEmpty <;> simp
def totC (l : List Ch) : Nat := (l.map tkC).sum
/-- The pairs that live, the oldest first. -/
def tabL : List Ch → List HP
  | [] => []
  | c :: r => (if isAdd c && aliveF (c :: r) 0 then [c.h] else []) ++ tabL r

theorem aliveF_cons (c : Ch) (r : List Ch) (s : Nat) : aliveF (c :: r) s = (decide (((s + tkC c : Nat) : Int) ≤ c.lim) && aliveF r (s + tkC c)) := by
  simp only [aliveF, grow_eq]
  by_cases h : c.lim < ((s + tkC c : Nat) : Int)
  · rw [if_pos h, decide_eq_false (Int.not_le.2 h)]; rfl
  · rw [if_neg h, decide_eq_true (Int.not_lt.1 h), Bool.true_and]
theorem aliveF_snoc (l : List Ch) (c : Ch) (s : Nat) : aliveF (l ++ [c]) s = (aliveF l s && decide (((s + totC l + tkC c : Nat) : Int) ≤ c.lim)) := by
  induction l generalizing s with
  | nil => simp [aliveF_cons, totC, aliveF]
  | cons a r ih =>
    rw [List.cons_append, aliveF_cons, aliveF_cons, ih, Bool.and_assoc]
    have e : s + tkC a + totC r = s + totC (a :: r) := by simp [totC]; omega
    rw [e]
theorem aliveF_mono {l : List Ch} {s t : Nat} (h : t ≤ s) (ha : aliveF l s = true) : aliveF l t = true := by
  induction l generalizing s t with
  | nil => rfl
  | cons c r ih =>
    rw [aliveF_cons, Bool.and_eq_true, decide_eq_true_eq] at ha ⊢
    exact ⟨by omega, ih (by omega) ha.2⟩
theorem tabL_all {l : List Ch} {s : Nat} (h : aliveF l s = true) : szT (tabL l) = totC l := by
  induction l generalizing s with
  | nil => rfl
  | cons c r ih =>
    have h0 := aliveF_mono (Nat.zero_le s) h
    rw [aliveF_cons, Bool.and_eq_true] at h
    have hr := ih h.2
    simp only [tabL, h0, Bool.and_true]
    unfold totC at hr ⊢
    rw [szT_append, hr, List.map_cons, List.sum_cons]
    unfold tkC
    cases isAdd c <;> simp [szT]
/-- One change more. -/
theorem tabL_snoc (l : List Ch) (c : Ch) : tabL (l ++ [c]) = shr (tabL l) (c.lim - (tkC c : Int)) ++ (if isAdd c && decide ((tk c.h : Int) ≤ c.lim) then [c.h] else []) := by
  induction l with
  | nil =>
    simp only [List.nil_append, tabL, shr, List.drop_nil, List.append_nil, aliveF_cons]
    unfold tkC
    cases isAdd c <;> simp [aliveF]
  | cons a r ih =>
    rw [List.cons_append, tabL, ih, ← List.cons_append, aliveF_snoc, ← List.append_assoc]
    congr 1
    by_cases ha : (isAdd a && aliveF (a :: r) 0) = true
    · have hl : tabL (a :: r) = a.h :: tabL r := by simp only [tabL, ha, if_true]; rfl
      have hal : aliveF (a :: r) 0 = true := by simp at ha; exact ha.2
      have had : isAdd a = true := by simp at ha; exact ha.1
      have hsz := tabL_all hal
      rw [hl] at hsz ⊢
      have hsz2 := szT_cons a.h (tabL r)
      by_cases hf : ((0 + totC (a :: r) + tkC c : Nat) : Int) ≤ c.lim
      · rw [had, hal]
        simp only [Bool.true_and, decide_eq_true hf, if_true]
        rw [shr_fits (l := a.h :: tabL r) (by omega), shr_fits (l := tabL r) (by omega)]
        rfl
      · rw [decide_eq_false hf]
        simp only [Bool.and_false, Bool.false_eq_true, if_false, List.nil_append]
        unfold shr
        have : goneN (a.h :: tabL r) (c.lim - (tkC c : Int)) = goneN (tabL r) (c.lim - (tkC c : Int)) + 1 := by
          simp only [goneN]; rw [if_pos (by omega)]
        rw [this]; rfl
    · have hl : tabL (a :: r) = tabL r := by simp only [tabL, if_neg ha]; rfl
      rw [hl]
      have : ¬ ((isAdd a && (aliveF (a :: r) 0 && decide (((0 + totC (a :: r) + tkC c : Nat) : Int) ≤ c.lim))) = true) := by
        intro h; apply ha; simp at h ⊢; exact ⟨h.1, h.2.1⟩
      rw [if_neg this]; rfl

theorem livesB_drop (log : List Ch) (i : Nat) (h : i < log.length) : livesB log i = (isAdd log[i] && aliveF (log.drop i) 0) := by
  unfold livesB isAdd
  rw [List.getElem?_eq_getElem h]
  show (if log[i].h.n.toList.isEmpty then false else _) = _
  generalize log[i].h.n.toList.isEmpty = b
  cases b <;> rfl
theorem tabL_drop (log : List Ch) (i : Nat) (h : i < log.length) : tabL (log.drop i) = (if livesB log i then [log[i].h] else []) ++ tabL (log.drop (i + 1)) := by
  rw [livesB_drop log i h, List.drop_eq_getElem_cons h]; rfl
theorem sizeK_tab (log : List Ch) (i : Nat) (h : i ≤ log.length) : sizeK log i + szT (tabL (log.drop i)) = szT (tabL log) := by
  induction i with
  | zero => simp [sizeK]
  | succ i ih =>
    have := ih (by omega)
    rw [tabL_drop log i (by omega), szT_append] at this
    rw [← this]
    simp only [sizeK]
    have ht : tkAt log i = tk log[i].h := by unfold tkAt; rw [List.getElem?_eq_getElem (by omega)]
    cases livesB log i <;> simp [szT, ht] <;> omega
theorem sizeB_tab (log : List Ch) : sizeB log = szT (tabL log) := by
  have := sizeK_tab log log.length (Nat.le_refl _)
  rw [List.drop_length] at this
  simpa [sizeB, tabL, szT] using this
theorem fixedP_eq : fixedP = fixed8 := rfl
theorem numK_tab (log : List Ch) (d : Nat) (h : d ≤ log.length) : numK log d = fixed8 ++ (tabL (log.drop (log.length - d))).reverse := by
  induction d with
  | zero => simp [numK, fixedP_eq, tabL]
  | succ d ih =>
    have e := ih (by omega)
    have e2 : log.length - (d + 1) = log.length - 1 - d := by omega
    have e3 : log.length - 1 - d + 1 = log.length - d := by omega
    rw [e2, tabL_drop log (log.length - 1 - d) (by omega), e3, List.reverse_append, ← List.append_assoc, ← e]
    simp only [numK]
    have ht : hAt log (log.length - 1 - d) = log[log.length - 1 - d].h := by unfold hAt; rw [List.getElem?_eq_getElem (by omega)]
    rw [ht]
    cases livesB log (log.length - 1 - d) <;> simp
theorem numB_tab (log : List Ch) : numB log = numd (tabL log) := by
  have := numK_tab log log.length (Nat.le_refl _)
  simpa [numB, numd] using this

/-- Eight bits by eight. -/
theorem bitsB_cons (c : UInt8) (r : List UInt8) : bitsB (c :: r) = natBits 8 c.toNat ++ bitsB r := by simp [bitsB]
theorem natBits_cut (k j v : Nat) : natBits (k + j) v = natBits k (v / 2 ^ j) ++ natBits j v := by
  induction j generalizing v with
  | zero => simp [natBits]
  | succ j ih =>
    rw [← Nat.add_assoc]
    simp only [natBits]
    rw [ih, Nat.div_div_eq_div_mul, Nat.pow_succ, Nat.mul_comm 2, List.append_assoc]
theorem natBits_mod (k v : Nat) : natBits k (v % 2 ^ k) = natBits k v := by
  induction k generalizing v with
  | zero => rfl
  | succ k ih =>
    simp only [natBits]
    have h1 : v % 2 ^ (k + 1) / 2 = v / 2 % 2 ^ k := by
      rw [Nat.pow_succ, Nat.mul_comm, Nat.mod_mul_right_div_self]
    have h2 : v % 2 ^ (k + 1) % 2 = v % 2 := Nat.mod_mod_of_dvd v ⟨2 ^ k, by rw [Nat.pow_succ, Nat.mul_comm]⟩
    rw [h1, h2, ih]
theorem byte_bits {k n : Nat} (f : Nat) (first : List Bool) (hk : k ≤ 8) (hf : first = natBits (8 - k) (f / 2 ^ k)) (hd : f % 2 ^ k = 0) (hn : n < 2 ^ k) (hb : f + n < 256) : natBits 8 (UInt8.ofNat (f + n)).toNat = first ++ natBits k n := by
  have e : (UInt8.ofNat (f + n)).toNat = f + n := by simp [UInt8.toNat_ofNat', Nat.mod_eq_of_lt hb]
  have h8 : 8 = (8 - k) + k := by omega
  rw [e]
  conv => lhs; rw [h8]
  rw [natBits_cut]
  have h1 : (f + n) / 2 ^ k = f / 2 ^ k := by
    obtain ⟨q, hq⟩ := Nat.dvd_of_mod_eq_zero hd
    have hp : 0 < 2 ^ k := Nat.two_pow_pos k
    rw [hq, Nat.mul_add_div hp, Nat.div_eq_of_lt hn, Nat.add_zero, Nat.mul_div_cancel_left _ hp]
  have h2 : natBits k (f + n) = natBits k n := by
    rw [← natBits_mod k (f + n), Nat.add_mod, hd, Nat.zero_add, Nat.mod_mod, natBits_mod]
  rw [h1, h2, hf]
theorem tail_bits (n : Nat) : tailB n = bitsB (tail7 n) := by
  induction n using Nat.strongRecOn with
  | ind n ih =>
    by_cases h : 128 ≤ n
    · rw [tailB_more h, tail7_more (by omega), bitsB_cons, ih (n / 128) (by omega)]
      congr 1
      exact (byte_bits (k := 7) 128 [true] (by omega) (by decide) (by decide) (by omega) (by omega)).symm
    · rw [tailB_last h, tail7_last (by omega), bitsB_cons]
      have e : (UInt8.ofNat n).toNat = n := by simp [UInt8.toNat_ofNat', Nat.mod_eq_of_lt (by omega : n < 256)]
      rw [e]; simp [bitsB]
theorem count_bits (f k : Nat) (first : List Bool) (n : Nat) (hk : k ≤ 8) (h1 : 8 - first.length = k) (hf : first = natBits (8 - k) (f / 2 ^ k)) (hd : f % 2 ^ k = 0) (hb : f + 2 ^ k ≤ 256) (hp : 1 ≤ k) : countB first n = bitsB (cnt f k n) := by
  have h2 : 2 ≤ 2 ^ k := by
    have := Nat.pow_le_pow_right (show 0 < 2 by omega) hp
    simpa using this
  unfold countB cnt
  rw [h1]
  split
  · next h => rw [bitsB_cons, byte_bits f first hk hf hd (by omega) (by omega)]; simp [bitsB]
  · rw [bitsB_cons, byte_bits f first hk hf hd (by omega) (by omega), tail_bits]
theorem c1 (n : Nat) : countB [true] n = bitsB (cnt 128 7 n) := count_bits 128 7 _ n (by decide) rfl (by decide) (by decide) (by decide) (by decide)
theorem c0 (n : Nat) : countB [false] n = bitsB (cnt 0 7 n) := count_bits 0 7 _ n (by decide) rfl (by decide) (by decide) (by decide) (by decide)
theorem c01 (n : Nat) : countB [false, true] n = bitsB (cnt 64 6 n) := count_bits 64 6 _ n (by decide) rfl (by decide) (by decide) (by decide) (by decide)
theorem c001 (n : Nat) : countB [false, false, true] n = bitsB (cnt 32 5 n) := count_bits 32 5 _ n (by decide) rfl (by decide) (by decide) (by decide) (by decide)
theorem c0000 (n : Nat) : countB [false, false, false, false] n = bitsB (cnt 0 4 n) := count_bits 0 4 _ n (by decide) rfl (by decide) (by decide) (by decide) (by decide)
theorem text_bits (t : List UInt8) : textB t = bitsB (txt t) := by
  unfold textB txt
  split <;> simp only [bitsB_append, c1, c0]

theorem nmS_zero (l : List HP) (n : ByteArray) : nmS l n 0 = nmF l n := by
  unfold nmS nmF
  rw [List.drop_zero]
  generalize l.findIdx? _ = o
  cases o <;> simp
/-- A pair: its bits, and the table behind it. -/
theorem pair_bits (log : List Ch) (lim : Nat) (h : HP) (hn : 1 ≤ h.n.size) : (pairB log lim h).1 = bitsB (pairK (tabL log) lim h).1 ∧ tabL (pairB log lim h).2 = (pairK (tabL log) lim h).2 := by
  have hadd : isAdd ⟨h, (lim : Int)⟩ = true := by
    unfold isAdd
    have : h.n.toList ≠ [] := by
      intro e
      rw [ba_toList] at e
      have h2 := ba_len' h.n
      rw [e] at h2; simp at h2; omega
    simp [this]
  have hif : ∀ x : Nat, bitsB (if x = 0 then txt h.n.data.toList else []) = if x = 0 then textB h.n.data.toList else [] := by
    intro x
    by_cases hx : x = 0
    · rw [if_pos hx, if_pos hx, text_bits]
    · rw [if_neg hx, if_neg hx]; rfl
  unfold pairB pairK pnN
  rw [numB_tab]
  cases hp : pnF (numd (tabL log)) h with
  | some i =>
    simp only
    rw [if_neg (by omega)]
    exact ⟨c1 _, rfl⟩
  | none =>
    simp only [nmS_zero]
    rw [if_pos trivial]
    by_cases ht : (tk h : Int) ≤ (lim : Int)
    · have ht2 : ¬ lim < tk h := by omega
      rw [if_pos ht, if_pos ht, if_neg ht2]
      refine ⟨?_, ?_⟩
      · simp only [txs, bitsB_append, c01, text_bits, List.append_assoc, hif]
      · rw [tabL_snoc, hadd]
        unfold addT
        have : tkC ⟨h, (lim : Int)⟩ = tk h := by unfold tkC; rw [hadd]; rfl
        rw [this]
        simp only [Bool.true_and, decide_eq_true ht, if_true]
        rw [if_pos (by omega)]
    · have ht2 : lim < tk h := by omega
      rw [if_neg ht, if_neg ht, if_pos ht2]
      refine ⟨?_, rfl⟩
      simp only [txs, bitsB_append, c0000, text_bits, List.append_assoc, hif]
theorem pairs_bits (hs : List HP) (log : List Ch) (lim : Nat) (hn : ∀ h ∈ hs, 1 ≤ h.n.size) : (pairsB hs log lim).1 = bitsB (pairsK hs (tabL log) lim).1 ∧ tabL (pairsB hs log lim).2 = (pairsK hs (tabL log) lim).2 := by
  induction hs generalizing log with
  | nil => simp [pairsB, pairsK, bitsB]
  | cons h r ih =>
    obtain ⟨a, b⟩ := pair_bits log lim h (hn h (by simp))
    obtain ⟨c, d⟩ := ih (pairB log lim h).2 (fun x hx => hn x (by simp [hx]))
    simp only [pairsB, pairsK, bitsB_append]
    rw [b] at c d
    exact ⟨by rw [a, c], d⟩
/-- The limits that wait. -/
def waitOf (told : List Nat) : List Nat := match told.getLast? with
  | none => []
  | some last => if leastN told last < last then [leastN told last, last] else [last]
theorem limC_add (n : Nat) : isAdd (limC n) = false := by
  unfold isAdd limC
  rw [ba_toList]; rfl
theorem tabL_lim (log : List Ch) (n : Nat) : tabL (log ++ [limC n]) = shr (tabL log) n := by
  rw [tabL_snoc, limC_add]
  have e : tkC (limC n) = 0 := by unfold tkC; rw [limC_add]; rfl
  rw [e]
  simp [limC]
theorem lims_bits (told : List Nat) (log : List Ch) (lim : Nat) : (limsB told log lim).1 = bitsB (limsK (waitOf told) lim (tabL log)).1 ∧ tabL (limsB told log lim).2.1 = (limsK (waitOf told) lim (tabL log)).2.2 ∧ (limsB told log lim).2.2 = ((limsK (waitOf told) lim (tabL log)).2.1 : Int) := by
  unfold limsB waitOf
  cases told.getLast? with
  | none => simp [limsK, bitsB]
  | some last =>
    simp only
    split
    · simp only [limsK, bitsB_append, c001, tabL_lim]
      simp [bitsB]
    · simp only [limsK, bitsB_append, c001, tabL_lim]
      simp [bitsB]
/-- A block. -/
theorem block_bits (told : List Nat) (log : List Ch) (lim : Nat) (hs : List HP) (hn : ∀ h ∈ hs, 1 ≤ h.n.size) (p : Pk) (hp : p = ⟨lim, tabL log, waitOf told⟩) :
    blockB told log lim hs = bitsB (p.pack hs).1 ∧ (p.pack hs).2 = ⟨(limsK (waitOf told) lim (tabL log)).2.1, tabL (pairsB hs (limsB told log lim).2.1 (limsB told log lim).2.2).2, []⟩ ∧ (limsB told log lim).2.2 = ((limsK (waitOf told) lim (tabL log)).2.1 : Int) := by
  obtain ⟨a, b, c⟩ := lims_bits told log lim
  subst hp
  unfold blockB Pk.pack
  simp only
  rw [c]
  obtain ⟨d, e⟩ := pairs_bits hs (limsB told log lim).2.1 (limsK (waitOf told) lim (tabL log)).2.1 hn
  rw [b] at d e
  rw [a, d, bitsB_append, e]
  exact ⟨rfl, rfl, rfl⟩

theorem bits_take (l : List UInt8) (i : Nat) (h : i < l.length) : ((bitsB l).drop (8 * i)).take 8 = natBits 8 l[i].toNat := by
  induction l generalizing i with
  | nil => simp at h
  | cons c r ih =>
    rw [bitsB_cons]
    cases i with
    | zero =>
      simp only [Nat.mul_zero, List.drop_zero, List.getElem_cons_zero]
      rw [List.take_append_of_le_length (by rw [natBits_length]; omega), List.take_of_length_le (by rw [natBits_length]; omega)]
    | succ i =>
      have e : 8 * (i + 1) = (natBits 8 c.toNat).length + 8 * i := by rw [natBits_length]; omega
      rw [e, List.drop_length_add_append]
      simpa using ih i (by simpa using h)
theorem bytes_bits (l : List UInt8) : bytesB (bitsB l) = l := by
  apply List.ext_getElem
  · rw [bytesB_length, bitsB_length]; omega
  · intro i h1 h2
    have e : (bytesB (bitsB l))[i] = UInt8.ofNat (valB (((bitsB l).drop (8 * i)).take 8)) := by simp [bytesB]
    rw [e, bits_take l i h2, valB_natBits]
    have := UInt8.toNat_lt l[i]
    rw [Nat.mod_eq_of_lt (by omega)]
    simp

/-- One Resize more. -/
theorem leastN_min (l : List Nat) (m : Nat) : leastN l m = l.foldl min m := by
  induction l generalizing m with
  | nil => rfl
  | cons x r ih =>
    simp only [leastN, List.foldl_cons, ih]
    congr 1
    split <;> omega
theorem leastN_snoc (l : List Nat) (x m : Nat) : leastN (l ++ [x]) m = min (leastN l m) x := by
  rw [leastN_min, leastN_min, List.foldl_append]; rfl
theorem leastN_more (l : List Nat) (m k : Nat) : leastN l (min m k) = min (leastN l m) k := by
  rw [leastN_min, leastN_min]
  induction l generalizing m with
  | nil => rfl
  | cons x r ih =>
    simp only [List.foldl_cons]
    rw [← ih]
    congr 1
    omega
theorem leastN_le' (l : List Nat) (m : Nat) : leastN l m ≤ m := by
  rw [leastN_min]
  induction l generalizing m with
  | nil => exact Nat.le_refl _
  | cons x r ih => simp only [List.foldl_cons]; exact Nat.le_trans (ih _) (by omega)
theorem leastN_mem {l : List Nat} {m x : Nat} (h : x ∈ l) : leastN l m ≤ x := by
  induction l generalizing m with
  | nil => simp at h
  | cons y r ih =>
    simp only [leastN]
    rcases List.mem_cons.1 h with rfl | h
    · exact Nat.le_trans (leastN_le' r _) (by split <;> omega)
    · exact ih h
theorem wait_resize (told : List Nat) (lim n : Nat) (tab : List HP) : (Pk.resize ⟨lim, tab, waitOf told⟩ n) = ⟨lim, tab, waitOf (told ++ [n])⟩ := by
  unfold Pk.resize
  simp only
  congr 1
  have hr : waitOf (told ++ [n]) = if min (leastN told n) n < n then [min (leastN told n) n, n] else [n] := by
    have hg : (told ++ [n]).getLast? = some n := by simp
    unfold waitOf
    rw [hg]
    simp only [leastN_snoc]
  rw [hr]
  have hle := leastN_le' told n
  cases hl : told.getLast? with
  | none =>
    have : told = [] := by simpa using hl
    subst this
    simp [waitOf, leastN]
  | some last =>
    have hmem : last ∈ told := List.mem_of_getLast? hl
    have h1 : leastN told n = min (leastN told last) n := by
      have a := leastN_more told last n
      have b := leastN_more told n last
      rw [Nat.min_comm last n, b] at a
      have c : leastN told n ≤ last := leastN_mem hmem
      omega
    have h2 := leastN_le' told last
    unfold waitOf
    rw [hl]
    simp only
    by_cases hc : leastN told last < last
    · rw [if_pos hc]
      simp only
      rw [h1]
      have : min (min (leastN told last) n) n = min (leastN told last) n := by omega
      rw [this]
    · rw [if_neg hc]
      simp only
      rw [h1]
      have e : leastN told last = last := by omega
      rw [e]
      have : min (min last n) n = min last n := by omega
      rw [this]
/-- Tables stay small. -/
theorem szT_shr (l : List HP) (m : Int) : szT (shr l m) ≤ szT l := by
  unfold shr
  have h2 := congrArg szT (List.take_append_drop (goneN l m) l)
  rw [szT_append] at h2
  omega
theorem szT_addT {l : List HP} {lim : Nat} {h : HP} (h1 : szT l ≤ 256) (h2 : lim ≤ 256) : szT (addT l lim h) ≤ 256 := by
  unfold addT
  split
  · next ht =>
    have := shr_size l ((lim : Int) - tk h) (by omega)
    rw [szT_append, szT_cons]
    simp [szT] at this ⊢
    omega
  · exact Nat.le_trans (szT_shr l _) h1
theorem pairsK_small {hs l : List HP} {lim : Nat} (h1 : szT l ≤ 256) (h2 : lim ≤ 256) : szT (pairsK hs l lim).2 ≤ 256 := by
  induction hs generalizing l with
  | nil => exact h1
  | cons x r ih =>
    simp only [pairsK]
    refine ih ?_
    unfold pairK
    split
    · split
      · exact h1
      · exact szT_addT h1 h2
    · exact h1
theorem limsK_small {ws : List Nat} {l : List HP} {lim : Nat} (h1 : szT l ≤ 256) (h2 : lim ≤ 256) (hw : ∀ x ∈ ws, x ≤ 256) : szT (limsK ws lim l).2.2 ≤ 256 ∧ (limsK ws lim l).2.1 ≤ 256 := by
  induction ws generalizing l lim with
  | nil => exact ⟨h1, h2⟩
  | cons x r ih =>
    simp only [limsK]
    exact ih (Nat.le_trans (szT_shr _ _) h1) (hw x (by simp)) (fun y hy => hw y (by simp [hy]))
theorem wait_small {told : List Nat} (h : ∀ x ∈ told, x ≤ 256) : ∀ x ∈ waitOf told, x ≤ 256 := by
  intro x hx
  unfold waitOf at hx
  cases hl : told.getLast? with
  | none => rw [hl] at hx; simp at hx
  | some last =>
    rw [hl] at hx
    have h1 := h last (List.mem_of_getLast? hl)
    have h2 := leastN_le' told last
    simp only at hx
    split at hx <;> simp at hx <;> omega
theorem prB_pos {h : HP} (hp : prB h = true) : 1 ≤ h.n.size := by
  unfold prB at hp
  simp only [Bool.and_eq_true, decide_eq_true_eq, Bool.not_eq_true'] at hp
  rcases Nat.eq_zero_or_pos h.n.size with h0 | h0
  · have h1 := hp.1.1
    rw [ba_toList] at h1
    have h2 := ba_len' h.n
    rw [h0] at h2
    rw [List.eq_nil_of_length_eq_zero h2] at h1
    exact absurd h1 (by decide)
  · exact h0
theorem num_small {told : List Nat} {log : List Ch} {lim : Nat} {hs : List HP} (h1 : szT (tabL log) ≤ 256) (h2 : lim ≤ 256) (h3 : ∀ x ∈ told, x ≤ 256) (hn : ∀ h ∈ hs, prB h = true) :
    (numB (pairsB hs (limsB told log lim).2.1 (limsB told log lim).2.2).2).length ≤ 40 := by
  obtain ⟨a, b, c⟩ := lims_bits told log lim
  have hk := limsK_small (ws := waitOf told) h1 h2 (wait_small h3)
  rw [c]
  obtain ⟨d, e⟩ := pairs_bits hs (limsB told log lim).2.1 (limsK (waitOf told) lim (tabL log)).2.1 (fun h hh => prB_pos (hn h hh))
  rw [numB_tab, e, b, numd_length]
  have := pairsK_small (hs := hs) hk.1 hk.2
  have h8 := szT_len (pairsK hs (limsK (waitOf told) lim (tabL log)).2.2 (limsK (waitOf told) lim (tabL log)).2.1).2
  omega
end Go.Proofs.YtghongdbohjaaaaGreatDoor
/-
  (*sluiceref.Packer).Pack.
-/
namespace Go.Proofs.YtghongdbohjaaaaGreatDoor
open Go.RowKit

def natCells (l : List Nat) : List Value := l.map fun (x : Nat) => Value.int .i64 (x : Int)

theorem read_blk {w : World} {b : Nat} {v0 v1 v2 : Value} {t : TypeId} (h : w.heap[b]? = some (.cells #[v0, v1, v2] t (0, 0))) :
    w.cell? ⟨b, 0, none⟩ = some v0 ∧ w.cell? ⟨b, 1, none⟩ = some v1 ∧ w.cell? ⟨b, 2, none⟩ = some v2 ∧ ∀ o, w.frozen? ⟨b, o, none⟩ = false := by
  refine ⟨?_, ?_, ?_, fun o => by simp [World.frozen?, h]⟩ <;> rw [cell_of_row w b _ _ _ _ h] <;> rfl

/-- The document's packer. -/
structure RpS (w : World) (pb : Nat) (lv tv : Value) (log : List Ch) (lim : Nat) (told : List Nat) : Prop where
  blk : w.heap[pb]? = some (.cells #[lv, .int .i64 lim, tv] 182 (0, 0))
  rowL : w.ownsRow 0 282 3 lv log.length (chCells log)
  rowT : w.ownsRow 0 3 1 tv told.length (natCells told)
  ok : chOk log
  limit : lim ≤ 256 ∧ ∀ x ∈ told, x ≤ 256

/-- The end of the document's Pack, where it is a list. -/
def RPacked (w w' : World) (pb : Nat) (lv tv : Value) (log : List Ch) (lim : Nat) (told : List Nat) (hs : List HP) (e : Ending) : Prop :=
  ∃ v lv', e = .returned (.tuple #[v, .int .i64 0]) ∧ w'.ownsRow w.heap.size 5 1 v ((blockB told log lim hs).length / 8) ((bytesB (blockB told log lim hs)).map B) ∧
    w'.heap[pb]? = some (.cells #[lv', .int .i64 (limsB told log lim).2.2, (if told = [] then tv else .slice none 0 0)] 182 (0, 0)) ∧
    w'.ownsRow 0 282 3 lv' (pairsB hs (limsB told log lim).2.1 (limsB told log lim).2.2).2.length (chCells (pairsB hs (limsB told log lim).2.1 (limsB told log lim).2.2).2) ∧
    Chg (fun j => j = pb ∨ lv.ownBlock = some j) w w' ∧ (∀ j, lv'.ownBlock = some j → lv.ownBlock = some j ∨ w.heap.size ≤ j)

set_option maxRecDepth 100000 in
set_option maxHeartbeats 1600000 in
theorem rPack_none (pb : Nat) (sa : Option Addr) (cap : Nat) (hs : List HP) (w : World) (h : HsA w sa hs) (hl : hs.length ≤ 1073741824) (hno : listB hs = false) :
    Calls Tryz.prog 41 #[.pointer (some ⟨pb, 0, none⟩), .slice sa hs.length cap] w fun e w' => e = .returned (.tuple #[.slice none 0 0, .int .i64 2]) ∧ Below w.heap.size w w' := by
  have hlr := ListRight_any sa cap hs w h hl
  rw [hno] at hlr
  have HLR := hide hlr
  clear hlr h hno
  go_enter Tryz.func41, Tryz.ntmps41
  go_wp2_with fail
  refine HLR.out.mono ?_
  rintro e w1 ⟨rfl, hb1⟩
  clear HLR
  go_wp2
  go_ret2
  exact ⟨rfl, hb1⟩

/-- The table between two pairs. -/
structure RkS (w wr : World) (pb : Nat) (lv tv1 : Value) (lim1 : Int) (lvk : Value) (log : List Ch) : Prop where
  blk : wr.heap[pb]? = some (.cells #[lvk, .int .i64 lim1, tv1] 182 (0, 0))
  row : wr.ownsRow 0 282 3 lvk log.length (chCells log)
  ok : chOk log
  chg : Chg (fun j => j = pb ∨ lv.ownBlock = some j) w wr
  own : ∀ j, lvk.ownBlock = some j → lv.ownBlock = some j ∨ w.heap.size ≤ j

theorem RkS.tab {w wr w' : World} {pb : Nat} {lv tv1 lvk lv' : Value} {lim1 : Int} {log log' : List Ch} {cs' : Array Value} (h : RkS w wr pb lv tv1 lim1 lvk log) (ht : TabTo wr w' pb #[lvk, .int .i64 lim1, tv1] cs' 182 lvk lv' log') {lim2 : Int} (hcs : cs' = #[lv', .int .i64 lim2, tv1]) (hok : chOk log') : RkS w w' pb lv tv1 lim2 lv' log' := by
  have hsz := h.chg.size
  refine ⟨by rw [ht.blk, hcs], ht.row, hok, h.chg.trans (ht.chg.mono fun j _ e => ?_), fun j hj => ?_⟩
  · rcases e with e | e
    · exact Or.inr (Or.inl e)
    · rcases h.own j e with a | a
      · exact Or.inr (Or.inr a)
      · exact Or.inl a
  · rcases ht.own j hj with a | a
    · exact h.own j a
    · exact Or.inr (by omega)
theorem RkS.below {w wr w' : World} {pb : Nat} {lv tv1 lvk : Value} {lim1 : Int} {log : List Ch} (h : RkS w wr pb lv tv1 lim1 lvk log) (hb : Below wr.heap.size wr w') : RkS w w' pb lv tv1 lim1 lvk log :=
  ⟨by rw [hb.block _ (lt_of_block h.blk)]; exact h.blk, owns_chg h.row (Chg.of_below (S := fun _ => False) hb) (fun _ _ => id), h.ok, h.chg.then_below hb, h.own⟩

theorem RkS.untold {w wr : World} {pb : Nat} {lv tv1 lvk : Value} {lim1 : Int} {log : List Ch} (h : RkS w wr pb lv tv1 lim1 lvk log) (x : Value) : RkS w (wr.setCell ⟨pb, 2, none⟩ x) pb lv x lim1 lvk log := by
  have hset : Chg (fun j => j = pb) wr (wr.setCell ⟨pb, 2, none⟩ x) := (Chg.refl (fun j => j = pb) wr).setCell (p := ⟨pb, 2, none⟩) (Or.inr rfl) _
  exact ⟨block_setCell h.blk, owns_chg h.row hset (fun j hj e => by subst e; exact owns_ne h.row h.blk (by decide) hj), h.ok, h.chg.trans (hset.mono (fun j _ e => Or.inr (Or.inl e))), h.own⟩
theorem ok_lim {log : List Ch} (h : chOk log) (n : Nat) : chOk (log ++ [limC n]) := by
  intro c hc
  rcases List.mem_append.1 hc with hc | hc
  · exact h c hc
  · simp only [List.mem_cons, List.not_mem_nil, or_false] at hc
    subst hc
    exact ⟨Nat.zero_le _, Nat.zero_le _⟩
theorem limsB_bounds {told : List Nat} (log : List Ch) (lim : Int) (h : ∀ x ∈ told, x ≤ 256) : (limsB told log lim).1.length ≤ 1000 ∧ (limsB told log lim).2.1.length ≤ log.length + 2 := by
  unfold limsB
  split
  · simp
  · next last hl =>
    have h1 := h last (List.mem_of_getLast? hl)
    have h2 := leastN_le told last
    have c1 := countB_length [false, false, true] (leastN told last) (by simp)
    have c2 := countB_length [false, false, true] last (by simp)
    split
    · simp; omega
    · simp; omega
theorem nat_row {w : World} {base g n cap : Nat} {l : List Nat} (h : w.ownsRow base 3 1 (.slice (some ⟨g, 0, none⟩) n cap) n (natCells l)) {j : Nat} (hj : j < l.length) : w.cell? ⟨g, j, none⟩ = some (.int .i64 (l[j] : Int)) := by
  have hl : l.length = n := by have := h.1; simpa [natCells] using this
  rw [h.cellAt j (by omega)]
  simp [natCells, hj]

theorem HsA.chg {S : Nat → Prop} {w w' : World} {sa : Option Addr} {hs : List HP} (h : HsA w sa hs) (hc : Chg S w w') (hsep : 0 < hs.length → ∀ hb off, sa = some ⟨hb, off, none⟩ → ¬ S hb) : HsA w' sa hs := by
  refine ⟨fun k hk => ?_, h.ok⟩
  obtain ⟨g, off, he, hl, a, c⟩ := h.cell k hk
  have hn := hsep (Nat.lt_of_le_of_lt (Nat.zero_le _) hk) g off he
  exact ⟨g, off, he, Nat.lt_of_lt_of_le hl hc.size, (hc.cell (p := ⟨g, off + k * 2, none⟩) hl hn).trans a, (hc.cell (p := ⟨g, off + k * 2 + 1, none⟩) hl hn).trans c⟩

set_option maxRecDepth 100000 in
set_option maxHeartbeats 3200000 in
theorem rPack_list (pb : Nat) (lv tv : Value) (log : List Ch) (lim : Nat) (told : List Nat) (sa : Option Addr) (cap : Nat) (hs : List HP) (w : World) (hp : RpS w pb lv tv log lim told) (h : HsA w sa hs) (hsep : 0 < hs.length → ∀ hb off, sa = some ⟨hb, off, none⟩ → ¬ (hb = pb ∨ lv.ownBlock = some hb)) (hl : log.length ≤ 1073000000) (hsz : szT (tabL log) ≤ 256) (htl : told.length ≤ 1073741824) (hyes : listB hs = true) :
    Calls Tryz.prog 41 #[.pointer (some ⟨pb, 0, none⟩), .slice sa hs.length cap] w fun e w' => RPacked w w' pb lv tv log lim told hs e := by
  have h8 : hs.length ≤ 8 ∧ ∀ x ∈ hs, prB x = true := by
    unfold listB at hyes
    simp only [Bool.and_eq_true, decide_eq_true_eq, List.all_eq_true] at hyes
    exact hyes
  obtain ⟨h8, hpr⟩ := h8
  have hnm : ∀ k, (numB (pairsB (hs.take k) (limsB told log lim).2.1 (limsB told log lim).2.2).2).length ≤ 40 := fun k => num_small hsz hp.limit.1 hp.limit.2 (fun x hx => hpr x (List.mem_of_mem_take hx))
  have hlr := ListRight_any sa cap hs w h (by omega)
  rw [hyes] at hlr
  obtain ⟨st, ct, rfl⟩ := slice_len hp.rowT
  have HLR := hide hlr
  have HP := hide hp
  have HH := hide h
  have HSEP := hide hsep
  have HPR := hide hpr
  have hplt := lt_of_block hp.blk
  obtain ⟨L0, L1, L2, hL⟩ : ∃ L0 L1 L2, limsB told log lim = (L0, L1, L2) := ⟨_, _, _, rfl⟩
  rw [hL] at hnm
  have HNM := hide hnm
  clear hnm hsz
  obtain ⟨tv1, htv⟩ : ∃ t, t = if told = [] then Value.slice st told.length ct else .slice none 0 0 := ⟨_, rfl⟩
  have HL := hide hL
  have HTV := hide htv
  clear hlr hp h hyes hpr hsep hL htv
  go_enter Tryz.func41, Tryz.ntmps41
  go_wp2_with fail
  refine HLR.out.mono ?_
  rintro e w1 ⟨rfl, hb1⟩
  have hblk1 : w1.heap[pb]? = some (.cells #[lv, .int .i64 lim, .slice st told.length ct] 182 (0, 0)) := by rw [hb1.block _ hplt]; exact HP.out.blk
  obtain ⟨c0, c1, c2, -⟩ := read_blk hblk1
  have HB1 := hide hb1
  have HBLK1 := hide hblk1
  clear HLR hb1 hblk1
  go_upto_if 23 with fail
  go_cut [7] (fun s7 wx => s7 = .string (sB L0) ∧ ∃ lv1, RkS w wx pb lv tv1 L2 lv1 L1)
  case first =>
    have hpk0 : RkS w w1 pb lv (.slice st told.length ct) lim lv log := ⟨HBLK1.out, owns_chg HP.out.rowL (Chg.of_below (S := fun _ => False) HB1.out) (fun _ _ => id), HP.out.ok, Chg.of_below HB1.out, fun j hj => Or.inl hj⟩
    have HPK0 := hide hpk0
    clear hpk0
    by_cases hemp : told = []
    · have hl2 := HL.out
      rw [hemp] at hl2
      have hl3 : (L0, L1, L2) = (([] : List Bool), log, (lim : Int)) := hl2.symm.trans rfl
      simp only [Prod.mk.injEq] at hl3
      obtain ⟨hz0, hz1, hz2⟩ := hl3
      have HZ : Hid (L0 = [] ∧ L1 = log ∧ L2 = lim ∧ tv1 = .slice st told.length ct) := ⟨hz0, hz1, hz2, by rw [HTV.out, if_pos hemp]⟩
      have hlen0 : told.length = 0 := by rw [hemp]; rfl
      clear hl2 hz0 hz1 hz2 hemp
      go_wp2_with fail
      go_meet
      obtain ⟨z0, z1, z2, z3⟩ := HZ.out
      exact ⟨by rw [z0]; rfl, lv, by rw [z1, z2, z3]; exact HPK0.out⟩
    · have hpos : 0 < told.length := List.length_pos_iff.2 hemp
      obtain ⟨gt, hgt, hct⟩ := slice_some HP.out.rowT hpos
      subst hgt
      have hgtl : gt < w.heap.size := owns_lt HP.out.rowT rfl
      have hrT := owns_chg HP.out.rowT (Chg.of_below (S := fun _ => False) HB1.out) (fun _ _ => id)
      have HRT := hide hrT
      obtain ⟨m, hm⟩ : ∃ m, m = told.length - 1 := ⟨_, rfl⟩
      have hml : m < told.length := by omega
      have hmi : (told.length : Int) - 1 = m := by omega
      have hlast : told.getLast? = some told[m] := by rw [List.getLast?_eq_getElem?, ← hm, List.getElem?_eq_getElem hml]
      have d0 := nat_row hrT hml
      have hlv : told[m] ≤ 256 := HP.out.limit.2 _ (List.getElem_mem _)
      have hl2 := HL.out
      have hle := leastN_le told told[m]
      unfold limsB at hl2
      rw [hlast] at hl2
      simp only at hl2
      generalize told[m] = last at d0 hlv hl2 hle
      have HL2 := hide hl2
      have HTV2 : Hid (tv1 = .slice none 0 0) := by show _ = _; rw [HTV.out, if_neg hemp]
      clear hrT hm hlast hl2 hemp HP
      go_upto_region 6 with fail
      go_cut [8] (fun s8 wx => s8 = .int .i64 last ∧ wx = w1.drew)
      case first =>
        go_region
        all_goals (go_wp2_with fail)
        all_goals (go_meet; exact ⟨rfl, rfl⟩)
      case rest =>
        obtain ⟨rfl, hwx⟩ := hcut
        obtain ⟨w2, hw2⟩ : ∃ w2, w2 = wc := ⟨wc, rfl⟩
        subst hw2
        have hd2 : Below w1.heap.size w1 w2 := by rw [hwx]; exact ⟨rfl, rfl, rfl, Nat.le_refl _, fun _ _ => rfl⟩
        have HPK2 := hide (HPK0.out.below hd2)
        have HRT2 := hide (owns_chg HRT.out (Chg.of_below (S := fun _ => False) hd2) (fun _ _ => id))
        obtain ⟨b0, b1, b2, bf⟩ := read_blk HPK2.out.blk
        have bf2 := bf 2
        clear hwx hd2 d0 c0 c1 c2 bf HPK0 HRT
        go_wp2
        go_loop [9, 10] (fun x i => ∃ k : Nat, k ≤ told.length ∧ i = .int .i64 k ∧ x = .int .i64 ((leastN (told.take k) last : Nat) : Int)) (fun _ i => told.length - (intOf i).toNat)
        case atStart => exact ⟨0, Nat.zero_le _, rfl, rfl⟩
        case round =>
          obtain ⟨k, hk, rfl, rfl⟩ := hrel
          by_cases hlt : k < told.length
          · have d0 := nat_row HRT2.out hlt
            have hnx := leastN_next (m := last) hlt
            generalize told[k] = x at d0 hnx
            generalize leastN (told.take k) last = y at hnx ⊢
            have HNX := hide hnx
            clear hnx
            by_cases hxy : x < y
            · have HN2 : Hid (leastN (told.take (k + 1)) last = x) := by show _ = _; rw [HNX.out, if_pos hxy]
              go_wp2
              go_round
              case rel => exact ⟨k + 1, by omega, by go_num, by rw [HN2.out]⟩
              case measure => simp [intOf]; omega
            · have HN2 : Hid (leastN (told.take (k + 1)) last = y) := by show _ = _; rw [HNX.out, if_neg hxy]
              go_wp2
              go_round
              case rel => exact ⟨k + 1, by omega, by go_num, by rw [HN2.out]⟩
              case measure => simp [intOf]; omega
          · have hke : k = told.length := by omega
            subst hke
            rw [List.take_length]
            generalize leastN told last = ls at hle HL2 ⊢
            have hpt1 := fun (n : Int) => ptold_any pb #[lv, .int .i64 lim, .slice (some ⟨gt, 0, none⟩) told.length ct] 182 lv log lim n w2 HPK2.out.blk (by decide) rfl rfl HPK2.out.row (by omega)
            have hkl := countOf_any [false, false, true] ls w2 (by simp) (by omega)
            have hkl' : Calls Tryz.prog 81 #[.string ⟨#[48, 48, 49]⟩, .int .i64 ls] w2 fun e w' => e = .returned (.string (sB (countB [false, false, true] ls))) ∧ w' = w2 := hkl
            have hkt := fun (wx : World) => countOf_any [false, false, true] last wx (by simp) (by omega)
            have hkt' : ∀ wx : World, Calls Tryz.prog 81 #[.string ⟨#[48, 48, 49]⟩, .int .i64 last] wx fun e w' => e = .returned (.string (sB (countB [false, false, true] last))) ∧ w' = wx := hkt
            have s1 : (sB (countB [false, false, true] ls)).size ≤ 1000 := by rw [sB_size]; have := countB_length [false, false, true] ls (by simp); omega
            have s2 : (sB (countB [false, false, true] last)).size ≤ 1000 := by rw [sB_size]; have := countB_length [false, false, true] last (by simp); omega
            have HPT := hide hpt1
            have HKL := hide hkl'
            have HKT := hide hkt'
            clear hpt1 hkl hkl' hkt hkt' hk hlt
            by_cases hlt2 : ls < last
            · have hl2 := HL2.out
              rw [if_pos hlt2] at hl2
              simp only [Prod.mk.injEq] at hl2
              obtain ⟨x0, x1, x2⟩ := hl2
              have HX0 : Hid (sB (countB [false, false, true] ls) ++ sB (countB [false, false, true] last) = sB L0) := by show _ = _; rw [← x0, sB_append]
              have HX1 := hide x1
              have HX2 := hide x2
              clear x0 x1 x2
              generalize sB (countB [false, false, true] ls) = U1 at s1 HX0 HKL
              generalize sB (countB [false, false, true] last) = U2 at s2 HX0 HKT
              go_wp2_with fail
              refine HKL.out.mono ?_
              rintro e w' ⟨rfl, hw'⟩
              rw [hw']
              clear hw' w' HKL
              go_wp2_with fail
              refine (HPT.out (ls : Int)).mono ?_
              rintro e w3 ⟨rfl, lv3, ht3⟩
              have hpk3 := RkS.tab (lim2 := (ls : Int)) HPK2.out ht3 rfl (ok_lim HPK2.out.ok ls)
              obtain ⟨b0, b1, b2, bf⟩ := read_blk hpk3.blk
              have hpt3 := ptold_any pb #[lv3, .int .i64 ls, .slice (some ⟨gt, 0, none⟩) told.length ct] 182 lv3 (log ++ [limC ls]) ls last w3 hpk3.blk (by decide) rfl rfl hpk3.row (by simp; omega)
              have HPK3 := hide hpk3
              have HPT3 := hide hpt3
              clear ht3 hpk3 hpt3 HPT bf b0 b1 b2
              go_wp2_with fail
              refine (HKT.out w3).mono ?_
              rintro e w' ⟨rfl, hw'⟩
              rw [hw']
              clear hw' w' HKT
              go_wp2_with fail
              refine HPT3.out.mono ?_
              rintro e w4 ⟨rfl, lv4, ht4⟩
              have hpk4 := RkS.tab (lim2 := (last : Int)) HPK3.out ht4 rfl (ok_lim HPK3.out.ok last)
              obtain ⟨b0, b1, b2, bf⟩ := read_blk hpk4.blk
              have bf2 := bf 2
              have HPK4 := hide (hpk4.untold (.slice none 0 0))
              clear ht4 hpk4 HPT3 bf
              go_wp2_with fail
              go_meet
              exact ⟨by rw [HX0.out], lv4, by rw [← HX1.out, ← HX2.out, HTV2.out]; exact HPK4.out⟩
            · have hl2 := HL2.out
              rw [if_neg hlt2] at hl2
              simp only [Prod.mk.injEq] at hl2
              obtain ⟨x0, x1, x2⟩ := hl2
              have HX0 : Hid (ByteArray.mk #[] ++ sB (countB [false, false, true] last) = sB L0) := by
                show sB [] ++ _ = _
                rw [← x0, sB_append, List.nil_append]
              have HX1 := hide x1
              have HX2 := hide x2
              clear x0 x1 x2
              generalize sB (countB [false, false, true] last) = U2 at s2 HX0 HKT
              go_wp2_with fail
              refine (HKT.out w2).mono ?_
              rintro e w' ⟨rfl, hw'⟩
              rw [hw']
              clear hw' w' HKT
              go_wp2_with fail
              refine (HPT.out (last : Int)).mono ?_
              rintro e w4 ⟨rfl, lv4, ht4⟩
              have hpk4 := RkS.tab (lim2 := (last : Int)) HPK2.out ht4 rfl (ok_lim HPK2.out.ok last)
              obtain ⟨b0, b1, b2, bf⟩ := read_blk hpk4.blk
              have bf2 := bf 2
              have HPK4 := hide (hpk4.untold (.slice none 0 0))
              clear ht4 hpk4 bf
              go_wp2_with fail
              go_meet
              exact ⟨by rw [← HX0.out], lv4, by rw [← HX1.out, ← HX2.out, HTV2.out]; exact HPK4.out⟩
  case rest =>
    obtain ⟨rfl, lv1, hpk⟩ := hcut
    obtain ⟨w2, hw2⟩ : ∃ w2, w2 = wc := ⟨wc, rfl⟩
    subst hw2
    have hbd := limsB_bounds log lim HP.out.limit.2
    rw [HL.out] at hbd
    simp only at hbd
    have hL0 : L0.length ≤ 10000 := by omega
    have hL1 : L1.length ≤ 1073000100 := by omega
    clear hbd
    have HPK := hide hpk
    clear hpk c0 c1 c2
    go_wp2
    go_loopw [7, 12] (fun s i wr => ∃ (k : Nat) (lvk : Value), k ≤ hs.length ∧ i = .int .i64 k ∧ s = .string (sB (L0 ++ (pairsB (hs.take k) L1 L2).1)) ∧ (pairsB (hs.take k) L1 L2).1.length ≤ k * 1000000 ∧ (pairsB (hs.take k) L1 L2).2.length ≤ L1.length + k ∧ RkS w wr pb lv tv1 L2 lvk (pairsB (hs.take k) L1 L2).2) (fun _ i _ => hs.length - (intOf i).toNat)
    case atStart => exact ⟨0, lv1, Nat.zero_le _, rfl, by simp [pairsB], by simp [pairsB], by simp [pairsB], HPK.out⟩
    case round =>
      obtain ⟨k, lvk, hk, rfl, rfl, hbits, hlen, hpk⟩ := hrel
      by_cases hlt : k < hs.length
      · obtain ⟨g, off, he, hg, q0, q1⟩ := (HH.out.chg hpk.chg HSEP.out).cell k hlt
        subst he
        obtain ⟨z1, z2⟩ := HH.out.ok hs[k] (List.getElem_mem _)
        have hpr := HPR.out hs[k] (List.getElem_mem _)
        have hnx := pairsB_next hlt L1 L2
        obtain ⟨slk, clk, rfl⟩ := slice_len hpk.row
        have hz40 : hs[k].n.size ≤ 40 ∧ hs[k].v.size ≤ 40 := by
          unfold prB at hpr
          simp only [Bool.and_eq_true, decide_eq_true_eq] at hpr
          exact ⟨hpr.1.2, hpr.2⟩
        have hpo := pairOf_any pb #[.slice slk (pairsB (hs.take k) L1 L2).2.length clk, .int .i64 L2, tv1] 182 _ (pairsB (hs.take k) L1 L2).2 L2 hs[k] wr hpk.blk (by decide) rfl rfl hpk.row hpk.ok (by omega) (Nat.le_trans (HNM.out k) (by decide)) hz40.1 hz40.2
        have hpbo := pairB_ok (lim := L2) (h := hs[k]) hpk.ok z1 z2
        have hpbb := pairB_bits (lim := L2) (h := hs[k]) (log := (pairsB (hs.take k) L1 L2).2) (Nat.le_trans (HNM.out k) (by decide)) hz40.1 hz40.2
        have hsz1 : (sB (L0 ++ (pairsB (hs.take k) L1 L2).1)).size ≤ 9000000 := by rw [sB_size, List.length_append]; omega
        have hsz2 : (sB (pairB (pairsB (hs.take k) L1 L2).2 L2 hs[k]).1).size ≤ 1000000 := by rw [sB_size]; exact hpbb
        have hcat : sB (L0 ++ (pairsB (hs.take k) L1 L2).1) ++ sB (pairB (pairsB (hs.take k) L1 L2).2 L2 hs[k]).1 = sB (L0 ++ (pairsB (hs.take (k + 1)) L1 L2).1) := by rw [sB_append, hnx, List.append_assoc]
        have hn1 : (pairsB (hs.take (k + 1)) L1 L2).1.length ≤ (k + 1) * 1000000 := by rw [hnx]; simp only [List.length_append]; omega
        have hn2 : (pairsB (hs.take (k + 1)) L1 L2).2.length ≤ L1.length + (k + 1) := by rw [hnx]; simp only; omega
        have hn3 : (pairsB (hs.take (k + 1)) L1 L2).2 = (pairB (pairsB (hs.take k) L1 L2).2 L2 hs[k]).2 := by rw [hnx]
        have hcsx : ∀ x : Value, (#[Value.slice slk (pairsB (hs.take k) L1 L2).2.length clk, .int .i64 L2, tv1] : Array Value).setIfInBounds 0 x = #[x, .int .i64 L2, tv1] := fun x => rfl
        have hnext := fun (w' : World) (lv' : Value) ht => RkS.tab (lim2 := L2) (w' := w') (lv' := lv') hpk ht (hcsx lv') hpbo.1
        rw [← hn3] at hnext hpo
        generalize sB (L0 ++ (pairsB (hs.take k) L1 L2).1) = S at hsz1 hcat ⊢
        generalize sB (pairB (pairsB (hs.take k) L1 L2).2 L2 hs[k]).1 = P at hsz2 hcat hpo
        generalize hs[k] = h at q0 q1 hpo
        obtain ⟨n, v⟩ := h
        simp only at q0 q1 hpo
        have HPO := hide hpo
        have HNEXT := hide hnext
        have HCAT := hide hcat
        have HN1 := hide hn1
        have HN2 := hide hn2
        clear hpo hnext hcat hn1 hn2 hn3 hpbo hpbb hz40 hnx hpr z1 z2 hbits hlen hpk hcsx
        go_wp2_with fail
        refine HPO.out.mono ?_
        rintro e w3 ⟨rfl, lv3, ht3⟩
        have HPK3 := hide (HNEXT.out w3 lv3 ht3)
        clear ht3 q0 q1 HPO HNEXT
        go_wp2
        go_roundw
        case rel => exact ⟨k + 1, lv3, by omega, by go_num, by rw [HCAT.out], HN1.out, HN2.out, HPK3.out⟩
        case measure => simp [intOf]; omega
      · have hke : k = hs.length := by omega
        subst hke
        rw [List.take_length] at hbits hlen hpk ⊢
        have hblk : blockB told log lim hs = L0 ++ (pairsB hs L1 L2).1 := by unfold blockB; rw [HL.out]
        have htb := toBytes_any (L0 ++ (pairsB hs L1 L2).1) wr (by rw [List.length_append]; omega)
        have hfin : ∀ v (w' : World), w'.ownsRow wr.heap.size 5 1 v ((L0 ++ (pairsB hs L1 L2).1).length / 8) ((bytesB (L0 ++ (pairsB hs L1 L2).1)).map B) → Below wr.heap.size wr w' → RPacked w w' pb lv (.slice st told.length ct) log lim told hs (.returned (.tuple #[v, .int .i64 0])) := by
          intro v w' ho hb
          have hp2 := hpk.below hb
          have hsz := hpk.chg.size
          refine ⟨v, lvk, rfl, by rw [hblk]; exact owns_base ho (fun j hj => by have := (ho.lt j hj).1; omega), ?_, ?_, hp2.chg, hp2.own⟩
          · rw [HL.out, ← HTV.out]; exact hp2.blk
          · rw [HL.out]; exact hp2.row
        generalize sB (L0 ++ (pairsB hs L1 L2).1) = S at htb ⊢
        have HTB := hide htb
        have HFIN := hide hfin
        clear htb hfin hblk hbits hlen hpk
        go_wp2_with fail
        refine HTB.out.mono ?_
        rintro e w3 ⟨v, rfl, hown, hb3⟩
        have HR3 := hide (HFIN.out v w3 hown hb3)
        clear hown hb3 HTB HFIN
        go_wp2
        go_ret2
        exact HR3.out
end Go.Proofs.YtghongdbohjaaaaGreatDoor
/-
  sluiceref: NewPacker, Resize, Size of a packer.
-/
namespace Go.Proofs.YtghongdbohjaaaaGreatDoor
open Go.RowKit

set_option maxRecDepth 100000 in
set_option maxHeartbeats 1600000 in
theorem rResize_bad (pb : Nat) (n : Int) (w : World) (hn : ¬ (0 ≤ n ∧ n ≤ 256)) :
    Calls Tryz.prog 36 #[.pointer (some ⟨pb, 0, none⟩), .int .i64 n] w fun e w' => e = .returned (.int .i64 1) ∧ w' = w := by
  by_cases h1 : n < 0
  · go_enter Tryz.func36, Tryz.ntmps36
    go_wp2
    go_ret
    exact ⟨rfl, rfl⟩
  · have h2 : 256 < n := by omega
    clear hn
    go_enter Tryz.func36, Tryz.ntmps36
    go_wp2
    go_ret
    exact ⟨rfl, rfl⟩

set_option maxRecDepth 100000 in
set_option maxHeartbeats 1600000 in
theorem rSize_any (pb : Nat) (lv tv : Value) (log : List Ch) (lim : Nat) (told : List Nat) (w : World) (hp : RpS w pb lv tv log lim told) (hl : log.length ≤ 1073741824) :
    Calls Tryz.prog 38 #[.pointer (some ⟨pb, 0, none⟩)] w fun e w' => e = .returned (.int .i64 (sizeB log)) ∧ Below w.heap.size w w' := by
  obtain ⟨c0, -, -, -⟩ := read_blk hp.blk
  have hps := tsize_any pb lv log w c0 hp.rowL hp.ok hl
  have HPS := hide hps
  clear hps hp
  go_enter Tryz.func38, Tryz.ntmps38
  go_wp2_with fail
  refine HPS.out.mono ?_
  rintro e w1 ⟨rfl, hb1⟩
  clear HPS c0
  go_wp2
  go_ret
  exact ⟨rfl, hb1⟩
end Go.Proofs.YtghongdbohjaaaaGreatDoor
