/-
  sluicelaw: lentBytes, wholeBytes.
-/
import Derived.Test.YtckeblkadiehbaaGreatLawLeaf
import Derived.Laws.CopyOwn
import Derived.Lib.BufferWrite
namespace Go.Proofs.YtckeblkadiehbaaGreat
open Go.RowKit

theorem set_next {α : Type} {A L : List α} {i : Nat} (x : α) (hA : A.length = i) (hi : i < L.length) : (A ++ L.drop i).set i x = (A ++ [x]) ++ L.drop (i + 1) := by
  subst hA
  rw [List.set_append_right _ _ (Nat.le_refl _), Nat.sub_self, List.drop_eq_getElem_cons hi, List.set_cons_zero]
  simp

theorem row_set {w : World} {g i : Nat} {xs : List Value} {t : TypeId} {fr : Nat × Nat} {u : Value} (h : w.heap[g]? = some (.cells xs.toArray t fr)) : (w.setCell ⟨g, i, none⟩ u).heap[g]? = some (.cells (xs.set i u).toArray t fr) := by
  have := block_setCell (i := i) (u := u) h
  simpa using this
theorem row_cell {w : World} {g i : Nat} {xs : List Value} {t : TypeId} {fr : Nat × Nat} (h : w.heap[g]? = some (.cells xs.toArray t fr)) : w.cell? ⟨g, i, none⟩ = xs[i]? := by
  rw [cell_of_row w g _ _ _ _ h]; simp
theorem row_free {w : World} {g i : Nat} {xs : List Value} {t : TypeId} (h : w.heap[g]? = some (.cells xs.toArray t (0, 0))) : w.frozen? ⟨g, i, none⟩ = false := by simp [World.frozen?, h]

theorem wpList_copy_str {P : Program} {w : World} {ops : Array Oper} {rest : List Oper} {o : Oper} {a : Act} {Q : Exit → Act → World → Prop} (hgd : o.guard = none) (d s : Operand) (dT sT : TypeId)
    (ho : o.op = .call { callee := .builtin .copy, args := #[d, s], argTypes := #[dT, sT] }) (elem : TypeId) (hu : P.underlying dT = some (.slice elem)) (hsz : (P.info? elem).map (·.size) = some 1)
    (g dLen dCap : Nat) (str : ByteArray) (hd : a.eval d = .slice (some ⟨g, 0, none⟩) dLen dCap) (hs : a.eval s = .string str)
    (cur : List Value) (t : TypeId) (hg : w.heap[g]? = some (.cells cur.toArray t (0, 0))) (hle : str.size ≤ dLen) (hfit : str.size ≤ cur.length) (b : Nat) (w0 : World) (hb : Below b w0 w) (hbg : b ≤ g)
    (h : ∀ w', Hid (w'.heap[g]? = some (.cells (str.data.toList.map B ++ cur.drop str.size).toArray t (0, 0))) → Below b w0 w' → wpList P ops Q rest (a.put o.dst (goInt str.size)) w') :
    wpList P ops Q (o :: rest) a w := by
  refine wpList_plain hgd fun K hK => ?_
  have hr := Lib.run_copy_row_string (P := P) w dT sT o.type elem g 0 dLen dCap str cur.toArray t hu hsz hg hle (by simpa using hfit)
  unfold Oper.wp execOp
  simp only [ho, resolve, invoke, builtin, Sem.run_bind, Sem.run_pure, Result.andThen_ok, List.map_toArray, List.map_cons, List.map_nil, hd, hs, hr]
  refine hK _ _ (h _ ?_ (below_setRow hb hbg _))
  show _ = _
  rw [setRow_heap w g _ _ t _ hg]
  simp [Lib.byteCells]

/-- What is lent: the bytes, and four more of the caller's behind them. -/
def lentL (l : List UInt8) : List Value := l.map B ++ List.replicate 4 (.int .u8 77)
theorem lentL_length (l : List UInt8) : (lentL l).length = l.length + 4 := by simp [lentL]

theorem made_list {w : World} {b g n : Nat} (h : w.ownsRow b 5 1 (.slice (some ⟨g, 0, none⟩) n n) n (madeCells #[Value.int .u8 0] n).toList) :
    w.heap[g]? = some (.cells (List.replicate n (Value.int .u8 0)).toArray 5 (0, 0)) := by
  rcases h.2 with ⟨h0, _⟩ | ⟨g', cap, cur, h0, _, hgg, hle, hmx, hs, ht⟩
  · cases h0
  · simp only [Value.slice.injEq, Option.some.injEq, Addr.mk.injEq, and_true, true_and] at h0
    obtain ⟨rfl, rfl⟩ := h0
    rw [hgg]
    have e1 : cur.toList.take (n * 1) = cur.toList := by rw [List.take_of_length_le]; simp; omega
    rw [e1] at ht
    have e2 : cur = (List.replicate n (Value.int .u8 0)).toArray := by
      apply Array.toList_inj.1
      rw [ht]
      simp only [madeCells]
      rw [List.eq_replicate_iff]
      refine ⟨by simp, fun x hx => ?_⟩
      simp at hx
      obtain ⟨a, _, rfl⟩ := hx
      simp [Nat.mod_one]
    rw [e2]

/-- The loop of lentBytes. -/
def lentK (l : List UInt8) (k : Nat) : List Value := (l.map B ++ List.replicate k (.int .u8 77)) ++ (l.map B ++ List.replicate 4 (Value.int .u8 0)).drop (l.length + k)

theorem lentK_zero (l : List UInt8) : lentK l 0 = l.map B ++ (List.replicate (l.length + 4) (Value.int .u8 0)).drop l.length := by
  unfold lentK
  rw [List.drop_append]
  simp
theorem lentK_four (l : List UInt8) : lentK l 4 = lentL l := by
  unfold lentK lentL
  rw [List.drop_of_length_le (by simp)]
  simp
theorem lentK_succ (l : List UInt8) {k : Nat} (h : k < 4) : (lentK l k).set (l.length + k) (.int .u8 77) = lentK l (k + 1) := by
  unfold lentK
  rw [set_next _ (by simp) (by simp; omega)]
  simp only [List.append_assoc, List.replicate_succ', Nat.add_assoc]
theorem lentK_length (l : List UInt8) {k : Nat} (h : k ≤ 4) : (lentK l k).length = l.length + 4 := by
  unfold lentK
  simp; omega

set_option maxRecDepth 100000 in
set_option maxHeartbeats 1600000 in
theorem lent_any (l : List UInt8) (w : World) (hl : l.length ≤ 4294967296) :
    Calls Tryz.prog 21 #[.string ⟨l.toArray⟩] w fun e w' => e = .returned (.slice (some ⟨w.heap.size, 0, none⟩) l.length (l.length + 4)) ∧ w'.heap[w.heap.size]? = some (.cells (lentL l).toArray 5 (0, 0)) ∧ Below w.heap.size w w' := by
  obtain ⟨i0, hi, hz0, hz1, hz2⟩ := info_parts Tryz.info5
  have hsz : (Tryz.prog.info? 5).map (·.size) = some 1 := by rw [hi]; simp [hz1]
  have hstr : (ByteArray.mk l.toArray).size = l.length := by simp [ByteArray.size]
  obtain ⟨str, hs⟩ : ∃ str, str = ByteArray.mk l.toArray := ⟨_, rfl⟩
  have hdl : str.data.toList = l := by rw [hs]
  rw [← hs] at hstr ⊢
  clear hs
  go_enter Tryz.func21, Tryz.ntmps21
  go_wp2_with (at_make; refine wpList_make_full _ rfl _ _ 54 rfl w.heap.size 5 i0 (.int .u8 0) 1 Tryz.underlying54 hi hz0 hz1 _ _ _ _ (l.length + 4) rfl rfl ?m1 ?m2 ?m3 ?m4 ?m5 ?_)
  case m1 => go_num
  case m2 => go_num
  case m3 => rw [hz2]; omega
  case m4 => unfold maxLen; omega
  case m5 => simp
  intro w1 hown1 hg1
  have hbel1 : Below w.heap.size w w1 := (Below.refl _ _).grown hg1 (Nat.le_refl _) (fun k h => by cases h)
  have hh := made_list hown1
  have HDL := hide hdl
  have HST := hide hstr
  clear hown1 hg1 hdl hstr
  go_wp2_with (refine wpList_copy_str rfl (.tmp 11) (.tmp 12) 54 9 rfl 5 Tryz.underlying54 hsz w.heap.size (l.length + 4) (l.length + 4) str rfl rfl (List.replicate (l.length + 4) (.int .u8 0)) 5 hh ?c1 ?c2 w.heap.size w hbel1 (Nat.le_refl _) ?_)
  case c1 => rw [HST.out]; omega
  case c2 => rw [HST.out]; simp
  intro w2 HG2 hB2
  have hg2 := HG2.out
  rw [HDL.out, HST.out] at hg2
  have HG := hide hg2
  clear hh hbel1 HG2 hg2
  go_wp2
  go_loopw [5] (fun i wr => ∃ k : Nat, k ≤ 4 ∧ i = .int .i64 ((l.length : Int) + (k : Int)) ∧ Below w.heap.size w wr ∧ wr.heap[w.heap.size]? = some (.cells (lentK l k).toArray 5 (0, 0))) (fun i _ => l.length + 4 - (intOf i).toNat)
  case atStart => exact ⟨0, Nat.zero_le _, by simp, hB2, by rw [lentK_zero, List.drop_replicate]; exact HG.out⟩
  case round =>
    obtain ⟨k, hk, rfl, hbel, hrow⟩ := hrel
    by_cases hlt : k < 4
    · obtain ⟨cv, hc⟩ : ∃ cv, wr.cell? ⟨w.heap.size, l.length + k, none⟩ = some cv := ⟨_, by rw [row_cell hrow, List.getElem?_eq_getElem (by rw [lentK_length l hk]; omega)]⟩
      have hfz := row_free (i := l.length + k) hrow
      have HR := hide (row_set (i := l.length + k) (u := .int .u8 77) hrow)
      clear hrow
      go_wp2
      go_roundw
      case rel => exact ⟨k + 1, by omega, by go_num, hbel.setCell (Nat.le_refl _) _, by rw [← lentK_succ l hlt]; exact HR.out⟩
      case measure => simp [intOf]; omega
    · have hk4 : k = 4 := by omega
      subst hk4
      rw [lentK_four] at hrow
      have HR := hide hrow
      clear hrow
      go_wp2
      go_ret
      exact ⟨rfl, HR.out, hbel⟩

/-- The loop of wholeBytes. -/
def wholeK (l : List UInt8) (k : Nat) : List Value := List.replicate k (.int .u8 200) ++ (lentL l).drop k
theorem wholeK_succ (l : List UInt8) {k : Nat} (h : k < l.length + 4) : (wholeK l k).set k (.int .u8 200) = wholeK l (k + 1) := by
  unfold wholeK
  rw [set_next _ (by simp) (by rw [lentL_length]; exact h), List.replicate_succ']
theorem wholeK_length (l : List UInt8) {k : Nat} (h : k ≤ l.length + 4) : (wholeK l k).length = l.length + 4 := by
  unfold wholeK
  simp [lentL_length]; omega
theorem wholeK_get (l : List UInt8) {k : Nat} (h : k < l.length + 4) (hl : l.length ≤ k) : (wholeK l k)[k]? = some (.int .u8 77) := by
  unfold wholeK
  rw [List.getElem?_append_right (by simp)]
  simp only [List.length_replicate, Nat.sub_self, List.getElem?_drop, Nat.add_zero]
  unfold lentL
  rw [List.getElem?_append_right (by simpa using hl), List.getElem?_replicate, if_pos (by rw [List.length_map]; omega)]

theorem lent_bytes {w : World} {g : Nat} {l : List UInt8} (h : w.heap[g]? = some (.cells (lentL l).toArray 5 (0, 0))) {c : Nat} (hc : l.length ≤ c) : BytesIn w (.slice (some ⟨g, 0, none⟩) l.length c) l := by
  refine Or.inr ⟨g, 0, c, rfl, lt_of_block h, hc, fun i hi => ?_⟩
  rw [Nat.zero_add, row_cell h]
  unfold lentL
  rw [List.getElem?_append_left (by simpa using hi)]
  simp [List.getD, hi]

set_option maxRecDepth 100000 in
set_option maxHeartbeats 1600000 in
theorem wholeBytes_any (g : Nat) (l : List UInt8) (w : World) (hl : l.length ≤ 4294967296) (h : w.heap[g]? = some (.cells (lentL l).toArray 5 (0, 0))) :
    Calls Tryz.prog 27 #[.slice (some ⟨g, 0, none⟩) l.length (l.length + 4), .string ⟨l.toArray⟩] w fun e w' => e = .returned (.bool true) ∧ Chg (fun k => k = g) w w' := by
  have hcv := conv_bytes (lent_bytes h (c := l.length + 4) (by omega))
  have hstr : (ByteArray.mk l.toArray).size = l.length := by simp [ByteArray.size]
  obtain ⟨str, hs⟩ : ∃ str, str = ByteArray.mk l.toArray := ⟨_, rfl⟩
  rw [← hs] at hstr hcv ⊢
  have HH := hide h
  clear hs h
  go_enter Tryz.func27, Tryz.ntmps27
  go_wp2
  go_loopw [7, 8] (fun ok i wr => ∃ k : Nat, k ≤ l.length + 4 ∧ ok = .bool true ∧ i = .int .i64 k ∧ Chg (fun k => k = g) w wr ∧ wr.heap[g]? = some (.cells (wholeK l k).toArray 5 (0, 0))) (fun _ i _ => l.length + 4 - (intOf i).toNat)
  case atStart => exact ⟨0, Nat.zero_le _, rfl, rfl, Chg.refl _ _, HH.out⟩
  case round =>
    obtain ⟨k, hk, rfl, rfl, hch, hrow⟩ := hrel
    by_cases hlt : k < l.length + 4
    · obtain ⟨cv, hc0⟩ : ∃ cv, wr.cell? ⟨g, k, none⟩ = some cv := ⟨_, by rw [row_cell hrow, List.getElem?_eq_getElem (by rw [wholeK_length l hk]; exact hlt)]⟩
      have hfz := row_free (i := k) hrow
      have HR := hide (row_set (i := k) (u := .int .u8 200) hrow)
      by_cases hin : k < l.length
      · clear hrow
        go_wp2
        go_roundw
        case rel => exact ⟨k + 1, by omega, rfl, by go_num, hch.setCell (Or.inr rfl) _, by rw [← wholeK_succ l hlt]; exact HR.out⟩
        case measure => simp [intOf]; omega
      · have hc : wr.cell? ⟨g, k, none⟩ = some (.int .u8 77) := by rw [row_cell hrow]; exact wholeK_get l hlt (by omega)
        clear hrow hc0
        go_wp2
        go_roundw
        case rel => exact ⟨k + 1, by omega, rfl, by go_num, hch.setCell (Or.inr rfl) _, by rw [← wholeK_succ l hlt]; exact HR.out⟩
        case measure => simp [intOf]; omega
    · clear hrow
      go_wp2
      go_ret
      exact ⟨rfl, hch⟩
end Go.Proofs.YtckeblkadiehbaaGreat
