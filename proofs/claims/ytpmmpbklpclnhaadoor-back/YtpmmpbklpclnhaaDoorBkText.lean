import Derived.Test.YtpmmpbklpclnhaaDoorBkCount
import Derived.Test.YtpmmpbklpclnhaaDoorBkPackBits
import Derived.Lib.AppendStr
set_option linter.unusedVariables false
set_option linter.unusedSimpArgs false
/-
  Package blocks: its tables at package level; appendText.
-/
namespace Go.Proofs.YtpmmpbklpclnhaaDoor
set_option linter.unusedVariables false
set_option linter.unusedSimpArgs false
open Go.RowKit

/-- What the package's variables hold. -/
structure Gl (w : World) : Prop where
  lim : w.cell? ⟨0, 0, none⟩ = some (.int .u8 32) ∧ w.cell? ⟨0, 1, none⟩ = some (.int .i64 5)
  num : w.cell? ⟨1, 0, none⟩ = some (.int .u8 128) ∧ w.cell? ⟨1, 1, none⟩ = some (.int .i64 7)
  nta : w.cell? ⟨2, 0, none⟩ = some (.int .u8 0) ∧ w.cell? ⟨2, 1, none⟩ = some (.int .i64 4)
  add : w.cell? ⟨3, 0, none⟩ = some (.int .u8 64) ∧ w.cell? ⟨3, 1, none⟩ = some (.int .i64 6)
  pck : w.cell? ⟨5, 0, none⟩ = some (.int .u8 128) ∧ w.cell? ⟨5, 1, none⟩ = some (.int .i64 7)
  pln : w.cell? ⟨6, 0, none⟩ = some (.int .u8 0) ∧ w.cell? ⟨6, 1, none⟩ = some (.int .i64 7)
  fix : ∀ i (h : i < fixed8.length), w.cell? ⟨4, 2 * i, none⟩ = some (.string fixed8[i].n) ∧ w.cell? ⟨4, 2 * i + 1, none⟩ = some (.string fixed8[i].v)
  lt : 7 ≤ w.heap.size
theorem Gl.chg {S : Nat → Prop} {w w' : World} (h : Gl w) (hc : Chg S w w') (hs : ∀ j, j < 7 → ¬ S j) : Gl w' := by
  have hl := h.lt
  have q : ∀ (g o : Nat), g < 7 → w'.cell? ⟨g, o, none⟩ = w.cell? ⟨g, o, none⟩ := fun g o hg => hc.cell (p := ⟨g, o, none⟩) (Nat.lt_of_lt_of_le hg hl) (hs g hg)
  refine ⟨?_, ?_, ?_, ?_, ?_, ?_, fun i hi => ?_, Nat.le_trans hl hc.size⟩
  · rw [q _ _ (by decide), q _ _ (by decide)]; exact h.lim
  · rw [q _ _ (by decide), q _ _ (by decide)]; exact h.num
  · rw [q _ _ (by decide), q _ _ (by decide)]; exact h.nta
  · rw [q _ _ (by decide), q _ _ (by decide)]; exact h.add
  · rw [q _ _ (by decide), q _ _ (by decide)]; exact h.pck
  · rw [q _ _ (by decide), q _ _ (by decide)]; exact h.pln
  · rw [q _ _ (by decide), q _ _ (by decide)]; exact h.fix i hi
theorem Gl.below {w w' : World} (h : Gl w) (hb : Below w.heap.size w w') : Gl w' := h.chg (Chg.of_below (S := fun _ => False) hb) (fun _ _ => id)

theorem Laid.below {w wx w' : World} {gv v : Value} {l : List UInt8} (hb : Below w.heap.size w wx) (h : Laid wx gv w' v l) : Laid w gv w' v l :=
  ⟨h.own, (Chg.of_below hb).trans (h.chg.mono fun j _ e => Or.inr e), fun j hj => (h.fresh j hj).imp_right fun e => Nat.le_trans hb.size e⟩
theorem Laid.trans {w w1 w2 : World} {gv v v2 : Value} {l l2 : List UInt8} (h : Laid w gv w1 v l) (k : Laid w1 v w2 v2 l2) : Laid w gv w2 v2 l2 :=
  ⟨k.own, h.chg.trans (k.chg.mono fun j _ e => (h.fresh j e).symm), fun j hj => by
    rcases k.fresh j hj with e | e
    · exact h.fresh j e
    · exact Or.inr (Nat.le_trans h.chg.size e)⟩
theorem Laid.app {w w1 w2 : World} {gv v v2 : Value} {l r : List UInt8} (h : Laid w gv w1 v l) (hown : w2.ownsRow 0 5 1 v2 (l.length + r.length) (l.map B ++ r.map B)) (hg : w1.grownBy w2 v.ownBlock) (hf : v2.ownBlock = v.ownBlock ∨ v2.ownBlock = some w1.heap.size) : Laid w gv w2 v2 (l ++ r) := by
  have hc : Chg (fun j => v.ownBlock = some j) w1 w2 := Chg.of_grown hg (fun j hj => hj)
  have hsz := h.chg.size
  refine ⟨by rw [List.length_append, List.map_append]; exact hown, h.chg.trans (hc.mono fun j _ e => (h.fresh j e).symm), fun j hj => ?_⟩
  rcases hf with e | e
  · rw [e] at hj; exact h.fresh j hj
  · rw [e] at hj
    simp at hj
    exact Or.inr (by omega)
theorem Laid.len {w w' : World} {gv v : Value} {l : List UInt8} (h : Laid w gv w' v l) : ∃ sv cv, v = .slice sv l.length cv := slice_len h.own

theorem run_app_str {P : Program} (w : World) (t u ty e : TypeId) (i : TypeInfo) (ht : P.underlying t = some (.slice e)) (hu : P.underlying u = some .string) (hi : P.info? e = some i) (hz : i.zero = some (.int .u8 0))
    (hsize : i.size = 1) (hby : i.bytes = 1) (v : Value) (n : Nat) (xs : List Value) (hown : w.ownsRow 0 e 1 v n xs) (s : ByteArray)
    (h63 : n + s.size ≤ maxLen) (hbytes : n + s.size ≤ 140737488355328) :
    ∃ v' w', (Builtin.append_ #[t, u] ty #[v, .string s]).run P w = .ok v' w' ∧ w'.ownsRow 0 e 1 v' (n + s.size) (xs ++ Lib.strCells s) ∧ w.grownBy w' v.ownBlock ∧
      (v'.ownBlock = v.ownBlock ∨ v'.ownBlock = some w.heap.size) := by
  obtain ⟨v', w', hr, h2, h3, h4⟩ := Lib.run_append_own_string (P := P) w 0 t u ty e i ht hu hi hz hsize hby v n xs hown s h63 hbytes (Nat.zero_le _)
  refine ⟨v', w', hr, h2, h3, ?_⟩
  have hsmall : n + s.size ≤ 9223372036854775807 := by simp only [maxLen] at h63; omega
  have hxl : xs.length = n := by simpa using hown.1
  rcases hown.2 with ⟨rfl, rfl⟩ | ⟨g, cap, cur, rfl, hbg, hg, hnc, hcm, hcs, htake⟩
  · by_cases hm : s.size = 0
    · exact Or.inl (by rw [h4.2 ⟨rfl, hm⟩])
    · have h := run_append_nil_string (P := P) w t u ty e i (.int .u8 0) ht hu hi hz s (by omega) (by omega) (by rw [hby]; omega)
      rw [h] at hr
      simp only [Result.ok.injEq] at hr
      exact Or.inr (by rw [← hr.1]; rfl)
  · by_cases hroom : n + s.size ≤ cap
    · have hcs' : cur.size = cap := by simpa using hcs
      have h := Lib.run_append_room_string (P := P) w t u ty e i ht hu hi hsize g n cap cur hg s hroom (by omega)
      rw [h] at hr
      simp only [Result.ok.injEq] at hr
      exact Or.inl (by rw [← hr.1]; rfl)
    · have holds : ∀ j u, xs[j]? = some u → w.cell? ((⟨g, 0, none⟩ : Addr).add j) = some u := hown.cells (g := g) rfl
      have h := Lib.run_append_grow_string (P := P) w t u ty e i (.int .u8 0) ht hu hi hz ⟨g, 0, none⟩ n cap xs (by rw [hsize]; simpa using hxl) holds s (by omega) (by omega) (by rw [hby]; exact growslice_fits (by omega) (by omega))
      rw [h] at hr
      simp only [Result.ok.injEq] at hr
      exact Or.inr (by rw [← hr.1]; rfl)
theorem wpList_app_str {P : Program} (w : World) {ops : Array Oper} {rest : List Oper} {o : Oper} {a : Act} {Q : Exit → Act → World → Prop} (hgd : o.guard = none) (sl x : Operand) (t u : TypeId)
    (ho : o.op = .call { callee := .builtin .append, args := #[sl, x], argTypes := #[t, u] })
    (e : TypeId) (i : TypeInfo) (ht : P.underlying t = some (.slice e)) (hu : P.underlying u = some .string) (hi : P.info? e = some i) (hz : i.zero = some (.int .u8 0))
    (hsize : i.size = 1) (hby : i.bytes = 1) (v : Value) (n : Nat) (xs : List Value) (hs : a.eval sl = v) (hown : w.ownsRow 0 e 1 v n xs) (s : ByteArray) (hx : a.eval x = .string s)
    (h63 : n + s.size ≤ maxLen) (hbytes : n + s.size ≤ 140737488355328)
    (h : ∀ v' w', w'.ownsRow 0 e 1 v' (n + s.size) (xs ++ Lib.strCells s) → w.grownBy w' v.ownBlock → (v'.ownBlock = v.ownBlock ∨ v'.ownBlock = some w.heap.size) → wpList P ops Q rest (a.put o.dst v') w') : wpList P ops Q (o :: rest) a w := by
  refine wpList_plain hgd fun K hK => ?_
  obtain ⟨v', w', hr, h2, h3, h4⟩ := run_app_str (P := P) w t u o.type e i ht hu hi hz hsize hby v n xs hown s h63 hbytes
  unfold Oper.wp execOp
  simp only [ho, resolve, invoke, builtin, Sem.run_bind, Sem.run_pure, Result.andThen_ok, List.map_toArray, List.map_cons, List.map_nil, hs, hx, hr]
  exact hK _ _ (h v' w' h2 h3 h4)
theorem strCells_eq (T : ByteArray) : Lib.strCells T = T.data.toList.map B := by simp [Lib.strCells]

theorem packB_len (t : List UInt8) : (bytesB (packB t)).length ≤ 2 * t.length + 1 := by
  rw [bytesB_length]
  unfold packB
  have h1 := rawB_length t
  have h2 := padN_lt (rawB t).length
  rw [List.length_append, List.length_replicate]
  omega
theorem lies_of_owns {w : World} {b : Nat} {v : Value} {l : List UInt8} (h : w.ownsRow b 5 1 v l.length (l.map B)) : Lies w v l.length (l.map B) := lies_of_bytesIn (bytesIn_of_owns h rfl)

set_option maxRecDepth 100000 in
set_option maxHeartbeats 3200000 in
theorem appendText_any (T : ByteArray) (gv : Value) (l : List UInt8) (w : World) (hgl : Gl w) (hown : w.ownsRow 0 5 1 gv l.length (l.map B)) (hl : l.length ≤ 268435456) (hT : T.size ≤ 262144) :
    Calls Tryd.prog 53 #[gv, .string T] w fun e w' => ∃ v, e = .returned v ∧ Laid w gv w' v (l ++ txt T.data.toList) := by
  obtain ⟨i0, hi, hz0, hz1, hz2⟩ := info_parts Tryd.info5
  have hpk := packBits_any T w (by omega)
  have hpl := packB_len T.data.toList
  have htl : T.data.toList.length = T.size := rfl
  have htx : txt T.data.toList = if (bytesB (packB T.data.toList)).length < T.data.toList.length then cnt 128 7 (bytesB (packB T.data.toList)).length ++ bytesB (packB T.data.toList) else cnt 0 7 T.data.toList.length ++ T.data.toList := rfl
  rw [htl] at htx hpl
  generalize bytesB (packB T.data.toList) = Q at hpk hpl htx
  have HPK := hide hpk
  have HGL := hide hgl
  have HOW := hide hown
  clear hpk hgl hown
  go_enter Tryd.func53, Tryd.ntmps53
  go_wp2_with fail
  refine HPK.out.mono ?_
  rintro e w1 ⟨v1, rfl, hq1, hb1⟩
  obtain ⟨sq, cq, hv1⟩ := slice_len hq1
  subst hv1
  have hg1 := HGL.out.below hb1
  have ho1 := owns_chg HOW.out (Chg.of_below (S := fun _ => False) hb1) (fun _ _ => id)
  obtain ⟨a0, a1⟩ := hg1.pck
  obtain ⟨p0, p1⟩ := hg1.pln
  have HQ1 := hide hq1
  have HB1 := hide hb1
  have HO1 := hide ho1
  have hgv := fun j (hj : gv.ownBlock = some j) => owns_lt HOW.out hj
  have HGV := hide hgv
  clear hq1 hb1 ho1 hg1 hgv
  by_cases hlt : Q.length < T.size
  · rw [if_pos hlt] at htx
    have HTX := hide htx
    have HAC := hide (appendCount_any 128 7 Q.length gv l w1 HO1.out (by omega) (by omega) (by decide) (by decide) (by omega))
    clear htx
    go_wp2_with fail
    refine HAC.out.mono ?_
    rintro e w2 ⟨v2, rfl, hl2⟩
    have hq2 := owns_chg HQ1.out hl2.chg (fun j hj e => by
      have h1 := (HQ1.out.lt j hj).1
      have h2 := HGV.out j e
      omega)
    have hc1 : (l ++ cnt 128 7 Q.length).length ≤ 268435456 + 1048576 + 16 := by
      have := tail7_len (Q.length - (2 ^ 7 - 1))
      rw [List.length_append]
      unfold cnt
      split
      · simp; omega
      · rw [List.length_cons]; omega
    obtain ⟨L2, hL2⟩ : ∃ L2, L2 = l ++ cnt 128 7 Q.length := ⟨_, rfl⟩
    rw [← hL2] at hl2 hc1
    have HEL := hide hL2
    clear hL2
    obtain ⟨s2, c2, hv2⟩ := hl2.len
    subst hv2
    have HL2 := hide hl2
    have HQ2 := hide hq2
    clear hl2 hq2
    go_wp2_with (at_builtin; refine wpList_app _ rfl (.tmp 17) (.tmp 18) 39 rfl 5 i0 (.int .u8 0) 1 1 Tryd.underlying39 hi hz0 hz1 hz2 rfl (by decide) _ _ _ rfl HL2.out.own _ Q.length (Q.map B) rfl (by simp) (lies_of_owns HQ2.out) (bytes_one _) ?c3 ?c4 ?_)
    case c3 => unfold maxLen; omega
    case c4 => omega
    intro v3 w3 hown3 hg3 hf3
    have h3 := HL2.out.app hown3 hg3 hf3
    have H3 := hide (Laid.below HB1.out h3)
    clear h3 hown3 hg3 hf3
    go_wp2
    go_ret
    refine ⟨v3, rfl, ?_⟩
    rw [HTX.out, ← List.append_assoc, ← HEL.out]
    exact H3.out
  · rw [if_neg hlt] at htx
    have HTX := hide htx
    have HAC := hide (appendCount_any 0 7 T.size gv l w1 HO1.out (by omega) (by omega) (by decide) (by decide) (by omega))
    clear htx
    go_wp2_with fail
    refine HAC.out.mono ?_
    rintro e w2 ⟨v2, rfl, hl2⟩
    have hc1 : (l ++ cnt 0 7 T.size).length ≤ 268435456 + 1048576 + 16 := by
      have := tail7_len (T.size - (2 ^ 7 - 1))
      rw [List.length_append]
      unfold cnt
      split
      · simp; omega
      · rw [List.length_cons]; omega
    obtain ⟨L2, hL2⟩ : ∃ L2, L2 = l ++ cnt 0 7 T.size := ⟨_, rfl⟩
    rw [← hL2] at hl2 hc1
    have HEL := hide hL2
    clear hL2
    obtain ⟨s2, c2, hv2⟩ := hl2.len
    subst hv2
    have HL2 := hide hl2
    clear hl2
    go_wp2_with (at_builtin; refine wpList_app_str _ rfl (.tmp 24) (.tmp 25) 39 9 rfl 5 i0 Tryd.underlying39 Tryd.underlying9 hi hz0 hz1 hz2 _ _ _ rfl HL2.out.own T rfl ?c3 ?c4 ?_)
    case c3 => unfold maxLen; omega
    case c4 => omega
    intro v3 w3 hown3 hg3 hf3
    rw [strCells_eq] at hown3
    have h3 := HL2.out.app (r := T.data.toList) hown3 hg3 hf3
    have H3 := hide (Laid.below HB1.out h3)
    clear h3 hown3 hg3 hf3
    go_wp2
    go_ret
    refine ⟨v3, rfl, ?_⟩
    rw [HTX.out, ← List.append_assoc, ← HEL.out]
    exact H3.out
end Go.Proofs.YtpmmpbklpclnhaaDoor
