import Derived.Test.YtlhlmgfblbpdpaaGreatDoorWGaa
import Derived.Test.YtlhlmgfblbpdpaaGreatDoorWBkPut
import Derived.WalkKit
import Derived.WalkSpells
import Derived.WalkLawsBesides
import Derived.BigQuiet
import Derived.BigRegion
import Derived.Deep.QuietTactic
import Derived.Deep.RegionLaw
import Derived.Deep.DeepCutAuto
import Derived.Laws.Bits128
import Derived.Lib.AppendStr
set_option linter.unusedVariables false
set_option linter.unusedSimpArgs false
/-
  A call of a Go function, in a region that draws its order.
-/
namespace Go.Proofs.YtlhlmgfblbpdpaaGreatDoor
set_option linter.unusedVariables false
set_option linter.unusedSimpArgs false
open Go.RowKit

/-- A call of a Go function, in a region that draws its order. -/
theorem step_call {P : Program} {ops : Array Oper} {o : Oper} {a : Act} {w : World} {K : Act → World → Prop} {Q : Exit → Act → World → Prop} {E : Prop} (hgd : o.guard = none) (f : Nat) (fn : Func) (hfn : P.funcs[f]? = some fn) (hnm : (fn.name == "runtime.NumGoroutine") = false) (hbd : fn.body.isNone = false) (xs : List Operand) (ts : Array TypeId)
    (ho : o.op = .call { callee := .value (.func f), args := xs.toArray, argTypes := ts }) (vs : List Value) (hvs : xs.map a.eval = vs) {R : Ending → World → Prop} (hc : Calls P f vs.toArray w R)
    (hK : ∀ e w', R e w' → ∃ v, e = .returned v ∧ K (a.put o.dst v) w') :
    if Region.wanted o (yielded ops a.tmps) = true then Oper.wp P o a w K Q else E := by
  have hw : Region.wanted o (yielded ops a.tmps) = true := by simp [Region.wanted, hgd]
  rw [if_pos hw]
  unfold Oper.wp
  have he : (callFunc f vs.toArray).run P w = .ok (.enter f vs.toArray) w := by
    unfold callFunc
    simp only [Sem.run_bind, run_program, Result.andThen_ok, hfn, hnm, hbd, Bool.false_eq_true, if_false, Sem.run_pure]
  have hx : (execOp a.eval o).run P w = .ok (.enter f vs.toArray) w := by
    simp [execOp, ho, resolve, invoke, hvs, Act.eval, Deferred.ofValue, he]
  rw [hx, Oper.upon_enter]
  refine hc.mono ?_
  intro e w' hr
  obtain ⟨v, rfl, hk⟩ := hK e w' hr
  exact hk

/-- A call of a Go function that panics, in a region that draws its order. -/
theorem step_gone {P : Program} {ops : Array Oper} {o : Oper} {a : Act} {w : World} {K : Act → World → Prop} {Q : Exit → Act → World → Prop} {E : Prop} (hgd : o.guard = none) (f : Nat) (fn : Func) (hfn : P.funcs[f]? = some fn) (hnm : (fn.name == "runtime.NumGoroutine") = false) (hbd : fn.body.isNone = false) (xs : List Operand) (ts : Array TypeId)
    (ho : o.op = .call { callee := .value (.func f), args := xs.toArray, argTypes := ts }) (vs : List Value) (hvs : xs.map a.eval = vs) {R : Ending → World → Prop} (hc : Calls P f vs.toArray w R)
    (hK : ∀ e w', R e w' → ∃ ps, e = .panicked ps ∧ Q (.panic ps) a w') (v : Value) (hv : False → K (a.put o.dst v) w) :
    if Region.wanted o (yielded ops a.tmps) = true then Oper.wp P o a w K Q else E := by
  have hw : Region.wanted o (yielded ops a.tmps) = true := by simp [Region.wanted, hgd]
  rw [if_pos hw]
  unfold Oper.wp
  have he : (callFunc f vs.toArray).run P w = .ok (.enter f vs.toArray) w := by
    unfold callFunc
    simp only [Sem.run_bind, run_program, Result.andThen_ok, hfn, hnm, hbd, Bool.false_eq_true, if_false, Sem.run_pure]
  have hx : (execOp a.eval o).run P w = .ok (.enter f vs.toArray) w := by
    simp [execOp, ho, resolve, invoke, hvs, Act.eval, Deferred.ofValue, he]
  rw [hx, Oper.upon_enter]
  refine hc.mono ?_
  intro e w' hr
  obtain ⟨v, rfl, hk⟩ := hK e w' hr
  exact hk
/-- append onto a row of the program's own, in a region that draws its order. -/
theorem step_appd {P : Program} {ops : Array Oper} {o : Oper} {a : Act} {w : World} {K : Act → World → Prop} {Q : Exit → Act → World → Prop} {E : Prop} (hgd : o.guard = none) (s y : Operand) (t : TypeId)
    (ho : o.op = .call { callee := .builtin .append, args := #[s, y], argTypes := #[t, t] })
    (e : TypeId) (i : TypeInfo) (z : Value) (size bytes : Nat) (ht : P.underlying t = some (.slice e)) (hi : P.info? e = some i) (hz : i.zero = some z)
    (hsize : i.size = size) (hby : i.bytes = bytes) (hzs : z.cells.size = size) (hsz : 0 < size)
    (v : Value) (n : Nat) (xs : List Value) (hs : a.eval s = v) (hown : w.ownsRow 0 e size v n xs)
    (x : Value) (m : Nat) (news : List Value) (hx : a.eval y = x) (hl : news.length = m * size) (hnews : Lies w x m news) (h1 : ∀ u ∈ news, u.oneCell' = true)
    (h63 : n + m ≤ maxLen) (hbytes : (n + m) * bytes ≤ 140737488355328)
    (hK : ∀ v' w', w'.ownsRow 0 e size v' (n + m) (xs ++ news) → w.grownBy w' v.ownBlock → (v'.ownBlock = v.ownBlock ∨ v'.ownBlock = some w.heap.size) → K (a.put o.dst v') w') :
    if Region.wanted o (yielded ops a.tmps) = true then Oper.wp P o a w K Q else E := by
  have hw : Region.wanted o (yielded ops a.tmps) = true := by simp [Region.wanted, hgd]
  rw [if_pos hw]
  obtain ⟨v', w', hr, h2, h3, h4⟩ := run_app (P := P) w t o.type e i z size bytes ht hi hz hsize hby hzs hsz v n xs hown x m news hl hnews h1 h63 hbytes
  unfold Oper.wp
  simp [execOp, ho, resolve, invoke, builtin, hs, hx, hr, Result.andThen]
  exact hK v' w' h2 h3 h4
end Go.Proofs.YtlhlmgfblbpdpaaGreatDoor
/-
  Package blocks: appendCount.
-/
namespace Go.Proofs.YtlhlmgfblbpdpaaGreatDoor
set_option linter.unusedVariables false
set_option linter.unusedSimpArgs false
open Go.RowKit

/-- Bytes that are being laid down, beside a form that lies in the first new block. -/
structure CtR (w : World) (gv : Value) (f k : Nat) (wr : World) (v : Value) (l : List UInt8) : Prop where
  own : wr.ownsRow 0 5 1 v l.length (l.map B)
  chg : Chg (fun j => gv.ownBlock = some j) w wr
  fresh : ∀ j, v.ownBlock = some j → gv.ownBlock = some j ∨ w.heap.size ≤ j
  frm : wr.heap[w.heap.size]? = some (.cells #[.int .u8 (f : Int), .int .i64 (k : Int)] 193 (0, 0))

theorem CtR.below {w wr wx : World} {gv v : Value} {f k : Nat} {l : List UInt8} (h : CtR w gv f k wr v l) (hb : Below wr.heap.size wr wx) : CtR w gv f k wx v l :=
  ⟨owns_chg h.own (Chg.of_below (S := fun _ => False) hb) (fun _ _ => id), h.chg.then_below hb, h.fresh, by rw [hb.block _ (lt_of_block h.frm)]; exact h.frm⟩
theorem CtR.app {w wr wx : World} {gv v v' : Value} {f k : Nat} {l r : List UInt8} {o : Obj} (h : CtR w gv f k wr v l) (hown : wx.ownsRow 0 5 1 v' (l.length + r.length) (l.map B ++ r.map B)) (hg : (wr.alloc o).grownBy wx v.ownBlock) (hf : v'.ownBlock = v.ownBlock ∨ v'.ownBlock = some (wr.heap.size + 1)) : CtR w gv f k wx v' (l ++ r) := by
  have hc : Chg (fun j => v.ownBlock = some j) wr wx := ((Chg.refl _ _).alloc o).trans (Chg.of_grown hg (fun j hj => Or.inr hj))
  have hsz := h.chg.size
  refine ⟨by rw [List.length_append, List.map_append]; exact hown, h.chg.trans (hc.mono fun j _ e => ?_), fun j hj => ?_, ?_⟩
  · exact (h.fresh j e).symm
  · rcases hf with e | e
    · rw [e] at hj; exact h.fresh j hj
    · rw [e] at hj
      simp at hj
      exact Or.inr (by omega)
  · rw [hc.block _ (lt_of_block h.frm) (fun e => owns_ne h.own h.frm (by decide) e)]; exact h.frm
theorem CtR.drew {w wr : World} {gv v : Value} {f k : Nat} {l : List UInt8} (h : CtR w gv f k wr v l) : CtR w gv f k wr.drew v l := ⟨h.own, h.chg.drew, h.fresh, h.frm⟩

/-- The end of appendCount, and of the like. -/
structure Laid (w : World) (gv : Value) (w' : World) (v : Value) (l : List UInt8) : Prop where
  own : w'.ownsRow 0 5 1 v l.length (l.map B)
  chg : Chg (fun j => gv.ownBlock = some j) w w'
  fresh : ∀ j, v.ownBlock = some j → gv.ownBlock = some j ∨ w.heap.size ≤ j

end Go.Proofs.YtlhlmgfblbpdpaaGreatDoor
/-
  Package blocks: bitWriter's fill, packBits.
-/
namespace Go.Proofs.YtlhlmgfblbpdpaaGreatDoor
set_option linter.unusedVariables false
set_option linter.unusedSimpArgs false
open Go.RowKit

theorem BwS.own {w : World} {wb : Nat} {gv : Value} {bs : List Bool} (h : BwS w wb gv bs) : w.ownsRow 0 5 1 gv (bs.length / 8) ((bytesB bs).map B) := by
  obtain ⟨L, N, _, _, _, _, h5⟩ := h
  exact h5
end Go.Proofs.YtlhlmgfblbpdpaaGreatDoor
/-
  Package blocks: its tables at package level; appendText.
-/
namespace Go.Proofs.YtlhlmgfblbpdpaaGreatDoor
set_option linter.unusedVariables false
set_option linter.unusedSimpArgs false
open Go.RowKit

/-- What the package's variables hold. -/
structure Gl (w : World) : Prop where
  lim : w.cell? ⟨0, 0, none⟩ = some (.int .u8 32) ∧ w.cell? ⟨0, 1, none⟩ = some (.int .i64 5)
  num : w.cell? ⟨1, 0, none⟩ = some (.int .u8 128) ∧ w.cell? ⟨1, 1, none⟩ = some (.int .i64 7)
  nta : w.cell? ⟨3, 0, none⟩ = some (.int .u8 0) ∧ w.cell? ⟨3, 1, none⟩ = some (.int .i64 4)
  add : w.cell? ⟨2, 0, none⟩ = some (.int .u8 64) ∧ w.cell? ⟨2, 1, none⟩ = some (.int .i64 6)
  pck : w.cell? ⟨5, 0, none⟩ = some (.int .u8 128) ∧ w.cell? ⟨5, 1, none⟩ = some (.int .i64 7)
  pln : w.cell? ⟨6, 0, none⟩ = some (.int .u8 0) ∧ w.cell? ⟨6, 1, none⟩ = some (.int .i64 7)
  fix : ∀ i (h : i < fixed8.length), w.cell? ⟨4, 2 * i, none⟩ = some (.string fixed8[i].n) ∧ w.cell? ⟨4, 2 * i + 1, none⟩ = some (.string fixed8[i].v)
  lt : 7 ≤ w.heap.size
theorem Gl.chg {S : Nat → Prop} {w w' : World} (h : Gl w) (hc : Chg S w w') (hs : ∀ j, j < 7 → ¬ S j) : Gl w' := by
  have hl := h.lt
  have q : ∀ (g o : Nat), g < 7 → w'.cell? ⟨g, o, none⟩ = w.cell? ⟨g, o, none⟩ := fun g o hg => hc.cell (p := ⟨g, o, none⟩) (Nat.lt_of_lt_of_le hg hl) (hs g hg)
  refine ⟨?_, ?_, ?_, ?_, ?_, ?_, fun i hi => ?_, Nat.le_trans hl hc.size⟩
  · rw [q _ _ (by decide), q _ _ (by decide)]; exact h.lim
  · rw [q _ _ (by decide), q _ _ (by decide)]; exact h.num
  · rw [q _ _ (by decide), q _ _ (by decide)]; exact h.nta
  · rw [q _ _ (by decide), q _ _ (by decide)]; exact h.add
  · rw [q _ _ (by decide), q _ _ (by decide)]; exact h.pck
  · rw [q _ _ (by decide), q _ _ (by decide)]; exact h.pln
  · rw [q _ _ (by decide), q _ _ (by decide)]; exact h.fix i hi
theorem Gl.below {w w' : World} (h : Gl w) (hb : Below w.heap.size w w') : Gl w' := h.chg (Chg.of_below (S := fun _ => False) hb) (fun _ _ => id)

theorem Laid.below {w wx w' : World} {gv v : Value} {l : List UInt8} (hb : Below w.heap.size w wx) (h : Laid wx gv w' v l) : Laid w gv w' v l :=
  ⟨h.own, (Chg.of_below hb).trans (h.chg.mono fun j _ e => Or.inr e), fun j hj => (h.fresh j hj).imp_right fun e => Nat.le_trans hb.size e⟩
theorem Laid.trans {w w1 w2 : World} {gv v v2 : Value} {l l2 : List UInt8} (h : Laid w gv w1 v l) (k : Laid w1 v w2 v2 l2) : Laid w gv w2 v2 l2 :=
  ⟨k.own, h.chg.trans (k.chg.mono fun j _ e => (h.fresh j e).symm), fun j hj => by
    rcases k.fresh j hj with e | e
    · exact h.fresh j e
    · exact Or.inr (Nat.le_trans h.chg.size e)⟩
theorem Laid.app {w w1 w2 : World} {gv v v2 : Value} {l r : List UInt8} (h : Laid w gv w1 v l) (hown : w2.ownsRow 0 5 1 v2 (l.length + r.length) (l.map B ++ r.map B)) (hg : w1.grownBy w2 v.ownBlock) (hf : v2.ownBlock = v.ownBlock ∨ v2.ownBlock = some w1.heap.size) : Laid w gv w2 v2 (l ++ r) := by
  have hc : Chg (fun j => v.ownBlock = some j) w1 w2 := Chg.of_grown hg (fun j hj => hj)
  have hsz := h.chg.size
  refine ⟨by rw [List.length_append, List.map_append]; exact hown, h.chg.trans (hc.mono fun j _ e => (h.fresh j e).symm), fun j hj => ?_⟩
  rcases hf with e | e
  · rw [e] at hj; exact h.fresh j hj
  · rw [e] at hj
    simp at hj
    exact Or.inr (by omega)
theorem Laid.len {w w' : World} {gv v : Value} {l : List UInt8} (h : Laid w gv w' v l) : ∃ sv cv, v = .slice sv l.length cv := slice_len h.own

theorem run_app_str {P : Program} (w : World) (t u ty e : TypeId) (i : TypeInfo) (ht : P.underlying t = some (.slice e)) (hu : P.underlying u = some .string) (hi : P.info? e = some i) (hz : i.zero = some (.int .u8 0))
    (hsize : i.size = 1) (hby : i.bytes = 1) (v : Value) (n : Nat) (xs : List Value) (hown : w.ownsRow 0 e 1 v n xs) (s : ByteArray)
    (h63 : n + s.size ≤ maxLen) (hbytes : n + s.size ≤ 140737488355328) :
    ∃ v' w', (Builtin.append_ #[t, u] ty #[v, .string s]).run P w = .ok v' w' ∧ w'.ownsRow 0 e 1 v' (n + s.size) (xs ++ Lib.strCells s) ∧ w.grownBy w' v.ownBlock ∧
      (v'.ownBlock = v.ownBlock ∨ v'.ownBlock = some w.heap.size) := by
  obtain ⟨v', w', hr, h2, h3, h4⟩ := Lib.run_append_own_string (P := P) w 0 t u ty e i ht hu hi hz hsize hby v n xs hown s h63 hbytes (Nat.zero_le _)
  refine ⟨v', w', hr, h2, h3, ?_⟩
  have hsmall : n + s.size ≤ 9223372036854775807 := by simp only [maxLen] at h63; omega
  have hxl : xs.length = n := by simpa using hown.1
  rcases hown.2 with ⟨rfl, rfl⟩ | ⟨g, cap, cur, rfl, hbg, hg, hnc, hcm, hcs, htake⟩
  · by_cases hm : s.size = 0
    · exact Or.inl (by rw [h4.2 ⟨rfl, hm⟩])
    · have h := run_append_nil_string (P := P) w t u ty e i (.int .u8 0) ht hu hi hz s (by omega) (by omega) (by rw [hby]; omega)
      rw [h] at hr
      simp only [Result.ok.injEq] at hr
      exact Or.inr (by rw [← hr.1]; rfl)
  · by_cases hroom : n + s.size ≤ cap
    · have hcs' : cur.size = cap := by simpa using hcs
      have h := Lib.run_append_room_string (P := P) w t u ty e i ht hu hi hsize g n cap cur hg s hroom (by omega)
      rw [h] at hr
      simp only [Result.ok.injEq] at hr
      exact Or.inl (by rw [← hr.1]; rfl)
    · have holds : ∀ j u, xs[j]? = some u → w.cell? ((⟨g, 0, none⟩ : Addr).add j) = some u := hown.cells (g := g) rfl
      have h := Lib.run_append_grow_string (P := P) w t u ty e i (.int .u8 0) ht hu hi hz ⟨g, 0, none⟩ n cap xs (by rw [hsize]; simpa using hxl) holds s (by omega) (by omega) (by rw [hby]; exact growslice_fits (by omega) (by omega))
      rw [h] at hr
      simp only [Result.ok.injEq] at hr
      exact Or.inr (by rw [← hr.1]; rfl)
theorem wpList_app_str {P : Program} (w : World) {ops : Array Oper} {rest : List Oper} {o : Oper} {a : Act} {Q : Exit → Act → World → Prop} (hgd : o.guard = none) (sl x : Operand) (t u : TypeId)
    (ho : o.op = .call { callee := .builtin .append, args := #[sl, x], argTypes := #[t, u] })
    (e : TypeId) (i : TypeInfo) (ht : P.underlying t = some (.slice e)) (hu : P.underlying u = some .string) (hi : P.info? e = some i) (hz : i.zero = some (.int .u8 0))
    (hsize : i.size = 1) (hby : i.bytes = 1) (v : Value) (n : Nat) (xs : List Value) (hs : a.eval sl = v) (hown : w.ownsRow 0 e 1 v n xs) (s : ByteArray) (hx : a.eval x = .string s)
    (h63 : n + s.size ≤ maxLen) (hbytes : n + s.size ≤ 140737488355328)
    (h : ∀ v' w', w'.ownsRow 0 e 1 v' (n + s.size) (xs ++ Lib.strCells s) → w.grownBy w' v.ownBlock → (v'.ownBlock = v.ownBlock ∨ v'.ownBlock = some w.heap.size) → wpList P ops Q rest (a.put o.dst v') w') : wpList P ops Q (o :: rest) a w := by
  refine wpList_plain hgd fun K hK => ?_
  obtain ⟨v', w', hr, h2, h3, h4⟩ := run_app_str (P := P) w t u o.type e i ht hu hi hz hsize hby v n xs hown s h63 hbytes
  unfold Oper.wp execOp
  simp only [ho, resolve, invoke, builtin, Sem.run_bind, Sem.run_pure, Result.andThen_ok, List.map_toArray, List.map_cons, List.map_nil, hs, hx, hr]
  exact hK _ _ (h v' w' h2 h3 h4)
theorem strCells_eq (T : ByteArray) : Lib.strCells T = T.data.toList.map B := by simp [Lib.strCells]

theorem lies_of_owns {w : World} {b : Nat} {v : Value} {l : List UInt8} (h : w.ownsRow b 5 1 v l.length (l.map B)) : Lies w v l.length (l.map B) := lies_of_bytesIn (bytesIn_of_owns h rfl)

end Go.Proofs.YtlhlmgfblbpdpaaGreatDoor
/-
  Package blocks: source: takeBytes, take, atEnd, has; form's begins.
-/
namespace Go.Proofs.YtlhlmgfblbpdpaaGreatDoor
set_option linter.unusedVariables false
set_option linter.unusedSimpArgs false
open Go.RowKit

/-- What is left of a block. -/
structure SrS (w : World) (sb : Nat) (rv : Value) (l : List UInt8) : Prop where
  blk : w.heap[sb]? = some (.cells #[rv] 190 (0, 0))
  bytes : BytesIn w rv l
  ne : rv.ownBlock ≠ some sb
theorem SrS.chg {S : Nat → Prop} {w w' : World} {sb : Nat} {rv : Value} {l : List UInt8} (h : SrS w sb rv l) (hc : Chg S w w') (h1 : ¬ S sb) (h2 : ∀ j, rv.ownBlock = some j → ¬ S j) : SrS w' sb rv l :=
  ⟨by rw [hc.block sb (lt_of_block h.blk) h1]; exact h.blk, h.bytes.chg hc h2, h.ne⟩
theorem SrS.below {w w' : World} {sb : Nat} {rv : Value} {l : List UInt8} (h : SrS w sb rv l) (hb : Below w.heap.size w w') : SrS w' sb rv l := h.chg (Chg.of_below (S := fun _ => False) hb) id (fun _ _ => id)
theorem bytesIn_len {w : World} {v : Value} {l : List UInt8} (h : BytesIn w v l) : ∃ sv cv, v = .slice sv l.length cv ∧ l.length ≤ cv := by
  rcases h with ⟨rfl, rfl⟩ | ⟨bb, off, cap, rfl, _, h2, _⟩
  · exact ⟨_, _, rfl, Nat.le_refl _⟩
  · exact ⟨_, _, rfl, h2⟩
/-- The end of a call on a source. -/
structure SrTo (w w' : World) (sb : Nat) (rv rv' : Value) (l' : List UInt8) : Prop where
  st : SrS w' sb rv' l'
  chg : Chg (fun j => j = sb) w w'
  own : ∀ j, rv'.ownBlock = some j → rv.ownBlock = some j
theorem SrTo.trans {w w1 w2 : World} {sb : Nat} {rv r1 r2 : Value} {l1 l2 : List UInt8} (h : SrTo w w1 sb rv r1 l1) (k : SrTo w1 w2 sb r1 r2 l2) : SrTo w w2 sb rv r2 l2 :=
  ⟨k.st, h.chg.trans (k.chg.mono fun _ _ e => Or.inr e), fun j hj => h.own j (k.own j hj)⟩
theorem SrTo.below {w w1 w2 : World} {sb : Nat} {rv r1 : Value} {l1 : List UInt8} (h : SrTo w w1 sb rv r1 l1) (hb : Below w1.heap.size w1 w2) : SrTo w w2 sb rv r1 l1 := ⟨h.st.below hb, h.chg.then_below hb, h.own⟩
theorem SrTo.before {w w1 w2 : World} {sb : Nat} {rv r1 : Value} {l1 : List UInt8} (hb : Below w.heap.size w w1) (h : SrTo w1 w2 sb rv r1 l1) : SrTo w w2 sb rv r1 l1 := ⟨h.st, (Chg.of_below hb).trans (h.chg.mono fun _ _ e => Or.inr e), h.own⟩

set_option maxRecDepth 100000 in
set_option maxHeartbeats 800000 in
theorem takeBytes_ok (sb : Nat) (rv : Value) (l : List UInt8) (n : Nat) (w : World) (h : SrS w sb rv l) (hn : n ≤ l.length) (hl : l.length ≤ 1099511627776) :
    Calls Tryz.prog 148 #[.pointer (some ⟨sb, 0, none⟩), .int .i64 n] w fun e w' => ∃ v rv', e = .returned v ∧ BytesIn w' v (l.take n) ∧ SrTo w w' sb rv rv' (l.drop n) ∧ (∀ j, v.ownBlock = some j → rv.ownBlock = some j) := by
  have c0 := cell_of_one h.blk
  have f0 := free_of_one h.blk
  have hlt := lt_of_block h.blk
  have H := hide h
  rcases h.bytes with ⟨hv, hl0⟩ | ⟨bb, off, cap, hv, h1, h2, h3⟩
  · subst hv hl0
    have hn0 : n = 0 := by simpa using hn
    subst hn0
    clear h
    go_enter Tryz.func148, Tryz.ntmps148
    go_wp2
    go_ret
    have hc : Chg (fun j => j = sb) w (w.setCell ⟨sb, 0, none⟩ (.slice none 0 0)) := (Chg.refl (fun j => j = sb) w).setCell (p := ⟨sb, 0, none⟩) (Or.inr rfl) _
    exact ⟨_, .slice none 0 0, rfl, Or.inl ⟨rfl, rfl⟩, ⟨⟨one_setCell H.out.blk, Or.inl ⟨rfl, rfl⟩, by simp [Value.ownBlock]⟩, hc, fun j hj => hj⟩, fun j hj => hj⟩
  · subst hv
    have hne : bb ≠ sb := fun e => h.ne (by rw [e]; rfl)
    obtain ⟨AD, hAD, hAO⟩ : ∃ o2, (if cap = n then some (⟨bb, off, none⟩ : Addr) else some ⟨bb, off + n, none⟩) = some ⟨bb, o2, none⟩ ∧ (n < l.length → o2 = off + n) := by
      by_cases hck : cap = n
      · exact ⟨off, by rw [if_pos hck], fun e => by omega⟩
      · exact ⟨off + n, by rw [if_neg hck], fun _ => rfl⟩
    have HAO := hide hAO
    have H3 := hide h3
    have H1 := hide h1
    clear h hAO h3 h1
    go_enter Tryz.func148, Tryz.ntmps148
    go_wp2
    go_ret
    have hc : Chg (fun j => j = sb) w (w.setCell ⟨sb, 0, none⟩ (.slice (some ⟨bb, AD, none⟩) (l.length - n) (cap - n))) := (Chg.refl (fun j => j = sb) w).setCell (p := ⟨sb, 0, none⟩) (Or.inr rfl) _
    have hsz : bb < (w.setCell ⟨sb, 0, none⟩ (.slice (some ⟨bb, AD, none⟩) (l.length - n) (cap - n))).heap.size := Nat.lt_of_lt_of_le H1.out hc.size
    have hcl : ∀ i, i < l.length → (w.setCell ⟨sb, 0, none⟩ (.slice (some ⟨bb, AD, none⟩) (l.length - n) (cap - n))).cell? ⟨bb, off + i, none⟩ = some (.int .u8 (l.getD i 0).toNat) := fun i hi => by
      rw [hc.cell (p := ⟨bb, off + i, none⟩) H1.out hne]
      exact H3.out i hi
    refine ⟨_, .slice (some ⟨bb, AD, none⟩) (l.length - n) (cap - n), rfl, Or.inr ⟨bb, off, cap, ?_, hsz, ?_, fun i hi => ?_⟩, ⟨⟨one_setCell H.out.blk, Or.inr ⟨bb, AD, cap - n, by rw [List.length_drop], hsz, by rw [List.length_drop]; omega, fun i hi => ?_⟩, ?_⟩, hc, fun j hj => hj⟩, fun j hj => hj⟩
    · have e9 : (l.take n).length = n := by rw [List.length_take, Nat.min_eq_left hn]
      rw [e9]
      try rfl
    · rw [List.length_take]; omega
    · rw [List.length_take] at hi
      rw [hcl i (by omega)]
      simp [List.getD, List.getElem?_take, show i < n by omega]
    · rw [List.length_drop] at hi
      have ha := HAO.out (by omega)
      have e9 : (⟨bb, AD + i, none⟩ : Addr) = ⟨bb, off + (n + i), none⟩ := by rw [ha, Nat.add_assoc]
      rw [e9, hcl (n + i) (by omega)]
      simp [List.getD, List.getElem?_drop]
    · simp only [Value.ownBlock, ne_eq, Option.some.injEq]
      exact hne
set_option maxRecDepth 100000 in
set_option maxHeartbeats 800000 in
theorem takeBytes_bad (sb : Nat) (rv : Value) (l : List UInt8) (n : Nat) (w : World) (h : SrS w sb rv l) (hn : l.length < n) (hn2 : n ≤ 1099511627776) :
    Calls Tryz.prog 148 #[.pointer (some ⟨sb, 0, none⟩), .int .i64 n] w fun e w' => e = .panicked [{ v := .iface 41 (.int .i64 13), recovered := false }] ∧ w' = w := by
  have c0 := cell_of_one h.blk
  obtain ⟨sv, cv, hv, _⟩ := bytesIn_len h.bytes
  subst hv
  clear h
  go_enter Tryz.func148, Tryz.ntmps148
  go_wp2
  exact ⟨rfl, rfl, rfl⟩

set_option maxRecDepth 100000 in
set_option maxHeartbeats 800000 in
theorem stake_ok (sb : Nat) (rv : Value) (c : UInt8) (l : List UInt8) (w : World) (h : SrS w sb rv (c :: l)) (hl : (c :: l).length ≤ 1099511627776) :
    Calls Tryz.prog 133 #[.pointer (some ⟨sb, 0, none⟩)] w fun e w' => ∃ rv', e = .returned (.int .u8 c.toNat) ∧ SrTo w w' sb rv rv' l := by
  have HTB := hide (takeBytes_ok sb rv (c :: l) 1 w h (by simp) hl)
  clear h
  go_enter Tryz.func133, Tryz.ntmps133
  go_wp2_with fail
  refine HTB.out.mono ?_
  rintro e w1 ⟨v, rv', rfl, hb, hs, ho⟩
  rcases hb with ⟨_, h0⟩ | ⟨bb, off, cap, hv, h1, h2, h3⟩
  · simp at h0
  · subst hv
    have d0 := h3 0 (by simp)
    simp only [Nat.add_zero, List.take_succ_cons, List.take_zero, List.getD_cons_zero, List.length_cons, List.length_nil, Nat.zero_add] at d0 h2 ⊢
    have HS := hide hs
    clear hs h3 ho
    go_wp2
    go_ret
    exact ⟨rv', rfl, HS.out⟩
set_option maxRecDepth 100000 in
set_option maxHeartbeats 800000 in
theorem stake_bad (sb : Nat) (rv : Value) (w : World) (h : SrS w sb rv []) :
    Calls Tryz.prog 133 #[.pointer (some ⟨sb, 0, none⟩)] w fun e w' => e = .panicked [{ v := .iface 41 (.int .i64 13), recovered := false }] ∧ w' = w := by
  have HTB := hide (takeBytes_bad sb rv [] 1 w h (by simp) (by omega))
  clear h
  go_enter Tryz.func133, Tryz.ntmps133
  go_wp2_with fail
  refine HTB.out.mono ?_
  rintro e w1 ⟨rfl, rfl⟩
  exact ⟨rfl, rfl, rfl⟩
set_option maxRecDepth 100000 in
set_option maxHeartbeats 800000 in
theorem atEnd_any (sb : Nat) (rv : Value) (l : List UInt8) (w : World) (h : SrS w sb rv l) :
    Calls Tryz.prog 120 #[.pointer (some ⟨sb, 0, none⟩)] w fun e w' => e = .returned (.bool l.isEmpty) ∧ w' = w := by
  have c0 := cell_of_one h.blk
  obtain ⟨sv, cv, hv, _⟩ := bytesIn_len h.bytes
  subst hv
  have hie : l.isEmpty = decide (l.length = 0) := by cases l <;> simp
  have HIE := hide hie
  clear h hie
  go_enter Tryz.func120, Tryz.ntmps120
  go_wp2
  go_ret
  refine ⟨ret_bool ?_, rfl⟩
  rw [HIE.out]
  cases l with
  | nil => rfl
  | cons a r => simp; try omega
end Go.Proofs.YtlhlmgfblbpdpaaGreatDoor
/-
  A text as a list of bytes.
-/
namespace Go.Proofs.YtlhlmgfblbpdpaaGreatDoor
set_option linter.unusedVariables false
set_option linter.unusedSimpArgs false

end Go.Proofs.YtlhlmgfblbpdpaaGreatDoor
/-
  Blocks, unpacked, without the program: what was packed comes back.
-/
namespace Go.Proofs.YtlhlmgfblbpdpaaGreatDoor
set_option linter.unusedVariables false
set_option linter.unusedSimpArgs false

end Go.Proofs.YtlhlmgfblbpdpaaGreatDoor
/-
  Package blocks: form's begins, source's has and takeCount.
-/
namespace Go.Proofs.YtlhlmgfblbpdpaaGreatDoor
set_option linter.unusedVariables false
set_option linter.unusedSimpArgs false
open Go.RowKit

/-- What gives up. -/
def Gone (e : Ending) : Prop := e = .panicked [{ v := .iface 41 (.int .i64 13), recovered := false }]

set_option maxRecDepth 100000 in
set_option maxHeartbeats 800000 in
theorem fbegins_any (f k : Nat) (c : UInt8) (w : World) (hk : k = 4 ∨ k = 5 ∨ k = 6 ∨ k = 7) :
    Calls Tryz.prog 131 #[fm f k, .int .u8 c.toNat] w fun e w' => e = .returned (.bool (decide (c.toNat / 2 ^ k = f / 2 ^ k))) ∧ Below w.heap.size w w' := by
  have hc : c.toNat ≤ 255 := Nat.le_of_lt_succ c.toNat_lt
  generalize c.toNat = x at *
  rcases hk with rfl | rfl | rfl | rfl
  all_goals go_enter Tryz.func131, Tryz.ntmps131
  all_goals go_wp2
  all_goals go_quiet (fail)
  all_goals go_wp2
  all_goals go_ret
  all_goals refine ⟨ret_bool ?_, ⟨rfl, rfl, rfl, by simp, fun k hk => Below.heap_alloc _ _ _ hk⟩⟩
  all_goals first
    | (simp; done)
    | (rw [Bool.eq_iff_iff]; simp; omega)
    | (simp; omega)

def hasF (f k : Nat) : List UInt8 → Bool
  | [] => false
  | c :: _ => decide (c.toNat / 2 ^ k = f / 2 ^ k)
set_option maxRecDepth 100000 in
set_option maxHeartbeats 800000 in
theorem shas_any (sb : Nat) (rv : Value) (l : List UInt8) (f k : Nat) (w : World) (h : SrS w sb rv l) (hk : k = 4 ∨ k = 5 ∨ k = 6 ∨ k = 7) :
    Calls Tryz.prog 118 #[.pointer (some ⟨sb, 0, none⟩), fm f k] w fun e w' => e = .returned (.bool (hasF f k l)) ∧ Below w.heap.size w w' := by
  have hbl : Below w.heap.size w (w.alloc (.cells #[.int .u8 (f : Int), .int .i64 (k : Int)] 193)) := (Below.refl _ _).alloc (Nat.le_refl _) _
  have hs1 := h.below hbl
  have hs2 : SrS (w.alloc (.cells #[.int .u8 (f : Int), .int .i64 (k : Int)] 193)).drew sb rv l := ⟨hs1.blk, hs1.bytes.chg ((Chg.refl (fun _ => False) _).drew) (fun _ _ => id), hs1.ne⟩
  have hae := atEnd_any sb rv l _ hs2
  have c0 := cell_of_one hs1.blk
  have hlt := lt_of_block h.blk
  have HAE := hide hae
  have HBL := hide hbl
  have haq : ∀ n, Calls Tryz.prog 120 #[.pointer (some ⟨sb, 0, none⟩)] ((w.alloc (.cells #[.int .u8 (f : Int), .int .i64 (k : Int)] 193)).drewN n) fun e w' => e = .returned (.bool l.isEmpty) ∧ w' = (w.alloc (.cells #[.int .u8 (f : Int), .int .i64 (k : Int)] 193)).drewN n := fun n => atEnd_any sb rv l _ ⟨hs1.blk, hs1.bytes.chg ((Chg.refl (fun _ => False) _).drewN n) (fun _ _ => id), hs1.ne⟩
  have HAQ := hide haq
  cases l with
  | nil =>
    simp only [List.isEmpty_nil] at HAE HAQ
    clear hs1 hs2 hae h hbl haq
    go_enter Tryz.func118, Tryz.ntmps118
    go_wp2
    go_quiet ((go_at_call 120; refine Calls.quiet_of_same (HAQ.out _)))
    all_goals go_wp2
    all_goals go_ret
    all_goals exact ⟨rfl, HBL.out.os, HBL.out.tape, HBL.out.output, HBL.out.size, HBL.out.block⟩
  | cons c r =>
    simp only [List.isEmpty_cons] at HAE
    rcases hs1.bytes with ⟨_, h0⟩ | ⟨bb, off, cap, hv, h1, h2, h3⟩
    · simp at h0
    · subst hv
      have d0 := h3 0 (by simp)
      simp only [Nat.add_zero, List.getD_cons_zero] at d0
      have HFB := hide (fun wx => fbegins_any f k c wx hk)
      clear hs1 hs2 hae h h3 hbl haq
      go_enter Tryz.func118, Tryz.ntmps118
      go_wp2
      go_region_with (first
        | (go_at_call 120; refine HAE.out.mono ?_; rintro e w1 ⟨rfl, rfl⟩)
        | (go_at_call 131; refine (HFB.out _).mono ?_; rintro e w1 ⟨rfl, hb1⟩; have HB1 := hide hb1; clear hb1))
      all_goals go_wp2
      all_goals go_ret
      all_goals refine ⟨ret_bool ?_, ?_⟩
      all_goals first
        | rfl
        | (have h9 := HB1.out; have h8 : Below w.heap.size w w1 := HBL.out.trans ((Below.mk h9.os h9.tape h9.output h9.size h9.block : Below (w.alloc (.cells #[.int .u8 (f : Int), .int .i64 (k : Int)] 193)).heap.size (w.alloc (.cells #[.int .u8 (f : Int), .int .i64 (k : Int)] 193)) w1).mono HBL.out.size); exact h8)
end Go.Proofs.YtlhlmgfblbpdpaaGreatDoor
/-
  Package blocks: source's takeCount.
-/
namespace Go.Proofs.YtlhlmgfblbpdpaaGreatDoor
set_option linter.unusedVariables false
set_option linter.unusedSimpArgs false
open Go.RowKit

theorem ofInt_i64 (a : Nat) (ha : a < 4611686018427387904) : (BitVec.ofInt 64 (a : Int)).toNat = a := by
  rw [BitVec.ofInt_natCast, BitVec.toNat_ofNat]; exact Nat.mod_eq_of_lt (by omega)
theorem i64_and_nat (a b : Nat) (ha : a < 4611686018427387904) (hb : b < 4611686018427387904) : bits .and .i64 (a : Int) (b : Int) = ((a &&& b : Nat) : Int) := by
  have hx : a &&& b < 2 ^ 62 := Nat.and_lt_two_pow _ (by omega)
  show IntKind.i64.wrap ((BitVec.ofInt 64 (a : Int) &&& BitVec.ofInt 64 (b : Int)).toNat : Int) = _
  rw [BitVec.toNat_and, ofInt_i64 a ha, ofInt_i64 b hb, IntKind.wrap_i64]
  omega
theorem and_mask (c : UInt8) (k : Nat) (hk : k ≤ 8) : bits .and .i64 (c.toNat : Int) ((2 ^ k - 1 : Nat) : Int) = ((c.toNat % 2 ^ k : Nat) : Int) := by
  have h1 := c.toNat_lt
  have h2 : 2 ^ k ≤ 256 := Nat.le_trans (Nat.pow_le_pow_right (by omega) hk) (by decide)
  rw [i64_and_nat _ _ (by omega) (by omega), Nat.and_two_pow_sub_one_eq_mod]
theorem and127 (c : UInt8) : bits .and .u8 (c.toNat : Int) 127 = ((c.toNat % 128 : Nat) : Int) := by
  have h1 := c.toNat_lt
  have := u8_and_nat c.toNat 127 h1 (by decide)
  rw [show ((127 : Nat) : Int) = 127 from rfl] at this
  rw [this]
  have h2 := Nat.and_two_pow_sub_one_eq_mod c.toNat 7
  rw [show 2 ^ 7 - 1 = 127 from rfl, show 2 ^ 7 = 128 from rfl] at h2
  rw [h2]

/-- The end of takeCount. -/
def Counted (w w' : World) (sb : Nat) (rv : Value) (q : Option (Nat × List UInt8)) (e : Ending) : Prop :=
  (∃ N r rv', q = some (N, r) ∧ N ≤ 8388608 ∧ e = .returned (.int .i64 (N : Int)) ∧ SrTo w w' sb rv rv' r) ∨ (q = none ∧ Gone e ∧ Chg (fun j => j = sb) w w')

set_option maxRecDepth 100000 in
set_option maxHeartbeats 800000 in
theorem takeCount_any (sb : Nat) (rv : Value) (l : List UInt8) (c : UInt8) (f k : Nat) (w : World) (h : SrS w sb rv l) (hk : k = 4 ∨ k = 5 ∨ k = 6 ∨ k = 7) (hl : l.length ≤ 1099511627776) :
    Calls Tryz.prog 132 #[.pointer (some ⟨sb, 0, none⟩), .int .u8 c.toNat, fm f k] w fun e w' => Counted w w' sb rv (rdCnt k c l) e := by
  have hk8 : k ≤ 8 := by omega
  have hP : 2 ^ k - 1 ≤ 127 ∧ 1 ≤ 2 ^ k - 1 := by rcases hk with rfl | rfl | rfl | rfl <;> decide
  have hand := and_mask c k hk8
  have hrd : rdCnt k c l = if c.toNat % 2 ^ k < 2 ^ k - 1 then some (c.toNat % 2 ^ k, l) else rdMore 3 0 (c.toNat % 2 ^ k) l := rfl
  have hmd : c.toNat % 2 ^ k ≤ 2 ^ k - 1 := by have := Nat.mod_lt c.toNat (Nat.two_pow_pos k); omega
  have HM := hide (fun wx => most_any f k wx hk)
  have hc := Nat.le_of_lt_succ c.toNat_lt
  generalize c.toNat % 2 ^ k = M at hand hrd hmd
  generalize 2 ^ k - 1 = P at HM hP hand hrd hmd
  generalize c.toNat = x at hand hc
  have hbl : Below w.heap.size w (w.alloc (.cells #[.int .u8 (f : Int), .int .i64 (k : Int)] 193)) := (Below.refl _ _).alloc (Nat.le_refl _) _
  have hfr := heap_alloc_new w (.cells #[.int .u8 (f : Int), .int .i64 (k : Int)] 193)
  have H := hide h
  have HBL := hide hbl
  have HFR := hide hfr
  have HRD := hide hrd
  clear h hbl hfr hrd hk
  go_enter Tryz.func132, Tryz.ntmps132
  go_wp2_with fail
  refine (HM.out _).mono ?_
  rintro e w1 ⟨rfl, hb1⟩
  have hB1 : Below w.heap.size w w1 := HBL.out.trans (hb1.mono HBL.out.size)
  have hf1 : w1.heap[w.heap.size]? = some (.cells #[.int .u8 (f : Int), .int .i64 (k : Int)] 193 (0, 0)) := by rw [hb1.block _ (lt_of_block HFR.out)]; exact HFR.out
  have q0 : w1.cell? ⟨w.heap.size, 0, none⟩ = some (.int .u8 (f : Int)) := by rw [cell_of_row _ _ _ _ _ _ hf1]; rfl
  have q1 : w1.cell? ⟨w.heap.size, 1, none⟩ = some (.int .i64 (k : Int)) := by rw [cell_of_row _ _ _ _ _ _ hf1]; rfl
  have HB1 := hide hB1
  clear hb1 hB1 hf1
  go_wp2_with fail
  refine (HM.out _).mono ?_
  rintro e w2 ⟨rfl, hb2⟩
  have hB2 : Below w.heap.size w w2 := HB1.out.trans (hb2.mono HB1.out.size)
  have HB2 := hide hB2
  clear hb2 hB2 q0 q1
  by_cases hlt : M < P
  · have hr := HRD.out
    rw [if_pos hlt] at hr
    have HR := hide hr
    clear hr
    go_wp2
    go_ret
    rw [HR.out]
    exact Or.inl ⟨M, l, rv, rfl, by omega, rfl, SrTo.before HB2.out ⟨H.out.below HB2.out, Chg.refl _ _, fun j hj => hj⟩⟩
  · have hr := HRD.out
    rw [if_neg hlt] at hr
    have HR := hide hr
    clear hr
    have hst : SrTo w w2 sb rv rv l := SrTo.before HB2.out ⟨H.out.below HB2.out, Chg.refl _ _, fun j hj => hj⟩
    have HST := hide hst
    clear hst
    go_wp2
    go_loopw [7, 20] (fun nv i wr => ∃ (j n : Nat) (l' : List UInt8) (rv' : Value), i = .int .i64 (j : Int) ∧ nv = .int .i64 (n : Int) ∧ j ≤ 3 ∧ n ≤ 254 * 128 ^ j ∧ l'.length ≤ l.length ∧ rdCnt k c l = rdMore (3 - j) j n l' ∧ SrTo w wr sb rv rv' l') (fun _ i _ => 3 - (intOf i).toNat)
    case atStart => exact ⟨0, M, l, rv, rfl, rfl, by omega, by omega, Nat.le_refl _, HR.out, HST.out⟩
    case round =>
      obtain ⟨j, n, l', rv', rfl, rfl, hj, hn, hll, heq, hsr⟩ := hrel
      by_cases hj3 : j = 3
      · subst hj3
        have HEQ := hide heq
        have HSR := hide hsr
        clear heq hsr
        go_wp2
        refine ⟨rfl, Or.inr ⟨by rw [HEQ.out]; rfl, rfl, HSR.out.chg⟩⟩
      · cases l' with
        | nil =>
          have hbad := stake_bad sb rv' wr hsr.st
          have HEQ : Hid (rdCnt k c l = none) := by
            show _ = _
            rw [heq]
            obtain ⟨g, hg⟩ : ∃ g, 3 - j = g + 1 := ⟨2 - j, by omega⟩
            rw [hg]
            rfl
          have HBAD := hide hbad
          have HSR := hide hsr
          clear heq hsr hbad
          go_wp2_with fail
          refine HBAD.out.mono ?_
          rintro e w3 ⟨rfl, hw3⟩
          rw [hw3]
          exact ⟨rfl, Or.inr ⟨HEQ.out, rfl, HSR.out.chg⟩⟩
        | cons y r =>
          have hok := stake_ok sb rv' y r wr hsr.st (by omega)
          have heq2 : rdCnt k c l = if y.toNat = 0 ∧ 0 < j then none else if y.toNat < 128 then some (n + y.toNat % 128 * 2 ^ (7 * j), r) else rdMore (2 - j) (j + 1) (n + y.toNat % 128 * 2 ^ (7 * j)) r := by
            rw [heq]
            obtain ⟨g, hg⟩ : ∃ g, 3 - j = g + 1 := ⟨2 - j, by omega⟩
            have hg2 : 2 - j = g := by omega
            rw [hg, hg2]
            rfl
          have ha := and127 y
          have hy := Nat.le_of_lt_succ y.toNat_lt
          have hmod : y.toNat % 128 ≤ 127 := by omega
          have hlr : r.length ≤ l.length := by simp at hll; omega
          have hz0 : (y.toNat = 0) = (y.toNat = 0) := rfl
          generalize y.toNat = Y at hok heq2 ha hy hmod
          have HOK := hide hok
          have HEQ := hide heq2
          have HSR := hide hsr
          clear heq hsr hok heq2 hz0
          have hj012 : j = 0 ∨ j = 1 ∨ j = 2 := by omega
          generalize hYM : Y % 128 = YM at ha hmod HEQ
          have HYM := hide hYM
          clear hYM
          rcases hj012 with rfl | rfl | rfl
          · go_wp2_with fail
            refine HOK.out.mono ?_
            rintro e w3 ⟨rv3, rfl, hs3⟩
            have HS3 := hide (HSR.out.trans hs3)
            clear hs3
            have heq := HEQ.out
            clear HEQ
            rcases Nat.eq_zero_or_pos Y with hy0 | hy0
            · rw [if_neg (by omega), if_pos (by omega)] at heq
              have HE := hide heq
              clear heq
              subst hy0
              have hym0 : YM = 0 := by have := HYM.out; omega
              subst hym0
              have ha0 : bits .and .u8 0 127 = 0 := by decide
              clear ha
              go_wp2
              go_ret
              rw [HE.out]
              exact Or.inl ⟨_, _, rv3, rfl, by omega, by (first | rfl | (congr 2; simp; done) | (congr 2; simp; omega) | (congr 2; omega) | go_num), HS3.out⟩
            · by_cases hy1 : Y < 128
              · rw [if_neg (by omega), if_pos hy1] at heq
                have HE := hide heq
                clear heq
                go_wp2
                go_ret
                rw [HE.out]
                exact Or.inl ⟨_, _, rv3, rfl, by omega, by (first | rfl | (congr 2; simp; done) | (congr 2; simp; omega) | (congr 2; omega) | go_num), HS3.out⟩
              · rw [if_neg (by omega), if_neg hy1] at heq
                have HE := hide heq
                clear heq
                go_wp2
                go_roundw
                case rel => exact ⟨1, _, r, rv3, by go_num, by (first | rfl | (congr 1; simp; done) | (congr 1; simp; omega) | (congr 1; omega) | go_num), by omega, by omega, hlr, HE.out, HS3.out⟩
                case measure => simp [intOf]
          · go_wp2_with fail
            refine HOK.out.mono ?_
            rintro e w3 ⟨rv3, rfl, hs3⟩
            have HS3 := hide (HSR.out.trans hs3)
            clear hs3
            have heq := HEQ.out
            clear HEQ
            rcases Nat.eq_zero_or_pos Y with hy0 | hy0
            · rw [if_pos (by omega)] at heq
              have HE := hide heq
              clear heq
              subst hy0
              go_wp2
              exact ⟨rfl, Or.inr ⟨HE.out, rfl, HS3.out.chg⟩⟩
            · by_cases hy1 : Y < 128
              · rw [if_neg (by omega), if_pos hy1] at heq
                have HE := hide heq
                clear heq
                go_wp2
                go_ret
                rw [HE.out]
                exact Or.inl ⟨_, _, rv3, rfl, by omega, by (first | rfl | (congr 2; simp; done) | (congr 2; simp; omega) | (congr 2; omega) | go_num), HS3.out⟩
              · rw [if_neg (by omega), if_neg hy1] at heq
                have HE := hide heq
                clear heq
                go_wp2
                go_roundw
                case rel => exact ⟨2, _, r, rv3, by go_num, by (first | rfl | (congr 1; simp; done) | (congr 1; simp; omega) | (congr 1; omega) | go_num), by omega, by omega, hlr, HE.out, HS3.out⟩
                case measure => simp [intOf]
          · go_wp2_with fail
            refine HOK.out.mono ?_
            rintro e w3 ⟨rv3, rfl, hs3⟩
            have HS3 := hide (HSR.out.trans hs3)
            clear hs3
            have heq := HEQ.out
            clear HEQ
            rcases Nat.eq_zero_or_pos Y with hy0 | hy0
            · rw [if_pos (by omega)] at heq
              have HE := hide heq
              clear heq
              subst hy0
              go_wp2
              exact ⟨rfl, Or.inr ⟨HE.out, rfl, HS3.out.chg⟩⟩
            · by_cases hy1 : Y < 128
              · rw [if_neg (by omega), if_pos hy1] at heq
                have HE := hide heq
                clear heq
                go_wp2
                go_ret
                rw [HE.out]
                exact Or.inl ⟨_, _, rv3, rfl, by omega, by (first | rfl | (congr 2; simp; done) | (congr 2; simp; omega) | (congr 2; omega) | go_num), HS3.out⟩
              · rw [if_neg (by omega), if_neg hy1] at heq
                have HE := hide heq
                clear heq
                go_wp2
                go_roundw
                case rel => exact ⟨3, _, r, rv3, by go_num, by (first | rfl | (congr 1; simp; done) | (congr 1; simp; omega) | (congr 1; omega) | go_num), by omega, by omega, hlr, HE.out, HS3.out⟩
                case measure => simp [intOf]
end Go.Proofs.YtlhlmgfblbpdpaaGreatDoor
/-
  Package blocks: bitReader's left and take.
-/
namespace Go.Proofs.YtlhlmgfblbpdpaaGreatDoor
set_option linter.unusedVariables false
set_option linter.unusedSimpArgs false
open Go.RowKit

/-- A reader of bits: how many were read. -/
structure BrS (w : World) (rb : Nat) (av : Value) (b : List UInt8) (at_ : Nat) : Prop where
  blk : w.heap[rb]? = some (.cells #[av, .int .i64 (at_ : Int)] 249 (0, 0))
  bytes : BytesIn w av b
  ne : av.ownBlock ≠ some rb
  le : at_ ≤ 8 * b.length
theorem BrS.cells {w : World} {rb : Nat} {av : Value} {b : List UInt8} {at_ : Nat} (h : BrS w rb av b at_) : w.cell? ⟨rb, 0, none⟩ = some av ∧ w.cell? ⟨rb, 1, none⟩ = some (.int .i64 (at_ : Int)) := by
  refine ⟨?_, ?_⟩ <;> rw [cell_of_row w rb _ _ _ _ h.blk] <;> rfl
theorem BrS.free {w : World} {rb : Nat} {av : Value} {b : List UInt8} {at_ : Nat} (h : BrS w rb av b at_) (o : Nat) : w.frozen? ⟨rb, o, none⟩ = false := by
  have := h.blk
  simp [World.frozen?, this]
theorem BrS.chg {S : Nat → Prop} {w w' : World} {rb : Nat} {av : Value} {b : List UInt8} {at_ : Nat} (h : BrS w rb av b at_) (hc : Chg S w w') (h1 : ¬ S rb) (h2 : ∀ j, av.ownBlock = some j → ¬ S j) : BrS w' rb av b at_ :=
  ⟨by rw [hc.block rb (lt_of_block h.blk) h1]; exact h.blk, h.bytes.chg hc h2, h.ne, h.le⟩
theorem BrS.drewN {w : World} {rb : Nat} {av : Value} {b : List UInt8} {at_ : Nat} (h : BrS w rb av b at_) (n : Nat) : BrS (w.drewN n) rb av b at_ := h.chg ((Chg.refl (fun _ => False) _).drewN n) id (fun _ _ => id)
end Go.Proofs.YtlhlmgfblbpdpaaGreatDoor
