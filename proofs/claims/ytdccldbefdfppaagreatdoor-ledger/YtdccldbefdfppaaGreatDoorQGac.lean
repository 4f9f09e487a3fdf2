import Derived.Test.YtdccldbefdfppaaGreatDoorQGaa
import Derived.Test.YtdccldbefdfppaaGreatDoorQBkPut
import Derived.WalkKit
import Derived.WalkSpells
import Derived.WalkLawsBesides
import Derived.BigQuiet
import Derived.BigRegion
import Derived.Deep.QuietTactic
import Derived.Deep.RegionLaw
import Derived.Deep.DeepCutAuto
import Derived.Laws.Bits128
import Derived.Lib.AppendStr
set_option linter.unusedVariables false
set_option linter.unusedSimpArgs false
/-
  A call of a Go function, in a region that draws its order.
-/
namespace Go.Proofs.YtdccldbefdfppaaGreatDoor
set_option linter.unusedVariables false
set_option linter.unusedSimpArgs false
open Go.RowKit

/-- A call of a Go function, in a region that draws its order. -/
theorem step_call {P : Program} {ops : Array Oper} {o : Oper} {a : Act} {w : World} {K : Act → World → Prop} {Q : Exit → Act → World → Prop} {E : Prop} (hgd : o.guard = none) (f : Nat) (fn : Func) (hfn : P.funcs[f]? = some fn) (hnm : (fn.name == "runtime.NumGoroutine") = false) (hbd : fn.body.isNone = false) (xs : List Operand) (ts : Array TypeId)
    (ho : o.op = .call { callee := .value (.func f), args := xs.toArray, argTypes := ts }) (vs : List Value) (hvs : xs.map a.eval = vs) {R : Ending → World → Prop} (hc : Calls P f vs.toArray w R)
    (hK : ∀ e w', R e w' → ∃ v, e = .returned v ∧ K (a.put o.dst v) w') :
    if Region.wanted o (yielded ops a.tmps) = true then Oper.wp P o a w K Q else E := by
  have hw : Region.wanted o (yielded ops a.tmps) = true := by simp [Region.wanted, hgd]
  rw [if_pos hw]
  unfold Oper.wp
  have he : (callFunc f vs.toArray).run P w = .ok (.enter f vs.toArray) w := by
    unfold callFunc
    simp only [Sem.run_bind, run_program, Result.andThen_ok, hfn, hnm, hbd, Bool.false_eq_true, if_false, Sem.run_pure]
  have hx : (execOp a.eval o).run P w = .ok (.enter f vs.toArray) w := by
    simp [execOp, ho, resolve, invoke, hvs, Act.eval, Deferred.ofValue, he]
  rw [hx, Oper.upon_enter]
  refine hc.mono ?_
  intro e w' hr
  obtain ⟨v, rfl, hk⟩ := hK e w' hr
  exact hk

/-- A call of a Go function that panics, in a region that draws its order. -/
theorem step_gone {P : Program} {ops : Array Oper} {o : Oper} {a : Act} {w : World} {K : Act → World → Prop} {Q : Exit → Act → World → Prop} {E : Prop} (hgd : o.guard = none) (f : Nat) (fn : Func) (hfn : P.funcs[f]? = some fn) (hnm : (fn.name == "runtime.NumGoroutine") = false) (hbd : fn.body.isNone = false) (xs : List Operand) (ts : Array TypeId)
    (ho : o.op = .call { callee := .value (.func f), args := xs.toArray, argTypes := ts }) (vs : List Value) (hvs : xs.map a.eval = vs) {R : Ending → World → Prop} (hc : Calls P f vs.toArray w R)
    (hK : ∀ e w', R e w' → ∃ ps, e = .panicked ps ∧ Q (.panic ps) a w') (v : Value) (hv : False → K (a.put o.dst v) w) :
    if Region.wanted o (yielded ops a.tmps) = true then Oper.wp P o a w K Q else E := by
  have hw : Region.wanted o (yielded ops a.tmps) = true := by simp [Region.wanted, hgd]
  rw [if_pos hw]
  unfold Oper.wp
  have he : (callFunc f vs.toArray).run P w = .ok (.enter f vs.toArray) w := by
    unfold callFunc
    simp only [Sem.run_bind, run_program, Result.andThen_ok, hfn, hnm, hbd, Bool.false_eq_true, if_false, Sem.run_pure]
  have hx : (execOp a.eval o).run P w = .ok (.enter f vs.toArray) w := by
    simp [execOp, ho, resolve, invoke, hvs, Act.eval, Deferred.ofValue, he]
  rw [hx, Oper.upon_enter]
  refine hc.mono ?_
  intro e w' hr
  obtain ⟨v, rfl, hk⟩ := hK e w' hr
  exact hk
/-- append onto a row of the program's own, in a region that draws its order. -/
theorem step_appd {P : Program} {ops : Array Oper} {o : Oper} {a : Act} {w : World} {K : Act → World → Prop} {Q : Exit → Act → World → Prop} {E : Prop} (hgd : o.guard = none) (s y : Operand) (t : TypeId)
    (ho : o.op = .call { callee := .builtin .append, args := #[s, y], argTypes := #[t, t] })
    (e : TypeId) (i : TypeInfo) (z : Value) (size bytes : Nat) (ht : P.underlying t = some (.slice e)) (hi : P.info? e = some i) (hz : i.zero = some z)
    (hsize : i.size = size) (hby : i.bytes = bytes) (hzs : z.cells.size = size) (hsz : 0 < size)
    (v : Value) (n : Nat) (xs : List Value) (hs : a.eval s = v) (hown : w.ownsRow 0 e size v n xs)
    (x : Value) (m : Nat) (news : List Value) (hx : a.eval y = x) (hl : news.length = m * size) (hnews : Lies w x m news) (h1 : ∀ u ∈ news, u.oneCell' = true)
    (h63 : n + m ≤ maxLen) (hbytes : (n + m) * bytes ≤ 140737488355328)
    (hK : ∀ v' w', w'.ownsRow 0 e size v' (n + m) (xs ++ news) → w.grownBy w' v.ownBlock → (v'.ownBlock = v.ownBlock ∨ v'.ownBlock = some w.heap.size) → K (a.put o.dst v') w') :
    if Region.wanted o (yielded ops a.tmps) = true then Oper.wp P o a w K Q else E := by
  have hw : Region.wanted o (yielded ops a.tmps) = true := by simp [Region.wanted, hgd]
  rw [if_pos hw]
  obtain ⟨v', w', hr, h2, h3, h4⟩ := run_app (P := P) w t o.type e i z size bytes ht hi hz hsize hby hzs hsz v n xs hown x m news hl hnews h1 h63 hbytes
  unfold Oper.wp
  simp [execOp, ho, resolve, invoke, builtin, hs, hx, hr, Result.andThen]
  exact hK v' w' h2 h3 h4
end Go.Proofs.YtdccldbefdfppaaGreatDoor
/-
  Package blocks: appendCount.
-/
namespace Go.Proofs.YtdccldbefdfppaaGreatDoor
set_option linter.unusedVariables false
set_option linter.unusedSimpArgs false
open Go.RowKit

/-- Bytes that are being laid down, beside a form that lies in the first new block. -/
structure CtR (w : World) (gv : Value) (f k : Nat) (wr : World) (v : Value) (l : List UInt8) : Prop where
  own : wr.ownsRow 0 5 1 v l.length (l.map B)
  chg : Chg (fun j => gv.ownBlock = some j) w wr
  fresh : ∀ j, v.ownBlock = some j → gv.ownBlock = some j ∨ w.heap.size ≤ j
  frm : wr.heap[w.heap.size]? = some (.cells #[.int .u8 (f : Int), .int .i64 (k : Int)] 234 (0, 0))

theorem CtR.below {w wr wx : World} {gv v : Value} {f k : Nat} {l : List UInt8} (h : CtR w gv f k wr v l) (hb : Below wr.heap.size wr wx) : CtR w gv f k wx v l :=
  ⟨owns_chg h.own (Chg.of_below (S := fun _ => False) hb) (fun _ _ => id), h.chg.then_below hb, h.fresh, by rw [hb.block _ (lt_of_block h.frm)]; exact h.frm⟩
theorem CtR.app {w wr wx : World} {gv v v' : Value} {f k : Nat} {l r : List UInt8} {o : Obj} (h : CtR w gv f k wr v l) (hown : wx.ownsRow 0 5 1 v' (l.length + r.length) (l.map B ++ r.map B)) (hg : (wr.alloc o).grownBy wx v.ownBlock) (hf : v'.ownBlock = v.ownBlock ∨ v'.ownBlock = some (wr.heap.size + 1)) : CtR w gv f k wx v' (l ++ r) := by
  have hc : Chg (fun j => v.ownBlock = some j) wr wx := ((Chg.refl _ _).alloc o).trans (Chg.of_grown hg (fun j hj => Or.inr hj))
  have hsz := h.chg.size
  refine ⟨by rw [List.length_append, List.map_append]; exact hown, h.chg.trans (hc.mono fun j _ e => ?_), fun j hj => ?_, ?_⟩
  · exact (h.fresh j e).symm
  · rcases hf with e | e
    · rw [e] at hj; exact h.fresh j hj
    · rw [e] at hj
      simp at hj
      exact Or.inr (by omega)
  · rw [hc.block _ (lt_of_block h.frm) (fun e => owns_ne h.own h.frm (by decide) e)]; exact h.frm
theorem CtR.drew {w wr : World} {gv v : Value} {f k : Nat} {l : List UInt8} (h : CtR w gv f k wr v l) : CtR w gv f k wr.drew v l := ⟨h.own, h.chg.drew, h.fresh, h.frm⟩

/-- The end of appendCount, and of the like. -/
structure Laid (w : World) (gv : Value) (w' : World) (v : Value) (l : List UInt8) : Prop where
  own : w'.ownsRow 0 5 1 v l.length (l.map B)
  chg : Chg (fun j => gv.ownBlock = some j) w w'
  fresh : ∀ j, v.ownBlock = some j → gv.ownBlock = some j ∨ w.heap.size ≤ j

end Go.Proofs.YtdccldbefdfppaaGreatDoor
/-
  Package blocks: bitWriter's fill, packBits.
-/
namespace Go.Proofs.YtdccldbefdfppaaGreatDoor
set_option linter.unusedVariables false
set_option linter.unusedSimpArgs false
open Go.RowKit

theorem BwS.own {w : World} {wb : Nat} {gv : Value} {bs : List Bool} (h : BwS w wb gv bs) : w.ownsRow 0 5 1 gv (bs.length / 8) ((bytesB bs).map B) := by
  obtain ⟨L, N, _, _, _, _, h5⟩ := h
  exact h5
end Go.Proofs.YtdccldbefdfppaaGreatDoor
/-
  Package blocks: its tables at package level; appendText.
-/
namespace Go.Proofs.YtdccldbefdfppaaGreatDoor
set_option linter.unusedVariables false
set_option linter.unusedSimpArgs false
open Go.RowKit

/-- What the package's variables hold. -/
structure Gl (w : World) : Prop where
  lim : w.cell? ⟨0, 0, none⟩ = some (.int .u8 32) ∧ w.cell? ⟨0, 1, none⟩ = some (.int .i64 5)
  num : w.cell? ⟨1, 0, none⟩ = some (.int .u8 128) ∧ w.cell? ⟨1, 1, none⟩ = some (.int .i64 7)
  nta : w.cell? ⟨3, 0, none⟩ = some (.int .u8 0) ∧ w.cell? ⟨3, 1, none⟩ = some (.int .i64 4)
  add : w.cell? ⟨2, 0, none⟩ = some (.int .u8 64) ∧ w.cell? ⟨2, 1, none⟩ = some (.int .i64 6)
  pck : w.cell? ⟨5, 0, none⟩ = some (.int .u8 128) ∧ w.cell? ⟨5, 1, none⟩ = some (.int .i64 7)
  pln : w.cell? ⟨6, 0, none⟩ = some (.int .u8 0) ∧ w.cell? ⟨6, 1, none⟩ = some (.int .i64 7)
  fix : ∀ i (h : i < fixed8.length), w.cell? ⟨4, 2 * i, none⟩ = some (.string fixed8[i].n) ∧ w.cell? ⟨4, 2 * i + 1, none⟩ = some (.string fixed8[i].v)
  lt : 7 ≤ w.heap.size
theorem Gl.chg {S : Nat → Prop} {w w' : World} (h : Gl w) (hc : Chg S w w') (hs : ∀ j, j < 7 → ¬ S j) : Gl w' := by
  have hl := h.lt
  have q : ∀ (g o : Nat), g < 7 → w'.cell? ⟨g, o, none⟩ = w.cell? ⟨g, o, none⟩ := fun g o hg => hc.cell (p := ⟨g, o, none⟩) (Nat.lt_of_lt_of_le hg hl) (hs g hg)
  refine ⟨?_, ?_, ?_, ?_, ?_, ?_, fun i hi => ?_, Nat.le_trans hl hc.size⟩
  · rw [q _ _ (by decide), q _ _ (by decide)]; exact h.lim
  · rw [q _ _ (by decide), q _ _ (by decide)]; exact h.num
  · rw [q _ _ (by decide), q _ _ (by decide)]; exact h.nta
  · rw [q _ _ (by decide), q _ _ (by decide)]; exact h.add
  · rw [q _ _ (by decide), q _ _ (by decide)]; exact h.pck
  · rw [q _ _ (by decide), q _ _ (by decide)]; exact h.pln
  · rw [q _ _ (by decide), q _ _ (by decide)]; exact h.fix i hi
theorem Gl.below {w w' : World} (h : Gl w) (hb : Below w.heap.size w w') : Gl w' := h.chg (Chg.of_below (S := fun _ => False) hb) (fun _ _ => id)

theorem Laid.below {w wx w' : World} {gv v : Value} {l : List UInt8} (hb : Below w.heap.size w wx) (h : Laid wx gv w' v l) : Laid w gv w' v l :=
  ⟨h.own, (Chg.of_below hb).trans (h.chg.mono fun j _ e => Or.inr e), fun j hj => (h.fresh j hj).imp_right fun e => Nat.le_trans hb.size e⟩
theorem Laid.trans {w w1 w2 : World} {gv v v2 : Value} {l l2 : List UInt8} (h : Laid w gv w1 v l) (k : Laid w1 v w2 v2 l2) : Laid w gv w2 v2 l2 :=
  ⟨k.own, h.chg.trans (k.chg.mono fun j _ e => (h.fresh j e).symm), fun j hj => by
    rcases k.fresh j hj with e | e
    · exact h.fresh j e
    · exact Or.inr (Nat.le_trans h.chg.size e)⟩
theorem Laid.app {w w1 w2 : World} {gv v v2 : Value} {l r : List UInt8} (h : Laid w gv w1 v l) (hown : w2.ownsRow 0 5 1 v2 (l.length + r.length) (l.map B ++ r.map B)) (hg : w1.grownBy w2 v.ownBlock) (hf : v2.ownBlock = v.ownBlock ∨ v2.ownBlock = some w1.heap.size) : Laid w gv w2 v2 (l ++ r) := by
  have hc : Chg (fun j => v.ownBlock = some j) w1 w2 := Chg.of_grown hg (fun j hj => hj)
  have hsz := h.chg.size
  refine ⟨by rw [List.length_append, List.map_append]; exact hown, h.chg.trans (hc.mono fun j _ e => (h.fresh j e).symm), fun j hj => ?_⟩
  rcases hf with e | e
  · rw [e] at hj; exact h.fresh j hj
  · rw [e] at hj
    simp at hj
    exact Or.inr (by omega)
theorem Laid.len {w w' : World} {gv v : Value} {l : List UInt8} (h : Laid w gv w' v l) : ∃ sv cv, v = .slice sv l.length cv := slice_len h.own

end Go.Proofs.YtdccldbefdfppaaGreatDoor
/-
  Package blocks: source: takeBytes, take, atEnd, has; form's begins.
-/
namespace Go.Proofs.YtdccldbefdfppaaGreatDoor
set_option linter.unusedVariables false
set_option linter.unusedSimpArgs false
open Go.RowKit

/-- What is left of a block. -/
structure SrS (w : World) (sb : Nat) (rv : Value) (l : List UInt8) : Prop where
  blk : w.heap[sb]? = some (.cells #[rv] 231 (0, 0))
  bytes : BytesIn w rv l
  ne : rv.ownBlock ≠ some sb
theorem SrS.chg {S : Nat → Prop} {w w' : World} {sb : Nat} {rv : Value} {l : List UInt8} (h : SrS w sb rv l) (hc : Chg S w w') (h1 : ¬ S sb) (h2 : ∀ j, rv.ownBlock = some j → ¬ S j) : SrS w' sb rv l :=
  ⟨by rw [hc.block sb (lt_of_block h.blk) h1]; exact h.blk, h.bytes.chg hc h2, h.ne⟩
theorem SrS.below {w w' : World} {sb : Nat} {rv : Value} {l : List UInt8} (h : SrS w sb rv l) (hb : Below w.heap.size w w') : SrS w' sb rv l := h.chg (Chg.of_below (S := fun _ => False) hb) id (fun _ _ => id)
theorem bytesIn_len {w : World} {v : Value} {l : List UInt8} (h : BytesIn w v l) : ∃ sv cv, v = .slice sv l.length cv ∧ l.length ≤ cv := by
  rcases h with ⟨rfl, rfl⟩ | ⟨bb, off, cap, rfl, _, h2, _⟩
  · exact ⟨_, _, rfl, Nat.le_refl _⟩
  · exact ⟨_, _, rfl, h2⟩
/-- The end of a call on a source. -/
structure SrTo (w w' : World) (sb : Nat) (rv rv' : Value) (l' : List UInt8) : Prop where
  st : SrS w' sb rv' l'
  chg : Chg (fun j => j = sb) w w'
  own : ∀ j, rv'.ownBlock = some j → rv.ownBlock = some j
theorem SrTo.trans {w w1 w2 : World} {sb : Nat} {rv r1 r2 : Value} {l1 l2 : List UInt8} (h : SrTo w w1 sb rv r1 l1) (k : SrTo w1 w2 sb r1 r2 l2) : SrTo w w2 sb rv r2 l2 :=
  ⟨k.st, h.chg.trans (k.chg.mono fun _ _ e => Or.inr e), fun j hj => h.own j (k.own j hj)⟩
theorem SrTo.below {w w1 w2 : World} {sb : Nat} {rv r1 : Value} {l1 : List UInt8} (h : SrTo w w1 sb rv r1 l1) (hb : Below w1.heap.size w1 w2) : SrTo w w2 sb rv r1 l1 := ⟨h.st.below hb, h.chg.then_below hb, h.own⟩
theorem SrTo.before {w w1 w2 : World} {sb : Nat} {rv r1 : Value} {l1 : List UInt8} (hb : Below w.heap.size w w1) (h : SrTo w1 w2 sb rv r1 l1) : SrTo w w2 sb rv r1 l1 := ⟨h.st, (Chg.of_below hb).trans (h.chg.mono fun _ _ e => Or.inr e), h.own⟩

set_option maxRecDepth 100000 in
set_option maxHeartbeats 800000 in
theorem atEnd_any (sb : Nat) (rv : Value) (l : List UInt8) (w : World) (h : SrS w sb rv l) :
    Calls Tryz.prog 159 #[.pointer (some ⟨sb, 0, none⟩)] w fun e w' => e = .returned (.bool l.isEmpty) ∧ w' = w := by
  have c0 := cell_of_one h.blk
  obtain ⟨sv, cv, hv, _⟩ := bytesIn_len h.bytes
  subst hv
  have hie : l.isEmpty = decide (l.length = 0) := by cases l <;> simp
  have HIE := hide hie
  clear h hie
  go_enter Tryz.func159, Tryz.ntmps159
  go_wp2
  go_ret
  refine ⟨ret_bool ?_, rfl⟩
  rw [HIE.out]
  cases l with
  | nil => rfl
  | cons a r => simp; try omega
end Go.Proofs.YtdccldbefdfppaaGreatDoor
/-
  A text as a list of bytes.
-/
namespace Go.Proofs.YtdccldbefdfppaaGreatDoor
set_option linter.unusedVariables false
set_option linter.unusedSimpArgs false

end Go.Proofs.YtdccldbefdfppaaGreatDoor
/-
  Blocks, unpacked, without the program: what was packed comes back.
-/
namespace Go.Proofs.YtdccldbefdfppaaGreatDoor
set_option linter.unusedVariables false
set_option linter.unusedSimpArgs false

end Go.Proofs.YtdccldbefdfppaaGreatDoor
/-
  Package blocks: form's begins, source's has and takeCount.
-/
namespace Go.Proofs.YtdccldbefdfppaaGreatDoor
set_option linter.unusedVariables false
set_option linter.unusedSimpArgs false
open Go.RowKit

set_option maxRecDepth 100000 in
set_option maxHeartbeats 800000 in
theorem fbegins_any (f k : Nat) (c : UInt8) (w : World) (hk : k = 4 ∨ k = 5 ∨ k = 6 ∨ k = 7) :
    Calls Tryz.prog 180 #[fm f k, .int .u8 c.toNat] w fun e w' => e = .returned (.bool (decide (c.toNat / 2 ^ k = f / 2 ^ k))) ∧ Below w.heap.size w w' := by
  have hc : c.toNat ≤ 255 := Nat.le_of_lt_succ c.toNat_lt
  generalize c.toNat = x at *
  rcases hk with rfl | rfl | rfl | rfl
  all_goals go_enter Tryz.func180, Tryz.ntmps180
  all_goals go_wp2
  all_goals go_quiet (fail)
  all_goals go_wp2
  all_goals go_ret
  all_goals refine ⟨ret_bool ?_, ⟨rfl, rfl, rfl, by simp, fun k hk => Below.heap_alloc _ _ _ hk⟩⟩
  all_goals first
    | (simp; done)
    | (rw [Bool.eq_iff_iff]; simp; omega)
    | (simp; omega)

def hasF (f k : Nat) : List UInt8 → Bool
  | [] => false
  | c :: _ => decide (c.toNat / 2 ^ k = f / 2 ^ k)
set_option maxRecDepth 100000 in
set_option maxHeartbeats 800000 in
theorem shas_any (sb : Nat) (rv : Value) (l : List UInt8) (f k : Nat) (w : World) (h : SrS w sb rv l) (hk : k = 4 ∨ k = 5 ∨ k = 6 ∨ k = 7) :
    Calls Tryz.prog 157 #[.pointer (some ⟨sb, 0, none⟩), fm f k] w fun e w' => e = .returned (.bool (hasF f k l)) ∧ Below w.heap.size w w' := by
  have hbl : Below w.heap.size w (w.alloc (.cells #[.int .u8 (f : Int), .int .i64 (k : Int)] 234)) := (Below.refl _ _).alloc (Nat.le_refl _) _
  have hs1 := h.below hbl
  have hs2 : SrS (w.alloc (.cells #[.int .u8 (f : Int), .int .i64 (k : Int)] 234)).drew sb rv l := ⟨hs1.blk, hs1.bytes.chg ((Chg.refl (fun _ => False) _).drew) (fun _ _ => id), hs1.ne⟩
  have hae := atEnd_any sb rv l _ hs2
  have c0 := cell_of_one hs1.blk
  have hlt := lt_of_block h.blk
  have HAE := hide hae
  have HBL := hide hbl
  have haq : ∀ n, Calls Tryz.prog 159 #[.pointer (some ⟨sb, 0, none⟩)] ((w.alloc (.cells #[.int .u8 (f : Int), .int .i64 (k : Int)] 234)).drewN n) fun e w' => e = .returned (.bool l.isEmpty) ∧ w' = (w.alloc (.cells #[.int .u8 (f : Int), .int .i64 (k : Int)] 234)).drewN n := fun n => atEnd_any sb rv l _ ⟨hs1.blk, hs1.bytes.chg ((Chg.refl (fun _ => False) _).drewN n) (fun _ _ => id), hs1.ne⟩
  have HAQ := hide haq
  cases l with
  | nil =>
    simp only [List.isEmpty_nil] at HAE HAQ
    clear hs1 hs2 hae h hbl haq
    go_enter Tryz.func157, Tryz.ntmps157
    go_wp2
    go_quiet ((go_at_call 159; refine Calls.quiet_of_same (HAQ.out _)))
    all_goals go_wp2
    all_goals go_ret
    all_goals exact ⟨rfl, HBL.out.os, HBL.out.tape, HBL.out.output, HBL.out.size, HBL.out.block⟩
  | cons c r =>
    simp only [List.isEmpty_cons] at HAE
    rcases hs1.bytes with ⟨_, h0⟩ | ⟨bb, off, cap, hv, h1, h2, h3⟩
    · simp at h0
    · subst hv
      have d0 := h3 0 (by simp)
      simp only [Nat.add_zero, List.getD_cons_zero] at d0
      have HFB := hide (fun wx => fbegins_any f k c wx hk)
      clear hs1 hs2 hae h h3 hbl haq
      go_enter Tryz.func157, Tryz.ntmps157
      go_wp2
      go_region_with (first
        | (go_at_call 159; refine HAE.out.mono ?_; rintro e w1 ⟨rfl, rfl⟩)
        | (go_at_call 180; refine (HFB.out _).mono ?_; rintro e w1 ⟨rfl, hb1⟩; have HB1 := hide hb1; clear hb1))
      all_goals go_wp2
      all_goals go_ret
      all_goals refine ⟨ret_bool ?_, ?_⟩
      all_goals first
        | rfl
        | (have h9 := HB1.out; have h8 : Below w.heap.size w w1 := HBL.out.trans ((Below.mk h9.os h9.tape h9.output h9.size h9.block : Below (w.alloc (.cells #[.int .u8 (f : Int), .int .i64 (k : Int)] 234)).heap.size (w.alloc (.cells #[.int .u8 (f : Int), .int .i64 (k : Int)] 234)) w1).mono HBL.out.size); exact h8)
end Go.Proofs.YtdccldbefdfppaaGreatDoor
/-
  Package blocks: source's takeCount.
-/
namespace Go.Proofs.YtdccldbefdfppaaGreatDoor
set_option linter.unusedVariables false
set_option linter.unusedSimpArgs false
open Go.RowKit

end Go.Proofs.YtdccldbefdfppaaGreatDoor
/-
  Package blocks: bitReader's left and take.
-/
namespace Go.Proofs.YtdccldbefdfppaaGreatDoor
set_option linter.unusedVariables false
set_option linter.unusedSimpArgs false
open Go.RowKit

/-- A reader of bits: how many were read. -/
structure BrS (w : World) (rb : Nat) (av : Value) (b : List UInt8) (at_ : Nat) : Prop where
  blk : w.heap[rb]? = some (.cells #[av, .int .i64 (at_ : Int)] 278 (0, 0))
  bytes : BytesIn w av b
  ne : av.ownBlock ≠ some rb
  le : at_ ≤ 8 * b.length
theorem BrS.cells {w : World} {rb : Nat} {av : Value} {b : List UInt8} {at_ : Nat} (h : BrS w rb av b at_) : w.cell? ⟨rb, 0, none⟩ = some av ∧ w.cell? ⟨rb, 1, none⟩ = some (.int .i64 (at_ : Int)) := by
  refine ⟨?_, ?_⟩ <;> rw [cell_of_row w rb _ _ _ _ h.blk] <;> rfl
theorem BrS.free {w : World} {rb : Nat} {av : Value} {b : List UInt8} {at_ : Nat} (h : BrS w rb av b at_) (o : Nat) : w.frozen? ⟨rb, o, none⟩ = false := by
  have := h.blk
  simp [World.frozen?, this]
theorem BrS.chg {S : Nat → Prop} {w w' : World} {rb : Nat} {av : Value} {b : List UInt8} {at_ : Nat} (h : BrS w rb av b at_) (hc : Chg S w w') (h1 : ¬ S rb) (h2 : ∀ j, av.ownBlock = some j → ¬ S j) : BrS w' rb av b at_ :=
  ⟨by rw [hc.block rb (lt_of_block h.blk) h1]; exact h.blk, h.bytes.chg hc h2, h.ne, h.le⟩
theorem BrS.drewN {w : World} {rb : Nat} {av : Value} {b : List UInt8} {at_ : Nat} (h : BrS w rb av b at_) (n : Nat) : BrS (w.drewN n) rb av b at_ := h.chg ((Chg.refl (fun _ => False) _).drewN n) id (fun _ _ => id)
end Go.Proofs.YtdccldbefdfppaaGreatDoor
