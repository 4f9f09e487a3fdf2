import Derived.Test.YtdccldbefdfppaaGreatDoorPGaa
import Derived.Laws.Bits128
import Derived.Lib.AppendStr
set_option linter.unusedVariables false
set_option linter.unusedSimpArgs false
namespace Go.Proofs.YtdccldbefdfppaaGreatDoor
section
open Go.RowKit
structure Laid (w : World) (gv : Value) (w' : World) (v : Value) (l : List UInt8) : Prop where
 own : w'.ownsRow 0 5 1 v l.length (l.map B)
 chg : Chg (fun j => gv.ownBlock = some j) w w'
 fresh : ∀ j, v.ownBlock = some j → gv.ownBlock = some j ∨ w.heap.size ≤ j
theorem one_u8 (x : Int) : ∀ u ∈ [Value.int .u8 x], u.oneCell' = true := by
 intro u hu
 simp at hu
 subst hu
 rfl
end
section
open Go.RowKit
theorem BwS.own {w : World} {wb : Nat} {gv : Value} {bs : List Bool} (h : BwS w wb gv bs) : w.ownsRow 0 5 1 gv (bs.length / 8) ((bytesB bs).map B) := by
 obtain ⟨L, N, _, _, _, _, h5⟩ := h
 exact h5
end
section
open Go.RowKit
structure Gl (w : World) : Prop where
 lim : w.cell? ⟨0, 0, none⟩ = some (.int .u8 32) ∧ w.cell? ⟨0, 1, none⟩ = some (.int .i64 5)
 num : w.cell? ⟨1, 0, none⟩ = some (.int .u8 128) ∧ w.cell? ⟨1, 1, none⟩ = some (.int .i64 7)
 nta : w.cell? ⟨3, 0, none⟩ = some (.int .u8 0) ∧ w.cell? ⟨3, 1, none⟩ = some (.int .i64 4)
 add : w.cell? ⟨2, 0, none⟩ = some (.int .u8 64) ∧ w.cell? ⟨2, 1, none⟩ = some (.int .i64 6)
 pck : w.cell? ⟨5, 0, none⟩ = some (.int .u8 128) ∧ w.cell? ⟨5, 1, none⟩ = some (.int .i64 7)
 pln : w.cell? ⟨6, 0, none⟩ = some (.int .u8 0) ∧ w.cell? ⟨6, 1, none⟩ = some (.int .i64 7)
 fix : ∀ i (h : i < fixed8.length), w.cell? ⟨4, 2 * i, none⟩ = some (.string fixed8[i].n) ∧ w.cell? ⟨4, 2 * i + 1, none⟩ = some (.string fixed8[i].v)
 lt : 7 ≤ w.heap.size
theorem Gl.chg {S : Nat → Prop} {w w' : World} (h : Gl w) (hc : Chg S w w') (hs : ∀ j, j < 7 → ¬ S j) : Gl w' := by
 have hl := h.lt
 have q : ∀ (g o : Nat), g < 7 → w'.cell? ⟨g, o, none⟩ = w.cell? ⟨g, o, none⟩ := fun g o hg => hc.cell (p := ⟨g, o, none⟩) (Nat.lt_of_lt_of_le hg hl) (hs g hg)
 refine ⟨?_, ?_, ?_, ?_, ?_, ?_, fun i hi => ?_, Nat.le_trans hl hc.size⟩
 ·rw [q _ _ (by decide), q _ _ (by decide)]; exact h.lim
 ·rw [q _ _ (by decide), q _ _ (by decide)]; exact h.num
 ·rw [q _ _ (by decide), q _ _ (by decide)]; exact h.nta
 ·rw [q _ _ (by decide), q _ _ (by decide)]; exact h.add
 ·rw [q _ _ (by decide), q _ _ (by decide)]; exact h.pck
 ·rw [q _ _ (by decide), q _ _ (by decide)]; exact h.pln
 ·rw [q _ _ (by decide), q _ _ (by decide)]; exact h.fix i hi
theorem Gl.below {w w' : World} (h : Gl w) (hb : Below w.heap.size w w') : Gl w' := h.chg (Chg.of_below (S := fun _ => False) hb) (fun _ _ => id)
theorem Laid.trans {w w1 w2 : World} {gv v v2 : Value} {l l2 : List UInt8} (h : Laid w gv w1 v l) (k : Laid w1 v w2 v2 l2) : Laid w gv w2 v2 l2 :=
 ⟨k.own, h.chg.trans (k.chg.mono fun j _ e => (h.fresh j e).symm), fun j hj => by
  rcases k.fresh j hj with e | e
  ·exact h.fresh j e
  ·exact Or.inr (Nat.le_trans h.chg.size e)⟩
theorem Laid.len {w w' : World} {gv v : Value} {l : List UInt8} (h : Laid w gv w' v l) : ∃ sv cv, v = .slice sv l.length cv := slice_len h.own
theorem run_app_str {P : Program} (w : World) (t u ty e : TypeId) (i : TypeInfo) (ht : P.underlying t = some (.slice e)) (hu : P.underlying u = some .string) (hi : P.info? e = some i) (hz : i.zero = some (.int .u8 0))
  (hsize : i.size = 1) (hby : i.bytes = 1) (v : Value) (n : Nat) (xs : List Value) (hown : w.ownsRow 0 e 1 v n xs) (s : ByteArray)
  (h63 : n + s.size ≤ maxLen) (hbytes : n + s.size ≤ 140737488355328) :
  ∃ v' w', (Builtin.append_ #[t, u] ty #[v, .string s]).run P w = .ok v' w' ∧ w'.ownsRow 0 e 1 v' (n + s.size) (xs ++ Lib.strCells s) ∧ w.grownBy w' v.ownBlock ∧
   (v'.ownBlock = v.ownBlock ∨ v'.ownBlock = some w.heap.size) := by
 obtain ⟨v', w', hr, h2, h3, h4⟩ := Lib.run_append_own_string (P := P) w 0 t u ty e i ht hu hi hz hsize hby v n xs hown s h63 hbytes (Nat.zero_le _)
 refine ⟨v', w', hr, h2, h3, ?_⟩
 have hsmall : n + s.size ≤ 9223372036854775807 := by simp only [maxLen] at h63; omega
 have hxl : xs.length = n := by simpa using hown.1
 rcases hown.2 with ⟨rfl, rfl⟩ | ⟨g, cap, cur, rfl, hbg, hg, hnc, hcm, hcs, htake⟩
 ·by_cases hm : s.size = 0
  ·exact Or.inl (by rw [h4.2 ⟨rfl, hm⟩])
  ·have h := run_append_nil_string (P := P) w t u ty e i (.int .u8 0) ht hu hi hz s (by omega) (by omega) (by rw [hby]; omega)
   rw [h] at hr
   simp only [Result.ok.injEq] at hr
   exact Or.inr (by rw [← hr.1]; rfl)
 ·by_cases hroom : n + s.size ≤ cap
  ·have hcs' : cur.size = cap := by simpa using hcs
   have h := Lib.run_append_room_string (P := P) w t u ty e i ht hu hi hsize g n cap cur hg s hroom (by omega)
   rw [h] at hr
   simp only [Result.ok.injEq] at hr
   exact Or.inl (by rw [← hr.1]; rfl)
  ·have holds : ∀ j u, xs[j]? = some u → w.cell? ((⟨g, 0, none⟩ : Addr).add j) = some u := hown.cells (g := g) rfl
   have h := Lib.run_append_grow_string (P := P) w t u ty e i (.int .u8 0) ht hu hi hz ⟨g, 0, none⟩ n cap xs (by rw [hsize]; simpa using hxl) holds s (by omega) (by omega) (by rw [hby]; exact growslice_fits (by omega) (by omega))
   rw [h] at hr
   simp only [Result.ok.injEq] at hr
   exact Or.inr (by rw [← hr.1]; rfl)
theorem wpList_app_str {P : Program} (w : World) {ops : Array Oper} {rest : List Oper} {o : Oper} {a : Act} {Q : Exit → Act → World → Prop} (hgd : o.guard = none) (sl x : Operand) (t u : TypeId)
  (ho : o.op = .call { callee := .builtin .append, args := #[sl, x], argTypes := #[t, u] })
  (e : TypeId) (i : TypeInfo) (ht : P.underlying t = some (.slice e)) (hu : P.underlying u = some .string) (hi : P.info? e = some i) (hz : i.zero = some (.int .u8 0))
  (hsize : i.size = 1) (hby : i.bytes = 1) (v : Value) (n : Nat) (xs : List Value) (hs : a.eval sl = v) (hown : w.ownsRow 0 e 1 v n xs) (s : ByteArray) (hx : a.eval x = .string s)
  (h63 : n + s.size ≤ maxLen) (hbytes : n + s.size ≤ 140737488355328)
  (h : ∀ v' w', w'.ownsRow 0 e 1 v' (n + s.size) (xs ++ Lib.strCells s) → w.grownBy w' v.ownBlock → (v'.ownBlock = v.ownBlock ∨ v'.ownBlock = some w.heap.size) → wpList P ops Q rest (a.put o.dst v') w') : wpList P ops Q (o :: rest) a w := by
 refine wpList_plain hgd fun K hK => ?_
 obtain ⟨v', w', hr, h2, h3, h4⟩ := run_app_str (P := P) w t u o.type e i ht hu hi hz hsize hby v n xs hown s h63 hbytes
 unfold Oper.wp execOp
 simp only [ho, resolve, invoke, builtin, Sem.run_bind, Sem.run_pure, Result.andThen_ok, List.map_toArray, List.map_cons, List.map_nil, hs, hx, hr]
 exact hK _ _ (h v' w' h2 h3 h4)
theorem strCells_eq (T : ByteArray) : Lib.strCells T = T.data.toList.map B := by simp [Lib.strCells]
end
section
open Go.RowKit
structure SrS (w : World) (sb : Nat) (rv : Value) (l : List UInt8) : Prop where
 blk : w.heap[sb]? = some (.cells #[rv] 231 (0, 0))
 bytes : BytesIn w rv l
 ne : rv.ownBlock ≠ some sb
theorem SrS.chg {S : Nat → Prop} {w w' : World} {sb : Nat} {rv : Value} {l : List UInt8} (h : SrS w sb rv l) (hc : Chg S w w') (h1 : ¬ S sb) (h2 : ∀ j, rv.ownBlock = some j → ¬ S j) : SrS w' sb rv l :=
 ⟨by rw [hc.block sb (lt_of_block h.blk) h1]; exact h.blk, h.bytes.chg hc h2, h.ne⟩
theorem SrS.below {w w' : World} {sb : Nat} {rv : Value} {l : List UInt8} (h : SrS w sb rv l) (hb : Below w.heap.size w w') : SrS w' sb rv l := h.chg (Chg.of_below (S := fun _ => False) hb) id (fun _ _ => id)
theorem bytesIn_len {w : World} {v : Value} {l : List UInt8} (h : BytesIn w v l) : ∃ sv cv, v = .slice sv l.length cv ∧ l.length ≤ cv := by
 rcases h with ⟨rfl, rfl⟩ | ⟨bb, off, cap, rfl, _, h2, _⟩
 ·exact ⟨_, _, rfl, Nat.le_refl _⟩
 ·exact ⟨_, _, rfl, h2⟩
structure SrTo (w w' : World) (sb : Nat) (rv rv' : Value) (l' : List UInt8) : Prop where
 st : SrS w' sb rv' l'
 chg : Chg (fun j => j = sb) w w'
 own : ∀ j, rv'.ownBlock = some j → rv.ownBlock = some j
theorem SrTo.trans {w w1 w2 : World} {sb : Nat} {rv r1 r2 : Value} {l1 l2 : List UInt8} (h : SrTo w w1 sb rv r1 l1) (k : SrTo w1 w2 sb r1 r2 l2) : SrTo w w2 sb rv r2 l2 :=
 ⟨k.st, h.chg.trans (k.chg.mono fun _ _ e => Or.inr e), fun j hj => h.own j (k.own j hj)⟩
theorem SrTo.below {w w1 w2 : World} {sb : Nat} {rv r1 : Value} {l1 : List UInt8} (h : SrTo w w1 sb rv r1 l1) (hb : Below w1.heap.size w1 w2) : SrTo w w2 sb rv r1 l1 := ⟨h.st.below hb, h.chg.then_below hb, h.own⟩
theorem SrTo.before {w w1 w2 : World} {sb : Nat} {rv r1 : Value} {l1 : List UInt8} (hb : Below w.heap.size w w1) (h : SrTo w1 w2 sb rv r1 l1) : SrTo w w2 sb rv r1 l1 := ⟨h.st, (Chg.of_below hb).trans (h.chg.mono fun _ _ e => Or.inr e), h.own⟩
set_option maxRecDepth 100000 in
set_option maxHeartbeats 800000 in
theorem takeBytes_ok (sb : Nat) (rv : Value) (l : List UInt8) (n : Nat) (w : World) (h : SrS w sb rv l) (hn : n ≤ l.length) (hl : l.length ≤ 1099511627776) :
  Calls Tryz.prog 195 #[.pointer (some ⟨sb, 0, none⟩), .int .i64 n] w fun e w' => ∃ v rv', e = .returned v ∧ BytesIn w' v (l.take n) ∧ SrTo w w' sb rv rv' (l.drop n) ∧ (∀ j, v.ownBlock = some j → rv.ownBlock = some j) := by
 have c0 := cell_of_one h.blk
 have f0 := free_of_one h.blk
 have hlt := lt_of_block h.blk
 have H := hide h
 rcases h.bytes with ⟨hv, hl0⟩ | ⟨bb, off, cap, hv, h1, h2, h3⟩
 ·subst hv hl0
  have hn0 : n = 0 := by simpa using hn
  subst hn0
  clear h
  go_enter Tryz.func195, Tryz.ntmps195
  go_wp2
  go_ret
  have hc : Chg (fun j => j = sb) w (w.setCell ⟨sb, 0, none⟩ (.slice none 0 0)) := (Chg.refl (fun j => j = sb) w).setCell (p := ⟨sb, 0, none⟩) (Or.inr rfl) _
  exact ⟨_, .slice none 0 0, rfl, Or.inl ⟨rfl, rfl⟩, ⟨⟨one_setCell H.out.blk, Or.inl ⟨rfl, rfl⟩, by simp [Value.ownBlock]⟩, hc, fun j hj => hj⟩, fun j hj => hj⟩
 ·subst hv
  have hne : bb ≠ sb := fun e => h.ne (by rw [e]; rfl)
  obtain ⟨AD, hAD, hAO⟩ : ∃ o2, (if cap = n then some (⟨bb, off, none⟩ : Addr) else some ⟨bb, off + n, none⟩) = some ⟨bb, o2, none⟩ ∧ (n < l.length → o2 = off + n) := by
   by_cases hck : cap = n
   ·exact ⟨off, by rw [if_pos hck], fun e => by omega⟩
   ·exact ⟨off + n, by rw [if_neg hck], fun _ => rfl⟩
  have HAO := hide hAO
  have H3 := hide h3
  have H1 := hide h1
  clear h hAO h3 h1
  go_enter Tryz.func195, Tryz.ntmps195
  go_wp2
  go_ret
  have hc : Chg (fun j => j = sb) w (w.setCell ⟨sb, 0, none⟩ (.slice (some ⟨bb, AD, none⟩) (l.length - n) (cap - n))) := (Chg.refl (fun j => j = sb) w).setCell (p := ⟨sb, 0, none⟩) (Or.inr rfl) _
  have hsz : bb < (w.setCell ⟨sb, 0, none⟩ (.slice (some ⟨bb, AD, none⟩) (l.length - n) (cap - n))).heap.size := Nat.lt_of_lt_of_le H1.out hc.size
  have hcl : ∀ i, i < l.length → (w.setCell ⟨sb, 0, none⟩ (.slice (some ⟨bb, AD, none⟩) (l.length - n) (cap - n))).cell? ⟨bb, off + i, none⟩ = some (.int .u8 (l.getD i 0).toNat) := fun i hi => by
   rw [hc.cell (p := ⟨bb, off + i, none⟩) H1.out hne]
   exact H3.out i hi
  refine ⟨_, .slice (some ⟨bb, AD, none⟩) (l.length - n) (cap - n), rfl, Or.inr ⟨bb, off, cap, ?_, hsz, ?_, fun i hi => ?_⟩, ⟨⟨one_setCell H.out.blk, Or.inr ⟨bb, AD, cap - n, by rw [List.length_drop], hsz, by rw [List.length_drop]; omega, fun i hi => ?_⟩, ?_⟩, hc, fun j hj => hj⟩, fun j hj => hj⟩
  ·have e9 : (l.take n).length = n := by rw [List.length_take, Nat.min_eq_left hn]
   rw [e9]
   try rfl
  ·rw [List.length_take]; omega
  ·rw [List.length_take] at hi
   rw [hcl i (by omega)]
   simp [List.getD, List.getElem?_take, show i < n by omega]
  ·rw [List.length_drop] at hi
   have ha := HAO.out (by omega)
   have e9 : (⟨bb, AD + i, none⟩ : Addr) = ⟨bb, off + (n + i), none⟩ := by rw [ha, Nat.add_assoc]
   rw [e9, hcl (n + i) (by omega)]
   simp [List.getD, List.getElem?_drop]
  ·simp only [Value.ownBlock, ne_eq, Option.some.injEq]
   exact hne
set_option maxRecDepth 100000 in
set_option maxHeartbeats 800000 in
theorem takeBytes_bad (sb : Nat) (rv : Value) (l : List UInt8) (n : Nat) (w : World) (h : SrS w sb rv l) (hn : l.length < n) (hn2 : n ≤ 1099511627776) :
  Calls Tryz.prog 195 #[.pointer (some ⟨sb, 0, none⟩), .int .i64 n] w fun e w' => e = .panicked [{ v := .iface 41 (.int .i64 13), recovered := false }] ∧ w' = w := by
 have c0 := cell_of_one h.blk
 obtain ⟨sv, cv, hv, _⟩ := bytesIn_len h.bytes
 subst hv
 clear h
 go_enter Tryz.func195, Tryz.ntmps195
 go_wp2
 exact ⟨rfl, rfl, rfl⟩
set_option maxRecDepth 100000 in
set_option maxHeartbeats 800000 in
theorem stake_ok (sb : Nat) (rv : Value) (c : UInt8) (l : List UInt8) (w : World) (h : SrS w sb rv (c :: l)) (hl : (c :: l).length ≤ 1099511627776) :
  Calls Tryz.prog 182 #[.pointer (some ⟨sb, 0, none⟩)] w fun e w' => ∃ rv', e = .returned (.int .u8 c.toNat) ∧ SrTo w w' sb rv rv' l := by
 have HTB := hide (takeBytes_ok sb rv (c :: l) 1 w h (by simp) hl)
 clear h
 go_enter Tryz.func182, Tryz.ntmps182
 go_wp2_with fail
 refine HTB.out.mono ?_
 rintro e w1 ⟨v, rv', rfl, hb, hs, ho⟩
 rcases hb with ⟨_, h0⟩ | ⟨bb, off, cap, hv, h1, h2, h3⟩
 ·simp at h0
 ·subst hv
  have d0 := h3 0 (by simp)
  simp only [Nat.add_zero, List.take_succ_cons, List.take_zero, List.getD_cons_zero, List.length_cons, List.length_nil, Nat.zero_add] at d0 h2 ⊢
  have HS := hide hs
  clear hs h3 ho
  go_wp2
  go_ret
  exact ⟨rv', rfl, HS.out⟩
set_option maxRecDepth 100000 in
set_option maxHeartbeats 800000 in
theorem stake_bad (sb : Nat) (rv : Value) (w : World) (h : SrS w sb rv []) :
  Calls Tryz.prog 182 #[.pointer (some ⟨sb, 0, none⟩)] w fun e w' => e = .panicked [{ v := .iface 41 (.int .i64 13), recovered := false }] ∧ w' = w := by
 have HTB := hide (takeBytes_bad sb rv [] 1 w h (by simp) (by omega))
 clear h
 go_enter Tryz.func182, Tryz.ntmps182
 go_wp2_with fail
 refine HTB.out.mono ?_
 rintro e w1 ⟨rfl, rfl⟩
 exact ⟨rfl, rfl, rfl⟩
set_option maxRecDepth 100000 in
set_option maxHeartbeats 800000 in
theorem atEnd_any (sb : Nat) (rv : Value) (l : List UInt8) (w : World) (h : SrS w sb rv l) :
  Calls Tryz.prog 159 #[.pointer (some ⟨sb, 0, none⟩)] w fun e w' => e = .returned (.bool l.isEmpty) ∧ w' = w := by
 have c0 := cell_of_one h.blk
 obtain ⟨sv, cv, hv, _⟩ := bytesIn_len h.bytes
 subst hv
 have hie : l.isEmpty = decide (l.length = 0) := by cases l <;> simp
 have HIE := hide hie
 clear h hie
 go_enter Tryz.func159, Tryz.ntmps159
 go_wp2
 go_ret
 refine ⟨ret_bool ?_, rfl⟩
 rw [HIE.out]
 cases l with
 | nil => rfl
 | cons a r => simp; try omega
end
section
theorem ba_loop (bs : ByteArray) : ∀ n i (r : List UInt8), bs.size - i = n → ByteArray.toList.loop bs i r = r.reverse ++ bs.data.toList.drop i := by
 intro n
 induction n with
 | zero =>
  intro i r h
  unfold ByteArray.toList.loop
  rw [if_neg (by omega)]
  have : bs.data.toList.length ≤ i := by show bs.size ≤ i; omega
  rw [List.drop_of_length_le this]; simp
 | succ n ih =>
  intro i r h
  unfold ByteArray.toList.loop
  rw [if_pos (by omega), ih (i+1) _ (by omega)]
  have hi : i < bs.data.toList.length := by show i < bs.size; omega
  rw [List.drop_eq_getElem_cons hi]
  have hg : bs.get! i = bs.data.toList[i] := by
   show bs.data[i]! = _
   rw [getElem!_pos bs.data i (by show i < bs.size; omega)]
   rfl
  simp [hg]
theorem ba_toList (bs : ByteArray) : bs.toList = bs.data.toList := by
 unfold ByteArray.toList
 rw [ba_loop bs _ 0 [] rfl]; simp
end
section
def rdTxt : List UInt8 → Option (List UInt8 × List UInt8)
 | [] => none
 | c :: r => match rdCnt 7 c r with
  | none => none
  | some (n, q) => if q.length < n then none else if 128 ≤ c.toNat then (match unpB (bitsB (q.take n)) with
    | none => none
    | some t => some (t, q.drop n)) else some (q.take n, q.drop n)
def rdTxs (tab : List HP) (n : Nat) (r : List UInt8) : Option (HP × List UInt8) :=
 match (if 0 < n then (match (numd tab)[n - 1]? with
   | none => none
   | some x => some (x.n.data.toList, r)) else rdTxt r) with
 | none => none
 | some (nm, q) => match rdTxt q with
  | none => none
  | some (vl, s) => some (⟨⟨nm.toArray⟩, ⟨vl.toArray⟩⟩, s)
def rdPair (tab : List HP) (lim : Nat) : List UInt8 → Option (HP × List HP × List UInt8)
 | [] => none
 | c :: r =>
  if 128 ≤ c.toNat then (match rdCnt 7 c r with
   | none => none
   | some (n, q) => if n = 0 then none else match (numd tab)[n - 1]? with
    | none => none
    | some x => some (x, tab, q))
  else if 64 ≤ c.toNat then (match rdCnt 6 c r with
   | none => none
   | some (n, q) => match rdTxs tab n q with
    | none => none
    | some (h, s) => some (h, addT tab lim h, s))
  else if c.toNat < 16 then (match rdCnt 4 c r with
   | none => none
   | some (n, q) => match rdTxs tab n q with
    | none => none
    | some (h, s) => some (h, tab, s))
  else none
def rdPairs : Nat → List HP → List HP → Nat → List UInt8 → Option (List HP × List HP)
 | 0, _, _, _, _ => none
 | _ + 1, acc, tab, _, [] => some (acc, tab)
 | f + 1, acc, tab, lim, c :: r => match rdPair tab lim (c :: r) with
  | none => none
  | some (h, tab', q) => if listB (acc ++ [h]) then rdPairs f (acc ++ [h]) tab' lim q else none
def rdLims (most : Nat) : Nat → Nat → List HP → List UInt8 → Option (Nat × List HP × List UInt8)
 | 0, lim, tab, r => some (lim, tab, r)
 | _ + 1, lim, tab, [] => some (lim, tab, [])
 | f + 1, lim, tab, c :: q => if c.toNat / 32 = 1 then (match rdCnt 5 c q with
   | none => none
   | some (n, s) => if most < n then none else rdLims most f n (shr tab n) s) else some (lim, tab, c :: q)
structure Up where
 lim : Nat
 tab : List HP
 most : Nat
def Up.unpack (u : Up) (b : List UInt8) : Option (List HP × Nat × List HP) := match rdLims u.most 2 u.lim u.tab b with
 | none => none
 | some (lim, tab, r) => match rdPairs 9 [] tab lim r with
  | none => none
  | some (hs, tab') => some (hs, lim, tab')
theorem ba_back (b : ByteArray) : (⟨b.data.toList.toArray⟩ : ByteArray) = b := by cases b; simp
end
section
open Go.RowKit
def Gone (e : Ending) : Prop := e = .panicked [{ v := .iface 41 (.int .i64 13), recovered := false }]
set_option maxRecDepth 100000 in
set_option maxHeartbeats 800000 in
theorem fbegins_any (f k : Nat) (c : UInt8) (w : World) (hk : k = 4 ∨ k = 5 ∨ k = 6 ∨ k = 7) :
  Calls Tryz.prog 180 #[fm f k, .int .u8 c.toNat] w fun e w' => e = .returned (.bool (decide (c.toNat / 2 ^ k = f / 2 ^ k))) ∧ Below w.heap.size w w' := by
 have hc : c.toNat ≤ 255 := Nat.le_of_lt_succ c.toNat_lt
 generalize c.toNat = x at *
 rcases hk with rfl | rfl | rfl | rfl
 all_goals go_enter Tryz.func180, Tryz.ntmps180
 all_goals go_wp2
 all_goals go_quiet (fail)
 all_goals go_wp2
 all_goals go_ret
 all_goals refine ⟨ret_bool ?_, ⟨rfl, rfl, rfl, by simp, fun k hk => Below.heap_alloc _ _ _ hk⟩⟩
 all_goals first
  | (simp; done)
  | (rw [Bool.eq_iff_iff]; simp; omega)
  | (simp; omega)
def hasF (f k : Nat) : List UInt8 → Bool
 | [] => false
 | c :: _ => decide (c.toNat / 2 ^ k = f / 2 ^ k)
set_option maxRecDepth 100000 in
set_option maxHeartbeats 800000 in
theorem shas_any (sb : Nat) (rv : Value) (l : List UInt8) (f k : Nat) (w : World) (h : SrS w sb rv l) (hk : k = 4 ∨ k = 5 ∨ k = 6 ∨ k = 7) :
  Calls Tryz.prog 157 #[.pointer (some ⟨sb, 0, none⟩), fm f k] w fun e w' => e = .returned (.bool (hasF f k l)) ∧ Below w.heap.size w w' := by
 have hbl : Below w.heap.size w (w.alloc (.cells #[.int .u8 (f : Int), .int .i64 (k : Int)] 234)) := (Below.refl _ _).alloc (Nat.le_refl _) _
 have hs1 := h.below hbl
 have hs2 : SrS (w.alloc (.cells #[.int .u8 (f : Int), .int .i64 (k : Int)] 234)).drew sb rv l := ⟨hs1.blk, hs1.bytes.chg ((Chg.refl (fun _ => False) _).drew) (fun _ _ => id), hs1.ne⟩
 have hae := atEnd_any sb rv l _ hs2
 have c0 := cell_of_one hs1.blk
 have hlt := lt_of_block h.blk
 have HAE := hide hae
 have HBL := hide hbl
 have haq : ∀ n, Calls Tryz.prog 159 #[.pointer (some ⟨sb, 0, none⟩)] ((w.alloc (.cells #[.int .u8 (f : Int), .int .i64 (k : Int)] 234)).drewN n) fun e w' => e = .returned (.bool l.isEmpty) ∧ w' = (w.alloc (.cells #[.int .u8 (f : Int), .int .i64 (k : Int)] 234)).drewN n := fun n => atEnd_any sb rv l _ ⟨hs1.blk, hs1.bytes.chg ((Chg.refl (fun _ => False) _).drewN n) (fun _ _ => id), hs1.ne⟩
 have HAQ := hide haq
 cases l with
 | nil =>
  simp only [List.isEmpty_nil] at HAE HAQ
  clear hs1 hs2 hae h hbl haq
  go_enter Tryz.func157, Tryz.ntmps157
  go_wp2
  go_quiet ((go_at_call 159; refine Calls.quiet_of_same (HAQ.out _)))
  all_goals go_wp2
  all_goals go_ret
  all_goals exact ⟨rfl, HBL.out.os, HBL.out.tape, HBL.out.output, HBL.out.size, HBL.out.block⟩
 | cons c r =>
  simp only [List.isEmpty_cons] at HAE
  rcases hs1.bytes with ⟨_, h0⟩ | ⟨bb, off, cap, hv, h1, h2, h3⟩
  ·simp at h0
  ·subst hv
   have d0 := h3 0 (by simp)
   simp only [Nat.add_zero, List.getD_cons_zero] at d0
   have HFB := hide (fun wx => fbegins_any f k c wx hk)
   clear hs1 hs2 hae h h3 hbl haq
   go_enter Tryz.func157, Tryz.ntmps157
   go_wp2
   go_region_with (first
    | (go_at_call 159; refine HAE.out.mono ?_; rintro e w1 ⟨rfl, rfl⟩)
    | (go_at_call 180; refine (HFB.out _).mono ?_; rintro e w1 ⟨rfl, hb1⟩; have HB1 := hide hb1; clear hb1))
   all_goals go_wp2
   all_goals go_ret
   all_goals refine ⟨ret_bool ?_, ?_⟩
   all_goals first
    | rfl
    | (have h9 := HB1.out; have h8 : Below w.heap.size w w1 := HBL.out.trans ((Below.mk h9.os h9.tape h9.output h9.size h9.block : Below (w.alloc (.cells #[.int .u8 (f : Int), .int .i64 (k : Int)] 234)).heap.size (w.alloc (.cells #[.int .u8 (f : Int), .int .i64 (k : Int)] 234)) w1).mono HBL.out.size); exact h8)
end
section
open Go.RowKit
theorem ofInt_i64 (a : Nat) (ha : a < 4611686018427387904) : (BitVec.ofInt 64 (a : Int)).toNat = a := by
 rw [BitVec.ofInt_natCast, BitVec.toNat_ofNat]; exact Nat.mod_eq_of_lt (by omega)
theorem i64_and_nat (a b : Nat) (ha : a < 4611686018427387904) (hb : b < 4611686018427387904) : bits .and .i64 (a : Int) (b : Int) = ((a &&& b : Nat) : Int) := by
 have hx : a &&& b < 2 ^ 62 := Nat.and_lt_two_pow _ (by omega)
 show IntKind.i64.wrap ((BitVec.ofInt 64 (a : Int) &&& BitVec.ofInt 64 (b : Int)).toNat : Int) = _
 rw [BitVec.toNat_and, ofInt_i64 a ha, ofInt_i64 b hb, IntKind.wrap_i64]
 omega
theorem i64_or_nat (a b : Nat) (ha : a < 4611686018427387904) (hb : b < 4611686018427387904) : bits .or .i64 (a : Int) (b : Int) = ((a ||| b : Nat) : Int) := by
 have hx : a ||| b < 2 ^ 62 := Nat.or_lt_two_pow (by omega) (by omega)
 show IntKind.i64.wrap ((BitVec.ofInt 64 (a : Int) ||| BitVec.ofInt 64 (b : Int)).toNat : Int) = _
 rw [BitVec.toNat_or, ofInt_i64 a ha, ofInt_i64 b hb, IntKind.wrap_i64]
 omega
theorem and_mask (c : UInt8) (k : Nat) (hk : k ≤ 8) : bits .and .i64 (c.toNat : Int) ((2 ^ k - 1 : Nat) : Int) = ((c.toNat % 2 ^ k : Nat) : Int) := by
 have h1 := c.toNat_lt
 have h2 : 2 ^ k ≤ 256 := Nat.le_trans (Nat.pow_le_pow_right (by omega) hk) (by decide)
 rw [i64_and_nat _ _ (by omega) (by omega), Nat.and_two_pow_sub_one_eq_mod]
theorem and127 (c : UInt8) : bits .and .u8 (c.toNat : Int) 127 = ((c.toNat % 128 : Nat) : Int) := by
 have h1 := c.toNat_lt
 have := u8_and_nat c.toNat 127 h1 (by decide)
 rw [show ((127 : Nat) : Int) = 127 from rfl] at this
 rw [this]
 have h2 := Nat.and_two_pow_sub_one_eq_mod c.toNat 7
 rw [show 2 ^ 7 - 1 = 127 from rfl, show 2 ^ 7 = 128 from rfl] at h2
 rw [h2]
def Counted (w w' : World) (sb : Nat) (rv : Value) (q : Option (Nat × List UInt8)) (e : Ending) : Prop :=
 (∃ N r rv', q = some (N, r) ∧ N ≤ 8388608 ∧ e = .returned (.int .i64 (N : Int)) ∧ SrTo w w' sb rv rv' r) ∨ (q = none ∧ Gone e ∧ Chg (fun j => j = sb) w w')
set_option maxRecDepth 100000 in
set_option maxHeartbeats 800000 in
theorem takeCount_any (sb : Nat) (rv : Value) (l : List UInt8) (c : UInt8) (f k : Nat) (w : World) (h : SrS w sb rv l) (hk : k = 4 ∨ k = 5 ∨ k = 6 ∨ k = 7) (hl : l.length ≤ 1099511627776) :
  Calls Tryz.prog 181 #[.pointer (some ⟨sb, 0, none⟩), .int .u8 c.toNat, fm f k] w fun e w' => Counted w w' sb rv (rdCnt k c l) e := by
 have hk8 : k ≤ 8 := by omega
 have hP : 2 ^ k - 1 ≤ 127 ∧ 1 ≤ 2 ^ k - 1 := by rcases hk with rfl | rfl | rfl | rfl <;> decide
 have hand := and_mask c k hk8
 have hrd : rdCnt k c l = if c.toNat % 2 ^ k < 2 ^ k - 1 then some (c.toNat % 2 ^ k, l) else rdMore 3 0 (c.toNat % 2 ^ k) l := rfl
 have hmd : c.toNat % 2 ^ k ≤ 2 ^ k - 1 := by have := Nat.mod_lt c.toNat (Nat.two_pow_pos k); omega
 have HM := hide (fun wx => most_any f k wx hk)
 have hc := Nat.le_of_lt_succ c.toNat_lt
 generalize c.toNat % 2 ^ k = M at hand hrd hmd
 generalize 2 ^ k - 1 = P at HM hP hand hrd hmd
 generalize c.toNat = x at hand hc
 have hbl : Below w.heap.size w (w.alloc (.cells #[.int .u8 (f : Int), .int .i64 (k : Int)] 234)) := (Below.refl _ _).alloc (Nat.le_refl _) _
 have hfr := heap_alloc_new w (.cells #[.int .u8 (f : Int), .int .i64 (k : Int)] 234)
 have H := hide h
 have HBL := hide hbl
 have HFR := hide hfr
 have HRD := hide hrd
 clear h hbl hfr hrd hk
 go_enter Tryz.func181, Tryz.ntmps181
 go_wp2_with fail
 refine (HM.out _).mono ?_
 rintro e w1 ⟨rfl, hb1⟩
 have hB1 : Below w.heap.size w w1 := HBL.out.trans (hb1.mono HBL.out.size)
 have hf1 : w1.heap[w.heap.size]? = some (.cells #[.int .u8 (f : Int), .int .i64 (k : Int)] 234 (0, 0)) := by rw [hb1.block _ (lt_of_block HFR.out)]; exact HFR.out
 have q0 : w1.cell? ⟨w.heap.size, 0, none⟩ = some (.int .u8 (f : Int)) := by rw [cell_of_row _ _ _ _ _ _ hf1]; rfl
 have q1 : w1.cell? ⟨w.heap.size, 1, none⟩ = some (.int .i64 (k : Int)) := by rw [cell_of_row _ _ _ _ _ _ hf1]; rfl
 have HB1 := hide hB1
 clear hb1 hB1 hf1
 go_wp2_with fail
 refine (HM.out _).mono ?_
 rintro e w2 ⟨rfl, hb2⟩
 have hB2 : Below w.heap.size w w2 := HB1.out.trans (hb2.mono HB1.out.size)
 have HB2 := hide hB2
 clear hb2 hB2 q0 q1
 by_cases hlt : M < P
 ·have hr := HRD.out
  rw [if_pos hlt] at hr
  have HR := hide hr
  clear hr
  go_wp2
  go_ret
  rw [HR.out]
  exact Or.inl ⟨M, l, rv, rfl, by omega, rfl, SrTo.before HB2.out ⟨H.out.below HB2.out, Chg.refl _ _, fun j hj => hj⟩⟩
 ·have hr := HRD.out
  rw [if_neg hlt] at hr
  have HR := hide hr
  clear hr
  have hst : SrTo w w2 sb rv rv l := SrTo.before HB2.out ⟨H.out.below HB2.out, Chg.refl _ _, fun j hj => hj⟩
  have HST := hide hst
  clear hst
  go_wp2
  go_loopw [7, 20] (fun nv i wr => ∃ (j n : Nat) (l' : List UInt8) (rv' : Value), i = .int .i64 (j : Int) ∧ nv = .int .i64 (n : Int) ∧ j ≤ 3 ∧ n ≤ 254 * 128 ^ j ∧ l'.length ≤ l.length ∧ rdCnt k c l = rdMore (3 - j) j n l' ∧ SrTo w wr sb rv rv' l') (fun _ i _ => 3 - (intOf i).toNat)
  case atStart => exact ⟨0, M, l, rv, rfl, rfl, by omega, by omega, Nat.le_refl _, HR.out, HST.out⟩
  case round =>
   obtain ⟨j, n, l', rv', rfl, rfl, hj, hn, hll, heq, hsr⟩ := hrel
   by_cases hj3 : j = 3
   ·subst hj3
    have HEQ := hide heq
    have HSR := hide hsr
    clear heq hsr
    go_wp2
    refine ⟨rfl, Or.inr ⟨by rw [HEQ.out]; rfl, rfl, HSR.out.chg⟩⟩
   ·cases l' with
    | nil =>
     have hbad := stake_bad sb rv' wr hsr.st
     have HEQ : Hid (rdCnt k c l = none) := by
      show _ = _
      rw [heq]
      obtain ⟨g, hg⟩ : ∃ g, 3 - j = g + 1 := ⟨2 - j, by omega⟩
      rw [hg]
      rfl
     have HBAD := hide hbad
     have HSR := hide hsr
     clear heq hsr hbad
     go_wp2_with fail
     refine HBAD.out.mono ?_
     rintro e w3 ⟨rfl, hw3⟩
     rw [hw3]
     exact ⟨rfl, Or.inr ⟨HEQ.out, rfl, HSR.out.chg⟩⟩
    | cons y r =>
     have hok := stake_ok sb rv' y r wr hsr.st (by omega)
     have heq2 : rdCnt k c l = if y.toNat = 0 ∧ 0 < j then none else if y.toNat < 128 then some (n + y.toNat % 128 * 2 ^ (7 * j), r) else rdMore (2 - j) (j + 1) (n + y.toNat % 128 * 2 ^ (7 * j)) r := by
      rw [heq]
      obtain ⟨g, hg⟩ : ∃ g, 3 - j = g + 1 := ⟨2 - j, by omega⟩
      have hg2 : 2 - j = g := by omega
      rw [hg, hg2]
      rfl
     have ha := and127 y
     have hy := Nat.le_of_lt_succ y.toNat_lt
     have hmod : y.toNat % 128 ≤ 127 := by omega
     have hlr : r.length ≤ l.length := by simp at hll; omega
     have hz0 : (y.toNat = 0) = (y.toNat = 0) := rfl
     generalize y.toNat = Y at hok heq2 ha hy hmod
     have HOK := hide hok
     have HEQ := hide heq2
     have HSR := hide hsr
     clear heq hsr hok heq2 hz0
     have hj012 : j = 0 ∨ j = 1 ∨ j = 2 := by omega
     generalize hYM : Y % 128 = YM at ha hmod HEQ
     have HYM := hide hYM
     clear hYM
     rcases hj012 with rfl | rfl | rfl
     ·go_wp2_with fail
      refine HOK.out.mono ?_
      rintro e w3 ⟨rv3, rfl, hs3⟩
      have HS3 := hide (HSR.out.trans hs3)
      clear hs3
      have heq := HEQ.out
      clear HEQ
      rcases Nat.eq_zero_or_pos Y with hy0 | hy0
      ·rw [if_neg (by omega), if_pos (by omega)] at heq
       have HE := hide heq
       clear heq
       subst hy0
       have hym0 : YM = 0 := by have := HYM.out; omega
       subst hym0
       have ha0 : bits .and .u8 0 127 = 0 := by decide
       clear ha
       go_wp2
       go_ret
       rw [HE.out]
       exact Or.inl ⟨_, _, rv3, rfl, by omega, by (first | rfl | (congr 2; simp; done) | (congr 2; simp; omega) | (congr 2; omega) | go_num), HS3.out⟩
      ·by_cases hy1 : Y < 128
       ·rw [if_neg (by omega), if_pos hy1] at heq
        have HE := hide heq
        clear heq
        go_wp2
        go_ret
        rw [HE.out]
        exact Or.inl ⟨_, _, rv3, rfl, by omega, by (first | rfl | (congr 2; simp; done) | (congr 2; simp; omega) | (congr 2; omega) | go_num), HS3.out⟩
       ·rw [if_neg (by omega), if_neg hy1] at heq
        have HE := hide heq
        clear heq
        go_wp2
        go_roundw
        case rel => exact ⟨1, _, r, rv3, by go_num, by (first | rfl | (congr 1; simp; done) | (congr 1; simp; omega) | (congr 1; omega) | go_num), by omega, by omega, hlr, HE.out, HS3.out⟩
        case measure => simp [intOf]
     ·go_wp2_with fail
      refine HOK.out.mono ?_
      rintro e w3 ⟨rv3, rfl, hs3⟩
      have HS3 := hide (HSR.out.trans hs3)
      clear hs3
      have heq := HEQ.out
      clear HEQ
      rcases Nat.eq_zero_or_pos Y with hy0 | hy0
      ·rw [if_pos (by omega)] at heq
       have HE := hide heq
       clear heq
       subst hy0
       go_wp2
       exact ⟨rfl, Or.inr ⟨HE.out, rfl, HS3.out.chg⟩⟩
      ·by_cases hy1 : Y < 128
       ·rw [if_neg (by omega), if_pos hy1] at heq
        have HE := hide heq
        clear heq
        go_wp2
        go_ret
        rw [HE.out]
        exact Or.inl ⟨_, _, rv3, rfl, by omega, by (first | rfl | (congr 2; simp; done) | (congr 2; simp; omega) | (congr 2; omega) | go_num), HS3.out⟩
       ·rw [if_neg (by omega), if_neg hy1] at heq
        have HE := hide heq
        clear heq
        go_wp2
        go_roundw
        case rel => exact ⟨2, _, r, rv3, by go_num, by (first | rfl | (congr 1; simp; done) | (congr 1; simp; omega) | (congr 1; omega) | go_num), by omega, by omega, hlr, HE.out, HS3.out⟩
        case measure => simp [intOf]
     ·go_wp2_with fail
      refine HOK.out.mono ?_
      rintro e w3 ⟨rv3, rfl, hs3⟩
      have HS3 := hide (HSR.out.trans hs3)
      clear hs3
      have heq := HEQ.out
      clear HEQ
      rcases Nat.eq_zero_or_pos Y with hy0 | hy0
      ·rw [if_pos (by omega)] at heq
       have HE := hide heq
       clear heq
       subst hy0
       go_wp2
       exact ⟨rfl, Or.inr ⟨HE.out, rfl, HS3.out.chg⟩⟩
      ·by_cases hy1 : Y < 128
       ·rw [if_neg (by omega), if_pos hy1] at heq
        have HE := hide heq
        clear heq
        go_wp2
        go_ret
        rw [HE.out]
        exact Or.inl ⟨_, _, rv3, rfl, by omega, by (first | rfl | (congr 2; simp; done) | (congr 2; simp; omega) | (congr 2; omega) | go_num), HS3.out⟩
       ·rw [if_neg (by omega), if_neg hy1] at heq
        have HE := hide heq
        clear heq
        go_wp2
        go_roundw
        case rel => exact ⟨3, _, r, rv3, by go_num, by (first | rfl | (congr 1; simp; done) | (congr 1; simp; omega) | (congr 1; omega) | go_num), by omega, by omega, hlr, HE.out, HS3.out⟩
        case measure => simp [intOf]
end
section
open Go.RowKit
structure BrS (w : World) (rb : Nat) (av : Value) (b : List UInt8) (at_ : Nat) : Prop where
 blk : w.heap[rb]? = some (.cells #[av, .int .i64 (at_ : Int)] 278 (0, 0))
 bytes : BytesIn w av b
 ne : av.ownBlock ≠ some rb
 le : at_ ≤ 8 * b.length
theorem BrS.cells {w : World} {rb : Nat} {av : Value} {b : List UInt8} {at_ : Nat} (h : BrS w rb av b at_) : w.cell? ⟨rb, 0, none⟩ = some av ∧ w.cell? ⟨rb, 1, none⟩ = some (.int .i64 (at_ : Int)) := by
 refine ⟨?_, ?_⟩ <;> rw [cell_of_row w rb _ _ _ _ h.blk] <;> rfl
theorem BrS.free {w : World} {rb : Nat} {av : Value} {b : List UInt8} {at_ : Nat} (h : BrS w rb av b at_) (o : Nat) : w.frozen? ⟨rb, o, none⟩ = false := by
 have := h.blk
 simp [World.frozen?, this]
theorem BrS.chg {S : Nat → Prop} {w w' : World} {rb : Nat} {av : Value} {b : List UInt8} {at_ : Nat} (h : BrS w rb av b at_) (hc : Chg S w w') (h1 : ¬ S rb) (h2 : ∀ j, av.ownBlock = some j → ¬ S j) : BrS w' rb av b at_ :=
 ⟨by rw [hc.block rb (lt_of_block h.blk) h1]; exact h.blk, h.bytes.chg hc h2, h.ne, h.le⟩
theorem BrS.drewN {w : World} {rb : Nat} {av : Value} {b : List UInt8} {at_ : Nat} (h : BrS w rb av b at_) (n : Nat) : BrS (w.drewN n) rb av b at_ := h.chg ((Chg.refl (fun _ => False) _).drewN n) id (fun _ _ => id)
theorem BrS.set1 {w : World} {rb : Nat} {av : Value} {b : List UInt8} {at_ : Nat} (h : BrS w rb av b at_) (x : Nat) (hx : x ≤ 8 * b.length) : BrS (w.setCell ⟨rb, 1, none⟩ (.int .i64 (x : Int))) rb av b x :=
 ⟨block_setCell h.blk, h.bytes.chg ((Chg.refl (fun j => j = rb) w).setCell (p := ⟨rb, 1, none⟩) (Or.inr rfl) _) (fun j hj e => h.ne (e ▸ hj)), h.ne, hx⟩
theorem bit_at (c p : Nat) (hp : p < 8) : (natBits 8 c)[p]? = some (c / 2 ^ (7 - p) % 2 == 1) := by
 have h : natBits 8 c = [c / 2 ^ 7 % 2 == 1, c / 2 ^ 6 % 2 == 1, c / 2 ^ 5 % 2 == 1, c / 2 ^ 4 % 2 == 1, c / 2 ^ 3 % 2 == 1, c / 2 ^ 2 % 2 == 1, c / 2 ^ 1 % 2 == 1, c / 2 ^ 0 % 2 == 1] := by
  rw [natBits_high, natBits_high, natBits_high, natBits_high, natBits_high, natBits_high, natBits_high, natBits_high]
  rfl
 rw [h]
 have : p = 0 ∨ p = 1 ∨ p = 2 ∨ p = 3 ∨ p = 4 ∨ p = 5 ∨ p = 6 ∨ p = 7 := by omega
 rcases this with rfl | rfl | rfl | rfl | rfl | rfl | rfl | rfl <;> rfl
theorem bitsB_get {b : List UInt8} {p : Nat} (hp : p < 8 * b.length) : (bitsB b)[p]? = some ((b.getD (p / 8) 0).toNat / 2 ^ (7 - p % 8) % 2 == 1) := by
 induction b generalizing p with
 | nil => simp at hp
 | cons c r ih =>
  have e : bitsB (c :: r) = natBits 8 c.toNat ++ bitsB r := by simp [bitsB]
  rw [e]
  by_cases h8 : p < 8
  ·rw [List.getElem?_append_left (by rw [natBits_length]; exact h8), bit_at _ _ h8]
   have h1 : p / 8 = 0 := by omega
   have h2 : p % 8 = p := by omega
   rw [h1, h2]
   rfl
  ·rw [List.getElem?_append_right (by rw [natBits_length]; omega), natBits_length, ih (by simp at hp; omega)]
   have h1 : (p - 8) / 8 = p / 8 - 1 := by omega
   have h2 : (p - 8) % 8 = p % 8 := by omega
   obtain ⟨q, hq⟩ : ∃ q, p / 8 = q + 1 := ⟨p / 8 - 1, by omega⟩
   rw [h1, h2, hq]
   rfl
theorem take_bit {b : List UInt8} {at_ j : Nat} (hp : at_ + j < 8 * b.length) : valB (((bitsB b).drop at_).take (j + 1)) = 2 * valB (((bitsB b).drop at_).take j) + (b.getD ((at_ + j) / 8) 0).toNat / 2 ^ (7 - (at_ + j) % 8) % 2 := by
 have hl : j < ((bitsB b).drop at_).length := by rw [List.length_drop, bitsB_length]; omega
 rw [List.take_succ_eq_append_getElem hl, valB_next]
 have h1 := bitsB_get hp
 rw [List.getElem?_eq_getElem (by rw [bitsB_length]; exact hp)] at h1
 simp only [Option.some.injEq] at h1
 rw [List.getElem_drop, h1]
 congr 1
 generalize (b.getD ((at_ + j) / 8) 0).toNat / 2 ^ (7 - (at_ + j) % 8) = y
 rcases Nat.mod_two_eq_zero_or_one y with h | h <;> simp [h]
set_option maxRecDepth 100000 in
set_option maxHeartbeats 800000 in
theorem bleft_any (rb : Nat) (av : Value) (b : List UInt8) (at_ : Nat) (w : World) (h : BrS w rb av b at_) (hl : b.length ≤ 1099511627776) :
  Calls Tryz.prog 212 #[.pointer (some ⟨rb, 0, none⟩)] w fun e w' => e = .returned (.int .i64 ((8 * b.length - at_ : Nat) : Int)) ∧ ∃ k, w' = w.drewN k := by
 obtain ⟨c0, c1⟩ := h.cells
 obtain ⟨sv, cv, hv, _⟩ := bytesIn_len h.bytes
 subst hv
 have hle := h.le
 clear h
 go_enter Tryz.func212, Tryz.ntmps212
 go_wp2
 go_quiet (fail)
 go_wp2
 go_ret
 exact ⟨by go_num, _, rfl⟩
theorem or_bit (v t : Nat) (hv : v ≤ 1048576) (ht : t ≤ 1) : bits .or .i64 ((v : Int) * 2) (t : Int) = ((2 * v + t : Nat) : Int) := by
 have h1 := i64_or_nat (2 * v) t (by omega) (by omega)
 have h2 : 2 * v ||| t = 2 * v + t := by
  have := Nat.shiftLeft_add_eq_or_of_lt (a := v) (b := t) (i := 1) (by omega)
  rw [Nat.shiftLeft_eq] at this
  have e : v * 2 ^ 1 = 2 * v := by omega
  rw [e] at this
  exact this.symm
 rw [h2] at h1
 rw [← h1]
 congr 1
 omega
theorem and_one (y : Nat) (hy : y < 256) : bits .and .u8 (y : Int) 1 = ((y % 2 : Nat) : Int) := by
 have h1 := u8_and_nat y 1 hy (by decide)
 rw [Nat.and_one_is_mod] at h1
 exact h1
set_option maxRecDepth 100000 in
set_option maxHeartbeats 800000 in
theorem btake_ok (rb : Nat) (av : Value) (b : List UInt8) (at_ n : Nat) (w : World) (h : BrS w rb av b at_) (hl : b.length ≤ 1099511627776) (hn : at_ + n ≤ 8 * b.length) (hn8 : n ≤ 8) :
  Calls Tryz.prog 213 #[.pointer (some ⟨rb, 0, none⟩), .int .i64 n] w fun e w' => e = .returned (.int .i64 (valB (((bitsB b).drop at_).take n) : Int)) ∧ BrS w' rb av b (at_ + n) ∧ Chg (fun j => j = rb) w w' := by
 have hle := h.le
 have HL := hide (bleft_any rb av b at_ w h hl)
 have H := hide h
 clear h
 go_enter Tryz.func213, Tryz.ntmps213
 go_wp2_with fail
 refine HL.out.mono ?_
 rintro e w1 ⟨rfl, k1, hw1⟩
 have h1 : BrS w1 rb av b at_ := by rw [hw1]; exact H.out.drewN k1
 have hc1 : Chg (fun j => j = rb) w w1 := by rw [hw1]; exact (Chg.refl _ _).drewN k1
 have H1 := hide h1
 have HC1 := hide hc1
 clear hw1 h1 hc1
 go_wp2
 go_loopw [5, 13] (fun v i wr => ∃ j : Nat, i = .int .i64 (j : Int) ∧ v = .int .i64 (valB (((bitsB b).drop at_).take j) : Int) ∧ j ≤ n ∧ BrS wr rb av b (at_ + j) ∧ Chg (fun j => j = rb) w wr) (fun _ i _ => n - (intOf i).toNat)
 case atStart => exact ⟨0, rfl, rfl, Nat.zero_le _, H1.out, HC1.out⟩
 case round =>
  obtain ⟨j, rfl, rfl, hj, hb, hch⟩ := hrel
  by_cases hlt : j < n
  ·obtain ⟨c0, c1⟩ := hb.cells
   have f1 := hb.free 1
   have htb := take_bit (b := b) (at_ := at_) (j := j) (by omega)
   have hvl := valB_lt (((bitsB b).drop at_).take j)
   have hvb : valB (((bitsB b).drop at_).take j) ≤ 256 := by
    have h9 : (((bitsB b).drop at_).take j).length ≤ 8 := by rw [List.length_take]; omega
    have h8 := Nat.pow_le_pow_right (show 2 > 0 by decide) h9
    omega
   rcases hb.bytes with ⟨_, h0⟩ | ⟨bb, off, cap, hv, g1, g2, g3⟩
   ·rw [h0] at hn; simp at hn; omega
   ·subst hv
    have d0 := g3 ((at_ + j) / 8) (by omega)
    generalize valB (((bitsB b).drop at_).take j) = V at hvb htb ⊢
    have hy := (b.getD ((at_ + j) / 8) 0).toNat_lt
    generalize (b.getD ((at_ + j) / 8) 0).toNat = Y at d0 htb hy
    have hyd : Y / 2 ^ (7 - (at_ + j) % 8) < 256 := Nat.lt_of_le_of_lt (Nat.div_le_self _ _) hy
    have hab : bits .and .u8 ((Y : Int) / 2 ^ (7 - (at_ + j) % 8)) 1 = ((Y / 2 ^ (7 - (at_ + j) % 8) % 2 : Nat) : Int) := by
     rw [← and_one _ hyd, Int.natCast_ediv, Int.natCast_pow]
     rfl
    have ht1 : Y / 2 ^ (7 - (at_ + j) % 8) % 2 ≤ 1 := by omega
    generalize Y / 2 ^ (7 - (at_ + j) % 8) % 2 = T at hab ht1 htb
    have hob := or_bit V T (by omega) ht1
    have HAB := hide hab
    have HTB := hide htb
    clear hab
    have HB := hide hb
    have HCH := hide hch
    clear hb hch htb g3 hvl
    go_wp2
    go_quiet (fail)
    rw [HAB.out]
    go_wp2
    go_roundw
    case rel =>
     have e9 : ((at_ + j : Nat) : Int) + 1 = ((at_ + (j + 1) : Nat) : Int) := by omega
     refine ⟨j + 1, by go_num, by rw [HTB.out]; go_num, by omega, ?_, ?_⟩
     ·have h9 := (HB.out.drewN nq).set1 (at_ + (j + 1)) (by omega)
      simpa [← Int.add_assoc] using h9
     ·exact (HCH.out.drewN nq).setCell (p := ⟨rb, 1, none⟩) (Or.inr rfl) _
    case measure => simp [intOf]; omega
  ·have hje : j = n := by omega
   subst hje
   have HB := hide hb
   have HCH := hide hch
   clear hb hch
   go_wp2
   go_ret
   exact ⟨rfl, HB.out, HCH.out⟩
set_option maxRecDepth 100000 in
set_option maxHeartbeats 800000 in
theorem btake_bad (rb : Nat) (av : Value) (b : List UInt8) (at_ n : Nat) (w : World) (h : BrS w rb av b at_) (hl : b.length ≤ 1099511627776) (hn : 8 * b.length < at_ + n) (hn8 : n ≤ 8) :
  Calls Tryz.prog 213 #[.pointer (some ⟨rb, 0, none⟩), .int .i64 n] w fun e w' => Gone e ∧ ∃ k, w' = w.drewN k := by
 have hle := h.le
 have HL := hide (bleft_any rb av b at_ w h hl)
 clear h
 go_enter Tryz.func213, Tryz.ntmps213
 go_wp2_with fail
 refine HL.out.mono ?_
 rintro e w1 ⟨rfl, k1, hw1⟩
 have HW := hide hw1
 clear hw1
 go_wp2
 exact ⟨rfl, rfl, k1, HW.out⟩
end
end Go.Proofs.YtdccldbefdfppaaGreatDoor
