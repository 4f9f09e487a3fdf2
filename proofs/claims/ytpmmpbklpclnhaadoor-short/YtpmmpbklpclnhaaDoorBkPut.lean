import Derived.Test.YtpmmpbklpclnhaaDoorBkBits
import Derived.Deep.RegionWith
import Derived.Deep.DeepCutAuto
import Derived.Deep.RegionHeld3
import Derived.Deep.RegionLaw
set_option linter.unusedVariables false
set_option linter.unusedSimpArgs false
/-
  Package blocks: bitWriter's put.
-/
namespace Go.Proofs.YtpmmpbklpclnhaaDoor
set_option linter.unusedVariables false
set_option linter.unusedSimpArgs false
open Go.RowKit

/-- A writer's block. -/
def BwB (w : World) (wb : Nat) (gv : Value) (L N : Nat) : Prop := w.heap[wb]? = some (.cells #[gv, .int .u32 (L : Int), .int .i64 (N : Int)] 103 (0, 0))
theorem BwB.cells {w : World} {wb : Nat} {gv : Value} {L N : Nat} (h : BwB w wb gv L N) : w.cell? ⟨wb, 0, none⟩ = some gv ∧ w.cell? ⟨wb, 1, none⟩ = some (.int .u32 (L : Int)) ∧ w.cell? ⟨wb, 2, none⟩ = some (.int .i64 (N : Int)) := by
  unfold BwB at h
  refine ⟨?_, ?_, ?_⟩ <;> rw [cell_of_row w wb _ _ _ _ h] <;> rfl
theorem BwB.free {w : World} {wb : Nat} {gv : Value} {L N : Nat} (h : BwB w wb gv L N) (o : Nat) : w.frozen? ⟨wb, o, none⟩ = false := by
  unfold BwB at h
  simp [World.frozen?, h]
theorem BwB.lt {w : World} {wb : Nat} {gv : Value} {L N : Nat} (h : BwB w wb gv L N) : wb < w.heap.size := lt_of_block h

/-- append in a region that draws its order. -/
theorem step_app {P : Program} {ops : Array Oper} {o : Oper} {a : Act} {w : World} {K : Act → World → Prop} {Q : Exit → Act → World → Prop} {E : Prop} (hgd : o.guard = none) (s y : Operand) (t : TypeId)
    (ho : o.op = .call { callee := .builtin .append, args := #[s, y], argTypes := #[t, t] })
    (e : TypeId) (i : TypeInfo) (z : Value) (size bytes : Nat) (ht : P.underlying t = some (.slice e)) (hi : P.info? e = some i) (hz : i.zero = some z)
    (hsize : i.size = size) (hby : i.bytes = bytes) (hzs : z.cells.size = size) (hsz : 0 < size)
    (v : Value) (n : Nat) (xs : List Value) (hs : a.eval s = v) (hown : w.ownsRow 0 e size v n xs)
    (x : Value) (m : Nat) (news : List Value) (hx : a.eval y = x) (hl : news.length = m * size) (hnews : Lies w x m news) (h1 : ∀ u ∈ news, u.oneCell' = true)
    (h63 : n + m ≤ maxLen) (hbytes : (n + m) * bytes ≤ 140737488355328)
    (hK : ∀ v' w', w'.ownsRow 0 e size v' (n + m) (xs ++ news) → w.grownBy w' v.ownBlock → (v'.ownBlock = v.ownBlock ∨ v'.ownBlock = some w.heap.size) → K (a.put o.dst v') w') :
    if Region.wanted o (yielded ops a.tmps) = true then Oper.wp P o a w K Q else E := by
  have hw : Region.wanted o (yielded ops a.tmps) = true := by simp [Region.wanted, hgd]
  rw [if_pos hw]
  obtain ⟨v', w', hr, h2, h3, h4⟩ := run_app (P := P) w t o.type e i z size bytes ht hi hz hsize hby hzs hsz v n xs hown x m news hl hnews h1 h63 hbytes
  unfold Oper.wp
  simp [execOp, ho, resolve, invoke, builtin, hs, hx, hr, Result.andThen]
  exact hK v' w' h2 h3 h4

/-- What a call on a writer may change. -/
def TouchB (wb : Nat) (gv : Value) (j : Nat) : Prop := j = wb ∨ gv.ownBlock = some j
theorem BwB.chg {S : Nat → Prop} {w w' : World} {wb : Nat} {gv : Value} {L N : Nat} (h : BwB w wb gv L N) (hc : Chg S w w') (hs : ¬ S wb) : BwB w' wb gv L N := by
  unfold BwB at h ⊢
  rw [hc.block wb (lt_of_block h) hs]; exact h
theorem BwB.set0 {w : World} {wb : Nat} {gv : Value} {L N : Nat} (h : BwB w wb gv L N) (u : Value) : BwB (w.setCell ⟨wb, 0, none⟩ u) wb u L N := block_setCell (i := 0) (u := u) h
theorem BwB.set1 {w : World} {wb : Nat} {gv : Value} {L N : Nat} (h : BwB w wb gv L N) (l : Nat) : BwB (w.setCell ⟨wb, 1, none⟩ (.int .u32 (l : Int))) wb gv l N := block_setCell (i := 1) (u := .int .u32 (l : Int)) h
theorem BwB.set2 {w : World} {wb : Nat} {gv : Value} {L N : Nat} (h : BwB w wb gv L N) (n : Nat) : BwB (w.setCell ⟨wb, 2, none⟩ (.int .i64 (n : Int))) wb gv L n := block_setCell (i := 2) (u := .int .i64 (n : Int)) h
/-- A round of put's loop. -/
theorem put_round {w wr w2 : World} {wb k m LL : Nat} {gv gv' v' : Value} {l : List UInt8} {c : UInt8} {x : Value} (hb : BwB wr wb gv' LL m) (h8 : 8 ≤ m) (how : wr.ownsRow 0 5 1 gv' k (l.map B)) (hch : Chg (TouchB wb gv) w wr) (hfr : ∀ j, gv'.ownBlock = some j → gv.ownBlock = some j ∨ w.heap.size ≤ j)
    (hx : x = .int .i64 ((m - 8 : Nat) : Int)) {o : Obj} (hown' : w2.ownsRow 0 5 1 v' (k + 1) (l.map B ++ [B c])) (hg : ((wr.setCell ⟨wb, 2, none⟩ x).alloc o).drew.grownBy w2 gv'.ownBlock) (hf : v'.ownBlock = gv'.ownBlock ∨ v'.ownBlock = some ((wr.setCell ⟨wb, 2, none⟩ x).alloc o).drew.heap.size) :
    BwB w2 wb gv' LL (m - 8) ∧ BwB (w2.setCell ⟨wb, 0, none⟩ v') wb v' LL (m - 8) ∧ (w2.setCell ⟨wb, 0, none⟩ v').ownsRow 0 5 1 v' (k + 1) ((l ++ [c]).map B) ∧ Chg (TouchB wb gv) w (w2.setCell ⟨wb, 0, none⟩ v') ∧ (∀ j, v'.ownBlock = some j → gv.ownBlock = some j ∨ w.heap.size ≤ j) := by
  subst hx
  have hne : gv'.ownBlock ≠ some wb := owns_ne how hb (by decide)
  have hc1 : Chg (fun j => j = wb) wr (wr.setCell ⟨wb, 2, none⟩ (.int .i64 ((m - 8 : Nat) : Int))) := (Chg.refl (fun j => j = wb) _).setCell (p := ⟨wb, 2, none⟩) (Or.inr rfl) _
  have hc2 : Chg (fun j => gv'.ownBlock = some j) (wr.setCell ⟨wb, 2, none⟩ (.int .i64 ((m - 8 : Nat) : Int))) w2 := (((Chg.refl _ _).alloc o).drew).trans (Chg.of_grown hg (fun j hj => Or.inr hj))
  have hb1 := hb.set2 (m - 8)
  have hb2 := hb1.chg hc2 hne
  have hv' : ∀ j, v'.ownBlock = some j → gv'.ownBlock = some j ∨ wr.heap.size ≤ j := by
    intro j hj
    rcases hf with e | e
    · rw [e] at hj; exact Or.inl hj
    · rw [e] at hj
      have e2 : ((wr.setCell ⟨wb, 2, none⟩ (.int .i64 ((m - 8 : Nat) : Int))).alloc o).drew.heap.size = wr.heap.size + 1 := by
        show ((wr.setCell ⟨wb, 2, none⟩ (.int .i64 ((m - 8 : Nat) : Int))).alloc o).heap.size = _
        simp [World.setCell]
      rw [e2] at hj
      simp at hj
      exact Or.inr (by omega)
  have hc3 : Chg (fun j => j = wb) w2 (w2.setCell ⟨wb, 0, none⟩ v') := (Chg.refl (fun j => j = wb) _).setCell (p := ⟨wb, 0, none⟩) (Or.inr rfl) _
  have hsz := hch.size
  have hsz1 := hc1.size
  refine ⟨hb2, hb2.set0 v', ?_, ((hch.trans (hc1.mono fun j _ e => Or.inr (Or.inl e))).trans (hc2.mono fun j _ e => ?_)).trans (hc3.mono fun j _ e => Or.inr (Or.inl e)), fun j hj => ?_⟩
  · rw [List.map_append]
    refine owns_chg hown' hc3 (fun j hj e => ?_)
    subst e
    exact owns_ne hown' hb2 (by decide) hj
  · rcases hfr j e with a | a
    · exact Or.inr (Or.inr a)
    · exact Or.inl a
  · rcases hv' j hj with a | a
    · exact hfr j a
    · exact Or.inr (by omega)

/-- A writer: the bits that were laid down. -/
def BwS (w : World) (wb : Nat) (gv : Value) (bs : List Bool) : Prop :=
  ∃ L N, BwB w wb gv L N ∧ L < 4294967296 ∧ N = bs.length % 8 ∧ L % 2 ^ N = valB (bs.drop (8 * (bs.length / 8))) ∧ w.ownsRow 0 5 1 gv (bs.length / 8) ((bytesB bs).map B)
def bwN (w : World) (wb : Nat) : Nat := match w.cell? ⟨wb, 2, none⟩ with
  | some (.int _ n) => n.toNat
  | _ => 0

theorem bwN_of {w : World} {wb : Nat} {gv : Value} {L N : Nat} (h : BwB w wb gv L N) : bwN w wb = N := by
  unfold bwN
  rw [h.cells.2.2]
  simp
theorem bytesB_next {l : List Bool} {k : Nat} (h : 8 * k + 8 ≤ l.length) : (bytesB l).take (k + 1) = (bytesB l).take k ++ [UInt8.ofNat (valB ((l.drop (8 * k)).take 8))] := by
  have hk : k < (bytesB l).length := by rw [bytesB_length]; omega
  rw [List.take_succ_eq_append_getElem hk]
  simp [bytesB]
theorem bytesB_more (a b : List Bool) : (bytesB (a ++ b)).take (a.length / 8) = bytesB a := by
  apply List.ext_getElem
  · simp [bytesB_length]; omega
  · intro i h1 h2
    rw [bytesB_length] at h2
    simp only [bytesB, List.getElem_take, List.getElem_map, List.getElem_range]
    congr 2
    rw [List.drop_append_of_le_length (by omega), List.take_append_of_le_length (by rw [List.length_drop]; omega)]

set_option maxRecDepth 100000 in
set_option maxHeartbeats 3200000 in
theorem put_any (wb : Nat) (gv : Value) (L N : Nat) (bs : List Bool) (v n : Nat) (w : World) (h : BwB w wb gv L N) (hL : L < 4294967296) (hN : N = bs.length % 8) (hX : L % 2 ^ N = valB (bs.drop (8 * (bs.length / 8))))
    (hown : w.ownsRow 0 5 1 gv (bs.length / 8) ((bytesB bs).map B)) (hv : v < 2 ^ n) (hn : n ≤ 10) (hlb : bs.length ≤ 1099511627776) :
    Calls Tryd.prog 61 #[.pointer (some ⟨wb, 0, none⟩), .int .u32 v, .int .i64 n] w fun e w' => e = .returned (.tuple #[]) ∧ ∃ gv', BwS w' wb gv' (bs ++ natBits n v) ∧ Chg (TouchB wb gv) w w' ∧ (∀ j, gv'.ownBlock = some j → gv.ownBlock = some j ∨ w.heap.size ≤ j) := by
  obtain ⟨i0, hi, hz0, hz1, hz2⟩ := info_parts Tryd.info5
  obtain ⟨c0, c1, c2⟩ := h.cells
  have f1 := h.free 1
  have f2 := h.free 2
  have hN8 : N < 8 := by omega
  have hv1 : v < 1024 := Nat.lt_of_lt_of_le hv (Nat.le_trans (Nat.pow_le_pow_right (by omega) hn) (by decide))
  have hXl : (bs.drop (8 * (bs.length / 8))).length = N := by rw [List.length_drop]; omega
  obtain ⟨q1, q2⟩ := val_more (bs.drop (8 * (bs.length / 8))) L v n (by omega) (by omega) hv (by rw [hXl]; exact hX)
  have hor : bits .or .u32 ((L : Int) * 2 ^ n % 4294967296) (v : Int) = ((L * 2 ^ n % 4294967296 ||| v : Nat) : Int) := by
    have := u32_or_nat (L * 2 ^ n % 4294967296) v (Nat.mod_lt _ (by decide)) (by omega)
    have e1 : ((L * 2 ^ n : Nat) : Int) = (L : Int) * 2 ^ n := by
      rw [Int.natCast_mul, Int.natCast_pow]
      rfl
    have e : ((L * 2 ^ n % 4294967296 : Nat) : Int) = (L : Int) * 2 ^ n % 4294967296 := by rw [← e1]; omega
    rw [← e]
    exact this
  generalize L * 2 ^ n % 4294967296 ||| v = LL at q1 q2 hor
  have hT : (bs.drop (8 * (bs.length / 8)) ++ natBits n v) = (bs ++ natBits n v).drop (8 * (bs.length / 8)) := by rw [List.drop_append_of_le_length (by omega)]
  rw [hT, hXl] at q1
  have hlen : (bs ++ natBits n v).length = 8 * (bs.length / 8) + N + n := by rw [List.length_append, natBits_length]; omega
  have hmore := bytesB_more bs (natBits n v)
  obtain ⟨bt, hbt⟩ : ∃ bt, bt = bs ++ natBits n v := ⟨_, rfl⟩
  rw [← hbt] at q1 hlen hmore ⊢
  obtain ⟨q, hq⟩ : ∃ q, q = bs.length / 8 := ⟨_, rfl⟩
  rw [← hq] at q1 hlen hmore hown
  rw [← hmore] at hown
  have HQ1 := hide q1
  have HH := hide h
  have HOWN := hide hown
  have HLEN := hide hlen
  have HQ := hide hq
  have HLB : Hid (8 * q + N + n ≤ 1099511627800) := by show _ ≤ _; omega
  clear hT hXl hX hbt hN hv q1 h hown hlen hmore hq
  go_enter Tryd.func61, Tryd.ntmps61
  go_wp2
  go_loopw [] (fun wr => ∃ k gv' m, 8 * k + m = 8 * q + N + n ∧ q ≤ k ∧ BwB wr wb gv' LL m ∧ wr.ownsRow 0 5 1 gv' k (((bytesB bt).take k).map B) ∧ Chg (TouchB wb gv) w wr ∧ (∀ j, gv'.ownBlock = some j → gv.ownBlock = some j ∨ w.heap.size ≤ j)) (fun wr => bwN wr wb)
  case atStart => exact ⟨q, gv, N + n, by omega, Nat.le_refl _, by have h9 := (HH.out.set1 LL).set2 (N + n); rw [show ((N + n : Nat) : Int) = (N : Int) + (n : Int) from by omega] at h9; exact h9, owns_chg HOWN.out (((Chg.refl (fun j => j = wb) w).setCell (p := ⟨wb, 1, none⟩) (Or.inr rfl) _).setCell (p := ⟨wb, 2, none⟩) (Or.inr rfl) _) (fun j hj e => by subst e; exact owns_ne HOWN.out HH.out (by decide) hj), ((Chg.refl _ w).setCell (p := ⟨wb, 1, none⟩) (Or.inr (Or.inl rfl)) _).setCell (p := ⟨wb, 2, none⟩) (Or.inr (Or.inl rfl)) _, fun j hj => Or.inl hj⟩
  case round =>
    obtain ⟨k, gv', m, hm, hqk, hb, how, hch, hfr⟩ := hrel
    obtain ⟨z0, z1, z2⟩ := hb.cells
    have y0 := hb.free 0
    have y1 := hb.free 1
    have y2 := hb.free 2
    by_cases h8 : 8 ≤ m
    · have hm2 : m ≤ 17 := by omega
      have hkb : k ≤ 1099511627776 ∨ True := Or.inr trivial
      have hby : IntKind.u8.wrap ((LL : Int) / 2 ^ ((m : Int) - 8).toNat) = ((UInt8.ofNat (valB ((bt.drop (8 * k)).take 8))).toNat : Int) := by
        have e1 : ((m : Int) - 8).toNat = m - 8 := by omega
        have e2 : ((LL : Int) / 2 ^ (m - 8)) = ((LL / 2 ^ (m - 8) : Nat) : Int) := by rw [Int.natCast_ediv, Int.natCast_pow]; rfl
        have e3 : (bt.drop (8 * q)).length = N + n := by rw [List.length_drop, HLEN.out]; omega
        have e4 := val_mid (bt.drop (8 * q)) LL m (by omega) h8 (by rw [e3]; exact HQ1.out)
        rw [List.drop_drop, e3] at e4
        have e5 : 8 * q + (N + n - m) = 8 * k := by omega
        rw [e5] at e4
        have e6 := Nat.mod_lt (LL / 2 ^ (m - 8)) (show 256 > 0 by decide)
        rw [e1, e2, IntKind.wrap_u8', ← e4, u8_ofNat e6]
        omega
      have HBY := hide hby
      have HM8 : Hid ((m : Int) - 8 = ((m - 8 : Nat) : Int)) := by show _ = _; omega
      have HL8 : Hid (8 * k + 8 ≤ bt.length) := by show _ ≤ _; have := HLEN.out; omega
      have HO : Hid (((wr.setCell ⟨wb, 2, none⟩ (.int .i64 ((m : Int) - 8))).alloc (.cells #[.int .u8 (IntKind.u8.wrap ((LL : Int) / 2 ^ ((m : Int) - 8).toNat))] 5)).drew.ownsRow 0 5 1 gv' k (((bytesB bt).take k).map B)) :=
        (owns_chg how ((Chg.refl (fun j => j = wb) wr).setCell (p := ⟨wb, 2, none⟩) (Or.inr rfl) _) (fun j hj e => by subst e; exact owns_ne how hb (by decide) hj)).alloc _
      have HLI : Hid (Lies ((wr.setCell ⟨wb, 2, none⟩ (.int .i64 ((m : Int) - 8))).alloc (.cells #[.int .u8 (IntKind.u8.wrap ((LL : Int) / 2 ^ ((m : Int) - 8).toNat))] 5)).drew (.slice (some ⟨wr.heap.size, 0, none⟩) 1 1) 1 [.int .u8 (IntKind.u8.wrap ((LL : Int) / 2 ^ ((m : Int) - 8).toNat))]) := by
        refine lies_one ?_
        have hh := heap_alloc_new (wr.setCell ⟨wb, 2, none⟩ (.int .i64 ((m : Int) - 8))) (.cells #[.int .u8 (IntKind.u8.wrap ((LL : Int) / 2 ^ ((m : Int) - 8).toNat))] 5)
        have hs : (wr.setCell ⟨wb, 2, none⟩ (.int .i64 ((m : Int) - 8))).heap.size = wr.heap.size := by simp [World.setCell]
        rw [hs] at hh
        exact cell_of_one hh
      have HN1 : Hid (k + 1 ≤ maxLen) := by show _ ≤ _; unfold maxLen; have := HLB.out; have := HLEN.out; omega
      have HN2 : Hid ((k + 1) * 1 ≤ 140737488355328) := by show _ ≤ _; have := HLB.out; have := HLEN.out; omega
      have HONE : Hid (∀ u ∈ [Value.int .u8 (IntKind.u8.wrap ((LL : Int) / 2 ^ ((m : Int) - 8).toNat))], u.oneCell' = true) := by
        intro u hu
        simp at hu
        subst hu
        rfl
      have z0a : ((wr.setCell ⟨wb, 2, none⟩ (.int .i64 ((m : Int) - 8))).alloc (.cells #[.int .u8 (IntKind.u8.wrap ((LL : Int) / 2 ^ ((m : Int) - 8).toNat))] 5)).cell? ⟨wb, 0, none⟩ = some gv' := by
        have hc9 : Chg (fun _ => False) (wr.setCell ⟨wb, 2, none⟩ (.int .i64 ((m : Int) - 8))) ((wr.setCell ⟨wb, 2, none⟩ (.int .i64 ((m : Int) - 8))).alloc (.cells #[.int .u8 (IntKind.u8.wrap ((LL : Int) / 2 ^ ((m : Int) - 8).toNat))] 5)) := (Chg.refl _ _).alloc _
        have h9 := hb.set2 (m - 8)
        rw [← HM8.out] at h9
        exact (h9.chg hc9 id).cells.1
      have HB' := hide hb
      have HOW := hide how
      have HCH := hide hch
      have HFR := hide hfr
      clear hb how hch hfr hby hkb
      go_wp2
      go_region_law (refine step_app rfl (.tmp 41) (.tmp 52) 39 rfl 5 i0 (.int .u8 0) 1 1 Tryd.underlying39 hi hz0 hz1 hz2 rfl (by decide) gv' k (((bytesB bt).take k).map B) (by simp [Act.eval]) HO.out (.slice (some ⟨wr.heap.size, 0, none⟩) 1 1) 1 [.int .u8 (IntKind.u8.wrap ((LL : Int) / 2 ^ ((m : Int) - 8).toNat))] (by simp [Act.eval]) rfl HLI.out HONE.out HN1.out HN2.out ?_; intro v' w2 hown2 hg2 hf2; rw [HBY.out] at hown2; obtain ⟨sv', cv', hv'⟩ := slice_len hown2; subst hv'; obtain ⟨p1, p2, p3, p4, p5⟩ := put_round HB'.out h8 HOW.out HCH.out HFR.out (by rw [HM8.out]) hown2 hg2 hf2; obtain ⟨d0, -, -⟩ := p1.cells; have d1 := p1.free 0)
      all_goals go_wp2
      all_goals refine ⟨⟨k + 1, _, m - 8, by omega, by omega, p2, ?_, p4, p5⟩, ?_⟩
      all_goals first
        | (rw [bytesB_next HL8.out]; exact p3)
        | (rw [bwN_of p2, bwN_of HB'.out]; omega)
    · have HB' := hide hb
      have HOW := hide how
      have HCH := hide hch
      have HFR := hide hfr
      clear hb how hch hfr
      go_wp2
      have hk : k = bt.length / 8 := by have := HLEN.out; omega
      have hm' : m = bt.length % 8 := by have := HLEN.out; omega
      have hmod : LL % 2 ^ m = valB (bt.drop (8 * (bt.length / 8))) := by
        have e3 : (bt.drop (8 * q)).length = N + n := by rw [List.length_drop, HLEN.out]; omega
        have hX : bt.drop (8 * q) = (bt.drop (8 * q)).take (N + n - m) ++ bt.drop (8 * k) := by
          have : bt.drop (8 * k) = (bt.drop (8 * q)).drop (N + n - m) := by rw [List.drop_drop]; congr 1; omega
          rw [this, List.take_append_drop]
        have hZl : (bt.drop (8 * k)).length = m := by rw [List.length_drop, HLEN.out]; omega
        have h1 := HQ1.out
        have h2 : LL % 2 ^ m = LL % 2 ^ (N + n) % 2 ^ m := by
          rw [Nat.mod_mod_of_dvd]
          exact Nat.pow_dvd_pow 2 (by omega)
        have h3 := valB_lt (bt.drop (8 * k))
        rw [hZl] at h3
        rw [h2, h1, hX, valB_append, hZl, Nat.mul_comm, Nat.mul_add_mod, Nat.mod_eq_of_lt h3, ← hk]
      refine bodyPost_end (results_none rfl _ _ _) rfl ⟨rfl, gv', ⟨LL, m, HB'.out, q2, hm', hmod, ?_⟩, HCH.out, HFR.out⟩
      have h := HOW.out
      rw [List.take_of_length_le (by rw [bytesB_length]; omega)] at h
      rw [← hk]
      exact h
end Go.Proofs.YtpmmpbklpclnhaaDoor
