/-
  (*sluicelaw.Books).keepBytes.
-/
import Derived.Test.YtckeblkadiehbaaGreatFam
namespace Go.Proofs.YtckeblkadiehbaaGreat
open Go.RowKit

/-- A list of bytes that was kept, and the three that were appended to it. -/
structure RecB where
  l : Value
  a : Value
  b : Value
  c : Value
  n : Nat
  len : Nat

def recCells : List RecB → List Value
  | [] => []
  | r :: t => r.l :: r.a :: r.b :: r.c :: .int .i64 r.n :: recCells t
theorem recCells_length (rs : List RecB) : (recCells rs).length = rs.length * 5 := by
  induction rs with
  | nil => rfl
  | cons p r ih => simp [recCells, ih]; omega
theorem recCells_append (a b : List RecB) : recCells (a ++ b) = recCells a ++ recCells b := by
  induction a with
  | nil => rfl
  | cons p r ih => simp [recCells, ih]

/-- Each of the four reads as the caller has written it. -/
structure FamB (w : World) (r : RecB) : Prop where
  l : w.ownsRow 0 5 1 r.l r.len ((marks r.n r.len).map B)
  a : w.ownsRow 0 5 1 r.a (r.len + 1) ((marks r.n (r.len + 1)).map B)
  b : w.ownsRow 0 5 1 r.b (r.len + 2) ((marks r.n (r.len + 2)).map B)
  c : w.ownsRow 0 5 1 r.c (r.len + 3) ((marks r.n (r.len + 3)).map B)

theorem FamB.chg {S : Nat → Prop} {w w' : World} {r : RecB} (h : FamB w r) (hc : Chg S w w') (hs : ∀ v ∈ [r.l, r.a, r.b, r.c], ∀ k, v.ownBlock = some k → ¬ S k) : FamB w' r :=
  ⟨owns_chg h.l hc (hs _ (by simp)), owns_chg h.a hc (hs _ (by simp)), owns_chg h.b hc (hs _ (by simp)), owns_chg h.c hc (hs _ (by simp))⟩

theorem Tryz.info65 : (Tryz.prog.info? 65).map (fun i => (i.zero, i.size, i.bytes)) = some (some (.agg #[.slice none 0 0, .slice none 0 0, .slice none 0 0, .slice none 0 0, .int .i64 0]), 5, 104) := by kernel_rfl

theorem slice_len {w : World} {b e s n : Nat} {v : Value} {xs : List Value} (h : w.ownsRow b e s v n xs) : ∃ sv cv, v = .slice sv n cv := by
  rcases h.2 with ⟨rfl, rfl⟩ | ⟨g, cap, cur, rfl, _⟩
  · exact ⟨_, _, rfl⟩
  · exact ⟨_, _, rfl⟩
theorem slice_some {w : World} {b e s n cv : Nat} {sv : Option Addr} {xs : List Value} (h : w.ownsRow b e s (.slice sv n cv) n xs) (hn : 0 < n) : ∃ g, sv = some ⟨g, 0, none⟩ ∧ n ≤ cv := by
  rcases h.2 with ⟨h0, rfl⟩ | ⟨g, cap, cur, h0, _, _, hle, _⟩
  · omega
  · simp only [Value.slice.injEq, true_and] at h0
    obtain ⟨rfl, rfl⟩ := h0
    exact ⟨g, rfl, hle⟩

theorem lists_block {w : World} {b : Nat} {v0 v1 v2 v3 v4 : Value} {t : TypeId} (h : w.heap[b]? = some (.cells #[v0, v1, v2, v3, v4] t (0, 0))) :
    w.cell? ⟨b, 0, none⟩ = some v0 ∧ w.cell? ⟨b, 1, none⟩ = some v1 ∧ w.cell? ⟨b, 2, none⟩ = some v2 ∧ w.cell? ⟨b, 3, none⟩ = some v3 ∧ w.cell? ⟨b, 4, none⟩ = some v4 ∧ ∀ o, w.frozen? ⟨b, o, none⟩ = false := by
  refine ⟨?_, ?_, ?_, ?_, ?_, fun o => by simp [World.frozen?, h]⟩ <;> rw [cell_of_row w b _ _ _ _ h] <;> rfl

/-- The loop of keepBytes. -/
def markK (n k : Nat) (xs : List UInt8) : List UInt8 := marks n k ++ xs.drop k
theorem markK_succ {n k : Nat} {xs : List UInt8} (h : k < xs.length) : (markK n k xs).set k (mk n k) = markK n (k + 1) xs := by
  unfold markK
  rw [set_next _ (marks_length n k) h, marks_succ]
theorem markK_all {n : Nat} {xs : List UInt8} : markK n xs.length xs = marks n xs.length := by simp [markK]

theorem keep_step {S : Nat → Prop} {w wX w1 : World} {xb len m : Nat} {X : Array Value} {v va : Value} {xs news : List Value} {o : Obj} (hx : wX.heap[xb]? = some (.cells X 65 (0, 0))) (hxb : w.heap.size ≤ xb) (hch : Chg S w wX) (hS : ∀ j, v.ownBlock = some j → w.heap.size ≤ j ∨ S j) (hl : wX.ownsRow 0 5 1 v len xs)
    (hown1 : w1.ownsRow 0 5 1 va (len + m) (xs ++ news)) (hg1 : (wX.alloc o).grownBy w1 v.ownBlock) (happ : Appd (wX.alloc o) w1 v va len m) (i : Nat) :
    (w1.setCell ⟨xb, i, none⟩ va).heap[xb]? = some (.cells (X.setIfInBounds i va) 65 (0, 0)) ∧ Chg S w (w1.setCell ⟨xb, i, none⟩ va) ∧ (w1.setCell ⟨xb, i, none⟩ va).ownsRow 0 5 1 v len xs ∧
      (w1.setCell ⟨xb, i, none⟩ va).ownsRow 0 5 1 va (len + m) (xs ++ news) ∧
      (∀ v0 k ys, wX.ownsRow 0 5 1 v0 k ys → (∀ g cap, v = .slice (some ⟨g, 0, none⟩) len cap → len + m ≤ cap → v0 = .slice (some ⟨g, 0, none⟩) k cap ∧ k ≤ len + m ∧ ys = (xs ++ news).take (k * 1)) → (w1.setCell ⟨xb, i, none⟩ va).ownsRow 0 5 1 v0 k ys) ∧
      (∀ j, va.ownBlock = some j → v.ownBlock = some j ∨ w.heap.size ≤ j) := by
  have hx1 : w1.heap[xb]? = some (.cells X 65 (0, 0)) := kept_block (hl.alloc o) hg1 (alloc_block hx o) (by decide)
  have hc1 : Chg S w w1 := (hch.alloc o).trans (Chg.of_grown hg1 (fun j hj => (hS j hj)))
  have hset : Chg (fun j => j = xb) w1 (w1.setCell ⟨xb, i, none⟩ va) := (Chg.refl (fun j => j = xb) w1).setCell (p := ⟨xb, i, none⟩) (Or.inr rfl) _
  have keep : ∀ v0 k ys, w1.ownsRow 0 5 1 v0 k ys → (w1.setCell ⟨xb, i, none⟩ va).ownsRow 0 5 1 v0 k ys := fun v0 k ys h => owns_chg h hset (fun j hj e => by subst e; exact owns_ne h hx1 (by decide) hj)
  refine ⟨block_setCell hx1, hc1.setCell (p := ⟨xb, i, none⟩) (Or.inl hxb) _, keep _ _ _ (app_pre hown1 happ (hl.alloc o) (fun g cap hv hr => ⟨hv, by omega, ?_⟩)), keep _ _ _ hown1, fun v0 k ys h hp => keep _ _ _ (app_pre hown1 happ (h.alloc o) hp), fun j hj => ?_⟩
  · rw [← hl.1, List.take_left]
  · rcases happ.block with e | e
    · rw [e] at hj; exact Or.inl hj
    · rw [e] at hj; simp at hj
      have := hch.size
      exact Or.inr (by omega)

/-- The end of keepBytes. -/
def KeptB (w w' : World) (b : Nat) (cs : Array Value) (kv v : Value) (recs : List RecB) (len : Nat) : Prop :=
  ∃ kv' r, w'.heap[b]? = some (.cells (cs.setIfInBounds 9 kv') 46 (0, 0)) ∧ w'.ownsRow 0 65 5 kv' (recs ++ [r]).length (recCells (recs ++ [r])) ∧ r.l = v ∧ r.n = recs.length ∧ r.len = len ∧ FamB w' r ∧
    (∀ u ∈ [r.l, r.a, r.b, r.c], ∀ j, u.ownBlock = some j → v.ownBlock = some j ∨ w.heap.size ≤ j) ∧ Chg (fun j => j = b ∨ kv.ownBlock = some j ∨ v.ownBlock = some j) w w' ∧ (∀ j, kv'.ownBlock = some j → kv.ownBlock = some j ∨ w.heap.size ≤ j)

theorem keptB_end {w w6 w7 : World} {b base len : Nat} {cs : Array Value} {kv kv' v va vb vc : Value} {recs : List RecB} {xs : List UInt8} {X : List Value} {o : Obj} (hV : w.ownsRow base 5 1 v xs.length (xs.map B)) (hB : w.heap[b]? = some (.cells cs 46 (0, 0))) (hR : w.ownsRow 0 65 5 kv recs.length (recCells recs))
    (hch6 : Chg (fun j => v.ownBlock = some j) w w6) (hfam : FamB w6 ⟨v, va, vb, vc, recs.length, len⟩) (hba : ∀ j, va.ownBlock = some j → v.ownBlock = some j ∨ w.heap.size ≤ j) (hbb : ∀ j, vb.ownBlock = some j → v.ownBlock = some j ∨ w.heap.size ≤ j) (hbc : ∀ j, vc.ownBlock = some j → v.ownBlock = some j ∨ w.heap.size ≤ j)
    (hX : X = [v, va, vb, vc, .int .i64 recs.length]) (hown7 : w7.ownsRow 0 65 5 kv' (recs.length + 1) (recCells recs ++ X)) (hg7 : (w6.alloc o).drew.grownBy w7 kv.ownBlock) (happ7 : Appd (w6.alloc o).drew w7 kv kv' recs.length 1) (hb7 : w7.heap[b]? = some (.cells cs 46 (0, 0))) :
    KeptB w (w7.setCell ⟨b, 9, none⟩ kv') b cs kv v recs len := by
  have hr6 := owns_chg hR hch6 (fun j hj e => rows_ne hR hV (by decide) hj e)
  have hb6 : w6.heap[b]? = some (.cells cs 46 (0, 0)) := by
    rw [hch6.block b (lt_of_block hB) (owns_ne hV hB (by decide))]; exact hB
  have hc7 : Chg (fun j => kv.ownBlock = some j) w6 w7 := (((Chg.refl _ w6).alloc o).drew).trans (Chg.of_grown hg7 (fun j hj => Or.inr hj))
  have hset : Chg (fun j => j = b) w7 (w7.setCell ⟨b, 9, none⟩ kv') := (Chg.refl (fun j => j = b) w7).setCell (p := ⟨b, 9, none⟩) (Or.inr rfl) _
  have hc8 : Chg (fun j => j = b ∨ kv.ownBlock = some j) w6 (w7.setCell ⟨b, 9, none⟩ kv') := (hc7.mono (fun j _ hj => Or.inr hj)).trans (hset.mono (fun j _ hj => Or.inr (Or.inl hj)))
  have sep : ∀ u k ys, w6.ownsRow 0 5 1 u k ys → ∀ j, u.ownBlock = some j → ¬ (j = b ∨ kv.ownBlock = some j) := by
    rintro u k ys h j hj (rfl | e)
    · exact owns_ne h hb6 (by decide) hj
    · exact rows_ne hr6 h (by decide) e hj
  refine ⟨kv', ⟨v, va, vb, vc, recs.length, len⟩, block_setCell hb7, ?_, rfl, rfl, rfl, ?_, ?_, ?_, ?_⟩
  · rw [List.length_append, recCells_append]
    refine owns_chg (w := w7) ?_ hset (fun j hj e => by subst e; exact owns_ne hown7 hb7 (by decide) hj)
    rw [hX] at hown7
    exact hown7
  · exact ⟨owns_chg hfam.l hc8 (sep _ _ _ hfam.l), owns_chg hfam.a hc8 (sep _ _ _ hfam.a), owns_chg hfam.b hc8 (sep _ _ _ hfam.b), owns_chg hfam.c hc8 (sep _ _ _ hfam.c)⟩
  · intro u hu j hj
    simp at hu
    rcases hu with rfl | rfl | rfl | rfl
    · exact Or.inl hj
    · exact hba j hj
    · exact hbb j hj
    · exact hbc j hj
  · refine (hch6.mono (fun j _ hj => Or.inr (Or.inr hj))).trans (hc8.mono ?_)
    rintro j _ (e | e)
    · exact Or.inr (Or.inl e)
    · exact Or.inr (Or.inr (Or.inl e))
  · intro j hj
    rcases happ7.block with e | e
    · rw [e] at hj; exact Or.inl hj
    · rw [e] at hj; simp at hj
      have := hch6.size
      exact Or.inr (by omega)

theorem markByte_int (n : Nat) (x : Int) (w : World) (hn : n ≤ 1099511627776) (h0 : 0 ≤ x) (h1 : x ≤ 1099511627776) :
    Calls Tryz.prog 63 #[.int .i64 n, .int .i64 x] w fun e w' => e = .returned (B (mk n x.toNat)) ∧ w' = w := by
  have h := markByte_any n x.toNat w hn (by omega)
  have e : ((x.toNat : Nat) : Int) = x := by omega
  rw [e] at h
  exact h

theorem take_pre {M A R : List Value} {n k : Nat} (hM : M.length = n * 1) (hA : A.length = k) : (M ++ (A ++ R)).take ((n + k) * 1) = M ++ A := by
  rw [← List.append_assoc, List.take_left' (by simp; omega)]

theorem marks_two (n a : Nat) : marks n (a + 2) = marks n a ++ [mk n a, mk n (a + 1)] := by
  rw [marks_succ, marks_succ]; simp
theorem marks_three (n a : Nat) : marks n (a + 3) = marks n a ++ [mk n a, mk n (a + 1), mk n (a + 2)] := by
  rw [marks_succ, marks_succ, marks_succ]; simp

set_option maxRecDepth 100000 in
set_option maxHeartbeats 6400000 in
theorem keepBytes_any (b : Nat) (cs : Array Value) (kv v : Value) (recs : List RecB) (xs : List UInt8) (base : Nat) (w : World) (hb : w.heap[b]? = some (.cells cs 46 (0, 0))) (hkv : cs[9]? = some kv)
    (hrow : w.ownsRow 0 65 5 kv recs.length (recCells recs)) (hv : w.ownsRow base 5 1 v xs.length (xs.map B)) (hn : recs.length ≤ 67108864) (hx : xs.length ≤ 4294967296) :
    Calls Tryz.prog 26 #[.pointer (some ⟨b, 9, none⟩), v] w fun e w' => e = .returned (.tuple #[]) ∧ KeptB w w' b cs kv v recs xs.length := by
  obtain ⟨i0, hi, hz0, hz1, hz2⟩ := info_parts Tryz.info5
  obtain ⟨j0, ji, jz0, jz1, jz2⟩ := info_parts Tryz.info65
  obtain ⟨sv, cv, rfl⟩ := slice_len hv
  obtain ⟨sk, ck, rfl⟩ := slice_len hrow
  have hc9 : w.cell? ⟨b, 9, none⟩ = some (.slice sk recs.length ck) := by rw [cell_of_row w b _ _ _ _ hb]; exact hkv
  have HV := hide hv
  have HB := hide hb
  have HR := hide hrow
  clear hv hb hrow
  go_enter Tryz.func26, Tryz.ntmps26
  go_wp2
  go_loopw [6] (fun i wr => ∃ k : Nat, k ≤ xs.length ∧ i = .int .i64 k ∧ Chg (fun j => (Value.slice sv xs.length cv).ownBlock = some j) w wr ∧ wr.ownsRow base 5 1 (.slice sv xs.length cv) xs.length ((markK recs.length k xs).map B)) (fun i _ => xs.length - (intOf i).toNat)
  case atStart => exact ⟨0, Nat.zero_le _, rfl, Chg.refl _ _, by simpa [markK, marks] using HV.out⟩
  case round =>
    obtain ⟨k, hk, rfl, hch, hown⟩ := hrel
    by_cases hlt : k < xs.length
    · obtain ⟨g, hg, hcv⟩ := slice_some hown (by omega)
      subst hg
      have hcl := owns_cell hown (j := k) hlt
      have hfz := owns_free hown k
      have HS := hide (owns_set hown k (mk recs.length k))
      clear hown
      go_wp2_with (go_at_call 63; refine (markByte_any _ _ _ (by omega) (by omega)).mono ?_; rintro e w' ⟨rfl, hw'⟩; subst hw')
      go_roundw
      case rel => exact ⟨k + 1, by omega, by go_num, hch.setCell (p := ⟨g, k, none⟩) (Or.inr rfl) _, by rw [← markK_succ hlt]; exact HS.out⟩
      case measure => simp [intOf]; omega
    · have hke : k = xs.length := by omega
      subst hke
      rw [markK_all] at hown
      clear hlt hk
      obtain ⟨M0, hM0⟩ : ∃ M, M = (marks recs.length xs.length).map B := ⟨_, rfl⟩
      have hbw : wr.heap[b]? = some (.cells cs 46 (0, 0)) := by
        rw [hch.block b (lt_of_block HB.out) (owns_ne HV.out HB.out (by decide))]; exact HB.out
      have hown0 := owns_base hown (base' := 0) (fun _ _ => Nat.zero_le _)
      rw [← hM0] at hown0
      have HM0 := hide hM0
      have HBW := hide hbw
      have HCH := hide hch
      clear hch hbw hc9 hown hM0
      go_wp2_with (first | (go_at_call 63; refine (markByte_any _ _ _ (by omega) (by omega)).mono ?_; rintro e w' ⟨rfl, hw'⟩; rw [hw']; clear hw' w') | (at_builtin; refine wpList_app_full _ rfl (.tmp 29) (.tmp 33) 54 rfl 5 i0 (.int .u8 0) 1 1 Tryz.underlying54 hi hz0 hz1 hz2 rfl (by decide) _ _ _ rfl ((hown0.alloc _).alloc _) ⟨wr.heap.size + 1, 0, none⟩ 1 1 [B (mk recs.length xs.length)] rfl (by decide) rfl ?c0 ?c1 ?c2 ?c3 ?_))
      case c0 =>
        have := lies_row (w := wr.alloc (.cells #[.slice sv xs.length cv, .slice none 0 0, .slice none 0 0, .slice none 0 0, .int .i64 recs.length] 65)) (xs := [B (mk recs.length xs.length)]) (t := 5)
        simpa using this
      case c1 => exact bytes_one [mk recs.length xs.length]
      case c2 => unfold maxLen; omega
      case c3 => omega
      intro va w1 hown1 hg1 happ1
      have hsz0 := HCH.out.size
      obtain ⟨hx2, hch2, hl2, ha2, -, hba⟩ := keep_step (heap_alloc_new wr _) hsz0 (HCH.out.alloc _) (fun j hj => Or.inr hj) (hown0.alloc _) hown1 hg1 happ1 1
      have hra : ∀ g cap, Value.slice sv xs.length cv = .slice (some ⟨g, 0, none⟩) xs.length cap → xs.length + 1 ≤ cap → va = .slice (some ⟨g, 0, none⟩) (xs.length + 1) cap := fun g cap e h => happ1.room e h
      obtain ⟨sa, ca, rfl⟩ := slice_len hown1
      have hxw1 : w1.heap[wr.heap.size]? = some (.cells #[.slice sv xs.length cv, .slice none 0 0, .slice none 0 0, .slice none 0 0, .int .i64 recs.length] 65 (0, 0)) := kept_block ((hown0.alloc _).alloc _) hg1 (alloc_block (heap_alloc_new wr _) _) (by decide)
      obtain ⟨y0, y1, y2, y3, y4, yf⟩ := lists_block hxw1
      have yf1 := yf 1
      obtain ⟨w2, hw2⟩ : ∃ w2, w1.setCell ⟨wr.heap.size, 1, none⟩ (.slice sa (xs.length + 1) ca) = w2 := ⟨_, rfl⟩
      rw [hw2] at hx2 hch2 hl2 ha2
      have HX2 := hide hx2
      have HC2 := hide hch2
      have HA2 := hide ha2
      have HRA := hide hra
      have HBA := hide hba
      clear hx2 hch2 ha2 hra hba hown1 hg1 happ1 hown0 hxw1 yf
      go_wp2_with (first | (go_at_call 63; refine (markByte_int recs.length _ _ (by omega) (by omega) (by omega)).mono ?_; rintro e w' ⟨rfl, hw'⟩; rw [hw']; clear hw' w') | (at_builtin; refine wpList_app_full _ rfl (.tmp 36) (.tmp 44) 54 rfl 5 i0 (.int .u8 0) 1 1 Tryz.underlying54 hi hz0 hz1 hz2 rfl (by decide) _ _ _ rfl (hl2.alloc _) ⟨w2.heap.size, 0, none⟩ 2 2 [B (mk recs.length (xs.length : Int).toNat), B (mk recs.length ((xs.length : Int) + 1).toNat)] rfl (by decide) rfl ?d0 ?d1 ?d2 ?d3 ?_))
      case d0 => exact lies_row
      case d1 => exact bytes_one [mk recs.length (xs.length : Int).toNat, mk recs.length ((xs.length : Int) + 1).toNat]
      case d2 => unfold maxLen; omega
      case d3 => omega
      intro vb w3 hown3 hg3 happ3
      have hxb : w.heap.size ≤ wr.heap.size := HCH.out.size
      obtain ⟨hx4, hch4, hl4, hb4, hk4, hbb⟩ := keep_step HX2.out hxb HC2.out (fun j hj => Or.inr hj) hl2 hown3 hg3 happ3 2
      have ha4 := hk4 _ _ _ HA2.out (fun g cap e h => ⟨HRA.out g cap e (by omega), by omega, (take_pre (A := [_]) (R := [_]) hl2.1 rfl).symm⟩)
      have hrb : ∀ g cap, Value.slice sv xs.length cv = .slice (some ⟨g, 0, none⟩) xs.length cap → xs.length + 2 ≤ cap → vb = .slice (some ⟨g, 0, none⟩) (xs.length + 2) cap := fun g cap e h => happ3.room e h
      obtain ⟨sb, cb, rfl⟩ := slice_len hown3
      have hxw3 := kept_block (hl2.alloc _) hg3 (alloc_block HX2.out _) (by decide)
      obtain ⟨z0, z1, z2, z3, z4, zf⟩ := lists_block hxw3
      have zf2 := zf 2
      obtain ⟨w4, hw4⟩ : ∃ w4, w3.setCell ⟨wr.heap.size, 2, none⟩ (.slice sb (xs.length + 2) cb) = w4 := ⟨_, rfl⟩
      rw [hw4] at hx4 hch4 hl4 hb4 ha4
      have HX4 := hide hx4
      have HC4 := hide hch4
      have HA4 := hide ha4
      have HB4 := hide hb4
      have HRB := hide hrb
      have HBB := hide hbb
      clear hx4 hch4 ha4 hb4 hrb hbb hown3 hg3 happ3 hl2 hxw3 zf hk4 HX2 HC2 HA2 hw2 y0 y1 y2 y3 y4 yf1
      go_wp2_with (first | (go_at_call 63; refine (markByte_int recs.length _ _ (by omega) (by omega) (by omega)).mono ?_; rintro e w' ⟨rfl, hw'⟩; rw [hw']; clear hw' w') | (at_builtin; refine wpList_app_full _ rfl (.tmp 47) (.tmp 59) 54 rfl 5 i0 (.int .u8 0) 1 1 Tryz.underlying54 hi hz0 hz1 hz2 rfl (by decide) _ _ _ rfl (hl4.alloc _) ⟨w4.heap.size, 0, none⟩ 3 3 [B (mk recs.length (xs.length : Int).toNat), B (mk recs.length ((xs.length : Int) + 1).toNat), B (mk recs.length ((xs.length : Int) + 2).toNat)] rfl (by decide) rfl ?e0 ?e1 ?e2 ?e3 ?_))
      case e0 => exact lies_row
      case e1 => exact bytes_one [mk recs.length (xs.length : Int).toNat, mk recs.length ((xs.length : Int) + 1).toNat, mk recs.length ((xs.length : Int) + 2).toNat]
      case e2 => unfold maxLen; omega
      case e3 => omega
      intro vc w5 hown5 hg5 happ5
      obtain ⟨hx6, hch6, hl6, hc6, hk6, hbc⟩ := keep_step HX4.out hxb HC4.out (fun j hj => Or.inr hj) hl4 hown5 hg5 happ5 3
      have ha6 := hk6 _ _ _ HA4.out (fun g cap e h => ⟨HRA.out g cap e (by omega), by omega, (take_pre (A := [_]) (R := [_, _]) hl4.1 rfl).symm⟩)
      have hb6 := hk6 _ _ _ HB4.out (fun g cap e h => ⟨HRB.out g cap e (by omega), by omega, (take_pre (A := [_, _]) (R := [_]) hl4.1 rfl).symm⟩)
      obtain ⟨sc, cc, rfl⟩ := slice_len hown5
      have hxw5 := kept_block (hl4.alloc _) hg5 (alloc_block HX4.out _) (by decide)
      obtain ⟨p0, p1, p2, p3, p4, pf⟩ := lists_block hxw5
      have pf3 := pf 3
      obtain ⟨w6, hw6⟩ : ∃ w6, w5.setCell ⟨wr.heap.size, 3, none⟩ (.slice sc (xs.length + 3) cc) = w6 := ⟨_, rfl⟩
      rw [hw6] at hx6 hch6 hl6 hc6 ha6 hb6
      have HX6 := hide hx6
      have HC6 := hide hch6
      have HA6 := hide ha6
      have HB6 := hide hb6
      have HC6' := hide hc6
      have HL6 := hide hl6
      have HBC := hide hbc
      obtain ⟨q0, q1, q2, q3, q4, qf⟩ := lists_block hx6
      have hb6w : w6.heap[b]? = some (.cells cs 46 (0, 0)) := by
        rw [hch6.block b (lt_of_block HB.out) (owns_ne HV.out HB.out (by decide))]; exact HB.out
      have hrow6 := owns_chg HR.out hch6 (fun j hj e => rows_ne HR.out HV.out (by decide) hj e)
      have hc9 : w6.cell? ⟨b, 9, none⟩ = some (.slice sk recs.length ck) := by rw [cell_of_row w6 b _ _ _ _ hb6w]; exact hkv
      have hf9 : w6.frozen? ⟨b, 9, none⟩ = false := by simp [World.frozen?, hb6w]
      have HB6w := hide hb6w
      clear hx6 hch6 ha6 hb6 hc6 hl6 hbc hown5 hg5 happ5 hl4 hxw5 pf hk6 HX4 HC4 HA4 HB4 hw4 z0 z1 z2 z3 z4 zf2 qf hb6w
      have hbx : b ≠ wr.heap.size := by have := lt_of_block HB.out; omega
      have HONE : Hid (∀ u ∈ [Value.slice sv xs.length cv, .slice sa (xs.length + 1) ca, .slice sb (xs.length + 2) cb, .slice sc (xs.length + 3) cc, .int .i64 recs.length], u.oneCell' = true) := by
        intro u hu
        simp at hu
        rcases hu with rfl | rfl | rfl | rfl | rfl <;> rfl
      have HN1 : Hid (recs.length + 1 ≤ maxLen) := by show _ ≤ _; unfold maxLen; omega
      have HN2 : Hid ((recs.length + 1) * 104 ≤ 140737488355328) := by show _ ≤ _; omega
      obtain ⟨X, hX⟩ : ∃ X, X = [Value.slice sv xs.length cv, .slice sa (xs.length + 1) ca, .slice sb (xs.length + 2) cb, .slice sc (xs.length + 3) cc, .int .i64 recs.length] := ⟨_, rfl⟩
      have HOWN : Hid ((w6.alloc (.cells #[.slice sv xs.length cv, .slice sa (xs.length + 1) ca, .slice sb (xs.length + 2) cb, .slice sc (xs.length + 3) cc, .int .i64 recs.length] 65)).drew.ownsRow 0 65 5 (.slice sk recs.length ck) recs.length (recCells recs)) := hrow6.alloc _
      have HCEL : Hid (∀ j u, X[j]? = some u → (w6.alloc (.cells #[.slice sv xs.length cv, .slice sa (xs.length + 1) ca, .slice sb (xs.length + 2) cb, .slice sc (xs.length + 3) cc, .int .i64 recs.length] 65)).drew.cell? ((⟨w6.heap.size, 0, none⟩ : Addr).add j) = some u) := by
        subst hX
        exact fun j u hu => lies_row j u hu
      have HBA6 : Hid ((w6.alloc (.cells #[.slice sv xs.length cv, .slice sa (xs.length + 1) ca, .slice sb (xs.length + 2) cb, .slice sc (xs.length + 3) cc, .int .i64 recs.length] 65)).drew.heap[b]? = some (.cells cs 46 (0, 0))) := alloc_block HB6w.out _
      rw [← hX] at HONE
      have HXL : Hid (X.length = 1 * 5) := by rw [hX]; rfl
      have HX := hide hX
      clear hX
      have c9a : (w6.alloc (.cells #[.slice sv xs.length cv, .slice sa (xs.length + 1) ca, .slice sb (xs.length + 2) cb, .slice sc (xs.length + 3) cc, .int .i64 recs.length] 65)).cell? ⟨b, 9, none⟩ = some (.slice sk recs.length ck) := by
        rw [cell_of_row _ b _ _ _ _ (alloc_block HB6w.out _)]; exact hkv
      go_wp2
      go_region_law (refine step_app_full rfl (.tmp 66) (.tmp 68) 38 rfl 65 j0 (.agg #[.slice none 0 0, .slice none 0 0, .slice none 0 0, .slice none 0 0, .int .i64 0]) 5 104 Tryz.underlying38 ji jz0 jz1 jz2 rfl (by decide) (.slice sk recs.length ck) recs.length (recCells recs) (by simp [Act.eval]) HOWN.out ⟨w6.heap.size, 0, none⟩ 1 1 X (by simp [Act.eval]) (by decide) HXL.out HCEL.out HONE.out HN1.out HN2.out ?_; intro kv' w7 hown7 hg7 happ7; obtain ⟨sk', ck', hkv'⟩ := slice_len hown7; subst hkv'; have hb7 := kept_block HOWN.out hg7 HBA6.out (by decide); have c7 : w7.cell? ⟨b, 9, none⟩ = some (.slice sk recs.length ck) := (by rw [cell_of_row w7 b _ _ _ _ hb7]; exact hkv); have f7 : w7.frozen? ⟨b, 9, none⟩ = false := (by simp [World.frozen?, hb7]))
      all_goals go_wp2
      all_goals refine bodyPost_end (results_none rfl _ _ _) rfl ⟨rfl, ?_⟩
      all_goals refine keptB_end HV.out HB.out HR.out HC6.out ⟨?_, ?_, ?_, ?_⟩ HBA.out HBB.out HBC.out HX.out hown7 hg7 happ7 hb7
      all_goals first
        | (have h := HL6.out; rw [HM0.out] at h; exact h)
        | (have h := HA6.out; rw [HM0.out] at h; show World.ownsRow _ _ _ _ _ _ ((marks recs.length (xs.length + 1)).map B); rw [marks_succ, List.map_append]; exact h)
        | (have h := HB6.out; rw [HM0.out] at h; show World.ownsRow _ _ _ _ _ _ ((marks recs.length (xs.length + 2)).map B); rw [marks_two, List.map_append]; exact h)
        | (have h := HC6'.out; rw [HM0.out] at h; show World.ownsRow _ _ _ _ _ _ ((marks recs.length (xs.length + 3)).map B); rw [marks_three, List.map_append]; exact h)
end Go.Proofs.YtckeblkadiehbaaGreat
