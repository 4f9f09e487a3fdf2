import Derived.Test.YtdccldbefdfppaaGreatDoorQGal
import Derived.Test.YtdccldbefdfppaaGreatDoorQGak
import Derived.Laws.IdiomRangeMap
set_option linter.unusedVariables false
set_option linter.unusedSimpArgs false
/-
  Package ends: comePiece and comeHeaders, where the block has no bytes.
-/
namespace Go.Proofs.YtdccldbefdfppaaGreatDoor
set_option linter.unusedVariables false
set_option linter.unusedSimpArgs false
open Go.RowKit

theorem lies_nil (w : World) (sv : Option Addr) (cb : Nat) (h : sv = none → cb = 0) : Lies w (.slice sv 0 cb) 0 [] := by
  cases sv with
  | none => rw [h rfl]; exact Or.inl ⟨rfl, rfl, rfl⟩
  | some a => exact Or.inr ⟨_, _, rfl, fun j u hu => by simp at hu⟩
set_option maxRecDepth 100000 in
set_option maxHeartbeats 800000 in
/-- A block of no bytes is a list of no pairs. -/
theorem bUnpack_nil (ub uo : Nat) (bv : Value) (w : World) (hb : BytesIn w bv []) (hg : Gl w) :
    Calls Tryz.prog 132 #[.pointer (some ⟨ub, uo, none⟩), bv] w fun e w' => e = .returned (.slice none 0 0) ∧ Below w.heap.size w w' := by
  have hbA : Below w.heap.size w (w.alloc (.cells #[bv] 231)) := (Below.refl _ _).alloc (Nat.le_refl _) _
  have hsr : SrS (w.alloc (.cells #[bv] 231)) w.heap.size bv [] := ⟨heap_alloc_new w _, hb.chg (Chg.of_below (S := fun _ => False) hbA) (fun _ _ => id), fun e => by have := hb.lt e; omega⟩
  have hgA := hg.below hbA
  have HSH := hide (shas_any w.heap.size bv [] 32 5 _ hsr (Or.inr (Or.inl rfl)))
  have l0 := hg.lim.1
  have l1 := hg.lim.2
  have hgl : 0 < w.heap.size := Nat.lt_of_lt_of_le (by decide) hg.lt
  have HAE : Hid (∀ w1, Below (w.alloc (.cells #[bv] 231)).heap.size (w.alloc (.cells #[bv] 231)) w1 → Calls Tryz.prog 159 #[.pointer (some ⟨w.heap.size, 0, none⟩)] w1 fun e w' => e = .returned (.bool true) ∧ w' = w1) := fun w1 hb1 => atEnd_any w.heap.size bv [] w1 (hsr.chg (Chg.of_below (S := fun _ => False) hb1) id (fun _ _ => id))
  have HBA := hide hbA
  obtain ⟨sv, cv, hv, -⟩ := bytesIn_len hb
  subst hv
  simp only [List.length_nil] at HSH HAE HBA
  simp only [fm] at HSH
  clear hb hg hbA hsr hgA
  go_enter Tryz.func132, Tryz.ntmps132
  go_wp2
  refine wp_loop_rounds 1 ?_
  rw [rounds_succ]
  go_wp2_with fail
  refine HSH.out.mono ?_
  rintro e w1 ⟨rfl, hb1⟩
  have HA := hide (HAE.out w1 hb1)
  have HB1 := hide hb1
  clear hb1
  simp only [hasF]
  go_wp2
  refine wp_loop_rounds 1 ?_
  rw [rounds_succ]
  go_wp2_with fail
  refine HA.out.mono ?_
  rintro e w' ⟨rfl, hw'⟩
  rw [hw']
  clear hw' w'
  go_wp2
  go_ret
  exact ⟨rfl, HBA.out.trans (HB1.out.mono (by simp))⟩

/-- A stream that the other end has opened. -/
def StM.fresh (n : Int) (b : Bool) : StM := ⟨0, 0, 0, n, .slice none 0 0, false, false, true, false, b, 0, .slice none 0 0, .slice none 0 0⟩
/-- With one stream more. -/
theorem Inv.added {w0 w w' : World} {eb mb : Nat} {g0 g : GEnd} {sb : Nat} {n : Int} {st : StM} {v : Value} (h0 : Next w0 w eb mb g0 g) (hsb : w0.heap.size ≤ sb) (hs : StB w sb st) (hnum : st.number = n) (hun : st.unread = .slice none 0 0) (hwa : st.waiting = .slice none 0 0) (hnf : ¬ Foot eb mb g sb) (hn : ∀ x ∈ g.K, x.st.number ≠ n) (ha : AddS w w' eb mb g.m (g.K.map GSt.str) (openS g.K g.L) sb st v) :
    Next w0 w' eb mb g0 { g with m := { g.m with opn := v }, K := g.K ++ [⟨sb, st, [], []⟩], L := insL n g.L } := by
  have h := h0.inv
  have hln : n ∉ g.L := fun hm => by
    obtain ⟨s, hs, e⟩ := h.has n hm
    exact hn s hs e
  have hnil : ∀ w' : World, w'.ownsRow 0 5 1 (.slice none 0 0) ([] : List UInt8).length (([] : List UInt8).map B) := fun w' => World.ownsRow_nil _ _ _ _
  have hc := ha.chg
  have hmemK : ∀ x, x ∈ g.K ++ [(⟨sb, st, [], []⟩ : GSt)] → x ∈ g.K ∨ x = ⟨sb, st, [], []⟩ := fun x hx => by
    rcases List.mem_append.1 hx with a | a
    · exact Or.inl a
    · exact Or.inr (List.mem_singleton.1 a)
  have hu8 : ∀ {k : Nat} {v' : Value} {xs : List Value}, w.ownsRow 0 5 1 v' k xs → w'.ownsRow 0 5 1 v' k xs := fun hr => owns_chg hr hc (fun j hj e => by
    rcases e with e | e | e
    · rw [e] at hj; exact owns_ne hr h.en.blk (by decide) hj
    · rw [e] at hj; exact owns_mb h.kn hr hj
    · exact rows_ne hr h.row (by decide) hj e)
  have hat : ∀ k ∈ g.L, atN (g.K ++ [(⟨sb, st, [], []⟩ : GSt)]) k = atN g.K k := fun k hk => by
    obtain ⟨s, hs', e⟩ := h.has k hk
    unfold atN
    rw [List.find?_append]
    have := find_nd (fun s : GSt => s.st.number) h.nn hs'
    simp only [e] at this
    rw [this]
    rfl
  have hatn : atN (g.K ++ [(⟨sb, st, [], []⟩ : GSt)]) n = ⟨sb, st, [], []⟩ := by
    unfold atN
    rw [List.find?_append]
    have : g.K.find? (fun s => s.st.number == n) = none := List.find?_eq_none.2 fun x hx => by simpa using hn x hx
    rw [this]
    simp [hnum]
  have hop : openS (g.K ++ [(⟨sb, st, [], []⟩ : GSt)]) (insL n g.L) = insS (sb, st) (openS g.K g.L) := by
    have hgen : ∀ l : List Int, (∀ k ∈ l, k ∈ g.L) → openS (g.K ++ [(⟨sb, st, [], []⟩ : GSt)]) (insL n l) = insS (sb, st) (openS g.K l) := by
      intro l
      induction l with
      | nil =>
        intro _
        show [(atN _ n).str] = [(sb, st)]
        rw [hatn]; rfl
      | cons x r ih =>
        intro hm
        have hx := hm x List.mem_cons_self
        have hr := ih fun k hk => hm k (List.mem_cons_of_mem _ hk)
        have hrest : ∀ l : List Int, (∀ k ∈ l, k ∈ g.L) → openS (g.K ++ [(⟨sb, st, [], []⟩ : GSt)]) l = openS g.K l := fun l hl => List.map_congr_left fun k hk => by rw [hat k (hl k hk)]
        have hxn : (atN g.K x).str.2.number = x := (h.at hx).2
        show openS _ (if n < x then n :: x :: r else x :: insL n r) = (if st.number < (atN g.K x).str.2.number then (sb, st) :: (atN g.K x).str :: openS g.K r else (atN g.K x).str :: insS (sb, st) (openS g.K r))
        rw [hxn, hnum]
        by_cases hlt : n < x
        · rw [if_pos hlt, if_pos hlt]
          show (atN _ n).str :: openS _ (x :: r) = _
          rw [hatn, hrest (x :: r) hm]
          rfl
        · rw [if_neg hlt, if_neg hlt]
          show (atN _ x).str :: openS _ (insL n r) = _
          rw [hr, hat x hx]
    exact hgen g.L fun _ hk => hk
  refine ⟨⟨ha.en, ?_, h.km, ?_, ?_, ?_, ?_, ?_, hu8 h.out, hu8 h.got, ?_, ?_, ?_, fun a hm => hu8 (h.anb a hm), ?_, ?_⟩, ?_, ?_⟩
  · have := ha.kn
    rw [show ([(sb, st)] : List Str) = [(⟨sb, st, [], []⟩ : GSt)].map GSt.str from rfl, ← List.map_append] at this
    exact this
  · show ((g.K ++ [_]).map GSt.sb).Nodup
    rw [List.map_append, List.nodup_append]
    refine ⟨h.nd, by simp, ?_⟩
    intro a ha' b' hb' e
    obtain ⟨x, hx, rfl⟩ := List.mem_map.1 ha'
    simp at hb'
    rw [hb'] at e
    exact hnf (by rw [← e]; exact h.foot_st hx)
  · show ((g.K ++ [_]).map fun s : GSt => s.st.number).Nodup
    rw [List.map_append, List.nodup_append]
    refine ⟨h.nn, by simp, ?_⟩
    intro a ha' b' hb' e
    obtain ⟨x, hx, rfl⟩ := List.mem_map.1 ha'
    simp [hnum] at hb'
    rw [hb'] at e
    exact hn x hx e
  · exact insL_nodup h.ln hln
  · intro k hk
    rcases insL_mem.1 hk with a | a
    · rw [a]
      exact ⟨_, List.mem_append_right _ (List.mem_singleton.2 rfl), hnum⟩
    · obtain ⟨s, hs', e⟩ := h.has k a
      exact ⟨s, List.mem_append_left _ hs', e⟩
  · have := ha.row
    rw [← hop] at this
    show w'.ownsRow 0 124 1 v (insL n g.L).length (opnCells (openS (g.K ++ [_]) (insL n g.L)))
    rw [openS_length] at this
    exact this
  · intro x hx
    rcases hmemK x hx with a | a
    · exact hu8 (h.un x a)
    · subst a; show World.ownsRow _ _ _ _ st.unread _ _; rw [hun]; exact hnil _
  · intro x hx
    rcases hmemK x hx with a | a
    · exact hu8 (h.wa x a)
    · subst a; show World.ownsRow _ _ _ _ st.waiting _ _; rw [hwa]; exact hnil _
  · refine h.ans.chg hc (fun j hj e => ?_)
    rcases e with e | e | e
    · rw [e] at hj; exact h.ans.ne h.en.blk (by decide) hj
    · rw [e] at hj; exact rowAt_mb h.kn h.ans hj
    · exact rows_ne2 h.row h.ans (by decide) e hj
  · refine h.res.chg hc (fun j hj e => ?_)
    rcases e with e | e | e
    · rw [e] at hj; exact h.res.ne h.en.blk (by decide) hj
    · rw [e] at hj; exact rowAt_mb h.kn h.res hj
    · exact rows_ne2 h.row h.res (by decide) e hj
  · refine h.apart (fun _ => 0) _ _ g.ans (fun j hj => Or.inl hj) (fun j hj => Or.inl hj) ?_ ?_ (fun a ha j hj => Or.inl ⟨a, ha, hj⟩)
    · intro x hx j hj
      rcases hmemK x hx with a | a
      · exact Or.inl ⟨x, a, rfl, hj⟩
      · subst a; rw [show (GSt.mk sb st [] []).st.unread = _ from hun] at hj; simp [Value.ownBlock] at hj
    · intro x hx j hj
      rcases hmemK x hx with a | a
      · exact Or.inl ⟨x, a, rfl, hj⟩
      · subst a; rw [show (GSt.mk sb st [] []).st.waiting = _ from hwa] at hj; simp [Value.ownBlock] at hj
  · refine h0.chg.trans (hc.mono fun j _ e => ?_)
    have : Foot eb mb g j := by
      rcases e with e | e | e
      · exact Or.inl e
      · exact Or.inr (Or.inl e)
      · unfold Foot; simp [e]
    exact (h0.grow j this).symm
  · intro j hj
    have key : Foot eb mb g j ∨ w0.heap.size ≤ j ∨ w.heap.size ≤ j := by
      rcases hj with e | e | e | e | e | e | e | e | ⟨y, hy, e⟩
      · exact Or.inl (Or.inl e)
      · exact Or.inl (Or.inr (Or.inl e))
      · exact Or.inl (by unfold Foot; simp [show g.m.out.ownBlock = some j from e])
      · exact Or.inl (by unfold Foot; simp [show g.m.got.ownBlock = some j from e])
      · rcases ha.fresh j e with a | a
        · exact Or.inl (by unfold Foot; simp [a])
        · exact Or.inr (Or.inr a)
      · exact Or.inl (by unfold Foot; simp [show g.m.answers.ownBlock = some j from e])
      · exact Or.inl (by unfold Foot; simp [show g.m.resets.ownBlock = some j from e])
      · exact Or.inl (Or.inr (Or.inr (Or.inr (Or.inr (Or.inr (Or.inr (Or.inr (Or.inl e))))))))
      · rcases hmemK y hy with a | a
        · exact Or.inl (Or.inr (Or.inr (Or.inr (Or.inr (Or.inr (Or.inr (Or.inr (Or.inr ⟨y, a, e⟩))))))))
        · subst a
          rcases e with e | e | e
          · exact Or.inr (Or.inl (by rw [e]; exact hsb))
          · rw [show (GSt.mk sb st [] []).st.unread = _ from hun] at e; simp [Value.ownBlock] at e
          · rw [show (GSt.mk sb st [] []).st.waiting = _ from hwa] at e; simp [Value.ownBlock] at e
    rcases key with a | a | a
    · exact h0.grow j a
    · exact Or.inr a
    · exact Or.inr (Nat.le_trans h0.chg.size a)

/-- With one stream more, in short. -/
def GEnd.opened (g : GEnd) (n : Int) (b : Bool) : GEnd := { g with m := { g.m with bstream := 0, blast := false, newest := n }, K := g.K ++ [⟨0, StM.fresh n b, [], []⟩], L := insL n g.L }
set_option maxRecDepth 100000 in
set_option maxHeartbeats 1600000 in
theorem comePiece_nil (eb mb : Nat) (g : GEnd) (n : Int) (b : Bool) (sv : Option Addr) (cb : Nat) (w : World) (h : Inv w eb mb g) (hg : Gl w) (hge : ∀ j, j < 7 → ¬ Foot eb mb g j) (hsv : sv = none → cb = 0) (hn : ∀ x ∈ g.K, x.st.number ≠ n) (hup : Rise g.L) (hL : g.L.length ≤ 11) :
    Calls Tryz.prog 97 #[.pointer (some ⟨eb, 0, none⟩), .agg #[.int .i64 n, .slice none 0 0, .bool b], .slice sv 0 cb, .bool true] w fun e w' => e = .returned (.tuple #[]) ∧ ∃ g', g'.bare = (g.opened n b).bare ∧ Next w w' eb mb g g' := by
  obtain ⟨i0, hi, hz0, hz1, hz2⟩ := info_parts Tryz.info5
  have hlt := h.en.lt
  have HLI : Hid (∀ w, Lies w (.slice sv 0 cb) 0 []) := fun w => lies_nil w sv cb hsv
  have H := hide h
  have HG := hide hg
  clear h hg
  go_enter Tryz.func97, Tryz.ntmps97
  go_wp2_with (at_builtin; refine wpList_app _ rfl (.tmp 10) (.tmp 11) 44 rfl 5 i0 (.int .u8 0) 1 1 Tryz.underlying44 hi hz0 hz1 hz2 rfl (by decide) (.slice none 0 0) 0 [] rfl (World.ownsRow_nil _ _ _ _) _ 0 [] rfl rfl (HLI.out _) (by simp) (by decide) (by decide) ?_)
  intro v1 w1 hown1 hg1 hfr1
  obtain ⟨s1, c1, rfl⟩ := slice_len hown1
  have hbA : Below w.heap.size w (w.alloc (.cells #[.int .i64 n, .slice none 0 0, .bool b] 87)) := (Below.refl _ _).alloc (Nat.le_refl _) _
  have hc1 : Below w.heap.size w w1 := below_of_chg hbA (Chg.of_grown (S := fun _ => False) hg1 (fun j hj => by simp [Value.ownBlock] at hj)) (fun _ e => e.elim)
  have hbox1 : w1.heap[w.heap.size]? = some (.cells #[.int .i64 n, .slice none 0 0, .bool b] 87 (0, 0)) := by
    have hcg := Chg.of_grown (S := fun _ => False) hg1 (fun j hj => by simp [Value.ownBlock] at hj)
    rw [hcg.block w.heap.size (by simp) id]
    exact heap_alloc_new w _
  have k0 : w1.cell? ⟨w.heap.size, 0, none⟩ = some (.int .i64 n) := by rw [cell_of_row _ _ _ _ _ _ hbox1]; rfl
  have k1 : w1.cell? ⟨w.heap.size, 1, none⟩ = some (.slice none 0 0) := by rw [cell_of_row _ _ _ _ _ _ hbox1]; rfl
  have k2 : w1.cell? ⟨w.heap.size, 2, none⟩ = some (.bool b) := by rw [cell_of_row _ _ _ _ _ _ hbox1]; rfl
  have fz1 : w1.frozen? ⟨w.heap.size, 1, none⟩ = false := by simp [World.frozen?, hbox1]
  have hby1 : BytesIn w1 (.slice s1 0 c1) [] := bytesIn_of_owns (l := []) hown1 rfl
  have HBX1 := hide hbox1
  have HC1 := hide hc1
  have HBY1 := hide hby1
  have HFR1 := hide hfr1
  clear hown1 hg1 hfr1 hc1 hbox1 hby1 hbA
  go_upto_region 6 with fail
  obtain ⟨w2, hw2⟩ : ∃ w2, w2 = w1.setCell ⟨w.heap.size, 1, none⟩ (.slice s1 0 c1) := ⟨_, rfl⟩
  rw [← hw2]
  have hC2 : Chg (fun _ => False) w w2 := by rw [hw2]; exact (Chg.of_below HC1.out).setCell (p := ⟨w.heap.size, 1, none⟩) (Or.inl (Nat.le_refl _)) _
  have hb2 : Below w.heap.size w w2 := hC2.below
  have hbox2 : w2.heap[w.heap.size]? = some (.cells #[.int .i64 n, .slice s1 0 c1, .bool b] 87 (0, 0)) := by rw [hw2, blk_set HBX1.out]; rfl
  have m1 : w2.cell? ⟨w.heap.size, 1, none⟩ = some (.slice s1 0 c1) := by rw [cell_of_row _ _ _ _ _ _ hbox2]; rfl
  have hs1 : ∀ j, (Value.slice s1 0 c1).ownBlock = some j → j ≠ w.heap.size := fun j hj e => by
    rcases HFR1.out with e1 | e1
    · rw [e1] at hj; simp [Value.ownBlock] at hj
    · rw [e1] at hj; simp at hj; omega
  have hby2 : BytesIn w2 (.slice s1 0 c1) [] := by
    rw [hw2]
    exact HBY1.out.chg (chg_set (S := fun j => j = w.heap.size) (Chg.refl _ _) rfl) (fun j hj e => hs1 j hj e)
  have HUN : Hid (Calls Tryz.prog 132 #[.pointer (some ⟨eb, 35, none⟩), .slice s1 0 c1] w2.drew fun e w' => e = .returned (.slice none 0 0) ∧ Below w2.heap.size w2 w') := by
    have hd : Below w2.heap.size w2 w2.drew := ⟨rfl, rfl, rfl, Nat.le_refl _, fun _ _ => rfl⟩
    refine (bUnpack_nil eb 35 _ w2.drew (hby2.chg (Chg.of_below (S := fun _ => False) hd) (fun _ _ => id)) ((HG.out.below hb2).below hd)).mono ?_
    rintro e w' ⟨h1, h2⟩
    exact ⟨h1, hd.trans h2⟩
  have HB2 := hide hb2
  have HBX2 := hide hbox2
  clear hw2 hC2 hb2 hbox2 hby2 hs1 k0 k1 k2 fz1
  go_cut [8] (fun s8 wx => s8 = .slice none 0 0 ∧ Below w2.heap.size w2 wx)
  case first =>
    go_region_held3 (fun w' => w'.cell? ⟨w.heap.size, 1, none⟩ = some (.slice s1 0 c1)) (go_keep)
      (first | (go_at_call 132; refine HUN.out.mono ?_; rintro e w3 ⟨rfl, hb3⟩; have t1 : w3.cell? ⟨w.heap.size, 1, none⟩ = some (.slice s1 0 c1) := (by rw [Below.cell hb3 (p := ⟨w.heap.size, 1, none⟩) (lt_of_block HBX2.out)]; exact m1)))
    all_goals (go_wp2_with fail; go_meet; exact ⟨rfl, hb3⟩)
  case rest =>
    obtain ⟨rfl, hb3⟩ := hcut
    obtain ⟨w3, hw3⟩ : ∃ w3, w3 = wc := ⟨wc, rfl⟩
    subst hw3
    have hbw3 : Below w.heap.size w w3 := HB2.out.trans (hb3.mono HB2.out.size)
    have hI3 := H.out.below hbw3
    have hbox3 : w3.heap[w.heap.size]? = some (.cells #[.int .i64 n, .slice s1 0 c1, .bool b] 87 (0, 0)) := by rw [hb3.block _ (lt_of_block HBX2.out)]; exact HBX2.out
    have j0 : w3.cell? ⟨w.heap.size, 0, none⟩ = some (.int .i64 n) := by rw [cell_of_row _ _ _ _ _ _ hbox3]; rfl
    have j2 : w3.cell? ⟨w.heap.size, 2, none⟩ = some (.bool b) := by rw [cell_of_row _ _ _ _ _ _ hbox3]; rfl
    have e31 := hI3.en.c31
    have e32 := hI3.en.c32
    have e33 := hI3.en.c33
    have e34 := hI3.en.c34
    have f31 := hI3.en.fr 31
    have f32 := hI3.en.fr 32
    have f33 := hI3.en.fr 33
    have f34 := hI3.en.fr 34
    have hneb : w.heap.size ≠ eb := by omega
    have HI3 := hide hI3
    have HBW3 := hide hbw3
    have HBX3 := hide hbox3
    clear hI3 hbw3 hbox3 hb3
    go_upto_region 9 with fail
    obtain ⟨w4, hw4⟩ : ∃ w4, w4 = (((w3.setCell ⟨eb, 31, none⟩ (.int .i64 0)).setCell ⟨eb, 32, none⟩ (.slice none 0 0)).setCell ⟨eb, 33, none⟩ (.bool false)).setCell ⟨eb, 34, none⟩ (.int .i64 n) := ⟨_, rfl⟩
    rw [← hw4]
    have hC4 : Chg (fun j => j = eb) w3 w4 := by rw [hw4]; exact chg_set (chg_set (chg_set (chg_set (Chg.refl _ _) rfl) rfl) rfl) rfl
    have hE4 : EnB w4 eb { g.m with bstream := 0, bbytes := .slice none 0 0, blast := false, newest := n } := by rw [hw4]; exact EnB.of (blk_set (blk_set (blk_set (blk_set HI3.out.en.blk)))) rfl
    have hN4 : Next w w4 eb mb g { g with m := { g.m with bstream := 0, bbytes := .slice none 0 0, blast := false, newest := n } } := by
      have := HI3.out.onEnd (S := fun j => j = eb) (m' := { g.m with bstream := 0, bbytes := .slice none 0 0, blast := false, newest := n }) (o' := g.out) (A' := g.ans) (R' := g.res) hC4 (fun j e => Or.inl e) hE4 rfl rfl rfl (owns_chg HI3.out.out hC4 (fun j hj e => by rw [e] at hj; exact owns_ne HI3.out.out HI3.out.en.blk (by decide) hj)) (fun j hj => Or.inl hj) HI3.out.ans (fun _ h => h) (fun _ h => h) HI3.out.res (fun _ h => h)
      exact this.pre HBW3.out
    have hbox4 : w4.heap[w.heap.size]? = some (.cells #[.int .i64 n, .slice s1 0 c1, .bool b] 87 (0, 0)) := by rw [hC4.block _ (lt_of_block HBX3.out) hneb]; exact HBX3.out
    have y0 : w4.cell? ⟨w.heap.size, 0, none⟩ = some (.int .i64 n) := by rw [cell_of_row _ _ _ _ _ _ hbox4]; rfl
    have y2 : w4.cell? ⟨w.heap.size, 2, none⟩ = some (.bool b) := by rw [cell_of_row _ _ _ _ _ _ hbox4]; rfl
    have HADD : Hid (∀ wx, Below w4.heap.size w4 wx → wx.heap[w4.heap.size]? = some (.cells (StM.fresh n b).cells 127 (0, 0)) → Calls Tryz.prog 62 #[.pointer (some ⟨eb, 22, none⟩), .pointer (some ⟨w4.heap.size, 0, none⟩)] wx fun e w' => e = .returned (.tuple #[]) ∧ ∃ g', g'.bare = (g.opened n b).bare ∧ Next w w' eb mb g g') := fun wx hbx hnew => by
      have hNx := hN4.then_below hbx
      have hIx := hNx.inv
      have hsx : StB wx w4.heap.size (StM.fresh n b) := ⟨hnew⟩
      refine (sadd_any eb mb w4.heap.size _ (g.K.map GSt.str) (openS g.K g.L) (StM.fresh n b) wx hIx.en hIx.km hIx.kn hIx.open hsx ?_ ?_ (by rw [openS_length]; exact hL)).mono ?_
      · rw [findK_str]
        rw [List.find?_eq_none.2 fun x hx => by simpa [StM.fresh] using hn x hx]
        rfl
      · have hmap : (openS g.K g.L).map (fun p => p.2.number) = g.L := by
          unfold openS
          rw [List.map_map]
          conv => rhs; rw [← List.map_id g.L]
          apply List.map_congr_left
          intro k hk
          exact (HI3.out.at hk).2
        rw [hmap]
        exact hup
      · rintro e w' ⟨rfl, v, hA⟩
        refine ⟨rfl, _, ?_, Inv.added (n := n) hNx (by have := hN4.chg.size; omega) hsx rfl rfl rfl (fun hf => ?_) hn hA⟩
        · unfold GEnd.opened GEnd.bare
          simp only [GEnd.mk.injEq, true_and, and_true]
          refine ⟨rfl, ?_⟩
          rw [List.map_append, List.map_append]
          rfl
        · have := Foot.lt hN4.inv hf
          omega
    have HN4 := hide hN4
    clear hw4 hC4 hE4 hN4 hbox4 e31 e32 e33 e34 f31 f32 f33 f34 j0 j2
    go_region_law (first
      | (refine step_call rfl 62 Tryz.f62 Tryz.func62 (by kernel_rfl) rfl [.tmp 46, .tmp 53] #[81, 124] rfl [.pointer (some ⟨eb, 22, none⟩), .pointer (some ⟨w4.heap.size, 0, none⟩)] (by simp [Act.eval, Act.put]) (HADD.out _ ⟨rfl, rfl, rfl, by simp, fun k hk => Below.heap_alloc _ _ _ hk⟩ (heap_alloc_new w4 _)) ?_; rintro e w5 ⟨rfl, hx5⟩; refine ⟨_, rfl, ?_⟩; have HX5 := hide hx5; clear hx5))
    all_goals (go_wp2; exact bodyPost_end (results_none rfl _ _ _) rfl ⟨rfl, HX5.out⟩)
end Go.Proofs.YtdccldbefdfppaaGreatDoor
/-
  Package ends: openThere; comeHeaders of a block of no bytes.
-/
namespace Go.Proofs.YtdccldbefdfppaaGreatDoor
set_option linter.unusedVariables false
set_option linter.unusedSimpArgs false
open Go.RowKit

set_option maxRecDepth 100000 in
set_option maxHeartbeats 800000 in
theorem openThere_any (eb : Nat) (m : EndM) (L : List Str) (w : World) (h : EnB w eb m) (ho : OpenS w m.opn L) (hL : L.length ≤ 1048576) :
    Calls Tryz.prog 131 #[.pointer (some ⟨eb, 0, none⟩)] w fun e w' => e = .returned (.int .i64 ((L.length : Int) - (m.hereN L : Nat))) ∧ Below w.heap.size w w' := by
  obtain ⟨sr, cr, hv⟩ := slice_len ho.row
  have c23 := h.c23
  rw [hv] at c23
  have hd : Below w.heap.size w w.drew := ⟨rfl, rfl, rfl, Nat.le_refl _, fun _ _ => rfl⟩
  have HC := hide (openHere_any eb m L w.drew (h.below hd) (ho.below hd) hL)
  have hle : m.hereN L ≤ L.length := List.countP_le_length
  have hw1 : IntKind.i64.wrap ((L.length : Int) - ((m.hereN L : Nat) : Int)) = (L.length : Int) - ((m.hereN L : Nat) : Int) := by rw [IntKind.wrap_i64]; omega
  generalize m.hereN L = H at *
  clear h ho hv hd
  go_enter Tryz.func131, Tryz.ntmps131
  go_upto_region 1 with fail
  go_cut [2] (fun s2 wx => s2 = .int .i64 ((L.length : Int) - (H : Int)) ∧ Below w.heap.size w wx)
  case first =>
    go_region_held3 (fun w' => w'.cell? ⟨eb, 23, none⟩ = some (.slice sr L.length cr)) (go_keep)
      (first | (go_at_call 60; refine HC.out.mono ?_; rintro e w' ⟨rfl, rfl⟩))
    all_goals (go_wp2_with fail; go_meet; exact ⟨rfl, ⟨rfl, rfl, rfl, Nat.le_refl _, fun _ _ => rfl⟩⟩)
  case rest =>
    obtain ⟨rfl, hbx⟩ := hcut
    have HX := hide hbx
    clear hbx
    go_wp2
    go_ret
    exact ⟨rfl, HX.out⟩

theorem below_step {wA W w1 : World} (h : Below wA.heap.size wA W) (h1 : Below W.heap.size W w1) : Below wA.heap.size wA w1 := h.trans (h1.mono h.size)
set_option maxRecDepth 100000 in
set_option maxHeartbeats 1600000 in
theorem comeHeaders_nil (eb mb : Nat) (g : GEnd) (f n : Int) (sv : Option Addr) (cb : Nat) (w : World) (h : Inv w eb mb g) (hg : Gl w) (hge : ∀ j, j < 7 → ¬ Foot eb mb g j) (hsv : sv = none → cb = 0) (hf : 0 ≤ f ∧ f ≤ 255) (hla : hasB f 4 = true) (hop : g.m.opensN n = false) (hnw : g.m.newest < n) (h4 : ((g.L.length : Int) - (g.m.hereN (openS g.K g.L) : Nat)) < 4) (hn : ∀ x ∈ g.K, x.st.number ≠ n) (hup : Rise g.L) (hL : g.L.length ≤ 11) :
    Calls Tryz.prog 96 #[.pointer (some ⟨eb, 0, none⟩), .agg #[.int .i64 1, .int .i64 f, .int .i64 n, .slice sv 0 cb, .slice sv 0 cb]] w fun e w' => e = .returned (.tuple #[]) ∧ ∃ g', g'.bare = (g.opened n (hasB f 1)).bare ∧ Next w w' eb mb g g' := by
  have hbA : Below w.heap.size w (w.alloc (.cells #[.int .i64 1, .int .i64 f, .int .i64 n, .slice sv 0 cb, .slice sv 0 cb] 165)) := (Below.refl _ _).alloc (Nat.le_refl _) _
  have hnew := heap_alloc_new w (.cells #[.int .i64 1, .int .i64 f, .int .i64 n, .slice sv 0 cb, .slice sv 0 cb] 165)
  obtain ⟨wA, hwA⟩ : ∃ wA, wA = w.alloc (.cells #[.int .i64 1, .int .i64 f, .int .i64 n, .slice sv 0 cb, .slice sv 0 cb] 165) := ⟨_, rfl⟩
  rw [← hwA] at hbA hnew
  have hA := h.below hbA
  have HOPN : Hid (∀ wx, Below wA.heap.size wA wx → Calls Tryz.prog 76 #[.pointer (some ⟨eb, 0, none⟩), .int .i64 n] wx fun e w' => e = .returned (.bool false) ∧ w' = wx) := fun wx hx => by
    have := opens_any eb g.m n wx (hA.below hx).en
    rw [show ((n.tmod 2 == 1) == g.m.first) = false from hop] at this
    exact this
  have HOT : Hid (∀ wx, Below wA.heap.size wA wx → Calls Tryz.prog 131 #[.pointer (some ⟨eb, 0, none⟩)] wx fun e w' => e = .returned (.int .i64 ((g.L.length : Int) - (g.m.hereN (openS g.K g.L) : Nat))) ∧ Below wx.heap.size wx w') := fun wx hx => by
    have := openThere_any eb g.m (openS g.K g.L) wx (hA.below hx).en (hA.below hx).open (by rw [openS_length]; omega)
    rw [openS_length] at this
    exact this
  have HHB : Hid (∀ (b : Int) (wx : World), (b = 1 ∨ b = 4) → Calls Tryz.prog 98 #[.agg #[.int .i64 1, .int .i64 f, .int .i64 n, .slice sv 0 cb], .int .i64 b] wx fun e w' => e = .returned (.bool (hasB f b)) ∧ Below wx.heap.size wx w') := fun b wx hb => by
    rcases hb with rfl | rfl
    · exact has_any 1 f n 1 _ wx hf.1 (by omega) (Or.inl rfl)
    · exact has4_any 1 f n (.slice sv 0 cb) wx hf.1 (by omega)
  have HCP : Hid (∀ wx, Below wA.heap.size wA wx → Calls Tryz.prog 97 #[.pointer (some ⟨eb, 0, none⟩), .agg #[.int .i64 n, .slice none 0 0, .bool (hasB f 1)], .slice sv 0 cb, .bool (hasB f 4)] wx fun e w' => e = .returned (.tuple #[]) ∧ (∃ g', g'.bare = (g.opened n (hasB f 1)).bare ∧ Next w w' eb mb g g') ∧ Chg (Foot eb mb g) wx w') := fun wx hx => by
    have hbx := hbA.trans (hx.mono hbA.size)
    rw [hla]
    refine (comePiece_nil eb mb g n (hasB f 1) sv cb wx (h.below hbx) (hg.below hbx) hge hsv hn hup hL).mono ?_
    rintro e w' ⟨rfl, g', h1, h2⟩
    exact ⟨rfl, ⟨g', h1, h2.pre hbx⟩, h2.chg⟩
  have HBOX : Hid (∀ wx, Below wA.heap.size wA wx → wx.cell? ⟨w.heap.size, 0, none⟩ = some (.int .i64 1) ∧ wx.cell? ⟨w.heap.size, 1, none⟩ = some (.int .i64 f) ∧ wx.cell? ⟨w.heap.size, 2, none⟩ = some (.int .i64 n) ∧ wx.cell? ⟨w.heap.size, 3, none⟩ = some (.slice sv 0 cb) ∧ wx.cell? ⟨w.heap.size, 4, none⟩ = some (.slice sv 0 cb) ∧ wx.cell? ⟨eb, 34, none⟩ = some (.int .i64 g.m.newest)) := fun wx hx => by
    have hb : wx.heap[w.heap.size]? = some (.cells #[.int .i64 1, .int .i64 f, .int .i64 n, .slice sv 0 cb, .slice sv 0 cb] 165 (0, 0)) := by rw [hx.block _ (lt_of_block hnew)]; exact hnew
    refine ⟨?_, ?_, ?_, ?_, ?_, (hA.below hx).en.c34⟩ <;> (rw [cell_of_row _ _ _ _ _ _ hb]; rfl)
  have hlt : eb < wA.heap.size := hA.en.lt
  have HNF : Hid (¬ Foot eb mb g w.heap.size) := fun hf => by have := Foot.lt h hf; omega
  have hltb : w.heap.size < wA.heap.size := lt_of_block hnew
  have hle : (n ≤ g.m.newest) = False := eq_false (by omega)
  have HWA := hide hwA
  generalize hZ : ((g.L.length : Int) - (g.m.hereN (openS g.K g.L) : Nat)) = Z at *
  have hz4 : ((4 : Int) ≤ Z) = False := eq_false (by omega)
  have HBA := hide hbA
  clear h hg hA hbA hnew hop hn hup hf hla hZ h4
  go_enter Tryz.func96, Tryz.ntmps96
  go_upto_region 1 with fail
  rw [← HWA.out]
  clear hwA
  obtain ⟨z0, z1, z2, z3, z4, z34⟩ := HBOX.out wA (Below.refl _ _)
  go_cut [26] (fun s26 wx => s26 = .bool false ∧ Below wA.heap.size wA wx)
  case first =>
    go_region_held3 (fun w' => w'.cell? ⟨w.heap.size, 2, none⟩ = some (.int .i64 n) ∧ w'.cell? ⟨eb, 34, none⟩ = some (.int .i64 g.m.newest)) (go_keep)
      (first
        | (go_at_call 76; refine (HOPN.out wA.drew ⟨rfl, rfl, rfl, Nat.le_refl _, fun _ _ => rfl⟩).mono ?_; rintro e w' ⟨rfl, rfl⟩)
        | (go_at_call 131; refine (HOT.out wA.drew ⟨rfl, rfl, rfl, Nat.le_refl _, fun _ _ => rfl⟩).mono ?_; rintro e w1 ⟨rfl, hb1⟩; have hB1 : Below wA.heap.size wA w1 := ⟨hb1.os, hb1.tape, hb1.output, hb1.size, hb1.block⟩; have t2 := (HBOX.out w1 hB1).2.2.1; have t34 := (HBOX.out w1 hB1).2.2.2.2.2))
    all_goals (go_wp2_with fail; go_meet; exact ⟨by simp [hz4], hB1⟩)
  case rest =>
    obtain ⟨rfl, hbx⟩ := hcut
    obtain ⟨wB, hwB⟩ : ∃ wB, wB = wc := ⟨wc, rfl⟩
    subst hwB
    have HX := hide hbx
    obtain ⟨y0, y1, y2, y3, y4, y34⟩ := HBOX.out wB hbx
    clear hbx z0 z1 z2 z3 z4 z34
    go_upto_region 3 with fail
    have hBB : Below wA.heap.size wA wB.drew := ⟨HX.out.os, HX.out.tape, HX.out.output, HX.out.size, HX.out.block⟩
    go_region_held3 (fun w' => w'.cell? ⟨w.heap.size, 0, none⟩ = some (.int .i64 1) ∧ w'.cell? ⟨w.heap.size, 1, none⟩ = some (.int .i64 f) ∧ w'.cell? ⟨w.heap.size, 2, none⟩ = some (.int .i64 n) ∧ w'.cell? ⟨w.heap.size, 3, none⟩ = some (.slice sv 0 cb) ∧ w'.cell? ⟨w.heap.size, 4, none⟩ = some (.slice sv 0 cb)) (go_keep)
      (first
        | (go_at_call 98; refine (HHB.out _ _ (by first | exact Or.inl rfl | exact Or.inr rfl)).mono ?_; rintro e w1 ⟨rfl, hb1⟩; first | (have hB1 : Below wA.heap.size wA w1 := below_step hBB hb1; obtain ⟨x0, x1, x2, x3, x4, x34⟩ := HBOX.out w1 hB1; clear hb1) | (have hB2 : Below wA.heap.size wA w1 := below_step hB1 hb1; obtain ⟨v0, v1, v2, v3, v4, v34⟩ := HBOX.out w1 hB2; clear hb1))
        | (go_at_call 97; refine (HCP.out _ hB2).mono ?_; rintro e w3 ⟨rfl, hx3, hc3⟩; have hltb2 := Nat.lt_of_lt_of_le hltb hB2.size; have r0 : w3.cell? ⟨w.heap.size, 0, none⟩ = some (.int .i64 1) := (by rw [hc3.cell (p := ⟨w.heap.size, 0, none⟩) hltb2 HNF.out]; exact v0); have r1 : w3.cell? ⟨w.heap.size, 1, none⟩ = some (.int .i64 f) := (by rw [hc3.cell (p := ⟨w.heap.size, 1, none⟩) hltb2 HNF.out]; exact v1); have r2 : w3.cell? ⟨w.heap.size, 2, none⟩ = some (.int .i64 n) := (by rw [hc3.cell (p := ⟨w.heap.size, 2, none⟩) hltb2 HNF.out]; exact v2); have r3 : w3.cell? ⟨w.heap.size, 3, none⟩ = some (.slice sv 0 cb) := (by rw [hc3.cell (p := ⟨w.heap.size, 3, none⟩) hltb2 HNF.out]; exact v3); have r4 : w3.cell? ⟨w.heap.size, 4, none⟩ = some (.slice sv 0 cb) := (by rw [hc3.cell (p := ⟨w.heap.size, 4, none⟩) hltb2 HNF.out]; exact v4); have HX3 := hide hx3; clear hx3 hc3))
    all_goals (go_wp2; exact bodyPost_end (results_none rfl _ _ _) rfl ⟨rfl, HX3.out⟩)
end Go.Proofs.YtdccldbefdfppaaGreatDoor
/-
  Package ends: keep.
-/
namespace Go.Proofs.YtdccldbefdfppaaGreatDoor
set_option linter.unusedVariables false
set_option linter.unusedSimpArgs false
open Go.RowKit

/-- A stream with more to read. -/
def StM.kept (s : StM) (n k : Nat) (v : Value) (b : Bool) : StM := { s with receive := s.receive - n, owed := s.owed + k, unread := v, hasAll := b }
structure KeptS (w w' : World) (eb sb : Nat) (m : EndM) (s : StM) (u c : List UInt8) (n k : Nat) (b : Bool) (v : Value) : Prop where
  en : EnB w' eb (m.owes k)
  st : StB w' sb (s.kept n k v b)
  row : w'.ownsRow 0 5 1 v (u ++ c).length ((u ++ c).map B)
  chg : Chg (fun j => j = eb ∨ j = sb ∨ s.unread.ownBlock = some j) w w'
  fresh : ∀ j, v.ownBlock = some j → s.unread.ownBlock = some j ∨ w.heap.size ≤ j

set_option maxRecDepth 100000 in
set_option maxHeartbeats 3200000 in
theorem keep_any (eb sb : Nat) (m : EndM) (st : StM) (u c : List UInt8) (kf ff sf : Int) (sv : Option Addr) (n k cb : Nat) (sc : Option Addr) (cc : Nat) (w : World) (h : EnB w eb m) (hs : StB w sb st) (hu : w.ownsRow 0 5 1 st.unread u.length (u.map B)) (hc : BytesIn w (.slice sc c.length cc) c) (hcn : ∀ j, (Value.slice sc c.length cc).ownBlock = some j → j ≠ eb ∧ j ≠ sb) (hn : n = c.length + k) (hff : 0 ≤ ff ∧ ff ≤ 255) (hcl : ({ st with hasAll := hasB ff 1 } : StM).closed = false) (hul : u.length ≤ 1073741824) (hcu : c.length ≤ 1073741824) (hk : k ≤ 1073741824)
    (b1 : -1152921504606846976 ≤ m.owed ∧ m.owed ≤ 1152921504606846976) (b2 : -1152921504606846976 ≤ st.owed ∧ st.owed ≤ 1152921504606846976) (b3 : -1152921504606846976 ≤ st.receive ∧ st.receive ≤ 1152921504606846976) :
    Calls Tryz.prog 130 #[.pointer (some ⟨eb, 0, none⟩), .pointer (some ⟨sb, 0, none⟩), .agg #[.int .i64 kf, .int .i64 ff, .int .i64 sf, .slice sv n cb, .slice sc c.length cc]] w fun e w' => e = .returned (.tuple #[]) ∧ ∃ v, KeptS w w' eb sb m st u c n k (hasB ff 1) v := by
  obtain ⟨i0, hi, hz0, hz1, hz2⟩ := info_parts Tryz.info5
  obtain ⟨su, cu, hsu⟩ := slice_len hu
  have hlt := h.lt
  have hslt := hs.lt
  have hne : sb ≠ eb := block_ne hs.blk h.blk (by decide)
  have c6 := h.c6
  have s1 := hs.c1
  have s2 := hs.c2
  have s11 := hs.c11
  rw [hsu] at s11
  have f6 := h.fr 6
  have g1 := hs.fr 1
  have g2 := hs.fr 2
  obtain ⟨b1a, b1b⟩ := b1
  obtain ⟨b2a, b2b⟩ := b2
  obtain ⟨b3a, b3b⟩ := b3
  have hw1 : IntKind.i64.wrap (st.receive - (n : Int)) = st.receive - n := by rw [IntKind.wrap_i64]; omega
  have hw2 : IntKind.i64.wrap (st.owed + (k : Int)) = st.owed + k := by rw [IntKind.wrap_i64]; omega
  have hw3 : IntKind.i64.wrap (m.owed + (k : Int)) = m.owed + k := by rw [IntKind.wrap_i64]; omega
  have hwn : IntKind.i64.wrap ((n : Int) - (c.length : Int)) = (k : Int) := by rw [IntKind.wrap_i64]; omega
  have hnI : (n : Int) ≤ 4294967296 := by omega
  have H := hide h
  have HS := hide hs
  have HU := hide hu
  have HC := hide hc
  have HSU := hide hsu
  have HCN := hide hcn
  have HCL := hide hcl
  clear h hs hu hc hn hcn hcl hsu
  go_enter Tryz.func130, Tryz.ntmps130
  go_upto_region 2 with fail
  go_cut [] (fun wx => StB wx sb { st with receive := st.receive - n } ∧ Chg (fun j => j = sb) w wx ∧ wx.heap[w.heap.size]? = some (.cells #[.int .i64 kf, .int .i64 ff, .int .i64 sf, .slice sv n cb, .slice sc c.length cc] 162 (0, 0)))
  case first =>
    go_region_law (fail)
    all_goals (go_wp2_with fail; go_meet)
    all_goals
      have q : StB (w.setCell ⟨sb, 1, none⟩ (.int .i64 (st.receive - n))) sb { st with receive := st.receive - n } := StB.of (blk_set HS.out.blk) rfl
      have hsz : (w.setCell ⟨sb, 1, none⟩ (.int .i64 (st.receive - n))).heap.size = w.heap.size := by simp [World.setCell]
      have hnew := heap_alloc_new (w.setCell ⟨sb, 1, none⟩ (.int .i64 (st.receive - n))) (.cells #[.int .i64 kf, .int .i64 ff, .int .i64 sf, .slice sv n cb, .slice sc c.length cc] 162)
      rw [hsz] at hnew
      exact ⟨⟨(q.below ((Below.refl _ _).alloc (Nat.le_refl _) _)).blk⟩, ((chg_set (S := fun j => j = sb) (Chg.refl _ _) rfl).alloc _).drew, hnew⟩
  case rest =>
    obtain ⟨hs4, hc4, hb4⟩ := hcut
    obtain ⟨w4, hw4⟩ : ∃ w4, w4 = wc := ⟨wc, rfl⟩
    subst hw4
    have he4 : EnB w4 eb m := H.out.chg hc4 (fun e => hne e.symm)
    have hu4 : w4.ownsRow 0 5 1 st.unread u.length (u.map B) := owns_chg HU.out hc4 (fun j hj e => by rw [e] at hj; exact owns_ne HU.out HS.out.blk (by decide) hj)
    have d2 : w4.cell? ⟨sb, 2, none⟩ = some (.int .i64 st.owed) := hs4.c2
    have d6 : w4.cell? ⟨eb, 6, none⟩ = some (.int .i64 m.owed) := he4.c6
    have e2 := hs4.fr 2
    have e6 := he4.fr 6
    have hlt4 : eb < w4.heap.size := he4.lt
    have hslt4 : sb < w4.heap.size := hs4.lt
    have HS4 := hide hs4
    have HC4 := hide hc4
    have HB4 := hide hb4
    have HE4 := hide he4
    have HU4 := hide hu4
    clear hs4 hc4 hb4 he4 hu4
    go_upto_region 5 with fail
    obtain ⟨w5, hw5⟩ : ∃ w5, w5 = (w4.setCell ⟨sb, 2, none⟩ (.int .i64 (st.owed + k))).setCell ⟨eb, 6, none⟩ (.int .i64 (m.owed + k)) := ⟨_, rfl⟩
    rw [← hw5]
    have hc45 : Chg (fun j => j = eb ∨ j = sb) w4 w5 := by rw [hw5]; exact chg_set (chg_set (Chg.refl _ _) (Or.inr rfl)) (Or.inl rfl)
    have hs5 : StB w5 sb { st with receive := st.receive - n, owed := st.owed + k } := by
      rw [hw5]
      exact (StB.of (blk_set HS4.out.blk) rfl : StB (w4.setCell ⟨sb, 2, none⟩ (.int .i64 (st.owed + k))) sb { st with receive := st.receive - n, owed := st.owed + k }).chg (chg_set (S := fun j => j = eb) (Chg.refl _ _) rfl) hne
    have he5 : EnB w5 eb (m.owes k) := by
      rw [hw5]
      exact EnB.of (blk_set (HE4.out.chg (chg_set (S := fun j => j = sb) (Chg.refl _ _) rfl) (fun e => hne e.symm)).blk) rfl
    have hc5 : Chg (fun j => j = eb ∨ j = sb) w w5 := (HC4.out.mono fun j _ e => Or.inr e).trans (hc45.mono fun j _ e => Or.inr e)
    have hu5 : w5.ownsRow 0 5 1 st.unread u.length (u.map B) := owns_chg HU.out hc5 (fun j hj e => by
      rcases e with e | e
      · rw [e] at hj; exact owns_ne HU.out H.out.blk (by decide) hj
      · rw [e] at hj; exact owns_ne HU.out HS.out.blk (by decide) hj)
    have hby5 : BytesIn w5 (.slice sc c.length cc) c := HC.out.chg hc5 (fun j hj e => by
      rcases e with e | e
      · exact (HCN.out j hj).1 e
      · exact (HCN.out j hj).2 e)
    have hb5 : w5.heap[w.heap.size]? = some (.cells #[.int .i64 kf, .int .i64 ff, .int .i64 sf, .slice sv n cb, .slice sc c.length cc] 162 (0, 0)) := by
      rw [hc45.block w.heap.size (lt_of_block HB4.out) (by omega)]
      exact HB4.out
    have k11 : w5.cell? ⟨sb, 11, none⟩ = some (.slice su u.length cu) := by rw [hs5.c11, ← HSU.out]
    have k4 : w5.cell? ⟨w.heap.size, 4, none⟩ = some (.slice sc c.length cc) := by rw [cell_of_row _ _ _ _ _ _ hb5]; rfl
    have hlt5 : eb < w5.heap.size := he5.lt
    have hslt5 : sb < w5.heap.size := hs5.lt
    have HS5 := hide hs5
    have HE5 := hide he5
    have HC5 := hide hc5
    have HU5 := hide hu5
    have HY5 := hide hby5
    have HB5 := hide hb5
    have HUD : Hid (w5.drew.ownsRow 0 5 1 st.unread u.length (u.map B)) := hu5
    have HSD : Hid (w5.drew.heap[sb]? = some (.cells ({ st with receive := st.receive - n, owed := st.owed + k } : StM).cells 127 (0, 0))) := hs5.blk
    clear hs5 he5 hc5 hu5 hby5 hb5 hc45 hw5 d2 d6 e2 e6
    go_cut [] (fun wx => ∃ v, StB wx sb { st with receive := st.receive - n, owed := st.owed + k, unread := v } ∧ EnB wx eb (m.owes k) ∧ wx.ownsRow 0 5 1 v (u ++ c).length ((u ++ c).map B) ∧ Chg (fun j => j = sb ∨ st.unread.ownBlock = some j) w5 wx ∧ (∀ j, v.ownBlock = some j → st.unread.ownBlock = some j ∨ w.heap.size ≤ j) ∧ wx.heap[w.heap.size]? = some (.cells #[.int .i64 kf, .int .i64 ff, .int .i64 sf, .slice sv n cb, .slice sc c.length cc] 162 (0, 0)))
    case first =>
      go_region_law (first
        | (refine step_appd rfl (.tmp 54) (.tmp 56) 44 rfl 5 i0 (.int .u8 0) 1 1 Tryz.underlying44 hi hz0 hz1 hz2 rfl (by decide) (.slice su u.length cu) u.length (u.map B) (by simp [Act.eval, Act.put]) (by rw [← HSU.out]; exact HU5.out) _ c.length (c.map B) (by simp [Act.eval, Act.put]) (by simp) (lies_of_bytesIn HY5.out) (by intro x hx; obtain ⟨y, -, rfl⟩ := List.mem_map.1 hx; rfl) (by unfold maxLen; omega) (by omega) ?_; intro v3 w3 ho3 hg3 hfr3; obtain ⟨s3, q3, hv3⟩ := slice_len ho3; subst hv3; have hb3 := kept_block HUD.out (by rw [HSU.out]; exact hg3) HSD.out (by decide); have k11c : w3.cell? ⟨sb, 11, none⟩ = some (.slice su u.length cu) := (by rw [cell_of_row w3 sb _ _ _ _ hb3, ← HSU.out]; rfl); have f11c : w3.frozen? ⟨sb, 11, none⟩ = false := (by simp [World.frozen?, hb3]); have HO3 := hide ho3; have HG3 := hide hg3; have HF3 := hide hfr3; have HBB3 := hide hb3; clear ho3 hg3 hfr3 hb3))
      all_goals (go_wp2_with fail; go_meet)
      all_goals
        have hg5 : Chg (fun j => st.unread.ownBlock = some j) w5 w3 := by
          have q : Chg (fun j => st.unread.ownBlock = some j) w5.drew w3 := Chg.of_grown HG3.out (fun j hj => by rw [HSU.out]; exact hj)
          exact ⟨q.os, q.tape, q.output, q.size, q.block⟩
        have hen3 : EnB w3 eb (m.owes k) := HE5.out.chg hg5 (fun e => owns_ne HU5.out HE5.out.blk (by decide) e)
        have hst3 : StB w3 sb { st with receive := st.receive - n, owed := st.owed + k } := ⟨HBB3.out⟩
        have hset : Chg (fun j => j = sb) w3 (w3.setCell ⟨sb, 11, none⟩ (.slice s3 (u.length + c.length) q3)) := chg_set (Chg.refl _ _) rfl
        refine ⟨.slice s3 (u.length + c.length) q3, StB.of (blk_set hst3.blk) rfl, hen3.chg hset (fun e => hne e.symm), ?_, (hg5.mono fun j _ e => Or.inr e).trans (hset.mono fun j _ e => Or.inr (Or.inl e)), ?_, ?_⟩
        · rw [List.length_append, List.map_append]
          exact owns_chg HO3.out hset (fun j hj e => by rw [e] at hj; exact owns_ne HO3.out HBB3.out (by decide) hj)
        · intro j hj
          have hz := HC5.out.size
          rcases HF3.out with e | e
          · rw [e] at hj; exact Or.inl (by rw [HSU.out]; exact hj)
          · rw [e] at hj; simp at hj; exact Or.inr (by omega)
        · rw [hset.block w.heap.size (by have := hg5.size; have := lt_of_block HB5.out; omega) (by omega), hg5.block w.heap.size (lt_of_block HB5.out) (fun e => owns_ne HU5.out HB5.out (by decide) e)]
          exact HB5.out
    case rest =>
      obtain ⟨v, hs6, he6, hr6, hc6, hf6, hb6⟩ := hcut
      obtain ⟨w6, hw6⟩ : ∃ w6, w6 = wc := ⟨wc, rfl⟩
      subst hw6
      have k0 : w6.cell? ⟨w.heap.size, 0, none⟩ = some (.int .i64 kf) := by rw [cell_of_row _ _ _ _ _ _ hb6]; rfl
      have k1 : w6.cell? ⟨w.heap.size, 1, none⟩ = some (.int .i64 ff) := by rw [cell_of_row _ _ _ _ _ _ hb6]; rfl
      have k2 : w6.cell? ⟨w.heap.size, 2, none⟩ = some (.int .i64 sf) := by rw [cell_of_row _ _ _ _ _ _ hb6]; rfl
      have k3 : w6.cell? ⟨w.heap.size, 3, none⟩ = some (.slice sv n cb) := by rw [cell_of_row _ _ _ _ _ _ hb6]; rfl
      have HH := hide (has_any kf ff sf 1 (.slice sv n cb) w6 hff.1 (by omega) (Or.inl rfl))
      have HS6 := hide hs6
      have HE6 := hide he6
      have HR6 := hide hr6
      have HC6 := hide hc6
      have HF6 := hide hf6
      clear hs6 he6 hr6 hc6 hf6 hb6
      go_wp2_with fail
      refine HH.out.mono ?_
      rintro e w7 ⟨rfl, hb7⟩
      have hs7 := HS6.out.below hb7
      have k9 := hs7.c9
      have f9 := hs7.fr 9
      have hset : Chg (fun j => j = sb) w7 (w7.setCell ⟨sb, 9, none⟩ (.bool (hasB ff 1))) := chg_set (Chg.refl _ _) rfl
      have hs8 : StB (w7.setCell ⟨sb, 9, none⟩ (.bool (hasB ff 1))) sb (st.kept n k v (hasB ff 1)) := StB.of (blk_set hs7.blk) rfl
      have HSE := hide (settle_no eb sb (st.kept n k v (hasB ff 1)) _ hs8 (by have := HCL.out; exact this))
      have he8 := (HE6.out.below hb7).chg hset (fun e => hne e.symm)
      have hr8 := owns_chg (owns_chg HR6.out (Chg.of_below (S := fun _ => False) hb7) (fun _ _ => id)) hset (fun j hj e => by rw [e] at hj; exact owns_ne HR6.out HS6.out.blk (by decide) hj)
      have hc8 : Chg (fun j => j = eb ∨ j = sb ∨ st.unread.ownBlock = some j) w (w7.setCell ⟨sb, 9, none⟩ (.bool (hasB ff 1))) := (((HC5.out.mono fun j _ e => by
          rcases e with e | e
          · exact Or.inl e
          · exact Or.inr (Or.inl e)).trans (HC6.out.mono fun j _ e => Or.inr (Or.inr e))).then_below hb7).trans (hset.mono fun j _ e => Or.inr (Or.inr (Or.inl e)))
      have HS8 := hide hs8
      have HE8 := hide he8
      have HR8 := hide hr8
      have HC8 := hide hc8
      clear hs7 hset hs8 he8 hr8 hc8 hb7
      generalize hhb : hasB ff 1 = hb at *
      have HHB := hide hhb
      clear hhb
      go_wp2_with fail
      refine HSE.out.mono ?_
      rintro e w9 ⟨rfl, hb9⟩
      have HB9 := hide hb9
      clear hb9
      go_wp2
      have hhb := HHB.out
      subst hhb
      exact bodyPost_end (results_none rfl _ _ _) rfl ⟨rfl, v, ⟨HE8.out.below HB9.out, HS8.out.below HB9.out, owns_chg HR8.out (Chg.of_below (S := fun _ => False) HB9.out) (fun _ _ => id), HC8.out.then_below HB9.out, HF6.out⟩⟩
end Go.Proofs.YtdccldbefdfppaaGreatDoor
/-
  Package ends: comeData, of Data that is not padded.
-/
namespace Go.Proofs.YtdccldbefdfppaaGreatDoor
set_option linter.unusedVariables false
set_option linter.unusedSimpArgs false
open Go.RowKit

def EndM.got_ (m : EndM) (n : Nat) : EndM := ({ m with receive := m.receive - n } : EndM).counted n
/-- The value of Data without padding. -/
def dataV (f n : Int) (sv : Option Addr) (len cb : Nat) : Value := .agg #[.int .i64 0, .int .i64 f, .int .i64 n, .slice sv len cb, .slice sv len cb]
theorem owes_zero (m : EndM) : m.owes 0 = m := by unfold EndM.owes; simp
theorem counted_same (m : EndM) (n : Int) : (m.counted n).known = m.known ∧ (m.counted n).opn = m.opn ∧ (m.counted n).got = m.got ∧ (m.counted n).out = m.out ∧ (m.counted n).answers = m.answers ∧ (m.counted n).resets = m.resets ∧ (m.counted n).owed = m.owed ∧ (m.counted n).own = m.own := by
  unfold EndM.counted
  split
  · exact ⟨rfl, rfl, rfl, rfl, rfl, rfl, rfl, rfl⟩
  · split
    · exact ⟨rfl, rfl, rfl, rfl, rfl, rfl, rfl, rfl⟩
    · exact ⟨rfl, rfl, rfl, rfl, rfl, rfl, rfl, rfl⟩

set_option maxRecDepth 100000 in
set_option maxHeartbeats 1200000 in
/-- Data for a stream that this end has reset. -/
theorem comeData_lost (eb mb : Nat) (g : GEnd) (s : GSt) (f : Int) (sv : Option Addr) (len cb : Nat) (w : World) (h : Inv w eb mb g) (hs : s ∈ g.K) (ha : s.st.announced = true) (hh : s.st.hasAll = false) (hr : s.st.reset = 1) (hlen : len ≤ 1073741824) (hfl : len = 0 ∨ (len : Int) ≤ g.m.receive)
    (b1 : -1099511627776 ≤ g.m.receive ∧ g.m.receive ≤ 1099511627776) (b2 : -1099511627776 ≤ g.m.owed ∧ g.m.owed ≤ 1099511627776) (b3 : 0 ≤ g.m.count ∧ g.m.count ≤ 1099511627776) :
    Calls Tryz.prog 95 #[.pointer (some ⟨eb, 0, none⟩), dataV f s.st.number sv len cb] w fun e w' => e = .returned (.tuple #[]) ∧ Next w w' eb mb g { g with m := (g.m.got_ len).owes len } := by
  have hbA : Below w.heap.size w (w.alloc (.cells #[.int .i64 0, .int .i64 f, .int .i64 s.st.number, .slice sv len cb, .slice sv len cb] 162)) := (Below.refl _ _).alloc (Nat.le_refl _) _
  have hnew := heap_alloc_new w (.cells #[.int .i64 0, .int .i64 f, .int .i64 s.st.number, .slice sv len cb, .slice sv len cb] 162)
  obtain ⟨wA, hwA⟩ : ∃ wA, wA = w.alloc (.cells #[.int .i64 0, .int .i64 f, .int .i64 s.st.number, .slice sv len cb, .slice sv len cb] 162) := ⟨_, rfl⟩
  have hA := h.below hbA
  have han := announced_any eb mb g.m _ s.st.number _ hA.en h.km hA.kn
  rw [hA.find hs] at han
  simp only [GSt.str, ha, if_true] at han
  have hir := isReset_any s.sb s.st _ (hA.st hs)
  rw [show (!(s.st.reset == 0)) = true from by rw [hr]; rfl] at hir
  rw [← hwA] at hbA hA han hir hnew
  have HAN := hide han
  have HIR := hide hir
  have k9 := (hA.st hs).c9
  rw [hh] at k9
  have k10 := (hA.st hs).c10
  rw [hr] at k10
  have k5 := hA.en.c5
  have f5 := hA.en.fr 5
  have n2 : wA.cell? ⟨w.heap.size, 2, none⟩ = some (.int .i64 s.st.number) := by rw [cell_of_row _ _ _ _ _ _ hnew]; rfl
  have n3 : wA.cell? ⟨w.heap.size, 3, none⟩ = some (.slice sv len cb) := by rw [cell_of_row _ _ _ _ _ _ hnew]; rfl
  obtain ⟨b1a, b1b⟩ := b1
  obtain ⟨b2a, b2b⟩ := b2
  have hset : Chg (fun j => j = eb) wA (wA.setCell ⟨eb, 5, none⟩ (.int .i64 (g.m.receive - len))) := chg_set (Chg.refl _ _) rfl
  have hen5 : EnB (wA.setCell ⟨eb, 5, none⟩ (.int .i64 (g.m.receive - len))) eb { g.m with receive := g.m.receive - len } := EnB.of (blk_set hA.en.blk) rfl
  have HTC := hide (tcount_any eb { g.m with receive := g.m.receive - len } len _ hen5 b3.1 (by have := b3.2; show g.m.count ≤ _; omega) (by omega) (by omega))
  have hsne := hA.st_eb hs
  have HIR2 : Hid (∀ w1, Chg (fun j => j = eb) wA w1 → Calls Tryz.prog 73 #[.pointer (some ⟨s.sb, 0, none⟩)] w1 fun e w' => e = .returned (.bool true) ∧ w' = w1) := fun w1 hc => by
    have := isReset_any s.sb s.st w1 ((hA.st hs).chg hc hsne)
    rw [show (!(s.st.reset == 0)) = true from by rw [hr]; rfl] at this
    exact this
  obtain ⟨hq1, hq2, hq3, hq4, hq5, hq6, hq7, hq8⟩ := counted_same { g.m with receive := g.m.receive - len } len
  have HEND : Hid (∀ w1, EnB w1 eb (g.m.got_ len) → Chg (fun j => j = eb) (wA.setCell ⟨eb, 5, none⟩ (.int .i64 (g.m.receive - len))) w1 → Next w (w1.setCell ⟨eb, 6, none⟩ (.int .i64 (g.m.owed + len))) eb mb g { g with m := (g.m.got_ len).owes len }) := fun w1 he hc => by
    have hc2 : Chg (fun j => j = eb) wA (w1.setCell ⟨eb, 6, none⟩ (.int .i64 (g.m.owed + len))) := chg_set (hset.trans (hc.mono fun j _ e => Or.inr e)) rfl
    have he2 : EnB (w1.setCell ⟨eb, 6, none⟩ (.int .i64 (g.m.owed + len))) eb ((g.m.got_ len).owes len) := EnB.of (blk_set he.blk) (by unfold EndM.owes EndM.got_; rw [hq7]; rfl)
    have hn := hA.onEnd (S := fun j => j = eb) (m' := (g.m.got_ len).owes len) (o' := g.out) (A' := g.ans) (R' := g.res) hc2 (fun j e => Or.inl e) he2 hq1 hq2 hq3 (by
      rw [show ((g.m.got_ len).owes len).out = g.m.out from hq4]
      exact owns_chg hA.out hc2 (fun j hj e => by rw [e] at hj; exact owns_ne hA.out hA.en.blk (by decide) hj)) (fun j hj => Or.inl (by rw [← hq4]; exact hj)) (by rw [show ((g.m.got_ len).owes len).answers = g.m.answers from hq5]; exact hA.ans) (fun _ ha => ha) (fun j hj => by rw [← hq5]; exact hj) (by rw [show ((g.m.got_ len).owes len).resets = g.m.resets from hq6]; exact hA.res) (fun j hj => by rw [← hq6]; exact hj)
    exact hn.pre hbA
  have HOW : Hid ((g.m.got_ len).owed = g.m.owed) := hq7
  have hlt : eb < wA.heap.size := hA.en.lt
  have hw1 : IntKind.i64.wrap (g.m.receive - (len : Int)) = g.m.receive - len := by rw [IntKind.wrap_i64]; omega
  have hw2 : IntKind.i64.wrap (g.m.owed + (len : Int)) = g.m.owed + len := by rw [IntKind.wrap_i64]; omega
  have HWA := hide hwA
  clear h hA han hir hbA hnew hset hen5 hq1 hq2 hq3 hq4 hq5 hq6 hq7 hq8 b3
  unfold dataV
  go_enter Tryz.func95, Tryz.ntmps95
  go_wp2_with fail
  rw [← HWA.out]
  clear hwA
  refine HAN.out.mono ?_
  rintro e w' ⟨hw', rfl⟩
  rw [hw']
  clear hw' w'
  by_cases hz : len = 0
  · have hge : ((1 : Int) ≤ (len : Int)) = False := eq_false (by omega)
    clear hz hfl
    go_wp2_with fail
    refine HTC.out.mono ?_
    rintro e w1 ⟨rfl, he1, hc1⟩
    have k6 : w1.cell? ⟨eb, 6, none⟩ = some (.int .i64 g.m.owed) := by rw [he1.c6, show (({ g.m with receive := g.m.receive - len } : EndM).counted len).owed = g.m.owed from HOW.out]
    have f6 := he1.fr 6
    have HI2 := hide (HIR2.out w1 ((chg_set (S := fun j => j = eb) (Chg.refl _ _) rfl : Chg (fun j => j = eb) wA (wA.setCell ⟨eb, 5, none⟩ (.int .i64 (g.m.receive - len)))).trans (hc1.mono fun j _ e => Or.inr e)))
    have HN := hide (HEND.out w1 he1 hc1)
    clear he1 hc1
    go_wp2_with fail
    refine HI2.out.mono ?_
    rintro e w' ⟨rfl, hw'⟩
    rw [hw']
    clear hw' w'
    go_wp2
    refine bodyPost_ret (v := .tuple #[]) ?_ rfl ⟨rfl, HN.out⟩
    simp [results, Tryz.results95, go_sem]
  · have hge : ((1 : Int) ≤ (len : Int)) = True := eq_true (by omega)
    have hgt : ((g.m.receive : Int) < (len : Int)) = False := eq_false (by omega)
    clear hz hfl
    go_wp2_with fail
    refine HIR.out.mono ?_
    rintro e w' ⟨rfl, hw'⟩
    rw [hw']
    clear hw' w'
    go_wp2_with fail
    refine HTC.out.mono ?_
    rintro e w1 ⟨rfl, he1, hc1⟩
    have k6 : w1.cell? ⟨eb, 6, none⟩ = some (.int .i64 g.m.owed) := by rw [he1.c6, show (({ g.m with receive := g.m.receive - len } : EndM).counted len).owed = g.m.owed from HOW.out]
    have f6 := he1.fr 6
    have HI2 := hide (HIR2.out w1 ((chg_set (S := fun j => j = eb) (Chg.refl _ _) rfl : Chg (fun j => j = eb) wA (wA.setCell ⟨eb, 5, none⟩ (.int .i64 (g.m.receive - len)))).trans (hc1.mono fun j _ e => Or.inr e)))
    have HN := hide (HEND.out w1 he1 hc1)
    clear he1 hc1
    go_wp2_with fail
    refine HI2.out.mono ?_
    rintro e w' ⟨rfl, hw'⟩
    rw [hw']
    clear hw' w'
    go_wp2
    refine bodyPost_ret (v := .tuple #[]) ?_ rfl ⟨rfl, HN.out⟩
    simp [results, Tryz.results95, go_sem]

/-- Data is laid down to be read. -/
def GSt.more (s : GSt) (b : List UInt8) (e : Bool) : GSt := { s with st := { s.st with receive := s.st.receive - b.length, hasAll := e }, un := s.un ++ b }
set_option maxRecDepth 100000 in
set_option maxHeartbeats 1200000 in
/-- Data for a stream that is open. -/
theorem comeData_kept (eb mb : Nat) (g : GEnd) (s : GSt) (f : Int) (sv : Option Addr) (body : List UInt8) (cb : Nat) (w : World) (h : Inv w eb mb g) (hs : s ∈ g.K) (ha : s.st.announced = true) (hh : s.st.hasAll = false) (hr : s.st.reset = 0) (hf : 0 ≤ f ∧ f ≤ 255) (hcl : ({ s.st with hasAll := hasB f 1 } : StM).closed = false) (hbd : BytesIn w (.slice sv body.length cb) body) (hbn : ∀ j, (Value.slice sv body.length cb).ownBlock = some j → ¬ Foot eb mb g j) (hlen : body.length ≤ 1073741824) (hun : s.un.length ≤ 1073741824) (hfl : body.length = 0 ∨ ((body.length : Int) ≤ g.m.receive ∧ (body.length : Int) ≤ g.m.own + s.st.receive))
    (b1 : -1099511627776 ≤ g.m.receive ∧ g.m.receive ≤ 1099511627776) (b2 : -1099511627776 ≤ g.m.owed ∧ g.m.owed ≤ 1099511627776) (b3 : 0 ≤ g.m.count ∧ g.m.count ≤ 1099511627776) (b4 : -1099511627776 ≤ g.m.own ∧ g.m.own ≤ 1099511627776) (b5 : -1099511627776 ≤ s.st.receive ∧ s.st.receive ≤ 1099511627776) (b6 : -1099511627776 ≤ s.st.owed ∧ s.st.owed ≤ 1099511627776) :
    Calls Tryz.prog 95 #[.pointer (some ⟨eb, 0, none⟩), dataV f s.st.number sv body.length cb] w fun e w' => e = .returned (.tuple #[]) ∧ ∃ g', g'.bare = ({ g with m := g.m.got_ body.length, K := updN s.st.number (fun s => s.more body (hasB f 1)) g.K } : GEnd).bare ∧ Next w w' eb mb g g' := by
  obtain ⟨len, hle⟩ : ∃ len, len = body.length := ⟨_, rfl⟩
  rw [← hle] at hfl hlen
  have hbA : Below w.heap.size w (w.alloc (.cells #[.int .i64 0, .int .i64 f, .int .i64 s.st.number, .slice sv len cb, .slice sv len cb] 162)) := (Below.refl _ _).alloc (Nat.le_refl _) _
  have hnew := heap_alloc_new w (.cells #[.int .i64 0, .int .i64 f, .int .i64 s.st.number, .slice sv len cb, .slice sv len cb] 162)
  obtain ⟨wA, hwA⟩ : ∃ wA, wA = w.alloc (.cells #[.int .i64 0, .int .i64 f, .int .i64 s.st.number, .slice sv len cb, .slice sv len cb] 162) := ⟨_, rfl⟩
  have hA := h.below hbA
  have han := announced_any eb mb g.m _ s.st.number _ hA.en h.km hA.kn
  rw [hA.find hs] at han
  simp only [GSt.str, ha, if_true] at han
  have hir := isReset_any s.sb s.st _ (hA.st hs)
  rw [show (!(s.st.reset == 0)) = false from by rw [hr]; rfl] at hir
  rw [← hwA] at hbA hA han hir hnew
  have HAN := hide han
  have HIR := hide hir
  have HRW := hide (receiveWindow_any eb s.sb g.m s.st wA hA.en (hA.st hs) (by omega) (by omega) (by omega) (by omega))
  have k9 := (hA.st hs).c9
  rw [hh] at k9
  have k10 := (hA.st hs).c10
  rw [hr] at k10
  have n2 : wA.cell? ⟨w.heap.size, 2, none⟩ = some (.int .i64 s.st.number) := by rw [cell_of_row _ _ _ _ _ _ hnew]; rfl
  have n3 : wA.cell? ⟨w.heap.size, 3, none⟩ = some (.slice sv len cb) := by rw [cell_of_row _ _ _ _ _ _ hnew]; rfl
  obtain ⟨b1a, b1b⟩ := b1
  obtain ⟨b2a, b2b⟩ := b2
  obtain ⟨hq1, hq2, hq3, hq4, hq5, hq6, hq7, hq8⟩ := counted_same { g.m with receive := g.m.receive - len } len
  have hsne := hA.st_eb hs
  -- behind the checks: at a world that is wA but for new blocks
  have HCELL : Hid (∀ wx, Below wA.heap.size wA wx → wx.cell? ⟨eb, 5, none⟩ = some (.int .i64 g.m.receive) ∧ wx.frozen? ⟨eb, 5, none⟩ = false ∧ (Calls Tryz.prog 129 #[.pointer (some ⟨eb, 13, none⟩), .int .i64 len] (wx.setCell ⟨eb, 5, none⟩ (.int .i64 (g.m.receive - len))) fun e w' => e = .returned (.tuple #[]) ∧ EnB w' eb (g.m.got_ len) ∧ Chg (fun j => j = eb) wA w')) := fun wx hx => by
    have hX := hA.below hx
    refine ⟨hX.en.c5, hX.en.fr 5, ?_⟩
    have hen5 : EnB (wx.setCell ⟨eb, 5, none⟩ (.int .i64 (g.m.receive - len))) eb { g.m with receive := g.m.receive - len } := EnB.of (blk_set hX.en.blk) rfl
    refine (tcount_any eb { g.m with receive := g.m.receive - len } len _ hen5 b3.1 (by have := b3.2; show g.m.count ≤ _; omega) (by omega) (by omega)).mono ?_
    rintro e w' ⟨h1, h2, h3⟩
    exact ⟨h1, h2, (chg_set (S := fun j => j = eb) (Chg.of_below hx) rfl).trans (h3.mono fun j _ e => Or.inr e)⟩
  have HIR2 : Hid (∀ w1, Chg (fun j => j = eb) wA w1 → Calls Tryz.prog 73 #[.pointer (some ⟨s.sb, 0, none⟩)] w1 fun e w' => e = .returned (.bool false) ∧ w' = w1) := fun w1 hc => by
    have := isReset_any s.sb s.st w1 ((hA.st hs).chg hc hsne)
    rw [show (!(s.st.reset == 0)) = false from by rw [hr]; rfl] at this
    exact this
  have HBOX : Hid (∀ w1, Chg (fun j => j = eb) wA w1 → w1.heap[w.heap.size]? = some (.cells #[.int .i64 0, .int .i64 f, .int .i64 s.st.number, .slice sv len cb, .slice sv len cb] 162 (0, 0))) := fun w1 hc => by
    rw [hc.block _ (lt_of_block hnew) (by have := h.en.lt; omega)]
    exact hnew
  have HKEEP : Hid (∀ w1, EnB w1 eb (g.m.got_ len) → Chg (fun j => j = eb) wA w1 → Calls Tryz.prog 130 #[.pointer (some ⟨eb, 0, none⟩), .pointer (some ⟨s.sb, 0, none⟩), .agg #[.int .i64 0, .int .i64 f, .int .i64 s.st.number, .slice sv len cb, .slice sv len cb]] w1 fun e w' => e = .returned (.tuple #[]) ∧ ∃ g', g'.bare = ({ g with m := g.m.got_ body.length, K := updN s.st.number (fun s => s.more body (hasB f 1)) g.K } : GEnd).bare ∧ Next w w' eb mb g g') := fun w1 he hc => by
    have hs1 := (hA.st hs).chg hc hsne
    have hu1 := owns_chg (hA.un s hs) hc (fun j hj e => by rw [e] at hj; exact owns_ne (hA.un s hs) hA.en.blk (by decide) hj)
    have hcw : Chg (fun j => j = eb) w w1 := (Chg.of_below hbA).trans (hc.mono fun j _ e => Or.inr e)
    have hby1 : BytesIn w1 (.slice sv body.length cb) body := hbd.chg hcw (fun j hj e => hbn j hj (Or.inl e))
    rw [hle]
    refine (keep_any eb s.sb (g.m.got_ body.length) s.st s.un body 0 f s.st.number sv body.length 0 cb sv cb w1 (by rw [← hle]; exact he) hs1 hu1 hby1 (fun j hj => ⟨fun e => hbn j hj (Or.inl e), fun e => hbn j hj (by rw [e]; exact h.foot_st hs)⟩) (by omega) hf hcl hun (by omega) (by omega) (by rw [← hle, show (g.m.got_ len).owed = g.m.owed from hq7]; omega) (by omega) (by omega)).mono ?_
    rintro e w' ⟨rfl, v, hk⟩
    refine ⟨rfl, ?_⟩
    rw [← hle] at hk
    have hen' : EnB w' eb (g.m.got_ len) := by have := hk.en; rw [owes_zero] at this; exact this
    have hcc : Chg (fun j => j = eb ∨ j = s.sb ∨ s.st.unread.ownBlock = some j) w w' := (hcw.mono fun j _ e => Or.inl e).trans (hk.chg.mono fun j _ e => Or.inr e)
    have keep : ∀ {k : Nat} {v' : Value} {xs : List Value} {ty : TypeId}, w.ownsRow 0 ty 1 v' k xs → (∀ j, v'.ownBlock = some j → j ≠ eb ∧ j ≠ s.sb ∧ s.st.unread.ownBlock ≠ some j) → w'.ownsRow 0 ty 1 v' k xs := fun hr hj => owns_chg hr hcc (fun j hjj e => by
      obtain ⟨a, b, c⟩ := hj j hjj
      rcases e with e | e | e
      · exact a e
      · exact b e
      · exact c e)
    refine ⟨_, ?_, h.onSt (S := fun j => j = eb ∨ j = s.sb ∨ s.st.unread.ownBlock = some j) (m' := g.m.got_ len) (s := s) (s' := ⟨s.sb, s.st.kept len 0 v (hasB f 1), s.un ++ body, s.wa⟩) (L' := g.L) (o' := g.out) (3 + 2 * s.sb) hs hcc ?_ hen' hk.st rfl rfl hq1 hq3 hq5 hq6 ?_ (fun j hj => Or.inl (by rw [← hq2]; exact hj)) (List.Sublist.refl _) ?_ (fun j hj => Or.inl (by rw [← hq4]; exact hj)) hk.row ?_ ?_ (fun j hj => Or.inl hj)⟩
    · rw [← hle]
      unfold GEnd.bare
      simp only [GEnd.mk.injEq, true_and, and_true]
      rw [updN, updN, List.map_map, List.map_map]
      apply List.map_congr_left
      intro x hx
      show (if x.st.number = s.st.number then _ else x).bare = (if x.st.number = s.st.number then _ else x).bare
      by_cases e : x.st.number = s.st.number
      · rw [if_pos e, if_pos e, inj_nd (fun s : GSt => s.st.number) h.nn hx hs e]
        unfold GSt.bare GSt.more StM.bare StM.kept
        simp [hle]
      · rw [if_neg e, if_neg e]
    · rintro j (e | e | e)
      · exact Or.inl e
      · exact Or.inr (Or.inl e)
      · exact Or.inr (Or.inr (Or.inr (Or.inr (Or.inl e))))
    · rw [show (g.m.got_ len).opn = g.m.opn from hq2]
      exact keep h.row (fun j hj => ⟨fun e => by rw [e] at hj; exact owns_ne h.row h.en.blk (by decide) hj, fun e => by rw [e] at hj; exact owns_ne h.row (h.st hs).blk (by decide) hj, fun e => rows_ne (h.un s hs) h.row (by decide) e hj⟩)
    · rw [show (g.m.got_ len).out = g.m.out from hq4]
      exact keep h.out (fun j hj => ⟨fun e => by rw [e] at hj; exact owns_ne h.out h.en.blk (by decide) hj, fun e => by rw [e] at hj; exact owns_ne h.out (h.st hs).blk (by decide) hj, fun e => h.out_un hs e hj⟩)
    · intro j hj
      rcases hk.fresh j hj with a | a
      · exact Or.inl a
      · exact Or.inr ⟨Nat.le_trans hcw.size a, rfl⟩
    · exact keep (h.wa s hs) (fun j hj => ⟨fun e => by rw [e] at hj; exact owns_ne (h.wa s hs) h.en.blk (by decide) hj, fun e => by rw [e] at hj; exact owns_ne (h.wa s hs) (h.st hs).blk (by decide) hj, fun e => h.un_wa hs hs e hj⟩)
  have hlt : eb < wA.heap.size := hA.en.lt
  have hw1 : IntKind.i64.wrap (g.m.receive - (len : Int)) = g.m.receive - len := by rw [IntKind.wrap_i64]; omega
  have HWA := hide hwA
  have k5 := hA.en.c5
  rw [← hle]
  have HLE := hide hle
  clear h hA han hir hbA hnew hq1 hq2 hq3 hq4 hq5 hq6 hq7 hq8 b3 hbd hbn hle
  unfold dataV
  go_enter Tryz.func95, Tryz.ntmps95
  go_wp2_with fail
  rw [← HWA.out]
  clear hwA
  refine HAN.out.mono ?_
  rintro e w' ⟨hw', rfl⟩
  rw [hw']
  clear hw' w'
  by_cases hz : len = 0
  · have hge : ((1 : Int) ≤ (len : Int)) = False := eq_false (by omega)
    clear hz hfl
    obtain ⟨-, f5, htc⟩ := HCELL.out wA (Below.refl _ _)
    have HTC := hide htc
    clear htc
    go_wp2_with fail
    refine HTC.out.mono ?_
    rintro e w1 ⟨rfl, he1, hc1⟩
    have HI2 := hide (HIR2.out w1 hc1)
    have HK := hide (HKEEP.out w1 he1 hc1)
    have hbx := HBOX.out w1 hc1
    have q0 : w1.cell? ⟨w.heap.size, 0, none⟩ = some (.int .i64 0) := by rw [cell_of_row _ _ _ _ _ _ hbx]; rfl
    have q1 : w1.cell? ⟨w.heap.size, 1, none⟩ = some (.int .i64 f) := by rw [cell_of_row _ _ _ _ _ _ hbx]; rfl
    have q2 : w1.cell? ⟨w.heap.size, 2, none⟩ = some (.int .i64 s.st.number) := by rw [cell_of_row _ _ _ _ _ _ hbx]; rfl
    have q3 : w1.cell? ⟨w.heap.size, 3, none⟩ = some (.slice sv len cb) := by rw [cell_of_row _ _ _ _ _ _ hbx]; rfl
    have q4 : w1.cell? ⟨w.heap.size, 4, none⟩ = some (.slice sv len cb) := by rw [cell_of_row _ _ _ _ _ _ hbx]; rfl
    clear he1 hc1 hbx
    go_wp2_with fail
    refine HI2.out.mono ?_
    rintro e w' ⟨rfl, hw'⟩
    rw [hw']
    clear hw' w'
    go_wp2_with fail
    refine HK.out.mono ?_
    rintro e w' ⟨rfl, hx⟩
    have HX := hide hx
    clear hx
    go_wp2
    exact bodyPost_end (results_none rfl _ _ _) rfl ⟨rfl, by rw [HLE.out]; exact HX.out⟩
  · have hge : ((1 : Int) ≤ (len : Int)) = True := eq_true (by omega)
    have hgt : ((g.m.receive : Int) < (len : Int)) = False := eq_false (by omega)
    have hgt2 : (g.m.own + s.st.receive < (len : Int)) = False := eq_false (by omega)
    clear hz hfl
    go_wp2_with fail
    refine HIR.out.mono ?_
    rintro e w' ⟨rfl, hw'⟩
    rw [hw']
    clear hw' w'
    go_wp2_with fail
    refine HRW.out.mono ?_
    rintro e wB ⟨rfl, hbB⟩
    obtain ⟨k5B, f5, htc⟩ := HCELL.out wB hbB
    have HTC := hide htc
    clear htc
    go_wp2_with fail
    refine HTC.out.mono ?_
    rintro e w1 ⟨rfl, he1, hc1⟩
    have HI2 := hide (HIR2.out w1 hc1)
    have HK := hide (HKEEP.out w1 he1 hc1)
    have hbx := HBOX.out w1 hc1
    have q0 : w1.cell? ⟨w.heap.size, 0, none⟩ = some (.int .i64 0) := by rw [cell_of_row _ _ _ _ _ _ hbx]; rfl
    have q1 : w1.cell? ⟨w.heap.size, 1, none⟩ = some (.int .i64 f) := by rw [cell_of_row _ _ _ _ _ _ hbx]; rfl
    have q2 : w1.cell? ⟨w.heap.size, 2, none⟩ = some (.int .i64 s.st.number) := by rw [cell_of_row _ _ _ _ _ _ hbx]; rfl
    have q3 : w1.cell? ⟨w.heap.size, 3, none⟩ = some (.slice sv len cb) := by rw [cell_of_row _ _ _ _ _ _ hbx]; rfl
    have q4 : w1.cell? ⟨w.heap.size, 4, none⟩ = some (.slice sv len cb) := by rw [cell_of_row _ _ _ _ _ _ hbx]; rfl
    clear he1 hc1 hbx
    go_wp2_with fail
    refine HI2.out.mono ?_
    rintro e w' ⟨rfl, hw'⟩
    rw [hw']
    clear hw' w'
    go_wp2_with fail
    refine HK.out.mono ?_
    rintro e w' ⟨rfl, hx⟩
    have HX := hide hx
    clear hx
    go_wp2
    exact bodyPost_end (results_none rfl _ _ _) rfl ⟨rfl, by rw [HLE.out]; exact HX.out⟩
end Go.Proofs.YtdccldbefdfppaaGreatDoor
/-
  Package ends: comeReset; Reset that is done.
-/
namespace Go.Proofs.YtdccldbefdfppaaGreatDoor
set_option linter.unusedVariables false
set_option linter.unusedSimpArgs false
open Go.RowKit

/-- A stream that is given up. -/
def GSt.drop (s : GSt) (by_ : Int) : GSt := { s with st := { s.st with reset := by_ }, un := [], wa := [] }
theorem erase_map {α β : Type} (f : α → β) : ∀ (L : List α) (k : Nat), (L.map f).eraseIdx k = (L.eraseIdx k).map f
  | [], _ => rfl
  | _ :: _, 0 => rfl
  | x :: r, k + 1 => by
    show f x :: (r.map f).eraseIdx k = f x :: (r.eraseIdx k).map f
    rw [erase_map f r k]
theorem openS_erase (K : List GSt) (L : List Int) (k : Nat) : (openS K L).eraseIdx k = openS K (L.eraseIdx k) := erase_map _ L k
theorem openS_get (K : List GSt) (L : List Int) (k : Nat) (h : k < L.length) (h2 : k < (openS K L).length) : (openS K L)[k] = (atN K L[k]).str := List.getElem_map (fun n => (atN K n).str) (h := h2)
/-- What reset leaves. -/
theorem Inv.dropd {w w' : World} {eb mb : Nat} {g : GEnd} {k : Nat} (hk : k < g.L.length) {by_ : Int} {v : Value} (h : Inv w eb mb g) (hk2 : k < (openS g.K g.L).length) (hd : Dropd w w' eb g.m (openS g.K g.L) k (atN g.K g.L[k]).un.length hk2 by_ v) :
    ∃ g', g'.bare = ({ g with m := g.m.owes (atN g.K g.L[k]).un.length, K := updN g.L[k] (fun s => s.drop by_) g.K, L := g.L.eraseIdx k } : GEnd).bare ∧ Next w w' eb mb g g' ∧ g'.m.resets = g.m.resets ∧ g'.res = g.res ∧ StB w' (atN g.K g.L[k]).sb ((atN g.K g.L[k]).st.dropped by_) := by
  obtain ⟨hmem, hnum⟩ := h.at (List.getElem_mem hk)
  have hstr : (openS g.K g.L)[k] = (atN g.K g.L[k]).str := openS_get _ _ _ hk hk2
  obtain ⟨den, dst, drow, dsame, dchg⟩ := hd
  rw [hstr] at dst dchg
  have keep : ∀ {n : Nat} {v' : Value} {xs : List Value} {ty : TypeId}, w.ownsRow 0 ty 1 v' n xs → (∀ j, v'.ownBlock = some j → j ≠ eb ∧ j ≠ (atN g.K g.L[k]).sb ∧ g.m.opn.ownBlock ≠ some j) → w'.ownsRow 0 ty 1 v' n xs := fun hr hj => owns_chg hr dchg (fun j hjj e => by
    obtain ⟨a, b, c⟩ := hj j hjj
    rcases e with e | e | e
    · exact a e
    · exact b e
    · exact c e)
  have hnil : ∀ w' : World, w'.ownsRow 0 5 1 (.slice none 0 0) ([] : List UInt8).length (([] : List UInt8).map B) := fun w' => World.ownsRow_nil _ _ _ _
  have hL : (g.L.eraseIdx k).length = g.L.length - 1 := by rw [List.length_eraseIdx, if_pos hk]
  refine ⟨{ g with m := (g.m.owes (atN g.K g.L[k]).un.length).opens v, K := updN (atN g.K g.L[k]).st.number (fun _ => ⟨(atN g.K g.L[k]).sb, (atN g.K g.L[k]).st.dropped by_, [], []⟩) g.K, L := g.L.eraseIdx k, out := g.out }, ?_, h.onSt (S := fun j => j = eb ∨ j = (atN g.K g.L[k]).sb ∨ g.m.opn.ownBlock = some j) (s := atN g.K g.L[k]) (s' := ⟨(atN g.K g.L[k]).sb, (atN g.K g.L[k]).st.dropped by_, [], []⟩) 0 hmem dchg ?_ den dst rfl rfl rfl rfl rfl rfl ?_ (fun j hj => Or.inl (by rw [← dsame]; exact hj)) (List.eraseIdx_sublist _ _) ?_ (fun j hj => Or.inl hj) (hnil _) (fun j hj => by simp [StM.dropped, Value.ownBlock] at hj) (hnil _) (fun j hj => by simp [StM.dropped, Value.ownBlock] at hj), rfl, rfl, dst⟩
  · unfold GEnd.bare
    simp only [GEnd.mk.injEq, true_and, and_true]
    refine ⟨rfl, ?_⟩
    rw [hnum, updN, updN, List.map_map, List.map_map]
    apply List.map_congr_left
    intro x hx
    show (if x.st.number = g.L[k] then _ else x).bare = (if x.st.number = g.L[k] then _ else x).bare
    by_cases e : x.st.number = g.L[k]
    · rw [if_pos e, if_pos e, inj_nd (fun s : GSt => s.st.number) h.nn hx hmem (by rw [hnum]; exact e)]
      rfl
    · rw [if_neg e, if_neg e]
  · rintro j (e | e | e)
    · exact Or.inl e
    · exact Or.inr (Or.inl e)
    · exact Or.inr (Or.inr (Or.inl e))
  · rw [openS_erase, openS_length] at drow
    rw [hL]
    exact drow
  · exact keep h.out (fun j hj => ⟨fun e => by rw [e] at hj; exact owns_ne h.out h.en.blk (by decide) hj, fun e => by rw [e] at hj; exact owns_ne h.out (h.st hmem).blk (by decide) hj, fun e => rows_ne h.out h.row (by decide) hj e⟩)

theorem open_nd {w : World} {eb mb : Nat} {g : GEnd} (h : Inv w eb mb g) {k : Nat} (hk : k < (openS g.K g.L).length) : ∀ j (hj : j < (openS g.K g.L).length), j ≠ k → (openS g.K g.L)[j].1 ≠ (openS g.K g.L)[k].1 := by
  intro j hj hjk e
  have hj' : j < g.L.length := by rw [openS_length] at hj; exact hj
  have hk' : k < g.L.length := by rw [openS_length] at hk; exact hk
  have e1 : (atN g.K g.L[j]).sb = (atN g.K g.L[k]).sb := by
    have a : (openS g.K g.L)[j] = (atN g.K g.L[j]).str := openS_get _ _ _ hj' hj
    have b : (openS g.K g.L)[k] = (atN g.K g.L[k]).str := openS_get _ _ _ hk' hk
    rw [a, b] at e
    exact e
  obtain ⟨m1, n1⟩ := h.at (List.getElem_mem hj')
  obtain ⟨m2, n2⟩ := h.at (List.getElem_mem hk')
  have e2 := h.same m1 m2 e1
  have e3 : g.L[j] = g.L[k] := by rw [← n1, ← n2, e2]
  exact hjk ((List.getElem_inj h.ln).1 e3)
/-- reset, at an end with all that it has. -/
theorem i_reset (eb mb : Nat) (g : GEnd) (k : Nat) (by_ : Int) (w : World) (h : Inv w eb mb g) (hk : k < g.L.length) (hb : by_ ≠ 0) (hf : g.L.length ≤ 1048576) (hul : (atN g.K g.L[k]).un.length ≤ 1048576) (b : -1099511627776 ≤ g.m.owed ∧ g.m.owed ≤ 1099511627776) :
    Calls Tryz.prog 134 #[.pointer (some ⟨eb, 0, none⟩), .pointer (some ⟨(atN g.K g.L[k]).sb, 0, none⟩), .int .i64 by_] w fun e w' => e = .returned (.tuple #[]) ∧ ∃ g', g'.bare = ({ g with m := g.m.owes (atN g.K g.L[k]).un.length, K := updN g.L[k] (fun s => s.drop by_) g.K, L := g.L.eraseIdx k } : GEnd).bare ∧ Next w w' eb mb g g' ∧ g'.m.resets = g.m.resets ∧ g'.res = g.res ∧ StB w' (atN g.K g.L[k]).sb ((atN g.K g.L[k]).st.dropped by_) := by
  obtain ⟨hmem, hnum⟩ := h.at (List.getElem_mem hk)
  have hk2 : k < (openS g.K g.L).length := by rw [openS_length]; exact hk
  have hstr : (openS g.K g.L)[k] = (atN g.K g.L[k]).str := openS_get _ _ _ hk hk2
  obtain ⟨su, cu, hsu⟩ := slice_len (h.un _ hmem)
  have hr := ereset_any eb g.m (openS g.K g.L) k (atN g.K g.L[k]).un.length by_ su cu w h.en h.open (by rw [openS_length]; exact hf) hk2 hb (by rw [hstr]; exact hsu) hul (open_nd h hk2) (by omega) (by omega)
  rw [show (openS g.K g.L)[k].1 = (atN g.K g.L[k]).sb from by rw [hstr]; rfl] at hr
  refine hr.mono ?_
  rintro e w' ⟨rfl, v, hd⟩
  exact ⟨rfl, h.dropd hk hk2 hd⟩

set_option maxRecDepth 100000 in
set_option maxHeartbeats 800000 in
theorem comeReset_ok (eb mb : Nat) (g : GEnd) (k : Nat) (f : Int) (sv : Option Addr) (len cb : Nat) (w : World) (h : Inv w eb mb g) (hk : k < g.L.length) (ha : (atN g.K g.L[k]).st.announced = true) (hcl : (atN g.K g.L[k]).st.closed = false) (hf : g.L.length ≤ 1048576) (hul : (atN g.K g.L[k]).un.length ≤ 1048576) (b : -1099511627776 ≤ g.m.owed ∧ g.m.owed ≤ 1099511627776) :
    Calls Tryz.prog 99 #[.pointer (some ⟨eb, 0, none⟩), .agg #[.int .i64 2, .int .i64 f, .int .i64 g.L[k], .slice sv len cb]] w fun e w' => e = .returned (.tuple #[]) ∧ ∃ g', g'.bare = ({ g with m := g.m.owes (atN g.K g.L[k]).un.length, K := updN g.L[k] (fun s => s.drop 2) g.K, L := g.L.eraseIdx k } : GEnd).bare ∧ Next w w' eb mb g g' ∧ g'.m.resets = g.m.resets ∧ g'.res = g.res := by
  obtain ⟨hmem, hnum⟩ := h.at (List.getElem_mem hk)
  have hbA : Below w.heap.size w (w.alloc (.cells #[.int .i64 2, .int .i64 f, .int .i64 g.L[k], .slice sv len cb] 170)) := (Below.refl _ _).alloc (Nat.le_refl _) _
  have hA := h.below hbA
  have han := announced_any eb mb g.m _ g.L[k] _ hA.en h.km hA.kn
  have hfi := hA.find hmem
  rw [hnum] at hfi
  rw [hfi] at han
  simp only [GSt.str, ha, if_true] at han
  have hcc := isClosed_any (atN g.K g.L[k]).sb (atN g.K g.L[k]).st _ (hA.st hmem)
  rw [hcl] at hcc
  have HAN := hide han
  have HCC := hide hcc
  have HR := hide ((i_reset eb mb g k 2 _ hA hk (by omega) hf hul b).mono (R' := fun e w' => e = .returned (.tuple #[]) ∧ ∃ g', g'.bare = ({ g with m := g.m.owes (atN g.K g.L[k]).un.length, K := updN g.L[k] (fun s => s.drop 2) g.K, L := g.L.eraseIdx k } : GEnd).bare ∧ Next w w' eb mb g g' ∧ g'.m.resets = g.m.resets ∧ g'.res = g.res) (by
    rintro e w' ⟨h1, g', h2, h3, h4, h5, -⟩
    exact ⟨h1, g', h2, h3.pre hbA, h4, h5⟩))
  clear h hA han hcc hbA hfi ha hcl hmem hnum
  generalize g.L[k] = nn at *
  go_enter Tryz.func99, Tryz.ntmps99
  go_wp2_with fail
  refine HAN.out.mono ?_
  rintro e w' ⟨hw', rfl⟩
  rw [hw']
  clear hw' w'
  go_wp2_with fail
  refine HCC.out.mono ?_
  rintro e w' ⟨rfl, hw'⟩
  rw [hw']
  clear hw' w'
  go_wp2_with fail
  refine HR.out.mono ?_
  rintro e w' ⟨rfl, hx⟩
  have HX := hide hx
  clear hx
  go_wp2
  exact bodyPost_end (results_none rfl _ _ _) rfl ⟨rfl, HX.out⟩
end Go.Proofs.YtdccldbefdfppaaGreatDoor
/-
  Package ends: answer; comeSettings where no stream is known; eReset that is done.
-/
namespace Go.Proofs.YtdccldbefdfppaaGreatDoor
set_option linter.unusedVariables false
set_option linter.unusedSimpArgs false
open Go.RowKit

set_option maxRecDepth 100000 in
set_option maxHeartbeats 1200000 in
/-- The first answer that waits: the Ack of Settings. -/
theorem answer_first (eb mb : Nat) (g : GEnd) (w : World) (h : Inv w eb mb g) (hv : g.m.answers = .slice none 0 0) (ha : g.ans = []) :
    Calls Tryz.prog 137 #[.pointer (some ⟨eb, 0, none⟩), .agg #[.int .i64 3, .int .i64 1, .int .i64 0, .slice none 0 0]] w fun e w' => e = .returned (.tuple #[]) ∧ ∃ v, EnB w' eb { g.m with answers := v } ∧ w'.ownsRow w.heap.size 48 4 v 1 [.int .i64 3, .int .i64 1, .int .i64 0, .slice none 0 0] ∧ Chg (fun j => j = eb) w w' := by
  obtain ⟨i0, hi, hz0, hz1, hz2⟩ := info_parts Tryz.info48
  have c42 := h.en.c42
  rw [hv] at c42
  have f42 := h.en.fr 42
  have hlt := h.en.lt
  have H := hide h.en
  have HLIE : Hid (∀ j u, ([.int .i64 3, .int .i64 1, .int .i64 0, .slice none 0 0] : List Value)[j]? = some u → ((w.alloc (.cells #[.int .i64 3, .int .i64 1, .int .i64 0, .slice none 0 0] 48)).alloc (.cells #[.int .i64 3, .int .i64 1, .int .i64 0, .slice none 0 0] 48)).drew.cell? ((⟨w.heap.size + 1, 0, none⟩ : Addr).add j) = some u) := fun j u hu => by
    have q := lies_row (w := w.alloc (.cells #[.int .i64 3, .int .i64 1, .int .i64 0, .slice none 0 0] 48)) (xs := [.int .i64 3, .int .i64 1, .int .i64 0, .slice none 0 0]) (t := 48) j u hu
    rw [show (w.alloc (.cells #[.int .i64 3, .int .i64 1, .int .i64 0, .slice none 0 0] 48)).heap.size = w.heap.size + 1 from by simp] at q
    exact q
  clear h hv ha
  go_enter Tryz.func137, Tryz.ntmps137
  go_upto_region 3 with fail
  go_region_law (first
    | (refine step_appd rfl (.tmp 17) (.tmp 19) 39 rfl 48 i0 (.agg #[.int .i64 0, .int .i64 0, .int .i64 0, .slice none 0 0]) 4 48 Tryz.underlying39 hi hz0 hz1 hz2 rfl (by decide) (.slice none 0 0) 0 [] (by simp [Act.eval, Act.put]) (World.ownsRow_nil _ _ _ _) (.slice (some ⟨w.heap.size + 1, 0, none⟩) 1 1) 1 [.int .i64 3, .int .i64 1, .int .i64 0, .slice none 0 0] (by simp [Act.eval, Act.put]) rfl (Or.inr ⟨_, _, rfl, HLIE.out⟩) (by intro u hu; simp only [List.mem_cons, List.not_mem_nil, or_false] at hu; rcases hu with rfl | rfl | rfl | rfl <;> rfl) (by decide) (by decide) ?_; intro v3 w3 ho3 hg3 hfr3; obtain ⟨s3, q3, hv3⟩ := slice_len ho3; subst hv3; have hcg : Chg (fun _ => False) w w3 := (((Chg.refl (fun _ => False) w).alloc (.cells #[.int .i64 3, .int .i64 1, .int .i64 0, .slice none 0 0] 48)).alloc (.cells #[.int .i64 3, .int .i64 1, .int .i64 0, .slice none 0 0] 48)).drew.trans ((Chg.of_grown (S := fun _ => False) hg3 (fun j hj => by simp [Value.ownBlock] at hj)).mono fun j _ e => Or.inr e); have k42 : w3.cell? ⟨eb, 42, none⟩ = some (.slice none 0 0) := (by rw [hcg.cell (p := ⟨eb, 42, none⟩) hlt id]; exact c42); have g42 : w3.frozen? ⟨eb, 42, none⟩ = false := (by rw [hcg.frozen (p := ⟨eb, 42, none⟩) hlt id]; exact f42); have HO3 := hide ho3; have HCG := hide hcg; have HF3 := hide hfr3; clear ho3 hg3 hfr3 hcg))
  all_goals go_wp2
  all_goals
    have hE3 : EnB w3 eb g.m := H.out.chg HCG.out id
    have hset : Chg (fun j => j = eb) w3 (w3.setCell ⟨eb, 42, none⟩ (.slice s3 1 q3)) := chg_set (Chg.refl _ _) rfl
    refine bodyPost_end (results_none rfl _ _ _) rfl ⟨rfl, .slice s3 1 q3, EnB.of (blk_set hE3.blk) rfl, ?_, (HCG.out.mono fun _ _ e => e.elim).trans (hset.mono fun j _ e => Or.inr e)⟩
    have hr := owns_chg HO3.out hset (fun j hj e => by rw [e] at hj; exact owns_ne HO3.out hE3.blk (by decide) hj)
    refine owns_base hr (fun j hj => ?_)
    rcases HF3.out with e | e
    · rw [e] at hj; simp [Value.ownBlock] at hj
    · rw [e] at hj; simp at hj; omega

/-- With an answer that waits. -/
theorem Inv.answered {w w' : World} {eb mb : Nat} {g : GEnd} {n : Int} {v : Value} (h : Inv w eb mb g) (hc : Chg (fun j => j = eb) w w') (hen : EnB w' eb { g.m with answers := v, other := n }) (hr : RowAt w' 48 4 v 1 [.int .i64 3, .int .i64 1, .int .i64 0, .slice none 0 0]) (hfr : ∀ j, v.ownBlock = some j → w.heap.size ≤ j) :
    Next w w' eb mb g { g with m := { g.m with answers := v, other := n }, ans := [⟨3, 1, [], .slice none 0 0⟩] } := by
  have hrow : ∀ {k : Nat} {v' : Value} {xs : List Value} {ty : TypeId}, ty ≠ 103 → w.ownsRow 0 ty 1 v' k xs → w'.ownsRow 0 ty 1 v' k xs := fun hne hr => owns_chg hr hc (fun j hj e => by rw [e] at hj; exact owns_ne hr h.en.blk hne hj)
  refine ⟨⟨hen, h.kn.chg hc h.eb_mb (fun p hp => ?_), h.km, h.nd, h.nn, h.ln, h.has, hrow (by decide) h.row, hrow (by decide) h.out, hrow (by decide) h.got, fun p hp => hrow (by decide) (h.un p hp), fun p hp => hrow (by decide) (h.wa p hp), hr, ?_, ?_, ?_⟩, hc.mono fun j _ e => Or.inl e, ?_⟩
  · obtain ⟨q, hq, rfl⟩ := List.mem_map.1 hp
    exact h.st_eb hq
  · intro a ha
    rw [List.mem_singleton.1 ha]
    exact World.ownsRow_nil _ _ _ _
  · exact h.res.chg hc (fun j hj e => by rw [e] at hj; exact h.res.ne h.en.blk (by decide) hj)
  · obtain ⟨T, hT⟩ := h.ap
    refine ⟨T, ⟨hT.out, hT.got, hT.un, hT.wa, ?_⟩⟩
    intro a ha j hj
    rw [List.mem_singleton.1 ha] at hj
    simp [Value.ownBlock] at hj
  · intro j hj
    rcases hj with e | e | e | e | e | e | e | ⟨a, ha, e⟩ | e
    · exact Or.inl (Or.inl e)
    · exact Or.inl (Or.inr (Or.inl e))
    · exact Or.inl (by unfold Foot; simp [show g.m.out.ownBlock = some j from e])
    · exact Or.inl (by unfold Foot; simp [show g.m.got.ownBlock = some j from e])
    · exact Or.inl (by unfold Foot; simp [show g.m.opn.ownBlock = some j from e])
    · exact Or.inr (hfr j e)
    · exact Or.inl (by unfold Foot; simp [show g.m.resets.ownBlock = some j from e])
    · rw [List.mem_singleton.1 ha] at e
      simp [Value.ownBlock] at e
    · exact Or.inl (Or.inr (Or.inr (Or.inr (Or.inr (Or.inr (Or.inr (Or.inr (Or.inr e))))))))

set_option maxRecDepth 100000 in
set_option maxHeartbeats 1200000 in
/-- Settings of the other end, when no stream is known. -/
theorem comeSettings_none (eb mb : Nat) (g : GEnd) (f n : Int) (sv : Option Addr) (len cb : Nat) (w : World) (h : Inv w eb mb g) (hf : 0 ≤ f ∧ f ≤ 255) (hak : hasB f 1 = false) (hK : g.K = []) (hv : g.m.answers = .slice none 0 0) (ha : g.ans = []) :
    Calls Tryz.prog 100 #[.pointer (some ⟨eb, 0, none⟩), .agg #[.int .i64 3, .int .i64 f, .int .i64 0, .slice sv len cb, .int .i64 n]] w fun e w' => e = .returned (.tuple #[]) ∧ ∃ g', g'.bare = ({ g with m := { g.m with other := n, answers := .tuple #[] }, ans := [⟨3, 1, [], .slice none 0 0⟩] } : GEnd).bare ∧ Next w w' eb mb g g' := by
  have hbA : Below w.heap.size w (w.alloc (.cells #[.int .i64 3, .int .i64 f, .int .i64 0, .slice sv len cb, .int .i64 n] 173)) := (Below.refl _ _).alloc (Nat.le_refl _) _
  have hnew := heap_alloc_new w (.cells #[.int .i64 3, .int .i64 f, .int .i64 0, .slice sv len cb, .int .i64 n] 173)
  obtain ⟨wA, hwA⟩ : ∃ wA, wA = w.alloc (.cells #[.int .i64 3, .int .i64 f, .int .i64 0, .slice sv len cb, .int .i64 n] 173) := ⟨_, rfl⟩
  rw [← hwA] at hbA hnew
  have hA := h.below hbA
  have hh := has_any 3 f 0 1 (.slice sv len cb) wA hf.1 (by omega) (Or.inl rfl)
  rw [hak] at hh
  have HH := hide hh
  have HEMP : Hid (∀ wx, Below wA.heap.size wA wx → ∃ clock, wx.heap[mb]? = some (.map #[] clock)) := fun wx hx => by
    obtain ⟨es, clock, hb, he, -⟩ := (hA.below hx).kn.blk
    rw [hK] at he
    have : es = #[] := by
      have h0 : es.toList = [] := by simpa using he
      cases es; simpa using h0
    rw [this] at hb
    exact ⟨clock, hb⟩
  have HWA := hide hwA
  have HBX := hide hnew
  have HA := hide hA
  have HBA := hide hbA
  have hlt : eb < wA.heap.size := hA.en.lt
  clear h hA hbA hh hf hak hnew
  go_enter Tryz.func100, Tryz.ntmps100
  go_wp2_with fail
  rw [← HWA.out]
  clear hwA
  refine HH.out.mono ?_
  rintro e w1 ⟨rfl, hb1⟩
  obtain ⟨clock, hmp⟩ := HEMP.out w1 hb1
  have hI1 := HA.out.below hb1
  have c22 := hI1.en.c22
  rw [hI1.km] at c22
  have HI1 := hide hI1
  have HB1 := hide hb1
  clear hI1 hb1
  have hrg := run_range_map (P := Tryz.prog) w1 78 3 124 mb #[] clock Tryz.underlying78 hmp
  have hnx : ∀ ty, (Instr.next (.pointer (some ⟨w1.heap.size, 0, none⟩)) false ty).run Tryz.prog (w1.alloc (.mapIter (some mb) clock #[] clock)) = .ok (.tuple #[.bool false]) (w1.alloc (.mapIter (some mb) clock #[] clock)) := fun ty => by
    rcases run_next_map (P := Tryz.prog) w1 ty mb clock clock #[] #[] clock hmp (by simp) (Nat.le_refl _) with ⟨-, h⟩ | ⟨e, he, -⟩
    · exact h
    · simp [leftOf] at he
  have hb2 : Below w1.heap.size w1 (w1.alloc (.mapIter (some mb) clock #[] clock)) := (Below.refl _ _).alloc (Nat.le_refl _) _
  obtain ⟨w2, hw2⟩ : ∃ w2, w2 = w1.alloc (.mapIter (some mb) clock #[] clock) := ⟨_, rfl⟩
  rw [← hw2] at hb2
  have hI2 := HI1.out.below hb2
  have HAN := hide (answer_first eb mb g w2 hI2 hv ha)
  have hbox2 : w2.heap[w.heap.size]? = some (.cells #[.int .i64 3, .int .i64 f, .int .i64 0, .slice sv len cb, .int .i64 n] 173 (0, 0)) := by
    have h1 := HB1.out.block _ (lt_of_block HBX.out)
    rw [hb2.block _ (by have := lt_of_block HBX.out; have := HB1.out.size; omega), h1]
    exact HBX.out
  have HI2 := hide hI2
  have HB2 := hide hb2
  have HBX2 := hide hbox2
  have HW2 := hide hw2
  clear hI2 hb2 hbox2
  go_wp2
  refine wp_loop_rounds 1 ?_
  rw [rounds_succ]
  go_wp2_with fail
  rw [← HW2.out]
  clear hw2 hrg hnx hmp
  refine HAN.out.mono ?_
  rintro e w3 ⟨rfl, v, hE3, hr3, hc3⟩
  have hbx3 : w3.heap[w.heap.size]? = some (.cells #[.int .i64 3, .int .i64 f, .int .i64 0, .slice sv len cb, .int .i64 n] 173 (0, 0)) := by
    rw [hc3.block _ (lt_of_block HBX2.out) (fun e => block_ne HBX2.out HI2.out.en.blk (by decide) e)]
    exact HBX2.out
  have q4 : w3.cell? ⟨w.heap.size, 4, none⟩ = some (.int .i64 n) := by rw [cell_of_row _ _ _ _ _ _ hbx3]; rfl
  have k12 := hE3.c12
  have f12 := hE3.fr 12
  have hset : Chg (fun j => j = eb) w3 (w3.setCell ⟨eb, 12, none⟩ (.int .i64 n)) := chg_set (Chg.refl _ _) rfl
  have hE4 : EnB (w3.setCell ⟨eb, 12, none⟩ (.int .i64 n)) eb { g.m with answers := v, other := n } := EnB.of (blk_set hE3.blk) rfl
  have hc4 : Chg (fun j => j = eb) w2 (w3.setCell ⟨eb, 12, none⟩ (.int .i64 n)) := hc3.trans (hset.mono fun j _ e => Or.inr e)
  have hr4 : RowAt (w3.setCell ⟨eb, 12, none⟩ (.int .i64 n)) 48 4 v 1 [.int .i64 3, .int .i64 1, .int .i64 0, .slice none 0 0] := RowAt.of_owns (owns_base (owns_chg hr3 hset (fun j hj e => by rw [e] at hj; exact owns_ne hr3 hE3.blk (by decide) hj)) (fun _ _ => Nat.zero_le _))
  have hfr : ∀ j, v.ownBlock = some j → w2.heap.size ≤ j := fun j hj => (hr3.lt j hj).1
  have HVS : Hid (∃ a n c, v = .slice (some a) n c) := by
    rcases hr3.2 with ⟨-, h0⟩ | ⟨gx, cx, cux, h1, -⟩
    · cases h0
    · exact ⟨_, _, _, h1⟩
  have HEND := hide (HI2.out.answered hc4 hE4 hr4 hfr)
  have HALL : Hid (Below w.heap.size w w2) := HBA.out.trans ((HB1.out.trans (HB2.out.mono HB1.out.size)).mono HBA.out.size)
  clear hE3 hr3 hc3 hbx3 hset hE4 hc4 hr4 hfr
  go_wp2
  refine bodyPost_end (results_none rfl _ _ _) rfl ⟨rfl, _, ?_, HEND.out.pre HALL.out⟩
  obtain ⟨ax, nx, cx, hvx⟩ := HVS.out
  subst hvx
  rfl
end Go.Proofs.YtdccldbefdfppaaGreatDoor
