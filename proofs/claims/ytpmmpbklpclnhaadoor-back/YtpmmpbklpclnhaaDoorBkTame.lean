import Derived.Test.YtpmmpbklpclnhaaDoorBkFace
set_option linter.unusedVariables false
set_option linter.unusedSimpArgs false
/-
  sluicekeep.tameHeads.
-/
namespace Go.Proofs.YtpmmpbklpclnhaaDoor
set_option linter.unusedVariables false
set_option linter.unusedSimpArgs false
open Go.RowKit

def tameN (n : ByteArray) : ByteArray := if 40 < n.size then n.extract 0 40 else if n.toList.isEmpty then ⟨#[110]⟩ else n
def tameV (v : ByteArray) : ByteArray := if 40 < v.size then v.extract 0 40 else v
def tameH (h : HP) : HP := ⟨tameN h.n, tameV h.v⟩
theorem ext40 {n : ByteArray} (h : 40 < n.size) : (n.extract 0 40).size = 40 := by
  rw [ByteArray.size_extract]; omega
theorem tame_ok (h : HP) : okH (tameH h) := by
  have h1 : 1 ≤ (tameN h.n).size ∧ (tameN h.n).size ≤ 40 := by
    unfold tameN
    split
    · next e => rw [ext40 e]; omega
    · split
      · exact ⟨by decide, by decide⟩
      · next e1 e2 =>
        refine ⟨?_, by omega⟩
        rcases Nat.eq_zero_or_pos h.n.size with h0 | h0
        · exfalso
          apply e2
          have : h.n = ⟨#[]⟩ := by
            apply ByteArray.ext
            exact Array.eq_empty_of_size_eq_zero h0
          rw [this, ba_toList]
          rfl
        · exact h0
  have h2 : (tameV h.v).size ≤ 40 := by
    unfold tameV
    split
    · next e => rw [ext40 e]; omega
    · omega
  exact ⟨h1.1, h1.2, h2⟩
theorem ok_prB {h : HP} (ho : okH h) : prB h = true := by
  unfold prB
  have : h.n.toList.isEmpty = false := by
    rw [ba_toList]
    have h1 : 0 < h.n.data.toList.length := ho.1
    cases hx : h.n.data.toList with
    | nil => rw [hx] at h1; simp at h1
    | cons a r => rfl
  rw [this]
  simp [ho.2.1, ho.2.2]
/-- The list that may be. -/
def tamed (hs : List HP) : List HP := (hs.take 8).map tameH
theorem tamed_list (hs : List HP) : listB (tamed hs) = true := by
  unfold listB tamed
  simp only [List.length_map, List.length_take, Bool.and_eq_true, decide_eq_true_eq, List.all_eq_true]
  refine ⟨by omega, fun x hx => ?_⟩
  obtain ⟨y, _, rfl⟩ := List.mem_map.1 hx
  exact ok_prB (tame_ok y)
theorem tamed_next {hs : List HP} {k : Nat} (h : k < hs.length) (h8 : k < 8) : ((hs.take (k + 1)).map tameH) = (hs.take k).map tameH ++ [tameH hs[k]] := by
  rw [List.take_succ_eq_append_getElem h, List.map_append]
  rfl

theorem isEmpty_ext {n : ByteArray} (h : 40 < n.size) : (n.extract 0 40).toList.isEmpty = false := by
  rw [ba_toList]
  have h1 : (n.extract 0 40).data.toList.length = 40 := ext40 h
  cases hx : (n.extract 0 40).data.toList with
  | nil => rw [hx] at h1; simp at h1
  | cons a r => rfl

set_option maxRecDepth 100000 in
set_option maxHeartbeats 800000 in
theorem tameHeads_any (bb off cap : Nat) (hs : List HP) (w : World) (hbb : bb < w.heap.size) (hcells : ∀ i (h : i < hs.length), w.cell? ⟨bb, off + i * 2, none⟩ = some (.string hs[i].n) ∧ w.cell? ⟨bb, off + i * 2 + 1, none⟩ = some (.string hs[i].v)) (hl : hs.length ≤ 9223372036854775807) (hok : ∀ h ∈ hs, h.n.size ≤ 9223372036854775807 ∧ h.v.size ≤ 9223372036854775807) :
    Calls Tryd.prog 10 #[.slice (some ⟨bb, off, none⟩) hs.length cap] w fun e w' => ∃ v, e = .returned v ∧ w'.ownsRow w.heap.size 33 2 v (tamed hs).length (hpCells (tamed hs)) ∧ Below w.heap.size w w' := by
  obtain ⟨i0, hi, hz0, hz1, hz2⟩ := info_parts Tryd.info33
  have HC := hide hcells
  have HOK := hide hok
  clear hcells hok
  go_enter Tryd.func10, Tryd.ntmps10
  go_wp2
  go_loopw [3, 4] (fun v i wr => ∃ k : Nat, i = .int .i64 (k : Int) ∧ k ≤ hs.length ∧ k ≤ 8 ∧ wr.ownsRow w.heap.size 33 2 v k (hpCells ((hs.take k).map tameH)) ∧ Below w.heap.size w wr) (fun _ i _ => hs.length - (intOf i).toNat)
  case atStart => exact ⟨0, rfl, Nat.zero_le _, by decide, World.ownsRow_nil _ _ _ _, Below.refl _ _⟩
  case round =>
    obtain ⟨k, rfl, hk, hk8, hown, hbel⟩ := hrel
    by_cases hlt : k < hs.length
    · by_cases h8 : k < 8
      · obtain ⟨e0, e1⟩ := HC.out k hlt
        obtain ⟨o1, o2⟩ := HOK.out hs[k] (List.getElem_mem _)
        have hnx := tamed_next hlt h8
        have d0 := (hbel.cell (p := ⟨bb, off + k * 2, none⟩) hbb).trans e0
        have d1 := (hbel.cell (p := ⟨bb, off + k * 2 + 1, none⟩) hbb).trans e1
        have hblt : bb < wr.heap.size := Nat.lt_of_lt_of_le hbb hbel.size
        generalize hs[k] = x at d0 d1 o1 o2 hnx
        obtain ⟨n, v⟩ := x
        simp only at d0 d1 o1 o2
        obtain ⟨sv, cv, hsv⟩ := slice_len hown
        subst hsv
        have HOW := hide hown
        have HB := hide hbel
        have HNX := hide hnx
        clear hown hbel hnx e0 e1
        have fin : ∀ (n' v' : ByteArray), tameH ⟨n, v⟩ = ⟨n', v'⟩ → Hid (∀ (o1 o2 : Obj) (w' : World) (v2 : Value), w'.ownsRow 0 33 2 v2 (k + 1) (hpCells ((hs.take k).map tameH) ++ hpCells [⟨n', v'⟩]) → ((wr.alloc o1).alloc o2).grownBy w' (Value.slice sv k cv).ownBlock → (v2.ownBlock = (Value.slice sv k cv).ownBlock ∨ v2.ownBlock = some (wr.heap.size + 1 + 1)) →
            w'.ownsRow w.heap.size 33 2 v2 (k + 1) (hpCells ((hs.take (k + 1)).map tameH)) ∧ Below w.heap.size w w') := by
          intro n' v' he o1 o2 w' v2 h1 h2 h3
          rw [HNX.out, he, hpCells_append]
          have hsz := HB.out.size
          refine ⟨owns_base h1 (fun j hj => ?_), ?_⟩
          · rcases h3 with e | e
            · rw [e] at hj; exact (HOW.out.lt j hj).1
            · rw [e] at hj; simp at hj; omega
          · exact ((HB.out.alloc hsz _).alloc (by simp; omega) _).grown h2 (by simp; omega) (fun j hj => (HOW.out.lt j hj).1)
        rcases Nat.lt_or_ge 40 n.size with hn | hn
        · have hnE := isEmpty_ext hn
          have hnS := ext40 hn
          rcases Nat.lt_or_ge 40 v.size with hv | hv
          · have hvS := ext40 hv
            have F := fin (n.extract 0 40) (v.extract 0 40) (by simp [tameH, tameN, tameV, *])
            have HF := hide F
            clear F fin
            go_wp2_with (at_builtin; refine wpList_app _ rfl (.tmp 40) (.tmp 42) 34 rfl 33 i0 (.agg #[.string ⟨#[]⟩, .string ⟨#[]⟩]) 2 32 Tryd.underlying34 hi hz0 hz1 hz2 rfl (by decide) _ _ _ rfl (((owns_base HOW.out (fun _ _ => Nat.zero_le _)).alloc _).alloc _) (.slice (some ⟨wr.heap.size + 1, 0, none⟩) 1 1) 1 (hpCells [⟨n.extract 0 40, v.extract 0 40⟩]) rfl rfl ?c1 (hp_one _) ?c3 ?c4 ?_)
            case c1 => have h9 := lies_pair (wr.alloc (.cells #[.string (n.extract 0 40), .string (v.extract 0 40)] 33)) ⟨n.extract 0 40, v.extract 0 40⟩; simpa using h9
            case c3 => unfold maxLen; omega
            case c4 => omega
            intro v2 w2 hown2 hg2 hf2
            rw [← List.map_take] at hown2
            obtain ⟨p1, p2⟩ := HF.out.out _ _ _ _ hown2 hg2 (by simpa using hf2)
            have HP1 := hide p1
            have HP2 := hide p2
            clear hown2 hg2 hf2 p1 p2
            go_wp2
            go_roundw
            case rel => exact ⟨k + 1, by go_num, by omega, by omega, HP1.out, HP2.out⟩
            case measure => simp [intOf]; omega
          · have hvn : ¬ 40 < v.size := by omega
            have F := fin (n.extract 0 40) (v) (by simp [tameH, tameN, tameV, *])
            have HF := hide F
            clear F fin
            go_wp2_with (at_builtin; refine wpList_app _ rfl (.tmp 40) (.tmp 42) 34 rfl 33 i0 (.agg #[.string ⟨#[]⟩, .string ⟨#[]⟩]) 2 32 Tryd.underlying34 hi hz0 hz1 hz2 rfl (by decide) _ _ _ rfl (((owns_base HOW.out (fun _ _ => Nat.zero_le _)).alloc _).alloc _) (.slice (some ⟨wr.heap.size + 1, 0, none⟩) 1 1) 1 (hpCells [⟨n.extract 0 40, v⟩]) rfl rfl ?c1 (hp_one _) ?c3 ?c4 ?_)
            case c1 => have h9 := lies_pair (wr.alloc (.cells #[.string (n.extract 0 40), .string (v)] 33)) ⟨n.extract 0 40, v⟩; simpa using h9
            case c3 => unfold maxLen; omega
            case c4 => omega
            intro v2 w2 hown2 hg2 hf2
            rw [← List.map_take] at hown2
            obtain ⟨p1, p2⟩ := HF.out.out _ _ _ _ hown2 hg2 (by simpa using hf2)
            have HP1 := hide p1
            have HP2 := hide p2
            clear hown2 hg2 hf2 p1 p2
            go_wp2
            go_roundw
            case rel => exact ⟨k + 1, by go_num, by omega, by omega, HP1.out, HP2.out⟩
            case measure => simp [intOf]; omega
        · have hnn : ¬ 40 < n.size := by omega
          cases hem : n.toList.isEmpty with
          | true =>
            rcases Nat.lt_or_ge 40 v.size with hv | hv
            · have hvS := ext40 hv
              have F := fin (⟨#[110]⟩) (v.extract 0 40) (by simp [tameH, tameN, tameV, *])
              have HF := hide F
              clear F fin
              go_wp2_with (at_builtin; refine wpList_app _ rfl (.tmp 40) (.tmp 42) 34 rfl 33 i0 (.agg #[.string ⟨#[]⟩, .string ⟨#[]⟩]) 2 32 Tryd.underlying34 hi hz0 hz1 hz2 rfl (by decide) _ _ _ rfl (((owns_base HOW.out (fun _ _ => Nat.zero_le _)).alloc _).alloc _) (.slice (some ⟨wr.heap.size + 1, 0, none⟩) 1 1) 1 (hpCells [⟨⟨#[110]⟩, v.extract 0 40⟩]) rfl rfl ?c1 (hp_one _) ?c3 ?c4 ?_)
              case c1 => have h9 := lies_pair (wr.alloc (.cells #[.string (⟨#[110]⟩), .string (v.extract 0 40)] 33)) ⟨⟨#[110]⟩, v.extract 0 40⟩; simpa using h9
              case c3 => unfold maxLen; omega
              case c4 => omega
              intro v2 w2 hown2 hg2 hf2
              rw [← List.map_take] at hown2
              obtain ⟨p1, p2⟩ := HF.out.out _ _ _ _ hown2 hg2 (by simpa using hf2)
              have HP1 := hide p1
              have HP2 := hide p2
              clear hown2 hg2 hf2 p1 p2
              go_wp2
              go_roundw
              case rel => exact ⟨k + 1, by go_num, by omega, by omega, HP1.out, HP2.out⟩
              case measure => simp [intOf]; omega
            · have hvn : ¬ 40 < v.size := by omega
              have F := fin (⟨#[110]⟩) (v) (by simp [tameH, tameN, tameV, *])
              have HF := hide F
              clear F fin
              go_wp2_with (at_builtin; refine wpList_app _ rfl (.tmp 40) (.tmp 42) 34 rfl 33 i0 (.agg #[.string ⟨#[]⟩, .string ⟨#[]⟩]) 2 32 Tryd.underlying34 hi hz0 hz1 hz2 rfl (by decide) _ _ _ rfl (((owns_base HOW.out (fun _ _ => Nat.zero_le _)).alloc _).alloc _) (.slice (some ⟨wr.heap.size + 1, 0, none⟩) 1 1) 1 (hpCells [⟨⟨#[110]⟩, v⟩]) rfl rfl ?c1 (hp_one _) ?c3 ?c4 ?_)
              case c1 => have h9 := lies_pair (wr.alloc (.cells #[.string (⟨#[110]⟩), .string (v)] 33)) ⟨⟨#[110]⟩, v⟩; simpa using h9
              case c3 => unfold maxLen; omega
              case c4 => omega
              intro v2 w2 hown2 hg2 hf2
              rw [← List.map_take] at hown2
              obtain ⟨p1, p2⟩ := HF.out.out _ _ _ _ hown2 hg2 (by simpa using hf2)
              have HP1 := hide p1
              have HP2 := hide p2
              clear hown2 hg2 hf2 p1 p2
              go_wp2
              go_roundw
              case rel => exact ⟨k + 1, by go_num, by omega, by omega, HP1.out, HP2.out⟩
              case measure => simp [intOf]; omega
          | false =>
            rcases Nat.lt_or_ge 40 v.size with hv | hv
            · have hvS := ext40 hv
              have F := fin (n) (v.extract 0 40) (by simp [tameH, tameN, tameV, *])
              have HF := hide F
              clear F fin
              go_wp2_with (at_builtin; refine wpList_app _ rfl (.tmp 40) (.tmp 42) 34 rfl 33 i0 (.agg #[.string ⟨#[]⟩, .string ⟨#[]⟩]) 2 32 Tryd.underlying34 hi hz0 hz1 hz2 rfl (by decide) _ _ _ rfl (((owns_base HOW.out (fun _ _ => Nat.zero_le _)).alloc _).alloc _) (.slice (some ⟨wr.heap.size + 1, 0, none⟩) 1 1) 1 (hpCells [⟨n, v.extract 0 40⟩]) rfl rfl ?c1 (hp_one _) ?c3 ?c4 ?_)
              case c1 => have h9 := lies_pair (wr.alloc (.cells #[.string (n), .string (v.extract 0 40)] 33)) ⟨n, v.extract 0 40⟩; simpa using h9
              case c3 => unfold maxLen; omega
              case c4 => omega
              intro v2 w2 hown2 hg2 hf2
              rw [← List.map_take] at hown2
              obtain ⟨p1, p2⟩ := HF.out.out _ _ _ _ hown2 hg2 (by simpa using hf2)
              have HP1 := hide p1
              have HP2 := hide p2
              clear hown2 hg2 hf2 p1 p2
              go_wp2
              go_roundw
              case rel => exact ⟨k + 1, by go_num, by omega, by omega, HP1.out, HP2.out⟩
              case measure => simp [intOf]; omega
            · have hvn : ¬ 40 < v.size := by omega
              have F := fin (n) (v) (by simp [tameH, tameN, tameV, *])
              have HF := hide F
              clear F fin
              go_wp2_with (at_builtin; refine wpList_app _ rfl (.tmp 40) (.tmp 42) 34 rfl 33 i0 (.agg #[.string ⟨#[]⟩, .string ⟨#[]⟩]) 2 32 Tryd.underlying34 hi hz0 hz1 hz2 rfl (by decide) _ _ _ rfl (((owns_base HOW.out (fun _ _ => Nat.zero_le _)).alloc _).alloc _) (.slice (some ⟨wr.heap.size + 1, 0, none⟩) 1 1) 1 (hpCells [⟨n, v⟩]) rfl rfl ?c1 (hp_one _) ?c3 ?c4 ?_)
              case c1 => have h9 := lies_pair (wr.alloc (.cells #[.string (n), .string (v)] 33)) ⟨n, v⟩; simpa using h9
              case c3 => unfold maxLen; omega
              case c4 => omega
              intro v2 w2 hown2 hg2 hf2
              rw [← List.map_take] at hown2
              obtain ⟨p1, p2⟩ := HF.out.out _ _ _ _ hown2 hg2 (by simpa using hf2)
              have HP1 := hide p1
              have HP2 := hide p2
              clear hown2 hg2 hf2 p1 p2
              go_wp2
              go_roundw
              case rel => exact ⟨k + 1, by go_num, by omega, by omega, HP1.out, HP2.out⟩
              case measure => simp [intOf]; omega
      · have hk8' : k = 8 := by omega
        have HOW := hide hown
        have HB := hide hbel
        clear hown hbel
        subst hk8'
        go_wp2
        go_ret
        refine ⟨u3, rfl, ?_, HB.out⟩
        have h9 := HOW.out
        have e : (tamed hs).length = 8 := by unfold tamed; rw [List.length_map, List.length_take]; omega
        rw [e]
        exact h9
    · have hke : k = hs.length := by omega
      have HOW := hide hown
      have HB := hide hbel
      clear hown hbel
      go_wp2
      go_ret
      refine ⟨u3, rfl, ?_, HB.out⟩
      have h9 := HOW.out
      have e : tamed hs = (hs.take k).map tameH := by unfold tamed; rw [List.take_of_length_le (by omega), List.take_of_length_le (by omega)]
      have e2 : (tamed hs).length = k := by rw [e, List.length_map, List.length_take]; omega
      rw [e2, e]
      exact h9
end Go.Proofs.YtpmmpbklpclnhaaDoor
