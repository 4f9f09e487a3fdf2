import Derived.Test.YtpmmpbklpclnhaaDoorBkFind
import Derived.Lib.SliceRun
set_option linter.unusedVariables false
set_option linter.unusedSimpArgs false
/-
  slices.Delete of pairs, from the first on.
-/
namespace Go.Proofs.YtpmmpbklpclnhaaDoor
set_option linter.unusedVariables false
set_option linter.unusedSimpArgs false
open Go.RowKit

/-- append where there is room, in a region that draws its order: the row is told. -/
theorem step_app_room {P : Program} {ops : Array Oper} {o : Oper} {a : Act} {w : World} {K : Act → World → Prop} {Q : Exit → Act → World → Prop} {E : Prop} (hgd : o.guard = none) (s y : Operand) (t : TypeId)
    (ho : o.op = .call { callee := .builtin .append, args := #[s, y], argTypes := #[t, t] })
    (e : TypeId) (i : TypeInfo) (ht : P.underlying t = some (.slice e)) (hi : P.info? e = some i)
    (g n cap : Nat) (cur : Array Value) (hs : a.eval s = .slice (some ⟨g, 0, none⟩) n cap) (hg : w.heap[g]? = some (.cells cur e (0, 0)))
    (ad : Addr) (m c : Nat) (news : List Value) (hx : a.eval y = .slice (some ad) m c) (hl : news.length = m * i.size) (hcells : ∀ j u, news[j]? = some u → w.cell? (ad.add j) = some u) (h1 : ∀ u ∈ news, u.oneCell' = true)
    (hroom : n + m ≤ cap) (hfit : n * i.size + news.length ≤ cur.size)
    (hK : ∀ w', (Builtin.append_ #[t, t] o.type #[.slice (some ⟨g, 0, none⟩) n cap, .slice (some ad) m c]).run P w = .ok (.slice (some ⟨g, 0, none⟩) (n + m) cap) w' → w' = w.setRow g (cur.toList.take (n * i.size) ++ news ++ cur.toList.drop (n * i.size + news.length)).toArray → K (a.put o.dst (.slice (some ⟨g, 0, none⟩) (n + m) cap)) w') :
    if Region.wanted o (yielded ops a.tmps) = true then Oper.wp P o a w K Q else E := by
  have hw : Region.wanted o (yielded ops a.tmps) = true := by simp [Region.wanted, hgd]
  rw [if_pos hw]
  have h := run_append_room (P := P) w t o.type e i ht hi g n cap cur hg ad m c news hl hcells h1 hroom hfit
  obtain ⟨w', hw'⟩ : ∃ w', w' = w.setRow g (cur.toList.take (n * i.size) ++ news ++ cur.toList.drop (n * i.size + news.length)).toArray := ⟨_, rfl⟩
  rw [← hw'] at h
  have h2 := hK w' h hw'
  clear hw' hK
  unfold Oper.wp
  simp [execOp, ho, resolve, invoke, builtin, hs, hx, h, Result.andThen]
  exact h2
theorem Tryd.info33 : (Tryd.prog.info? 33).map (fun i => (i.zero, i.size, i.bytes)) = some (some (.agg #[.string ⟨#[]⟩, .string ⟨#[]⟩]), 2, 32) := by kernel_rfl
/-- clear, of n pairs. -/
theorem run_clear_pairs {P : Program} (w : World) (t ty e : TypeId) (z : Value) (ht : P.underlying t = some (.slice e)) (hv : ∀ w, (zeroValue e).run P w = .ok z w) (zs : List Value) (b o n c : Nat) (hz : (Builtin.zeroCells z.cells n).toList = zs) (hn : 0 < n) (cur : Array Value) (hg : w.heap[b]? = some (.cells cur e (0, 0)))
    (hfit : o + zs.length ≤ cur.size) (h1 : ∀ u ∈ zs, u.oneCell' = true) :
    (Builtin.clear_ #[t] ty #[.slice (some ⟨b, o, none⟩) n c]).run P w = .ok (.tuple #[]) (w.setRow b (cur.toList.take o ++ zs ++ cur.toList.drop (o + zs.length)).toArray) := by
  have hst := run_storeCells_at P b o e zs 0 cur w hg (by simpa using hfit) h1
  simp only [Nat.add_zero] at hst
  obtain ⟨m, rfl⟩ : ∃ m, n = m + 1 := ⟨n - 1, by omega⟩
  simp [Builtin.clear_, run_underlying ht, hv, hz, hst]

theorem zero_len (m : Nat) : (Builtin.zeroCells (Value.agg #[.string ⟨#[]⟩, .string ⟨#[]⟩]).cells m).toList.length = m * 2 := by
  rw [Array.length_toList, size_zeroCells]
  rfl
theorem zero_one (m : Nat) : ∀ u ∈ (Builtin.zeroCells (Value.agg #[.string ⟨#[]⟩, .string ⟨#[]⟩]).cells m).toList, u.oneCell' = true := by
  intro u hu
  have hc : (Value.agg #[.string ⟨#[]⟩, .string ⟨#[]⟩]).cells = #[.string ⟨#[]⟩, .string ⟨#[]⟩] := rfl
  rw [hc] at hu
  obtain ⟨i, hi, rfl⟩ := List.mem_iff_getElem.1 hu
  simp only [Builtin.zeroCells, Array.getElem_toList, Array.getElem_map, Array.getElem_range]
  have : i % 2 = 0 ∨ i % 2 = 1 := by omega
  rcases this with h | h <;> simp [h, Value.oneCell']
theorem chg_setRow (w : World) (g : Nat) (row : Array Value) : Chg (fun j => j = g) w (w.setRow g row) := ⟨rfl, rfl, rfl, by simp, fun k _ hn => setRow_other w g k row (fun e => hn e)⟩

set_option maxRecDepth 100000 in
set_option maxHeartbeats 3200000 in
theorem delete_any (g n cap k : Nat) (cur : Array Value) (tab : List HP) (w : World) (hg : w.heap[g]? = some (.cells cur 33 (0, 0))) (hcs : cur.size = cap * 2) (hn : n ≤ cap) (hcm : cap ≤ 9223372036854775807) (hk0 : 0 < k) (hk : k ≤ n) (hnt : tab.length = n) (htake : cur.toList.take (n * 2) = hpCells tab) :
    Calls Tryd.prog 49 #[.slice (some ⟨g, 0, none⟩) n cap, .int .i64 0, .int .i64 k] w fun e w' => ∃ cur', e = .returned (.slice (some ⟨g, 0, none⟩) (n - k) cap) ∧ w'.heap[g]? = some (.cells cur' 33 (0, 0)) ∧ cur'.size = cap * 2 ∧ cur'.toList.take ((n - k) * 2) = hpCells (tab.drop k) ∧ Chg (fun j => j = g) w w' := by
  obtain ⟨i0, hi, hz0, hz1, hz2⟩ := info_parts Tryd.info33
  obtain ⟨AD, hAD, hAC⟩ : ∃ AD : Addr, (if cap = k then some (⟨g, 0, none⟩ : Addr) else some ⟨g, k * 2, none⟩) = some AD ∧ ∀ j u, (hpCells (tab.drop k))[j]? = some u → w.cell? (AD.add j) = some u := by
    by_cases hck : cap = k
    · refine ⟨⟨g, 0, none⟩, by rw [if_pos hck], fun j u hu => ?_⟩
      rw [List.drop_of_length_le (by omega)] at hu
      simp [hpCells] at hu
    · refine ⟨⟨g, k * 2, none⟩, by rw [if_neg hck], fun j u hu => ?_⟩
      have e : (⟨g, k * 2, none⟩ : Addr).add j = ⟨g, k * 2 + j, none⟩ := by unfold Addr.add; split <;> simp_all
      rw [hpCells_drop, List.getElem?_drop, ← htake, List.getElem?_take] at hu
      rw [e, cell_of_row _ _ _ _ _ _ hg]
      split at hu
      · rw [Array.getElem?_toList] at hu; exact hu
      · cases hu
  have hlen : (hpCells (tab.drop k)).length = (n - k) * i0.size := by rw [hpCells_length, hz1, List.length_drop, hnt]
  have hone : ∀ u ∈ hpCells (tab.drop k), u.oneCell' = true := by
    intro u hu
    have : ∀ l : List HP, ∀ u ∈ hpCells l, u.oneCell' = true := by
      intro l
      induction l with
      | nil => intro u hu; simp [hpCells] at hu
      | cons h r ih =>
        intro u hu
        simp only [hpCells, List.mem_cons] at hu
        rcases hu with rfl | rfl | hu
        · rfl
        · rfl
        · exact ih u hu
    exact this _ u hu
  have HG : Hid (w.drew.heap[g]? = some (.cells cur 33 (0, 0))) := hg
  have HAC : Hid (∀ j u, (hpCells (tab.drop k))[j]? = some u → w.drew.cell? (AD.add j) = some u) := hAC
  have HLEN := hide hlen
  have HONE := hide hone
  have HFIT : Hid (0 * i0.size + (hpCells (tab.drop k)).length ≤ cur.size) := by show _ ≤ _; rw [hlen, hz1, hcs]; omega
  have HRM : Hid (0 + (n - k) ≤ cap) := by show _ ≤ _; omega
  have hdl : (hpCells (tab.drop k)).length = (n - k) * 2 := by rw [hpCells_length, List.length_drop, hnt]
  generalize hpCells (tab.drop k) = NW at hlen hone HLEN HONE HAC HFIT hdl ⊢
  have HDL := hide hdl
  have HCS := hide hcs
  clear hAC hlen hone hg htake hnt hcs hdl
  go_enter Tryd.func49, Tryd.ntmps49
  go_wp2
  go_region_law (refine step_app_room rfl (.tmp 22) (.tmp 25) 34 rfl 33 i0 Tryd.underlying34 hi g 0 cap cur (by simp [Act.eval, Act.put]) HG.out AD (n - k) (cap - k) NW (by simp [Act.eval, Act.put, hAD]) HLEN.out HAC.out HONE.out HRM.out HFIT.out ?_; intro w2 _ hw2; have HW2 := hide hw2; clear hw2)
  go_wp2
  have hw2 := HW2.out
  rw [Nat.zero_mul, List.take_zero, List.nil_append, Nat.zero_add] at hw2
  have hg2 : w2.heap[g]? = some (.cells (NW ++ cur.toList.drop NW.length).toArray 33 (0, 0)) := by rw [hw2]; exact setRow_heap _ _ cur _ _ _ HG.out
  have hs2 : (NW ++ cur.toList.drop NW.length).toArray.size = cap * 2 := by
    have h1 := HDL.out
    have h2 := HCS.out
    have h3 : (n - k) * 2 ≤ cap * 2 := Nat.mul_le_mul_right _ (by omega)
    have h4 : cur.toList.length = cap * 2 := by rw [Array.length_toList]; exact h2
    rw [List.size_toArray, List.length_append, List.length_drop, h4, h1]
    omega
  rw [run_clear_pairs (P := Tryd.prog) w2 34 0 33 (.agg #[.string ⟨#[]⟩, .string ⟨#[]⟩]) Tryd.underlying34 (fun _ => by kernel_rfl) _ g ((n - k) * 2) (n - (n - k)) (cap - (n - k)) rfl (by omega) _ hg2 (by rw [hs2, zero_len]; omega) (zero_one _)]
  obtain ⟨cur3, hcur3⟩ : ∃ c3, c3 = ((NW ++ cur.toList.drop NW.length).toArray.toList.take ((n - k) * 2) ++ (Builtin.zeroCells (Value.agg #[.string ⟨#[]⟩, .string ⟨#[]⟩]).cells (n - (n - k))).toList ++ (NW ++ cur.toList.drop NW.length).toArray.toList.drop ((n - k) * 2 + (Builtin.zeroCells (Value.agg #[.string ⟨#[]⟩, .string ⟨#[]⟩]).cells (n - (n - k))).toList.length)).toArray := ⟨_, rfl⟩
  rw [← hcur3]
  have H3 := hide hcur3
  have HG2 := hide hg2
  have HS2 := hide hs2
  have HWW := hide hw2
  clear hcur3 hg2 hs2 hw2
  simp only [Result.andThen_ok]
  rw [Oper.upon_value]
  go_wp2
  go_ret
  refine ⟨rfl, cur3, setRow_heap _ _ _ _ _ _ HG2.out, ?_, ?_, ?_⟩
  · rw [H3.out, List.size_toArray, List.length_append, List.length_append, List.length_take, List.length_drop, zero_len]
    have h9 := HS2.out
    rw [List.size_toArray] at h9
    rw [h9]
    omega
  · rw [H3.out]
    have h1 := HDL.out
    simp only [List.append_assoc]
    rw [List.take_append_of_le_length (by rw [List.length_take, List.length_append]; omega), List.take_take, Nat.min_self, ← h1, List.take_left]
  · rw [HWW.out]
    have hc1 : Chg (fun j => j = g) w w.drew := (Chg.refl _ _).drew
    exact (hc1.trans ((chg_setRow w.drew g _).mono fun j _ e => Or.inr e)).trans ((chg_setRow _ g _).mono fun j _ e => Or.inr e)
end Go.Proofs.YtpmmpbklpclnhaaDoor
