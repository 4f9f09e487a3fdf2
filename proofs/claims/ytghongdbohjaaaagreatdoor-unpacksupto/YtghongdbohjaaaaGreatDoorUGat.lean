import Derived.Test.YtghongdbohjaaaaGreatDoorUUk3
import Derived.Test.YtghongdbohjaaaaGreatDoorUGae
import Derived.Test.YtghongdbohjaaaaGreatDoorUGab
import Derived.Test.YtghongdbohjaaaaGreatDoorUGaj
import Derived.ProofKit
import Derived.LaidMore
import Derived.OpenShut
import Derived.ChangeOld
import Derived.Deep.Slices
set_option linter.unusedVariables false
set_option linter.unusedSimpArgs false
/-
  (*sluicelaw.World).step, at KPacker to KTable, where there are unpackers too.
-/
namespace Go.Proofs.YtghongdbohjaaaaGreatDoor
set_option linter.unusedVariables false
set_option linter.unusedSimpArgs false
open Go.RowKit

/-- What stands of a script's world, by its weight. -/
def UI (W0 V0 w : World) (b : Nat) (gF gH gC gS : Value) (m : Nat) : Prop := ∃ uv hv pv sv kv prs bls recs us hrs, UInv W0 V0 w b gF gH gC gS uv hv pv sv kv prs bls recs us hrs m []

theorem unpacks_any (W0 V0 : World) (b : Nat) (gF gH gC gS : Value) (k A B' C : Int) (S : ByteArray) (m : Nat) (w : World) (hk1 : 8 ≤ k) (hk2 : k ≤ 11) (hA : I64 A) (hB : I64 B') (hgl : Gl W0) (hm : m + 1 ≤ 16777216) (hS : S.size ≤ 1048576) (hI : UI W0 V0 w b gF gH gC gS m) :
    Calls Tryz.prog 12 #[.pointer (some ⟨b, 0, none⟩), .agg #[.int .i64 k, .int .i64 A, .int .i64 B', .int .i64 C, .string S]] w fun e w' => e = .returned (.bool true) ∧ UI W0 V0 w' b gF gH gC gS (m + 1) := by
  obtain ⟨uv, hv, pv, sv, kv, prs, bls, recs, us, hrs, h⟩ := hI
  have stay : ∀ w', Below w.heap.size w w' → UI W0 V0 w' b gF gH gC gS (m + 1) := fun w' hb => ⟨uv, hv, pv, sv, kv, prs, bls, recs, us, hrs, (h.below hb).mono (Nat.le_succ _)⟩
  by_cases h8 : k = 8
  · subst h8
    by_cases hr : 0 ≤ A ∧ A ≤ 256
    · obtain ⟨n, rfl⟩ : ∃ n : Nat, A = n := ⟨A.toNat, by omega⟩
      refine (unpacks_new W0 V0 b m gF gH gC gS uv hv pv sv kv prs bls recs us hrs n B' C S w h (by omega) (by omega)).mono ?_
      rintro e w' ⟨rfl, uv', us', h'⟩
      exact ⟨rfl, uv', hv, pv, sv, kv, prs, bls, recs, us', hrs, h'⟩
    · refine (unpacks_nonew b A B' C S w hr).mono ?_
      rintro e w' ⟨rfl, hb⟩
      exact ⟨rfl, stay w' hb⟩
  · by_cases h0 : 0 < us.length
    · have text : ∀ T : ByteArray, T.size ≤ 1048576 → TextIs k B' S bls T → Calls Tryz.prog 12 #[.pointer (some ⟨b, 0, none⟩), .agg #[.int .i64 k, .int .i64 A, .int .i64 B', .int .i64 C, .string S]] w fun e w' => e = .returned (.bool true) ∧ UI W0 V0 w' b gF gH gC gS (m + 1) := fun T hT ht => by
        refine (unpacks_text W0 V0 b m gF gH gC gS uv hv pv sv kv prs bls recs us hrs k A B' C S T w h hgl hm hA hB h0 ht hT).mono ?_
        rintro e w' ⟨rfl, hv', us', hrs', h'⟩
        exact ⟨rfl, uv, hv', pv, sv, kv, prs, bls, recs, us', hrs', h'⟩
      by_cases h9 : k = 9
      · exact text S hS (Or.inl ⟨h9, rfl⟩)
      · by_cases h10 : k = 10
        · by_cases hb0 : 0 < bls.length
          · obtain ⟨i, hi, hil⟩ := pkNat B' hb0
            exact text bls[i] (h.p.okS _ (List.getElem_mem hil)) (Or.inr ⟨h10, hb0, i, hi, hil, rfl⟩)
          · obtain rfl : bls = [] := List.eq_nil_of_length_eq_zero (by omega)
            subst h10
            refine (unpacks_nobl W0 V0 b m gF gH gC gS uv hv pv sv kv prs recs us hrs A B' C S w h (by omega) hA h0).mono ?_
            rintro e w' ⟨rfl, hb⟩
            exact ⟨rfl, stay w' hb⟩
        · obtain rfl : k = 11 := by omega
          refine (unpacks_size W0 V0 b m gF gH gC gS uv hv pv sv kv prs bls recs us hrs A B' C S w h (by omega) hA h0).mono ?_
          rintro e w' ⟨rfl, hb⟩
          exact ⟨rfl, stay w' hb⟩
    · obtain ⟨sr, cr, hpv⟩ := slice_len h.rowU
      have hz : us.length = 0 := by omega
      rw [hz] at hpv
      refine (unpacks_none b _ sr cr k A B' C S w h.p.blk (by rw [hpv]; rfl) (by rw [beq_eq_false_iff_ne]; exact h8)).mono ?_
      rintro e w' ⟨rfl, hb⟩
      exact ⟨rfl, stay w' hb⟩

theorem upacks_any (W0 V0 : World) (b : Nat) (gF gH gC gS : Value) (k A B' C : Int) (S : ByteArray) (m : Nat) (w : World) (hk1 : 4 ≤ k) (hk2 : k ≤ 7) (hA : I64 A) (hB : I64 B') (hgl : Gl W0) (hG : PG W0 gF gH) (hm : m + 1 ≤ 16777216) (hI : UI W0 V0 w b gF gH gC gS m) :
    Calls Tryz.prog 11 #[.pointer (some ⟨b, 0, none⟩), .agg #[.int .i64 k, .int .i64 A, .int .i64 B', .int .i64 C, .string S]] w fun e w' => e = .returned (.bool true) ∧ UI W0 V0 w' b gF gH gC gS (m + 1) := by
  obtain ⟨uv, hv, pv, sv, kv, prs, bls, recs, us, hrs, h⟩ := hI
  refine (packs_anyX W0 V0 b gF gH gC ⟨gS, uv, hv⟩ k A B' C S m w hk1 hk2 hA hB hgl hG hm ⟨pv, sv, kv, prs, bls, recs, h.p⟩).mono ?_
  rintro e w' ⟨rfl, pv', sv', kv', prs', bls', recs', h'⟩
  exact ⟨rfl, uv, hv, pv', sv', kv', prs', bls', recs', us, hrs, ⟨h', fun r hr => (h.okU r hr).mono (Nat.le_succ _), h.okH, ⟨Nat.le_trans h.few.1 (Nat.le_succ _), Nat.le_trans h.few.2 (Nat.le_succ _)⟩⟩⟩

theorem UI.below {W0 V0 w w' : World} {b : Nat} {gF gH gC gS : Value} {m : Nat} (hI : UI W0 V0 w b gF gH gC gS m) (hb : Below w.heap.size w w') : UI W0 V0 w' b gF gH gC gS m := by
  obtain ⟨uv, hv, pv, sv, kv, prs, bls, recs, us, hrs, h⟩ := hI
  exact ⟨uv, hv, pv, sv, kv, prs, bls, recs, us, hrs, h.below hb⟩

set_option maxRecDepth 100000 in
set_option maxHeartbeats 3200000 in
theorem ustep_packs (W0 V0 : World) (b : Nat) (gF gH gC gS : Value) (k A B' C : Int) (S : ByteArray) (m : Nat) (w : World) (hk1 : 4 ≤ k) (hk2 : k ≤ 7) (hA : I64 A) (hB : I64 B') (hgl : Gl W0) (hG : PG W0 gF gH) (hm : m + 1 ≤ 16777216) (hI : UI W0 V0 w b gF gH gC gS m) :
    Calls Tryz.prog 8 #[.pointer (some ⟨b, 0, none⟩), .agg #[.int .i64 k, .int .i64 A, .int .i64 B', .int .i64 C, .string S]] w fun e w' => e = .returned (.bool true) ∧ UI W0 V0 w' b gF gH gC gS (m + 1) := by
  have HP : Hid (∀ o, Calls Tryz.prog 11 #[.pointer (some ⟨b, 0, none⟩), .agg #[.int .i64 k, .int .i64 A, .int .i64 B', .int .i64 C, .string S]] (w.alloc o) fun e w' => e = .returned (.bool true) ∧ UI W0 V0 w' b gF gH gC gS (m + 1)) := fun o =>
    upacks_any W0 V0 b gF gH gC gS k A B' C S m _ hk1 hk2 hA hB hgl hG hm (hI.below ((Below.refl _ _).alloc (Nat.le_refl _) _))
  clear hI hG hgl hA hB
  go_enter Tryz.func8, Tryz.ntmps8
  go_wp2_with fail
  refine (HP.out _).mono ?_
  rintro e w' ⟨rfl, h⟩
  go_wp2
  go_ret
  exact ⟨rfl, h⟩
set_option maxRecDepth 100000 in
set_option maxHeartbeats 3200000 in
theorem ustep_unpacks (W0 V0 : World) (b : Nat) (gF gH gC gS : Value) (k A B' C : Int) (S : ByteArray) (m : Nat) (w : World) (hk1 : 8 ≤ k) (hk2 : k ≤ 11) (hA : I64 A) (hB : I64 B') (hgl : Gl W0) (hm : m + 1 ≤ 16777216) (hS : S.size ≤ 1048576) (hI : UI W0 V0 w b gF gH gC gS m) :
    Calls Tryz.prog 8 #[.pointer (some ⟨b, 0, none⟩), .agg #[.int .i64 k, .int .i64 A, .int .i64 B', .int .i64 C, .string S]] w fun e w' => e = .returned (.bool true) ∧ UI W0 V0 w' b gF gH gC gS (m + 1) := by
  have HP : Hid (∀ o, Calls Tryz.prog 12 #[.pointer (some ⟨b, 0, none⟩), .agg #[.int .i64 k, .int .i64 A, .int .i64 B', .int .i64 C, .string S]] (w.alloc o) fun e w' => e = .returned (.bool true) ∧ UI W0 V0 w' b gF gH gC gS (m + 1)) := fun o =>
    unpacks_any W0 V0 b gF gH gC gS k A B' C S m _ hk1 hk2 hA hB hgl hm hS (hI.below ((Below.refl _ _).alloc (Nat.le_refl _) _))
  clear hI hgl hA hB hS
  go_enter Tryz.func8, Tryz.ntmps8
  go_wp2_with fail
  refine (HP.out _).mono ?_
  rintro e w' ⟨rfl, h⟩
  go_wp2
  go_ret
  exact ⟨rfl, h⟩

theorem unpacks_played : Played 4 11 Gl PG UI where
  kb := packs_played.kb
  new := by
    intro W0 V0 b gF gH gC gS h h0 hb
    have hnil : ∀ j, (Value.slice none 0 0).ownBlock ≠ some j := fun j e => by simp [Value.ownBlock] at e
    refine ⟨.slice none 0 0, .slice none 0 0, .slice none 0 0, .slice none 0 0, .slice none 0 0, [], [], [], [], [], ⟨⟨h, ?_, by simp, by simp, by simp, by simp, h0, lt_of_block h, hb, Chg.refl _ _⟩, by simp, by simp, by simp⟩⟩
    have hl : ∀ o ∈ obsI (.slice none 0 0) (.slice none 0 0) (.slice none 0 0) [] [] [] (obsU (.slice none 0 0) (.slice none 0 0) [] [] []), o.P V0 ∧ ∀ j, ¬ o.F j := by
      intro o ho
      simp only [obsI, restI, obsU, restU, List.map_nil, List.flatMap_nil, List.append_nil, List.nil_append, List.mem_cons, List.not_mem_nil, or_false] at ho
      rcases ho with rfl | rfl | rfl | rfl | rfl <;> exact ⟨World.ownsRow_nil _ _ _ _, fun j hj => hnil j hj⟩
    exact ⟨fun o ho => (hl o ho).1, fun o ho j hj => absurd hj ((hl o ho).2 j), List.pairwise_of_forall_mem_list fun a ha c hc j hj => absurd hj ((hl a ha).2 j)⟩
  below := fun _ _ _ _ _ _ _ _ _ _ h hb => h.below hb
  bel := by
    rintro W0 V0 w b gF gH gC gS m ⟨uv, hv, pv, sv, kv, prs, bls, recs, us, hrs, h⟩
    exact ⟨h.p.bel, h.p.chV⟩
  mono := by
    rintro W0 V0 w b gF gH gC gS m n hmn ⟨uv, hv, pv, sv, kv, prs, bls, recs, us, hrs, h⟩
    exact ⟨uv, hv, pv, sv, kv, prs, bls, recs, us, hrs, h.mono hmn⟩
  bks := by
    rintro W0 V0 w b gF gH gC gS m ⟨uv, hv, pv, sv, kv, prs, bls, recs, us, hrs, h⟩ hm
    exact wholeH_true b _ kv hv recs hrs _ h.bkh (by have := h.p.few.2.2; omega) (by have := h.few.2; omega)
  step := by
    intro W0 V0 w b gF gH gC gS m o h1 h2 hok hK hG hm hI
    obtain ⟨ok, oa, ob, oc, os⟩ := o
    simp only at h1 h2 hm
    by_cases h7 : ok ≤ 7
    · refine (ustep_packs W0 V0 b gF gH gC gS ok oa ob oc os m w h1 h7 hok.2.1 hok.2.2.1 hK hG (by omega) hI).mono ?_
      rintro e w' ⟨rfl, uv, hv, pv, sv, kv, prs, bls, recs, us, hrs, h⟩
      exact ⟨rfl, uv, hv, pv, sv, kv, prs, bls, recs, us, hrs, h.mono (by simp only; omega)⟩
    · refine (ustep_unpacks W0 V0 b gF gH gC gS ok oa ob oc os m w (by omega) h2 hok.2.1 hok.2.2.1 hK (by omega) (by omega) hI).mono ?_
      rintro e w' ⟨rfl, uv, hv, pv, sv, kv, prs, bls, recs, us, hrs, h⟩
      exact ⟨rfl, uv, hv, pv, sv, kv, prs, bls, recs, us, hrs, h.mono (by simp only; omega)⟩
  known := packs_played.known
end Go.Proofs.YtghongdbohjaaaaGreatDoor
/-
  From the card's condition to what the package's variables hold.
-/
namespace Go.Proofs.YtghongdbohjaaaaGreatDoor
set_option linter.unusedVariables false
set_option linter.unusedSimpArgs false
open Go.ChangeShapes Go.WideShapes Go.ChangeAt Go.RowKit

theorem bcellsU8 : Tryz.prog.cellsOf 5 = 1 := by kernel_rfl
theorem bcellsInt : Tryz.prog.cellsOf 3 = 1 := by kernel_rfl
theorem cellsStr : Tryz.prog.cellsOf 9 = 1 := by kernel_rfl
theorem cellsForm : Tryz.prog.cellsOf 287 = 2 := by kernel_rfl
theorem cellsHdr : Tryz.prog.cellsOf 62 = 2 := by kernel_rfl
theorem undForm : ∃ n0 n1 : Field, Tryz.prog.underlying 287 = some (.struct #[n0, n1]) ∧ n0.type = 5 ∧ n1.type = 3 ∧ n0.offset = 0 ∧ n1.offset = 1 := ⟨_, _, Tryz.underlying287, rfl, rfl, rfl, rfl⟩
theorem undHdr : ∃ n0 n1 : Field, Tryz.prog.underlying 62 = some (.struct #[n0, n1]) ∧ n0.type = 9 ∧ n1.type = 9 ∧ n0.offset = 0 ∧ n1.offset = 1 := ⟨_, _, Tryz.underlying62, rfl, rfl, rfl, rfl⟩

theorem laid_mem {P : Program} {w : World} {laid : List (String × DataW Unit)} {ps : List MemPlace} (h : DataW.LaidVars P w laid ps) {n : String} {d : DataW Unit} (hm : (n, d) ∈ laid) :
    ∃ g t cs fuel p, P.globalNamed n = some g ∧ (P.globals[g]?).map (·.type) = some t ∧ w.var? P n = some cs ∧ DataW.trod (fun _ => ()) P w 0 (fun _ => true) false fuel t cs.toList = some (d, p) := by
  induction laid generalizing ps with
  | nil => simp at hm
  | cons x r ih =>
    obtain ⟨n', d'⟩ := x
    obtain ⟨g, t, cs, fuel, p, q, h1, h2, h3, h4, h5, _⟩ := h
    rcases List.mem_cons.1 hm with e | e
    · simp only [Prod.mk.injEq] at e
      obtain ⟨rfl, rfl⟩ := e
      exact ⟨g, t, cs, fuel, p, h1, h2, h3, h4⟩
    · exact ih h5 e

section
variable {H : Type} {enc : TypeId × Value → H} {W : World} {spare : Nat → Bool} {held : Bool}
set_option maxRecDepth 100000 in
/-- A form, as it reads. -/
theorem form_cells {nm : String} {g : Nat} {cs : Array Value} {fuel : Nat} {p : List MemPlace} {a k : Int} (hg : Tryz.prog.globalNamed nm = some g) (hv : W.var? Tryz.prog nm = some cs)
    (hd : DataW.trod enc Tryz.prog W 0 spare held fuel 287 cs.toList = some (.agg [.lit (.int .u8 a), .lit (.int .i64 k)], p)) : W.cell? ⟨g, 0, none⟩ = some (.int .u8 a) ∧ W.cell? ⟨g, 1, none⟩ = some (.int .i64 k) := by
  obtain ⟨f0, f1, hu, t0, t1, o0, o1⟩ := undForm
  obtain ⟨y0, y1, n, hx, hl, h0, h1⟩ := trod_struct2 hu hd
  rw [cellsForm] at hl
  have v0 := World.var?_cell hg hv 0
  have v1 := World.var?_cell hg hv 1
  obtain ⟨l⟩ := cs
  match l, hl with
  | [c0, c1], _ =>
    rw [t0, o0, bcellsU8] at h0
    rw [t1, o1, bcellsInt] at h1
    obtain ⟨k0, e0, x0, _⟩ := DataW.trod_int Tryz.underlying5 h0
    obtain ⟨k1, e1, x1, _⟩ := DataW.trod_int Tryz.underlying3 h1
    simp at e0 e1
    rw [x0, x1] at hx
    simp at hx
    rw [v0, v1]
    simp [e0, e1, hx]
set_option maxRecDepth 100000 in
/-- A pair, as it reads. -/
theorem hdr_reads {fuel : Nat} {c0 c1 : Value} {x : DataW H × List MemPlace} (hd : DataW.trod enc Tryz.prog W 0 spare held fuel 62 [c0, c1] = some x) : ∃ h : HP, c0 = .string h.n ∧ c1 = .string h.v ∧ x.1 = .agg [.lit (.string h.n.data.toList), .lit (.string h.v.data.toList)] ∧ h.n.size ≤ maxLen ∧ h.v.size ≤ maxLen := by
  obtain ⟨f0, f1, hu, t0, t1, o0, o1⟩ := undHdr
  obtain ⟨y0, y1, n, hx, hl, h0, h1⟩ := trod_struct2 hu hd
  rw [t0, o0, cellsStr] at h0
  rw [t1, o1, cellsStr] at h1
  obtain ⟨s0, e0, x0, m0⟩ := DataW.trod_string Tryz.underlying9 h0
  obtain ⟨s1, e1, x1, m1⟩ := DataW.trod_string Tryz.underlying9 h1
  simp at e0 e1
  refine ⟨⟨s0, s1⟩, e0, e1, ?_, m0, m1⟩
  rw [hx, x0, x1]
set_option maxRecDepth 100000 in
theorem fixed_cells {nm : String} {g : Nat} {cs : Array Value} {fuel : Nat} {p : List MemPlace} (hg : Tryz.prog.globalNamed nm = some g) (hv : W.var? Tryz.prog nm = some cs)
    (hd : DataW.trod enc Tryz.prog W 0 spare held fuel 410 cs.toList = some (.agg (fixed8.map fun h => .agg [.lit (.string h.n.data.toList), .lit (.string h.v.data.toList)]), p)) :
    ∀ i (h : i < fixed8.length), W.cell? ⟨g, 2 * i, none⟩ = some (.string fixed8[i].n) ∧ W.cell? ⟨g, 2 * i + 1, none⟩ = some (.string fixed8[i].v) := by
  intro i hi
  obtain ⟨xs, m, _, hx, hl, hn, hel⟩ := DataW.trod_array Tryz.underlying410 hd
  have h8 : fixed8.length = 8 := rfl
  have hi8 : i < 8 := by omega
  have he := hel i hi8
  rw [cellsHdr] at he
  have c16 : Tryz.prog.cellsOf 410 = 16 := by kernel_rfl
  rw [c16] at hl
  have hxi : i < xs.length := by omega
  rw [List.getElem?_eq_getElem hxi] at he
  have hlen2 : ((cs.toList.drop (i * 2)).take 2).length = 2 := by rw [List.length_take, List.length_drop]; omega
  have g0 : ((cs.toList.drop (i * 2)).take 2)[0]? = cs.toList[i * 2]? := by simp [List.getElem?_take, List.getElem?_drop]
  have g1 : ((cs.toList.drop (i * 2)).take 2)[1]? = cs.toList[i * 2 + 1]? := by simp [List.getElem?_take, List.getElem?_drop]
  have v0 := World.var?_cell hg hv (2 * i)
  have v1 := World.var?_cell hg hv (2 * i + 1)
  have e0 : 2 * i = i * 2 := by omega
  rw [e0] at v0 v1
  match hq : (cs.toList.drop (i * 2)).take 2, hlen2 with
  | [c0, c1], _ =>
    rw [hq] at he g0 g1
    obtain ⟨h, rfl, rfl, hx1, _, _⟩ := hdr_reads he
    simp only [Prod.mk.injEq, DataW.agg.injEq] at hx
    have h9 := congrArg (fun l => l[i]?) hx.1
    simp only [List.getElem?_map, List.getElem?_eq_getElem hi, List.getElem?_eq_getElem hxi, Option.map_some, Option.some.injEq] at h9
    rw [hx1] at h9
    simp only [DataW.agg.injEq, List.cons.injEq, DataW.lit.injEq, Lit.string.injEq, and_true] at h9
    have b0 := bytes_inj h9.1
    have b1 := bytes_inj h9.2
    rw [e0, v0, v1, ← Array.getElem?_toList, ← Array.getElem?_toList, ← g0, ← g1, b0, b1]
    exact ⟨rfl, rfl⟩
end

set_option maxRecDepth 100000 in
theorem gl_of_laid {W : World} {laid : List (String × DataW Unit)} (h : laidMet Tryz.prog laid W)
    (m0 : ("sluice/blocks.byNumber", Rows.laid_sluice_blocks_byNumber) ∈ laid) (m1 : ("sluice/blocks.toAdd", Rows.laid_sluice_blocks_toAdd) ∈ laid) (m2 : ("sluice/blocks.toLimit", Rows.laid_sluice_blocks_toLimit) ∈ laid) (m3 : ("sluice/blocks.notToAdd", Rows.laid_sluice_blocks_notToAdd) ∈ laid)
    (m4 : ("sluice/blocks.plain", Rows.laid_sluice_blocks_plain) ∈ laid) (m5 : ("sluice/blocks.packed", Rows.laid_sluice_blocks_packed) ∈ laid) (m6 : ("sluice/blocks.fixed", Rows.laid_sluice_blocks_fixed) ∈ laid) : Gl W := by
  obtain ⟨ps, hL, _, _⟩ := h
  have fm : ∀ (nm : String) (gi : Nat) (d : DataW Unit) (a k : Int), (nm, d) ∈ laid → d = .agg [.lit (.int .u8 a), .lit (.int .i64 k)] → Tryz.prog.globalNamed nm = some gi → (Tryz.prog.globals[gi]?).map (·.type) = some 287 → W.cell? ⟨gi, 0, none⟩ = some (.int .u8 a) ∧ W.cell? ⟨gi, 1, none⟩ = some (.int .i64 k) := by
    intro nm gi d a k hm hd hg ht
    obtain ⟨g, t, cs, fuel, p, hg', ht', hv, hr⟩ := laid_mem hL hm
    obtain rfl := Option.some.inj (hg.symm.trans hg')
    obtain rfl := Option.some.inj (ht.symm.trans ht')
    rw [hd] at hr
    exact form_cells hg hv hr
  have q0 := fm _ 1 _ 128 7 m0 rfl (by kernel_rfl) (by kernel_rfl)
  have q1 := fm _ 3 _ 64 6 m1 rfl (by kernel_rfl) (by kernel_rfl)
  have q2 := fm _ 0 _ 32 5 m2 rfl (by kernel_rfl) (by kernel_rfl)
  have q3 := fm _ 2 _ 0 4 m3 rfl (by kernel_rfl) (by kernel_rfl)
  have q4 := fm _ 6 _ 0 7 m4 rfl (by kernel_rfl) (by kernel_rfl)
  have q5 := fm _ 5 _ 128 7 m5 rfl (by kernel_rfl) (by kernel_rfl)
  have q6 : ∀ i (h : i < fixed8.length), W.cell? ⟨4, 2 * i, none⟩ = some (.string fixed8[i].n) ∧ W.cell? ⟨4, 2 * i + 1, none⟩ = some (.string fixed8[i].v) := by
    obtain ⟨g, t, cs, fuel, p, hg', ht', hv, hr⟩ := laid_mem hL m6
    obtain rfl := Option.some.inj ((show Tryz.prog.globalNamed "sluice/blocks.fixed" = some 4 by kernel_rfl).symm.trans hg')
    obtain rfl := Option.some.inj ((show (Tryz.prog.globals[4]?).map (·.type) = some 410 by kernel_rfl).symm.trans ht')
    exact fixed_cells hg' hv hr
  have b0 := World.block_lt_of_cell? W _ q0.1
  have b1 := World.block_lt_of_cell? W _ q1.1
  have b2 := World.block_lt_of_cell? W _ q2.1
  have b3 := World.block_lt_of_cell? W _ q3.1
  have b4 := World.block_lt_of_cell? W _ q4.1
  have b5 := World.block_lt_of_cell? W _ q5.1
  have b6 := World.block_lt_of_cell? W _ (q6 0 (by decide)).1
  simp only at b0 b1 b2 b3 b4 b5 b6
  exact ⟨q2, q0, q3, q1, q5, q4, q6, by omega⟩
end Go.Proofs.YtghongdbohjaaaaGreatDoor
/-
  A list of pairs that comes in, as it reads.
-/
namespace Go.Proofs.YtghongdbohjaaaaGreatDoor
set_option linter.unusedVariables false
set_option linter.unusedSimpArgs false
open Go.ChangeShapes Go.WideShapes Go.ChangeAt Go.RowKit

section
variable {H : Type} {enc : TypeId × Value → H} {W : World}
theorem open_heads {fuel : Nat} {sa : Option Addr} {len cap : Nat} {x : DataW H × List MemPlace} (h : DataW.trod enc Tryz.prog W 0 (fun _ => true) true fuel 57 [.slice sa len cap] = some x) :
    ∃ hs : List HP, hs.length = len ∧ len ≤ 9223372036854775807 ∧ (∀ y ∈ hs, y.n.size ≤ 9223372036854775807 ∧ y.v.size ≤ 9223372036854775807) ∧
      (len = 0 ∨ ∃ bb off, sa = some ⟨bb, off, none⟩ ∧ bb < W.heap.size ∧ ∀ i (hi : i < hs.length), W.cell? ⟨bb, off + i * 2, none⟩ = some (.string hs[i].n) ∧ W.cell? ⟨bb, off + i * 2 + 1, none⟩ = some (.string hs[i].v)) := by
  rcases Deep.open_slice Tryz.underlying57 h with ⟨hcs, _⟩ | ⟨a, len', cap', m, n, D, Pl, hcs, _, hl, hmx, hm, hx, hel⟩
  · simp at hcs
    obtain ⟨rfl, rfl, rfl⟩ := hcs
    exact ⟨[], rfl, by omega, by simp, Or.inl rfl⟩
  · simp at hcs
    obtain ⟨rfl, rfl, rfl⟩ := hcs
    simp only [if_true] at hm
    rw [cellsHdr] at hel
    have hone : ∀ i, i < len → ∃ q : HP, W.cell? (a.add (i * 2)) = some (.string q.n) ∧ W.cell? ((a.add (i * 2)).add 1) = some (.string q.v) ∧ q.n.size ≤ maxLen ∧ q.v.size ≤ maxLen := by
      intro i hi
      obtain ⟨cs, hc1, hc2⟩ := hel i (by omega)
      obtain ⟨_, hlen, hcell⟩ := World.cells?_some hc1
      match cs, hlen with
      | [c0, c1], _ =>
        obtain ⟨q, rfl, rfl, _, m0, m1⟩ := hdr_reads hc2
        have d0 := hcell 0 (by omega)
        have d1 := hcell 1 (by omega)
        refine ⟨q, ?_, d1, m0, m1⟩
        simpa [Addr.add] using d0
    obtain ⟨f, hf⟩ := @Deep.choose_lt HP ⟨⟨⟨#[]⟩, ⟨#[]⟩⟩⟩ _ _ hone
    have hml : len ≤ 9223372036854775807 := by have := hmx; unfold maxLen at this; omega
    refine ⟨(List.range len).map f, by simp, hml, ?_, ?_⟩
    · intro y hy
      obtain ⟨i, hi, rfl⟩ := List.mem_map.1 hy
      obtain ⟨_, _, m0, m1⟩ := hf i (by simpa using hi)
      unfold maxLen at m0 m1
      exact ⟨by omega, by omega⟩
    · rcases Nat.eq_zero_or_pos len with h0 | h0
      · exact Or.inl h0
      · right
        obtain ⟨b, off, spot⟩ := a
        have hspot : spot = none := by
          obtain ⟨g0, _⟩ := hf 0 h0
          simpa [Addr.add] using World.cell?_spot g0
        subst hspot
        have ad : ∀ j, (⟨b, off, none⟩ : Addr).add j = ⟨b, off + j, none⟩ := fun j => by unfold Addr.add; split <;> simp_all
        have ad2 : ∀ i j, ((⟨b, i, none⟩ : Addr)).add j = ⟨b, i + j, none⟩ := fun i j => by unfold Addr.add; split <;> simp_all
        refine ⟨b, off, rfl, ?_, fun i hi => ?_⟩
        · obtain ⟨g0, _⟩ := hf 0 h0
          rw [ad] at g0
          exact World.block_lt_of_cell? W _ g0
        · simp at hi
          obtain ⟨e0, e1, _⟩ := hf i hi
          rw [ad] at e0 e1
          rw [ad2] at e1
          simp only [List.getElem_map, List.getElem_range]
          exact ⟨e0, e1⟩
end
end Go.Proofs.YtghongdbohjaaaaGreatDoor
/-
  The goods' lists of pairs, as they read from a caller's memory.
-/
namespace Go.Proofs.YtghongdbohjaaaaGreatDoor
set_option linter.unusedVariables false
set_option linter.unusedSimpArgs false
open Go.ChangeShapes Go.WideShapes Go.ChangeAt Go.RowKit

theorem cellsHds : Tryz.prog.cellsOf 57 = 1 := by kernel_rfl

section
variable {H : Type} {enc : TypeId × Value → H} {W : World}
set_option maxRecDepth 100000 in
/-- A list of pairs, as it reads. -/
theorem open_hdl {fuel : Nat} {sa : Option Addr} {len cap : Nat} {x : DataW H × List MemPlace} (h : DataW.trod enc Tryz.prog W 0 (fun _ => true) true fuel 57 [.slice sa len cap] = some x) (hb : Rows.uptoBulk x.1 ≤ 1048576) :
    ∃ hs : List HP, hs.length = len ∧ HsB W (.slice sa len cap) hs ∧ (∀ j, (Value.slice sa len cap).ownBlock = some j → 0 < hs.length → j < W.heap.size) ∧ hs.length ≤ 1048576 ∧ ∀ y ∈ hs, y.n.size ≤ 1048576 ∧ y.v.size ≤ 1048576 := by
  rcases Deep.open_slice Tryz.underlying57 h with ⟨hcs, _⟩ | ⟨a, len', cap', m, n, D, Pl, hcs, _, hl, hmx, hm, hx, hel⟩
  · simp at hcs
    obtain ⟨rfl, rfl, rfl⟩ := hcs
    exact ⟨[], rfl, Or.inl (Or.inl ⟨rfl, rfl⟩), fun j _ h0 => by simp at h0, by simp, by simp⟩
  · simp at hcs
    obtain ⟨rfl, rfl, rfl⟩ := hcs
    simp only [if_true] at hm
    rw [cellsHdr] at hel
    obtain ⟨n0, n1, hu, t0, t1, o0, o1⟩ := undHdr
    rw [hx] at hb
    have hone : ∀ i, i < len → ∃ q : HP, (W.cell? (a.add (i * 2)) = some (.string q.n) ∧ W.cell? ((a.add (i * 2)).add 1) = some (.string q.v)) ∧ q.n.size ≤ 1048576 ∧ q.v.size ≤ 1048576 := by
      intro i hi
      obtain ⟨cs, hc1, hc2⟩ := hel i (by omega)
      obtain ⟨_, hlen, hcell⟩ := World.cells?_some hc1
      obtain ⟨y0, y1, n', hD, _, h0, h1⟩ := trod_struct2 hu hc2
      have hDb : Rows.uptoBulk (D i) ≤ 1048576 := by
        have hm1 : D i ∈ (List.range len).map D := List.mem_map.2 ⟨i, by simpa using hi, rfl⟩
        have := bulk_mem hm1
        simp only [Rows.uptoBulk] at hb
        omega
      have hD1 : D i = .agg [y0.1, y1.1] := congrArg Prod.fst hD
      rw [hD1] at hDb
      simp only [Rows.uptoBulk, Rows.uptoBulkAll] at hDb
      match cs, hlen with
      | [c0, c1], _ =>
        rw [t0, o0, cellsStr] at h0
        rw [t1, o1, cellsStr] at h1
        obtain ⟨s0, e0, hx0, _⟩ := DataW.trod_string Tryz.underlying9 h0
        obtain ⟨s1, e1, hx1, _⟩ := DataW.trod_string Tryz.underlying9 h1
        simp at e0 e1
        subst e0 e1
        have d0 := hcell 0 (by omega)
        have d1 := hcell 1 (by omega)
        have z0 : s0.data.toList.length = s0.size := by rw [Array.length_toList]; rfl
        have z1 : s1.data.toList.length = s1.size := by rw [Array.length_toList]; rfl
        rw [hx0, hx1] at hDb
        simp only [Rows.uptoBulk] at hDb
        refine ⟨⟨s0, s1⟩, ⟨?_, d1⟩, ?_, ?_⟩
        · simpa [Addr.add] using d0
        · show s0.size ≤ _
          omega
        · show s1.size ≤ _
          omega
    obtain ⟨f, hf⟩ := @Deep.choose_lt HP ⟨⟨⟨#[]⟩, ⟨#[]⟩⟩⟩ _ _ hone
    have hlenb : len ≤ 1048576 := by
      have := slice_bulk ((List.range len).map D) ((List.range (m - len)).map fun j => D (len + j))
      simp only [List.length_map, List.length_range] at this
      simp only at hb
      omega
    rcases Nat.eq_zero_or_pos len with h0 | h0
    · subst h0
      exact ⟨[], rfl, Or.inr ⟨a, cap, rfl, rfl⟩, fun j _ h0 => by simp at h0, by simp, by simp⟩
    · obtain ⟨b, off, spot⟩ := a
      have hspot : spot = none := by
        obtain ⟨⟨g0, _⟩, _⟩ := hf 0 h0
        simpa [Addr.add] using World.cell?_spot g0
      subst hspot
      have ad : ∀ j, (⟨b, off, none⟩ : Addr).add j = ⟨b, off + j, none⟩ := fun j => by unfold Addr.add; split <;> simp_all
      have ad2 : ∀ i j, ((⟨b, i, none⟩ : Addr)).add j = ⟨b, i + j, none⟩ := fun i j => by unfold Addr.add; split <;> simp_all
      have hbl : b < W.heap.size := by
        obtain ⟨⟨g0, _⟩, _⟩ := hf 0 h0
        rw [ad] at g0
        exact World.block_lt_of_cell? W _ g0
      refine ⟨(List.range len).map f, by simp, Or.inl (Or.inr ⟨b, off, cap, by simp, hbl, fun i hi => ?_⟩), fun j hj _ => by simp [Value.ownBlock] at hj; omega, by simpa using hlenb, fun y hy => ?_⟩
      · simp at hi
        obtain ⟨⟨e0, e1⟩, _⟩ := hf i hi
        rw [ad] at e0 e1
        rw [ad2] at e1
        simp only [List.getElem_map, List.getElem_range]
        exact ⟨e0, e1⟩
      · obtain ⟨i, hi, rfl⟩ := List.mem_map.1 hy
        exact (hf i (by simpa using hi)).2
/-- The goods' lists of pairs, as they read. -/
theorem open_hls {fuel : Nat} {sa : Option Addr} {len cap : Nat} {x : DataW H × List MemPlace} (h : DataW.trod enc Tryz.prog W 0 (fun _ => true) true fuel 23 [.slice sa len cap] = some x) (hb : Rows.uptoBulk x.1 ≤ 1048576) :
    ∃ hss : List (List HP × Value), hss.length = len ∧ hss.length ≤ 1048576 ∧ HdIn W sa hss := by
  rcases Deep.open_slice1 Tryz.underlying23 cellsHds h with ⟨hcs, _⟩ | ⟨a, len', cap', m, n, V, D, Pl, hcs, _, hl, hmx, hm, hx, hel⟩
  · simp at hcs
    obtain ⟨rfl, rfl, rfl⟩ := hcs
    exact ⟨[], rfl, by simp, ⟨fun k hk => by simp at hk, by simp, by simp⟩⟩
  · simp at hcs
    obtain ⟨rfl, rfl, rfl⟩ := hcs
    simp only [if_true] at hm
    have hx1 := congrArg Prod.fst hx
    simp only at hx1
    rw [hx1] at hb
    have hone : ∀ i, i < len → ∃ z : List HP × Value, W.cell? (a.add i) = some z.2 ∧ HsB W z.2 z.1 ∧ (∀ j, z.2.ownBlock = some j → 0 < z.1.length → j < W.heap.size) ∧ z.1.length ≤ 1048576 ∧ ∀ y ∈ z.1, y.n.size ≤ 1048576 ∧ y.v.size ≤ 1048576 := by
      intro i hi
      obtain ⟨h1, h2⟩ := hel i (by omega)
      obtain ⟨sk, lk, ck, hk⟩ := Joins.slice_form Tryz.underlying57 h2
      rw [hk] at h2
      simp at hk
      have hDb : Rows.uptoBulk (D i) ≤ 1048576 := by
        have hm1 : D i ∈ (List.range len).map D := List.mem_map.2 ⟨i, by simpa using hi, rfl⟩
        have := bulk_mem hm1
        simp only [Rows.uptoBulk] at hb
        omega
      obtain ⟨hs, hhl, a1, a2, a3, a4⟩ := open_hdl h2 hDb
      exact ⟨(hs, .slice sk lk ck), by rw [h1, hk], a1, a2, a3, a4⟩
    obtain ⟨f, hf⟩ := @Deep.choose_lt (List HP × Value) ⟨([], .bool false)⟩ _ _ hone
    have hlenb : len ≤ 1048576 := by
      have := bulk_length ((List.range len).map D)
      simp only [List.length_map, List.length_range] at this
      simp only [Rows.uptoBulk] at hb
      omega
    refine ⟨(List.range len).map f, by simp, by simpa using hlenb, ⟨fun k hk => ?_, fun q hq => ?_, fun q hq => ?_⟩⟩
    · simp at hk
      obtain ⟨e0, _⟩ := hf k hk
      obtain ⟨b, off, spot⟩ := a
      have hspot : spot = none := by
        obtain ⟨g0, _⟩ := hf 0 (by omega)
        simpa [Addr.add] using World.cell?_spot g0
      subst hspot
      have ad : ∀ j, (⟨b, off, none⟩ : Addr).add j = ⟨b, off + j, none⟩ := fun j => by unfold Addr.add; split <;> simp_all
      rw [ad] at e0
      exact ⟨b, off, rfl, World.block_lt_of_cell? W _ e0, by simpa using e0⟩
    · obtain ⟨i, hi, rfl⟩ := List.mem_map.1 hq
      obtain ⟨_, b1, b2, _⟩ := hf i (by simpa using hi)
      exact ⟨b1, b2⟩
    · obtain ⟨i, hi, rfl⟩ := List.mem_map.1 hq
      obtain ⟨_, _, _, b3⟩ := hf i (by simpa using hi)
      exact b3
end

end Go.Proofs.YtghongdbohjaaaaGreatDoor
