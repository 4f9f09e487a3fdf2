import Derived.Test.YtdccldbefdfppaaGreatDoorPShelfL
import Derived.Test.YtdccldbefdfppaaGreatDoorPGao
set_option linter.unusedVariables false
set_option linter.unusedSimpArgs false
namespace Go.Proofs.YtdccldbefdfppaaGreatDoor
open Go.RowKit Go.Maps Go.Sort Go.Shelf
theorem few_below : ∀ (n : Nat) (L : List Nat), L.Nodup → (∀ x ∈ L, x < n) → L.length ≤ n
 | 0, L, _, h => by
  cases L with
  | nil => exact Nat.le_refl _
  | cons x r => exact absurd (h x List.mem_cons_self) (Nat.not_lt_zero _)
 | n + 1, L, hn, h => by
  by_cases hm : n ∈ L
  ·have h1 := few_below n (L.erase n) (hn.erase n) (fun x hx => by
    have h2 := h x (List.mem_of_mem_erase hx)
    have h3 : x ≠ n := fun e => by subst e; exact (hn.not_mem_erase) hx
    omega)
   have := List.length_erase_of_mem hm
   have h4 : 0 < L.length := List.length_pos_of_mem hm
   omega
  ·have h1 := few_below n L hn (fun x hx => by
    have h2 := h x hx
    have h3 : x ≠ n := fun e => by subst e; exact hm hx
    omega)
   omega
theorem few_ints {L : List Int} {n : Nat} (hn : L.Nodup) (h : ∀ x ∈ L, 0 ≤ x ∧ x < (n : Int)) : L.length ≤ n := by
 have h1 : (L.map Int.toNat).Nodup := by
  rw [List.nodup_iff_pairwise_ne] at hn ⊢
  rw [List.pairwise_map]
  refine List.Pairwise.imp_of_mem ?_ hn
  intro a b ha hb hab e
  have := h a ha
  have := h b hb
  omega
 have h2 := few_below n _ h1 (fun x hx => by
  obtain ⟨y, hy, rfl⟩ := List.mem_map.1 hx
  have := h y hy
  omega)
 simpa using h2
theorem sorted_one : ∀ {a b : List Int}, a.Perm b → a.Pairwise (fun x y => decide (x ≤ y) = true) → b.Pairwise (fun x y => decide (x ≤ y) = true) → a = b
 | [], b, hp, _, _ => hp.nil_eq
 | x :: r, b, hp, ha, hb => by
  cases b with
  | nil => exact absurd hp.length_eq (by simp)
  | cons y t =>
   rw [List.pairwise_cons] at ha hb
   have hxy : x = y := by
    have h1 : x ∈ y :: t := hp.subset List.mem_cons_self
    have h2 : y ∈ x :: r := hp.symm.subset List.mem_cons_self
    rcases List.mem_cons.1 h1 with e | e
    ·exact e
    rcases List.mem_cons.1 h2 with e2 | e2
    ·exact e2.symm
    have a1 := ha.1 y e2
    have a2 := hb.1 x e
    simp at a1 a2
    omega
   subst hxy
   rw [sorted_one (List.Perm.cons_inv hp) ha.2 hb.2]
def sortZ (L : List Int) : List Int := L.mergeSort fun x y => decide (x ≤ y)
theorem sortZ_perm {a b : List Int} (h : a.Perm b) : sortZ a = sortZ b := by
 have tr : ∀ x y z : Int, decide (x ≤ y) = true → decide (y ≤ z) = true → decide (x ≤ z) = true := fun x y z h1 h2 => by simp at h1 h2 ⊢; omega
 have tt : ∀ x y : Int, (decide (x ≤ y) || decide (y ≤ x)) = true := fun x y => by simp; omega
 exact sorted_one (((List.mergeSort_perm a _).trans h).trans (List.mergeSort_perm b _).symm) (List.pairwise_mergeSort tr tt a) (List.pairwise_mergeSort tr tt b)
theorem sortZ_self (a : List Int) : (sortZ a).Perm a := List.mergeSort_perm a _
theorem sortsK (m : Nat) : AnyZI.SortsIn Tryz.prog Tryz.sortedA_ren Fence.wide m :=
  ⟨fun blk off cap ss W hH hblk hsz => callsIn_wide.2 (AnyM.slices_Sort_int Tryz.sortA blk off cap ss W hH hblk hsz),
   fun p cap W => callsIn_wide.2 (AnyM.slices_Sort_int_none Tryz.sortA p cap W)⟩
def readK (v : Value) : Option (DataW Unit × List MemPlace) := some (.nil, [])
def keysK (K : List Str) : DataW Unit := .map ((K.map fun x => (Lit.int .i64 x.2.number, DataW.nil)).foldr DataW.insert [])
theorem keysK_perm (K : List Str) : (intKeys (keysK K)).Perm (K.map fun x => x.2.number) := by
 unfold keysK intKeys
 have h := (Go.WideShapes.sorted_perm (H := Unit) (K.map fun x => (Lit.int .i64 x.2.number, DataW.nil))).map fun p => Go.intOf p.1
 rw [List.map_map] at h
 exact h
theorem owns_all {w : World} {mb : Nat} {K : List Str} (h : KnownS w mb K) (hn : ∀ x ∈ K, I64 x.2.number) (hnd : (K.map fun x => x.2.number).Nodup) (hl : K.length ≤ 1048576) : w.ownsMap Tryz.prog 3 readK mb K.length (keysK K) := by
 obtain ⟨es, clock, hb, he, hbn, hbd⟩ := h.blk
 have hlen : es.size = K.length := by
  have := congrArg List.length he
  simpa using this
 have hrd : ∀ e ∈ es.toList, ∃ x ∈ K, e.key = .int .i64 x.2.number ∧ WideElems.rd Tryz.prog 3 readK e = some (Lit.int .i64 x.2.number, .nil) := fun e hem => by
  have h1 : (e.key, e.val) ∈ K.map knownE := by rw [← he]; exact List.mem_map.2 ⟨e, hem, rfl⟩
  obtain ⟨x, hx, hxe⟩ := List.mem_map.1 h1
  simp only [knownE, Prod.mk.injEq] at hxe
  refine ⟨x, hx, hxe.1.symm, ?_⟩
  have hwf : (Lit.int .i64 x.2.number).wf = true := by
   obtain ⟨h1, h2⟩ := hn x hx
   simp [Lit.wf, IntKind.min, IntKind.max, IntKind.signed, IntKind.bits]
   omega
  unfold WideElems.rd
  rw [← hxe.1]
  simp [keyOf, mapKey, Tryz.underlying3, hwf, readK]
 have hkeys : es.toList.map (fun e => e.key) = K.map fun x => Value.int .i64 x.2.number := by
  have := congrArg (List.map Prod.fst) he
  rw [List.map_map, List.map_map] at this
  exact this
 refine ⟨es, clock, hb, ⟨by rw [hlen]; exact Nat.le_trans hl (by decide), ⟨hbn, hbd, ?_⟩, fun e hem => ?_⟩, by omega, ?_⟩
 ·show (es.toList.map fun e => e.key).Nodup
  rw [hkeys]
  rw [List.nodup_iff_pairwise_ne, List.pairwise_map] at hnd ⊢
  exact hnd.imp fun hab e => hab (by simpa using e)
 ·obtain ⟨x, -, -, h2⟩ := hrd e hem
  exact ⟨_, h2⟩
 ·have h3 : es.toList.map (WideElems.rg Tryz.prog 3 readK) = K.map fun x => (Lit.int .i64 x.2.number, DataW.nil) := by
   have h4 : es.toList.map (WideElems.rg Tryz.prog 3 readK) = (es.toList.map fun e => e.key).map fun v => ((match v with | .int _ a => Lit.int .i64 a | _ => Lit.bool false), (DataW.nil : DataW Unit)) := by
    rw [List.map_map]
    apply List.map_congr_left
    intro e hem
    obtain ⟨x, -, h1, h2⟩ := hrd e hem
    show WideElems.rg Tryz.prog 3 readK e = ((match e.key with | .int _ a => Lit.int .i64 a | _ => Lit.bool false), DataW.nil)
    rw [h1]
    simp [WideElems.rg, h2]
   rw [h4, hkeys, List.map_map]
   rfl
  unfold keysK
  rw [h3]
set_option maxHeartbeats 1000000 in
theorem eStreams_any (eb mb : Nat) (m : EndM) (K : List Str) (w : World) (h : EnB w eb m) (hm : m.known = .map (some mb)) (hK : KnownS w mb K) (hn : ∀ x ∈ K, I64 x.2.number) (hnd : (K.map fun x => x.2.number).Nodup) (hl : K.length ≤ 1048576) :
  Calls Tryz.prog 56 #[.pointer (some ⟨eb, 0, none⟩)] w fun e w' => ∃ v, e = .returned v ∧ w'.ownsRow w.heap.size 3 1 v K.length ((sortZ (K.map fun x => x.2.number)).map encZ) ∧ Below w.heap.size w w' := by
 have hown := owns_all hK hn hnd hl
 have hbl := hown.lt
 have c22 := h.c22
 rw [hm] at c22
 have hbA : Below w.heap.size w (w.alloc (.cells #[.map (some mb)] 78)) := (Below.refl _ _).alloc (Nat.le_refl _) _
 have hsz : Maps.size (keysK K) = K.length := by
  have h1 := (Go.WideShapes.sorted_perm (H := Unit) (K.map fun x => (Lit.int .i64 x.2.number, DataW.nil))).length_eq
  simpa [keysK, Maps.size] using h1
 have hseq : SeqGives Fence.wide 2 Tryz.prog 105 #[.pointer (some ⟨w.heap.size, 0, none⟩)] encZ (fun ss => ss.Perm (intKeys (keysK K))) (Maps.size (keysK K)) (w.alloc (.cells #[.map (some mb)] 78)) :=
  AnyZI.keys_gives (ρ := Tryz.keysA_ren) { Tryz.keysA with } Fence.wide _ trivial rfl (by omega) w.heap.size mb K.length _ _ (by simp) (by simp) (by
   obtain ⟨es, clock, hb, Ft, hs, hD⟩ := hown
   exact ⟨es, clock, (Below.heap_alloc _ _ mb hbl).trans hb, Ft, hs, hD⟩)
 have HK : Hid (∀ W, Calls Tryz.prog 71 #[.map (some mb)] W fun e w' => e = .returned (.func (.func 105) #[] #[.pointer (some ⟨W.heap.size, 0, none⟩)]) ∧ w' = W.alloc (.cells #[.map (some mb)] 78)) := fun W => (callsIn_wide (n := 5)).1 (AnyZI.keys_in Tryz.keysA Fence.wide 5 trivial rfl (some mb) W)
 have cS := AnyZI.sorted_in Tryz.sortedA Fence.wide 5 trivial trivial trivial trivial rfl (by omega) (sortsK _) (enters_of Tryz.func104 (by kernel_rfl) rfl) 105 #[.pointer (some ⟨w.heap.size, 0, none⟩)] trivial (enters_of Tryz.func105 (by kernel_rfl) rfl) _ _ (show Maps.size (keysK K) ≤ maxLen by rw [hsz]; exact Nat.le_trans hl (by decide)) (show Maps.size (keysK K) * 8 ≤ 140737488355328 by rw [hsz]; omega) _ hseq
 change CallsIn _ _ Tryz.prog 70 _ _ _ at cS
 have HS : Hid (Calls Tryz.prog 70 #[.func (.func 105) #[] #[.pointer (some ⟨w.heap.size, 0, none⟩)]] (w.alloc (.cells #[.map (some mb)] 78)) fun e w' => ∃ v, e = .returned v ∧ w'.ownsRow w.heap.size 3 1 v K.length ((sortZ (K.map fun x => x.2.number)).map encZ) ∧ Below w.heap.size w w') := by
  refine ((callsIn_wide (n := 5)).1 cS).mono ?_
  rintro e w' ⟨v, ss, rfl, hS, hrow, hnil, hb⟩
  have hp : ss.Perm (K.map fun x => x.2.number) := (show ss.Perm (intKeys (keysK K)) from hS).trans (keysK_perm K)
  have hsl : ss.length = K.length := by have := hp.length_eq; simpa using this
  refine ⟨v, rfl, ?_, hbA.trans (hb.mono hbA.size)⟩
  have h2 : w'.ownsRow (w.alloc (.cells #[.map (some mb)] 78)).heap.size 3 1 v K.length ((sortZ (K.map fun x => x.2.number)).map encZ) := by
   rw [← sortZ_perm hp, ← hsl]
   exact hrow
  exact owns_base h2 (fun j hj => by have := (h2.lt j hj).1; simp at this; omega)
 clear h hm hK hn hown hseq cS hsz hnd
 go_enter Tryz.func56, Tryz.ntmps56
 go_wp2_with fail
 refine (HK.out w).mono ?_
 rintro e w' ⟨rfl, hw'⟩
 rw [hw']
 clear hw' w'
 go_wp2_with fail
 refine HS.out.mono ?_
 rintro e w' ⟨v, rfl, hx⟩
 have HX := hide hx
 clear hx
 go_wp2
 go_ret
 exact ⟨v, rfl, HX.out⟩
set_option maxRecDepth 100000 in
set_option maxHeartbeats 400000 in
theorem xStreams_any (eb mb : Nat) (m : EndM) (K : List Str) (w : World) (h : EnB w eb m) (hm : m.known = .map (some mb)) (hK : KnownS w mb K) (hn : ∀ x ∈ K, I64 x.2.number) (hnd : (K.map fun x => x.2.number).Nodup) (hl : K.length ≤ 1048576) :
  Calls Tryz.prog 36 #[.pointer (some ⟨eb, 0, none⟩)] w fun e w' => ∃ v, e = .returned v ∧ w'.ownsRow w.heap.size 3 1 v K.length ((sortZ (K.map fun x => x.2.number)).map encZ) ∧ Below w.heap.size w w' := by
 have HC := hide (eStreams_any eb mb m K w h hm hK hn hnd hl)
 clear h hm hK hn hnd
 go_enter Tryz.func36, Tryz.ntmps36
 go_wp2_with fail
 refine HC.out.mono ?_
 rintro e w' ⟨v, rfl, hx⟩
 have HX := hide hx
 clear hx
 go_wp2
 go_ret
 exact ⟨v, rfl, HX.out⟩
end Go.Proofs.YtdccldbefdfppaaGreatDoor
