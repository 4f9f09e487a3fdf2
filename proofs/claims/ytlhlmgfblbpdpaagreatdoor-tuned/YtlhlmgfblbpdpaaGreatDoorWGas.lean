import Derived.Test.YtlhlmgfblbpdpaaGreatDoorWGae
import Derived.Test.YtlhlmgfblbpdpaaGreatDoorWGaf
import Derived.Test.YtlhlmgfblbpdpaaGreatDoorWGal
set_option linter.unusedVariables false
set_option linter.unusedSimpArgs false
/-
  Package blocks: Unpacker's takePair, where there is no pair.
-/
namespace Go.Proofs.YtlhlmgfblbpdpaaGreatDoor
set_option linter.unusedVariables false
set_option linter.unusedSimpArgs false
open Go.RowKit

end Go.Proofs.YtlhlmgfblbpdpaaGreatDoor
/-
  Package blocks: Unpacker's takeLimit, where there is none.
-/
namespace Go.Proofs.YtlhlmgfblbpdpaaGreatDoor
set_option linter.unusedVariables false
set_option linter.unusedSimpArgs false
open Go.RowKit

end Go.Proofs.YtlhlmgfblbpdpaaGreatDoor
/-
  Package blocks: Unpacker's Unpack, where there is no list.
-/
namespace Go.Proofs.YtlhlmgfblbpdpaaGreatDoor
set_option linter.unusedVariables false
set_option linter.unusedSimpArgs false
open Go.RowKit

end Go.Proofs.YtlhlmgfblbpdpaaGreatDoor
/-
  A block that is none, unpacked where the table is empty: one byte, that names no pair.
-/
namespace Go.Proofs.YtlhlmgfblbpdpaaGreatDoor
set_option linter.unusedVariables false
set_option linter.unusedSimpArgs false
open Go.RowKit

set_option maxHeartbeats 400000 in
theorem highest_nil (b o : Nat) (w : World) (hc : w.cell? ⟨b, o + 2, none⟩ = some (.slice none 0 0)) :
    Calls Tryz.prog 149 #[.pointer (some ⟨b, o, none⟩)] w fun e w' => e = .returned (.int .i64 8) ∧ w' = w := by
  go_enter Tryz.func149, Tryz.ntmps149
  go_wp2
  go_ret
  exact ⟨by go_num, rfl⟩
set_option maxRecDepth 100000 in
set_option maxHeartbeats 800000 in
theorem pair_nil (b o : Nat) (w : World) (hc : w.cell? ⟨b, o + 2, none⟩ = some (.slice none 0 0)) (hb : b < w.heap.size) :
    Calls Tryz.prog 134 #[.pointer (some ⟨b, o, none⟩), .int .i64 64] w fun e w' => Gone e ∧ Below w.heap.size w w' := by
  have HH := hide (fun wx hc => highest_nil b o wx hc)
  have g0 : ((w.alloc (.cells #[.string ⟨#[]⟩, .string ⟨#[]⟩] 197))).cell? ⟨b, o + 2, none⟩ = some (.slice none 0 0) := (((Chg.refl (fun _ => False) w).alloc _).cell (p := ⟨b, o + 2, none⟩) hb id).trans hc
  go_enter Tryz.func134, Tryz.ntmps134
  go_wp2_with fail
  refine (HH.out _ g0).mono ?_
  rintro e w1 ⟨rfl, hw1⟩
  rw [hw1]
  clear hw1 w1
  go_wp2
  exact ⟨rfl, rfl, (Below.refl w.heap.size w).alloc (Nat.le_refl _) _⟩
set_option maxRecDepth 100000 in
set_option maxHeartbeats 1600000 in
theorem takePair_192 (ub uo sb : Nat) (rv : Value) (w : World) (hgl : Gl w) (hc : w.cell? ⟨ub, uo + 2, none⟩ = some (.slice none 0 0)) (hub : ub < w.heap.size) (hne : ub ≠ sb) (hs : SrS w sb rv [192]) (hsb : 7 ≤ sb) :
    Calls Tryz.prog 121 #[.pointer (some ⟨ub, uo, none⟩), .pointer (some ⟨sb, 0, none⟩)] w fun e w' => Gone e ∧ Chg (fun j => j = sb) w w' := by
  have hbA : Below w.heap.size w (w.alloc (.cells #[.string ⟨#[]⟩, .string ⟨#[]⟩] 197)) := (Below.refl _ _).alloc (Nat.le_refl _) _
  have hbox := heap_alloc_new w (.cells #[.string ⟨#[]⟩, .string ⟨#[]⟩] 197)
  have htk := stake_ok sb rv 192 [] _ (hs.below hbA) (by simp)
  have hsl := lt_of_block hs.blk
  have HF7 : Hid (∀ wx, Calls Tryz.prog 131 #[fm 128 7, .int .u8 192] wx fun e w' => e = .returned (.bool true) ∧ Below wx.heap.size wx w') := fun wx => fbegins_any 128 7 192 wx (by decide)
  have HCN : Hid (∀ rv' wx, SrS wx sb rv' [] → Calls Tryz.prog 132 #[.pointer (some ⟨sb, 0, none⟩), .int .u8 192, fm 128 7] wx fun e w' => ∃ rv'', e = .returned (.int .i64 64) ∧ SrTo wx w' sb rv' rv'' []) := fun rv' wx hh => by
    refine (takeCount_any sb rv' [] 192 128 7 wx hh (by decide) (by simp)).mono ?_
    have hcnt : rdCnt 7 192 [] = some (64, []) := by decide
    rintro e w' (⟨N, r', rv'', e1, e0, e2, e3⟩ | ⟨e1, _⟩)
    · rw [hcnt] at e1
      simp only [Option.some.injEq, Prod.mk.injEq] at e1
      obtain ⟨rfl, rfl⟩ := e1
      exact ⟨rv'', e2, e3⟩
    · rw [hcnt] at e1; cases e1
  have HPB : Hid (∀ wx, Chg (fun j => j = sb) w wx → Calls Tryz.prog 134 #[.pointer (some ⟨ub, uo, none⟩), .int .i64 64] wx fun e w' => Gone e ∧ Below wx.heap.size wx w') := fun wx hh => pair_nil ub uo wx (by rw [hh.cell (p := ⟨ub, uo + 2, none⟩) hub hne]; exact hc) (Nat.lt_of_lt_of_le hub hh.size)
  have HTK := hide htk
  have HBA := hide hbA
  have HBX := hide hbox
  have HG := hide hgl
  clear htk hbA hbox hgl hs hc
  simp only [fm] at HF7 HCN
  go_enter Tryz.func121, Tryz.ntmps121
  go_wp2_with fail
  refine HTK.out.mono ?_
  rintro e w1 ⟨rv1, rfl, hs1⟩
  have hg1 := (HG.out.below HBA.out).sr hs1.chg hsb
  have hx1 : w1.heap[w.heap.size]? = some (.cells #[.string ⟨#[]⟩, .string ⟨#[]⟩] 197 (0, 0)) := by rw [hs1.chg.block _ (lt_of_block HBX.out) (by omega)]; exact HBX.out
  have hs1' : SrTo w w1 sb rv rv1 [] := SrTo.before HBA.out hs1
  obtain ⟨g0, g1⟩ := hg1.num
  have HG1 := hide hg1
  have HX1 := hide hx1
  have HS1 := hide hs1'
  clear hs1 hs1' hg1 hx1
  go_wp2_with fail
  refine (HF7.out _).mono ?_
  rintro e w2 ⟨rfl, hb⟩
  have hg := HG1.out.below hb
  have hx : w2.heap[w.heap.size]? = some (.cells #[.string ⟨#[]⟩, .string ⟨#[]⟩] 197 (0, 0)) := by rw [hb.block _ (lt_of_block HX1.out)]; exact HX1.out
  have hs := HS1.out.below hb
  clear g0 g1
  obtain ⟨g0, g1⟩ := hg.num
  have HG2 := hide hg
  have HX2 := hide hx
  have HS2 := hide hs
  clear hb hg hx hs
  have hsd : SrS w2.drew sb rv1 [] := HS2.out.st.chg ((Chg.refl (fun _ => False) _).drew) id (fun _ _ => id)
  have hcn := HCN.out rv1 w2.drew hsd
  have HCD := hide hcn
  clear hsd hcn
  go_wp2
  go_region_law (first
    | (refine step_call rfl 132 Tryz.f132 Tryz.func132 (by kernel_rfl) rfl [.tmp 16, .tmp 17, .tmp 18] #[195, 5, 193] rfl [.pointer (some ⟨sb, 0, none⟩), .int .u8 192, .agg #[.int .u8 128, .int .i64 7]] (by simp [Act.eval, Act.put]) HCD.out ?_; rintro e w3 ⟨rv3, rfl, hs3⟩; refine ⟨_, rfl, ?_⟩; have HC3 := hide (HS2.out.chg.trans (Chg.mono (S := fun j => j = sb) ⟨hs3.chg.os, hs3.chg.tape, hs3.chg.output, hs3.chg.size, hs3.chg.block⟩ fun _ _ e => Or.inr e)); clear hs3)
    | (refine step_gone rfl 134 Tryz.f134 Tryz.func134 (by kernel_rfl) rfl [.tmp 15, .tmp 19] #[78, 3] rfl [.pointer (some ⟨ub, uo, none⟩), .int .i64 64] (by simp [Act.eval, Act.put]) (HPB.out w3 HC3.out) (fun e w4 he => ⟨_, he.1, rfl, rfl, HC3.out.then_below he.2⟩) (.agg #[.string ⟨#[]⟩, .string ⟨#[]⟩]) ?_; intro hf; have HF : Hid False := hf; clear hf; have k0 : w3.cell? ⟨w.heap.size, 0, none⟩ = some (.string ⟨#[]⟩) := HF.out.elim; have k1 : w3.cell? ⟨w.heap.size, 1, none⟩ = some (.string ⟨#[]⟩) := HF.out.elim; have k2 : w3.frozen? ⟨w.heap.size, 0, none⟩ = false := HF.out.elim; have k3 : w3.frozen? ⟨w.heap.size, 1, none⟩ = false := HF.out.elim))
  all_goals exact HF.out.elim
set_option maxRecDepth 100000 in
set_option maxHeartbeats 1600000 in
theorem bUnpack_192 (ub uo : Nat) (bv : Value) (w : World) (hb : BytesIn w bv [192]) (hg : Gl w) (hc : w.cell? ⟨ub, uo + 2, none⟩ = some (.slice none 0 0)) (hub : ub < w.heap.size) :
    Calls Tryz.prog 103 #[.pointer (some ⟨ub, uo, none⟩), bv] w fun e w' => e = .panicked [{ v := .iface 41 (.int .i64 13), recovered := false }] ∧ Below w.heap.size w w' := by
  have hbA : Below w.heap.size w (w.alloc (.cells #[bv] 190)) := (Below.refl _ _).alloc (Nat.le_refl _) _
  have hsr : SrS (w.alloc (.cells #[bv] 190)) w.heap.size bv [192] := ⟨heap_alloc_new w _, hb.chg (Chg.of_below (S := fun _ => False) hbA) (fun _ _ => id), fun e => by have := hb.lt e; omega⟩
  have hgA := hg.below hbA
  have HSH := hide (shas_any w.heap.size bv [192] 32 5 _ hsr (Or.inr (Or.inl rfl)))
  have l0 := hg.lim.1
  have l1 := hg.lim.2
  have hgl : 0 < w.heap.size := Nat.lt_of_lt_of_le (by decide) hg.lt
  have HAE : Hid (∀ w1, Below (w.alloc (.cells #[bv] 190)).heap.size (w.alloc (.cells #[bv] 190)) w1 → (Calls Tryz.prog 120 #[.pointer (some ⟨w.heap.size, 0, none⟩)] w1 fun e w' => e = .returned (.bool false) ∧ w' = w1) ∧ (Calls Tryz.prog 121 #[.pointer (some ⟨ub, uo, none⟩), .pointer (some ⟨w.heap.size, 0, none⟩)] w1 fun e w' => e = .panicked [{ v := .iface 41 (.int .i64 13), recovered := false }] ∧ Below w.heap.size w w')) := fun w1 hb1 => by
    have hs1 := hsr.below hb1
    have hbw := hbA.trans (hb1.mono hbA.size)
    refine ⟨atEnd_any w.heap.size bv [192] w1 hs1, ?_⟩
    refine (takePair_192 ub uo w.heap.size bv w1 (hgA.below hb1) (by rw [(Chg.of_below (S := fun _ => False) hbw).cell (p := ⟨ub, uo + 2, none⟩) hub id]; exact hc) (Nat.lt_of_lt_of_le hub hbw.size) (by omega) hs1 hg.lt).mono ?_
    rintro e w' ⟨he, hch⟩
    exact ⟨he, below_of_chg hbw hch (fun j hj => by omega)⟩
  have HBA := hide hbA
  obtain ⟨sv, cv, hv, -⟩ := bytesIn_len hb
  subst hv
  simp only [List.length_cons, List.length_nil, Nat.zero_add] at HSH HAE HBA
  simp only [fm] at HSH
  clear hb hg hbA hsr hgA hc
  go_enter Tryz.func103, Tryz.ntmps103
  go_wp2
  refine wp_loop_rounds 1 ?_
  rw [rounds_succ]
  go_wp2_with fail
  refine HSH.out.mono ?_
  rintro e w1 ⟨rfl, hb1⟩
  obtain ⟨ha1, ha2⟩ := HAE.out w1 hb1
  have HA := hide ha1
  have HP := hide ha2
  clear hb1 ha1 ha2
  have hF : hasF 32 5 [192] = false := by decide
  rw [hF]
  go_wp2
  refine wp_loop_rounds 1 ?_
  rw [rounds_succ]
  go_wp2_with fail
  refine HA.out.mono ?_
  rintro e w' ⟨rfl, hw'⟩
  rw [hw']
  clear hw' w'
  go_wp2_with fail
  refine HP.out.mono ?_
  rintro e w' ⟨rfl, hx⟩
  have HX := hide hx
  clear hx
  go_wp2
  exact ⟨rfl, rfl, HX.out⟩
end Go.Proofs.YtlhlmgfblbpdpaaGreatDoor
