import Derived.Test.YtghongdbohjaaaaGreatDoorUGam
import Derived.Test.YtghongdbohjaaaaGreatDoorUGan
import Derived.Test.YtghongdbohjaaaaGreatDoorUGal
import Derived.Test.YtghongdbohjaaaaGreatDoorUGap
set_option linter.unusedVariables false
set_option linter.unusedSimpArgs false
/-
  Package blocks: Unpacker's takePair, where there is no pair.
-/
namespace Go.Proofs.YtghongdbohjaaaaGreatDoor
set_option linter.unusedVariables false
set_option linter.unusedSimpArgs false
open Go.RowKit

set_option maxRecDepth 100000 in
set_option maxHeartbeats 800000 in
theorem takePair_nocount (ub : Nat) (cs : Array Value) (tP : TypeId) (lim : Nat) (tv : Value) (tab : List HP) (sb : Nat) (rv : Value) (c : UInt8) (r : List UInt8) (w : World) (hgl : Gl w) (ht : TbS w ub cs tP lim tv tab) (hs : SrS w sb rv (c :: r)) (hl : (c :: r).length ≤ 134217728) (hsb : 7 ≤ sb)
    (hc : 128 ≤ c.toNat) (hcnt : rdCnt 7 c r = none) :
    Calls Tryz.prog 150 #[.pointer (some ⟨ub, 0, none⟩), .pointer (some ⟨sb, 0, none⟩)] w fun e w' => Gone e ∧ Chg (fun j => j = sb) w w' := by
  have hc8 : c.toNat ≤ 255 := Nat.le_of_lt_succ c.toNat_lt
  have hbA : Below w.heap.size w (w.alloc (.cells #[.string ⟨#[]⟩, .string ⟨#[]⟩] 62)) := (Below.refl _ _).alloc (Nat.le_refl _) _
  have htk := stake_ok sb rv c r _ (hs.below hbA) (by omega)
  have hsl := lt_of_block hs.blk
  have HFB : Hid (∀ wx, Calls Tryz.prog 219 #[fm 128 7, .int .u8 c.toNat] wx fun e w' => e = .returned (.bool true) ∧ Below wx.heap.size wx w') := fun wx => by
    have := fbegins_any 128 7 c wx (by decide)
    rwa [show decide (c.toNat / 2 ^ 7 = 128 / 2 ^ 7) = true from by simp; omega] at this
  have HCN : Hid (∀ rv' wx, SrS wx sb rv' r → Calls Tryz.prog 220 #[.pointer (some ⟨sb, 0, none⟩), .int .u8 c.toNat, fm 128 7] wx fun e w' => Gone e ∧ Chg (fun j => j = sb) wx w') := fun rv' wx hh => by
    refine (takeCount_any sb rv' r c 128 7 wx hh (by decide) (by simp only [List.length_cons] at hl; omega)).mono ?_
    rintro e w' (⟨N, r', rv'', e1, _⟩ | ⟨e1, e2, e3⟩)
    · rw [hcnt] at e1; cases e1
    · exact ⟨e2, e3⟩
  have HTK := hide htk
  have HBA := hide hbA
  have HG := hide hgl
  clear htk hbA hgl ht hs hcnt
  generalize c.toNat = x at *
  go_enter Tryz.func150, Tryz.ntmps150
  go_wp2_with fail
  refine HTK.out.mono ?_
  rintro e w1 ⟨rv1, rfl, hs1⟩
  have hg1 := (HG.out.below HBA.out).sr hs1.chg hsb
  have hs1' : SrTo w w1 sb rv rv1 r := SrTo.before HBA.out hs1
  obtain ⟨g0, g1⟩ := hg1.num
  have HG1 := hide hg1
  have HS1 := hide hs1'
  clear hs1 hs1' hg1
  go_wp2_with fail
  refine (HFB.out _).mono ?_
  rintro e w2 ⟨rfl, hb2⟩
  have hg2 := HG1.out.below hb2
  have hs2 := HS1.out.below hb2
  clear g0 g1
  obtain ⟨g0, g1⟩ := hg2.num
  have HS2 := hide hs2
  clear hb2 hg2 hs2
  have hsd : SrS w2.drew sb rv1 r := HS2.out.st.chg ((Chg.refl (fun _ => False) _).drew) id (fun _ _ => id)
  have hcn := HCN.out rv1 w2.drew hsd
  have HCD := hide hcn
  clear hsd hcn
  go_wp2
  have HEND : Hid (∀ w3, Chg (fun j => j = sb) w2.drew w3 → Chg (fun j => j = sb) w w3) := fun w3 hs3 => HS2.out.chg.trans (Chg.mono (S := fun j => j = sb) ⟨hs3.os, hs3.tape, hs3.output, hs3.size, hs3.block⟩ fun _ _ e => Or.inr e)
  go_region_law (first
    | (refine step_gone rfl 220 Tryz.f220 Tryz.func220 (by kernel_rfl) rfl [.tmp 16, .tmp 17, .tmp 18] #[299, 5, 287] rfl [.pointer (some ⟨sb, 0, none⟩), .int .u8 (x : Int), fm 128 7] (by simp [Act.eval, Act.put, fm]) HCD.out (fun e w3 he => ⟨_, he.1, rfl, rfl, HEND.out w3 he.2⟩) (.int .i64 1) ?_; intro hf; have HF : Hid False := hf; clear hf)
    | (refine step_never HF.out (.agg #[.string ⟨#[]⟩, .string ⟨#[]⟩]) ?_; have k0 : w2.cell? ⟨w.heap.size, 0, none⟩ = some (.string ⟨#[]⟩) := HF.out.elim; have k1 : w2.cell? ⟨w.heap.size, 1, none⟩ = some (.string ⟨#[]⟩) := HF.out.elim; have k2 : w2.frozen? ⟨w.heap.size, 0, none⟩ = false := HF.out.elim; have k3 : w2.frozen? ⟨w.heap.size, 1, none⟩ = false := HF.out.elim))
  all_goals exact HF.out.elim
set_option maxRecDepth 100000 in
set_option maxHeartbeats 800000 in
theorem takePair_nocount_add (ub : Nat) (cs : Array Value) (tP : TypeId) (lim : Nat) (tv : Value) (tab : List HP) (sb : Nat) (rv : Value) (c : UInt8) (r : List UInt8) (w : World) (hgl : Gl w) (ht : TbS w ub cs tP lim tv tab) (hs : SrS w sb rv (c :: r)) (ha : Apart ub sb tv rv) (hl : (c :: r).length ≤ 134217728) (hsb : 7 ≤ sb)
    (hc : 64 ≤ c.toNat) (hc2 : c.toNat < 128) (hcnt : rdCnt 6 c r = none) :
    Calls Tryz.prog 150 #[.pointer (some ⟨ub, 0, none⟩), .pointer (some ⟨sb, 0, none⟩)] w fun e w' => Gone e ∧ Chg (fun j => j = sb) w w' := by
  have hc8 : c.toNat ≤ 255 := Nat.le_of_lt_succ c.toNat_lt
  have hbA : Below w.heap.size w (w.alloc (.cells #[.string ⟨#[]⟩, .string ⟨#[]⟩] 62)) := (Below.refl _ _).alloc (Nat.le_refl _) _
  have hbox := heap_alloc_new w (.cells #[.string ⟨#[]⟩, .string ⟨#[]⟩] 62)
  have htk := stake_ok sb rv c r _ (hs.below hbA) (by omega)
  have hsl := lt_of_block hs.blk
  simp only [List.length_cons] at hl
  have HF7 : Hid (∀ wx, Calls Tryz.prog 219 #[fm 128 7, .int .u8 c.toNat] wx fun e w' => e = .returned (.bool false) ∧ Below wx.heap.size wx w') := fun wx => by
    have := fbegins_any 128 7 c wx (by decide)
    rwa [show decide (c.toNat / 2 ^ 7 = 128 / 2 ^ 7) = false from by simp; omega] at this
  have HF6 : Hid (∀ wx, Calls Tryz.prog 219 #[fm 64 6, .int .u8 c.toNat] wx fun e w' => e = .returned (.bool true) ∧ Below wx.heap.size wx w') := fun wx => by
    have := fbegins_any 64 6 c wx (by decide)
    rwa [show decide (c.toNat / 2 ^ 6 = 64 / 2 ^ 6) = true from by simp; omega] at this
  have HCN : Hid (∀ rv' wx, SrS wx sb rv' r → Calls Tryz.prog 220 #[.pointer (some ⟨sb, 0, none⟩), .int .u8 c.toNat, fm 64 6] wx fun e w' => Gone e ∧ Chg (fun j => j = sb) wx w') := fun rv' wx hh => by
    refine (takeCount_any sb rv' r c 64 6 wx hh (by decide) (by omega)).mono ?_
    rintro e w' (⟨N, r', rv'', e1, _⟩ | ⟨e1, e2, e3⟩)
    · rw [hcnt] at e1; cases e1
    · exact ⟨e2, e3⟩
  clear hcnt
  have HTK := hide htk
  have HBA := hide hbA
  have HBX := hide hbox
  have HG := hide hgl
  have HT := hide ht
  have HA := hide ha
  clear htk hbA hbox hgl ht hs ha
  generalize c.toNat = x at *
  go_enter Tryz.func150, Tryz.ntmps150
  go_wp2_with fail
  refine HTK.out.mono ?_
  rintro e w1 ⟨rv1, rfl, hs1⟩
  have hg1 := (HG.out.below HBA.out).sr hs1.chg hsb
  have hx1 : w1.heap[w.heap.size]? = some (.cells #[.string ⟨#[]⟩, .string ⟨#[]⟩] 62 (0, 0)) := by rw [hs1.chg.block _ (lt_of_block HBX.out) (by omega)]; exact HBX.out
  have hs1' : SrTo w w1 sb rv rv1 r := SrTo.before HBA.out hs1
  obtain ⟨g0, g1⟩ := hg1.num
  have HG1 := hide hg1
  have HX1 := hide hx1
  have HS1 := hide hs1'
  clear hs1 hs1' hg1 hx1
  go_wp2_with fail
  refine (HF7.out _).mono ?_
  rintro e w2 ⟨rfl, hb⟩
  have hg := HG1.out.below hb
  have hx : w2.heap[w.heap.size]? = some (.cells #[.string ⟨#[]⟩, .string ⟨#[]⟩] 62 (0, 0)) := by rw [hb.block _ (lt_of_block HX1.out)]; exact HX1.out
  have hs := HS1.out.below hb
  clear g0 g1
  obtain ⟨g0, g1⟩ := hg.add
  have HG2 := hide hg
  have HX2 := hide hx
  have HS2 := hide hs
  clear hb hg hx hs
  go_wp2_with fail
  refine (HF6.out _).mono ?_
  rintro e w3 ⟨rfl, hb⟩
  have hg := HG2.out.below hb
  have hx : w3.heap[w.heap.size]? = some (.cells #[.string ⟨#[]⟩, .string ⟨#[]⟩] 62 (0, 0)) := by rw [hb.block _ (lt_of_block HX2.out)]; exact HX2.out
  have hs := HS2.out.below hb
  clear g0 g1
  obtain ⟨g0, g1⟩ := hg.add
  have HG3 := hide hg
  have HX3 := hide hx
  have HS3 := hide hs
  clear hb hg hx hs
  go_wp2_with fail
  refine (HCN.out rv1 _ HS3.out.st).mono ?_
  rintro e w9 ⟨he, hc9⟩
  rw [he]
  exact ⟨rfl, rfl, HS3.out.chg.trans (hc9.mono fun _ _ e => Or.inr e)⟩

set_option maxRecDepth 100000 in
set_option maxHeartbeats 800000 in
theorem takePair_notexts_add (ub : Nat) (cs : Array Value) (tP : TypeId) (lim : Nat) (tv : Value) (tab : List HP) (sb : Nat) (rv : Value) (c : UInt8) (r : List UInt8) (w : World) (hgl : Gl w) (ht : TbS w ub cs tP lim tv tab) (hs : SrS w sb rv (c :: r)) (ha : Apart ub sb tv rv) (hl : (c :: r).length ≤ 134217728) (hsb : 7 ≤ sb)
    (n : Nat) (s : List UInt8) (hc : 64 ≤ c.toNat) (hc2 : c.toNat < 128) (hcnt : rdCnt 6 c r = some (n, s)) (hx : rdTxs tab n s = none) :
    Calls Tryz.prog 150 #[.pointer (some ⟨ub, 0, none⟩), .pointer (some ⟨sb, 0, none⟩)] w fun e w' => Gone e ∧ Chg (fun j => j = sb) w w' := by
  have hc8 : c.toNat ≤ 255 := Nat.le_of_lt_succ c.toNat_lt
  have hbA : Below w.heap.size w (w.alloc (.cells #[.string ⟨#[]⟩, .string ⟨#[]⟩] 62)) := (Below.refl _ _).alloc (Nat.le_refl _) _
  have hbox := heap_alloc_new w (.cells #[.string ⟨#[]⟩, .string ⟨#[]⟩] 62)
  have htk := stake_ok sb rv c r _ (hs.below hbA) (by omega)
  have hsl := lt_of_block hs.blk
  simp only [List.length_cons] at hl
  have HF7 : Hid (∀ wx, Calls Tryz.prog 219 #[fm 128 7, .int .u8 c.toNat] wx fun e w' => e = .returned (.bool false) ∧ Below wx.heap.size wx w') := fun wx => by
    have := fbegins_any 128 7 c wx (by decide)
    rwa [show decide (c.toNat / 2 ^ 7 = 128 / 2 ^ 7) = false from by simp; omega] at this
  have HF6 : Hid (∀ wx, Calls Tryz.prog 219 #[fm 64 6, .int .u8 c.toNat] wx fun e w' => e = .returned (.bool true) ∧ Below wx.heap.size wx w') := fun wx => by
    have := fbegins_any 64 6 c wx (by decide)
    rwa [show decide (c.toNat / 2 ^ 6 = 64 / 2 ^ 6) = true from by simp; omega] at this
  have hsq := rdCnt_len hcnt
  have HCN : Hid (∀ rv' wx, SrS wx sb rv' r → Calls Tryz.prog 220 #[.pointer (some ⟨sb, 0, none⟩), .int .u8 c.toNat, fm 64 6] wx fun e w' => ∃ rv'', n ≤ 8388608 ∧ e = .returned (.int .i64 (n : Int)) ∧ SrTo wx w' sb rv' rv'' s) := fun rv' wx hh => by
    refine (takeCount_any sb rv' r c 64 6 wx hh (by decide) (by omega)).mono ?_
    rintro e w' (⟨N, r', rv'', e1, e0, e2, e3⟩ | ⟨e1, _⟩)
    · rw [hcnt] at e1
      simp only [Option.some.injEq, Prod.mk.injEq] at e1
      rw [e1.1, e1.2]
      exact ⟨rv'', e0, e2, e3⟩
    · rw [hcnt] at e1; cases e1
  clear hcnt
  have HTX : Hid (∀ rv' wx, Gl wx → TbS wx ub cs tP lim tv tab → SrS wx sb rv' s → n ≤ 8388608 → Calls Tryz.prog 223 #[.pointer (some ⟨ub, 0, none⟩), .pointer (some ⟨sb, 0, none⟩), .int .i64 n] wx fun e w' => Gone e ∧ Chg (fun j => j = sb) wx w') := fun rv' wx hg hh1 hh hn9 => by
    refine (takeTexts_any ub cs tP lim tv tab sb rv' s n wx hg hh1 hh (by omega) hsb (by omega)).mono ?_
    rintro e w' (⟨h', r', rv'', e1, e2, e3⟩ | ⟨e1, e2, e3⟩)
    · rw [hx] at e1; cases e1
    · exact ⟨e2, e3⟩
  clear hx
  have HTK := hide htk
  have HBA := hide hbA
  have HBX := hide hbox
  have HG := hide hgl
  have HT := hide ht
  have HA := hide ha
  clear htk hbA hbox hgl ht hs ha
  generalize c.toNat = x at *
  go_enter Tryz.func150, Tryz.ntmps150
  go_wp2_with fail
  refine HTK.out.mono ?_
  rintro e w1 ⟨rv1, rfl, hs1⟩
  have hg1 := (HG.out.below HBA.out).sr hs1.chg hsb
  have hx1 : w1.heap[w.heap.size]? = some (.cells #[.string ⟨#[]⟩, .string ⟨#[]⟩] 62 (0, 0)) := by rw [hs1.chg.block _ (lt_of_block HBX.out) (by omega)]; exact HBX.out
  have hs1' : SrTo w w1 sb rv rv1 r := SrTo.before HBA.out hs1
  obtain ⟨g0, g1⟩ := hg1.num
  have HG1 := hide hg1
  have HX1 := hide hx1
  have HS1 := hide hs1'
  clear hs1 hs1' hg1 hx1
  go_wp2_with fail
  refine (HF7.out _).mono ?_
  rintro e w2 ⟨rfl, hb⟩
  have hg := HG1.out.below hb
  have hx : w2.heap[w.heap.size]? = some (.cells #[.string ⟨#[]⟩, .string ⟨#[]⟩] 62 (0, 0)) := by rw [hb.block _ (lt_of_block HX1.out)]; exact HX1.out
  have hs := HS1.out.below hb
  clear g0 g1
  obtain ⟨g0, g1⟩ := hg.add
  have HG2 := hide hg
  have HX2 := hide hx
  have HS2 := hide hs
  clear hb hg hx hs
  go_wp2_with fail
  refine (HF6.out _).mono ?_
  rintro e w3 ⟨rfl, hb⟩
  have hg := HG2.out.below hb
  have hx : w3.heap[w.heap.size]? = some (.cells #[.string ⟨#[]⟩, .string ⟨#[]⟩] 62 (0, 0)) := by rw [hb.block _ (lt_of_block HX2.out)]; exact HX2.out
  have hs := HS2.out.below hb
  clear g0 g1
  obtain ⟨g0, g1⟩ := hg.add
  have HG3 := hide hg
  have HX3 := hide hx
  have HS3 := hide hs
  clear hb hg hx hs
  go_wp2_with fail
  refine (HCN.out rv1 _ HS3.out.st).mono ?_
  rintro e wa ⟨rva, hn9, rfl, hsa⟩
  obtain ⟨hga, hua, hxa⟩ := num_after (w3 := wa) HG3.out HX3.out HS3.out ⟨hsa.st, hsa.chg.drop_drew, hsa.own⟩ hsb hsl HT.out HA.out
  have hta := HTX.out rva wa hga hua.st hua.sr hn9
  have HTT := hide hta
  have HCA := hide (HS3.out.trans hsa).chg
  clear hsa hga hua hxa hta g0 g1
  go_wp2_with fail
  refine HTT.out.mono ?_
  rintro e w9 ⟨he, hc9⟩
  rw [he]
  exact ⟨rfl, rfl, HCA.out.trans (hc9.mono fun _ _ e => Or.inr e)⟩

set_option maxRecDepth 100000 in
set_option maxHeartbeats 800000 in
theorem takePair_nocount_not (ub : Nat) (cs : Array Value) (tP : TypeId) (lim : Nat) (tv : Value) (tab : List HP) (sb : Nat) (rv : Value) (c : UInt8) (r : List UInt8) (w : World) (hgl : Gl w) (ht : TbS w ub cs tP lim tv tab) (hs : SrS w sb rv (c :: r)) (ha : Apart ub sb tv rv) (hl : (c :: r).length ≤ 134217728) (hsb : 7 ≤ sb)
    (hc : c.toNat < 16) (hcnt : rdCnt 4 c r = none) :
    Calls Tryz.prog 150 #[.pointer (some ⟨ub, 0, none⟩), .pointer (some ⟨sb, 0, none⟩)] w fun e w' => Gone e ∧ Chg (fun j => j = sb) w w' := by
  have hc8 : c.toNat ≤ 255 := Nat.le_of_lt_succ c.toNat_lt
  have hbA : Below w.heap.size w (w.alloc (.cells #[.string ⟨#[]⟩, .string ⟨#[]⟩] 62)) := (Below.refl _ _).alloc (Nat.le_refl _) _
  have hbox := heap_alloc_new w (.cells #[.string ⟨#[]⟩, .string ⟨#[]⟩] 62)
  have htk := stake_ok sb rv c r _ (hs.below hbA) (by omega)
  have hsl := lt_of_block hs.blk
  simp only [List.length_cons] at hl
  have HF7 : Hid (∀ wx, Calls Tryz.prog 219 #[fm 128 7, .int .u8 c.toNat] wx fun e w' => e = .returned (.bool false) ∧ Below wx.heap.size wx w') := fun wx => by
    have := fbegins_any 128 7 c wx (by decide)
    rwa [show decide (c.toNat / 2 ^ 7 = 128 / 2 ^ 7) = false from by simp; omega] at this
  have HF6 : Hid (∀ wx, Calls Tryz.prog 219 #[fm 64 6, .int .u8 c.toNat] wx fun e w' => e = .returned (.bool false) ∧ Below wx.heap.size wx w') := fun wx => by
    have := fbegins_any 64 6 c wx (by decide)
    rwa [show decide (c.toNat / 2 ^ 6 = 64 / 2 ^ 6) = false from by simp; omega] at this
  have HF4 : Hid (∀ wx, Calls Tryz.prog 219 #[fm 0 4, .int .u8 c.toNat] wx fun e w' => e = .returned (.bool true) ∧ Below wx.heap.size wx w') := fun wx => by
    have := fbegins_any 0 4 c wx (by decide)
    rwa [show decide (c.toNat / 2 ^ 4 = 0 / 2 ^ 4) = true from by simp; omega] at this
  have HCN : Hid (∀ rv' wx, SrS wx sb rv' r → Calls Tryz.prog 220 #[.pointer (some ⟨sb, 0, none⟩), .int .u8 c.toNat, fm 0 4] wx fun e w' => Gone e ∧ Chg (fun j => j = sb) wx w') := fun rv' wx hh => by
    refine (takeCount_any sb rv' r c 0 4 wx hh (by decide) (by omega)).mono ?_
    rintro e w' (⟨N, r', rv'', e1, _⟩ | ⟨e1, e2, e3⟩)
    · rw [hcnt] at e1; cases e1
    · exact ⟨e2, e3⟩
  clear hcnt
  have HTK := hide htk
  have HBA := hide hbA
  have HBX := hide hbox
  have HG := hide hgl
  have HT := hide ht
  have HA := hide ha
  clear htk hbA hbox hgl ht hs ha
  generalize c.toNat = x at *
  go_enter Tryz.func150, Tryz.ntmps150
  go_wp2_with fail
  refine HTK.out.mono ?_
  rintro e w1 ⟨rv1, rfl, hs1⟩
  have hg1 := (HG.out.below HBA.out).sr hs1.chg hsb
  have hx1 : w1.heap[w.heap.size]? = some (.cells #[.string ⟨#[]⟩, .string ⟨#[]⟩] 62 (0, 0)) := by rw [hs1.chg.block _ (lt_of_block HBX.out) (by omega)]; exact HBX.out
  have hs1' : SrTo w w1 sb rv rv1 r := SrTo.before HBA.out hs1
  obtain ⟨g0, g1⟩ := hg1.num
  have HG1 := hide hg1
  have HX1 := hide hx1
  have HS1 := hide hs1'
  clear hs1 hs1' hg1 hx1
  go_wp2_with fail
  refine (HF7.out _).mono ?_
  rintro e w2 ⟨rfl, hb⟩
  have hg := HG1.out.below hb
  have hx : w2.heap[w.heap.size]? = some (.cells #[.string ⟨#[]⟩, .string ⟨#[]⟩] 62 (0, 0)) := by rw [hb.block _ (lt_of_block HX1.out)]; exact HX1.out
  have hs := HS1.out.below hb
  clear g0 g1
  obtain ⟨g0, g1⟩ := hg.add
  have HG2 := hide hg
  have HX2 := hide hx
  have HS2 := hide hs
  clear hb hg hx hs
  go_wp2_with fail
  refine (HF6.out _).mono ?_
  rintro e w3 ⟨rfl, hb⟩
  have hg := HG2.out.below hb
  have hx : w3.heap[w.heap.size]? = some (.cells #[.string ⟨#[]⟩, .string ⟨#[]⟩] 62 (0, 0)) := by rw [hb.block _ (lt_of_block HX2.out)]; exact HX2.out
  have hs := HS2.out.below hb
  clear g0 g1
  obtain ⟨g0, g1⟩ := hg.nta
  have HG3 := hide hg
  have HX3 := hide hx
  have HS3 := hide hs
  clear hb hg hx hs
  go_wp2_with fail
  refine (HF4.out _).mono ?_
  rintro e w4 ⟨rfl, hb⟩
  have hg := HG3.out.below hb
  have hx : w4.heap[w.heap.size]? = some (.cells #[.string ⟨#[]⟩, .string ⟨#[]⟩] 62 (0, 0)) := by rw [hb.block _ (lt_of_block HX3.out)]; exact HX3.out
  have hs := HS3.out.below hb
  clear g0 g1
  obtain ⟨g0, g1⟩ := hg.nta
  have HG4 := hide hg
  have HX4 := hide hx
  have HS4 := hide hs
  clear hb hg hx hs
  go_wp2_with fail
  refine (HCN.out rv1 _ HS4.out.st).mono ?_
  rintro e w9 ⟨he, hc9⟩
  rw [he]
  exact ⟨rfl, rfl, HS4.out.chg.trans (hc9.mono fun _ _ e => Or.inr e)⟩

set_option maxRecDepth 100000 in
set_option maxHeartbeats 800000 in
theorem takePair_notexts_not (ub : Nat) (cs : Array Value) (tP : TypeId) (lim : Nat) (tv : Value) (tab : List HP) (sb : Nat) (rv : Value) (c : UInt8) (r : List UInt8) (w : World) (hgl : Gl w) (ht : TbS w ub cs tP lim tv tab) (hs : SrS w sb rv (c :: r)) (ha : Apart ub sb tv rv) (hl : (c :: r).length ≤ 134217728) (hsb : 7 ≤ sb)
    (n : Nat) (s : List UInt8) (hc : c.toNat < 16) (hcnt : rdCnt 4 c r = some (n, s)) (hx : rdTxs tab n s = none) :
    Calls Tryz.prog 150 #[.pointer (some ⟨ub, 0, none⟩), .pointer (some ⟨sb, 0, none⟩)] w fun e w' => Gone e ∧ Chg (fun j => j = sb) w w' := by
  have hc8 : c.toNat ≤ 255 := Nat.le_of_lt_succ c.toNat_lt
  have hbA : Below w.heap.size w (w.alloc (.cells #[.string ⟨#[]⟩, .string ⟨#[]⟩] 62)) := (Below.refl _ _).alloc (Nat.le_refl _) _
  have hbox := heap_alloc_new w (.cells #[.string ⟨#[]⟩, .string ⟨#[]⟩] 62)
  have htk := stake_ok sb rv c r _ (hs.below hbA) (by omega)
  have hsl := lt_of_block hs.blk
  simp only [List.length_cons] at hl
  have HF7 : Hid (∀ wx, Calls Tryz.prog 219 #[fm 128 7, .int .u8 c.toNat] wx fun e w' => e = .returned (.bool false) ∧ Below wx.heap.size wx w') := fun wx => by
    have := fbegins_any 128 7 c wx (by decide)
    rwa [show decide (c.toNat / 2 ^ 7 = 128 / 2 ^ 7) = false from by simp; omega] at this
  have HF6 : Hid (∀ wx, Calls Tryz.prog 219 #[fm 64 6, .int .u8 c.toNat] wx fun e w' => e = .returned (.bool false) ∧ Below wx.heap.size wx w') := fun wx => by
    have := fbegins_any 64 6 c wx (by decide)
    rwa [show decide (c.toNat / 2 ^ 6 = 64 / 2 ^ 6) = false from by simp; omega] at this
  have HF4 : Hid (∀ wx, Calls Tryz.prog 219 #[fm 0 4, .int .u8 c.toNat] wx fun e w' => e = .returned (.bool true) ∧ Below wx.heap.size wx w') := fun wx => by
    have := fbegins_any 0 4 c wx (by decide)
    rwa [show decide (c.toNat / 2 ^ 4 = 0 / 2 ^ 4) = true from by simp; omega] at this
  have hsq := rdCnt_len hcnt
  have HCN : Hid (∀ rv' wx, SrS wx sb rv' r → Calls Tryz.prog 220 #[.pointer (some ⟨sb, 0, none⟩), .int .u8 c.toNat, fm 0 4] wx fun e w' => ∃ rv'', n ≤ 8388608 ∧ e = .returned (.int .i64 (n : Int)) ∧ SrTo wx w' sb rv' rv'' s) := fun rv' wx hh => by
    refine (takeCount_any sb rv' r c 0 4 wx hh (by decide) (by omega)).mono ?_
    rintro e w' (⟨N, r', rv'', e1, e0, e2, e3⟩ | ⟨e1, _⟩)
    · rw [hcnt] at e1
      simp only [Option.some.injEq, Prod.mk.injEq] at e1
      rw [e1.1, e1.2]
      exact ⟨rv'', e0, e2, e3⟩
    · rw [hcnt] at e1; cases e1
  clear hcnt
  have HTX : Hid (∀ rv' wx, Gl wx → TbS wx ub cs tP lim tv tab → SrS wx sb rv' s → n ≤ 8388608 → Calls Tryz.prog 223 #[.pointer (some ⟨ub, 0, none⟩), .pointer (some ⟨sb, 0, none⟩), .int .i64 n] wx fun e w' => Gone e ∧ Chg (fun j => j = sb) wx w') := fun rv' wx hg hh1 hh hn9 => by
    refine (takeTexts_any ub cs tP lim tv tab sb rv' s n wx hg hh1 hh (by omega) hsb (by omega)).mono ?_
    rintro e w' (⟨h', r', rv'', e1, e2, e3⟩ | ⟨e1, e2, e3⟩)
    · rw [hx] at e1; cases e1
    · exact ⟨e2, e3⟩
  clear hx
  have HTK := hide htk
  have HBA := hide hbA
  have HBX := hide hbox
  have HG := hide hgl
  have HT := hide ht
  have HA := hide ha
  clear htk hbA hbox hgl ht hs ha
  generalize c.toNat = x at *
  go_enter Tryz.func150, Tryz.ntmps150
  go_wp2_with fail
  refine HTK.out.mono ?_
  rintro e w1 ⟨rv1, rfl, hs1⟩
  have hg1 := (HG.out.below HBA.out).sr hs1.chg hsb
  have hx1 : w1.heap[w.heap.size]? = some (.cells #[.string ⟨#[]⟩, .string ⟨#[]⟩] 62 (0, 0)) := by rw [hs1.chg.block _ (lt_of_block HBX.out) (by omega)]; exact HBX.out
  have hs1' : SrTo w w1 sb rv rv1 r := SrTo.before HBA.out hs1
  obtain ⟨g0, g1⟩ := hg1.num
  have HG1 := hide hg1
  have HX1 := hide hx1
  have HS1 := hide hs1'
  clear hs1 hs1' hg1 hx1
  go_wp2_with fail
  refine (HF7.out _).mono ?_
  rintro e w2 ⟨rfl, hb⟩
  have hg := HG1.out.below hb
  have hx : w2.heap[w.heap.size]? = some (.cells #[.string ⟨#[]⟩, .string ⟨#[]⟩] 62 (0, 0)) := by rw [hb.block _ (lt_of_block HX1.out)]; exact HX1.out
  have hs := HS1.out.below hb
  clear g0 g1
  obtain ⟨g0, g1⟩ := hg.add
  have HG2 := hide hg
  have HX2 := hide hx
  have HS2 := hide hs
  clear hb hg hx hs
  go_wp2_with fail
  refine (HF6.out _).mono ?_
  rintro e w3 ⟨rfl, hb⟩
  have hg := HG2.out.below hb
  have hx : w3.heap[w.heap.size]? = some (.cells #[.string ⟨#[]⟩, .string ⟨#[]⟩] 62 (0, 0)) := by rw [hb.block _ (lt_of_block HX2.out)]; exact HX2.out
  have hs := HS2.out.below hb
  clear g0 g1
  obtain ⟨g0, g1⟩ := hg.nta
  have HG3 := hide hg
  have HX3 := hide hx
  have HS3 := hide hs
  clear hb hg hx hs
  go_wp2_with fail
  refine (HF4.out _).mono ?_
  rintro e w4 ⟨rfl, hb⟩
  have hg := HG3.out.below hb
  have hx : w4.heap[w.heap.size]? = some (.cells #[.string ⟨#[]⟩, .string ⟨#[]⟩] 62 (0, 0)) := by rw [hb.block _ (lt_of_block HX3.out)]; exact HX3.out
  have hs := HS3.out.below hb
  clear g0 g1
  obtain ⟨g0, g1⟩ := hg.nta
  have HG4 := hide hg
  have HX4 := hide hx
  have HS4 := hide hs
  clear hb hg hx hs
  go_wp2_with fail
  refine (HCN.out rv1 _ HS4.out.st).mono ?_
  rintro e wa ⟨rva, hn9, rfl, hsa⟩
  obtain ⟨hga, hua, hxa⟩ := num_after (w3 := wa) HG4.out HX4.out HS4.out ⟨hsa.st, hsa.chg.drop_drew, hsa.own⟩ hsb hsl HT.out HA.out
  have hta := HTX.out rva wa hga hua.st hua.sr hn9
  have HTT := hide hta
  have HCA := hide (HS4.out.trans hsa).chg
  clear hsa hga hua hxa hta g0 g1
  go_wp2_with fail
  refine HTT.out.mono ?_
  rintro e w9 ⟨he, hc9⟩
  rw [he]
  exact ⟨rfl, rfl, HCA.out.trans (hc9.mono fun _ _ e => Or.inr e)⟩

set_option maxRecDepth 100000 in
set_option maxHeartbeats 800000 in
theorem takePair_nobegin (ub : Nat) (cs : Array Value) (tP : TypeId) (lim : Nat) (tv : Value) (tab : List HP) (sb : Nat) (rv : Value) (c : UInt8) (r : List UInt8) (w : World) (hgl : Gl w) (ht : TbS w ub cs tP lim tv tab) (hs : SrS w sb rv (c :: r)) (ha : Apart ub sb tv rv) (hl : (c :: r).length ≤ 134217728) (hsb : 7 ≤ sb)
    (hc : 16 ≤ c.toNat) (hc2 : c.toNat < 64) :
    Calls Tryz.prog 150 #[.pointer (some ⟨ub, 0, none⟩), .pointer (some ⟨sb, 0, none⟩)] w fun e w' => Gone e ∧ Chg (fun j => j = sb) w w' := by
  have hc8 : c.toNat ≤ 255 := Nat.le_of_lt_succ c.toNat_lt
  have hbA : Below w.heap.size w (w.alloc (.cells #[.string ⟨#[]⟩, .string ⟨#[]⟩] 62)) := (Below.refl _ _).alloc (Nat.le_refl _) _
  have hbox := heap_alloc_new w (.cells #[.string ⟨#[]⟩, .string ⟨#[]⟩] 62)
  have htk := stake_ok sb rv c r _ (hs.below hbA) (by omega)
  have hsl := lt_of_block hs.blk
  simp only [List.length_cons] at hl
  have HF7 : Hid (∀ wx, Calls Tryz.prog 219 #[fm 128 7, .int .u8 c.toNat] wx fun e w' => e = .returned (.bool false) ∧ Below wx.heap.size wx w') := fun wx => by
    have := fbegins_any 128 7 c wx (by decide)
    rwa [show decide (c.toNat / 2 ^ 7 = 128 / 2 ^ 7) = false from by simp; omega] at this
  have HF6 : Hid (∀ wx, Calls Tryz.prog 219 #[fm 64 6, .int .u8 c.toNat] wx fun e w' => e = .returned (.bool false) ∧ Below wx.heap.size wx w') := fun wx => by
    have := fbegins_any 64 6 c wx (by decide)
    rwa [show decide (c.toNat / 2 ^ 6 = 64 / 2 ^ 6) = false from by simp; omega] at this
  have HF4 : Hid (∀ wx, Calls Tryz.prog 219 #[fm 0 4, .int .u8 c.toNat] wx fun e w' => e = .returned (.bool false) ∧ Below wx.heap.size wx w') := fun wx => by
    have := fbegins_any 0 4 c wx (by decide)
    rwa [show decide (c.toNat / 2 ^ 4 = 0 / 2 ^ 4) = false from by simp; omega] at this
  have HTK := hide htk
  have HBA := hide hbA
  have HBX := hide hbox
  have HG := hide hgl
  have HT := hide ht
  have HA := hide ha
  clear htk hbA hbox hgl ht hs ha
  generalize c.toNat = x at *
  go_enter Tryz.func150, Tryz.ntmps150
  go_wp2_with fail
  refine HTK.out.mono ?_
  rintro e w1 ⟨rv1, rfl, hs1⟩
  have hg1 := (HG.out.below HBA.out).sr hs1.chg hsb
  have hx1 : w1.heap[w.heap.size]? = some (.cells #[.string ⟨#[]⟩, .string ⟨#[]⟩] 62 (0, 0)) := by rw [hs1.chg.block _ (lt_of_block HBX.out) (by omega)]; exact HBX.out
  have hs1' : SrTo w w1 sb rv rv1 r := SrTo.before HBA.out hs1
  obtain ⟨g0, g1⟩ := hg1.num
  have HG1 := hide hg1
  have HX1 := hide hx1
  have HS1 := hide hs1'
  clear hs1 hs1' hg1 hx1
  go_wp2_with fail
  refine (HF7.out _).mono ?_
  rintro e w2 ⟨rfl, hb⟩
  have hg := HG1.out.below hb
  have hx : w2.heap[w.heap.size]? = some (.cells #[.string ⟨#[]⟩, .string ⟨#[]⟩] 62 (0, 0)) := by rw [hb.block _ (lt_of_block HX1.out)]; exact HX1.out
  have hs := HS1.out.below hb
  clear g0 g1
  obtain ⟨g0, g1⟩ := hg.add
  have HG2 := hide hg
  have HX2 := hide hx
  have HS2 := hide hs
  clear hb hg hx hs
  go_wp2_with fail
  refine (HF6.out _).mono ?_
  rintro e w3 ⟨rfl, hb⟩
  have hg := HG2.out.below hb
  have hx : w3.heap[w.heap.size]? = some (.cells #[.string ⟨#[]⟩, .string ⟨#[]⟩] 62 (0, 0)) := by rw [hb.block _ (lt_of_block HX2.out)]; exact HX2.out
  have hs := HS2.out.below hb
  clear g0 g1
  obtain ⟨g0, g1⟩ := hg.nta
  have HG3 := hide hg
  have HX3 := hide hx
  have HS3 := hide hs
  clear hb hg hx hs
  go_wp2_with fail
  refine (HF4.out _).mono ?_
  rintro e w4 ⟨rfl, hb⟩
  have hg := HG3.out.below hb
  have hx : w4.heap[w.heap.size]? = some (.cells #[.string ⟨#[]⟩, .string ⟨#[]⟩] 62 (0, 0)) := by rw [hb.block _ (lt_of_block HX3.out)]; exact HX3.out
  have hs := HS3.out.below hb
  clear g0 g1
  obtain ⟨g0, g1⟩ := hg.nta
  have HG4 := hide hg
  have HX4 := hide hx
  have HS4 := hide hs
  clear hb hg hx hs
  go_wp2
  exact ⟨rfl, rfl, HS4.out.chg⟩

set_option maxRecDepth 100000 in
set_option maxHeartbeats 800000 in
theorem takePair_nopair (ub : Nat) (cs : Array Value) (tP : TypeId) (lim : Nat) (tv : Value) (tab : List HP) (sb : Nat) (rv : Value) (c : UInt8) (r : List UInt8) (w : World) (hgl : Gl w) (ht : TbS w ub cs tP lim tv tab) (hs : SrS w sb rv (c :: r)) (ha : Apart ub sb tv rv) (hl : (c :: r).length ≤ 134217728) (hsb : 7 ≤ sb)
    (n : Nat) (s : List UInt8) (hc : 128 ≤ c.toNat) (hcnt : rdCnt 7 c r = some (n, s)) (hx : n = 0 ∨ 8 + tab.length < n) :
    Calls Tryz.prog 150 #[.pointer (some ⟨ub, 0, none⟩), .pointer (some ⟨sb, 0, none⟩)] w fun e w' => Gone e ∧ Chg (fun j => j = sb) w w' := by
  have hc8 : c.toNat ≤ 255 := Nat.le_of_lt_succ c.toNat_lt
  have hbA : Below w.heap.size w (w.alloc (.cells #[.string ⟨#[]⟩, .string ⟨#[]⟩] 62)) := (Below.refl _ _).alloc (Nat.le_refl _) _
  have hbox := heap_alloc_new w (.cells #[.string ⟨#[]⟩, .string ⟨#[]⟩] 62)
  have htk := stake_ok sb rv c r _ (hs.below hbA) (by omega)
  have hsl := lt_of_block hs.blk
  simp only [List.length_cons] at hl
  have HF7 : Hid (∀ wx, Calls Tryz.prog 219 #[fm 128 7, .int .u8 c.toNat] wx fun e w' => e = .returned (.bool true) ∧ Below wx.heap.size wx w') := fun wx => by
    have := fbegins_any 128 7 c wx (by decide)
    rwa [show decide (c.toNat / 2 ^ 7 = 128 / 2 ^ 7) = true from by simp; omega] at this
  have hsq := rdCnt_len hcnt
  have HCN : Hid (∀ rv' wx, SrS wx sb rv' r → Calls Tryz.prog 220 #[.pointer (some ⟨sb, 0, none⟩), .int .u8 c.toNat, fm 128 7] wx fun e w' => ∃ rv'', n ≤ 8388608 ∧ e = .returned (.int .i64 (n : Int)) ∧ SrTo wx w' sb rv' rv'' s) := fun rv' wx hh => by
    refine (takeCount_any sb rv' r c 128 7 wx hh (by decide) (by omega)).mono ?_
    rintro e w' (⟨N, r', rv'', e1, e0, e2, e3⟩ | ⟨e1, _⟩)
    · rw [hcnt] at e1
      simp only [Option.some.injEq, Prod.mk.injEq] at e1
      rw [e1.1, e1.2]
      exact ⟨rv'', e0, e2, e3⟩
    · rw [hcnt] at e1; cases e1
  clear hcnt
  have HPB : Hid (∀ wx, TbS wx ub cs tP lim tv tab → n ≤ 8388608 → Calls Tryz.prog 222 #[.pointer (some ⟨ub, 0, none⟩), .int .i64 n] wx fun e w' => Gone e ∧ Below wx.heap.size wx w') := fun wx hh hn9 => pair_bad ub cs tP lim tv tab n wx hh (by omega) hx
  clear hx
  have HTK := hide htk
  have HBA := hide hbA
  have HBX := hide hbox
  have HG := hide hgl
  have HT := hide ht
  have HA := hide ha
  clear htk hbA hbox hgl ht hs ha
  generalize c.toNat = x at *
  go_enter Tryz.func150, Tryz.ntmps150
  go_wp2_with fail
  refine HTK.out.mono ?_
  rintro e w1 ⟨rv1, rfl, hs1⟩
  have hg1 := (HG.out.below HBA.out).sr hs1.chg hsb
  have hx1 : w1.heap[w.heap.size]? = some (.cells #[.string ⟨#[]⟩, .string ⟨#[]⟩] 62 (0, 0)) := by rw [hs1.chg.block _ (lt_of_block HBX.out) (by omega)]; exact HBX.out
  have hs1' : SrTo w w1 sb rv rv1 r := SrTo.before HBA.out hs1
  obtain ⟨g0, g1⟩ := hg1.num
  have HG1 := hide hg1
  have HX1 := hide hx1
  have HS1 := hide hs1'
  clear hs1 hs1' hg1 hx1
  go_wp2_with fail
  refine (HF7.out _).mono ?_
  rintro e w2 ⟨rfl, hb⟩
  have hg := HG1.out.below hb
  have hx : w2.heap[w.heap.size]? = some (.cells #[.string ⟨#[]⟩, .string ⟨#[]⟩] 62 (0, 0)) := by rw [hb.block _ (lt_of_block HX1.out)]; exact HX1.out
  have hs := HS1.out.below hb
  clear g0 g1
  obtain ⟨g0, g1⟩ := hg.num
  have HG2 := hide hg
  have HX2 := hide hx
  have HS2 := hide hs
  clear hb hg hx hs
  have hsd : SrS w2.drew sb rv1 r := HS2.out.st.chg ((Chg.refl (fun _ => False) _).drew) id (fun _ _ => id)
  have hcn := HCN.out rv1 w2.drew hsd
  have HCD := hide hcn
  clear hsd hcn
  go_wp2
  go_region_law (first
    | (refine step_call rfl 220 Tryz.f220 Tryz.func220 (by kernel_rfl) rfl [.tmp 16, .tmp 17, .tmp 18] #[299, 5, 287] rfl [.pointer (some ⟨sb, 0, none⟩), .int .u8 (x : Int), fm 128 7] (by simp [Act.eval, Act.put, fm]) HCD.out ?_; rintro e w3 ⟨rv3, hn9, rfl, hs3⟩; refine ⟨_, rfl, ?_⟩; have HW3 := hide (num_after HG2.out HX2.out HS2.out hs3 hsb hsl HT.out HA.out); have HC3 := hide (HS2.out.chg.trans (Chg.mono (S := fun j => j = sb) ⟨hs3.chg.os, hs3.chg.tape, hs3.chg.output, hs3.chg.size, hs3.chg.block⟩ fun _ _ e => Or.inr e)); clear hs3)
    | (refine step_gone rfl 222 Tryz.f222 Tryz.func222 (by kernel_rfl) rfl [.tmp 15, .tmp 19] #[172, 3] rfl [.pointer (some ⟨ub, 0, none⟩), .int .i64 (n : Int)] (by simp [Act.eval, Act.put]) (HPB.out w3 HW3.out.2.1.st hn9) (fun e w4 he => ⟨_, he.1, rfl, rfl, HC3.out.then_below he.2⟩) (.agg #[.string ⟨#[]⟩, .string ⟨#[]⟩]) ?_; intro hf; have HF : Hid False := hf; clear hf; have k0 : w3.cell? ⟨w.heap.size, 0, none⟩ = some (.string ⟨#[]⟩) := HF.out.elim; have k1 : w3.cell? ⟨w.heap.size, 1, none⟩ = some (.string ⟨#[]⟩) := HF.out.elim; have k2 : w3.frozen? ⟨w.heap.size, 0, none⟩ = false := HF.out.elim; have k3 : w3.frozen? ⟨w.heap.size, 1, none⟩ = false := HF.out.elim))
  all_goals exact HF.out.elim

set_option maxRecDepth 100000 in
set_option maxHeartbeats 400000 in
theorem takePair_empty (ub sb : Nat) (rv : Value) (w : World) (hs : SrS w sb rv []) :
    Calls Tryz.prog 150 #[.pointer (some ⟨ub, 0, none⟩), .pointer (some ⟨sb, 0, none⟩)] w fun e w' => Gone e ∧ Chg (fun j => j = sb) w w' := by
  have hbA : Below w.heap.size w (w.alloc (.cells #[.string ⟨#[]⟩, .string ⟨#[]⟩] 62)) := (Below.refl _ _).alloc (Nat.le_refl _) _
  have HTK := hide (stake_bad sb rv _ (hs.below hbA))
  have HBA := hide hbA
  clear hs hbA
  go_enter Tryz.func150, Tryz.ntmps150
  go_wp2_with fail
  refine HTK.out.mono ?_
  rintro e w1 ⟨rfl, rfl⟩
  exact ⟨rfl, rfl, Chg.of_below HBA.out⟩
/-- Behind takePair, where there is none. -/
theorem takePair_bad (ub : Nat) (cs : Array Value) (tP : TypeId) (lim : Nat) (tv : Value) (tab : List HP) (sb : Nat) (rv : Value) (l : List UInt8) (w : World) (hgl : Gl w) (ht : TbS w ub cs tP lim tv tab) (hs : SrS w sb rv l) (ha : Apart ub sb tv rv) (hl : l.length ≤ 134217728) (hsb : 7 ≤ sb) (hq : rdPair tab lim l = none) :
    Calls Tryz.prog 150 #[.pointer (some ⟨ub, 0, none⟩), .pointer (some ⟨sb, 0, none⟩)] w fun e w' => Gone e ∧ Chg (fun j => j = sb) w w' := by
  cases l with
  | nil => exact takePair_empty ub sb rv w hs
  | cons c r =>
    simp only [rdPair] at hq
    split at hq
    · rename_i h1
      cases hc : rdCnt 7 c r with
      | none => exact takePair_nocount ub cs tP lim tv tab sb rv c r w hgl ht hs hl hsb h1 hc
      | some nq =>
        obtain ⟨n, s⟩ := nq
        rw [hc] at hq
        simp only at hq
        refine takePair_nopair ub cs tP lim tv tab sb rv c r w hgl ht hs ha hl hsb n s h1 hc ?_
        split at hq
        · rename_i h0; exact Or.inl h0
        · cases hx : (numd tab)[n - 1]? with
          | none =>
            have := List.getElem?_eq_none_iff.1 hx
            rw [numd_length] at this
            right; omega
          | some x => rw [hx] at hq; cases hq
    · rename_i h1
      split at hq
      · rename_i h2
        cases hc : rdCnt 6 c r with
        | none => exact takePair_nocount_add ub cs tP lim tv tab sb rv c r w hgl ht hs ha hl hsb h2 (by omega) hc
        | some nq =>
          obtain ⟨n, s⟩ := nq
          rw [hc] at hq
          simp only at hq
          cases hx : rdTxs tab n s with
          | none => exact takePair_notexts_add ub cs tP lim tv tab sb rv c r w hgl ht hs ha hl hsb n s h2 (by omega) hc hx
          | some x => rw [hx] at hq; cases hq
      · rename_i h2
        split at hq
        · rename_i h3
          cases hc : rdCnt 4 c r with
          | none => exact takePair_nocount_not ub cs tP lim tv tab sb rv c r w hgl ht hs ha hl hsb h3 hc
          | some nq =>
            obtain ⟨n, s⟩ := nq
            rw [hc] at hq
            simp only at hq
            cases hx : rdTxs tab n s with
            | none => exact takePair_notexts_not ub cs tP lim tv tab sb rv c r w hgl ht hs ha hl hsb n s h3 hc hx
            | some x => rw [hx] at hq; cases hq
        · rename_i h3
          exact takePair_nobegin ub cs tP lim tv tab sb rv c r w hgl ht hs ha hl hsb (by omega) (by omega)
end Go.Proofs.YtghongdbohjaaaaGreatDoor
/-
  Package blocks: Unpacker's takeLimit, where there is none.
-/
namespace Go.Proofs.YtghongdbohjaaaaGreatDoor
set_option linter.unusedVariables false
set_option linter.unusedSimpArgs false
open Go.RowKit

set_option maxRecDepth 100000 in
set_option maxHeartbeats 800000 in
theorem takeLimit_great (ub : Nat) (cs : Array Value) (tP : TypeId) (lim : Nat) (tv : Value) (tab : List HP) (most : Nat) (sb : Nat) (rv : Value) (c : UInt8) (r : List UInt8) (n : Nat) (q : List UInt8) (w : World) (hgl : Gl w) (ht : TbS w ub cs tP lim tv tab) (hm : cs[3]? = some (.int .i64 (most : Int))) (hs : SrS w sb rv (c :: r)) (ha : Apart ub sb tv rv) (hl : (c :: r).length ≤ 134217728) (hsb : 7 ≤ sb)
    (hcnt : rdCnt 5 c r = some (n, q)) (hn : most < n) :
    Calls Tryz.prog 148 #[.pointer (some ⟨ub, 0, none⟩), .pointer (some ⟨sb, 0, none⟩)] w fun e w' => Gone e ∧ Chg (fun j => j = sb) w w' := by
  simp only [List.length_cons] at hl
  have htk := stake_ok sb rv c r _ hs.drew (by simp only [List.length_cons]; omega)
  have HCN : Hid (∀ rv' wx, SrS wx sb rv' r → Calls Tryz.prog 220 #[.pointer (some ⟨sb, 0, none⟩), .int .u8 c.toNat, fm 32 5] wx fun e w' => ∃ rv'', e = .returned (.int .i64 (n : Int)) ∧ SrTo wx w' sb rv' rv'' q) := fun rv' wx hh => by
    refine (takeCount_any sb rv' r c 32 5 wx hh (by decide) (by omega)).mono ?_
    rintro e w' (⟨N, r', rv'', e1, _, e2, e3⟩ | ⟨e1, _⟩)
    · rw [hcnt] at e1
      simp only [Option.some.injEq, Prod.mk.injEq] at e1
      rw [e1.1, e1.2]
      exact ⟨rv'', e2, e3⟩
    · rw [hcnt] at e1; cases e1
  obtain ⟨g0, g1⟩ := hgl.lim
  have HTK := hide htk
  have HG := hide hgl
  have HT := hide ht
  have HA := hide ha
  have HM := hide hm
  clear htk hgl ht hs ha hcnt hm
  have hc8 : c.toNat ≤ 255 := Nat.le_of_lt_succ c.toNat_lt
  generalize c.toNat = x at *
  go_enter Tryz.func148, Tryz.ntmps148
  go_wp2
  go_cut [4] (fun s4 wx => s4 = .int .i64 (n : Int) ∧ ∃ rv2, SrTo w wx sb rv rv2 q)
  case first =>
    go_region_law (first
      | (refine step_call rfl 221 Tryz.f221 Tryz.func221 (by kernel_rfl) rfl [.tmp 6] #[299] rfl [.pointer (some ⟨sb, 0, none⟩)] (by simp [Act.eval, Act.put]) HTK.out ?_; rintro e w1 ⟨rv1, rfl, hs1⟩; refine ⟨_, rfl, ?_⟩; obtain ⟨g2, g3⟩ := (HG.out.sr (w' := w1) ⟨hs1.chg.os, hs1.chg.tape, hs1.chg.output, hs1.chg.size, hs1.chg.block⟩ hsb).lim; have HS1 := hide hs1; clear hs1)
      | (refine step_call rfl 220 Tryz.f220 Tryz.func220 (by kernel_rfl) rfl [.tmp 5, .tmp 7, .tmp 8] #[299, 5, 287] rfl [.pointer (some ⟨sb, 0, none⟩), .int .u8 (x : Int), fm 32 5] (by simp [Act.eval, Act.put, fm]) (HCN.out rv1 w1 HS1.out.st) ?_; rintro e w2 ⟨rv2, rfl, hs2⟩; refine ⟨_, rfl, ?_⟩; have HS2 := hide (HS1.out.trans hs2); clear hs2))
    all_goals (go_wp2_with fail; go_meet; exact ⟨rfl, rv2, HS2.out.st, ⟨HS2.out.chg.os, HS2.out.chg.tape, HS2.out.chg.output, HS2.out.chg.size, HS2.out.chg.block⟩, HS2.out.own⟩)
  case rest =>
    obtain ⟨rfl, rv2, hs2⟩ := hcut
    have hu2 := hs2.un HT.out HA.out
    have c3 : wc.cell? ⟨ub, 3, none⟩ = some (.int .i64 (most : Int)) := by rw [cell_of_row _ _ _ _ _ _ hu2.st.tb.blk]; exact HM.out
    have HC := hide hs2.chg
    clear hs2 hu2 g0 g1
    go_wp2
    exact ⟨rfl, rfl, HC.out⟩

set_option maxRecDepth 100000 in
set_option maxHeartbeats 800000 in
theorem takeLimit_nocount (ub : Nat) (sb : Nat) (rv : Value) (c : UInt8) (r : List UInt8) (w : World) (hgl : Gl w) (hs : SrS w sb rv (c :: r)) (hl : (c :: r).length ≤ 134217728) (hsb : 7 ≤ sb)
    (hcnt : rdCnt 5 c r = none) :
    Calls Tryz.prog 148 #[.pointer (some ⟨ub, 0, none⟩), .pointer (some ⟨sb, 0, none⟩)] w fun e w' => Gone e ∧ Chg (fun j => j = sb) w w' := by
  simp only [List.length_cons] at hl
  have htk := stake_ok sb rv c r _ hs.drew (by simp only [List.length_cons]; omega)
  have HCN : Hid (∀ rv' wx, SrS wx sb rv' r → Calls Tryz.prog 220 #[.pointer (some ⟨sb, 0, none⟩), .int .u8 c.toNat, fm 32 5] wx fun e w' => Gone e ∧ Chg (fun j => j = sb) wx w') := fun rv' wx hh => by
    refine (takeCount_any sb rv' r c 32 5 wx hh (by decide) (by omega)).mono ?_
    rintro e w' (⟨N, r', rv'', e1, _⟩ | ⟨e1, e2, e3⟩)
    · rw [hcnt] at e1; cases e1
    · exact ⟨e2, e3⟩
  obtain ⟨g0, g1⟩ := hgl.lim
  have HTK := hide htk
  have HG := hide hgl
  clear htk hgl hs hcnt
  have hc8 : c.toNat ≤ 255 := Nat.le_of_lt_succ c.toNat_lt
  generalize c.toNat = x at *
  go_enter Tryz.func148, Tryz.ntmps148
  go_wp2
  go_region_law (first
    | (refine step_call rfl 221 Tryz.f221 Tryz.func221 (by kernel_rfl) rfl [.tmp 6] #[299] rfl [.pointer (some ⟨sb, 0, none⟩)] (by simp [Act.eval, Act.put]) HTK.out ?_; rintro e w1 ⟨rv1, rfl, hs1⟩; refine ⟨_, rfl, ?_⟩; obtain ⟨g2, g3⟩ := (HG.out.sr (w' := w1) ⟨hs1.chg.os, hs1.chg.tape, hs1.chg.output, hs1.chg.size, hs1.chg.block⟩ hsb).lim; have HS1 := hide hs1; clear hs1)
    | (refine step_gone rfl 220 Tryz.f220 Tryz.func220 (by kernel_rfl) rfl [.tmp 5, .tmp 7, .tmp 8] #[299, 5, 287] rfl [.pointer (some ⟨sb, 0, none⟩), .int .u8 (x : Int), fm 32 5] (by simp [Act.eval, Act.put, fm]) (HCN.out rv1 w1 HS1.out.st) (fun e w3 he => ⟨_, he.1, rfl, rfl, Chg.trans ⟨HS1.out.chg.os, HS1.out.chg.tape, HS1.out.chg.output, HS1.out.chg.size, HS1.out.chg.block⟩ (he.2.mono fun _ _ e => Or.inr e)⟩) (.int .i64 1) ?_; intro hf; have HF : Hid False := hf; clear hf))
  all_goals exact HF.out.elim
end Go.Proofs.YtghongdbohjaaaaGreatDoor
/-
  Package blocks: Unpacker's Unpack, where there is no list.
-/
namespace Go.Proofs.YtghongdbohjaaaaGreatDoor
set_option linter.unusedVariables false
set_option linter.unusedSimpArgs false
open Go.RowKit

/-- What is left is no block. -/
def BadT (most f lim : Nat) (tab : List HP) (l : List UInt8) : Prop := ∀ lim1 tab1 r, rdLims most f lim tab l = some (lim1, tab1, r) → rdPairs 9 [] tab1 lim1 r = none

set_option maxRecDepth 100000 in
set_option maxHeartbeats 1600000 in
theorem bUnpack_bad (ub : Nat) (cs : Array Value) (tP : TypeId) (lim : Nat) (tv : Value) (tab : List HP) (most : Nat) (bv : Value) (b : List UInt8) (w : World) (hgl : Gl w) (ht : TbS w ub cs tP lim tv tab) (hm : cs[3]? = some (.int .i64 (most : Int))) (hmo : most ≤ 256) (hb : BytesIn w bv b) (hbu : bv.ownBlock ≠ some ub) (hbt : ∀ j, bv.ownBlock = some j → tv.ownBlock ≠ some j) (hl : b.length ≤ 134217728) (hub : 7 ≤ ub) (htv : ∀ j, tv.ownBlock = some j → 7 ≤ j)
    (hts : tP ≠ 296) (hq : (Up.mk lim tab most).unpack b = none) :
    Calls Tryz.prog 88 #[.pointer (some ⟨ub, 0, none⟩), bv] w fun e w' => Gone e ∧ Chg (TouchT ub tv) w w' ∧ ∃ lim' tab' cs' tv', TbS w' ub cs' tP lim' tv' tab' ∧ ∀ i, 3 ≤ i → cs'[i]? = cs[i]? := by
  have hlims : BadT most 2 lim tab b := by
    intro lim1 tab1 r h1
    unfold Up.unpack at hq
    simp only at hq
    rw [h1] at hq
    simp only at hq
    cases h2 : rdPairs 9 [] tab1 lim1 r with
    | none => rfl
    | some y => rw [h2] at hq; cases hq
  obtain ⟨i0, hi, hz0, hz1, hz2⟩ := info_parts Tryz.info62
  have hbA : Below w.heap.size w (w.alloc (.cells #[bv] 296)) := (Below.refl _ _).alloc (Nat.le_refl _) _
  have htl := ht.tb.lt
  have hsA : SrS (w.alloc (.cells #[bv] 296)) w.heap.size bv b := ⟨heap_alloc_new w _, hb.chg ((Chg.refl (fun _ => False) w).alloc _) (fun _ _ => id), fun e => by have := hb.lt e; omega⟩
  have haA : Apart ub w.heap.size tv bv := ⟨by omega, fun e => by have := owns_lt ht.row e; omega, hbu, hbt⟩
  have huA : UnTo (w.alloc (.cells #[bv] 296)) (w.alloc (.cells #[bv] 296)) ub cs cs tP lim tv tv tab w.heap.size bv bv b := ⟨ht.below hbA, fun _ _ => rfl, hsA, Chg.refl _ _, fun _ e => Or.inl e, fun _ e => e⟩
  have hgA := hgl.below hbA
  have hgs : 7 ≤ w.heap.size := hgl.lt
  obtain ⟨sv, cv, hv, _⟩ := bytesIn_len hb
  subst hv
  have HB := hide hb
  have HT := hide ht
  have HM := hide hm
  have HGA := hide hgA
  have HSA := hide hsA
  have HAA := hide haA
  have HUA := hide huA
  have HBA := hide hbA
  have HTV := hide htv
  have HLIMS := hide hlims
  clear hgl ht hm hb hbu hbt hsA haA huA hgA hbA htv hlims hq
  go_enter Tryz.func88, Tryz.ntmps88
  go_wp2
  go_loopw [6] (fun i wr => ∃ (j lim2 : Nat) (tab2 : List HP) (l2 : List UInt8) (cs2 : Array Value) (tv2 rv2 : Value), i = .int .i64 (j : Int) ∧ j ≤ 2 ∧ l2.length ≤ b.length ∧ BadT most (2 - j) lim2 tab2 l2 ∧ UnTo (w.alloc (.cells #[.slice sv b.length cv] 296)) wr ub cs cs2 tP lim2 tv tv2 tab2 w.heap.size (.slice sv b.length cv) rv2 l2) (fun i _ => 2 - (intOf i).toNat)
  case atStart => exact ⟨0, lim, tab, b, cs, tv, _, rfl, by omega, Nat.le_refl _, HLIMS.out, HUA.out⟩
  case round =>
    obtain ⟨j, lim2, tab2, l2, cs2, tv2, rv2, rfl, hj, hll, hlm, hu⟩ := hrel
    by_cases hj2 : j = 2
    · rw [show 2 - j = 0 from by omega] at hlm
      have HPAIRS := hide (hlm lim2 tab2 l2 rfl)
      have hjd : decide ((j : Int) < 2) = false := by simp; omega
      have HU := hide hu
      clear hu hj2 hj hlm
      go_wp2
      go_loopw [7] (fun v wx => ∃ (acc tab3 : List HP) (l3 : List UInt8) (cs3 : Array Value) (tv3 rv3 : Value), acc.length ≤ 8 ∧ (∀ x ∈ acc, x.n.size ≤ 268435456 ∧ x.v.size ≤ 268435456) ∧ l3.length ≤ b.length ∧ rdPairs (9 - acc.length) acc tab3 lim2 l3 = none ∧ UnTo (w.alloc (.cells #[.slice sv b.length cv] 296)) wx ub cs cs3 tP lim2 tv tv3 tab3 w.heap.size (.slice sv b.length cv) rv3 l3 ∧ wx.ownsRow w.heap.size 62 2 v acc.length (hpCells acc) ∧ (∀ j, v.ownBlock = some j → tv3.ownBlock ≠ some j)) (fun v _ => 9 - lenV v)
      case atStart => exact ⟨[], tab2, l2, cs2, tv2, rv2, by simp, by simp, by omega, HPAIRS.out, HU.out, World.ownsRow_nil _ _ _ _, fun j e => by simp [Value.ownBlock] at e⟩
      case round =>
        obtain ⟨acc, tab3, l3, cs3, tv3, rv3, ha8, hsz, hl3, hrp, hu3, how, hap3⟩ := hrel
        obtain ⟨sl, cl, hvl⟩ := slice_len how
        subst hvl
        have hae := atEnd_any w.heap.size rv3 l3 wr hu3.sr
        have HAE := hide hae
        have HU3 := hide hu3
        have HOW := hide how
        have HAP3 := hide hap3
        have HSZ := hide hsz
        have HRP := hide hrp
        clear hae hu3 how hap3 hsz hrp HU
        obtain ⟨f, hf⟩ : ∃ f, 9 - acc.length = f + 1 := ⟨8 - acc.length, by omega⟩
        have HFF := hide hf
        clear hf
        cases l3 with
        | nil =>
          have hrp := HRP.out
          rw [HFF.out] at hrp
          simp [rdPairs] at hrp
        | cons c r =>
          have hap := HU3.out.apart HAA.out HSA.out
          have hg3 := HU3.out.gl HGA.out hub hgs HTV.out
          have HAP := hide hap
          have HG3 := hide hg3
          clear hap hg3
          cases hp : rdPair tab3 lim2 (c :: r) with
          | none =>
            have htp := takePair_bad ub cs3 tP lim2 tv3 tab3 w.heap.size rv3 (c :: r) wr HG3.out HU3.out.st HU3.out.sr HAP.out (by omega) hgs hp
            have HTP := hide htp
            clear htp hp HRP
            go_wp2_with fail
            refine HAE.out.mono ?_
            rintro e w9 ⟨rfl, hw9⟩
            rw [hw9]
            clear hw9
            go_wp2_with fail
            refine HTP.out.mono ?_
            rintro e w4 ⟨he, hc4⟩
            rw [he]
            exact ⟨rfl, rfl, unp_chg HBA.out (HU3.out.chg.trans (hc4.mono fun j _ e => Or.inr (Or.inl e))), _, _, cs3, tv3, HU3.out.st.chg hc4 HAP.out.us (fun j hj e => HAP.out.ts (e ▸ hj)), HU3.out.cs3⟩
          | some y =>
            obtain ⟨x, tab4, q⟩ := y
            obtain ⟨hq4, hxn, hxv⟩ := rdPair_len hp (numd_small (Nat.le_trans HU3.out.st.fit HU3.out.st.small)) (by omega)
            have htp := takePair_ok ub cs3 tP lim2 tv3 tab3 w.heap.size rv3 (c :: r) x tab4 q wr HG3.out HU3.out.st HU3.out.sr HAP.out (by omega) hgs hp
            have hrp := HRP.out
            rw [HFF.out] at hrp
            simp only [rdPairs] at hrp
            rw [hp] at hrp
            simp only at hrp
            have HTP := hide htp
            have HRP4 := hide hrp
            clear htp hrp hp HRP
            go_wp2_with fail
            refine HAE.out.mono ?_
            rintro e w9 ⟨rfl, hw9⟩
            rw [hw9]
            clear hw9
            go_wp2_with fail
            refine HTP.out.mono ?_
            rintro e w4 ⟨rfl, cs4, tv4, rv4, hu4⟩
            have how4 := owns_chg HOW.out hu4.chg (by
              rintro j hj (e | e | e)
              · subst e; exact owns_ne HOW.out HU3.out.sr.blk (by decide) hj
              · subst e; exact owns_ne HOW.out HU3.out.st.tb.blk (fun e => HU3.out.st.tb.ne e.symm) hj
              · exact HAP3.out j hj e)
            have hap4 : ∀ j, (Value.slice sl acc.length cl).ownBlock = some j → tv4.ownBlock ≠ some j := fun j hj e => by
              rcases hu4.tfresh j e with a | a
              · exact HAP3.out j hj a
              · have := owns_lt HOW.out hj; omega
            have HU4 := hide (HU3.out.trans hu4)
            have HOW4 := hide how4
            have HAP4 := hide hap4
            clear hu4 how4 hap4
            go_wp2_with (at_builtin; refine wpList_app _ rfl (.tmp 22) (.tmp 25) 57 rfl 62 i0 (.agg #[.string ⟨#[]⟩, .string ⟨#[]⟩]) 2 32 Tryz.underlying57 hi hz0 hz1 hz2 rfl (by decide) _ _ _ rfl ((owns_base HOW4.out (fun _ _ => Nat.zero_le _)).alloc _) (.slice (some ⟨w4.heap.size, 0, none⟩) 1 1) 1 (hpCells [x]) rfl rfl (lies_pair w4 x) (hp_one _) ?c3 ?c4 ?_)
            case c3 => unfold maxLen; omega
            case c4 => omega
            intro v5 w5 hown5 hg5 hf5
            obtain ⟨hu5, how5, hap5⟩ := unp_app HB.out HT.out HBA.out HU4.out HOW4.out HAP4.out hown5 hg5 (by simpa using hf5)
            have hsz5 : ∀ y ∈ acc ++ [x], y.n.size ≤ 281474976710656 ∧ y.v.size ≤ 281474976710656 := fun y hy => by
              rcases List.mem_append.1 hy with hy | hy
              · have := HSZ.out y hy; omega
              · rw [List.mem_singleton.1 hy]; omega
            have hil := isList_any v5 (acc ++ [x]) w5 (hsIn_of_owns how5) (by rw [List.length_append, List.length_singleton]; omega) hsz5
            obtain ⟨s5, c5, hv5⟩ := slice_len hown5
            subst hv5
            have HIL := hide hil
            have HU5 := hide hu5
            have HOW5 := hide how5
            have HAP5 := hide hap5
            clear hown5 hg5 hf5 hil hu5 how5 hap5 hsz5
            cases hli : listB (acc ++ [x]) with
            | false =>
              rw [hli] at HIL
              go_wp2_with fail
              refine HIL.out.mono ?_
              rintro e w6 ⟨rfl, hb6⟩
              have HU6 := hide (HU5.out.below hb6)
              have HC6 := hide (unp_chg HBA.out (HU5.out.below hb6).chg)
              clear hb6
              go_wp2
              exact ⟨rfl, rfl, HC6.out, _, _, cs4, tv4, HU6.out.st, HU6.out.cs3⟩
            | true =>
              rw [hli] at HIL
              have hrp := HRP4.out
              rw [hli] at hrp
              simp only [if_true] at hrp
              have HRP5 := hide hrp
              have hl8 : acc.length + 1 ≤ 8 := by
                have := hli
                unfold listB at this
                simp only [Bool.and_eq_true, decide_eq_true_eq, List.length_append, List.length_singleton] at this
                exact this.1
              clear hrp hli HRP4
              go_wp2_with fail
              refine HIL.out.mono ?_
              rintro e w6 ⟨rfl, hb6⟩
              have HU6 := hide (HU5.out.below hb6)
              have HOW6 := hide (owns_chg HOW5.out (Chg.of_below (S := fun _ => False) hb6) (fun _ _ => id))
              clear hb6
              go_wp2
              go_roundw
              case rel =>
                refine ⟨acc ++ [x], tab4, q, cs4, tv4, rv4, by rw [List.length_append, List.length_singleton]; omega, ?_, by omega, ?_, HU6.out, HOW6.out, HAP5.out⟩
                · intro y hy
                  rcases List.mem_append.1 hy with hy | hy
                  · exact HSZ.out y hy
                  · rw [List.mem_singleton.1 hy]; exact ⟨hxn, hxv⟩
                · rw [List.length_append, List.length_singleton, show 9 - (acc.length + 1) = f from by have := HFF.out; omega]; exact HRP5.out
              case measure => simp [lenV]; omega
    · obtain ⟨f, hf⟩ : ∃ f, 2 - j = f + 1 := ⟨1 - j, by omega⟩
      rw [hf] at hlm
      have hg := hu.gl HGA.out hub hgs HTV.out
      have hhas := shas_any w.heap.size rv2 l2 32 5 wr hu.sr (by decide)
      obtain ⟨g0, g1⟩ := hg.lim
      have HG := hide hg
      have HHAS := hide hhas
      have HU := hide hu
      have HLM := hide hlm
      clear hg hhas hu hlm
      have hjd : decide ((j : Int) < 2) = true := by simp; omega
      cases hh : hasF 32 5 l2 with
      | false =>
        rw [hh] at HHAS
        have HPAIRS : Hid (rdPairs 9 [] tab2 lim2 l2 = none) := by
          refine HLM.out lim2 tab2 l2 ?_
          cases l2 with
          | nil => rfl
          | cons c r =>
            have hc : ¬ c.toNat / 32 = 1 := by simpa [hasF] using hh
            simp only [rdLims]
            rw [if_neg hc]
        clear HLM
        go_wp2_with fail
        refine HHAS.out.mono ?_
        rintro e w1 ⟨rfl, hb1⟩
        have HU1 := hide (HU.out.below hb1)
        clear hb1 HU
        have HU := HU1
        clear HU1 g0 g1
        go_wp2
        go_loopw [7] (fun v wx => ∃ (acc tab3 : List HP) (l3 : List UInt8) (cs3 : Array Value) (tv3 rv3 : Value), acc.length ≤ 8 ∧ (∀ x ∈ acc, x.n.size ≤ 268435456 ∧ x.v.size ≤ 268435456) ∧ l3.length ≤ b.length ∧ rdPairs (9 - acc.length) acc tab3 lim2 l3 = none ∧ UnTo (w.alloc (.cells #[.slice sv b.length cv] 296)) wx ub cs cs3 tP lim2 tv tv3 tab3 w.heap.size (.slice sv b.length cv) rv3 l3 ∧ wx.ownsRow w.heap.size 62 2 v acc.length (hpCells acc) ∧ (∀ j, v.ownBlock = some j → tv3.ownBlock ≠ some j)) (fun v _ => 9 - lenV v)
        case atStart => exact ⟨[], tab2, l2, cs2, tv2, rv2, by simp, by simp, by omega, HPAIRS.out, HU.out, World.ownsRow_nil _ _ _ _, fun j e => by simp [Value.ownBlock] at e⟩
        case round =>
          obtain ⟨acc, tab3, l3, cs3, tv3, rv3, ha8, hsz, hl3, hrp, hu3, how, hap3⟩ := hrel
          obtain ⟨sl, cl, hvl⟩ := slice_len how
          subst hvl
          have hae := atEnd_any w.heap.size rv3 l3 wr hu3.sr
          have HAE := hide hae
          have HU3 := hide hu3
          have HOW := hide how
          have HAP3 := hide hap3
          have HSZ := hide hsz
          have HRP := hide hrp
          clear hae hu3 how hap3 hsz hrp HU
          obtain ⟨f, hf⟩ : ∃ f, 9 - acc.length = f + 1 := ⟨8 - acc.length, by omega⟩
          have HFF := hide hf
          clear hf
          cases l3 with
          | nil =>
            have hrp := HRP.out
            rw [HFF.out] at hrp
            simp [rdPairs] at hrp
          | cons c r =>
            have hap := HU3.out.apart HAA.out HSA.out
            have hg3 := HU3.out.gl HGA.out hub hgs HTV.out
            have HAP := hide hap
            have HG3 := hide hg3
            clear hap hg3
            cases hp : rdPair tab3 lim2 (c :: r) with
            | none =>
              have htp := takePair_bad ub cs3 tP lim2 tv3 tab3 w.heap.size rv3 (c :: r) wr HG3.out HU3.out.st HU3.out.sr HAP.out (by omega) hgs hp
              have HTP := hide htp
              clear htp hp HRP
              go_wp2_with fail
              refine HAE.out.mono ?_
              rintro e w9 ⟨rfl, hw9⟩
              rw [hw9]
              clear hw9
              go_wp2_with fail
              refine HTP.out.mono ?_
              rintro e w4 ⟨he, hc4⟩
              rw [he]
              exact ⟨rfl, rfl, unp_chg HBA.out (HU3.out.chg.trans (hc4.mono fun j _ e => Or.inr (Or.inl e))), _, _, cs3, tv3, HU3.out.st.chg hc4 HAP.out.us (fun j hj e => HAP.out.ts (e ▸ hj)), HU3.out.cs3⟩
            | some y =>
              obtain ⟨x, tab4, q⟩ := y
              obtain ⟨hq4, hxn, hxv⟩ := rdPair_len hp (numd_small (Nat.le_trans HU3.out.st.fit HU3.out.st.small)) (by omega)
              have htp := takePair_ok ub cs3 tP lim2 tv3 tab3 w.heap.size rv3 (c :: r) x tab4 q wr HG3.out HU3.out.st HU3.out.sr HAP.out (by omega) hgs hp
              have hrp := HRP.out
              rw [HFF.out] at hrp
              simp only [rdPairs] at hrp
              rw [hp] at hrp
              simp only at hrp
              have HTP := hide htp
              have HRP4 := hide hrp
              clear htp hrp hp HRP
              go_wp2_with fail
              refine HAE.out.mono ?_
              rintro e w9 ⟨rfl, hw9⟩
              rw [hw9]
              clear hw9
              go_wp2_with fail
              refine HTP.out.mono ?_
              rintro e w4 ⟨rfl, cs4, tv4, rv4, hu4⟩
              have how4 := owns_chg HOW.out hu4.chg (by
                rintro j hj (e | e | e)
                · subst e; exact owns_ne HOW.out HU3.out.sr.blk (by decide) hj
                · subst e; exact owns_ne HOW.out HU3.out.st.tb.blk (fun e => HU3.out.st.tb.ne e.symm) hj
                · exact HAP3.out j hj e)
              have hap4 : ∀ j, (Value.slice sl acc.length cl).ownBlock = some j → tv4.ownBlock ≠ some j := fun j hj e => by
                rcases hu4.tfresh j e with a | a
                · exact HAP3.out j hj a
                · have := owns_lt HOW.out hj; omega
              have HU4 := hide (HU3.out.trans hu4)
              have HOW4 := hide how4
              have HAP4 := hide hap4
              clear hu4 how4 hap4
              go_wp2_with (at_builtin; refine wpList_app _ rfl (.tmp 22) (.tmp 25) 57 rfl 62 i0 (.agg #[.string ⟨#[]⟩, .string ⟨#[]⟩]) 2 32 Tryz.underlying57 hi hz0 hz1 hz2 rfl (by decide) _ _ _ rfl ((owns_base HOW4.out (fun _ _ => Nat.zero_le _)).alloc _) (.slice (some ⟨w4.heap.size, 0, none⟩) 1 1) 1 (hpCells [x]) rfl rfl (lies_pair w4 x) (hp_one _) ?c3 ?c4 ?_)
              case c3 => unfold maxLen; omega
              case c4 => omega
              intro v5 w5 hown5 hg5 hf5
              obtain ⟨hu5, how5, hap5⟩ := unp_app HB.out HT.out HBA.out HU4.out HOW4.out HAP4.out hown5 hg5 (by simpa using hf5)
              have hsz5 : ∀ y ∈ acc ++ [x], y.n.size ≤ 281474976710656 ∧ y.v.size ≤ 281474976710656 := fun y hy => by
                rcases List.mem_append.1 hy with hy | hy
                · have := HSZ.out y hy; omega
                · rw [List.mem_singleton.1 hy]; omega
              have hil := isList_any v5 (acc ++ [x]) w5 (hsIn_of_owns how5) (by rw [List.length_append, List.length_singleton]; omega) hsz5
              obtain ⟨s5, c5, hv5⟩ := slice_len hown5
              subst hv5
              have HIL := hide hil
              have HU5 := hide hu5
              have HOW5 := hide how5
              have HAP5 := hide hap5
              clear hown5 hg5 hf5 hil hu5 how5 hap5 hsz5
              cases hli : listB (acc ++ [x]) with
              | false =>
                rw [hli] at HIL
                go_wp2_with fail
                refine HIL.out.mono ?_
                rintro e w6 ⟨rfl, hb6⟩
                have HU6 := hide (HU5.out.below hb6)
                have HC6 := hide (unp_chg HBA.out (HU5.out.below hb6).chg)
                clear hb6
                go_wp2
                exact ⟨rfl, rfl, HC6.out, _, _, cs4, tv4, HU6.out.st, HU6.out.cs3⟩
              | true =>
                rw [hli] at HIL
                have hrp := HRP4.out
                rw [hli] at hrp
                simp only [if_true] at hrp
                have HRP5 := hide hrp
                have hl8 : acc.length + 1 ≤ 8 := by
                  have := hli
                  unfold listB at this
                  simp only [Bool.and_eq_true, decide_eq_true_eq, List.length_append, List.length_singleton] at this
                  exact this.1
                clear hrp hli HRP4
                go_wp2_with fail
                refine HIL.out.mono ?_
                rintro e w6 ⟨rfl, hb6⟩
                have HU6 := hide (HU5.out.below hb6)
                have HOW6 := hide (owns_chg HOW5.out (Chg.of_below (S := fun _ => False) hb6) (fun _ _ => id))
                clear hb6
                go_wp2
                go_roundw
                case rel =>
                  refine ⟨acc ++ [x], tab4, q, cs4, tv4, rv4, by rw [List.length_append, List.length_singleton]; omega, ?_, by omega, ?_, HU6.out, HOW6.out, HAP5.out⟩
                  · intro y hy
                    rcases List.mem_append.1 hy with hy | hy
                    · exact HSZ.out y hy
                    · rw [List.mem_singleton.1 hy]; exact ⟨hxn, hxv⟩
                  · rw [List.length_append, List.length_singleton, show 9 - (acc.length + 1) = f from by have := HFF.out; omega]; exact HRP5.out
                case measure => simp [lenV]; omega
      | true =>
        rw [hh] at HHAS
        cases l2 with
        | nil => simp [hasF] at hh
        | cons c r =>
          have hc : c.toNat / 32 = 1 := by simpa [hasF] using hh
          have hap := HU.out.apart HAA.out HSA.out
          have hm2 : cs2[3]? = some (.int .i64 (most : Int)) := (HU.out.cs3 3 (by omega)).trans HM.out
          have HAP := hide hap
          have HM2 := hide hm2
          have HC := hide hc
          clear hap hm2 hc hh
          go_wp2_with fail
          refine HHAS.out.mono ?_
          rintro e w1 ⟨rfl, hb1⟩
          have hu1 := HU.out.below hb1
          have HU1 := hide hu1
          have HG1 := hide (hu1.gl HGA.out hub hgs HTV.out)
          clear hb1 hu1 g0 g1
          cases hcn : rdCnt 5 c r with
          | none =>
            have HTL := hide (takeLimit_nocount ub w.heap.size rv2 c r w1 HG1.out HU1.out.sr (by omega) hgs hcn)
            clear hcn
            go_wp2_with fail
            refine HTL.out.mono ?_
            rintro e w2 ⟨he, hc2⟩
            rw [he]
            exact ⟨rfl, rfl, unp_chg HBA.out (HU1.out.chg.trans (hc2.mono fun j _ e => Or.inr (Or.inl e))), _, _, cs2, tv2, HU1.out.st.chg hc2 HAP.out.us (fun j hj e => HAP.out.ts (e ▸ hj)), HU1.out.cs3⟩
          | some nq =>
            obtain ⟨n, q⟩ := nq
            have hqr := rdCnt_len hcn
            by_cases hnm : most < n
            · have HTL := hide (takeLimit_great ub cs2 tP lim2 tv2 tab2 most w.heap.size rv2 c r n q w1 HG1.out HU1.out.st HM2.out HU1.out.sr HAP.out (by omega) hgs hcn hnm)
              clear hcn
              go_wp2_with fail
              refine HTL.out.mono ?_
              rintro e w2 ⟨he, hc2⟩
              rw [he]
              exact ⟨rfl, rfl, unp_chg HBA.out (HU1.out.chg.trans (hc2.mono fun j _ e => Or.inr (Or.inl e))), _, _, cs2, tv2, HU1.out.st.chg hc2 HAP.out.us (fun j hj e => HAP.out.ts (e ▸ hj)), HU1.out.cs3⟩
            · have HTL := hide (takeLimit_ok ub cs2 tP lim2 tv2 tab2 most w.heap.size rv2 c r n q w1 HG1.out HU1.out.st HM2.out HU1.out.sr HAP.out (by omega) hgs hcn (by omega) hmo)
              have HNX : Hid (BadT most f n (shr tab2 n) q) := by
                intro lim1 tab1 r1 hr1
                refine HLM.out lim1 tab1 r1 ?_
                simp only [rdLims]
                rw [if_pos HC.out, hcn]
                simp only
                rw [if_neg hnm]
                exact hr1
              clear hcn
              simp only [List.length_cons] at hll
              go_wp2_with fail
              refine HTL.out.mono ?_
              rintro e w2 ⟨rfl, cs3, tv3, rv3, hu3⟩
              have HU3 := hide (HU1.out.trans hu3)
              clear hu3
              go_wp2
              go_roundw
              case rel =>
                refine ⟨j + 1, n, shr tab2 n, q, cs3, tv3, rv3, by simp, by omega, by omega, ?_, HU3.out⟩
                rw [show 2 - (j + 1) = f from by omega]; exact HNX.out
              case measure => simp [intOf]; omega
end Go.Proofs.YtghongdbohjaaaaGreatDoor
/-
  Package sluice: an unpacker that breaks, and what is refused.
-/
namespace Go.Proofs.YtghongdbohjaaaaGreatDoor
set_option linter.unusedVariables false
set_option linter.unusedSimpArgs false
open Go.RowKit

set_option maxRecDepth 100000 in
set_option maxHeartbeats 400000 in
theorem ufaultOf_any (c : Int) (w : World) :
    Calls Tryz.prog 69 #[.iface 83 (.int .i64 c)] w fun e w' => e = .returned (.int .i64 c) ∧ w' = w := by
  have hta : ∀ (c : Int) (w : World), (Instr.typeAssert (.iface 83 (.int .i64 c)) 20 83 false).run Tryz.prog w = .ok (.int .i64 c) w := fun _ _ => by kernel_rfl
  go_enter Tryz.func69, Tryz.ntmps69
  go_wp2
  go_ret
  exact ⟨rfl, rfl⟩

/-- The unpacker's block, overwritten. -/
def wipedU (w : World) (fa ub : Nat) (c : Int) : World :=
  (((((w.setCell ⟨fa, 0, none⟩ (.int .i64 c)).setCell ⟨ub, 0, none⟩ (.int .i64 0)).setCell ⟨ub, 1, none⟩ (.int .i64 0)).setCell ⟨ub, 2, none⟩ (.slice none 0 0)).setCell ⟨ub, 3, none⟩ (.int .i64 0)).setCell ⟨ub, 4, none⟩ (.bool true)
def brokenCs : Array Value := #[.int .i64 0, .int .i64 0, .slice none 0 0, .int .i64 0, .bool true]
set_option maxRecDepth 100000 in
set_option maxHeartbeats 400000 in
theorem uclos_panic (fa ra ub : Nat) (c : Int) (older : List PanicEntry) (w : World) (hf : w.heap[fa]? = some (.cells #[.int .i64 0] 83 (0, 0))) (hra : w.cell? ⟨ra, 0, none⟩ = some (.pointer (some ⟨ub, 0, none⟩)))
    (v0 v1 v2 v3 v4 : Value) (hu : w.heap[ub]? = some (.cells #[v0, v1, v2, v3, v4] 193 (0, 0))) (h1 : fa ≠ ra) (h2 : fa ≠ ub) :
    CallsD Tryz.prog 87 #[.pointer (some ⟨fa, 0, none⟩), .pointer (some ⟨ra, 0, none⟩)] (.panicking ({ v := .iface 83 (.int .i64 c), recovered := false } :: older)) w fun e u' w' =>
      e = .returned (.tuple #[]) ∧ u' = .panicking ({ v := .iface 83 (.int .i64 c), recovered := true } :: older) ∧ w' = wipedU w fa ub c := by
  have c0 : w.cell? ⟨ub, 0, none⟩ = some v0 := by rw [cell_of_row _ _ _ _ _ _ hu]; rfl
  have c1 : w.cell? ⟨ub, 1, none⟩ = some v1 := by rw [cell_of_row _ _ _ _ _ _ hu]; rfl
  have c2 : w.cell? ⟨ub, 2, none⟩ = some v2 := by rw [cell_of_row _ _ _ _ _ _ hu]; rfl
  have c3 : w.cell? ⟨ub, 3, none⟩ = some v3 := by rw [cell_of_row _ _ _ _ _ _ hu]; rfl
  have c4 : w.cell? ⟨ub, 4, none⟩ = some v4 := by rw [cell_of_row _ _ _ _ _ _ hu]; rfl
  have f0 : w.frozen? ⟨ub, 0, none⟩ = false := by simp [World.frozen?, hu]
  have f1 : w.frozen? ⟨ub, 1, none⟩ = false := by simp [World.frozen?, hu]
  have f2 : w.frozen? ⟨ub, 2, none⟩ = false := by simp [World.frozen?, hu]
  have f3 : w.frozen? ⟨ub, 3, none⟩ = false := by simp [World.frozen?, hu]
  have f4 : w.frozen? ⟨ub, 4, none⟩ = false := by simp [World.frozen?, hu]
  have cf := cell_of_one hf
  have ff := free_of_one hf
  clear hf hu
  unfold wipedU
  refine callsD_of_wpS Tryz.func87 rfl fun c₀ cs hu => ?_
  apply wpS_seq
  apply wpS_region
  simp [wpOpsS, go_sem, recoverD, hu, Tryz.ntmps87, Exit.thenS]
  refine wpS_of_wp ?_
  change Code.wp Tryz.prog _ _ ⟨#[.pointer (some ⟨fa, 0, none⟩), .pointer (some ⟨ra, 0, none⟩), .iface 83 (.int .i64 c), .iface 83 (.int .i64 c), undef, undef, undef, undef, undef, undef, undef], []⟩ w
  go_wp2_with (go_at_call 69; refine (ufaultOf_any _ _).mono ?_; rintro e w' ⟨rfl, rfl⟩)
  exact ⟨rfl, _, rfl, .tuple #[], by simp [results, Tryz.results87], rfl, rfl, rfl⟩
theorem five {cs : Array Value} {x : Value} (h4 : cs[4]? = some x) (h5 : cs[5]? = none) : ∃ v0 v1 v2 v3 v4, cs = #[v0, v1, v2, v3, v4] := by
  have hs : cs.size = 5 := by
    have a := (Array.getElem?_eq_some_iff.1 h4).1
    have b := Array.getElem?_eq_none_iff.1 h5
    omega
  obtain ⟨l⟩ := cs
  simp at hs
  match l, hs with
  | [a, b, c, d, e], _ => exact ⟨a, b, c, d, e, rfl⟩
theorem wiped_blk {w : World} {fa ub : Nat} {c : Int} {v0 v1 v2 v3 v4 : Value} (hu : w.heap[ub]? = some (.cells #[v0, v1, v2, v3, v4] 193 (0, 0))) (h : fa ≠ ub) : (wipedU w fa ub c).heap[ub]? = some (.cells brokenCs 193 (0, 0)) := by
  have hc : Chg (fun j => j = fa) w (w.setCell ⟨fa, 0, none⟩ (.int .i64 c)) := (Chg.refl (fun j => j = fa) w).setCell (p := ⟨fa, 0, none⟩) (Or.inr rfl) _
  have h0 : (w.setCell ⟨fa, 0, none⟩ (.int .i64 c)).heap[ub]? = some (.cells #[v0, v1, v2, v3, v4] 193 (0, 0)) := by
    rw [hc.block ub (lt_of_block hu) (fun e => h e.symm)]; exact hu
  exact block_setCell (i := 4) (block_setCell (i := 3) (block_setCell (i := 2) (block_setCell (i := 1) (block_setCell (i := 0) h0))))
theorem uwiped_chg (w : World) (fa ub : Nat) (c : Int) : Chg (fun j => j = fa ∨ j = ub) w (wipedU w fa ub c) :=
  (((((((Chg.refl (fun j => j = fa ∨ j = ub) w).setCell (p := ⟨fa, 0, none⟩) (Or.inr (Or.inl rfl)) _).setCell (p := ⟨ub, 0, none⟩) (Or.inr (Or.inr rfl)) _).setCell (p := ⟨ub, 1, none⟩) (Or.inr (Or.inr rfl)) _).setCell (p := ⟨ub, 2, none⟩) (Or.inr (Or.inr rfl)) _).setCell (p := ⟨ub, 3, none⟩) (Or.inr (Or.inr rfl)) _).setCell (p := ⟨ub, 4, none⟩) (Or.inr (Or.inr rfl)) _)
theorem uwiped_fa {w : World} {fa ub : Nat} {c : Int} {x : Value} {t : TypeId} (hf : w.heap[fa]? = some (.cells #[x] t (0, 0))) (h : fa ≠ ub) : (wipedU w fa ub c).cell? ⟨fa, 0, none⟩ = some (.int .i64 c) := by
  have h0 : (w.setCell ⟨fa, 0, none⟩ (.int .i64 c)).heap[fa]? = some (.cells #[.int .i64 c] t (0, 0)) := block_setCell (i := 0) hf
  have hc : Chg (fun j => j = ub) (w.setCell ⟨fa, 0, none⟩ (.int .i64 c)) (wipedU w fa ub c) :=
    ((((((Chg.refl (fun j => j = ub) _).setCell (p := ⟨ub, 0, none⟩) (Or.inr rfl) _).setCell (p := ⟨ub, 1, none⟩) (Or.inr rfl) _).setCell (p := ⟨ub, 2, none⟩) (Or.inr rfl) _).setCell (p := ⟨ub, 3, none⟩) (Or.inr rfl) _).setCell (p := ⟨ub, 4, none⟩) (Or.inr rfl) _)
  rw [cell_of_row _ _ _ _ _ _ (by rw [hc.block fa (lt_of_block h0) h]; exact h0)]
  rfl

set_option maxRecDepth 100000 in
set_option maxHeartbeats 800000 in
theorem unpack_bad (ub : Nat) (cs : Array Value) (tv : Value) (u : Up) (bv : Value) (b : List UInt8) (w : World) (hgl : Gl w) (h : UpS w ub cs tv u) (h5 : cs[5]? = none) (hb : BytesIn w bv b) (hbu : bv.ownBlock ≠ some ub) (hbt : ∀ j, bv.ownBlock = some j → tv.ownBlock ≠ some j) (hl : b.length ≤ 134217728) (hub : 7 ≤ ub) (htv : ∀ j, tv.ownBlock = some j → 7 ≤ j) (hq : u.unpack b = none) :
    Calls Tryz.prog 47 #[.pointer (some ⟨ub, 0, none⟩), bv] w fun e w' => e = .returned (.tuple #[.slice none 0 0, .int .i64 13]) ∧ w'.heap[ub]? = some (.cells brokenCs 193 (0, 0)) ∧ Chg (TouchT ub tv) w w' := by
  have hbA : Below w.heap.size w ((w.alloc (.cells #[.pointer (some ⟨ub, 0, none⟩)] 120)).alloc (.cells #[.int .i64 0] 83)) := ((Below.refl _ _).alloc (Nat.le_refl _) _).alloc (by simp) _
  have hA : ((w.alloc (.cells #[.pointer (some ⟨ub, 0, none⟩)] 120)).alloc (.cells #[.int .i64 0] 83)).heap[w.heap.size]? = some (.cells #[.pointer (some ⟨ub, 0, none⟩)] 120 (0, 0)) := by
    rw [Below.heap_alloc _ _ _ (by simp)]; exact heap_alloc_new w _
  have hB : ((w.alloc (.cells #[.pointer (some ⟨ub, 0, none⟩)] 120)).alloc (.cells #[.int .i64 0] 83)).heap[w.heap.size + 1]? = some (.cells #[.int .i64 0] 83 (0, 0)) := by
    have := heap_alloc_new (w.alloc (.cells #[.pointer (some ⟨ub, 0, none⟩)] 120)) (.cells #[.int .i64 0] 83)
    simpa using this
  have hst := h.st.below hbA
  have hun := bUnpack_bad ub cs 193 u.lim tv u.tab u.most bv b _ (hgl.below hbA) hst h.c3 h.most (hb.chg (Chg.of_below (S := fun _ => False) hbA) (fun _ _ => id)) hbu hbt hl hub htv (by decide) hq
  have c4 : ((w.alloc (.cells #[.pointer (some ⟨ub, 0, none⟩)] 120)).alloc (.cells #[.int .i64 0] 83)).cell? ⟨ub, 4, none⟩ = some (.bool false) := by rw [cell_of_row _ _ _ _ _ _ hst.tb.blk]; exact h.c4
  have hbw := lt_of_block h.st.tb.blk
  have htw : ∀ j, tv.ownBlock = some j → j < w.heap.size := fun j hj => owns_lt h.st.row hj
  obtain ⟨sv, cv, hv, _⟩ := bytesIn_len hb
  subst hv
  have HUN := hide hun
  have HBA := hide hbA
  have HA := hide hA
  have HB := hide hB
  have HTW := hide htw
  have HC4 := hide h.c4
  have HC5 := hide h5
  clear hun hbA hA hB hgl h hb hbu hbt htv hq hst htw h5
  go_enter_defers Tryz.func47, Tryz.ntmps47
  go_wp2_with fail
  refine HUN.out.mono ?_
  rintro e w1 ⟨he, hc1, lim1, tab1, cs1, tv1, hst1, hcs1⟩
  have hB1 : w1.heap[w.heap.size + 1]? = some (.cells #[.int .i64 0] 83 (0, 0)) := by
    rw [hc1.block _ (lt_of_block HB.out) (by rintro (e | e); omega; have := HTW.out _ e; omega)]; exact HB.out
  have hA1 : w1.heap[w.heap.size]? = some (.cells #[.pointer (some ⟨ub, 0, none⟩)] 120 (0, 0)) := by
    rw [hc1.block _ (lt_of_block HA.out) (by rintro (e | e); omega; have := HTW.out _ e; omega)]; exact HA.out
  obtain ⟨v0, v1, v2, v3, v4, hcs⟩ := five ((hcs1 4 (by omega)).trans HC4.out) ((hcs1 5 (by omega)).trans HC5.out)
  subst hcs
  have hu1 := hst1.tb.blk
  rw [he]
  refine leaves_cons (f := 87) (args := #[.pointer (some ⟨w.heap.size + 1, 0, none⟩), .pointer (some ⟨w.heap.size, 0, none⟩)]) (by simp) (by simp [go_sem]) ?_
  refine (uclos_panic (w.heap.size + 1) w.heap.size ub 13 [] w1 hB1 (cell_of_one hA1) v0 v1 v2 v3 v4 hu1 (by omega) (by omega)).mono ?_
  rintro e u' w'' ⟨rfl, rfl, rfl⟩
  have hfc := uwiped_fa (c := 13) hB1 (show w.heap.size + 1 ≠ ub by omega)
  refine ⟨.tuple #[.slice none 0 0, .int .i64 13], ?_, rfl, wiped_blk hu1 (by omega), ?_⟩
  · simp [results, Tryz.results47, go_sem, hfc]
  · exact ((Chg.of_below HBA.out).trans (hc1.mono fun j _ e => Or.inr e)).trans ((uwiped_chg w1 (w.heap.size + 1) ub 13).mono fun j _ e => by
      rcases e with e | e
      · left; omega
      · right; left; exact e)
set_option maxRecDepth 100000 in
set_option maxHeartbeats 400000 in
theorem unpack_broken (ub : Nat) (sv : Option Addr) (n cv : Nat) (w : World) (hu : w.heap[ub]? = some (.cells brokenCs 193 (0, 0))) :
    Calls Tryz.prog 47 #[.pointer (some ⟨ub, 0, none⟩), .slice sv n cv] w fun e w' => e = .returned (.tuple #[.slice none 0 0, .int .i64 13]) ∧ Below w.heap.size w w' := by
  have hbA : Below w.heap.size w ((w.alloc (.cells #[.pointer (some ⟨ub, 0, none⟩)] 120)).alloc (.cells #[.int .i64 0] 83)) := ((Below.refl _ _).alloc (Nat.le_refl _) _).alloc (by simp) _
  have c4 : ((w.alloc (.cells #[.pointer (some ⟨ub, 0, none⟩)] 120)).alloc (.cells #[.int .i64 0] 83)).cell? ⟨ub, 4, none⟩ = some (.bool true) := by
    rw [cell_of_row _ _ _ _ _ _ (by rw [hbA.block ub (lt_of_block hu)]; exact hu)]; rfl
  have HBA := hide hbA
  clear hu hbA
  go_enter_defers Tryz.func47, Tryz.ntmps47
  go_wp2
  refine ⟨.tuple #[.slice none 0 0, .int .i64 13], ?_, rfl, ((Below.refl _ _).alloc (Nat.le_refl _) _).alloc (by simp) _⟩
  simp [results, Tryz.results47, go_sem]

set_option maxRecDepth 100000 in
set_option maxHeartbeats 400000 in
theorem newUnpacker_no (n : Int) (w : World) (hn : limB n = false) : Calls Tryz.prog 43 #[.int .i64 n] w fun e w' => e = .returned (.tuple #[.pointer none, .int .i64 1]) ∧ w' = w := by
  have hlf := limitFits_any n w
  rw [hn] at hlf
  have HLF := hide hlf
  clear hlf hn
  go_enter Tryz.func43, Tryz.ntmps43
  go_wp2_with fail
  refine HLF.out.mono ?_
  rintro e w1 ⟨rfl, hw1⟩
  rw [hw1]
  clear hw1 w1
  go_wp2
  refine bodyPost_ret (v := .tuple #[.pointer none, .int .i64 1]) ?_ rfl ⟨rfl, rfl⟩
  simp [results, Tryz.results43, go_sem]
set_option maxRecDepth 100000 in
set_option maxHeartbeats 400000 in
theorem usize_broken (ub : Nat) (w : World) (hu : w.heap[ub]? = some (.cells brokenCs 193 (0, 0))) : Calls Tryz.prog 45 #[.pointer (some ⟨ub, 0, none⟩)] w fun e w' => e = .returned (.int .i64 0) ∧ w' = w :=
  usize_any ub brokenCs 193 0 (.slice none 0 0) [] w ⟨⟨hu, rfl, rfl, rfl, by decide⟩, World.ownsRow_nil _ _ _ _, Nat.zero_le _, Nat.zero_le _⟩
end Go.Proofs.YtghongdbohjaaaaGreatDoor
/-
  What stands of a script's world between two steps of Unpacks.
-/
namespace Go.Proofs.YtghongdbohjaaaaGreatDoor
set_option linter.unusedVariables false
set_option linter.unusedSimpArgs false
open Go.RowKit

section
variable {W0 V0 w w' : World} {b N : Nat} {gF gH gC : Value} {gS gS' : GX} {pv sv kv : Value} {prs : List PkR} {bls : List ByteArray} {recs : List RecB} {X X' Y os os' : List Ob}
theorem obs_moreL : (obsI pv sv kv prs bls recs (os ++ Y)).Perm (os ++ obsI pv sv kv prs bls recs Y) := by
  induction os with
  | nil => exact List.Perm.refl _
  | cons o r ih => exact (obs_more o).trans (ih.cons o)
theorem obs_perm (h : X.Perm X') : (obsI pv sv kv prs bls recs X).Perm (obsI pv sv kv prs bls recs X') := by
  have h1 : (obsI pv sv kv prs bls recs (X ++ [])).Perm (X ++ obsI pv sv kv prs bls recs []) := obs_moreL
  have h2 : (obsI pv sv kv prs bls recs (X' ++ [])).Perm (X' ++ obsI pv sv kv prs bls recs []) := obs_moreL
  rw [List.append_nil] at h1 h2
  exact h1.trans ((h.append_right _).trans h2.symm)
theorem PInvX.permX (h : PInvX W0 V0 w b gF gH gC gS pv sv kv prs bls recs N X) (hp : X.Perm X') : PInvX W0 V0 w b gF gH gC gS pv sv kv prs bls recs N X' :=
  ⟨h.blk, h.sep.perm (obs_perm hp), h.few, h.logs, h.okB, h.okS, h.b0, h.bV, h.belV, h.chV⟩
/-- Some of what lies beside becomes other; the World's own cells too. -/
theorem PInvX.turnG {S : Nat → Prop} (h : PInvX W0 V0 w b gF gH gC gS pv sv kv prs bls recs N (os ++ Y)) (hblk : w'.heap[b]? = some (.cells (lwP gF gH gC gS' pv sv kv) 46 (0, 0))) (hc : Chg S w w') (hS : ∀ j, S j → (∃ o ∈ os, o.F j) ∨ j = b)
    (hP : ∀ o ∈ os', o.P w') (hap : os'.Pairwise fun a b => ∀ j, a.F j → ¬ b.F j) (hF : ∀ o ∈ os', ∀ j, o.F j → (∃ q ∈ os, q.F j) ∨ w.heap.size ≤ j) : PInvX W0 V0 w' b gF gH gC gS' pv sv kv prs bls recs N (os' ++ Y) := by
  have hs := h.sep.perm obs_moreL
  have hbV := h.bV
  refine ⟨hblk, ?_, h.few, h.logs, h.okB, h.okS, h.b0, h.bV, h.belV, h.chV.trans (hc.mono fun j _ e => ?_)⟩
  · refine Sep.perm (Sep.turn hs hc (fun j hj => ?_) hP hap hF h.lo) obs_moreL.symm
    rcases hS j hj with e | e
    · exact Or.inl e
    · exact Or.inr (by omega)
  · rcases hS j e with ⟨o, ho, e⟩ | e
    · exact Or.inl (hs.lo o (by simp [ho]) j e)
    · exact Or.inr e
/-- .. but not the World's own cells. -/
theorem PInvX.turnX {S : Nat → Prop} (h : PInvX W0 V0 w b gF gH gC gS pv sv kv prs bls recs N (os ++ Y)) (hc : Chg S w w') (hS : ∀ j, S j → ∃ o ∈ os, o.F j)
    (hP : ∀ o ∈ os', o.P w') (hap : os'.Pairwise fun a b => ∀ j, a.F j → ¬ b.F j) (hF : ∀ o ∈ os', ∀ j, o.F j → (∃ q ∈ os, q.F j) ∨ w.heap.size ≤ j) : PInvX W0 V0 w' b gF gH gC gS pv sv kv prs bls recs N (os' ++ Y) := by
  have hs := h.sep.perm obs_moreL
  have hbV := h.bV
  have hn : ¬ S b := fun e => by
    obtain ⟨o, ho, e⟩ := hS b e
    have := hs.lo o (by simp [ho]) b e
    omega
  exact h.turnG (by rw [hc.block b (lt_of_block h.blk) hn]; exact h.blk) hc (fun j hj => Or.inl (hS j hj)) hP hap hF
theorem PInvX.x_lt (h : PInvX W0 V0 w b gF gH gC gS pv sv kv prs bls recs N X) {o : Ob} (ho : o ∈ X) {j : Nat} (hj : o.F j) : j < w.heap.size := h.sep.lt (PInvX.x_mem ho) hj
theorem PInvX.x_lo (h : PInvX W0 V0 w b gF gH gC gS pv sv kv prs bls recs N X) {o : Ob} (ho : o ∈ X) {j : Nat} (hj : o.F j) : V0.heap.size ≤ j := h.sep.lo o (PInvX.x_mem ho) j hj
theorem PInvX.x_P (h : PInvX W0 V0 w b gF gH gC gS pv sv kv prs bls recs N X) {o : Ob} (ho : o ∈ X) : o.P w := h.sep.P o (PInvX.x_mem ho)
end

/-- An unpacker of the program and the document's. -/
structure UkR where
  xb : Nat
  cs : Array Value
  tv : Value
  ub : Nat
  lv : Value
  log : List Ch
  lim : Nat
  most : Nat
  dead : Bool
def ukCells : List UkR → List Value
  | [] => []
  | r :: t => .pointer (some ⟨r.xb, 0, none⟩) :: .pointer (some ⟨r.ub, 0, none⟩) :: ukCells t
theorem ukCells_length (rs : List UkR) : (ukCells rs).length = rs.length * 2 := by
  induction rs with
  | nil => rfl
  | cons p r ih => simp [ukCells, ih]; omega
theorem ukCells_append (a b : List UkR) : ukCells (a ++ b) = ukCells a ++ ukCells b := by
  induction a with
  | nil => rfl
  | cons p r ih => simp [ukCells, ih]
theorem ukCells_get {rs : List UkR} {k : Nat} (h : k < rs.length) : (ukCells rs)[k * 2]? = some (.pointer (some ⟨rs[k].xb, 0, none⟩)) ∧ (ukCells rs)[k * 2 + 1]? = some (.pointer (some ⟨rs[k].ub, 0, none⟩)) := by
  induction rs generalizing k with
  | nil => simp at h
  | cons p r ih =>
    cases k with
    | zero => simp [ukCells]
    | succ k =>
      simp only [List.length_cons] at h
      have := ih (k := k) (by omega)
      rw [Nat.succ_mul]
      simpa [ukCells, Nat.add_assoc] using this
theorem ukCells_set {rs : List UkR} {k : Nat} {r : UkR} (h : k < rs.length) (hx : r.xb = rs[k].xb) (hp : r.ub = rs[k].ub) : ukCells (rs.set k r) = ukCells rs := by
  induction rs generalizing k with
  | nil => simp at h
  | cons p t ih =>
    cases k with
    | zero => simp at hx hp; simp [ukCells, hx, hp]
    | succ k =>
      simp only [List.length_cons] at h
      simp only [List.getElem_cons_succ] at hx hp
      simp [ukCells, ih (k := k) (by omega) hx hp]

/-- The program's unpacker in memory: it lives, or is broken. -/
def XuS (w : World) (r : UkR) : Prop := (r.dead = true ∧ r.tv = .slice none 0 0 ∧ w.heap[r.xb]? = some (.cells brokenCs 193 (0, 0))) ∨ (r.dead = false ∧ UpS w r.xb r.cs r.tv ⟨r.lim, tabL r.log, r.most⟩ ∧ r.cs[5]? = none)
def xuOb (r : UkR) : Ob where
  P := fun w => XuS w r
  F := fun j => j = r.xb ∨ r.tv.ownBlock = some j
  lt := fun w j h hj => by
    rcases h with ⟨_, ht, hb⟩ | ⟨_, hu, _⟩
    · rcases hj with e | e
      · rw [e]; exact lt_of_block hb
      · rw [ht] at e; simp [Value.ownBlock] at e
    · rcases hj with e | e
      · rw [e]; exact lt_of_block hu.st.tb.blk
      · exact owns_lt hu.st.row e
  chg := fun S w w' h hc hs => by
    rcases h with ⟨hd, ht, hb⟩ | ⟨hd, hu, h5⟩
    · exact Or.inl ⟨hd, ht, by rw [hc.block _ (lt_of_block hb) (hs _ (Or.inl rfl))]; exact hb⟩
    · exact Or.inr ⟨hd, hu.chg hc (hs _ (Or.inl rfl)) (fun j hj => hs j (Or.inr hj)), h5⟩
def unOb (r : UkR) : Ob where
  P := fun w => UnB w r.ub r.lv r.lim r.most r.dead r.log
  F := fun j => j = r.ub ∨ r.lv.ownBlock = some j
  lt := fun w j h hj => by
    rcases hj with e | e
    · rw [e]; exact lt_of_block h.blk
    · exact owns_lt h.row e
  chg := fun S w w' h hc hs => h.chg hc (hs _ (Or.inl rfl)) (fun j hj => hs j (Or.inr hj))
def hrOb (r : HRec) : Ob where
  P := fun w => FamH w r
  F := fun j => ∃ u ∈ [r.l, r.a, r.b, r.c], u.ownBlock = some j
  lt := fun w j h hj => by
    obtain ⟨u, hu, e⟩ := hj
    simp only [List.mem_cons, List.not_mem_nil, or_false] at hu
    rcases hu with rfl | rfl | rfl | rfl
    · exact owns_lt h.l e
    · exact owns_lt h.a e
    · exact owns_lt h.b e
    · exact owns_lt h.c e
  chg := fun S w w' h hc hs => h.chg hc fun v hv k hk => hs k ⟨v, hv, hk⟩
def twoU (r : UkR) : List Ob := [xuOb r, unOb r]
/-- All but the unpackers themselves; Z: what else lies there. -/
def restU (uv hv : Value) (us : List UkR) (hrs : List HRec) (Z : List Ob) : List Ob :=
  rowOb 127 2 uv us.length (ukCells us) :: rowOb 72 6 hv hrs.length (hrCells hrs) :: (hrs.map hrOb ++ Z)
def obsU (uv hv : Value) (us : List UkR) (hrs : List HRec) (Z : List Ob) : List Ob := us.flatMap twoU ++ restU uv hv us hrs Z

/-- What holds of an unpacker, memory aside. -/
structure UOk (N : Nat) (r : UkR) : Prop where
  most : r.most ≤ 256
  live : r.dead = false → r.lim ≤ 256 ∧ szT (tabL r.log) ≤ 256 ∧ allPr (tabL r.log) ∧ r.log.length ≤ 16 * N
theorem UOk.mono {N N' : Nat} {r : UkR} (h : UOk N r) (hN : N ≤ N') : UOk N' r := ⟨h.most, fun hd => ⟨(h.live hd).1, (h.live hd).2.1, (h.live hd).2.2.1, Nat.le_trans (h.live hd).2.2.2 (by omega)⟩⟩

structure UInv (W0 V0 w : World) (b : Nat) (gF gH gC gS uv hv pv sv kv : Value) (prs : List PkR) (bls : List ByteArray) (recs : List RecB) (us : List UkR) (hrs : List HRec) (N : Nat) (Z : List Ob) : Prop where
  p : PInvX W0 V0 w b gF gH gC ⟨gS, uv, hv⟩ pv sv kv prs bls recs N (obsU uv hv us hrs Z)
  okU : ∀ r ∈ us, UOk N r
  okH : ∀ r ∈ hrs, r.len ≤ 1073741824
  few : us.length ≤ N ∧ hrs.length ≤ N

section
variable {W0 V0 w w' : World} {b N : Nat} {gF gH gC gS uv hv pv sv kv : Value} {prs : List PkR} {bls : List ByteArray} {recs : List RecB} {us : List UkR} {hrs : List HRec} {Z : List Ob}
theorem UInv.rowU (h : UInv W0 V0 w b gF gH gC gS uv hv pv sv kv prs bls recs us hrs N Z) : w.ownsRow 0 127 2 uv us.length (ukCells us) := h.p.x_P (o := rowOb 127 2 uv us.length (ukCells us)) (by simp [obsU, restU])
theorem UInv.rowH (h : UInv W0 V0 w b gF gH gC gS uv hv pv sv kv prs bls recs us hrs N Z) : w.ownsRow 0 72 6 hv hrs.length (hrCells hrs) := h.p.x_P (o := rowOb 72 6 hv hrs.length (hrCells hrs)) (by simp [obsU, restU])
theorem UInv.mem2 {r : UkR} (hr : r ∈ us) : xuOb r ∈ obsU uv hv us hrs Z ∧ unOb r ∈ obsU uv hv us hrs Z := by
  constructor <;> (unfold obsU; refine List.mem_append_left _ (List.mem_flatMap.2 ⟨r, hr, ?_⟩); simp [twoU])
theorem UInv.famH (h : UInv W0 V0 w b gF gH gC gS uv hv pv sv kv prs bls recs us hrs N Z) {r : HRec} (hr : r ∈ hrs) : FamH w r := h.p.x_P (o := hrOb r) (by unfold obsU restU; simp only [List.mem_append, List.mem_cons, List.mem_map]; exact Or.inr (Or.inr (Or.inr (Or.inl ⟨r, hr, rfl⟩))))
theorem UInv.xu (h : UInv W0 V0 w b gF gH gC gS uv hv pv sv kv prs bls recs us hrs N Z) {r : UkR} (hr : r ∈ us) : XuS w r := h.p.x_P (o := xuOb r) (UInv.mem2 hr).1
theorem UInv.un (h : UInv W0 V0 w b gF gH gC gS uv hv pv sv kv prs bls recs us hrs N Z) {r : UkR} (hr : r ∈ us) : UnB w r.ub r.lv r.lim r.most r.dead r.log := h.p.x_P (o := unOb r) (UInv.mem2 hr).2
theorem UInv.below (h : UInv W0 V0 w b gF gH gC gS uv hv pv sv kv prs bls recs us hrs N Z) (hb : Below w.heap.size w w') : UInv W0 V0 w' b gF gH gC gS uv hv pv sv kv prs bls recs us hrs N Z := ⟨h.p.below hb, h.okU, h.okH, h.few⟩
theorem UInv.mono (h : UInv W0 V0 w b gF gH gC gS uv hv pv sv kv prs bls recs us hrs N Z) {N' : Nat} (hN : N ≤ N') : UInv W0 V0 w b gF gH gC gS uv hv pv sv kv prs bls recs us hrs N' Z :=
  ⟨h.p.mono hN, fun r hr => (h.okU r hr).mono hN, h.okH, ⟨Nat.le_trans h.few.1 hN, Nat.le_trans h.few.2 hN⟩⟩
theorem UInv.bkh (h : UInv W0 V0 w b gF gH gC gS uv hv pv sv kv prs bls recs us hrs N Z) : BkH w b (lwP gF gH gC ⟨gS, uv, hv⟩ pv sv kv) kv hv recs hrs :=
  ⟨h.p.blk, rfl, rfl, rfl, rfl, rfl, h.p.rowB, h.rowH, fun r hr => h.p.fam hr, fun r hr => h.famH hr, h.p.okB, h.okH⟩
/-- The k-th unpacker, taken out. -/
theorem obsU_get (k : Nat) (hk : k < us.length) : (obsU uv hv us hrs Z).Perm (twoU us[k] ++ ((us.eraseIdx k).flatMap twoU ++ restU uv hv us hrs Z)) := by
  unfold obsU
  rw [← List.append_assoc]
  exact (flat_get twoU us k hk).append_right _
theorem obsU_set (k : Nat) (hk : k < us.length) (r : UkR) (hx : r.xb = us[k].xb) (hp : r.ub = us[k].ub) (Z : List Ob) : (obsU uv hv (us.set k r) hrs Z).Perm (twoU r ++ ((us.eraseIdx k).flatMap twoU ++ restU uv hv us hrs Z)) := by
  have e : restU uv hv (us.set k r) hrs Z = restU uv hv us hrs Z := by unfold restU; rw [ukCells_set hk hx hp, List.length_set]
  unfold obsU
  rw [e, ← List.append_assoc]
  exact (flat_set twoU us k hk r).append_right _
end
end Go.Proofs.YtghongdbohjaaaaGreatDoor
