import Derived.Test.YtdccldbefdfppaaGreatDoorPGal
import Derived.Test.YtdccldbefdfppaaGreatDoorPGam
import Derived.Test.YtdccldbefdfppaaGreatDoorPGad
import Derived.Test.YtdccldbefdfppaaGreatDoorPGae
set_option linter.unusedVariables false
set_option linter.unusedSimpArgs false
namespace Go.Proofs.YtdccldbefdfppaaGreatDoor
open Go.RowKit
section
set_option maxRecDepth 100000 in
set_option maxHeartbeats 800000 in
theorem takePair_nocountZ (ub : Nat) (cs : Array Value) (tP : TypeId) (lim : Nat) (tv : Value) (tab : List HP) (sb : Nat) (rv : Value) (c : UInt8) (r : List UInt8) (w : World) (hgl : Gl w) (ht : TbSZ w ub cs tP lim tv tab) (hs : SrS w sb rv (c :: r)) (hl : (c :: r).length ≤ 134217728) (hsb : 7 ≤ sb)
  (hc : 128 ≤ c.toNat) (hcnt : rdCnt 7 c r = none) :
  Calls Tryz.prog 160 #[.pointer (some ⟨ub, 35, none⟩), .pointer (some ⟨sb, 0, none⟩)] w fun e w' => Gone e ∧ Chg (fun j => j = sb) w w' := by
 have hc8 : c.toNat ≤ 255 := Nat.le_of_lt_succ c.toNat_lt
 have hbA : Below w.heap.size w (w.alloc (.cells #[.string ⟨#[]⟩, .string ⟨#[]⟩] 130)) := (Below.refl _ _).alloc (Nat.le_refl _) _
 have htk := stake_ok sb rv c r _ (hs.below hbA) (by omega)
 have hsl := lt_of_block hs.blk
 have HFB : Hid (∀ wx, Calls Tryz.prog 180 #[fm 128 7, .int .u8 c.toNat] wx fun e w' => e = .returned (.bool true) ∧ Below wx.heap.size wx w') := fun wx => by
  have := fbegins_any 128 7 c wx (by decide)
  rwa [show decide (c.toNat / 2 ^ 7 = 128 / 2 ^ 7) = true from by simp; omega] at this
 have HCN : Hid (∀ rv' wx, SrS wx sb rv' r → Calls Tryz.prog 181 #[.pointer (some ⟨sb, 0, none⟩), .int .u8 c.toNat, fm 128 7] wx fun e w' => Gone e ∧ Chg (fun j => j = sb) wx w') := fun rv' wx hh => by
  refine (takeCount_any sb rv' r c 128 7 wx hh (by decide) (by simp only [List.length_cons] at hl; omega)).mono ?_
  rintro e w' (⟨N, r', rv'', e1, _⟩ | ⟨e1, e2, e3⟩)
  ·rw [hcnt] at e1; cases e1
  ·exact ⟨e2, e3⟩
 have HTK := hide htk
 have HBA := hide hbA
 have HG := hide hgl
 clear htk hbA hgl ht hs hcnt
 generalize c.toNat = x at *
 go_enter Tryz.func160, Tryz.ntmps160
 go_wp2_with fail
 refine HTK.out.mono ?_
 rintro e w1 ⟨rv1, rfl, hs1⟩
 have hg1 := (HG.out.below HBA.out).sr hs1.chg hsb
 have hs1' : SrTo w w1 sb rv rv1 r := SrTo.before HBA.out hs1
 obtain ⟨g0, g1⟩ := hg1.num
 have HG1 := hide hg1
 have HS1 := hide hs1'
 clear hs1 hs1' hg1
 go_wp2_with fail
 refine (HFB.out _).mono ?_
 rintro e w2 ⟨rfl, hb2⟩
 have hg2 := HG1.out.below hb2
 have hs2 := HS1.out.below hb2
 clear g0 g1
 obtain ⟨g0, g1⟩ := hg2.num
 have HS2 := hide hs2
 clear hb2 hg2 hs2
 have hsd : SrS w2.drew sb rv1 r := HS2.out.st.chg ((Chg.refl (fun _ => False) _).drew) id (fun _ _ => id)
 have hcn := HCN.out rv1 w2.drew hsd
 have HCD := hide hcn
 clear hsd hcn
 go_wp2
 have HEND : Hid (∀ w3, Chg (fun j => j = sb) w2.drew w3 → Chg (fun j => j = sb) w w3) := fun w3 hs3 => HS2.out.chg.trans (Chg.mono (S := fun j => j = sb) ⟨hs3.os, hs3.tape, hs3.output, hs3.size, hs3.block⟩ fun _ _ e => Or.inr e)
 go_region_law (first
  | (refine step_gone rfl 181 Tryz.f181 Tryz.func181 (by kernel_rfl) rfl [.tmp 16, .tmp 17, .tmp 18] #[236, 5, 234] rfl [.pointer (some ⟨sb, 0, none⟩), .int .u8 (x : Int), fm 128 7] (by simp [Act.eval, Act.put, fm]) HCD.out (fun e w3 he => ⟨_, he.1, rfl, rfl, HEND.out w3 he.2⟩) (.int .i64 1) ?_; intro hf; have HF : Hid False := hf; clear hf)
  | (refine step_never HF.out (.agg #[.string ⟨#[]⟩, .string ⟨#[]⟩]) ?_; have k0 : w2.cell? ⟨w.heap.size, 0, none⟩ = some (.string ⟨#[]⟩) := HF.out.elim; have k1 : w2.cell? ⟨w.heap.size, 1, none⟩ = some (.string ⟨#[]⟩) := HF.out.elim; have k2 : w2.frozen? ⟨w.heap.size, 0, none⟩ = false := HF.out.elim; have k3 : w2.frozen? ⟨w.heap.size, 1, none⟩ = false := HF.out.elim))
 all_goals exact HF.out.elim
set_option maxRecDepth 100000 in
set_option maxHeartbeats 800000 in
theorem takePair_nocount_addZ (ub : Nat) (cs : Array Value) (tP : TypeId) (lim : Nat) (tv : Value) (tab : List HP) (sb : Nat) (rv : Value) (c : UInt8) (r : List UInt8) (w : World) (hgl : Gl w) (ht : TbSZ w ub cs tP lim tv tab) (hs : SrS w sb rv (c :: r)) (ha : Apart ub sb tv rv) (hl : (c :: r).length ≤ 134217728) (hsb : 7 ≤ sb)
  (hc : 64 ≤ c.toNat) (hc2 : c.toNat < 128) (hcnt : rdCnt 6 c r = none) :
  Calls Tryz.prog 160 #[.pointer (some ⟨ub, 35, none⟩), .pointer (some ⟨sb, 0, none⟩)] w fun e w' => Gone e ∧ Chg (fun j => j = sb) w w' := by
 have hc8 : c.toNat ≤ 255 := Nat.le_of_lt_succ c.toNat_lt
 have hbA : Below w.heap.size w (w.alloc (.cells #[.string ⟨#[]⟩, .string ⟨#[]⟩] 130)) := (Below.refl _ _).alloc (Nat.le_refl _) _
 have hbox := heap_alloc_new w (.cells #[.string ⟨#[]⟩, .string ⟨#[]⟩] 130)
 have htk := stake_ok sb rv c r _ (hs.below hbA) (by omega)
 have hsl := lt_of_block hs.blk
 simp only [List.length_cons] at hl
 have HF7 : Hid (∀ wx, Calls Tryz.prog 180 #[fm 128 7, .int .u8 c.toNat] wx fun e w' => e = .returned (.bool false) ∧ Below wx.heap.size wx w') := fun wx => by
  have := fbegins_any 128 7 c wx (by decide)
  rwa [show decide (c.toNat / 2 ^ 7 = 128 / 2 ^ 7) = false from by simp; omega] at this
 have HF6 : Hid (∀ wx, Calls Tryz.prog 180 #[fm 64 6, .int .u8 c.toNat] wx fun e w' => e = .returned (.bool true) ∧ Below wx.heap.size wx w') := fun wx => by
  have := fbegins_any 64 6 c wx (by decide)
  rwa [show decide (c.toNat / 2 ^ 6 = 64 / 2 ^ 6) = true from by simp; omega] at this
 have HCN : Hid (∀ rv' wx, SrS wx sb rv' r → Calls Tryz.prog 181 #[.pointer (some ⟨sb, 0, none⟩), .int .u8 c.toNat, fm 64 6] wx fun e w' => Gone e ∧ Chg (fun j => j = sb) wx w') := fun rv' wx hh => by
  refine (takeCount_any sb rv' r c 64 6 wx hh (by decide) (by omega)).mono ?_
  rintro e w' (⟨N, r', rv'', e1, _⟩ | ⟨e1, e2, e3⟩)
  ·rw [hcnt] at e1; cases e1
  ·exact ⟨e2, e3⟩
 clear hcnt
 have HTK := hide htk
 have HBA := hide hbA
 have HBX := hide hbox
 have HG := hide hgl
 have HT := hide ht
 have HA := hide ha
 clear htk hbA hbox hgl ht hs ha
 generalize c.toNat = x at *
 go_enter Tryz.func160, Tryz.ntmps160
 go_wp2_with fail
 refine HTK.out.mono ?_
 rintro e w1 ⟨rv1, rfl, hs1⟩
 have hg1 := (HG.out.below HBA.out).sr hs1.chg hsb
 have hx1 : w1.heap[w.heap.size]? = some (.cells #[.string ⟨#[]⟩, .string ⟨#[]⟩] 130 (0, 0)) := by rw [hs1.chg.block _ (lt_of_block HBX.out) (by omega)]; exact HBX.out
 have hs1' : SrTo w w1 sb rv rv1 r := SrTo.before HBA.out hs1
 obtain ⟨g0, g1⟩ := hg1.num
 have HG1 := hide hg1
 have HX1 := hide hx1
 have HS1 := hide hs1'
 clear hs1 hs1' hg1 hx1
 go_wp2_with fail
 refine (HF7.out _).mono ?_
 rintro e w2 ⟨rfl, hb⟩
 have hg := HG1.out.below hb
 have hx : w2.heap[w.heap.size]? = some (.cells #[.string ⟨#[]⟩, .string ⟨#[]⟩] 130 (0, 0)) := by rw [hb.block _ (lt_of_block HX1.out)]; exact HX1.out
 have hs := HS1.out.below hb
 clear g0 g1
 obtain ⟨g0, g1⟩ := hg.add
 have HG2 := hide hg
 have HX2 := hide hx
 have HS2 := hide hs
 clear hb hg hx hs
 go_wp2_with fail
 refine (HF6.out _).mono ?_
 rintro e w3 ⟨rfl, hb⟩
 have hg := HG2.out.below hb
 have hx : w3.heap[w.heap.size]? = some (.cells #[.string ⟨#[]⟩, .string ⟨#[]⟩] 130 (0, 0)) := by rw [hb.block _ (lt_of_block HX2.out)]; exact HX2.out
 have hs := HS2.out.below hb
 clear g0 g1
 obtain ⟨g0, g1⟩ := hg.add
 have HG3 := hide hg
 have HX3 := hide hx
 have HS3 := hide hs
 clear hb hg hx hs
 go_wp2_with fail
 refine (HCN.out rv1 _ HS3.out.st).mono ?_
 rintro e w9 ⟨he, hc9⟩
 rw [he]
 exact ⟨rfl, rfl, HS3.out.chg.trans (hc9.mono fun _ _ e => Or.inr e)⟩
set_option maxRecDepth 100000 in
set_option maxHeartbeats 800000 in
theorem takePair_notexts_addZ (ub : Nat) (cs : Array Value) (tP : TypeId) (lim : Nat) (tv : Value) (tab : List HP) (sb : Nat) (rv : Value) (c : UInt8) (r : List UInt8) (w : World) (hgl : Gl w) (ht : TbSZ w ub cs tP lim tv tab) (hs : SrS w sb rv (c :: r)) (ha : Apart ub sb tv rv) (hl : (c :: r).length ≤ 134217728) (hsb : 7 ≤ sb)
  (n : Nat) (s : List UInt8) (hc : 64 ≤ c.toNat) (hc2 : c.toNat < 128) (hcnt : rdCnt 6 c r = some (n, s)) (hx : rdTxs tab n s = none) :
  Calls Tryz.prog 160 #[.pointer (some ⟨ub, 35, none⟩), .pointer (some ⟨sb, 0, none⟩)] w fun e w' => Gone e ∧ Chg (fun j => j = sb) w w' := by
 have hc8 : c.toNat ≤ 255 := Nat.le_of_lt_succ c.toNat_lt
 have hbA : Below w.heap.size w (w.alloc (.cells #[.string ⟨#[]⟩, .string ⟨#[]⟩] 130)) := (Below.refl _ _).alloc (Nat.le_refl _) _
 have hbox := heap_alloc_new w (.cells #[.string ⟨#[]⟩, .string ⟨#[]⟩] 130)
 have htk := stake_ok sb rv c r _ (hs.below hbA) (by omega)
 have hsl := lt_of_block hs.blk
 simp only [List.length_cons] at hl
 have HF7 : Hid (∀ wx, Calls Tryz.prog 180 #[fm 128 7, .int .u8 c.toNat] wx fun e w' => e = .returned (.bool false) ∧ Below wx.heap.size wx w') := fun wx => by
  have := fbegins_any 128 7 c wx (by decide)
  rwa [show decide (c.toNat / 2 ^ 7 = 128 / 2 ^ 7) = false from by simp; omega] at this
 have HF6 : Hid (∀ wx, Calls Tryz.prog 180 #[fm 64 6, .int .u8 c.toNat] wx fun e w' => e = .returned (.bool true) ∧ Below wx.heap.size wx w') := fun wx => by
  have := fbegins_any 64 6 c wx (by decide)
  rwa [show decide (c.toNat / 2 ^ 6 = 64 / 2 ^ 6) = true from by simp; omega] at this
 have hsq := rdCnt_len hcnt
 have HCN : Hid (∀ rv' wx, SrS wx sb rv' r → Calls Tryz.prog 181 #[.pointer (some ⟨sb, 0, none⟩), .int .u8 c.toNat, fm 64 6] wx fun e w' => ∃ rv'', n ≤ 8388608 ∧ e = .returned (.int .i64 (n : Int)) ∧ SrTo wx w' sb rv' rv'' s) := fun rv' wx hh => by
  refine (takeCount_any sb rv' r c 64 6 wx hh (by decide) (by omega)).mono ?_
  rintro e w' (⟨N, r', rv'', e1, e0, e2, e3⟩ | ⟨e1, _⟩)
  ·rw [hcnt] at e1
   simp only [Option.some.injEq, Prod.mk.injEq] at e1
   rw [e1.1, e1.2]
   exact ⟨rv'', e0, e2, e3⟩
  ·rw [hcnt] at e1; cases e1
 clear hcnt
 have HTX : Hid (∀ rv' wx, Gl wx → TbSZ wx ub cs tP lim tv tab → SrS wx sb rv' s → n ≤ 8388608 → Calls Tryz.prog 184 #[.pointer (some ⟨ub, 35, none⟩), .pointer (some ⟨sb, 0, none⟩), .int .i64 n] wx fun e w' => Gone e ∧ Chg (fun j => j = sb) wx w') := fun rv' wx hg hh1 hh hn9 => by
  refine (takeTexts_anyZ ub cs tP lim tv tab sb rv' s n wx hg hh1 hh (by omega) hsb (by omega)).mono ?_
  rintro e w' (⟨h', r', rv'', e1, e2, e3⟩ | ⟨e1, e2, e3⟩)
  ·rw [hx] at e1; cases e1
  ·exact ⟨e2, e3⟩
 clear hx
 have HTK := hide htk
 have HBA := hide hbA
 have HBX := hide hbox
 have HG := hide hgl
 have HT := hide ht
 have HA := hide ha
 clear htk hbA hbox hgl ht hs ha
 generalize c.toNat = x at *
 go_enter Tryz.func160, Tryz.ntmps160
 go_wp2_with fail
 refine HTK.out.mono ?_
 rintro e w1 ⟨rv1, rfl, hs1⟩
 have hg1 := (HG.out.below HBA.out).sr hs1.chg hsb
 have hx1 : w1.heap[w.heap.size]? = some (.cells #[.string ⟨#[]⟩, .string ⟨#[]⟩] 130 (0, 0)) := by rw [hs1.chg.block _ (lt_of_block HBX.out) (by omega)]; exact HBX.out
 have hs1' : SrTo w w1 sb rv rv1 r := SrTo.before HBA.out hs1
 obtain ⟨g0, g1⟩ := hg1.num
 have HG1 := hide hg1
 have HX1 := hide hx1
 have HS1 := hide hs1'
 clear hs1 hs1' hg1 hx1
 go_wp2_with fail
 refine (HF7.out _).mono ?_
 rintro e w2 ⟨rfl, hb⟩
 have hg := HG1.out.below hb
 have hx : w2.heap[w.heap.size]? = some (.cells #[.string ⟨#[]⟩, .string ⟨#[]⟩] 130 (0, 0)) := by rw [hb.block _ (lt_of_block HX1.out)]; exact HX1.out
 have hs := HS1.out.below hb
 clear g0 g1
 obtain ⟨g0, g1⟩ := hg.add
 have HG2 := hide hg
 have HX2 := hide hx
 have HS2 := hide hs
 clear hb hg hx hs
 go_wp2_with fail
 refine (HF6.out _).mono ?_
 rintro e w3 ⟨rfl, hb⟩
 have hg := HG2.out.below hb
 have hx : w3.heap[w.heap.size]? = some (.cells #[.string ⟨#[]⟩, .string ⟨#[]⟩] 130 (0, 0)) := by rw [hb.block _ (lt_of_block HX2.out)]; exact HX2.out
 have hs := HS2.out.below hb
 clear g0 g1
 obtain ⟨g0, g1⟩ := hg.add
 have HG3 := hide hg
 have HX3 := hide hx
 have HS3 := hide hs
 clear hb hg hx hs
 go_wp2_with fail
 refine (HCN.out rv1 _ HS3.out.st).mono ?_
 rintro e wa ⟨rva, hn9, rfl, hsa⟩
 obtain ⟨hga, hua, hxa⟩ := num_afterZ (w3 := wa) HG3.out HX3.out HS3.out ⟨hsa.st, hsa.chg.drop_drew, hsa.own⟩ hsb hsl HT.out HA.out
 have hta := HTX.out rva wa hga hua.st hua.sr hn9
 have HTT := hide hta
 have HCA := hide (HS3.out.trans hsa).chg
 clear hsa hga hua hxa hta g0 g1
 go_wp2_with fail
 refine HTT.out.mono ?_
 rintro e w9 ⟨he, hc9⟩
 rw [he]
 exact ⟨rfl, rfl, HCA.out.trans (hc9.mono fun _ _ e => Or.inr e)⟩
set_option maxRecDepth 100000 in
set_option maxHeartbeats 800000 in
theorem takePair_nocount_notZ (ub : Nat) (cs : Array Value) (tP : TypeId) (lim : Nat) (tv : Value) (tab : List HP) (sb : Nat) (rv : Value) (c : UInt8) (r : List UInt8) (w : World) (hgl : Gl w) (ht : TbSZ w ub cs tP lim tv tab) (hs : SrS w sb rv (c :: r)) (ha : Apart ub sb tv rv) (hl : (c :: r).length ≤ 134217728) (hsb : 7 ≤ sb)
  (hc : c.toNat < 16) (hcnt : rdCnt 4 c r = none) :
  Calls Tryz.prog 160 #[.pointer (some ⟨ub, 35, none⟩), .pointer (some ⟨sb, 0, none⟩)] w fun e w' => Gone e ∧ Chg (fun j => j = sb) w w' := by
 have hc8 : c.toNat ≤ 255 := Nat.le_of_lt_succ c.toNat_lt
 have hbA : Below w.heap.size w (w.alloc (.cells #[.string ⟨#[]⟩, .string ⟨#[]⟩] 130)) := (Below.refl _ _).alloc (Nat.le_refl _) _
 have hbox := heap_alloc_new w (.cells #[.string ⟨#[]⟩, .string ⟨#[]⟩] 130)
 have htk := stake_ok sb rv c r _ (hs.below hbA) (by omega)
 have hsl := lt_of_block hs.blk
 simp only [List.length_cons] at hl
 have HF7 : Hid (∀ wx, Calls Tryz.prog 180 #[fm 128 7, .int .u8 c.toNat] wx fun e w' => e = .returned (.bool false) ∧ Below wx.heap.size wx w') := fun wx => by
  have := fbegins_any 128 7 c wx (by decide)
  rwa [show decide (c.toNat / 2 ^ 7 = 128 / 2 ^ 7) = false from by simp; omega] at this
 have HF6 : Hid (∀ wx, Calls Tryz.prog 180 #[fm 64 6, .int .u8 c.toNat] wx fun e w' => e = .returned (.bool false) ∧ Below wx.heap.size wx w') := fun wx => by
  have := fbegins_any 64 6 c wx (by decide)
  rwa [show decide (c.toNat / 2 ^ 6 = 64 / 2 ^ 6) = false from by simp; omega] at this
 have HF4 : Hid (∀ wx, Calls Tryz.prog 180 #[fm 0 4, .int .u8 c.toNat] wx fun e w' => e = .returned (.bool true) ∧ Below wx.heap.size wx w') := fun wx => by
  have := fbegins_any 0 4 c wx (by decide)
  rwa [show decide (c.toNat / 2 ^ 4 = 0 / 2 ^ 4) = true from by simp; omega] at this
 have HCN : Hid (∀ rv' wx, SrS wx sb rv' r → Calls Tryz.prog 181 #[.pointer (some ⟨sb, 0, none⟩), .int .u8 c.toNat, fm 0 4] wx fun e w' => Gone e ∧ Chg (fun j => j = sb) wx w') := fun rv' wx hh => by
  refine (takeCount_any sb rv' r c 0 4 wx hh (by decide) (by omega)).mono ?_
  rintro e w' (⟨N, r', rv'', e1, _⟩ | ⟨e1, e2, e3⟩)
  ·rw [hcnt] at e1; cases e1
  ·exact ⟨e2, e3⟩
 clear hcnt
 have HTK := hide htk
 have HBA := hide hbA
 have HBX := hide hbox
 have HG := hide hgl
 have HT := hide ht
 have HA := hide ha
 clear htk hbA hbox hgl ht hs ha
 generalize c.toNat = x at *
 go_enter Tryz.func160, Tryz.ntmps160
 go_wp2_with fail
 refine HTK.out.mono ?_
 rintro e w1 ⟨rv1, rfl, hs1⟩
 have hg1 := (HG.out.below HBA.out).sr hs1.chg hsb
 have hx1 : w1.heap[w.heap.size]? = some (.cells #[.string ⟨#[]⟩, .string ⟨#[]⟩] 130 (0, 0)) := by rw [hs1.chg.block _ (lt_of_block HBX.out) (by omega)]; exact HBX.out
 have hs1' : SrTo w w1 sb rv rv1 r := SrTo.before HBA.out hs1
 obtain ⟨g0, g1⟩ := hg1.num
 have HG1 := hide hg1
 have HX1 := hide hx1
 have HS1 := hide hs1'
 clear hs1 hs1' hg1 hx1
 go_wp2_with fail
 refine (HF7.out _).mono ?_
 rintro e w2 ⟨rfl, hb⟩
 have hg := HG1.out.below hb
 have hx : w2.heap[w.heap.size]? = some (.cells #[.string ⟨#[]⟩, .string ⟨#[]⟩] 130 (0, 0)) := by rw [hb.block _ (lt_of_block HX1.out)]; exact HX1.out
 have hs := HS1.out.below hb
 clear g0 g1
 obtain ⟨g0, g1⟩ := hg.add
 have HG2 := hide hg
 have HX2 := hide hx
 have HS2 := hide hs
 clear hb hg hx hs
 go_wp2_with fail
 refine (HF6.out _).mono ?_
 rintro e w3 ⟨rfl, hb⟩
 have hg := HG2.out.below hb
 have hx : w3.heap[w.heap.size]? = some (.cells #[.string ⟨#[]⟩, .string ⟨#[]⟩] 130 (0, 0)) := by rw [hb.block _ (lt_of_block HX2.out)]; exact HX2.out
 have hs := HS2.out.below hb
 clear g0 g1
 obtain ⟨g0, g1⟩ := hg.nta
 have HG3 := hide hg
 have HX3 := hide hx
 have HS3 := hide hs
 clear hb hg hx hs
 go_wp2_with fail
 refine (HF4.out _).mono ?_
 rintro e w4 ⟨rfl, hb⟩
 have hg := HG3.out.below hb
 have hx : w4.heap[w.heap.size]? = some (.cells #[.string ⟨#[]⟩, .string ⟨#[]⟩] 130 (0, 0)) := by rw [hb.block _ (lt_of_block HX3.out)]; exact HX3.out
 have hs := HS3.out.below hb
 clear g0 g1
 obtain ⟨g0, g1⟩ := hg.nta
 have HG4 := hide hg
 have HX4 := hide hx
 have HS4 := hide hs
 clear hb hg hx hs
 go_wp2_with fail
 refine (HCN.out rv1 _ HS4.out.st).mono ?_
 rintro e w9 ⟨he, hc9⟩
 rw [he]
 exact ⟨rfl, rfl, HS4.out.chg.trans (hc9.mono fun _ _ e => Or.inr e)⟩
set_option maxRecDepth 100000 in
set_option maxHeartbeats 800000 in
theorem takePair_notexts_notZ (ub : Nat) (cs : Array Value) (tP : TypeId) (lim : Nat) (tv : Value) (tab : List HP) (sb : Nat) (rv : Value) (c : UInt8) (r : List UInt8) (w : World) (hgl : Gl w) (ht : TbSZ w ub cs tP lim tv tab) (hs : SrS w sb rv (c :: r)) (ha : Apart ub sb tv rv) (hl : (c :: r).length ≤ 134217728) (hsb : 7 ≤ sb)
  (n : Nat) (s : List UInt8) (hc : c.toNat < 16) (hcnt : rdCnt 4 c r = some (n, s)) (hx : rdTxs tab n s = none) :
  Calls Tryz.prog 160 #[.pointer (some ⟨ub, 35, none⟩), .pointer (some ⟨sb, 0, none⟩)] w fun e w' => Gone e ∧ Chg (fun j => j = sb) w w' := by
 have hc8 : c.toNat ≤ 255 := Nat.le_of_lt_succ c.toNat_lt
 have hbA : Below w.heap.size w (w.alloc (.cells #[.string ⟨#[]⟩, .string ⟨#[]⟩] 130)) := (Below.refl _ _).alloc (Nat.le_refl _) _
 have hbox := heap_alloc_new w (.cells #[.string ⟨#[]⟩, .string ⟨#[]⟩] 130)
 have htk := stake_ok sb rv c r _ (hs.below hbA) (by omega)
 have hsl := lt_of_block hs.blk
 simp only [List.length_cons] at hl
 have HF7 : Hid (∀ wx, Calls Tryz.prog 180 #[fm 128 7, .int .u8 c.toNat] wx fun e w' => e = .returned (.bool false) ∧ Below wx.heap.size wx w') := fun wx => by
  have := fbegins_any 128 7 c wx (by decide)
  rwa [show decide (c.toNat / 2 ^ 7 = 128 / 2 ^ 7) = false from by simp; omega] at this
 have HF6 : Hid (∀ wx, Calls Tryz.prog 180 #[fm 64 6, .int .u8 c.toNat] wx fun e w' => e = .returned (.bool false) ∧ Below wx.heap.size wx w') := fun wx => by
  have := fbegins_any 64 6 c wx (by decide)
  rwa [show decide (c.toNat / 2 ^ 6 = 64 / 2 ^ 6) = false from by simp; omega] at this
 have HF4 : Hid (∀ wx, Calls Tryz.prog 180 #[fm 0 4, .int .u8 c.toNat] wx fun e w' => e = .returned (.bool true) ∧ Below wx.heap.size wx w') := fun wx => by
  have := fbegins_any 0 4 c wx (by decide)
  rwa [show decide (c.toNat / 2 ^ 4 = 0 / 2 ^ 4) = true from by simp; omega] at this
 have hsq := rdCnt_len hcnt
 have HCN : Hid (∀ rv' wx, SrS wx sb rv' r → Calls Tryz.prog 181 #[.pointer (some ⟨sb, 0, none⟩), .int .u8 c.toNat, fm 0 4] wx fun e w' => ∃ rv'', n ≤ 8388608 ∧ e = .returned (.int .i64 (n : Int)) ∧ SrTo wx w' sb rv' rv'' s) := fun rv' wx hh => by
  refine (takeCount_any sb rv' r c 0 4 wx hh (by decide) (by omega)).mono ?_
  rintro e w' (⟨N, r', rv'', e1, e0, e2, e3⟩ | ⟨e1, _⟩)
  ·rw [hcnt] at e1
   simp only [Option.some.injEq, Prod.mk.injEq] at e1
   rw [e1.1, e1.2]
   exact ⟨rv'', e0, e2, e3⟩
  ·rw [hcnt] at e1; cases e1
 clear hcnt
 have HTX : Hid (∀ rv' wx, Gl wx → TbSZ wx ub cs tP lim tv tab → SrS wx sb rv' s → n ≤ 8388608 → Calls Tryz.prog 184 #[.pointer (some ⟨ub, 35, none⟩), .pointer (some ⟨sb, 0, none⟩), .int .i64 n] wx fun e w' => Gone e ∧ Chg (fun j => j = sb) wx w') := fun rv' wx hg hh1 hh hn9 => by
  refine (takeTexts_anyZ ub cs tP lim tv tab sb rv' s n wx hg hh1 hh (by omega) hsb (by omega)).mono ?_
  rintro e w' (⟨h', r', rv'', e1, e2, e3⟩ | ⟨e1, e2, e3⟩)
  ·rw [hx] at e1; cases e1
  ·exact ⟨e2, e3⟩
 clear hx
 have HTK := hide htk
 have HBA := hide hbA
 have HBX := hide hbox
 have HG := hide hgl
 have HT := hide ht
 have HA := hide ha
 clear htk hbA hbox hgl ht hs ha
 generalize c.toNat = x at *
 go_enter Tryz.func160, Tryz.ntmps160
 go_wp2_with fail
 refine HTK.out.mono ?_
 rintro e w1 ⟨rv1, rfl, hs1⟩
 have hg1 := (HG.out.below HBA.out).sr hs1.chg hsb
 have hx1 : w1.heap[w.heap.size]? = some (.cells #[.string ⟨#[]⟩, .string ⟨#[]⟩] 130 (0, 0)) := by rw [hs1.chg.block _ (lt_of_block HBX.out) (by omega)]; exact HBX.out
 have hs1' : SrTo w w1 sb rv rv1 r := SrTo.before HBA.out hs1
 obtain ⟨g0, g1⟩ := hg1.num
 have HG1 := hide hg1
 have HX1 := hide hx1
 have HS1 := hide hs1'
 clear hs1 hs1' hg1 hx1
 go_wp2_with fail
 refine (HF7.out _).mono ?_
 rintro e w2 ⟨rfl, hb⟩
 have hg := HG1.out.below hb
 have hx : w2.heap[w.heap.size]? = some (.cells #[.string ⟨#[]⟩, .string ⟨#[]⟩] 130 (0, 0)) := by rw [hb.block _ (lt_of_block HX1.out)]; exact HX1.out
 have hs := HS1.out.below hb
 clear g0 g1
 obtain ⟨g0, g1⟩ := hg.add
 have HG2 := hide hg
 have HX2 := hide hx
 have HS2 := hide hs
 clear hb hg hx hs
 go_wp2_with fail
 refine (HF6.out _).mono ?_
 rintro e w3 ⟨rfl, hb⟩
 have hg := HG2.out.below hb
 have hx : w3.heap[w.heap.size]? = some (.cells #[.string ⟨#[]⟩, .string ⟨#[]⟩] 130 (0, 0)) := by rw [hb.block _ (lt_of_block HX2.out)]; exact HX2.out
 have hs := HS2.out.below hb
 clear g0 g1
 obtain ⟨g0, g1⟩ := hg.nta
 have HG3 := hide hg
 have HX3 := hide hx
 have HS3 := hide hs
 clear hb hg hx hs
 go_wp2_with fail
 refine (HF4.out _).mono ?_
 rintro e w4 ⟨rfl, hb⟩
 have hg := HG3.out.below hb
 have hx : w4.heap[w.heap.size]? = some (.cells #[.string ⟨#[]⟩, .string ⟨#[]⟩] 130 (0, 0)) := by rw [hb.block _ (lt_of_block HX3.out)]; exact HX3.out
 have hs := HS3.out.below hb
 clear g0 g1
 obtain ⟨g0, g1⟩ := hg.nta
 have HG4 := hide hg
 have HX4 := hide hx
 have HS4 := hide hs
 clear hb hg hx hs
 go_wp2_with fail
 refine (HCN.out rv1 _ HS4.out.st).mono ?_
 rintro e wa ⟨rva, hn9, rfl, hsa⟩
 obtain ⟨hga, hua, hxa⟩ := num_afterZ (w3 := wa) HG4.out HX4.out HS4.out ⟨hsa.st, hsa.chg.drop_drew, hsa.own⟩ hsb hsl HT.out HA.out
 have hta := HTX.out rva wa hga hua.st hua.sr hn9
 have HTT := hide hta
 have HCA := hide (HS4.out.trans hsa).chg
 clear hsa hga hua hxa hta g0 g1
 go_wp2_with fail
 refine HTT.out.mono ?_
 rintro e w9 ⟨he, hc9⟩
 rw [he]
 exact ⟨rfl, rfl, HCA.out.trans (hc9.mono fun _ _ e => Or.inr e)⟩
set_option maxRecDepth 100000 in
set_option maxHeartbeats 800000 in
theorem takePair_nobeginZ (ub : Nat) (cs : Array Value) (tP : TypeId) (lim : Nat) (tv : Value) (tab : List HP) (sb : Nat) (rv : Value) (c : UInt8) (r : List UInt8) (w : World) (hgl : Gl w) (ht : TbSZ w ub cs tP lim tv tab) (hs : SrS w sb rv (c :: r)) (ha : Apart ub sb tv rv) (hl : (c :: r).length ≤ 134217728) (hsb : 7 ≤ sb)
  (hc : 16 ≤ c.toNat) (hc2 : c.toNat < 64) :
  Calls Tryz.prog 160 #[.pointer (some ⟨ub, 35, none⟩), .pointer (some ⟨sb, 0, none⟩)] w fun e w' => Gone e ∧ Chg (fun j => j = sb) w w' := by
 have hc8 : c.toNat ≤ 255 := Nat.le_of_lt_succ c.toNat_lt
 have hbA : Below w.heap.size w (w.alloc (.cells #[.string ⟨#[]⟩, .string ⟨#[]⟩] 130)) := (Below.refl _ _).alloc (Nat.le_refl _) _
 have hbox := heap_alloc_new w (.cells #[.string ⟨#[]⟩, .string ⟨#[]⟩] 130)
 have htk := stake_ok sb rv c r _ (hs.below hbA) (by omega)
 have hsl := lt_of_block hs.blk
 simp only [List.length_cons] at hl
 have HF7 : Hid (∀ wx, Calls Tryz.prog 180 #[fm 128 7, .int .u8 c.toNat] wx fun e w' => e = .returned (.bool false) ∧ Below wx.heap.size wx w') := fun wx => by
  have := fbegins_any 128 7 c wx (by decide)
  rwa [show decide (c.toNat / 2 ^ 7 = 128 / 2 ^ 7) = false from by simp; omega] at this
 have HF6 : Hid (∀ wx, Calls Tryz.prog 180 #[fm 64 6, .int .u8 c.toNat] wx fun e w' => e = .returned (.bool false) ∧ Below wx.heap.size wx w') := fun wx => by
  have := fbegins_any 64 6 c wx (by decide)
  rwa [show decide (c.toNat / 2 ^ 6 = 64 / 2 ^ 6) = false from by simp; omega] at this
 have HF4 : Hid (∀ wx, Calls Tryz.prog 180 #[fm 0 4, .int .u8 c.toNat] wx fun e w' => e = .returned (.bool false) ∧ Below wx.heap.size wx w') := fun wx => by
  have := fbegins_any 0 4 c wx (by decide)
  rwa [show decide (c.toNat / 2 ^ 4 = 0 / 2 ^ 4) = false from by simp; omega] at this
 have HTK := hide htk
 have HBA := hide hbA
 have HBX := hide hbox
 have HG := hide hgl
 have HT := hide ht
 have HA := hide ha
 clear htk hbA hbox hgl ht hs ha
 generalize c.toNat = x at *
 go_enter Tryz.func160, Tryz.ntmps160
 go_wp2_with fail
 refine HTK.out.mono ?_
 rintro e w1 ⟨rv1, rfl, hs1⟩
 have hg1 := (HG.out.below HBA.out).sr hs1.chg hsb
 have hx1 : w1.heap[w.heap.size]? = some (.cells #[.string ⟨#[]⟩, .string ⟨#[]⟩] 130 (0, 0)) := by rw [hs1.chg.block _ (lt_of_block HBX.out) (by omega)]; exact HBX.out
 have hs1' : SrTo w w1 sb rv rv1 r := SrTo.before HBA.out hs1
 obtain ⟨g0, g1⟩ := hg1.num
 have HG1 := hide hg1
 have HX1 := hide hx1
 have HS1 := hide hs1'
 clear hs1 hs1' hg1 hx1
 go_wp2_with fail
 refine (HF7.out _).mono ?_
 rintro e w2 ⟨rfl, hb⟩
 have hg := HG1.out.below hb
 have hx : w2.heap[w.heap.size]? = some (.cells #[.string ⟨#[]⟩, .string ⟨#[]⟩] 130 (0, 0)) := by rw [hb.block _ (lt_of_block HX1.out)]; exact HX1.out
 have hs := HS1.out.below hb
 clear g0 g1
 obtain ⟨g0, g1⟩ := hg.add
 have HG2 := hide hg
 have HX2 := hide hx
 have HS2 := hide hs
 clear hb hg hx hs
 go_wp2_with fail
 refine (HF6.out _).mono ?_
 rintro e w3 ⟨rfl, hb⟩
 have hg := HG2.out.below hb
 have hx : w3.heap[w.heap.size]? = some (.cells #[.string ⟨#[]⟩, .string ⟨#[]⟩] 130 (0, 0)) := by rw [hb.block _ (lt_of_block HX2.out)]; exact HX2.out
 have hs := HS2.out.below hb
 clear g0 g1
 obtain ⟨g0, g1⟩ := hg.nta
 have HG3 := hide hg
 have HX3 := hide hx
 have HS3 := hide hs
 clear hb hg hx hs
 go_wp2_with fail
 refine (HF4.out _).mono ?_
 rintro e w4 ⟨rfl, hb⟩
 have hg := HG3.out.below hb
 have hx : w4.heap[w.heap.size]? = some (.cells #[.string ⟨#[]⟩, .string ⟨#[]⟩] 130 (0, 0)) := by rw [hb.block _ (lt_of_block HX3.out)]; exact HX3.out
 have hs := HS3.out.below hb
 clear g0 g1
 obtain ⟨g0, g1⟩ := hg.nta
 have HG4 := hide hg
 have HX4 := hide hx
 have HS4 := hide hs
 clear hb hg hx hs
 go_wp2
 exact ⟨rfl, rfl, HS4.out.chg⟩
set_option maxRecDepth 100000 in
set_option maxHeartbeats 800000 in
theorem takePair_nopairZ (ub : Nat) (cs : Array Value) (tP : TypeId) (lim : Nat) (tv : Value) (tab : List HP) (sb : Nat) (rv : Value) (c : UInt8) (r : List UInt8) (w : World) (hgl : Gl w) (ht : TbSZ w ub cs tP lim tv tab) (hs : SrS w sb rv (c :: r)) (ha : Apart ub sb tv rv) (hl : (c :: r).length ≤ 134217728) (hsb : 7 ≤ sb)
  (n : Nat) (s : List UInt8) (hc : 128 ≤ c.toNat) (hcnt : rdCnt 7 c r = some (n, s)) (hx : n = 0 ∨ 8 + tab.length < n) :
  Calls Tryz.prog 160 #[.pointer (some ⟨ub, 35, none⟩), .pointer (some ⟨sb, 0, none⟩)] w fun e w' => Gone e ∧ Chg (fun j => j = sb) w w' := by
 have hc8 : c.toNat ≤ 255 := Nat.le_of_lt_succ c.toNat_lt
 have hbA : Below w.heap.size w (w.alloc (.cells #[.string ⟨#[]⟩, .string ⟨#[]⟩] 130)) := (Below.refl _ _).alloc (Nat.le_refl _) _
 have hbox := heap_alloc_new w (.cells #[.string ⟨#[]⟩, .string ⟨#[]⟩] 130)
 have htk := stake_ok sb rv c r _ (hs.below hbA) (by omega)
 have hsl := lt_of_block hs.blk
 simp only [List.length_cons] at hl
 have HF7 : Hid (∀ wx, Calls Tryz.prog 180 #[fm 128 7, .int .u8 c.toNat] wx fun e w' => e = .returned (.bool true) ∧ Below wx.heap.size wx w') := fun wx => by
  have := fbegins_any 128 7 c wx (by decide)
  rwa [show decide (c.toNat / 2 ^ 7 = 128 / 2 ^ 7) = true from by simp; omega] at this
 have hsq := rdCnt_len hcnt
 have HCN : Hid (∀ rv' wx, SrS wx sb rv' r → Calls Tryz.prog 181 #[.pointer (some ⟨sb, 0, none⟩), .int .u8 c.toNat, fm 128 7] wx fun e w' => ∃ rv'', n ≤ 8388608 ∧ e = .returned (.int .i64 (n : Int)) ∧ SrTo wx w' sb rv' rv'' s) := fun rv' wx hh => by
  refine (takeCount_any sb rv' r c 128 7 wx hh (by decide) (by omega)).mono ?_
  rintro e w' (⟨N, r', rv'', e1, e0, e2, e3⟩ | ⟨e1, _⟩)
  ·rw [hcnt] at e1
   simp only [Option.some.injEq, Prod.mk.injEq] at e1
   rw [e1.1, e1.2]
   exact ⟨rv'', e0, e2, e3⟩
  ·rw [hcnt] at e1; cases e1
 clear hcnt
 have HPB : Hid (∀ wx, TbSZ wx ub cs tP lim tv tab → n ≤ 8388608 → Calls Tryz.prog 183 #[.pointer (some ⟨ub, 35, none⟩), .int .i64 n] wx fun e w' => Gone e ∧ Below wx.heap.size wx w') := fun wx hh hn9 => pair_badZ ub cs tP lim tv tab n wx hh (by omega) hx
 clear hx
 have HTK := hide htk
 have HBA := hide hbA
 have HBX := hide hbox
 have HG := hide hgl
 have HT := hide ht
 have HA := hide ha
 clear htk hbA hbox hgl ht hs ha
 generalize c.toNat = x at *
 go_enter Tryz.func160, Tryz.ntmps160
 go_wp2_with fail
 refine HTK.out.mono ?_
 rintro e w1 ⟨rv1, rfl, hs1⟩
 have hg1 := (HG.out.below HBA.out).sr hs1.chg hsb
 have hx1 : w1.heap[w.heap.size]? = some (.cells #[.string ⟨#[]⟩, .string ⟨#[]⟩] 130 (0, 0)) := by rw [hs1.chg.block _ (lt_of_block HBX.out) (by omega)]; exact HBX.out
 have hs1' : SrTo w w1 sb rv rv1 r := SrTo.before HBA.out hs1
 obtain ⟨g0, g1⟩ := hg1.num
 have HG1 := hide hg1
 have HX1 := hide hx1
 have HS1 := hide hs1'
 clear hs1 hs1' hg1 hx1
 go_wp2_with fail
 refine (HF7.out _).mono ?_
 rintro e w2 ⟨rfl, hb⟩
 have hg := HG1.out.below hb
 have hx : w2.heap[w.heap.size]? = some (.cells #[.string ⟨#[]⟩, .string ⟨#[]⟩] 130 (0, 0)) := by rw [hb.block _ (lt_of_block HX1.out)]; exact HX1.out
 have hs := HS1.out.below hb
 clear g0 g1
 obtain ⟨g0, g1⟩ := hg.num
 have HG2 := hide hg
 have HX2 := hide hx
 have HS2 := hide hs
 clear hb hg hx hs
 have hsd : SrS w2.drew sb rv1 r := HS2.out.st.chg ((Chg.refl (fun _ => False) _).drew) id (fun _ _ => id)
 have hcn := HCN.out rv1 w2.drew hsd
 have HCD := hide hcn
 clear hsd hcn
 go_wp2
 go_region_law (first
  | (refine step_call rfl 181 Tryz.f181 Tryz.func181 (by kernel_rfl) rfl [.tmp 16, .tmp 17, .tmp 18] #[236, 5, 234] rfl [.pointer (some ⟨sb, 0, none⟩), .int .u8 (x : Int), fm 128 7] (by simp [Act.eval, Act.put, fm]) HCD.out ?_; rintro e w3 ⟨rv3, hn9, rfl, hs3⟩; refine ⟨_, rfl, ?_⟩; have HW3 := hide (num_afterZ HG2.out HX2.out HS2.out hs3 hsb hsl HT.out HA.out); have HC3 := hide (HS2.out.chg.trans (Chg.mono (S := fun j => j = sb) ⟨hs3.chg.os, hs3.chg.tape, hs3.chg.output, hs3.chg.size, hs3.chg.block⟩ fun _ _ e => Or.inr e)); clear hs3)
  | (refine step_gone rfl 183 Tryz.f183 Tryz.func183 (by kernel_rfl) rfl [.tmp 15, .tmp 19] #[90, 3] rfl [.pointer (some ⟨ub, 35, none⟩), .int .i64 (n : Int)] (by simp [Act.eval, Act.put]) (HPB.out w3 HW3.out.2.1.st hn9) (fun e w4 he => ⟨_, he.1, rfl, rfl, HC3.out.then_below he.2⟩) (.agg #[.string ⟨#[]⟩, .string ⟨#[]⟩]) ?_; intro hf; have HF : Hid False := hf; clear hf; have k0 : w3.cell? ⟨w.heap.size, 0, none⟩ = some (.string ⟨#[]⟩) := HF.out.elim; have k1 : w3.cell? ⟨w.heap.size, 1, none⟩ = some (.string ⟨#[]⟩) := HF.out.elim; have k2 : w3.frozen? ⟨w.heap.size, 0, none⟩ = false := HF.out.elim; have k3 : w3.frozen? ⟨w.heap.size, 1, none⟩ = false := HF.out.elim))
 all_goals exact HF.out.elim
set_option maxRecDepth 100000 in
set_option maxHeartbeats 400000 in
theorem takePair_emptyZ (ub sb : Nat) (rv : Value) (w : World) (hs : SrS w sb rv []) :
  Calls Tryz.prog 160 #[.pointer (some ⟨ub, 35, none⟩), .pointer (some ⟨sb, 0, none⟩)] w fun e w' => Gone e ∧ Chg (fun j => j = sb) w w' := by
 have hbA : Below w.heap.size w (w.alloc (.cells #[.string ⟨#[]⟩, .string ⟨#[]⟩] 130)) := (Below.refl _ _).alloc (Nat.le_refl _) _
 have HTK := hide (stake_bad sb rv _ (hs.below hbA))
 have HBA := hide hbA
 clear hs hbA
 go_enter Tryz.func160, Tryz.ntmps160
 go_wp2_with fail
 refine HTK.out.mono ?_
 rintro e w1 ⟨rfl, rfl⟩
 exact ⟨rfl, rfl, Chg.of_below HBA.out⟩
theorem takePair_badZ (ub : Nat) (cs : Array Value) (tP : TypeId) (lim : Nat) (tv : Value) (tab : List HP) (sb : Nat) (rv : Value) (l : List UInt8) (w : World) (hgl : Gl w) (ht : TbSZ w ub cs tP lim tv tab) (hs : SrS w sb rv l) (ha : Apart ub sb tv rv) (hl : l.length ≤ 134217728) (hsb : 7 ≤ sb) (hq : rdPair tab lim l = none) :
  Calls Tryz.prog 160 #[.pointer (some ⟨ub, 35, none⟩), .pointer (some ⟨sb, 0, none⟩)] w fun e w' => Gone e ∧ Chg (fun j => j = sb) w w' := by
 cases l with
 | nil => exact takePair_emptyZ ub sb rv w hs
 | cons c r =>
  simp only [rdPair] at hq
  split at hq
  ·rename_i h1
   cases hc : rdCnt 7 c r with
   | none => exact takePair_nocountZ ub cs tP lim tv tab sb rv c r w hgl ht hs hl hsb h1 hc
   | some nq =>
    obtain ⟨n, s⟩ := nq
    rw [hc] at hq
    simp only at hq
    refine takePair_nopairZ ub cs tP lim tv tab sb rv c r w hgl ht hs ha hl hsb n s h1 hc ?_
    split at hq
    ·rename_i h0; exact Or.inl h0
    ·cases hx : (numd tab)[n - 1]? with
     | none =>
      have := List.getElem?_eq_none_iff.1 hx
      rw [numd_length] at this
      right; omega
     | some x => rw [hx] at hq; cases hq
  ·rename_i h1
   split at hq
   ·rename_i h2
    cases hc : rdCnt 6 c r with
    | none => exact takePair_nocount_addZ ub cs tP lim tv tab sb rv c r w hgl ht hs ha hl hsb h2 (by omega) hc
    | some nq =>
     obtain ⟨n, s⟩ := nq
     rw [hc] at hq
     simp only at hq
     cases hx : rdTxs tab n s with
     | none => exact takePair_notexts_addZ ub cs tP lim tv tab sb rv c r w hgl ht hs ha hl hsb n s h2 (by omega) hc hx
     | some x => rw [hx] at hq; cases hq
   ·rename_i h2
    split at hq
    ·rename_i h3
     cases hc : rdCnt 4 c r with
     | none => exact takePair_nocount_notZ ub cs tP lim tv tab sb rv c r w hgl ht hs ha hl hsb h3 hc
     | some nq =>
      obtain ⟨n, s⟩ := nq
      rw [hc] at hq
      simp only at hq
      cases hx : rdTxs tab n s with
      | none => exact takePair_notexts_notZ ub cs tP lim tv tab sb rv c r w hgl ht hs ha hl hsb n s h3 hc hx
      | some x => rw [hx] at hq; cases hq
    ·rename_i h3
     exact takePair_nobeginZ ub cs tP lim tv tab sb rv c r w hgl ht hs ha hl hsb (by omega) (by omega)
end
section
set_option maxRecDepth 100000 in
set_option maxHeartbeats 800000 in
theorem takeLimit_okZ (ub : Nat) (cs : Array Value) (tP : TypeId) (lim : Nat) (tv : Value) (tab : List HP) (most : Nat) (sb : Nat) (rv : Value) (c : UInt8) (r : List UInt8) (n : Nat) (q : List UInt8) (w : World) (hgl : Gl w) (ht : TbSZ w ub cs tP lim tv tab) (hm : cs[38]? = some (.int .i64 (most : Int))) (hs : SrS w sb rv (c :: r)) (ha : Apart ub sb tv rv) (hl : (c :: r).length ≤ 134217728) (hsb : 7 ≤ sb)
  (hcnt : rdCnt 5 c r = some (n, q)) (hn : n ≤ most) (hmo : most ≤ 256) :
  Calls Tryz.prog 158 #[.pointer (some ⟨ub, 35, none⟩), .pointer (some ⟨sb, 0, none⟩)] w fun e w' => e = .returned (.tuple #[]) ∧ ∃ cs' tv' rv', UnToZ w w' ub cs cs' tP n tv tv' (shr tab n) sb rv rv' q := by
 simp only [List.length_cons] at hl
 have htk := stake_ok sb rv c r _ hs.drew (by simp only [List.length_cons]; omega)
 have HCN : Hid (∀ rv' wx, SrS wx sb rv' r → Calls Tryz.prog 181 #[.pointer (some ⟨sb, 0, none⟩), .int .u8 c.toNat, fm 32 5] wx fun e w' => ∃ rv'', e = .returned (.int .i64 (n : Int)) ∧ SrTo wx w' sb rv' rv'' q) := fun rv' wx hh => by
  refine (takeCount_any sb rv' r c 32 5 wx hh (by decide) (by omega)).mono ?_
  rintro e w' (⟨N, r', rv'', e1, _, e2, e3⟩ | ⟨e1, _⟩)
  ·rw [hcnt] at e1
   simp only [Option.some.injEq, Prod.mk.injEq] at e1
   rw [e1.1, e1.2]
   exact ⟨rv'', e2, e3⟩
  ·rw [hcnt] at e1; cases e1
 have HRS := hide (fun wx hh => tresize_anyZ ub cs tP lim tv tab n wx hh (by omega))
 obtain ⟨g0, g1⟩ := hgl.lim
 have HTK := hide htk
 have HG := hide hgl
 have HT := hide ht
 have HA := hide ha
 have HM := hide hm
 have hd : decide ((most : Int) < (n : Int)) = false := by simp; omega
 clear htk hgl ht hs ha hcnt hm
 have hc8 : c.toNat ≤ 255 := Nat.le_of_lt_succ c.toNat_lt
 generalize c.toNat = x at *
 go_enter Tryz.func158, Tryz.ntmps158
 go_wp2
 go_cut [4] (fun s4 wx => s4 = .int .i64 (n : Int) ∧ ∃ rv2, SrTo w wx sb rv rv2 q)
 case first =>
  go_region_law (first
   | (refine step_call rfl 182 Tryz.f182 Tryz.func182 (by kernel_rfl) rfl [.tmp 6] #[236] rfl [.pointer (some ⟨sb, 0, none⟩)] (by simp [Act.eval, Act.put]) HTK.out ?_; rintro e w1 ⟨rv1, rfl, hs1⟩; refine ⟨_, rfl, ?_⟩; obtain ⟨g2, g3⟩ := (HG.out.sr (w' := w1) ⟨hs1.chg.os, hs1.chg.tape, hs1.chg.output, hs1.chg.size, hs1.chg.block⟩ hsb).lim; have HS1 := hide hs1; clear hs1)
   | (refine step_call rfl 181 Tryz.f181 Tryz.func181 (by kernel_rfl) rfl [.tmp 5, .tmp 7, .tmp 8] #[236, 5, 234] rfl [.pointer (some ⟨sb, 0, none⟩), .int .u8 (x : Int), fm 32 5] (by simp [Act.eval, Act.put, fm]) (HCN.out rv1 w1 HS1.out.st) ?_; rintro e w2 ⟨rv2, rfl, hs2⟩; refine ⟨_, rfl, ?_⟩; have HS2 := hide (HS1.out.trans hs2); clear hs2))
  all_goals (go_wp2_with fail; go_meet; exact ⟨rfl, rv2, HS2.out.st, ⟨HS2.out.chg.os, HS2.out.chg.tape, HS2.out.chg.output, HS2.out.chg.size, HS2.out.chg.block⟩, HS2.out.own⟩)
 case rest =>
  obtain ⟨rfl, rv2, hs2⟩ := hcut
  have hu2 := hs2.unZ HT.out HA.out
  have c3 : wc.cell? ⟨ub, 38, none⟩ = some (.int .i64 (most : Int)) := by rw [cell_of_row _ _ _ _ _ _ hu2.st.tb.blk]; exact HM.out
  have hrs := HRS.out wc hu2.st
  have HR := hide hrs
  have HU := hide hu2
  clear hs2 hu2 hrs g0 g1
  go_wp2_with fail
  refine HR.out.mono ?_
  rintro e w3 ⟨rfl, cs3, tv3, h3⟩
  have H3 := hide (HU.out.turn h3 ⟨HA.out.us, HA.out.ts, fun e => HA.out.ru (HU.out.own _ e), fun j hj => HA.out.rt j (HU.out.own j hj)⟩)
  clear h3
  go_wp2
  exact bodyPost_end (results_none rfl _ _ _) rfl ⟨rfl, cs3, tv3, rv2, H3.out⟩
end
section
set_option maxRecDepth 100000 in
set_option maxHeartbeats 800000 in
theorem takeLimit_greatZ (ub : Nat) (cs : Array Value) (tP : TypeId) (lim : Nat) (tv : Value) (tab : List HP) (most : Nat) (sb : Nat) (rv : Value) (c : UInt8) (r : List UInt8) (n : Nat) (q : List UInt8) (w : World) (hgl : Gl w) (ht : TbSZ w ub cs tP lim tv tab) (hm : cs[38]? = some (.int .i64 (most : Int))) (hs : SrS w sb rv (c :: r)) (ha : Apart ub sb tv rv) (hl : (c :: r).length ≤ 134217728) (hsb : 7 ≤ sb)
  (hcnt : rdCnt 5 c r = some (n, q)) (hn : most < n) :
  Calls Tryz.prog 158 #[.pointer (some ⟨ub, 35, none⟩), .pointer (some ⟨sb, 0, none⟩)] w fun e w' => Gone e ∧ Chg (fun j => j = sb) w w' := by
 simp only [List.length_cons] at hl
 have htk := stake_ok sb rv c r _ hs.drew (by simp only [List.length_cons]; omega)
 have HCN : Hid (∀ rv' wx, SrS wx sb rv' r → Calls Tryz.prog 181 #[.pointer (some ⟨sb, 0, none⟩), .int .u8 c.toNat, fm 32 5] wx fun e w' => ∃ rv'', e = .returned (.int .i64 (n : Int)) ∧ SrTo wx w' sb rv' rv'' q) := fun rv' wx hh => by
  refine (takeCount_any sb rv' r c 32 5 wx hh (by decide) (by omega)).mono ?_
  rintro e w' (⟨N, r', rv'', e1, _, e2, e3⟩ | ⟨e1, _⟩)
  ·rw [hcnt] at e1
   simp only [Option.some.injEq, Prod.mk.injEq] at e1
   rw [e1.1, e1.2]
   exact ⟨rv'', e2, e3⟩
  ·rw [hcnt] at e1; cases e1
 obtain ⟨g0, g1⟩ := hgl.lim
 have HTK := hide htk
 have HG := hide hgl
 have HT := hide ht
 have HA := hide ha
 have HM := hide hm
 clear htk hgl ht hs ha hcnt hm
 have hc8 : c.toNat ≤ 255 := Nat.le_of_lt_succ c.toNat_lt
 generalize c.toNat = x at *
 go_enter Tryz.func158, Tryz.ntmps158
 go_wp2
 go_cut [4] (fun s4 wx => s4 = .int .i64 (n : Int) ∧ ∃ rv2, SrTo w wx sb rv rv2 q)
 case first =>
  go_region_law (first
   | (refine step_call rfl 182 Tryz.f182 Tryz.func182 (by kernel_rfl) rfl [.tmp 6] #[236] rfl [.pointer (some ⟨sb, 0, none⟩)] (by simp [Act.eval, Act.put]) HTK.out ?_; rintro e w1 ⟨rv1, rfl, hs1⟩; refine ⟨_, rfl, ?_⟩; obtain ⟨g2, g3⟩ := (HG.out.sr (w' := w1) ⟨hs1.chg.os, hs1.chg.tape, hs1.chg.output, hs1.chg.size, hs1.chg.block⟩ hsb).lim; have HS1 := hide hs1; clear hs1)
   | (refine step_call rfl 181 Tryz.f181 Tryz.func181 (by kernel_rfl) rfl [.tmp 5, .tmp 7, .tmp 8] #[236, 5, 234] rfl [.pointer (some ⟨sb, 0, none⟩), .int .u8 (x : Int), fm 32 5] (by simp [Act.eval, Act.put, fm]) (HCN.out rv1 w1 HS1.out.st) ?_; rintro e w2 ⟨rv2, rfl, hs2⟩; refine ⟨_, rfl, ?_⟩; have HS2 := hide (HS1.out.trans hs2); clear hs2))
  all_goals (go_wp2_with fail; go_meet; exact ⟨rfl, rv2, HS2.out.st, ⟨HS2.out.chg.os, HS2.out.chg.tape, HS2.out.chg.output, HS2.out.chg.size, HS2.out.chg.block⟩, HS2.out.own⟩)
 case rest =>
  obtain ⟨rfl, rv2, hs2⟩ := hcut
  have hu2 := hs2.unZ HT.out HA.out
  have c3 : wc.cell? ⟨ub, 38, none⟩ = some (.int .i64 (most : Int)) := by rw [cell_of_row _ _ _ _ _ _ hu2.st.tb.blk]; exact HM.out
  have HC := hide hs2.chg
  clear hs2 hu2 g0 g1
  go_wp2
  exact ⟨rfl, rfl, HC.out⟩
set_option maxRecDepth 100000 in
set_option maxHeartbeats 800000 in
theorem takeLimit_nocountZ (ub : Nat) (sb : Nat) (rv : Value) (c : UInt8) (r : List UInt8) (w : World) (hgl : Gl w) (hs : SrS w sb rv (c :: r)) (hl : (c :: r).length ≤ 134217728) (hsb : 7 ≤ sb)
  (hcnt : rdCnt 5 c r = none) :
  Calls Tryz.prog 158 #[.pointer (some ⟨ub, 35, none⟩), .pointer (some ⟨sb, 0, none⟩)] w fun e w' => Gone e ∧ Chg (fun j => j = sb) w w' := by
 simp only [List.length_cons] at hl
 have htk := stake_ok sb rv c r _ hs.drew (by simp only [List.length_cons]; omega)
 have HCN : Hid (∀ rv' wx, SrS wx sb rv' r → Calls Tryz.prog 181 #[.pointer (some ⟨sb, 0, none⟩), .int .u8 c.toNat, fm 32 5] wx fun e w' => Gone e ∧ Chg (fun j => j = sb) wx w') := fun rv' wx hh => by
  refine (takeCount_any sb rv' r c 32 5 wx hh (by decide) (by omega)).mono ?_
  rintro e w' (⟨N, r', rv'', e1, _⟩ | ⟨e1, e2, e3⟩)
  ·rw [hcnt] at e1; cases e1
  ·exact ⟨e2, e3⟩
 obtain ⟨g0, g1⟩ := hgl.lim
 have HTK := hide htk
 have HG := hide hgl
 clear htk hgl hs hcnt
 have hc8 : c.toNat ≤ 255 := Nat.le_of_lt_succ c.toNat_lt
 generalize c.toNat = x at *
 go_enter Tryz.func158, Tryz.ntmps158
 go_wp2
 go_region_law (first
  | (refine step_call rfl 182 Tryz.f182 Tryz.func182 (by kernel_rfl) rfl [.tmp 6] #[236] rfl [.pointer (some ⟨sb, 0, none⟩)] (by simp [Act.eval, Act.put]) HTK.out ?_; rintro e w1 ⟨rv1, rfl, hs1⟩; refine ⟨_, rfl, ?_⟩; obtain ⟨g2, g3⟩ := (HG.out.sr (w' := w1) ⟨hs1.chg.os, hs1.chg.tape, hs1.chg.output, hs1.chg.size, hs1.chg.block⟩ hsb).lim; have HS1 := hide hs1; clear hs1)
  | (refine step_gone rfl 181 Tryz.f181 Tryz.func181 (by kernel_rfl) rfl [.tmp 5, .tmp 7, .tmp 8] #[236, 5, 234] rfl [.pointer (some ⟨sb, 0, none⟩), .int .u8 (x : Int), fm 32 5] (by simp [Act.eval, Act.put, fm]) (HCN.out rv1 w1 HS1.out.st) (fun e w3 he => ⟨_, he.1, rfl, rfl, Chg.trans ⟨HS1.out.chg.os, HS1.out.chg.tape, HS1.out.chg.output, HS1.out.chg.size, HS1.out.chg.block⟩ (he.2.mono fun _ _ e => Or.inr e)⟩) (.int .i64 1) ?_; intro hf; have HF : Hid False := hf; clear hf))
 all_goals exact HF.out.elim
end
section
structure UnpdZ (w w' : World) (ub : Nat) (cs cs' : Array Value) (tP : TypeId) (lim : Nat) (tv tv' : Value) (tab : List HP) (lv : Value) (hs : List HP) : Prop where
 st : TbSZ w' ub cs' tP lim tv' tab
 cs3 : ∀ i, (i < 35 ∨ 38 ≤ i) → cs'[i]? = cs[i]?
 chg : Chg (TouchT ub tv) w w'
 tfresh : ∀ j, tv'.ownBlock = some j → tv.ownBlock = some j ∨ w.heap.size ≤ j
 row : w'.ownsRow w.heap.size 130 2 lv hs.length (hpCells hs)
 ap : ∀ j, lv.ownBlock = some j → tv'.ownBlock ≠ some j
theorem UnToZ.side {S : Nat → Prop} {w w1 w2 : World} {ub : Nat} {cs cs' : Array Value} {tP : TypeId} {lim : Nat} {tv tv' : Value} {tab' : List HP} {sb : Nat} {rv rv' : Value} {l' : List UInt8} (h : UnToZ w w1 ub cs cs' tP lim tv tv' tab' sb rv rv' l') (hc : Chg S w1 w2) (h1 : ∀ j, S j → w.heap.size ≤ j) (hub : ub < w.heap.size) (hsb : sb < w.heap.size) (hr : ∀ j, rv.ownBlock = some j → j < w.heap.size) (ht : ∀ j, tv'.ownBlock = some j → ¬ S j) : UnToZ w w2 ub cs cs' tP lim tv tv' tab' sb rv rv' l' :=
 ⟨h.st.chg hc (fun e => by have := h1 _ e; omega) ht, h.cs3, h.sr.chg hc (fun e => by have := h1 _ e; omega) (fun j hj e => by have := h1 _ e; have := hr j (h.own j hj); omega), h.chg.trans (hc.mono fun j _ e => Or.inl (h1 j e)), h.tfresh, h.own⟩
theorem unp_appZ {w w4 w5 : World} {ub : Nat} {cs cs4 : Array Value} {tP : TypeId} {lim : Nat} {lim0 : Nat} {tab0 : List HP} {tv tv4 : Value} {tab4 : List HP} {bv rv4 lv v5 : Value} {b q : List UInt8} {acc : List HP} {x : HP} {o : Obj} (hb : BytesIn w bv b) (ht : TbSZ w ub cs tP lim0 tv tab0) (hbA : Below w.heap.size w (w.alloc (.cells #[bv] 231)))
  (hu : UnToZ (w.alloc (.cells #[bv] 231)) w4 ub cs cs4 tP lim tv tv4 tab4 w.heap.size bv rv4 q) (how : w4.ownsRow w.heap.size 130 2 lv acc.length (hpCells acc)) (hap : ∀ j, lv.ownBlock = some j → tv4.ownBlock ≠ some j)
  (hown : w5.ownsRow 0 130 2 v5 (acc.length + 1) (hpCells acc ++ hpCells [x])) (hg : (w4.alloc o).grownBy w5 lv.ownBlock) (hf : v5.ownBlock = lv.ownBlock ∨ v5.ownBlock = some (w4.heap.size + 1)) :
  UnToZ (w.alloc (.cells #[bv] 231)) w5 ub cs cs4 tP lim tv tv4 tab4 w.heap.size bv rv4 q ∧ w5.ownsRow w.heap.size 130 2 v5 (acc ++ [x]).length (hpCells (acc ++ [x])) ∧ ∀ j, v5.ownBlock = some j → tv4.ownBlock ≠ some j := by
 have hc : Chg (fun j => lv.ownBlock = some j) w4 w5 := ((Chg.refl _ _).alloc _).trans (Chg.of_grown hg (fun j hj => Or.inr hj))
 have hsA : (w.alloc (.cells #[bv] 231)).heap.size = w.heap.size + 1 := by simp
 have hs4 := hu.chg.size
 have hub := ht.tb.lt
 refine ⟨hu.side hc (fun j hj => ?_) (by omega) (by omega) (fun j hj => by have := hb.lt hj; omega) (fun j hj e => hap j e hj), ?_, fun j hj e => ?_⟩
 ·have h1 := (how.lt j hj).1
  have h2 : j ≠ w.heap.size := fun e => owns_ne how hu.sr.blk (by decide) (e ▸ hj)
  omega
 ·rw [List.length_append, hpCells_append]
  refine owns_base hown (fun j hj => ?_)
  rcases hf with e | e
  ·rw [e] at hj; exact (how.lt j hj).1
  ·rw [e] at hj; simp at hj; omega
 ·rcases hf with a | a
  ·rw [a] at hj; exact hap j hj e
  ·rw [a] at hj
   simp at hj
   have := owns_lt hu.st.row e
   omega
set_option maxRecDepth 100000 in
set_option maxHeartbeats 800000 in
theorem bUnpack_okZ (ub : Nat) (cs : Array Value) (tP : TypeId) (lim : Nat) (tv : Value) (tab : List HP) (most : Nat) (bv : Value) (b : List UInt8) (hs : List HP) (lim' : Nat) (tab' : List HP) (w : World) (hgl : Gl w) (ht : TbSZ w ub cs tP lim tv tab) (hm : cs[38]? = some (.int .i64 (most : Int))) (hmo : most ≤ 256) (hb : BytesIn w bv b) (hbu : bv.ownBlock ≠ some ub) (hbt : ∀ j, bv.ownBlock = some j → tv.ownBlock ≠ some j) (hl : b.length ≤ 134217728) (hub : 7 ≤ ub) (htv : ∀ j, tv.ownBlock = some j → 7 ≤ j)
  (hts : tP ≠ 231) (hq : (Up.mk lim tab most).unpack b = some (hs, lim', tab')) :
  Calls Tryz.prog 132 #[.pointer (some ⟨ub, 35, none⟩), bv] w fun e w' => ∃ lv cs' tv', e = .returned lv ∧ UnpdZ w w' ub cs cs' tP lim' tv tv' tab' lv hs := by
 have hq2 : ∃ tab1 l1, rdLims most 2 lim tab b = some (lim', tab1, l1) ∧ rdPairs 9 [] tab1 lim' l1 = some (hs, tab') := by
  unfold Up.unpack at hq
  simp only at hq
  cases h1 : rdLims most 2 lim tab b with
  | none => rw [h1] at hq; cases hq
  | some x =>
   obtain ⟨lim1, tab1, r⟩ := x
   rw [h1] at hq
   simp only at hq
   cases h2 : rdPairs 9 [] tab1 lim1 r with
   | none => rw [h2] at hq; cases hq
   | some y =>
    obtain ⟨hs', tab''⟩ := y
    rw [h2] at hq
    simp only [Option.some.injEq, Prod.mk.injEq] at hq
    obtain ⟨rfl, rfl, rfl⟩ := hq
    exact ⟨tab1, r, rfl, h2⟩
 obtain ⟨tab1, l1, hlims, hpairs⟩ := hq2
 obtain ⟨i0, hi, hz0, hz1, hz2⟩ := info_parts Tryz.info130
 have hbA : Below w.heap.size w (w.alloc (.cells #[bv] 231)) := (Below.refl _ _).alloc (Nat.le_refl _) _
 have htl := ht.tb.lt
 have hsA : SrS (w.alloc (.cells #[bv] 231)) w.heap.size bv b := ⟨heap_alloc_new w _, hb.chg ((Chg.refl (fun _ => False) w).alloc _) (fun _ _ => id), fun e => by have := hb.lt e; omega⟩
 have haA : Apart ub w.heap.size tv bv := ⟨by omega, fun e => by have := owns_lt ht.row e; omega, hbu, hbt⟩
 have huA : UnToZ (w.alloc (.cells #[bv] 231)) (w.alloc (.cells #[bv] 231)) ub cs cs tP lim tv tv tab w.heap.size bv bv b := ⟨ht.below hbA, fun _ _ => rfl, hsA, Chg.refl _ _, fun _ e => Or.inl e, fun _ e => e⟩
 have hgA := hgl.below hbA
 have hgs : 7 ≤ w.heap.size := hgl.lt
 obtain ⟨sv, cv, hv, _⟩ := bytesIn_len hb
 subst hv
 have HB := hide hb
 have HT := hide ht
 have HM := hide hm
 have HGA := hide hgA
 have HSA := hide hsA
 have HAA := hide haA
 have HUA := hide huA
 have HBA := hide hbA
 have HTV := hide htv
 have HLIMS := hide hlims
 have HPAIRS := hide hpairs
 clear hgl ht hm hb hbu hbt hsA haA huA hgA hbA htv hlims hpairs hq
 go_enter Tryz.func132, Tryz.ntmps132
 go_wp2
 go_loopw [6] (fun i wr => ∃ (j lim2 : Nat) (tab2 : List HP) (l2 : List UInt8) (cs2 : Array Value) (tv2 rv2 : Value), i = .int .i64 (j : Int) ∧ j ≤ 2 ∧ l2.length ≤ b.length ∧ rdLims most (2 - j) lim2 tab2 l2 = some (lim', tab1, l1) ∧ UnToZ (w.alloc (.cells #[.slice sv b.length cv] 231)) wr ub cs cs2 tP lim2 tv tv2 tab2 w.heap.size (.slice sv b.length cv) rv2 l2) (fun i _ => 2 - (intOf i).toNat)
 case atStart => exact ⟨0, lim, tab, b, cs, tv, _, rfl, by omega, Nat.le_refl _, HLIMS.out, HUA.out⟩
 case round =>
  obtain ⟨j, lim2, tab2, l2, cs2, tv2, rv2, rfl, hj, hll, hlm, hu⟩ := hrel
  by_cases hj2 : j = 2
  ·rw [show 2 - j = 0 from by omega] at hlm
   simp only [rdLims, Option.some.injEq, Prod.mk.injEq] at hlm
   obtain ⟨rfl, rfl, rfl⟩ := hlm
   have hjd : decide ((j : Int) < 2) = false := by simp; omega
   have HU := hide hu
   clear hu hj2 hj
   go_wp2
   go_loopw [7] (fun v wx => ∃ (acc tab3 : List HP) (l3 : List UInt8) (cs3 : Array Value) (tv3 rv3 : Value), acc.length ≤ 8 ∧ (∀ x ∈ acc, x.n.size ≤ 268435456 ∧ x.v.size ≤ 268435456) ∧ l3.length ≤ b.length ∧ rdPairs (9 - acc.length) acc tab3 lim2 l3 = some (hs, tab') ∧ UnToZ (w.alloc (.cells #[.slice sv b.length cv] 231)) wx ub cs cs3 tP lim2 tv tv3 tab3 w.heap.size (.slice sv b.length cv) rv3 l3 ∧ wx.ownsRow w.heap.size 130 2 v acc.length (hpCells acc) ∧ (∀ j, v.ownBlock = some j → tv3.ownBlock ≠ some j)) (fun v _ => 9 - lenV v)
   case atStart => exact ⟨[], tab2, l2, cs2, tv2, rv2, by simp, by simp, by omega, HPAIRS.out, HU.out, World.ownsRow_nil _ _ _ _, fun j e => by simp [Value.ownBlock] at e⟩
   case round =>
    obtain ⟨acc, tab3, l3, cs3, tv3, rv3, ha8, hsz, hl3, hrp, hu3, how, hap3⟩ := hrel
    obtain ⟨sl, cl, hvl⟩ := slice_len how
    subst hvl
    have hae := atEnd_any w.heap.size rv3 l3 wr hu3.sr
    have HAE := hide hae
    have HU3 := hide hu3
    have HOW := hide how
    have HAP3 := hide hap3
    have HSZ := hide hsz
    have HRP := hide hrp
    clear hae hu3 how hap3 hsz hrp HU
    cases l3 with
    | nil =>
     have hrp := HRP.out
     obtain ⟨f, hf⟩ : ∃ f, 9 - acc.length = f + 1 := ⟨8 - acc.length, by omega⟩
     rw [hf] at hrp
     simp only [rdPairs, Option.some.injEq, Prod.mk.injEq] at hrp
     have HE := hide hrp
     clear hrp HRP hf
     go_wp2_with fail
     refine HAE.out.mono ?_
     rintro e w9 ⟨rfl, hw9⟩
     rw [hw9]
     clear hw9
     go_wp2
     go_ret
     refine ⟨.slice sl acc.length cl, cs3, tv3, rfl, ?_⟩
     rw [← HE.out.1, ← HE.out.2]
     exact ⟨HU3.out.st, HU3.out.cs3, unp_chg HBA.out HU3.out.chg, fun j hj => (HU3.out.tfresh j hj).imp_right fun e => Nat.le_trans HBA.out.size e, HOW.out, HAP3.out⟩
    | cons c r =>
     obtain ⟨x, tab4, q, hp, hli, hrp4⟩ := rdPairs_cons HRP.out
     have hl8 : (acc ++ [x]).length ≤ 8 := by
      have := hli
      unfold listB at this
      simp only [Bool.and_eq_true, decide_eq_true_eq] at this
      exact this.1
     have hap := HU3.out.apart HAA.out HSA.out
     have hg3 := HU3.out.gl HGA.out hub hgs HTV.out
     obtain ⟨hq4, hxn, hxv⟩ := rdPair_len hp (numd_small (Nat.le_trans HU3.out.st.fit HU3.out.st.small)) (by omega)
     have htp := takePair_okZ ub cs3 tP lim2 tv3 tab3 w.heap.size rv3 (c :: r) x tab4 q wr hg3 HU3.out.st HU3.out.sr hap (by omega) hgs hp
     have HTP := hide htp
     have HLI := hide hli
     have HRP4 := hide hrp4
     clear htp hli hrp4 hap hg3 hp HRP
     rw [List.length_append, List.length_singleton] at hl8
     go_wp2_with fail
     refine HAE.out.mono ?_
     rintro e w9 ⟨rfl, hw9⟩
     rw [hw9]
     clear hw9
     go_wp2_with fail
     refine HTP.out.mono ?_
     rintro e w4 ⟨rfl, cs4, tv4, rv4, hu4⟩
     have how4 := owns_chg HOW.out hu4.chg (by
      rintro j hj (e | e | e)
      ·subst e; exact owns_ne HOW.out HU3.out.sr.blk (by decide) hj
      ·subst e; exact owns_ne HOW.out HU3.out.st.tb.blk (fun e => HU3.out.st.tb.ne e.symm) hj
      ·exact HAP3.out j hj e)
     have hap4 : ∀ j, (Value.slice sl acc.length cl).ownBlock = some j → tv4.ownBlock ≠ some j := fun j hj e => by
      rcases hu4.tfresh j e with a | a
      ·exact HAP3.out j hj a
      ·have := owns_lt HOW.out hj; omega
     have HU4 := hide (HU3.out.trans hu4)
     have HOW4 := hide how4
     have HAP4 := hide hap4
     clear hu4 how4 hap4
     go_wp2_with (at_builtin; refine wpList_app _ rfl (.tmp 22) (.tmp 25) 88 rfl 130 i0 (.agg #[.string ⟨#[]⟩, .string ⟨#[]⟩]) 2 32 Tryz.underlying88 hi hz0 hz1 hz2 rfl (by decide) _ _ _ rfl ((owns_base HOW4.out (fun _ _ => Nat.zero_le _)).alloc _) (.slice (some ⟨w4.heap.size, 0, none⟩) 1 1) 1 (hpCells [x]) rfl rfl (lies_pair w4 x) (hp_one _) ?c3 ?c4 ?_)
     case c3 => unfold maxLen; omega
     case c4 => omega
     intro v5 w5 hown5 hg5 hf5
     obtain ⟨hu5, how5, hap5⟩ := unp_appZ HB.out HT.out HBA.out HU4.out HOW4.out HAP4.out hown5 hg5 (by simpa using hf5)
     have hsz5 : ∀ y ∈ acc ++ [x], y.n.size ≤ 281474976710656 ∧ y.v.size ≤ 281474976710656 := fun y hy => by
      rcases List.mem_append.1 hy with hy | hy
      ·have := HSZ.out y hy; omega
      ·rw [List.mem_singleton.1 hy]; omega
     have hil := isList_any v5 (acc ++ [x]) w5 (hsIn_of_owns how5) (by rw [List.length_append, List.length_singleton]; omega) hsz5
     rw [HLI.out] at hil
     obtain ⟨s5, c5, hv5⟩ := slice_len hown5
     subst hv5
     have HIL := hide hil
     have HU5 := hide hu5
     have HOW5 := hide how5
     have HAP5 := hide hap5
     clear hown5 hg5 hf5 hil hu5 how5 hap5 hsz5
     go_wp2_with fail
     refine HIL.out.mono ?_
     rintro e w6 ⟨rfl, hb6⟩
     have HU6 := hide (HU5.out.below hb6)
     have HOW6 := hide (owns_chg HOW5.out (Chg.of_below (S := fun _ => False) hb6) (fun _ _ => id))
     clear hb6
     go_wp2
     go_roundw
     case rel =>
      refine ⟨acc ++ [x], tab4, q, cs4, tv4, rv4, by rw [List.length_append, List.length_singleton]; omega, ?_, by omega, ?_, HU6.out, HOW6.out, HAP5.out⟩
      ·intro y hy
       rcases List.mem_append.1 hy with hy | hy
       ·exact HSZ.out y hy
       ·rw [List.mem_singleton.1 hy]; exact ⟨hxn, hxv⟩
      ·rw [List.length_append, List.length_singleton, show 9 - (acc.length + 1) = 9 - acc.length - 1 from by omega]; exact HRP4.out
     case measure => simp [lenV]; omega
  ·obtain ⟨f, hf⟩ : ∃ f, 2 - j = f + 1 := ⟨1 - j, by omega⟩
   rw [hf] at hlm
   have hg := hu.gl HGA.out hub hgs HTV.out
   have hhas := shas_any w.heap.size rv2 l2 32 5 wr hu.sr (by decide)
   obtain ⟨g0, g1⟩ := hg.lim
   have HG := hide hg
   have HHAS := hide hhas
   have HU := hide hu
   have HLM := hide hlm
   clear hg hhas hu hlm
   have hjd : decide ((j : Int) < 2) = true := by simp; omega
   cases hh : hasF 32 5 l2 with
   | false =>
    rw [hh] at HHAS
    have hlm := HLM.out
    have he : lim2 = lim' ∧ tab2 = tab1 ∧ l2 = l1 := by
     cases l2 with
     | nil => simpa [rdLims] using hlm
     | cons c r =>
      have hc : ¬ c.toNat / 32 = 1 := by simpa [hasF] using hh
      simp only [rdLims] at hlm
      rw [if_neg hc] at hlm
      simpa using hlm
    obtain ⟨rfl, rfl, rfl⟩ := he
    clear HLM hlm
    go_wp2_with fail
    refine HHAS.out.mono ?_
    rintro e w1 ⟨rfl, hb1⟩
    have HU1 := hide (HU.out.below hb1)
    clear hb1 HU
    have HU := HU1
    clear HU1 g0 g1
    go_wp2
    go_loopw [7] (fun v wx => ∃ (acc tab3 : List HP) (l3 : List UInt8) (cs3 : Array Value) (tv3 rv3 : Value), acc.length ≤ 8 ∧ (∀ x ∈ acc, x.n.size ≤ 268435456 ∧ x.v.size ≤ 268435456) ∧ l3.length ≤ b.length ∧ rdPairs (9 - acc.length) acc tab3 lim2 l3 = some (hs, tab') ∧ UnToZ (w.alloc (.cells #[.slice sv b.length cv] 231)) wx ub cs cs3 tP lim2 tv tv3 tab3 w.heap.size (.slice sv b.length cv) rv3 l3 ∧ wx.ownsRow w.heap.size 130 2 v acc.length (hpCells acc) ∧ (∀ j, v.ownBlock = some j → tv3.ownBlock ≠ some j)) (fun v _ => 9 - lenV v)
    case atStart => exact ⟨[], tab2, l2, cs2, tv2, rv2, by simp, by simp, by omega, HPAIRS.out, HU.out, World.ownsRow_nil _ _ _ _, fun j e => by simp [Value.ownBlock] at e⟩
    case round =>
     obtain ⟨acc, tab3, l3, cs3, tv3, rv3, ha8, hsz, hl3, hrp, hu3, how, hap3⟩ := hrel
     obtain ⟨sl, cl, hvl⟩ := slice_len how
     subst hvl
     have hae := atEnd_any w.heap.size rv3 l3 wr hu3.sr
     have HAE := hide hae
     have HU3 := hide hu3
     have HOW := hide how
     have HAP3 := hide hap3
     have HSZ := hide hsz
     have HRP := hide hrp
     clear hae hu3 how hap3 hsz hrp HU
     cases l3 with
     | nil =>
      have hrp := HRP.out
      obtain ⟨f, hf⟩ : ∃ f, 9 - acc.length = f + 1 := ⟨8 - acc.length, by omega⟩
      rw [hf] at hrp
      simp only [rdPairs, Option.some.injEq, Prod.mk.injEq] at hrp
      have HE := hide hrp
      clear hrp HRP hf
      go_wp2_with fail
      refine HAE.out.mono ?_
      rintro e w9 ⟨rfl, hw9⟩
      rw [hw9]
      clear hw9
      go_wp2
      go_ret
      refine ⟨.slice sl acc.length cl, cs3, tv3, rfl, ?_⟩
      rw [← HE.out.1, ← HE.out.2]
      exact ⟨HU3.out.st, HU3.out.cs3, unp_chg HBA.out HU3.out.chg, fun j hj => (HU3.out.tfresh j hj).imp_right fun e => Nat.le_trans HBA.out.size e, HOW.out, HAP3.out⟩
     | cons c r =>
      obtain ⟨x, tab4, q, hp, hli, hrp4⟩ := rdPairs_cons HRP.out
      have hl8 : (acc ++ [x]).length ≤ 8 := by
       have := hli
       unfold listB at this
       simp only [Bool.and_eq_true, decide_eq_true_eq] at this
       exact this.1
      have hap := HU3.out.apart HAA.out HSA.out
      have hg3 := HU3.out.gl HGA.out hub hgs HTV.out
      obtain ⟨hq4, hxn, hxv⟩ := rdPair_len hp (numd_small (Nat.le_trans HU3.out.st.fit HU3.out.st.small)) (by omega)
      have htp := takePair_okZ ub cs3 tP lim2 tv3 tab3 w.heap.size rv3 (c :: r) x tab4 q wr hg3 HU3.out.st HU3.out.sr hap (by omega) hgs hp
      have HTP := hide htp
      have HLI := hide hli
      have HRP4 := hide hrp4
      clear htp hli hrp4 hap hg3 hp HRP
      rw [List.length_append, List.length_singleton] at hl8
      go_wp2_with fail
      refine HAE.out.mono ?_
      rintro e w9 ⟨rfl, hw9⟩
      rw [hw9]
      clear hw9
      go_wp2_with fail
      refine HTP.out.mono ?_
      rintro e w4 ⟨rfl, cs4, tv4, rv4, hu4⟩
      have how4 := owns_chg HOW.out hu4.chg (by
       rintro j hj (e | e | e)
       ·subst e; exact owns_ne HOW.out HU3.out.sr.blk (by decide) hj
       ·subst e; exact owns_ne HOW.out HU3.out.st.tb.blk (fun e => HU3.out.st.tb.ne e.symm) hj
       ·exact HAP3.out j hj e)
      have hap4 : ∀ j, (Value.slice sl acc.length cl).ownBlock = some j → tv4.ownBlock ≠ some j := fun j hj e => by
       rcases hu4.tfresh j e with a | a
       ·exact HAP3.out j hj a
       ·have := owns_lt HOW.out hj; omega
      have HU4 := hide (HU3.out.trans hu4)
      have HOW4 := hide how4
      have HAP4 := hide hap4
      clear hu4 how4 hap4
      go_wp2_with (at_builtin; refine wpList_app _ rfl (.tmp 22) (.tmp 25) 88 rfl 130 i0 (.agg #[.string ⟨#[]⟩, .string ⟨#[]⟩]) 2 32 Tryz.underlying88 hi hz0 hz1 hz2 rfl (by decide) _ _ _ rfl ((owns_base HOW4.out (fun _ _ => Nat.zero_le _)).alloc _) (.slice (some ⟨w4.heap.size, 0, none⟩) 1 1) 1 (hpCells [x]) rfl rfl (lies_pair w4 x) (hp_one _) ?c3 ?c4 ?_)
      case c3 => unfold maxLen; omega
      case c4 => omega
      intro v5 w5 hown5 hg5 hf5
      obtain ⟨hu5, how5, hap5⟩ := unp_appZ HB.out HT.out HBA.out HU4.out HOW4.out HAP4.out hown5 hg5 (by simpa using hf5)
      have hsz5 : ∀ y ∈ acc ++ [x], y.n.size ≤ 281474976710656 ∧ y.v.size ≤ 281474976710656 := fun y hy => by
       rcases List.mem_append.1 hy with hy | hy
       ·have := HSZ.out y hy; omega
       ·rw [List.mem_singleton.1 hy]; omega
      have hil := isList_any v5 (acc ++ [x]) w5 (hsIn_of_owns how5) (by rw [List.length_append, List.length_singleton]; omega) hsz5
      rw [HLI.out] at hil
      obtain ⟨s5, c5, hv5⟩ := slice_len hown5
      subst hv5
      have HIL := hide hil
      have HU5 := hide hu5
      have HOW5 := hide how5
      have HAP5 := hide hap5
      clear hown5 hg5 hf5 hil hu5 how5 hap5 hsz5
      go_wp2_with fail
      refine HIL.out.mono ?_
      rintro e w6 ⟨rfl, hb6⟩
      have HU6 := hide (HU5.out.below hb6)
      have HOW6 := hide (owns_chg HOW5.out (Chg.of_below (S := fun _ => False) hb6) (fun _ _ => id))
      clear hb6
      go_wp2
      go_roundw
      case rel =>
       refine ⟨acc ++ [x], tab4, q, cs4, tv4, rv4, by rw [List.length_append, List.length_singleton]; omega, ?_, by omega, ?_, HU6.out, HOW6.out, HAP5.out⟩
       ·intro y hy
        rcases List.mem_append.1 hy with hy | hy
        ·exact HSZ.out y hy
        ·rw [List.mem_singleton.1 hy]; exact ⟨hxn, hxv⟩
       ·rw [List.length_append, List.length_singleton, show 9 - (acc.length + 1) = 9 - acc.length - 1 from by omega]; exact HRP4.out
      case measure => simp [lenV]; omega
   | true =>
    rw [hh] at HHAS
    cases l2 with
    | nil => simp [hasF] at hh
    | cons c r =>
     have hc : c.toNat / 32 = 1 := by simpa [hasF] using hh
     obtain ⟨n, q, hcn, hnm, hnx⟩ := rdLims_cons HLM.out hc
     have hqr := rdCnt_len hcn
     have hap := HU.out.apart HAA.out HSA.out
     have hm2 : cs2[38]? = some (.int .i64 (most : Int)) := (HU.out.cs3 38 (by omega)).trans HM.out
     go_wp2_with fail
     refine HHAS.out.mono ?_
     rintro e w1 ⟨rfl, hb1⟩
     have hu1 := HU.out.below hb1
     have htl := takeLimit_okZ ub cs2 tP lim2 tv2 tab2 most w.heap.size rv2 c r n q w1 (hu1.gl HGA.out hub hgs HTV.out) hu1.st hm2 hu1.sr hap (by omega) hgs hcn hnm hmo
     have HTL := hide htl
     have HU1 := hide hu1
     have HNX := hide hnx
     clear hb1 hu1 htl g0 g1 hnx hcn hm2 hap hc hh
     simp only [List.length_cons] at hll
     go_wp2_with fail
     refine HTL.out.mono ?_
     rintro e w2 ⟨rfl, cs3, tv3, rv3, hu3⟩
     have HU3 := hide (HU1.out.trans hu3)
     clear hu3
     go_wp2
     go_roundw
     case rel =>
      refine ⟨j + 1, n, shr tab2 n, q, cs3, tv3, rv3, by simp, by omega, by omega, ?_, HU3.out⟩
      rw [show 2 - (j + 1) = f from by omega]; exact HNX.out
     case measure => simp [intOf]; omega
end
end Go.Proofs.YtdccldbefdfppaaGreatDoor
