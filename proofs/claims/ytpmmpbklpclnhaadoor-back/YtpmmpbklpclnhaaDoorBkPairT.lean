import Derived.Test.YtpmmpbklpclnhaaDoorBkPairR
set_option linter.unusedVariables false
set_option linter.unusedSimpArgs false
/-
  Package blocks: Unpacker's takePair, where there is a pair: the walk.
-/
namespace Go.Proofs.YtpmmpbklpclnhaaDoor
set_option linter.unusedVariables false
set_option linter.unusedSimpArgs false
open Go.RowKit

theorem numd_small {tab : List HP} (h : szT tab ≤ 256) : ∀ x ∈ numd tab, x.n.size ≤ 256 ∧ x.v.size ≤ 256 := by
  intro x hx
  unfold numd at hx
  rcases List.mem_append.1 hx with hx | hx
  · have : ∀ y ∈ fixed8, y.n.size ≤ 256 ∧ y.v.size ≤ 256 := by decide
    exact this x hx
  · have h1 := szT_mem (List.mem_reverse.1 hx)
    have h2 : tk x = x.n.size + x.v.size + 8 := rfl
    omega
theorem UnTo.set {w w1 : World} {ub : Nat} {cs cs' : Array Value} {tP : TypeId} {lim : Nat} {tv tv' : Value} {tab' : List HP} {sb : Nat} {rv rv' : Value} {l' : List UInt8} (h : UnTo w w1 ub cs cs' tP lim tv tv' tab' sb rv rv' l') {b o : Nat} (hb : w.heap.size ≤ b) (hub : ub < w.heap.size) (hsb : sb < w.heap.size) (hr : ∀ j, rv.ownBlock = some j → j < w.heap.size) (hne : tv'.ownBlock ≠ some b) (u : Value) : UnTo w (w1.setCell ⟨b, o, none⟩ u) ub cs cs' tP lim tv tv' tab' sb rv rv' l' := by
  have hc : Chg (fun j => j = b) w1 (w1.setCell ⟨b, o, none⟩ u) := (Chg.refl (fun j => j = b) w1).setCell (p := ⟨b, o, none⟩) (Or.inr rfl) _
  exact ⟨h.st.chg hc (by omega) (fun j hj e => hne (e ▸ hj)), h.cs3, h.sr.chg hc (by omega) (fun j hj e => by have := hr j (h.own j hj); omega), h.chg.trans (hc.mono fun j _ e => Or.inl (by omega)), h.tfresh, h.own⟩

theorem box_free {w w' : World} {b : Nat} {x y : Value} {t : TypeId} (hx : w.heap[b]? = some (.cells #[x, y] t (0, 0))) (hb : Below w.heap.size w w') : w'.cell? ⟨b, 0, none⟩ = some x ∧ w'.cell? ⟨b, 1, none⟩ = some y ∧ w'.frozen? ⟨b, 0, none⟩ = false ∧ w'.frozen? ⟨b, 1, none⟩ = false := by
  have h2 : w'.heap[b]? = some (.cells #[x, y] t (0, 0)) := by rw [hb.block _ (lt_of_block hx)]; exact hx
  refine ⟨by rw [cell_of_row _ _ _ _ _ _ h2]; rfl, by rw [cell_of_row _ _ _ _ _ _ h2]; rfl, by simp [World.frozen?, h2], by simp [World.frozen?, h2]⟩
theorem num_after {w w2 w3 : World} {ub : Nat} {cs : Array Value} {tP : TypeId} {lim : Nat} {tv : Value} {tab : List HP} {sb : Nat} {rv rv1 rv3 : Value} {r q : List UInt8} {o : Obj} (hg : Gl w2) (hx : w2.heap[w.heap.size]? = some o) (hs : SrTo w w2 sb rv rv1 r) (h3 : SrTo w2.drew w3 sb rv1 rv3 q) (hsb : 7 ≤ sb) (hsl : sb < w.heap.size) (ht : TbS w ub cs tP lim tv tab) (ha : Apart ub sb tv rv) :
    Gl w3 ∧ UnTo w w3 ub cs cs tP lim tv tv tab sb rv rv3 q ∧ w3.heap[w.heap.size]? = some o := by
  have hc : Chg (fun j => j = sb) w2 w3 := ((Chg.refl (fun j => j = sb) w2).drew).trans (h3.chg.mono fun j _ e => Or.inr e)
  refine ⟨hg.sr hc hsb, ((hs.trans ⟨h3.st, hc, h3.own⟩).un ht ha), ?_⟩
  rw [hc.block _ (lt_of_block hx) (by omega)]; exact hx

theorem txs_after {w w3 w4 : World} {ub : Nat} {cs : Array Value} {tP : TypeId} {lim : Nat} {tv : Value} {tab : List HP} {sb : Nat} {rv rv3 rv4 : Value} {s q : List UInt8} {o : Obj} (hx : w3.heap[w.heap.size]? = some o) (hs : UnTo w w3 ub cs cs tP lim tv tv tab sb rv rv3 s) (h4 : SrTo w3 w4 sb rv3 rv4 q) (hsl : sb < w.heap.size) (ht : TbS w ub cs tP lim tv tab) (ha : Apart ub sb tv rv) :
    w4.heap[w.heap.size]? = some o ∧ UnTo w w4 ub cs cs tP lim tv tv tab sb rv rv4 q := by
  refine ⟨?_, ?_⟩
  · rw [h4.chg.block _ (lt_of_block hx) (by omega)]; exact hx
  · have ha3 : Apart ub sb tv rv3 := ⟨ha.us, ha.ts, fun e => ha.ru (hs.own _ e), fun j hj => ha.rt j (hs.own j hj)⟩
    have h5 := h4.un hs.st ha3
    exact ⟨h5.st, fun _ _ => rfl, h5.sr, hs.chg.trans (h5.chg.mono fun j _ e => Or.inr e), fun _ e => Or.inl e, fun j hj => hs.own j (h4.own j hj)⟩
theorem Chg.drop_drew {S : Nat → Prop} {w w' : World} (h : Chg S w w') : Chg S w.drew w' := ⟨h.os, h.tape, h.output, h.size, h.block⟩

theorem add_after {w wb w6 : World} {ub : Nat} {cs cs6 : Array Value} {tP : TypeId} {lim : Nat} {tv tv6 : Value} {tab tab6 : List HP} {sb : Nat} {rv rvb : Value} {q : List UInt8} {o o2 : Obj} (hx : wb.heap[w.heap.size]? = some o) (hu : UnTo w wb ub cs cs tP lim tv tv tab sb rv rvb q) (h6 : TbTo (wb.alloc o2).drew w6 ub cs cs6 tP lim tv tv6 tab6) (hub : ub < w.heap.size) (htl : tv.ownBlock ≠ some w.heap.size) (ht : TbS w ub cs tP lim tv tab) (ha : Apart ub sb tv rv) :
    w6.heap[w.heap.size]? = some o ∧ w6.heap[wb.heap.size]? = some o2 ∧ UnTo w w6 ub cs cs6 tP lim tv tv6 tab6 sb rv rvb q ∧ tv6.ownBlock ≠ some w.heap.size := by
  have hsz := hu.chg.size
  have hx0 := lt_of_block hx
  have hc : Chg (TouchT ub tv) wb w6 := (((Chg.refl _ wb).alloc o2).drew).trans (h6.chg.mono fun j _ e => Or.inr e)
  have hs2 : (wb.alloc o2).drew.heap.size = wb.heap.size + 1 := by simp
  refine ⟨?_, ?_, ?_, ?_⟩
  · rw [hc.block _ hx0 (by rintro (e | e); omega; exact htl e)]; exact hx
  · rw [h6.chg.block wb.heap.size (by omega) ?_]
    · exact heap_alloc_new wb o2
    · rintro (e | e)
      · omega
      · have := owns_lt ht.row e; omega
  · have ha3 : Apart ub sb tv rvb := ⟨ha.us, ha.ts, fun e => ha.ru (hu.own _ e), fun j hj => ha.rt j (hu.own j hj)⟩
    exact hu.turn ⟨h6.st, h6.cs3, hc, fun j hj => (h6.own j hj).imp_right fun e => by omega⟩ ha3
  · intro e
    rcases h6.own _ e with a | a
    · exact htl a
    · omega

set_option maxRecDepth 100000 in
set_option maxHeartbeats 800000 in
theorem takePair_num (ub : Nat) (cs : Array Value) (tP : TypeId) (lim : Nat) (tv : Value) (tab : List HP) (sb : Nat) (rv : Value) (c : UInt8) (r : List UInt8) (n : Nat) (h : HP) (q : List UInt8) (w : World) (hgl : Gl w) (ht : TbS w ub cs tP lim tv tab) (hs : SrS w sb rv (c :: r)) (ha : Apart ub sb tv rv) (hl : (c :: r).length ≤ 134217728) (hsb : 7 ≤ sb)
    (hc : 128 ≤ c.toNat) (hcnt : rdCnt 7 c r = some (n, q)) (hn : n ≠ 0) (hx : (numd tab)[n - 1]? = some h) :
    Calls Tryd.prog 35 #[.pointer (some ⟨ub, 0, none⟩), .pointer (some ⟨sb, 0, none⟩)] w fun e w' => e = .returned (.agg #[.string h.n, .string h.v]) ∧ ∃ cs' tv' rv', UnTo w w' ub cs cs' tP lim tv tv' tab sb rv rv' q := by
  have hc8 : c.toNat ≤ 255 := Nat.le_of_lt_succ c.toNat_lt
  have hbA : Below w.heap.size w (w.alloc (.cells #[.string ⟨#[]⟩, .string ⟨#[]⟩] 33)) := (Below.refl _ _).alloc (Nat.le_refl _) _
  have hbox := heap_alloc_new w (.cells #[.string ⟨#[]⟩, .string ⟨#[]⟩] 33)
  have htk := stake_ok sb rv c r _ (hs.below hbA) (by omega)
  have hub := lt_of_block ht.tb.blk
  have hsl := lt_of_block hs.blk
  have hrl : ∀ j, rv.ownBlock = some j → j < w.heap.size := fun j hj => hs.bytes.lt hj
  have htl : tv.ownBlock ≠ some w.heap.size := fun e => by have := owns_lt ht.row e; omega
  have HFB : Hid (∀ wx, Calls Tryd.prog 44 #[fm 128 7, .int .u8 c.toNat] wx fun e w' => e = .returned (.bool true) ∧ Below wx.heap.size wx w') := fun wx => by
    have := fbegins_any 128 7 c wx (by decide)
    rwa [show decide (c.toNat / 2 ^ 7 = 128 / 2 ^ 7) = true from by simp; omega] at this
  have HCN : Hid (∀ rv' wx, SrS wx sb rv' r → Calls Tryd.prog 45 #[.pointer (some ⟨sb, 0, none⟩), .int .u8 c.toNat, fm 128 7] wx fun e w' => ∃ rv'', e = .returned (.int .i64 (n : Int)) ∧ SrTo wx w' sb rv' rv'' q) := fun rv' wx hh => by
    refine (takeCount_any sb rv' r c 128 7 wx hh (by decide) (by simp only [List.length_cons] at hl; omega)).mono ?_
    rintro e w' (⟨N, r', rv'', e1, _, e2, e3⟩ | ⟨e1, _⟩)
    · rw [hcnt] at e1
      simp only [Option.some.injEq, Prod.mk.injEq] at e1
      rw [e1.1, e1.2]
      exact ⟨rv'', e2, e3⟩
    · rw [hcnt] at e1; cases e1
  have HPA := hide (fun wx hg hh => pair_any ub cs tP lim tv tab n h wx hg hh (by omega) hx)
  have HTK := hide htk
  have HBA := hide hbA
  have HBX := hide hbox
  have HG := hide hgl
  have HT := hide ht
  have HA := hide ha
  have HRL := hide hrl
  have HTL := hide htl
  clear htk hbA hbox hgl ht hs ha hrl htl hx hn hcnt
  generalize c.toNat = x at *
  go_enter Tryd.func35, Tryd.ntmps35
  go_wp2_with fail
  refine HTK.out.mono ?_
  rintro e w1 ⟨rv1, rfl, hs1⟩
  have hg1 := (HG.out.below HBA.out).sr hs1.chg hsb
  have hx1 : w1.heap[w.heap.size]? = some (.cells #[.string ⟨#[]⟩, .string ⟨#[]⟩] 33 (0, 0)) := by rw [hs1.chg.block _ (lt_of_block HBX.out) (by omega)]; exact HBX.out
  have hs1' : SrTo w w1 sb rv rv1 r := SrTo.before HBA.out hs1
  obtain ⟨g0, g1⟩ := hg1.num
  have HG1 := hide hg1
  have HX1 := hide hx1
  have HS1 := hide hs1'
  clear hs1 hs1' hg1 hx1
  go_wp2_with fail
  refine (HFB.out _).mono ?_
  rintro e w2 ⟨rfl, hb2⟩
  have hg2 := HG1.out.below hb2
  have hx2 : w2.heap[w.heap.size]? = some (.cells #[.string ⟨#[]⟩, .string ⟨#[]⟩] 33 (0, 0)) := by rw [hb2.block _ (lt_of_block HX1.out)]; exact HX1.out
  have hs2 := HS1.out.below hb2
  obtain ⟨g0, g1⟩ := hg2.num
  have HG2 := hide hg2
  have HX2 := hide hx2
  have HS2 := hide hs2
  clear hb2 hg2 hx2 hs2
  have hsd : SrS w2.drew sb rv1 r := HS2.out.st.chg ((Chg.refl (fun _ => False) _).drew) id (fun _ _ => id)
  have hcn := HCN.out rv1 w2.drew hsd
  have HCD := hide hcn
  clear hsd hcn
  go_wp2
  go_region_law (first
    | (refine step_call rfl 45 Tryd.f45 Tryd.func45 (by kernel_rfl) rfl [.tmp 16, .tmp 17, .tmp 18] #[76, 5, 69] rfl [.pointer (some ⟨sb, 0, none⟩), .int .u8 (x : Int), fm 128 7] (by simp [Act.eval, Act.put, fm]) HCD.out ?_; rintro e w3 ⟨rv3, rfl, hs3⟩; refine ⟨_, rfl, ?_⟩; have HW3 := hide (num_after HG2.out HX2.out HS2.out hs3 hsb hsl HT.out HA.out); clear hs3)
    | (refine step_call rfl 47 Tryd.f47 Tryd.func47 (by kernel_rfl) rfl [.tmp 15, .tmp 19] #[45, 3] rfl [.pointer (some ⟨ub, 0, none⟩), .int .i64 (n : Int)] (by simp [Act.eval, Act.put]) (HPA.out w3 HW3.out.1 HW3.out.2.1.st) ?_; rintro e w4 ⟨rfl, hb4⟩; refine ⟨_, rfl, ?_⟩; obtain ⟨k0, k1, k2, k3⟩ := box_free HW3.out.2.2 hb4; have HU4 := hide (HW3.out.2.1.below hb4); clear hb4))
  all_goals go_wp2
  all_goals refine bodyPost_ret (v := .agg #[.string h.n, .string h.v]) ?_ rfl ⟨rfl, cs, tv, rv3, ?_⟩
  all_goals first
    | (simp [results, Tryd.results35, go_sem, k0, k1]; done)
    | exact (HU4.out.set (by omega) hub hsl HRL.out HTL.out _).set (by omega) hub hsl HRL.out HTL.out _

set_option maxRecDepth 100000 in
set_option maxHeartbeats 800000 in
theorem takePair_not (ub : Nat) (cs : Array Value) (tP : TypeId) (lim : Nat) (tv : Value) (tab : List HP) (sb : Nat) (rv : Value) (c : UInt8) (r : List UInt8) (n : Nat) (s : List UInt8) (h : HP) (q : List UInt8) (w : World) (hgl : Gl w) (ht : TbS w ub cs tP lim tv tab) (hs : SrS w sb rv (c :: r)) (ha : Apart ub sb tv rv) (hl : (c :: r).length ≤ 134217728) (hsb : 7 ≤ sb)
    (hc : c.toNat < 16) (hcnt : rdCnt 4 c r = some (n, s)) (hx : rdTxs tab n s = some (h, q)) (hhn : h.n.size ≤ 268435456) (hhv : h.v.size ≤ 268435456) :
    Calls Tryd.prog 35 #[.pointer (some ⟨ub, 0, none⟩), .pointer (some ⟨sb, 0, none⟩)] w fun e w' => e = .returned (.agg #[.string h.n, .string h.v]) ∧ ∃ cs' tv' rv', UnTo w w' ub cs cs' tP lim tv tv' tab sb rv rv' q := by
  have hc8 : c.toNat ≤ 255 := Nat.le_of_lt_succ c.toNat_lt
  have hbA : Below w.heap.size w (w.alloc (.cells #[.string ⟨#[]⟩, .string ⟨#[]⟩] 33)) := (Below.refl _ _).alloc (Nat.le_refl _) _
  have hbox := heap_alloc_new w (.cells #[.string ⟨#[]⟩, .string ⟨#[]⟩] 33)
  have htk := stake_ok sb rv c r _ (hs.below hbA) (by omega)
  have hub := lt_of_block ht.tb.blk
  have hsl := lt_of_block hs.blk
  have hrl : ∀ j, rv.ownBlock = some j → j < w.heap.size := fun j hj => hs.bytes.lt hj
  have htl : tv.ownBlock ≠ some w.heap.size := fun e => by have := owns_lt ht.row e; omega
  have HF7 : Hid (∀ wx, Calls Tryd.prog 44 #[fm 128 7, .int .u8 c.toNat] wx fun e w' => e = .returned (.bool false) ∧ Below wx.heap.size wx w') := fun wx => by
    have := fbegins_any 128 7 c wx (by decide)
    rwa [show decide (c.toNat / 2 ^ 7 = 128 / 2 ^ 7) = false from by simp; omega] at this
  have HF6 : Hid (∀ wx, Calls Tryd.prog 44 #[fm 64 6, .int .u8 c.toNat] wx fun e w' => e = .returned (.bool false) ∧ Below wx.heap.size wx w') := fun wx => by
    have := fbegins_any 64 6 c wx (by decide)
    rwa [show decide (c.toNat / 2 ^ 6 = 64 / 2 ^ 6) = false from by simp; omega] at this
  have HF4 : Hid (∀ wx, Calls Tryd.prog 44 #[fm 0 4, .int .u8 c.toNat] wx fun e w' => e = .returned (.bool true) ∧ Below wx.heap.size wx w') := fun wx => by
    have := fbegins_any 0 4 c wx (by decide)
    rwa [show decide (c.toNat / 2 ^ 4 = 0 / 2 ^ 4) = true from by simp; omega] at this
  have hsq := rdCnt_len hcnt
  simp only [List.length_cons] at hl
  have hnN : n ≤ 8388608 ∨ True := Or.inr trivial
  have HCN : Hid (∀ rv' wx, SrS wx sb rv' r → Calls Tryd.prog 45 #[.pointer (some ⟨sb, 0, none⟩), .int .u8 c.toNat, fm 0 4] wx fun e w' => ∃ rv'', n ≤ 8388608 ∧ e = .returned (.int .i64 (n : Int)) ∧ SrTo wx w' sb rv' rv'' s) := fun rv' wx hh => by
    refine (takeCount_any sb rv' r c 0 4 wx hh (by decide) (by omega)).mono ?_
    rintro e w' (⟨N, r', rv'', e1, e0, e2, e3⟩ | ⟨e1, _⟩)
    · rw [hcnt] at e1
      simp only [Option.some.injEq, Prod.mk.injEq] at e1
      rw [e1.1, e1.2]
      exact ⟨rv'', e0, e2, e3⟩
    · rw [hcnt] at e1; cases e1
  have HTX : Hid (∀ rv' wx, Gl wx → TbS wx ub cs tP lim tv tab → SrS wx sb rv' s → n ≤ 8388608 → Calls Tryd.prog 48 #[.pointer (some ⟨ub, 0, none⟩), .pointer (some ⟨sb, 0, none⟩), .int .i64 n] wx fun e w' => ∃ rv'', e = .returned (.agg #[.string h.n, .string h.v]) ∧ SrTo wx w' sb rv' rv'' q) := fun rv' wx hg hh1 hh hn9 => by
    refine (takeTexts_any ub cs tP lim tv tab sb rv' s n wx hg hh1 hh (by omega) hsb (by omega)).mono ?_
    rintro e w' (⟨h', r', rv'', e1, e2, e3⟩ | ⟨e1, _⟩)
    · rw [hx] at e1
      simp only [Option.some.injEq, Prod.mk.injEq] at e1
      rw [e1.1, e1.2]
      exact ⟨rv'', e2, e3⟩
    · rw [hx] at e1; cases e1
  have HTK := hide htk
  have HBA := hide hbA
  have HBX := hide hbox
  have HG := hide hgl
  have HT := hide ht
  have HA := hide ha
  have HRL := hide hrl
  have HTL := hide htl
  clear htk hbA hbox hgl ht hs ha hrl htl hx hcnt hnN
  generalize c.toNat = x at *
  go_enter Tryd.func35, Tryd.ntmps35
  go_wp2_with fail
  refine HTK.out.mono ?_
  rintro e w1 ⟨rv1, rfl, hs1⟩
  have hg1 := (HG.out.below HBA.out).sr hs1.chg hsb
  have hx1 : w1.heap[w.heap.size]? = some (.cells #[.string ⟨#[]⟩, .string ⟨#[]⟩] 33 (0, 0)) := by rw [hs1.chg.block _ (lt_of_block HBX.out) (by omega)]; exact HBX.out
  have hs1' : SrTo w w1 sb rv rv1 r := SrTo.before HBA.out hs1
  obtain ⟨g0, g1⟩ := hg1.num
  have HG1 := hide hg1
  have HX1 := hide hx1
  have HS1 := hide hs1'
  clear hs1 hs1' hg1 hx1
  go_wp2_with fail
  refine (HF7.out _).mono ?_
  rintro e w2 ⟨rfl, hb⟩
  have hg := HG1.out.below hb
  have hx : w2.heap[w.heap.size]? = some (.cells #[.string ⟨#[]⟩, .string ⟨#[]⟩] 33 (0, 0)) := by rw [hb.block _ (lt_of_block HX1.out)]; exact HX1.out
  have hs := HS1.out.below hb
  clear g0 g1
  obtain ⟨g0, g1⟩ := hg.add
  have HG2 := hide hg
  have HX2 := hide hx
  have HS2 := hide hs
  clear hb hg hx hs
  go_wp2_with fail
  refine (HF6.out _).mono ?_
  rintro e w3 ⟨rfl, hb⟩
  have hg := HG2.out.below hb
  have hx : w3.heap[w.heap.size]? = some (.cells #[.string ⟨#[]⟩, .string ⟨#[]⟩] 33 (0, 0)) := by rw [hb.block _ (lt_of_block HX2.out)]; exact HX2.out
  have hs := HS2.out.below hb
  clear g0 g1
  obtain ⟨g0, g1⟩ := hg.nta
  have HG3 := hide hg
  have HX3 := hide hx
  have HS3 := hide hs
  clear hb hg hx hs
  go_wp2_with fail
  refine (HF4.out _).mono ?_
  rintro e w4 ⟨rfl, hb⟩
  have hg := HG3.out.below hb
  have hx : w4.heap[w.heap.size]? = some (.cells #[.string ⟨#[]⟩, .string ⟨#[]⟩] 33 (0, 0)) := by rw [hb.block _ (lt_of_block HX3.out)]; exact HX3.out
  have hs := HS3.out.below hb
  clear g0 g1
  obtain ⟨g0, g1⟩ := hg.nta
  have HG4 := hide hg
  have HX4 := hide hx
  have HS4 := hide hs
  clear hb hg hx hs
  go_wp2_with fail
  refine (HCN.out rv1 _ HS4.out.st).mono ?_
  rintro e wa ⟨rva, hn9, rfl, hsa⟩
  obtain ⟨hga, hua, hxa⟩ := num_after (w3 := wa) HG4.out HX4.out HS4.out ⟨hsa.st, hsa.chg.drop_drew, hsa.own⟩ hsb hsl HT.out HA.out
  have hta := HTX.out rva wa hga hua.st hua.sr hn9
  have HTT := hide hta
  have HUA := hide hua
  have HXA := hide hxa
  have HGA := hide hga
  clear hsa hga hua hxa hta g0 g1
  go_wp2_with fail
  refine HTT.out.mono ?_
  rintro e wb ⟨rvb, rfl, hsb9⟩
  obtain ⟨hxb, hub9⟩ := txs_after HXA.out HUA.out hsb9 hsl HT.out HA.out
  obtain ⟨k0, k1, k2, k3⟩ := box_free hxb (Below.refl _ _)
  have HUB := hide hub9
  have HXB := hide hxb
  clear hsb9 hub9 hxb
  go_wp2
  refine bodyPost_ret (v := .agg #[.string h.n, .string h.v]) ?_ rfl ⟨rfl, cs, tv, rvb, ?_⟩
  · simp [results, Tryd.results35, go_sem, k0, k1]
  · exact (HUB.out.set (by omega) hub hsl HRL.out HTL.out _).set (by omega) hub hsl HRL.out HTL.out _

set_option maxRecDepth 100000 in
set_option maxHeartbeats 800000 in
theorem takePair_add (ub : Nat) (cs : Array Value) (tP : TypeId) (lim : Nat) (tv : Value) (tab : List HP) (sb : Nat) (rv : Value) (c : UInt8) (r : List UInt8) (n : Nat) (s : List UInt8) (h : HP) (q : List UInt8) (w : World) (hgl : Gl w) (ht : TbS w ub cs tP lim tv tab) (hs : SrS w sb rv (c :: r)) (ha : Apart ub sb tv rv) (hl : (c :: r).length ≤ 134217728) (hsb : 7 ≤ sb)
    (hc : 64 ≤ c.toNat) (hc2 : c.toNat < 128) (hcnt : rdCnt 6 c r = some (n, s)) (hx : rdTxs tab n s = some (h, q)) (hhn : h.n.size ≤ 268435456) (hhv : h.v.size ≤ 268435456) :
    Calls Tryd.prog 35 #[.pointer (some ⟨ub, 0, none⟩), .pointer (some ⟨sb, 0, none⟩)] w fun e w' => e = .returned (.agg #[.string h.n, .string h.v]) ∧ ∃ cs' tv' rv', UnTo w w' ub cs cs' tP lim tv tv' (addT tab lim h) sb rv rv' q := by
  have hc8 : c.toNat ≤ 255 := Nat.le_of_lt_succ c.toNat_lt
  have hbA : Below w.heap.size w (w.alloc (.cells #[.string ⟨#[]⟩, .string ⟨#[]⟩] 33)) := (Below.refl _ _).alloc (Nat.le_refl _) _
  have hbox := heap_alloc_new w (.cells #[.string ⟨#[]⟩, .string ⟨#[]⟩] 33)
  have htk := stake_ok sb rv c r _ (hs.below hbA) (by omega)
  have hub := lt_of_block ht.tb.blk
  have hsl := lt_of_block hs.blk
  have hrl : ∀ j, rv.ownBlock = some j → j < w.heap.size := fun j hj => hs.bytes.lt hj
  have htl : tv.ownBlock ≠ some w.heap.size := fun e => by have := owns_lt ht.row e; omega
  have HF7 : Hid (∀ wx, Calls Tryd.prog 44 #[fm 128 7, .int .u8 c.toNat] wx fun e w' => e = .returned (.bool false) ∧ Below wx.heap.size wx w') := fun wx => by
    have := fbegins_any 128 7 c wx (by decide)
    rwa [show decide (c.toNat / 2 ^ 7 = 128 / 2 ^ 7) = false from by simp; omega] at this
  have HF6 : Hid (∀ wx, Calls Tryd.prog 44 #[fm 64 6, .int .u8 c.toNat] wx fun e w' => e = .returned (.bool true) ∧ Below wx.heap.size wx w') := fun wx => by
    have := fbegins_any 64 6 c wx (by decide)
    rwa [show decide (c.toNat / 2 ^ 6 = 64 / 2 ^ 6) = true from by simp; omega] at this
  have hsq := rdCnt_len hcnt
  simp only [List.length_cons] at hl
  have hnN : n ≤ 8388608 ∨ True := Or.inr trivial
  have HCN : Hid (∀ rv' wx, SrS wx sb rv' r → Calls Tryd.prog 45 #[.pointer (some ⟨sb, 0, none⟩), .int .u8 c.toNat, fm 64 6] wx fun e w' => ∃ rv'', n ≤ 8388608 ∧ e = .returned (.int .i64 (n : Int)) ∧ SrTo wx w' sb rv' rv'' s) := fun rv' wx hh => by
    refine (takeCount_any sb rv' r c 64 6 wx hh (by decide) (by omega)).mono ?_
    rintro e w' (⟨N, r', rv'', e1, e0, e2, e3⟩ | ⟨e1, _⟩)
    · rw [hcnt] at e1
      simp only [Option.some.injEq, Prod.mk.injEq] at e1
      rw [e1.1, e1.2]
      exact ⟨rv'', e0, e2, e3⟩
    · rw [hcnt] at e1; cases e1
  have HTX : Hid (∀ rv' wx, Gl wx → TbS wx ub cs tP lim tv tab → SrS wx sb rv' s → n ≤ 8388608 → Calls Tryd.prog 48 #[.pointer (some ⟨ub, 0, none⟩), .pointer (some ⟨sb, 0, none⟩), .int .i64 n] wx fun e w' => ∃ rv'', e = .returned (.agg #[.string h.n, .string h.v]) ∧ SrTo wx w' sb rv' rv'' q) := fun rv' wx hg hh1 hh hn9 => by
    refine (takeTexts_any ub cs tP lim tv tab sb rv' s n wx hg hh1 hh (by omega) hsb (by omega)).mono ?_
    rintro e w' (⟨h', r', rv'', e1, e2, e3⟩ | ⟨e1, _⟩)
    · rw [hx] at e1
      simp only [Option.some.injEq, Prod.mk.injEq] at e1
      rw [e1.1, e1.2]
      exact ⟨rv'', e2, e3⟩
    · rw [hx] at e1; cases e1
  have HTK := hide htk
  have HBA := hide hbA
  have HBX := hide hbox
  have HG := hide hgl
  have HT := hide ht
  have HA := hide ha
  have HRL := hide hrl
  have HTL := hide htl
  have HAD := hide (fun wx hh => add_any ub cs tP lim tv tab h wx hh hhn hhv)
  clear htk hbA hbox hgl ht hs ha hrl htl hx hcnt hnN
  generalize c.toNat = x at *
  go_enter Tryd.func35, Tryd.ntmps35
  go_wp2_with fail
  refine HTK.out.mono ?_
  rintro e w1 ⟨rv1, rfl, hs1⟩
  have hg1 := (HG.out.below HBA.out).sr hs1.chg hsb
  have hx1 : w1.heap[w.heap.size]? = some (.cells #[.string ⟨#[]⟩, .string ⟨#[]⟩] 33 (0, 0)) := by rw [hs1.chg.block _ (lt_of_block HBX.out) (by omega)]; exact HBX.out
  have hs1' : SrTo w w1 sb rv rv1 r := SrTo.before HBA.out hs1
  obtain ⟨g0, g1⟩ := hg1.num
  have HG1 := hide hg1
  have HX1 := hide hx1
  have HS1 := hide hs1'
  clear hs1 hs1' hg1 hx1
  go_wp2_with fail
  refine (HF7.out _).mono ?_
  rintro e w2 ⟨rfl, hb⟩
  have hg := HG1.out.below hb
  have hx : w2.heap[w.heap.size]? = some (.cells #[.string ⟨#[]⟩, .string ⟨#[]⟩] 33 (0, 0)) := by rw [hb.block _ (lt_of_block HX1.out)]; exact HX1.out
  have hs := HS1.out.below hb
  clear g0 g1
  obtain ⟨g0, g1⟩ := hg.add
  have HG2 := hide hg
  have HX2 := hide hx
  have HS2 := hide hs
  clear hb hg hx hs
  go_wp2_with fail
  refine (HF6.out _).mono ?_
  rintro e w3 ⟨rfl, hb⟩
  have hg := HG2.out.below hb
  have hx : w3.heap[w.heap.size]? = some (.cells #[.string ⟨#[]⟩, .string ⟨#[]⟩] 33 (0, 0)) := by rw [hb.block _ (lt_of_block HX2.out)]; exact HX2.out
  have hs := HS2.out.below hb
  clear g0 g1
  obtain ⟨g0, g1⟩ := hg.add
  have HG3 := hide hg
  have HX3 := hide hx
  have HS3 := hide hs
  clear hb hg hx hs
  go_wp2_with fail
  refine (HCN.out rv1 _ HS3.out.st).mono ?_
  rintro e wa ⟨rva, hn9, rfl, hsa⟩
  obtain ⟨hga, hua, hxa⟩ := num_after (w3 := wa) HG3.out HX3.out HS3.out ⟨hsa.st, hsa.chg.drop_drew, hsa.own⟩ hsb hsl HT.out HA.out
  have hta := HTX.out rva wa hga hua.st hua.sr hn9
  have HTT := hide hta
  have HUA := hide hua
  have HXA := hide hxa
  have HGA := hide hga
  clear hsa hga hua hxa hta g0 g1
  go_wp2_with fail
  refine HTT.out.mono ?_
  rintro e wb ⟨rvb, rfl, hsb9⟩
  obtain ⟨hxb, hub9⟩ := txs_after HXA.out HUA.out hsb9 hsl HT.out HA.out
  obtain ⟨k0, k1, k2, k3⟩ := box_free hxb (Below.refl _ _)
  have HUB := hide hub9
  have HXB := hide hxb
  clear hsb9 hub9 hxb
  have htd : TbS (wb.alloc (.cells #[.string h.n, .string h.v] 33)).drew ub cs tP lim tv tab := HUB.out.st.chg (((Chg.refl (fun _ => False) wb).alloc _).drew) id (fun _ _ => id)
  have had := HAD.out _ htd
  have HAA := hide had
  clear htd had
  go_wp2
  go_region_law (refine step_call rfl 42 Tryd.f42 Tryd.func42 (by kernel_rfl) rfl [.tmp 34, .tmp 35] #[45, 33] rfl [.pointer (some ⟨ub, 0, none⟩), .agg #[.string h.n, .string h.v]] (by simp [Act.eval, Act.put]) HAA.out ?_; rintro e w6 ⟨rfl, cs6, tv6, h6⟩; refine ⟨_, rfl, ?_⟩; obtain ⟨m1, m2, m3, m4⟩ := add_after HXB.out HUB.out h6 hub HTL.out HT.out HA.out; obtain ⟨k0, k1, k2, k3⟩ := box_free m1 (Below.refl _ _); obtain ⟨j0, j1, j2, j3⟩ := box_free m2 (Below.refl _ _); have HM3 := hide m3; have HM4 := hide m4; clear h6 m1 m2 m3 m4)
  all_goals go_wp2
  all_goals refine bodyPost_ret (v := .agg #[.string h.n, .string h.v]) ?_ rfl ⟨rfl, cs6, tv6, rvb, ?_⟩
  all_goals first
    | (simp [results, Tryd.results35, go_sem, k0, k1]; done)
    | exact (HM3.out.set (by omega) hub hsl HRL.out HM4.out _).set (by omega) hub hsl HRL.out HM4.out _

/-- Behind takePair, where there is a pair. -/
theorem takePair_ok (ub : Nat) (cs : Array Value) (tP : TypeId) (lim : Nat) (tv : Value) (tab : List HP) (sb : Nat) (rv : Value) (l : List UInt8) (h : HP) (tab' : List HP) (q : List UInt8) (w : World) (hgl : Gl w) (ht : TbS w ub cs tP lim tv tab) (hs : SrS w sb rv l) (ha : Apart ub sb tv rv) (hl : l.length ≤ 134217728) (hsb : 7 ≤ sb) (hq : rdPair tab lim l = some (h, tab', q)) :
    Calls Tryd.prog 35 #[.pointer (some ⟨ub, 0, none⟩), .pointer (some ⟨sb, 0, none⟩)] w fun e w' => e = .returned (.agg #[.string h.n, .string h.v]) ∧ ∃ cs' tv' rv', UnTo w w' ub cs cs' tP lim tv tv' tab' sb rv rv' q := by
  obtain ⟨_, hhn, hhv⟩ := rdPair_len hq (numd_small (Nat.le_trans ht.fit ht.small)) hl
  cases l with
  | nil => simp [rdPair] at hq
  | cons c r =>
    simp only [rdPair] at hq
    split at hq
    · rename_i h1
      cases hc : rdCnt 7 c r with
      | none => rw [hc] at hq; cases hq
      | some nq =>
        obtain ⟨n, s⟩ := nq
        rw [hc] at hq
        simp only at hq
        split at hq
        · cases hq
        · rename_i hn
          cases hx : (numd tab)[n - 1]? with
          | none => rw [hx] at hq; cases hq
          | some x =>
            rw [hx] at hq
            simp only [Option.some.injEq, Prod.mk.injEq] at hq
            obtain ⟨rfl, rfl, rfl⟩ := hq
            exact takePair_num ub cs tP lim tv tab sb rv c r n x s w hgl ht hs ha hl hsb h1 hc hn hx
    · rename_i h1
      split at hq
      · rename_i h2
        cases hc : rdCnt 6 c r with
        | none => rw [hc] at hq; cases hq
        | some nq =>
          obtain ⟨n, s⟩ := nq
          rw [hc] at hq
          simp only at hq
          cases hx : rdTxs tab n s with
          | none => rw [hx] at hq; cases hq
          | some x =>
            obtain ⟨x, z⟩ := x
            rw [hx] at hq
            simp only [Option.some.injEq, Prod.mk.injEq] at hq
            obtain ⟨rfl, rfl, rfl⟩ := hq
            exact takePair_add ub cs tP lim tv tab sb rv c r n s x z w hgl ht hs ha hl hsb h2 (by omega) hc hx hhn hhv
      · split at hq
        · rename_i h3
          cases hc : rdCnt 4 c r with
          | none => rw [hc] at hq; cases hq
          | some nq =>
            obtain ⟨n, s⟩ := nq
            rw [hc] at hq
            simp only at hq
            cases hx : rdTxs tab n s with
            | none => rw [hx] at hq; cases hq
            | some x =>
              obtain ⟨x, z⟩ := x
              rw [hx] at hq
              simp only [Option.some.injEq, Prod.mk.injEq] at hq
              obtain ⟨rfl, rfl, rfl⟩ := hq
              exact takePair_not ub cs tP lim tv tab sb rv c r n s x z w hgl ht hs ha hl hsb h3 hc hx hhn hhv
        · cases hq
end Go.Proofs.YtpmmpbklpclnhaaDoor
