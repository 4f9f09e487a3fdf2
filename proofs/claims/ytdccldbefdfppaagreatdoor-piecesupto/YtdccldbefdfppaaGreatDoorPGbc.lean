import Derived.Test.YtdccldbefdfppaaGreatDoorPGax
import Derived.Test.YtdccldbefdfppaaGreatDoorPGaz
import Derived.Test.YtdccldbefdfppaaGreatDoorPFxStreams
import Derived.Test.YtdccldbefdfppaaGreatDoorPGaf
import Derived.Test.YtdccldbefdfppaaGreatDoorPGai
set_option linter.unusedVariables false
set_option linter.unusedSimpArgs false
namespace Go.Proofs.YtdccldbefdfppaaGreatDoor
open Go.RowKit
section
def StX (w : World) (eb : Nat) (F : Nat → Prop) (P : GX) : Prop := ∃ mb X, InvX w eb mb X ∧ X.bare = P ∧ ∀ j, F j ↔ FootX eb mb X j
def GoX (w w' : World) (eb : Nat) (F : Nat → Prop) (P : GX) : Prop := ∃ F', StX w' eb F' P ∧ Chg F w w' ∧ ∀ j, F' j → F j ∨ w.heap.size ≤ j
def StF (w : World) (eb : Nat) (F : Nat → Prop) (P : GX) : Prop := ∃ mb X, InvX w eb mb X ∧ RdOk X.g ∧ X.bare = P ∧ ∀ j, F j ↔ FootX eb mb X j
def GoF (w w' : World) (eb : Nat) (F : Nat → Prop) (P : GX) : Prop := ∃ F', StF w' eb F' P ∧ Chg F w w' ∧ ∀ j, F' j → F j ∨ w.heap.size ≤ j
section
variable {w w' : World} {eb : Nat} {F : Nat → Prop} {P : GX}
theorem StF.st (h : StF w eb F P) : StX w eb F P := by
 obtain ⟨mb, X, h1, -, h2, h3⟩ := h
 exact ⟨mb, X, h1, h2, h3⟩
theorem StX.lt (h : StX w eb F P) {j : Nat} (hj : F j) : j < w.heap.size := by
 obtain ⟨mb, X, hi, -, hF⟩ := h
 exact hi.lt ((hF j).1 hj)
theorem StX.below (h : StX w eb F P) (hb : Below w.heap.size w w') : StX w' eb F P := by
 obtain ⟨mb, X, hi, hp, hF⟩ := h
 exact ⟨mb, X, hi.below hb, hp, hF⟩
theorem StX.chg {S : Nat → Prop} (h : StX w eb F P) (hc : Chg S w w') (hs : ∀ j, F j → ¬ S j) : StX w' eb F P := by
 obtain ⟨mb, X, hi, hp, hF⟩ := h
 exact ⟨mb, X, hi.chg hc (fun j hj => hs j ((hF j).2 hj)), hp, hF⟩
theorem StF.below (h : StF w eb F P) (hb : Below w.heap.size w w') : StF w' eb F P := by
 obtain ⟨mb, X, hi, hr, hp, hF⟩ := h
 exact ⟨mb, X, hi.below hb, hr, hp, hF⟩
theorem StF.chg {S : Nat → Prop} (h : StF w eb F P) (hc : Chg S w w') (hs : ∀ j, F j → ¬ S j) : StF w' eb F P := by
 obtain ⟨mb, X, hi, hr, hp, hF⟩ := h
 exact ⟨mb, X, hi.chg hc (fun j hj => hs j ((hF j).2 hj)), hr, hp, hF⟩
theorem GoX.of {mb : Nat} {X X' : GX} (hF : ∀ j, F j ↔ FootX eb mb X j) (hn : NextX w w' eb mb X X') (hp : X'.bare = P) : GoX w w' eb F P :=
 ⟨FootX eb mb X', ⟨mb, X', hn.inv, hp, fun j => Iff.rfl⟩, hn.chg.mono fun j _ e => (hF j).2 e, fun j hj => (hn.grow j hj).imp_left (hF j).2⟩
theorem GoX.same (h : StX w eb F P) (hb : Below w.heap.size w w') : GoX w w' eb F P := ⟨F, h.below hb, Chg.of_below hb, fun j hj => Or.inl hj⟩
theorem fed_is (P : GX) (hP : P.bare = P) (l : List UInt8) : (P.fed l).bare = P.fed l := by rw [← bare_fed, hP]
theorem cx_feed {bv : Value} {l : List UInt8} (h : StF w eb F P) (ho : SoundX P) (hgl : Gl w) (hge : ∀ j, j < 7 → ¬ F j) (hb : BytesIn w bv l) (hbn : ∀ j, bv.ownBlock = some j → ¬ F j) (hl : l.length ≤ 4611686018427387904) :
  Calls Tryz.prog 16 #[.pointer (some ⟨eb, 0, none⟩), bv] w fun e w' => e = .returned (.int .i64 (P.fed l).g.m.fault) ∧ GoF w w' eb F (P.fed l) := by
 obtain ⟨mb, X, hi, hr, rfl, hF⟩ := h
 have e1 : (X.fed l).g.m.fault = (X.bare.fed l).g.m.fault := by rw [bare_fed]; rfl
 refine (x_feedX eb mb X bv l w hi hr (ho.of_bare (gbare_bare X)) hgl (fun j hj e => hge j hj ((hF j).2 e)) hb (fun j hj e => hbn j hj ((hF j).2 e)) hl).mono ?_
 rintro e w' ⟨rfl, Y', h1, h2, h3⟩
 refine ⟨by rw [e1], FootX eb mb Y', ⟨mb, Y', h3.inv, h2, by rw [h1, bare_fed], fun j => Iff.rfl⟩, h3.chg.mono fun j _ e => (hF j).2 e, fun j hj => (h3.grow j hj).imp_left (hF j).2⟩
theorem cx_fault (h : StX w eb F P) : Calls Tryz.prog 35 #[.pointer (some ⟨eb, 0, none⟩)] w fun e w' => e = .returned (.int .i64 P.g.m.fault) ∧ w' = w := by
 obtain ⟨mb, X, hi, rfl, hF⟩ := h
 exact xFault_any eb X.g.m w hi.inv.en
end
structure MeekG (g : GEnd) : Prop where
 fault : 0 ≤ g.m.fault ∧ g.m.fault ≤ 14
 told : g.m.told = false
 out : g.out = []
 wanted : 0 ≤ g.m.wanted ∧ g.m.wanted ≤ 1000
 pnum : g.m.pnum < 4294967296
 own : 0 ≤ g.m.own ∧ g.m.own ≤ 1000
 other : 0 ≤ g.m.other ∧ g.m.other ≤ 2147483647
 receive : 0 ≤ g.m.receive
 owed : 0 ≤ g.m.owed
 sum : g.m.receive + g.m.owed + (sumU g.K : Int) ≤ 1000
 nn : (g.K.map fun s => s.st.number).Nodup
 st : ∀ s ∈ g.K, (1 ≤ s.st.number ∧ s.st.number ≤ 32767) ∧ -1000 ≤ s.st.receive ∧ 0 ≤ s.st.owed ∧ s.st.receive + s.st.owed + (s.un.length : Int) ≤ 0 ∧ (-2147483648 ≤ s.st.send ∧ s.st.send ≤ 2147483647)
 calm : ∀ s ∈ g.K, s.st.announced = true ∧ s.st.sentAll = false ∧ s.st.shut = false ∧ s.st.last = false ∧ s.wa = [] ∧ (s.st.reset = 0 ∨ s.st.reset = 2)
 cls : ∀ n ∈ g.L, ∃ s ∈ g.K, s.st.number = n
 few : g.L.length ≤ 8
 ans : ∀ a ∈ g.ans, (0 ≤ a.kind ∧ a.kind ≤ 255 ∧ 0 ≤ a.flags ∧ a.flags ≤ 255 ∧ a.body.length ≤ 64)
 alen : g.ans.length ≤ 8
 res : g.res = []
theorem meek_ok {g : GEnd} (h : OkG g) : MeekG g := by
 have hG := h.good
 have h1 := hG.m.fault
 have h2 := hG.m.tgt
 have h3 := hG.sum
 exact ⟨by omega, h.calm.told, h.calm.out, hG.m.wanted, hG.m.pnum, hG.m.own, hG.m.other, hG.m.receive, hG.m.owed, by omega, hG.nn, fun s hs => ⟨(hG.st s hs).num, (hG.st s hs).rcv, (hG.st s hs).owed, (hG.st s hs).sum, (hG.st s hs).send⟩, h.calm.st, hG.cls, hG.few, hG.ans, hG.alen, h.calm.res⟩
theorem mem_mute {L : List Int} {K : List GSt} {s : GSt} (h : s ∈ muteN L K) : ∃ t ∈ K, s = t ∨ s = t.mute := by
 obtain ⟨t, ht, rfl⟩ := List.mem_map.1 h
 refine ⟨t, ht, ?_⟩
 split
 ·exact Or.inr rfl
 ·exact Or.inl rfl
theorem sumU_mute (L : List Int) (K : List GSt) : sumU (muteN L K) = sumU K := by
 unfold sumU muteN
 rw [List.map_map]
 congr 1
 apply List.map_congr_left
 intro s _
 show (if s.st.number ∈ L then s.mute else s).un.length = s.un.length
 split <;> rfl
theorem nums_mute (L : List Int) (K : List GSt) : ((muteN L K).map fun s => s.st.number) = K.map fun s => s.st.number := by
 unfold muteN
 rw [List.map_map]
 apply List.map_congr_left
 intro s _
 show (if s.st.number ∈ L then s.mute else s).st.number = s.st.number
 split <;> rfl
theorem meek_died {g : GEnd} {code : Int} (h : MeekG g) (hc : 0 ≤ code ∧ code ≤ 14) : MeekG (g.died code) := by
 refine ⟨hc, h.told, h.out, h.wanted, h.pnum, h.own, h.other, h.receive, h.owed, ?_, ?_, fun s hs => ?_, fun s hs => ?_, fun n hn => ?_, h.few, fun a ha => (by cases ha), by show ([] : List Ans).length ≤ 8; simp, rfl⟩
 ·show g.m.receive + g.m.owed + (sumU (muteN g.L g.K) : Int) ≤ 1000
  rw [sumU_mute]; exact h.sum
 ·show ((muteN g.L g.K).map fun s => s.st.number).Nodup
  rw [nums_mute]; exact h.nn
 ·obtain ⟨t, ht, rfl | rfl⟩ := mem_mute hs
  ·exact h.st _ ht
  ·exact h.st t ht
 ·obtain ⟨t, ht, rfl | rfl⟩ := mem_mute hs
  ·exact h.calm _ ht
  ·obtain ⟨a1, a2, a3, a4, a5, a6⟩ := h.calm t ht
   exact ⟨a1, a2, a3, a4, rfl, a6⟩
 ·obtain ⟨s, hs, e⟩ := h.cls n hn
  refine ⟨_, List.mem_map.2 ⟨s, hs, rfl⟩, ?_⟩
  split <;> exact e
theorem meek_of_crude {g : GEnd} (h : MeekG g.crude) : MeekG g := by
 rw [crude_eq] at h
 refine ⟨h.fault, h.told, h.out, h.wanted, h.pnum, h.own, h.other, h.receive, h.owed, ?_, ?_, fun s hs => h.st s.crude (List.mem_map.2 ⟨s, hs, rfl⟩), fun s hs => h.calm s.crude (List.mem_map.2 ⟨s, hs, rfl⟩), fun n hn => ?_, h.few, fun a ha => h.ans a.bare (List.mem_map.2 ⟨a, ha, rfl⟩), by simpa using h.alen, h.res⟩
 ·have := h.sum
  simp only [sumU_crude] at this
  exact this
 ·have := h.nn
  simp only [nums_crude] at this
  exact this
 ·obtain ⟨s, hs, e⟩ := h.cls n hn
  obtain ⟨t, ht, rfl⟩ := List.mem_map.1 hs
  exact ⟨t, ht, e⟩
theorem meek_fine {g : GEnd} (h : MeekG g) : FineA g := by
 have h1 := h.fault
 have h2 := h.sum
 have h3 := h.receive
 have h4 := h.owed
 have h5 := h.own
 have h6 := h.other
 refine ⟨by omega, fun _ _ => h.told, fun _ => ⟨rfl, h.wanted, ⟨h.owed, by show g.m.owed ≤ _; omega⟩, ⟨by show _ ≤ g.m.receive; omega, by show g.m.receive + g.m.owed ≤ _; omega⟩, h.pnum, ⟨by show _ ≤ g.m.own; omega, by show g.m.own ≤ _; omega⟩, ⟨by show _ ≤ g.m.other; omega, by show g.m.other ≤ _; omega⟩, h.ans, fun n hn => ?_, fun s hs => ?_, by show g.L.length ≤ _; have := h.few; omega⟩⟩
 ·have hn : n ∈ g.res := hn
  rw [h.res] at hn; cases hn
 ·obtain ⟨b1, b2, b3, b4, b5⟩ := h.st s hs
  obtain ⟨a1, a2, a3, a4, a5, a6⟩ := h.calm s hs
  refine ⟨by omega, by omega, by omega, by omega, a1, ?_⟩
  unfold EndM.hasD
  rw [a1, a2, a5, a3]
  rfl
theorem meek_tidy {g : GEnd} (h : MeekG g) : Tidy g := ⟨h.nn, h.cls⟩
theorem meek_mu {g : GEnd} (h : MeekG g) : muA g ≤ 30 := by
 have h1 := h.few
 have h2 := h.alen
 have h3 := List.countP_le_length (p := fun n => decide (1 ≤ (atN g.K n).st.owed)) (l := g.L)
 unfold muA
 rw [h.res]
 split
 ·split <;> omega
 ·simp only [List.length_nil]
  repeat' split
  all_goals omega
def GSt.took (s : GSt) (k : Nat) : GSt := { s with st := { s.st with owed := s.st.owed + k }, un := s.un.drop k }
def GX.readX (P : GX) (s : GSt) : GX := if s.st.reset ≠ 0 ∨ (P.g.m.fault ≠ 0 ∧ s.st.hasAll = false ∧ s.un = []) then P else P.to { P.g with m := P.g.m.owes s.un.length, K := updN s.st.number (fun x => x.took s.un.length) P.g.K }
def GX.readB (P : GX) (s : GSt) : List UInt8 := if s.st.reset ≠ 0 ∨ (P.g.m.fault ≠ 0 ∧ s.st.hasAll = false ∧ s.un = []) then [] else s.un
def GX.readE (P : GX) (s : GSt) : Bool := if s.st.reset ≠ 0 ∨ (P.g.m.fault ≠ 0 ∧ s.st.hasAll = false ∧ s.un = []) then false else s.st.hasAll
def GX.readC (P : GX) (s : GSt) : Int := if s.st.reset ≠ 0 then 6 else if P.g.m.fault ≠ 0 ∧ s.st.hasAll = false ∧ s.un = [] then 7 else 0
theorem meek_read {P : GX} {s : GSt} (h : MeekG P.g) (hs : s ∈ P.g.K) : MeekG (P.readX s).g := by
 unfold GX.readX
 split
 ·exact h
 ·have hsu := sumU_upd (f := fun x => x.took s.un.length) h.nn hs rfl
  have hun : (s.took s.un.length).un.length = 0 := by simp [GSt.took]
  simp only [hun] at hsu
  obtain ⟨b1, b2, b3, b4, b5⟩ := h.st s hs
  have h2 := h.sum
  have h4 := h.owed
  refine ⟨h.fault, h.told, h.out, h.wanted, h.pnum, h.own, h.other, h.receive, ?_, ?_, ?_, fun x hx => ?_, fun x hx => ?_, fun n hn => ?_, h.few, h.ans, h.alen, h.res⟩
  ·show 0 ≤ P.g.m.owed + (s.un.length : Int)
   omega
  ·show P.g.m.receive + (P.g.m.owed + (s.un.length : Int)) + (sumU (updN s.st.number (fun x => x.took s.un.length) P.g.K) : Int) ≤ 1000
   omega
  ·show ((updN s.st.number (fun x => x.took s.un.length) P.g.K).map fun s => s.st.number).Nodup
   rw [updN_num (f := fun x => x.took s.un.length) (fun x => rfl)]; exact h.nn
  ·obtain ⟨t, ht, ⟨e, rfl⟩ | ⟨e, rfl⟩⟩ := mem_updN hx
   ·have : t = s := inj_nd (fun s : GSt => s.st.number) h.nn ht hs e
    subst this
    refine ⟨b1, b2, ?_, ?_, b5⟩
    ·show 0 ≤ t.st.owed + (t.un.length : Int)
     omega
    ·show t.st.receive + (t.st.owed + (t.un.length : Int)) + ((t.un.drop t.un.length).length : Int) ≤ 0
     rw [List.drop_length]
     simp
     omega
   ·exact h.st _ ht
  ·obtain ⟨t, ht, ⟨e, rfl⟩ | ⟨e, rfl⟩⟩ := mem_updN hx
   ·exact h.calm t ht
   ·exact h.calm _ ht
  ·obtain ⟨x, hx, e⟩ := h.cls n hn
   refine ⟨_, List.mem_map.2 ⟨x, hx, rfl⟩, ?_⟩
   split <;> exact e
theorem nums_read {P : GX} (s : GSt) : ((P.readX s).g.K.map fun x => x.st.number) = P.g.K.map fun x => x.st.number := by
 unfold GX.readX
 split
 ·rfl
 ·exact updN_num (f := fun x => x.took s.un.length) (fun x => rfl) _
end
section
section
variable {w w' : World} {eb : Nat} {F : Nat → Prop} {P : GX}
theorem stX_at {mb : Nat} {X : GX} (hi : InvX w eb mb X) {s : GSt} (hs : s ∈ X.bare.g.K) : ∃ x ∈ X.g.K, x.crude = s ∧ findK (X.g.K.map GSt.str) s.st.number = some x.str := by
 have hs : s ∈ X.g.crude.K := hs
 rw [crude_eq] at hs
 obtain ⟨x, hx, rfl⟩ := List.mem_map.1 hs
 exact ⟨x, hx, rfl, hi.inv.find hx⟩
theorem bareK_num (X : GX) : (X.bare.g.K.map fun s => s.st.number) = X.g.K.map fun s => s.st.number := by
 show (X.g.crude.K.map fun s => s.st.number) = _
 rw [crude_eq]
 exact nums_crude _
theorem cx_streams (h : StX w eb F P) (hm : MeekG P.g) : Calls Tryz.prog 36 #[.pointer (some ⟨eb, 0, none⟩)] w fun e w' => ∃ v, e = .returned v ∧ w'.ownsRow w.heap.size 3 1 v P.g.K.length ((sortZ (P.g.K.map fun s => s.st.number)).map encZ) ∧ Below w.heap.size w w' := by
 obtain ⟨mb, X, hi, rfl, hF⟩ := h
 have hx := meek_of_crude hm
 have e1 : (X.g.K.map GSt.str).map (fun x => x.2.number) = X.g.K.map fun s => s.st.number := by rw [List.map_map]; rfl
 have hlen : X.g.K.length ≤ 32768 := by
  have := few_ints (n := 32768) hx.nn (fun n hn => by
   obtain ⟨s, hs, rfl⟩ := List.mem_map.1 hn
   have := (hx.st s hs).1
   omega)
  simpa using this
 have := xStreams_any eb mb X.g.m (X.g.K.map GSt.str) w hi.inv.en hi.inv.km hi.inv.kn (fun x hxx => by
  obtain ⟨s, hs, rfl⟩ := List.mem_map.1 hxx
  have := (hx.st s hs).1
  exact ⟨by show _ ≤ s.st.number; omega, by show s.st.number ≤ _; omega⟩) (by rw [e1]; exact hx.nn) (by rw [List.length_map]; omega)
 rw [e1, List.length_map] at this
 rw [bareK_num]
 have e2 : X.bare.g.K.length = X.g.K.length := by
  have := congrArg List.length (bareK_num X)
  simpa using this
 rw [e2]
 exact this
theorem cx_heads {s : GSt} (h : StX w eb F P) (hs : s ∈ P.g.K) (hl : (P.hs s.st.number).length ≤ 1048576) : Calls Tryz.prog 37 #[.pointer (some ⟨eb, 0, none⟩), .int .i64 s.st.number] w fun e w' => ∃ v', e = .returned (.tuple #[v', .int .i64 0]) ∧ HsIn w' v' (P.hs s.st.number) ∧ (∀ j, v'.ownBlock = some j → w.heap.size ≤ j) ∧ Below w.heap.size w w' := by
 obtain ⟨mb, X, hi, rfl, hF⟩ := h
 obtain ⟨x, hx, rfl, hfi⟩ := stX_at hi hs
 exact xHeads_any eb mb X.g.m _ x.st.number x.str (X.hs x.st.number) w hi.inv.en hi.inv.km hi.inv.kn hfi (hi.hd x hx) hl
theorem cx_windows0 (h : StX w eb F P) : Calls Tryz.prog 25 #[.pointer (some ⟨eb, 0, none⟩), .int .i64 0] w fun e w' => e = .returned (.tuple #[.int .i64 P.g.m.send, .int .i64 P.g.m.receive, .int .i64 0]) ∧ Below w.heap.size w w' := by
 obtain ⟨mb, X, hi, rfl, hF⟩ := h
 exact xWindows_of eb 0 _ _ w (eWindows_conn eb X.g.m w hi.inv.en)
theorem cx_windows {s : GSt} (h : StX w eb F P) (hm : MeekG P.g) (hs : s ∈ P.g.K) : Calls Tryz.prog 25 #[.pointer (some ⟨eb, 0, none⟩), .int .i64 s.st.number] w fun e w' => e = .returned (.tuple #[.int .i64 (P.g.m.other + s.st.send), .int .i64 (P.g.m.own + s.st.receive), .int .i64 0]) ∧ Below w.heap.size w w' := by
 have b1 := hm.own
 have b2 := hm.other
 obtain ⟨c1, c2, c3, c4, c5⟩ := hm.st s hs
 obtain ⟨mb, X, hi, rfl, hF⟩ := h
 obtain ⟨x, hx, rfl, hfi⟩ := stX_at hi hs
 have b1 : 0 ≤ X.g.m.own ∧ X.g.m.own ≤ 1000 := b1
 have b2 : 0 ≤ X.g.m.other ∧ X.g.m.other ≤ 2147483647 := b2
 have c1 : 1 ≤ x.st.number ∧ x.st.number ≤ 32767 := c1
 have c2 : -1000 ≤ x.st.receive := c2
 have c3 : 0 ≤ x.st.owed := c3
 have c4 : x.st.receive + x.st.owed + (x.un.length : Int) ≤ 0 := c4
 have c5 : -2147483648 ≤ x.st.send ∧ x.st.send ≤ 2147483647 := c5
 exact xWindows_of eb _ _ _ w (eWindows_st eb mb X.g.m _ x.st.number x.str w hi.inv.en hi.inv.km hi.inv.kn hfi (by omega) (by omega) (by show _ ≤ x.st.receive ∧ x.st.receive ≤ _; omega) (by omega) (by show _ ≤ x.st.send ∧ x.st.send ≤ _; omega))
theorem bytes_none (w : World) : BytesIn w (.slice none 0 0) [] := Or.inl ⟨rfl, rfl⟩
theorem cx_read {s : GSt} (h : StX w eb F P) (hm : MeekG P.g) (hs : s ∈ P.g.K) :
  Calls Tryz.prog 39 #[.pointer (some ⟨eb, 0, none⟩), .int .i64 s.st.number, .int .i64 1099511627776] w fun e w' => (∃ v, e = .returned (.tuple #[v, .bool (P.readE s), .int .i64 (P.readC s)]) ∧ BytesIn w' v (P.readB s) ∧ ∀ j, v.ownBlock = some j → F j ∨ w.heap.size ≤ j) ∧ GoX w w' eb F (P.readX s) := by
 have hst := h
 have hsum := hm.sum
 have hrc := hm.receive
 have how := hm.owed
 have hul : s.un.length ≤ sumU P.g.K := sumU_mem hs
 obtain ⟨c1, c2, c3, c4, c5⟩ := hm.st s hs
 obtain ⟨mb, X, hi, rfl, hF⟩ := h
 obtain ⟨x, hx, rfl, hfi⟩ := stX_at hi hs
 have hfi : findK (X.g.K.map GSt.str) x.st.number = some x.str := hfi
 by_cases hr : x.st.reset ≠ 0
 ·have hc := xRead_of (R := fun a b c w' => (a = .slice none 0 0 ∧ b = .bool false ∧ c = .int .i64 6) ∧ w' = w) eb x.st.number 1099511627776 w ((eRead_reset eb mb X.g.m _ x.st.number 1099511627776 x.str w hi.inv.en hi.inv.km hi.inv.kn (by omega) hfi hr).mono fun e w' h => ⟨_, _, _, h.1, ⟨rfl, rfl, rfl⟩, h.2⟩)
  refine hc.mono ?_
  rintro e w' ⟨a, b, c, rfl, ⟨rfl, rfl, rfl⟩, rfl⟩
  have hr' : x.crude.st.reset ≠ 0 := hr
  refine ⟨⟨.slice none 0 0, ?_, ?_, fun j hj => (by cases hj)⟩, ?_⟩
  ·unfold GX.readE GX.readC
   rw [if_pos (Or.inl hr'), if_pos hr']
  ·unfold GX.readB
   rw [if_pos (Or.inl hr')]
   exact bytes_none _
  ·unfold GX.readX
   rw [if_pos (Or.inl hr')]
   exact GoX.same hst (Below.refl _ _)
 have hr0 : x.st.reset = 0 := Decidable.not_not.1 hr
 have hr' : ¬ x.crude.st.reset ≠ 0 := hr
 by_cases hd : X.g.m.fault ≠ 0 ∧ x.st.hasAll = false ∧ x.un = []
 ·have hd' : X.bare.g.m.fault ≠ 0 ∧ x.crude.st.hasAll = false ∧ x.crude.un = [] := hd
  obtain ⟨ua, uc, hu⟩ := slice_len (hi.inv.un x hx)
  rw [hd.2.2] at hu
  have hc := xRead_of (R := fun a b c w' => (a = .slice none 0 0 ∧ b = .bool false ∧ c = .int .i64 7) ∧ w' = w) eb x.st.number 1099511627776 w ((eRead_dead eb mb X.g.m _ x.st.number 1099511627776 x.str ua uc w hi.inv.en hd.1 hi.inv.km hi.inv.kn (by omega) hfi hr0 hd.2.1 hu).mono fun e w' h => ⟨_, _, _, h.1, ⟨rfl, rfl, rfl⟩, h.2⟩)
  refine hc.mono ?_
  rintro e w' ⟨a, b, c, rfl, ⟨rfl, rfl, rfl⟩, rfl⟩
  refine ⟨⟨.slice none 0 0, ?_, ?_, fun j hj => (by cases hj)⟩, ?_⟩
  ·unfold GX.readE GX.readC
   rw [if_pos (Or.inr hd'), if_neg hr', if_pos hd']
  ·unfold GX.readB
   rw [if_pos (Or.inr hd')]
   exact bytes_none _
  ·unfold GX.readX
   rw [if_pos (Or.inr hd')]
   exact GoX.same hst (Below.refl _ _)
 have hd' : ¬ (X.bare.g.m.fault ≠ 0 ∧ x.crude.st.hasAll = false ∧ x.crude.un = []) := hd
 have hno : ¬ (x.crude.st.reset ≠ 0 ∨ (X.bare.g.m.fault ≠ 0 ∧ x.crude.st.hasAll = false ∧ x.crude.un = [])) := fun e => e.elim hr' hd'
 have hl' : X.g.m.fault = 0 ∨ x.str.2.hasAll = true ∨ 0 < x.un.length := by
  by_cases e1 : X.g.m.fault = 0
  ·exact Or.inl e1
  ·refine Or.inr ?_
   by_cases e2 : x.st.hasAll = true
   ·exact Or.inl e2
   ·refine Or.inr ?_
    cases e3 : x.un with
    | nil => exact absurd ⟨e1, by simpa using e2, e3⟩ hd
    | cons y r => simp
 have c3 : 0 ≤ x.st.owed := c3
 have c2 : -1000 ≤ x.st.receive := c2
 have c4 : x.st.receive + x.st.owed + (x.un.length : Int) ≤ 0 := c4
 have hul : x.un.length ≤ sumU X.bare.g.K := hul
 have hrc : 0 ≤ X.g.m.receive := hrc
 have how : 0 ≤ X.g.m.owed := how
 have hsum : X.g.m.receive + X.g.m.owed + (sumU X.bare.g.K : Int) ≤ 1000 := hsum
 have hcut : cutN 1099511627776 x.un.length = x.un.length := by unfold cutN; omega
 have he := eRead_ok eb mb X.g.m _ x.st.number 1099511627776 x.str x.un w hi.inv.en hi.inv.km hi.inv.kn (by omega) hfi hr0 hl' (hi.inv.un x hx) (by omega) (by omega) (by omega) (by show _ ≤ x.st.owed; omega) (by show x.st.owed ≤ _; omega)
 rw [hcut] at he
 have hc := xRead_of (R := fun a b c w' => (∃ s, a = .slice s x.un.length x.un.length ∧ b = .bool x.st.hasAll ∧ c = .int .i64 0 ∧ BytesIn w' (.slice s x.un.length x.un.length) x.un ∧ ∀ j, (Value.slice s x.un.length x.un.length).ownBlock = some j → F j ∨ w.heap.size ≤ j) ∧ GoX w w' eb F (X.bare.readX x.crude)) eb x.st.number 1099511627776 w (he.mono fun e w' h => by
  obtain ⟨v, hR⟩ := h
  obtain ⟨s, h1, h2, h3⟩ := hR.eq
  rw [List.take_length] at h2
  refine ⟨_, _, _, h1, ⟨s, rfl, by simp [GSt.str], rfl, h2, fun j hj => Or.inl ((hF j).2 (Or.inl (foot_un (g := X.g) hx (h3 j hj))))⟩, ?_⟩
  have keep : ∀ {k : Nat} {v' : Value} {xs : List Value} {ty : TypeId}, w.ownsRow 0 ty 1 v' k xs → (∀ j, v'.ownBlock = some j → j ≠ eb ∧ j ≠ x.sb) → w'.ownsRow 0 ty 1 v' k xs := fun hr hj => owns_chg hr hR.chg (fun j hjj e => by
   obtain ⟨a, b⟩ := hj j hjj
   rcases e with e | e
   ·exact a e
   ·exact b e)
  have hrow : w'.ownsRow 0 5 1 v (x.un.drop x.un.length).length ((x.un.drop x.un.length).map B) := by
   rw [List.length_drop]
   exact owns_base hR.row (fun _ _ => Nat.zero_le _)
  have hiI := hi.inv
  have hn := hiI.onSt (S := fun j => j = eb ∨ j = x.sb) (m' := X.g.m.owes x.un.length) (s := x) (s' := ⟨x.sb, x.st.taken x.un.length v, x.un.drop x.un.length, x.wa⟩) (L' := X.g.L) (o' := X.g.out) (3 + 2 * x.sb) hx hR.chg (by
    rintro j (e | e)
    ·exact Or.inl e
    ·exact Or.inr (Or.inl e)) hR.en hR.st rfl rfl rfl rfl rfl rfl
   (keep hiI.row (fun j hj => ⟨fun e => by rw [e] at hj; exact owns_ne hiI.row hiI.en.blk (by decide) hj, fun e => by rw [e] at hj; exact owns_ne hiI.row (hiI.st hx).blk (by decide) hj⟩)) (fun j hj => Or.inl hj) (List.Sublist.refl _)
   (keep hiI.out (fun j hj => ⟨fun e => by rw [e] at hj; exact owns_ne hiI.out hiI.en.blk (by decide) hj, fun e => by rw [e] at hj; exact owns_ne hiI.out (hiI.st hx).blk (by decide) hj⟩)) (fun j hj => Or.inl hj)
   hrow (fun j hj => Or.inr ⟨(hR.row.lt j hj).1, rfl⟩)
   (keep (hiI.wa x hx) (fun j hj => ⟨fun e => by rw [e] at hj; exact owns_ne (hiI.wa x hx) hiI.en.blk (by decide) hj, fun e => by rw [e] at hj; exact owns_ne (hiI.wa x hx) (hiI.st hx).blk (by decide) hj⟩)) (fun j hj => Or.inl hj)
  have hsm : SameX X.g ({ X.g with m := X.g.m.owes x.un.length, K := updN x.st.number (fun y => y.took x.un.length) X.g.K } : GEnd) := SameX.upd (fun s => ⟨rfl, rfl⟩) rfl rfl rfl rfl rfl
  have hbe : ({ X.g with m := X.g.m.owes x.un.length, K := updN x.st.number (fun _ => (⟨x.sb, x.st.taken x.un.length v, x.un.drop x.un.length, x.wa⟩ : GSt)) X.g.K } : GEnd).bare = ({ X.g with m := X.g.m.owes x.un.length, K := updN x.st.number (fun y => y.took x.un.length) X.g.K } : GEnd).bare := by
   unfold GEnd.bare
   simp only [GEnd.mk.injEq, true_and, and_true]
   rw [← updN_const (f := fun y => y.took x.un.length) hiI.nn hx rfl]
   unfold updN
   rw [List.map_map, List.map_map]
   apply List.map_congr_left
   intro y hy
   show (if y.st.number = x.st.number then _ else y).bare = (if y.st.number = x.st.number then _ else y).bare
   split <;> rfl
  refine GoX.of hF (hi.next hn (hsm.of_bare hbe)) ?_
  unfold GX.readX
  rw [if_neg hno]
  show ({ X with g := _ } : GX).bare = _
  unfold GX.bare GX.to
  simp only
  rw [crude_of_bare hbe, crude_upd _ _ (fun y => y.took x.un.length) (fun s => rfl)]
  rfl)
 refine hc.mono ?_
 rintro e w' ⟨a, b, c, rfl, ⟨s, rfl, rfl, rfl, hby, hown⟩, hgo⟩
 refine ⟨⟨_, ?_, ?_, hown⟩, hgo⟩
 ·unfold GX.readE GX.readC
  rw [if_neg hno, if_neg hr', if_neg hd']
  rfl
 ·unfold GX.readB
  rw [if_neg hno]
  exact hby
theorem cx_take (h : StX w eb F P) (hm : MeekG P.g) :
  Calls Tryz.prog 19 #[.pointer (some ⟨eb, 0, none⟩), .int .i64 1099511627776] w fun e w' => ∃ p v, RunsA 1099511627776 P.g p ∧ e = .returned v ∧ BytesIn w' v p.out ∧ (∀ j, v.ownBlock = some j → F j ∨ w.heap.size ≤ j) ∧ GoX w w' eb F (P.to { p with out := [] }) := by
 obtain ⟨mb, X, hi, rfl, hF⟩ := h
 have hx := meek_of_crude hm
 have ho : X.g.out = [] := hx.out
 refine (x_takeX eb mb X 1099511627776 30 w hi (meek_fine hx) (meek_tidy hx) (meek_mu hx) (by rw [ho]; simp)).mono ?_
 rintro e w' ⟨p, s, h1, h2, h3, h4, X', h5, h6⟩
 obtain ⟨p', hp', hpl⟩ := runsA_ex 1099511627776 30 X.bare.g (meek_fine hm) (meek_tidy hm) (meek_mu hm)
 have hpl : p'.out.length ≤ X.g.out.length + 77 * 30 := hpl
 have hpe : p = p' := h1.det hp'
 have hlen : p.out.length ≤ 2310 := by rw [hpe]; rw [ho] at hpl; simpa using hpl
 have hcut : cutN 1099511627776 p.out.length = p.out.length := by unfold cutN; omega
 rw [hcut] at h2 h3 h4 h5
 rw [List.take_length] at h3
 rw [List.drop_length] at h5
 exact ⟨p, _, h1, h2, h3, fun j hj => (h4 j hj).imp_left (hF j).2, GoX.of hF h6 h5⟩
end
end
section
theorem conv_str {w : World} {bv : Value} {l : List UInt8} (h : BytesIn w bv l) : (convert 44 9 bv).run Tryz.prog w = .ok (.string ⟨l.toArray⟩) w := by
 rcases h with ⟨rfl, rfl⟩ | ⟨bb, off, cap, rfl, h1, h2, h3⟩
 ·exact run_convert_bytes_nil w 44 5 Tryz.underlying44 Tryz.underlying5 0 0 9 Tryz.underlying9
 ·refine run_convert_bytes_back w 44 9 5 ⟨bb, off, none⟩ cap l Tryz.underlying44 Tryz.underlying5 Tryz.underlying9 (fun j hj => ?_)
  have e : (⟨bb, off, none⟩ : Addr).add j = ⟨bb, off + j, none⟩ := by unfold Addr.add; split <;> simp_all
  rw [e, h3 j hj, getD_lt _ _ _ hj]
structure OpenOk (g : GEnd) : Prop where
 next : 1 ≤ g.m.next ∧ g.m.next ≤ 2 ∧ opensB g.m.first g.m.next = true
 their : ∀ s ∈ g.K, opensB g.m.first s.st.number = false
 cls : ∀ n ∈ g.L, ∃ s ∈ g.K, s.st.number = n
 rise : Rise g.L
 few : g.L.length ≤ 8
theorem OpenOk.same {g q : GEnd} (h : OpenOk g) (h1 : q.m.next = g.m.next) (h2 : q.m.first = g.m.first) (h3 : (q.K.map fun s => s.st.number) = g.K.map fun s => s.st.number) (h4 : q.L = g.L) : OpenOk q := by
 have hm : ∀ n, (∃ s ∈ q.K, s.st.number = n) ↔ ∃ s ∈ g.K, s.st.number = n := fun n => by
  have e : ∀ K : List GSt, (∃ s ∈ K, s.st.number = n) ↔ n ∈ K.map fun s => s.st.number := fun K => by simp
  rw [e, e, h3]
 refine ⟨by rw [h1, h2]; exact h.next, fun s hs => ?_, fun n hn => ?_, by rw [h4]; exact h.rise, by rw [h4]; exact h.few⟩
 ·obtain ⟨t, ht, e⟩ := (hm s.st.number).1 ⟨s, hs, rfl⟩
  rw [h2, ← e]; exact h.their t ht
 ·rw [h4] at hn
  exact (hm n).2 (h.cls n hn)
theorem OpenOk.none {g : GEnd} (h : OpenOk g) : (g.L.countP fun k => g.m.opensN k) = 0 := by
 rw [List.countP_eq_zero]
 intro n hn
 obtain ⟨s, hs, rfl⟩ := h.cls n hn
 have := h.their s hs
 show ¬ (opensB g.m.first s.st.number = true)
 rw [this]; simp
theorem nextA_open {g q : GEnd} (hn : g.nextA = some q) : q.m.next = g.m.next ∧ q.m.first = g.m.first ∧ (q.K.map fun s => s.st.number) = (g.K.map fun s => s.st.number) ∧ q.L = g.L := by
 unfold GEnd.nextA at hn
 split at hn
 ·unfold GEnd.oGoawayG at hn
  split at hn
  ·cases hn
  ·injection hn with hn; subst hn; exact ⟨rfl, rfl, rfl, rfl⟩
 rcases or_some hn with hn | hn
 ·unfold GEnd.oFirstG at hn
  split at hn
  ·cases hn
  ·injection hn with hn; subst hn; exact ⟨rfl, rfl, rfl, rfl⟩
 rcases or_some hn with hn | hn
 ·unfold GEnd.oAnswer at hn
  split at hn
  ·cases hn
  ·injection hn with hn; subst hn; exact ⟨rfl, rfl, rfl, rfl⟩
 rcases or_some hn with hn | hn
 ·unfold GEnd.oSettings at hn
  split at hn
  ·cases hn
  ·injection hn with hn; subst hn; exact ⟨rfl, rfl, rfl, rfl⟩
 rcases or_some hn with hn | hn
 ·unfold GEnd.oPing at hn
  split at hn
  ·injection hn with hn; subst hn; exact ⟨rfl, rfl, rfl, rfl⟩
  ·cases hn
 rcases or_some hn with hn | hn
 ·unfold GEnd.oCredit at hn
  split at hn
  ·injection hn with hn; subst hn; exact ⟨rfl, rfl, rfl, rfl⟩
  ·cases hn
 rcases or_some hn with hn | hn
 ·unfold GEnd.oStream at hn
  cases hx : firstDueN g.m g.K g.L with
  | none => rw [hx] at hn; cases hn
  | some n =>
   rw [hx, Option.map_some] at hn
   injection hn with hn; subst hn
   exact ⟨rfl, rfl, updN_num (f := GSt.granted) (fun s => rfl) _, rfl⟩
 ·unfold GEnd.oReset at hn
  split at hn
  ·cases hn
  ·injection hn with hn; subst hn; exact ⟨rfl, rfl, rfl, rfl⟩
theorem RunsA.open {n : Int} {g p : GEnd} (h : RunsA n g p) (hf : FineA g) : p.m.next = g.m.next ∧ p.m.first = g.m.first ∧ (p.K.map fun s => s.st.number) = (g.K.map fun s => s.st.number) ∧ p.L = g.L ∧ p.m.fault = g.m.fault := by
 induction h using RunsA.ind with
 | stop _ => exact ⟨rfl, rfl, rfl, rfl, rfl⟩
 | none _ => exact ⟨rfl, rfl, rfl, rfl, rfl⟩
 | step _ h1 _ ih =>
  obtain ⟨a1, -, -, a4⟩ := nextA_some h1 hf
  obtain ⟨b1, b2, b3, b4⟩ := nextA_open h1
  obtain ⟨c1, c2, c3, c4, c5⟩ := ih a1
  exact ⟨c1.trans b1, c2.trans b2, c3.trans b3, c4.trans b4, c5.trans a4⟩
theorem read_open {P : GX} (s : GSt) : (P.readX s).g.m.next = P.g.m.next ∧ (P.readX s).g.m.first = P.g.m.first ∧ (P.readX s).g.L = P.g.L ∧ (P.readX s).g.m.fault = P.g.m.fault ∧ (P.readX s).hs = P.hs := by
 unfold GX.readX
 split
 ·exact ⟨rfl, rfl, rfl, rfl, rfl⟩
 ·exact ⟨rfl, rfl, rfl, rfl, rfl⟩
structure Two (w : World) (ea eb : Nat) (Fa Fb : Nat → Prop) (P : GX) : Prop where
 a : StX w ea Fa P
 b : StX w eb Fb P
 sep : ∀ j, Fa j → ¬ Fb j
structure GoT (w w' : World) (ea eb : Nat) (Fa Fb : Nat → Prop) (P : GX) : Prop where
 two : ∃ Fa' Fb', Two w' ea eb Fa' Fb' P ∧ (∀ j, Fa' j → Fa j ∨ w.heap.size ≤ j) ∧ ∀ j, Fb' j → Fb j ∨ w.heap.size ≤ j
 chg : Chg (fun j => Fa j ∨ Fb j) w w'
section
variable {w w' w'' : World} {ea eb : Nat} {Fa Fb : Nat → Prop} {P P' : GX}
theorem Two.ltA (h : Two w ea eb Fa Fb P) {j : Nat} (hj : Fa j) : j < w.heap.size := h.a.lt hj
theorem Two.ltB (h : Two w ea eb Fa Fb P) {j : Nat} (hj : Fb j) : j < w.heap.size := h.b.lt hj
theorem Two.below (h : Two w ea eb Fa Fb P) (hb : Below w.heap.size w w') : Two w' ea eb Fa Fb P := ⟨h.a.below hb, h.b.below hb, h.sep⟩
theorem GoT.refl (h : Two w ea eb Fa Fb P) : GoT w w ea eb Fa Fb P := ⟨⟨Fa, Fb, h, fun _ => Or.inl, fun _ => Or.inl⟩, Chg.refl _ _⟩
theorem GoT.of_below (h : Two w ea eb Fa Fb P) (hb : Below w.heap.size w w') : GoT w w' ea eb Fa Fb P := ⟨⟨Fa, Fb, h.below hb, fun _ => Or.inl, fun _ => Or.inl⟩, Chg.of_below hb⟩
theorem Two.other {w1 : World} (h : Two w ea eb Fa Fb P) (h1 : GoX w w1 ea Fa P') : StX w1 eb Fb P := by
 obtain ⟨Fa', a1, a2, a3⟩ := h1
 exact h.b.chg a2 (fun j hj e => h.sep j e hj)
theorem two_both {w1 w2 : World} (h : Two w ea eb Fa Fb P) (h1 : GoX w w1 ea Fa P') (h2 : GoX w1 w2 eb Fb P') : GoT w w2 ea eb Fa Fb P' := by
 obtain ⟨Fb', b1, b2, b3⟩ := h2
 obtain ⟨Fa', a1, a2, a3⟩ := h1
 have hsz := a2.size
 refine ⟨⟨Fa', Fb', ⟨a1.chg b2 (fun j hj e => ?_), b1, fun j hj e => ?_⟩, a3, fun j hj => ?_⟩, (a2.mono fun j _ e => Or.inl e).trans (b2.mono fun j _ e => Or.inr (Or.inr e))⟩
 ·rcases a3 j hj with c | c
  ·exact h.sep j c e
  ·have := h.ltB e; omega
 ·rcases b3 j e with c | c
  ·rcases a3 j hj with d | d
   ·exact h.sep j d c
   ·have := h.ltB c; omega
  ·have := a1.lt hj; omega
 ·rcases b3 j hj with c | c
  ·exact Or.inl c
  ·exact Or.inr (Nat.le_trans hsz c)
theorem GoT.pre (h : GoT w' w'' ea eb Fa Fb P) (hb : Below w.heap.size w w') : GoT w w'' ea eb Fa Fb P := by
 obtain ⟨⟨Fa', Fb', h1, h2, h3⟩, hc⟩ := h
 exact ⟨⟨Fa', Fb', h1, fun j hj => (h2 j hj).imp_right fun e => Nat.le_trans hb.size e, fun j hj => (h3 j hj).imp_right fun e => Nat.le_trans hb.size e⟩, (Chg.of_below hb).trans (hc.mono fun j _ e => Or.inr e)⟩
theorem GoT.trans {Fa' Fb' : Nat → Prop} (hc : Chg (fun j => Fa j ∨ Fb j) w w') (ga : ∀ j, Fa' j → Fa j ∨ w.heap.size ≤ j) (gb : ∀ j, Fb' j → Fb j ∨ w.heap.size ≤ j) (h : GoT w' w'' ea eb Fa' Fb' P') : GoT w w'' ea eb Fa Fb P' := by
 obtain ⟨⟨Ga, Gb, h1, h2, h3⟩, hc2⟩ := h
 refine ⟨⟨Ga, Gb, h1, fun j hj => ?_, fun j hj => ?_⟩, hc.trans (hc2.mono fun j _ e => ?_)⟩
 ·rcases h2 j hj with a | a
  ·exact ga j a
  ·exact Or.inr (Nat.le_trans hc.size a)
 ·rcases h3 j hj with a | a
  ·exact gb j a
  ·exact Or.inr (Nat.le_trans hc.size a)
 ·rcases e with a | a
  ·rcases ga j a with c | c
   ·exact Or.inr (Or.inl c)
   ·exact Or.inl c
  ·rcases gb j a with c | c
   ·exact Or.inr (Or.inr c)
   ·exact Or.inl c
theorem GoT.size (h : GoT w w' ea eb Fa Fb P) : w.heap.size ≤ w'.heap.size := h.chg.size
end
end
section
def ConvIs (w : World) (v : Value) (l : List UInt8) : Prop := (convert 44 9 v).run Tryz.prog w = .ok (.string ⟨l.toArray⟩) w
section
variable {w : World} {ea eb : Nat} {Fa Fb : Nat → Prop} {P : GX}
theorem chain_windows {s : GSt} (h : Two w ea eb Fa Fb P) (hm : MeekG P.g) (hs : s ∈ P.g.K) :
  Calls Tryz.prog 25 #[.pointer (some ⟨ea, 0, none⟩), .int .i64 s.st.number] w fun e w6 => e = .returned (.tuple #[.int .i64 (P.g.m.other + s.st.send), .int .i64 (P.g.m.own + s.st.receive), .int .i64 0]) ∧
  Calls Tryz.prog 25 #[.pointer (some ⟨eb, 0, none⟩), .int .i64 s.st.number] w6 fun e w7 => e = .returned (.tuple #[.int .i64 (P.g.m.other + s.st.send), .int .i64 (P.g.m.own + s.st.receive), .int .i64 0]) ∧ GoT w w7 ea eb Fa Fb P := by
 refine (cx_windows h.a hm hs).mono ?_
 rintro e w6 ⟨rfl, hb6⟩
 refine ⟨rfl, (cx_windows (h.b.below hb6) hm hs).mono ?_⟩
 rintro e w7 ⟨rfl, hb7⟩
 exact ⟨rfl, GoT.of_below h (hb6.trans (hb7.mono hb6.size))⟩
theorem chain_windows0 (h : Two w ea eb Fa Fb P) :
  Calls Tryz.prog 25 #[.pointer (some ⟨ea, 0, none⟩), .int .i64 0] w fun e w6 => e = .returned (.tuple #[.int .i64 P.g.m.send, .int .i64 P.g.m.receive, .int .i64 0]) ∧
  Calls Tryz.prog 25 #[.pointer (some ⟨eb, 0, none⟩), .int .i64 0] w6 fun e w7 => e = .returned (.tuple #[.int .i64 P.g.m.send, .int .i64 P.g.m.receive, .int .i64 0]) ∧ GoT w w7 ea eb Fa Fb P := by
 refine (cx_windows0 h.a).mono ?_
 rintro e w6 ⟨rfl, hb6⟩
 refine ⟨rfl, (cx_windows0 (h.b.below hb6)).mono ?_⟩
 rintro e w7 ⟨rfl, hb7⟩
 exact ⟨rfl, GoT.of_below h (hb6.trans (hb7.mono hb6.size))⟩
theorem chain_stream {s : GSt} (h : Two w ea eb Fa Fb P) (hm : MeekG P.g) (hs : s ∈ P.g.K) (hl : (P.hs s.st.number).length ≤ 1048576) : ∃ U V : Int,
  Calls Tryz.prog 37 #[.pointer (some ⟨ea, 0, none⟩), .int .i64 s.st.number] w fun e w1 => ∃ v1, e = .returned (.tuple #[v1, .int .i64 0]) ∧
  Calls Tryz.prog 37 #[.pointer (some ⟨eb, 0, none⟩), .int .i64 s.st.number] w1 fun e w2 => ∃ v2, e = .returned (.tuple #[v2, .int .i64 0]) ∧
  Calls Tryz.prog 38 #[v1, v2] w2 fun e w3 => e = .returned (.bool true) ∧
  Calls Tryz.prog 39 #[.pointer (some ⟨ea, 0, none⟩), .int .i64 s.st.number, .int .i64 1099511627776] w3 fun e w4 => ∃ x, e = .returned (.tuple #[x, .bool (P.readE s), .int .i64 (P.readC s)]) ∧
  Calls Tryz.prog 39 #[.pointer (some ⟨eb, 0, none⟩), .int .i64 s.st.number, .int .i64 1099511627776] w4 fun e w5 => ∃ y, e = .returned (.tuple #[y, .bool (P.readE s), .int .i64 (P.readC s)]) ∧ ConvIs w5 x (P.readB s) ∧ ConvIs w5 y (P.readB s) ∧
  Calls Tryz.prog 25 #[.pointer (some ⟨ea, 0, none⟩), .int .i64 s.st.number] w5 fun e w6 => e = .returned (.tuple #[.int .i64 U, .int .i64 V, .int .i64 0]) ∧
  Calls Tryz.prog 25 #[.pointer (some ⟨eb, 0, none⟩), .int .i64 s.st.number] w6 fun e w7 => e = .returned (.tuple #[.int .i64 U, .int .i64 V, .int .i64 0]) ∧ GoT w w7 ea eb Fa Fb (P.readX s) := by
 have hm' := meek_read hm hs
 obtain ⟨s', hs', hn'⟩ : ∃ s' ∈ (P.readX s).g.K, s'.st.number = s.st.number := by
  have h1 : s.st.number ∈ (P.readX s).g.K.map fun x => x.st.number := by rw [nums_read]; exact List.mem_map.2 ⟨s, hs, rfl⟩
  obtain ⟨s', hs', e⟩ := List.mem_map.1 h1
  exact ⟨s', hs', e⟩
 refine ⟨(P.readX s).g.m.other + s'.st.send, (P.readX s).g.m.own + s'.st.receive, ?_⟩
 refine (cx_heads h.a hs hl).mono ?_
 rintro e w1 ⟨v1, rfl, hv1, hf1, hb1⟩
 refine ⟨v1, rfl, (cx_heads (h.b.below hb1) hs hl).mono ?_⟩
 rintro e w2 ⟨v2, rfl, hv2, hf2, hb2⟩
 refine ⟨v2, rfl, (sameHeads_same v1 v2 (P.hs s.st.number) w2 (hv1.chg (Chg.of_below (S := fun _ => False) hb2) (fun _ _ => id)) hv2 hl).mono ?_⟩
 rintro e w3 ⟨rfl, hb3⟩
 have hb12 := hb1.trans (hb2.mono hb1.size)
 have hb : Below w.heap.size w w3 := hb12.trans (hb3.mono hb12.size)
 have h3 := h.below hb
 refine ⟨rfl, (cx_read h3.a hm hs).mono ?_⟩
 rintro e w4 ⟨⟨x, rfl, hx, hxo⟩, hgo⟩
 have hb4 := h3.other hgo
 refine ⟨x, rfl, (cx_read hb4 hm hs).mono ?_⟩
 rintro e w5 ⟨⟨y, rfl, hy, hyo⟩, hgo2⟩
 have hg := two_both h3 hgo hgo2
 have hx5 : BytesIn w5 x (P.readB s) := by
  obtain ⟨Fb', -, hc, -⟩ := hgo2
  refine hx.chg hc (fun j hj e => ?_)
  rcases hxo j hj with a | a
  ·exact h3.sep j a e
  ·have := h3.ltB e; omega
 refine ⟨y, rfl, conv_str hx5, conv_str hy, ?_⟩
 obtain ⟨⟨Ga, Gb, g1, g2, g3⟩, gc⟩ := hg.pre hb
 rw [← hn']
 refine (chain_windows g1 hm' hs').mono ?_
 rintro e w6 ⟨rfl, hr⟩
 refine ⟨rfl, hr.mono ?_⟩
 rintro e w7 ⟨rfl, hr2⟩
 exact ⟨rfl, GoT.trans gc g2 g3 hr2⟩
theorem chain_take (h : Two w ea eb Fa Fb P) (hm : MeekG P.g) : ∃ p, RunsA 1099511627776 P.g p ∧
  Calls Tryz.prog 19 #[.pointer (some ⟨ea, 0, none⟩), .int .i64 1099511627776] w fun e w1 => ∃ x, e = .returned x ∧
  Calls Tryz.prog 19 #[.pointer (some ⟨eb, 0, none⟩), .int .i64 1099511627776] w1 fun e w2 => ∃ y, e = .returned y ∧ ConvIs w2 x p.out ∧ ConvIs w2 y p.out ∧ GoT w w2 ea eb Fa Fb (P.to { p with out := [] }) := by
 obtain ⟨p, hp, -⟩ := runsA_ex 1099511627776 30 P.g (meek_fine hm) (meek_tidy hm) (meek_mu hm)
 refine ⟨p, hp, (cx_take h.a hm).mono ?_⟩
 rintro e w1 ⟨p1, x, r1, rfl, hx, hxo, hgo⟩
 have e1 : p1 = p := r1.det hp
 subst e1
 have hb1 := h.other hgo
 refine ⟨x, rfl, (cx_take hb1 hm).mono ?_⟩
 rintro e w2 ⟨p2, y, r2, rfl, hy, hyo, hgo2⟩
 have e2 : p2 = p1 := r2.det hp
 subst e2
 have hx2 : BytesIn w2 x p2.out := by
  obtain ⟨Fb', -, hc, -⟩ := hgo2
  refine hx.chg hc (fun j hj e => ?_)
  rcases hxo j hj with a | a
  ·exact h.sep j a e
  ·have := h.ltB e; omega
 exact ⟨y, rfl, conv_str hx2, conv_str hy, two_both h hgo hgo2⟩
end
set_option maxRecDepth 100000 in
set_option maxHeartbeats 3200000 in
theorem kalike_any (ea eb : Nat) (Fa Fb : Nat → Prop) (P : GX) (w : World) (h : Two w ea eb Fa Fb P) (hm : MeekG P.g) (hh : ∀ n, (P.hs n).length ≤ 1048576) :
  Calls Tryz.prog 17 #[.pointer (some ⟨ea, 0, none⟩), .pointer (some ⟨eb, 0, none⟩)] w fun e w' => e = .returned (.bool true) ∧ ∃ Q, GoT w w' ea eb Fa Fb Q ∧ Q.g.m.fault = P.g.m.fault ∧ (OpenOk P.g → OpenOk Q.g) := by
 obtain ⟨S, hS⟩ : ∃ S, S = sortZ (P.g.K.map fun s => s.st.number) := ⟨_, rfl⟩
 have hSl : S.length = P.g.K.length := by
  have := (sortZ_self (P.g.K.map fun s => s.st.number)).length_eq
  rw [hS]; simpa using this
 have hSm : ∀ n ∈ S, n ∈ P.g.K.map fun s => s.st.number := fun n hn => (sortZ_self _).subset (by rw [← hS]; exact hn)
 have hSb : S.length ≤ 1048576 := by
  have := few_ints (n := 32768) hm.nn (fun n hn => by
   obtain ⟨s, hs, rfl⟩ := List.mem_map.1 hn
   have := (hm.st s hs).1
   omega)
  rw [hSl]
  simp at this
  omega
 have HF1 := hide (cx_fault h.a)
 have HF2 := hide (cx_fault h.b)
 have HS1 := cx_streams h.a hm
 have HS2 : ∀ w1, Below w.heap.size w w1 → Calls Tryz.prog 36 #[.pointer (some ⟨eb, 0, none⟩)] w1 fun e w' => ∃ v, e = .returned v ∧ w'.ownsRow w1.heap.size 3 1 v S.length (S.map encZ) ∧ Below w1.heap.size w1 w' := fun w1 hb => by rw [hSl, hS]; exact cx_streams (h.b.below hb) hm
 rw [← hS, ← hSl] at HS1
 have HS1 := hide HS1
 have HS2 := hide HS2
 have H := hide h
 have HM := hide hm
 have HH := hide hh
 have HSM := hide hSm
 generalize hFau : P.g.m.fault = fau at *
 have HFAU := hide hFau
 clear h hm hh hS hSl hSm hFau
 go_enter Tryz.func17, Tryz.ntmps17
 go_wp2_with fail
 refine HF1.out.mono ?_
 rintro e w' ⟨rfl, hw'⟩
 rw [hw']
 clear hw' w'
 go_wp2_with fail
 refine HF2.out.mono ?_
 rintro e w' ⟨rfl, hw'⟩
 rw [hw']
 clear hw' w'
 go_wp2_with fail
 refine HS1.out.mono ?_
 rintro e w1 ⟨v1, rfl, ho1, hb1⟩
 obtain ⟨s1, c1, hv1⟩ := slice_len ho1
 subst hv1
 have HO1 := hide ho1
 have HB1 := hide hb1
 clear ho1 hb1
 go_wp2_with fail
 refine (HS2.out w1 HB1.out).mono ?_
 rintro e w2 ⟨v2, rfl, ho2, hb2⟩
 obtain ⟨s2, c2, hv2⟩ := slice_len ho2
 subst hv2
 have hb12 := HB1.out.trans (hb2.mono HB1.out.size)
 have ho1 := owns_chg HO1.out (Chg.of_below (S := fun _ => False) hb2) (fun _ _ => id)
 have HO1 := hide ho1
 have HO2 := hide ho2
 have HB2 := hide hb12
 have HT2 := hide (H.out.below hb12)
 have HLT : Hid (∀ j, (Fa j ∨ Fb j) → j < w.heap.size) := fun j hj => hj.elim H.out.ltA H.out.ltB
 clear ho1 ho2 hb2 hb12
 go_wp2
 go_loopw [9] (fun i wr => ∃ (k : Nat) (wv : World) (P' : GX), wv = wr ∧ i = .int .i64 ((k : Int) - 1) ∧ k ≤ S.length + 1 ∧ GoT w2 wv ea eb Fa Fb P' ∧ MeekG P'.g ∧ (P'.g.K.map fun s => s.st.number) = (P.g.K.map fun s => s.st.number) ∧ P'.hs = P.hs ∧ P'.g.m.fault = P.g.m.fault ∧ (OpenOk P.g → OpenOk P'.g)) (fun i _ => S.length + 1 - (intOf i + 1).toNat)
 case atStart => exact ⟨0, _, P, rfl, rfl, Nat.zero_le _, GoT.refl HT2.out, HM.out, rfl, rfl, rfl, id⟩
 case round =>
  obtain ⟨k, wv, P', hwv, rfl, hk, hgo, hmk, hnm, hhs, hfa, hop⟩ := hrel
  subst hwv
  obtain ⟨⟨Ga, Gb, htw, hga, hgb⟩, hgc⟩ := hgo
  rcases Nat.eq_zero_or_pos k with h0 | h0
  ·have HW := hide (chain_windows0 htw)
   have HEND : Hid (∀ w7, GoT wv w7 ea eb Ga Gb P' → ∃ (k' : Nat) (wv' : World) (P'' : GX), wv' = w7 ∧ Value.int .i64 0 = .int .i64 ((k' : Int) - 1) ∧ k' ≤ S.length + 1 ∧ GoT w2 wv' ea eb Fa Fb P'' ∧ MeekG P''.g ∧ (P''.g.K.map fun s => s.st.number) = (P.g.K.map fun s => s.st.number) ∧ P''.hs = P.hs ∧ P''.g.m.fault = P.g.m.fault ∧ (OpenOk P.g → OpenOk P''.g)) := fun w7 h7 => ⟨1, w7, P', rfl, rfl, by omega, GoT.trans hgc hga hgb h7, hmk, hnm, hhs, hfa, hop⟩
   subst h0
   rw [show (((0 : Nat) : Int) - 1) = -1 from rfl]
   have hlt : ((-1 : Int) < (S.length : Int)) = True := eq_true (by omega)
   generalize P'.g.m.send = U at *
   generalize P'.g.m.receive = V at *
   clear htw hga hgb hgc hmk hnm hhs hfa hop
   go_wp2_with fail
   refine HW.out.mono ?_
   rintro e w6 ⟨rfl, hr⟩
   have HR := hide hr
   clear hr
   go_wp2_with fail
   refine HR.out.mono ?_
   rintro e w7 ⟨rfl, hr⟩
   have HE := hide (HEND.out w7 hr)
   clear hr HEND
   go_wp2
   all_goals go_roundw
   case rel => exact HE.out
   case measure => first | (simp [intOf]; done) | (simp [intOf]; omega)
  ·obtain ⟨m, rfl⟩ : ∃ m, k = m + 1 := ⟨k - 1, by omega⟩
   rw [show (((m + 1 : Nat) : Int) - 1) = (m : Int) from by omega]
   by_cases hlk : m < S.length
   ·have hrow1 : wv.ownsRow w.heap.size 3 1 (.slice s1 S.length c1) S.length (S.map encZ) := owns_chg HO1.out hgc (fun j hj e => by have := HLT.out j e; have := (HO1.out.lt j hj).1; omega)
    have hrow2 : wv.ownsRow w1.heap.size 3 1 (.slice s2 S.length c2) S.length (S.map encZ) := owns_chg HO2.out hgc (fun j hj e => by have := HLT.out j e; have := (HO2.out.lt j hj).1; have := HB1.out.size; omega)
    have q1 := hrow1.2
    have q2 := hrow2.2
    rcases q1 with ⟨-, e0⟩ | ⟨b1, cap1, cur1, e1, -, hblk1, -⟩
    ·omega
    rcases q2 with ⟨-, e0⟩ | ⟨b2, cap2, cur2, e2, -, hblk2, -⟩
    ·omega
    simp only [Value.slice.injEq, true_and] at e1 e2
    obtain ⟨rfl, rfl⟩ := e1
    obtain ⟨rfl, rfl⟩ := e2
    have hc1 := hrow1.cellAt m (by omega)
    have hc2 := hrow2.cellAt m (by omega)
    have hget : (S.map encZ)[m]? = some (.int .i64 S[m]) := by rw [List.getElem?_map, List.getElem?_eq_getElem hlk]; rfl
    rw [hget] at hc1 hc2
    have hl1 := lt_of_block hblk1
    have hl2 := lt_of_block hblk2
    obtain ⟨s, hs, hsn⟩ : ∃ s ∈ P'.g.K, s.st.number = S[m] := by
     have h1 := HSM.out S[m] (List.getElem_mem hlk)
     rw [← hnm] at h1
     obtain ⟨s, hs, e⟩ := List.mem_map.1 h1
     exact ⟨s, hs, e⟩
    obtain ⟨U, V, hch⟩ := chain_stream htw hmk hs (by rw [hhs]; exact HH.out _)
    rw [hsn] at hch
    have HCH := hide hch
    obtain ⟨o1, o2, o3, o4, o5⟩ := read_open (P := P') s
    have HEND : Hid (∀ w7, GoT wv w7 ea eb Ga Gb (P'.readX s) → ∃ (k' : Nat) (wv' : World) (P'' : GX), wv' = w7 ∧ Value.int .i64 ((m : Int) + 1) = .int .i64 ((k' : Int) - 1) ∧ k' ≤ S.length + 1 ∧ GoT w2 wv' ea eb Fa Fb P'' ∧ MeekG P''.g ∧ (P''.g.K.map fun s => s.st.number) = (P.g.K.map fun s => s.st.number) ∧ P''.hs = P.hs ∧ P''.g.m.fault = P.g.m.fault ∧ (OpenOk P.g → OpenOk P''.g)) := fun w7 h7 => ⟨m + 2, w7, P'.readX s, rfl, by congr 1; omega, by omega, GoT.trans hgc hga hgb h7, meek_read hmk hs, by rw [nums_read, hnm], by rw [o5, hhs], by rw [o4, hfa], fun e => (hop e).same o1 o2 (nums_read s) o3⟩
    generalize P'.readE s = E at *
    generalize P'.readC s = C at *
    generalize P'.readB s = T at *
    generalize S[m] = n at *
    clear htw hga hgb hgc hmk hnm hhs hfa hop hch hrow1 hrow2 hblk1 hblk2 hget hs hsn o1 o2 o3 o4 o5
    go_wp2_with fail
    refine HCH.out.mono ?_
    rintro e w1' ⟨v1, rfl, hr⟩
    have HR := hide hr
    clear hr HCH
    go_wp2_with fail
    refine HR.out.mono ?_
    rintro e w2' ⟨v2, rfl, hr⟩
    have HR := hide hr
    clear hr
    go_wp2_with fail
    refine HR.out.mono ?_
    rintro e w3' ⟨rfl, hr⟩
    have HR := hide hr
    clear hr
    go_wp2_with fail
    refine HR.out.mono ?_
    rintro e w4' ⟨x, rfl, hr⟩
    have HR := hide hr
    clear hr
    go_wp2_with fail
    refine HR.out.mono ?_
    rintro e w5' ⟨y, rfl, hcx, hcy, hr⟩
    have HR := hide hr
    unfold ConvIs at hcx hcy
    clear hr
    go_wp2_with fail
    refine HR.out.mono ?_
    rintro e w6' ⟨rfl, hr⟩
    have HR := hide hr
    clear hr hcx hcy
    go_wp2_with fail
    refine HR.out.mono ?_
    rintro e w7' ⟨rfl, hr⟩
    have HE := hide (HEND.out w7' hr)
    clear hr HEND HR
    go_wp2
    all_goals go_roundw
    case rel => exact HE.out
    case measure => simp [intOf]; omega
   ·obtain ⟨p, hpr, hch⟩ := chain_take htw hmk
    have HCH := hide hch
    have HEND : Hid (∀ w7, GoT wv w7 ea eb Ga Gb (P'.to { p with out := [] }) → ∃ Q, GoT w w7 ea eb Fa Fb Q ∧ Q.g.m.fault = P.g.m.fault ∧ (OpenOk P.g → OpenOk Q.g)) := fun w7 h7 => by
     obtain ⟨o1, o2, o3, o4, o5⟩ := hpr.open (meek_fine hmk)
     exact ⟨_, (GoT.trans hgc hga hgb h7).pre HB2.out, o5.trans hfa, fun e => (hop e).same o1 o2 o3 o4⟩
    rw [HFAU.out] at HEND
    have hge : ((m : Int) < (S.length : Int)) = False := eq_false (by omega)
    generalize p.out = T at *
    clear htw hga hgb hgc hmk hnm hhs hfa hop hch hpr
    go_wp2_with fail
    refine HCH.out.mono ?_
    rintro e w1' ⟨x, rfl, hr⟩
    have HR := hide hr
    clear hr HCH
    go_wp2_with fail
    refine HR.out.mono ?_
    rintro e w2' ⟨y, rfl, hcx, hcy, hr⟩
    have HE := hide (HEND.out w2' hr)
    unfold ConvIs at hcx hcy
    clear hr HEND HR
    go_wp2
    go_ret
    exact ⟨by simp, HE.out⟩
end
end Go.Proofs.YtdccldbefdfppaaGreatDoor
