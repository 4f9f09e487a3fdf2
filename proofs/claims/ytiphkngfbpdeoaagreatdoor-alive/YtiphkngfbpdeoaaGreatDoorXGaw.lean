import Derived.Test.YtiphkngfbpdeoaaGreatDoorXFeed
import Derived.Test.YtiphkngfbpdeoaaGreatDoorXEnGo2
import Derived.Test.YtiphkngfbpdeoaaGreatDoorVShelfK
import Derived.Test.YtiphkngfbpdeoaaGreatDoorVGan
import Derived.Test.YtiphkngfbpdeoaaGreatDoorVGar
import Derived.Test.YtiphkngfbpdeoaaGreatDoorVGam
import Derived.Test.YtiphkngfbpdeoaaGreatDoorVGau
set_option linter.unusedVariables false
set_option linter.unusedSimpArgs false
namespace Go.Proofs.YtiphkngfbpdeoaaGreatDoor
set_option linter.unusedVariables false
set_option linter.unusedSimpArgs false
open Go.RowKit Go.Maps Go.Sort Go.Shelf
theorem sortsK (m : Nat) : AnyZI.SortsIn Tryz.prog Tryz.sortedA_ren Fence.wide m :=
  ⟨fun blk off cap ss W hH hblk hsz => callsIn_wide.2 (AnyM.slices_Sort_int Tryz.sortA blk off cap ss W hH hblk hsz),
   fun p cap W => callsIn_wide.2 (AnyM.slices_Sort_int_none Tryz.sortA p cap W)⟩
def readK (v : Value) : Option (DataW Unit × List MemPlace) := some (.nil, [])
theorem owns_one {w : World} {mb : Nat} {x : Str} (h : KnownS w mb [x]) (hn : I64 x.2.number) : w.ownsMap Tryz.prog 3 readK mb 1 (.map [(Lit.int .i64 x.2.number, .nil)]) := by
  obtain ⟨es, clock, hb, he, hbn⟩ := h.blk
  have hwf : (Lit.int .i64 x.2.number).wf = true := by
    obtain ⟨h1, h2⟩ := hn
    simp [Lit.wf, IntKind.min, IntKind.max, IntKind.signed, IntKind.bits]
    omega
  obtain ⟨e, hes⟩ : ∃ e, es.toList = [e] := by
    have hl : es.toList.length = 1 := by
      have := congrArg List.length he
      simpa using this
    exact List.length_eq_one_iff.1 hl
  rw [hes] at he hbn
  simp only [List.map_cons, List.map_nil, List.cons.injEq, and_true, knownE, Prod.mk.injEq] at he
  have hrd : WideElems.rd Tryz.prog 3 readK e = some (Lit.int .i64 x.2.number, .nil) := by
    unfold WideElems.rd
    rw [he.1]
    simp [keyOf, mapKey, Tryz.underlying3, hwf, readK]
  refine ⟨es, clock, hb, ⟨?_, ⟨?_, ?_, ?_⟩, ?_⟩, ?_, ?_⟩
  · have : es.size = 1 := by have := congrArg List.length hes; simpa using this
    rw [this]; decide
  · rw [hes]; exact hbn
  · rw [hes]; simp
  · rw [hes]; simp
  · intro y hy
    rw [hes, List.mem_singleton] at hy
    subst hy
    exact ⟨_, hrd⟩
  · have : es.size = 1 := by have := congrArg List.length hes; simpa using this
    omega
  · rw [hes]
    simp [WideElems.rg, hrd, DataW.insert]
set_option maxHeartbeats 1000000 in
theorem eStreams_one (eb mb : Nat) (m : EndM) (x : Str) (w : World) (h : EnB w eb m) (hm : m.known = .map (some mb)) (hK : KnownS w mb [x]) (hn : I64 x.2.number) :
    Calls Tryz.prog 59 #[.pointer (some ⟨eb, 0, none⟩)] w fun e w' => ∃ v, e = .returned v ∧ w'.ownsRow w.heap.size 3 1 v 1 [.int .i64 x.2.number] ∧ Below w.heap.size w w' := by
  have hown := owns_one hK hn
  have hbl := hown.lt
  have c22 := h.c22
  rw [hm] at c22
  have hbA : Below w.heap.size w (w.alloc (.cells #[.map (some mb)] 73)) := (Below.refl _ _).alloc (Nat.le_refl _) _
  have hseq : SeqGives Fence.wide 2 Tryz.prog 107 #[.pointer (some ⟨w.heap.size, 0, none⟩)] encZ (fun ss => ss.Perm (intKeys (.map [(Lit.int .i64 x.2.number, .nil)] : DataW Unit))) (Maps.size (.map [(Lit.int .i64 x.2.number, .nil)] : DataW Unit)) (w.alloc (.cells #[.map (some mb)] 73)) :=
    AnyZI.keys_gives (ρ := Tryz.keysA_ren) { Tryz.keysA with } Fence.wide _ trivial rfl (by omega) w.heap.size mb 1 _ _ (by simp) (by simp) (by
      obtain ⟨es, clock, hb, Ft, hs, hD⟩ := hown
      exact ⟨es, clock, (Below.heap_alloc _ _ mb hbl).trans hb, Ft, hs, hD⟩)
  have HK : Hid (∀ W, Calls Tryz.prog 73 #[.map (some mb)] W fun e w' => e = .returned (.func (.func 107) #[] #[.pointer (some ⟨W.heap.size, 0, none⟩)]) ∧ w' = W.alloc (.cells #[.map (some mb)] 73)) := fun W => (callsIn_wide (n := 5)).1 (AnyZI.keys_in Tryz.keysA Fence.wide 5 trivial rfl (some mb) W)
  have cS := AnyZI.sorted_in Tryz.sortedA Fence.wide 5 trivial trivial trivial trivial rfl (by omega) (sortsK _) (enters_of Tryz.func106 (by kernel_rfl) rfl) 107 #[.pointer (some ⟨w.heap.size, 0, none⟩)] trivial (enters_of Tryz.func107 (by kernel_rfl) rfl) _ _ (show 1 ≤ maxLen by decide) (show 1 * 8 ≤ 140737488355328 by decide) _ hseq
  change CallsIn _ _ Tryz.prog 72 _ _ _ at cS
  have HS : Hid (Calls Tryz.prog 72 #[.func (.func 107) #[] #[.pointer (some ⟨w.heap.size, 0, none⟩)]] (w.alloc (.cells #[.map (some mb)] 73)) fun e w' => ∃ v, e = .returned v ∧ w'.ownsRow w.heap.size 3 1 v 1 [.int .i64 x.2.number] ∧ Below w.heap.size w w') := by
    refine ((callsIn_wide (n := 5)).1 cS).mono ?_
    rintro e w' ⟨v, ss, rfl, hS, hrow, hnil, hb⟩
    have hss : ss = [x.2.number] := by
      have : ss.Perm [x.2.number] := hS
      exact List.perm_singleton.1 this
    subst hss
    refine ⟨v, rfl, ?_, hbA.trans (hb.mono hbA.size)⟩
    have h2 : w'.ownsRow (w.alloc (.cells #[.map (some mb)] 73)).heap.size 3 1 v 1 [.int .i64 x.2.number] := by
      have e : ([x.2.number].mergeSort fun x y => decide (x ≤ y)).map encZ = [.int .i64 x.2.number] := by
        rw [List.mergeSort_singleton]
        rfl
      rw [e] at hrow
      exact hrow
    exact owns_base h2 (fun j hj => by have := (h2.lt j hj).1; simp at this; omega)
  clear h hm hK hn hown hseq cS
  go_enter Tryz.func59, Tryz.ntmps59
  go_wp2_with fail
  refine (HK.out w).mono ?_
  rintro e w' ⟨rfl, hw'⟩
  rw [hw']
  clear hw' w'
  go_wp2_with fail
  refine HS.out.mono ?_
  rintro e w' ⟨v, rfl, hx⟩
  have HX := hide hx
  clear hx
  go_wp2
  go_ret
  exact ⟨v, rfl, HX.out⟩
set_option maxRecDepth 100000 in
set_option maxHeartbeats 400000 in
theorem xStreams_one (eb mb : Nat) (m : EndM) (x : Str) (w : World) (h : EnB w eb m) (hm : m.known = .map (some mb)) (hK : KnownS w mb [x]) (hn : I64 x.2.number) :
    Calls Tryz.prog 39 #[.pointer (some ⟨eb, 0, none⟩)] w fun e w' => ∃ v, e = .returned v ∧ w'.ownsRow w.heap.size 3 1 v 1 [.int .i64 x.2.number] ∧ Below w.heap.size w w' := by
  have HC := hide (eStreams_one eb mb m x w h hm hK hn)
  clear h hm hK hn
  go_enter Tryz.func39, Tryz.ntmps39
  go_wp2_with fail
  refine HC.out.mono ?_
  rintro e w' ⟨v, rfl, hx⟩
  have HX := hide hx
  clear hx
  go_wp2
  go_ret
  exact ⟨v, rfl, HX.out⟩
set_option maxRecDepth 100000 in
set_option maxHeartbeats 400000 in
theorem hClone_nil (w : World) : Calls Tryz.prog 74 #[.slice none 0 0] w fun e w' => e = .returned (.slice none 0 0) ∧ w' = w := by
  have hnil : ∀ w : World, (binOp BinOp.eql 83 (.slice none 0 0) (.slice none 0 0)).run Tryz.prog w = .ok (.bool true) w := fun _ => by kernel_rfl
  go_enter Tryz.func74, Tryz.ntmps74
  go_wp2
  go_ret
  exact ⟨rfl, rfl⟩
set_option maxRecDepth 100000 in
set_option maxHeartbeats 800000 in
theorem eHeads_nil (eb mb : Nat) (m : EndM) (K : List Str) (s : Int) (p : Str) (w : World) (h : EnB w eb m) (hm : m.known = .map (some mb)) (hK : KnownS w mb K) (hf : findK K s = some p) (hh : p.2.heads = .slice none 0 0) :
    Calls Tryz.prog 60 #[.pointer (some ⟨eb, 0, none⟩), .int .i64 s] w fun e w' => e = .returned (.tuple #[.slice none 0 0, .int .i64 0]) ∧ w' = w := by
  have c22 := h.c22
  rw [hm] at c22
  have hlk := hK.lookup s
  rw [hf] at hlk
  simp only [Option.map_some, ptrO] at hlk
  have k4 := (hK.st p (findK_mem hf).1).c4
  rw [hh] at k4
  have HC := hide (hClone_nil w)
  obtain ⟨pb, st⟩ := p
  simp only at hlk k4
  clear h hm hK hf hh
  go_enter Tryz.func60, Tryz.ntmps60
  go_wp2_with fail
  refine HC.out.mono ?_
  rintro e w' ⟨rfl, hw'⟩
  rw [hw']
  clear hw' w'
  go_wp2
  refine bodyPost_ret (v := .tuple #[.slice none 0 0, .int .i64 0]) ?_ rfl ⟨rfl, rfl⟩
  simp [results, Tryz.results60, go_sem]
set_option maxRecDepth 100000 in
set_option maxHeartbeats 400000 in
theorem xHeads_nil (eb mb : Nat) (m : EndM) (K : List Str) (s : Int) (p : Str) (w : World) (h : EnB w eb m) (hm : m.known = .map (some mb)) (hK : KnownS w mb K) (hf : findK K s = some p) (hh : p.2.heads = .slice none 0 0) :
    Calls Tryz.prog 40 #[.pointer (some ⟨eb, 0, none⟩), .int .i64 s] w fun e w' => e = .returned (.tuple #[.slice none 0 0, .int .i64 0]) ∧ w' = w := by
  have HC := hide (eHeads_nil eb mb m K s p w h hm hK hf hh)
  clear h hm hK hf hh
  go_enter Tryz.func40, Tryz.ntmps40
  go_wp2_with fail
  refine HC.out.mono ?_
  rintro e w' ⟨rfl, hw'⟩
  rw [hw']
  clear hw' w'
  go_wp2
  refine bodyPost_ret (v := .tuple #[.slice none 0 0, .int .i64 0]) ?_ rfl ⟨rfl, rfl⟩
  simp [results, Tryz.results40, go_sem]
section
variable {w : World} {eb : Nat} {F : Nat → Prop} {p : GEnd}
theorem d_streams {s : GSt} (h : StE w eb F p) (hK : p.K = [s]) (hn : I64 s.st.number) : Calls Tryz.prog 39 #[.pointer (some ⟨eb, 0, none⟩)] w fun e w' => ∃ v, e = .returned v ∧ w'.ownsRow w.heap.size 3 1 v 1 [.int .i64 s.st.number] ∧ Below w.heap.size w w' := by
  obtain ⟨mb, g, hi, hrd, hp, hF⟩ := h
  have hgK : g.K.map GSt.bare = [s] := by rw [← hK, ← hp]; rfl
  obtain ⟨x, hx⟩ : ∃ x, g.K = [x] := by
    have hl : g.K.length = 1 := by have := congrArg List.length hgK; simpa using this
    exact List.length_eq_one_iff.1 hl
  rw [hx] at hgK
  have hb : x.bare = s := by simpa using hgK
  have hkn := hi.kn
  rw [hx] at hkn
  have e : x.st.number = s.st.number := by rw [← hb]; rfl
  have := xStreams_one eb mb g.m x.str w hi.en hi.km hkn (by show I64 x.st.number; rw [e]; exact hn)
  rw [show x.str.2.number = s.st.number from e] at this
  exact this
theorem d_heads {s : GSt} (h : StE w eb F p) (hs : s ∈ p.K) (hh : s.st.heads = .slice none 0 0) : Calls Tryz.prog 40 #[.pointer (some ⟨eb, 0, none⟩), .int .i64 s.st.number] w fun e w' => e = .returned (.tuple #[.slice none 0 0, .int .i64 0]) ∧ w' = w := by
  obtain ⟨mb, g, hi, hrd, hp, hF⟩ := h
  obtain ⟨x, hx, rfl, hfi⟩ := stE_at hi hp hs
  have hh' : nilU x.st.heads = .slice none 0 0 := hh
  exact xHeads_nil eb mb g.m _ x.st.number x.str w hi.en hi.km hi.kn hfi (nilU_nil hh')
end
end Go.Proofs.YtiphkngfbpdeoaaGreatDoor
namespace Go.Proofs.YtiphkngfbpdeoaaGreatDoor
set_option linter.unusedVariables false
set_option linter.unusedSimpArgs false
open Go.RowKit
set_option maxRecDepth 100000 in
set_option maxHeartbeats 1600000 in
theorem kdead_true (eb : Nat) (F : Nat → Prop) (q : GEnd) (s : GSt) (code : Int) (bv : Value) (l : List UInt8) (w : World) (he : StE w eb F q) (hf : q.m.fault = code) (hc : code ≠ 0) (hK : q.K = [s]) (hs : s.st.number = 1) (hh : s.st.heads = .slice none 0 0) (hb : BytesIn w bv l) (hl : l.length ≤ 4611686018427387904) :
    Calls Tryz.prog 17 #[.pointer (some ⟨eb, 0, none⟩), .int .i64 code, bv] w fun e w' => e = .returned (.bool true) ∧ Below w.heap.size w w' := by
  have kc : ∀ (w : World) (C : Array Value) (n c : Nat), (convert 38 38 (.slice (some ⟨w.heap.size, 0, none⟩) n c)).run Tryz.prog (w.alloc (.cells C 5)) = .ok (.slice (some ⟨w.heap.size, 0, none⟩) n c) (w.alloc (.cells C 5 (C.size, C.size + 1))) := fun w C n c => Lib.run_convert_bytes_const (P := Tryz.prog) w 38 5 C n c Tryz.underlying38 Tryz.underlying5
  have hd : q.m.fault ≠ 0 := by rw [hf]; exact hc
  have HF := hide (d_fault he)
  have HFE := hide (d_feedL he hd hb hl)
  rw [hf] at HF HFE
  have HO : Hid (∀ wx lv b, Below w.heap.size w wx → Calls Tryz.prog 37 #[.pointer (some ⟨eb, 0, none⟩), lv, .bool b] wx fun e w' => e = .returned (.tuple #[.int .i64 0, .int .i64 7]) ∧ w' = wx) := fun wx lv b hx => d_open (he.below hx) hd
  have HW : Hid (∀ wx bv, Below w.heap.size w wx → Calls Tryz.prog 21 #[.pointer (some ⟨eb, 0, none⟩), .int .i64 1, bv] wx fun e w' => e = .returned (.tuple #[.int .i64 0, .int .i64 7]) ∧ w' = wx) := fun wx bv hx => d_write (he.below hx) hd
  have HC : Hid (∀ wx, Below w.heap.size w wx → (Calls Tryz.prog 32 #[.pointer (some ⟨eb, 0, none⟩), .int .i64 1] wx fun e w' => e = .returned (.int .i64 7) ∧ w' = wx) ∧ (Calls Tryz.prog 22 #[.pointer (some ⟨eb, 0, none⟩), .int .i64 1] wx fun e w' => e = .returned (.int .i64 7) ∧ w' = wx) ∧ (Calls Tryz.prog 38 #[.pointer (some ⟨eb, 0, none⟩), .int .i64 1] wx fun e w' => e = .returned (.int .i64 7) ∧ w' = wx)) := fun wx hx => ⟨d_close (he.below hx) hd, d_reset (he.below hx) hd, d_set (he.below hx) hd⟩
  have HS : Hid (∀ wx, Below w.heap.size w wx → Calls Tryz.prog 39 #[.pointer (some ⟨eb, 0, none⟩)] wx fun e w' => ∃ g c, e = .returned (.slice (some ⟨g, 0, none⟩) 1 c) ∧ 1 ≤ c ∧ w'.cell? ⟨g, 0, none⟩ = some (.int .i64 1) ∧ Below wx.heap.size wx w') := fun wx hx => by
    refine (d_streams (he.below hx) hK (by rw [hs]; exact ⟨by decide, by decide⟩)).mono ?_
    rintro e w' ⟨v, rfl, hr, hbl⟩
    rw [hs] at hr
    obtain ⟨sa, ca, hv⟩ := slice_len hr
    subst hv
    obtain ⟨g, hg, hcg⟩ := slice_some hr (by omega)
    subst hg
    refine ⟨g, ca, rfl, hcg, ?_, hbl⟩
    have := hr.cellAt 0 (by omega)
    simpa using this
  have HH : Hid (∀ wx, Below w.heap.size w wx → Calls Tryz.prog 40 #[.pointer (some ⟨eb, 0, none⟩), .int .i64 1] wx fun e w' => e = .returned (.tuple #[.slice none 0 0, .int .i64 0]) ∧ w' = wx) := fun wx hx => by
    have := d_heads (he.below hx) (s := s) (by rw [hK]; simp) hh
    rw [hs] at this
    exact this
  obtain ⟨sv, cv, hv, -⟩ := bytesIn_len hb
  clear he hf hK hs hh hb hl hd
  subst hv
  generalize l.length = len at *
  go_enter Tryz.func17, Tryz.ntmps17
  go_wp2_with fail
  refine HF.out.mono ?_
  rintro e w' ⟨rfl, hw'⟩
  rw [hw']
  clear hw' w'
  go_wp2_with fail
  refine HFE.out.mono ?_
  rintro e w1 ⟨rfl, hb1⟩
  have HB1 := hide hb1
  clear hb1
  go_wp2_with fail
  refine (HO.out w1 _ _ HB1.out).mono ?_
  rintro e w' ⟨rfl, hw'⟩
  rw [hw']
  clear hw' w'
  obtain ⟨w2, hw2⟩ : ∃ w2, w2 = w1.alloc (.cells #[.int .u8 109, .int .u8 111, .int .u8 114, .int .u8 101] 5 (4, 5)) := ⟨_, rfl⟩
  have HB2 : Hid (Below w.heap.size w w2) := by rw [hw2]; exact HB1.out.alloc HB1.out.size _
  have HW2 := hide hw2
  clear hw2
  go_wp2_with fail
  rw [← HW2.out]
  refine (HW.out w2 _ HB2.out).mono ?_
  rintro e w' ⟨rfl, hw'⟩
  rw [hw']
  clear hw' w'
  obtain ⟨hc1, hc2, hc3⟩ := HC.out w2 HB2.out
  have HC1 := hide hc1
  have HC2 := hide hc2
  have HC3 := hide hc3
  clear hc1 hc2 hc3
  go_wp2_with fail
  refine HC1.out.mono ?_
  rintro e w' ⟨rfl, hw'⟩
  rw [hw']
  clear hw' w'
  go_wp2_with fail
  refine HC2.out.mono ?_
  rintro e w' ⟨rfl, hw'⟩
  rw [hw']
  clear hw' w'
  go_wp2_with fail
  refine HC3.out.mono ?_
  rintro e w' ⟨rfl, hw'⟩
  rw [hw']
  clear hw' w'
  go_wp2_with fail
  refine (HS.out w2 HB2.out).mono ?_
  rintro e w3 ⟨g, c, rfl, hc1, hcell, hb3⟩
  have HB3 : Hid (Below w.heap.size w w3) := HB2.out.trans (hb3.mono HB2.out.size)
  clear hb3
  go_wp2_with fail
  refine (HH.out w3 HB3.out).mono ?_
  rintro e w' ⟨rfl, hw'⟩
  rw [hw']
  clear hw' w'
  go_wp2
  go_ret
  exact ⟨rfl, HB3.out⟩
end Go.Proofs.YtiphkngfbpdeoaaGreatDoor
namespace Go.Proofs.YtiphkngfbpdeoaaGreatDoor
set_option linter.unusedVariables false
set_option linter.unusedSimpArgs false
open Go.RowKit
theorem conv_tx (w : World) (l : List UInt8) : ∃ w' cap, (convert 9 38 (.string ⟨l.toArray⟩)).run Tryz.prog w = .ok (.slice (some ⟨w.heap.size, 0, none⟩) l.length cap) w' ∧ BytesIn w' (.slice (some ⟨w.heap.size, 0, none⟩) l.length cap) l ∧ Below w.heap.size w w' := by
  have h := run_bytes_of_string (P := Tryz.prog) w 9 38 5 ⟨l.toArray⟩ Tryz.underlying9 Tryz.underlying38 Tryz.underlying5
  have hs : (ByteArray.mk l.toArray).size = l.length := by simp [ByteArray.size]
  rw [hs] at h
  have h1 : Below w.heap.size w w.drew := ⟨rfl, rfl, rfl, Nat.le_refl _, fun _ _ => rfl⟩
  have hh := heap_alloc_new w.drew (.cells (bytesRow ⟨l.toArray⟩ (grownCap w l.length 0 5)) 5 ((bytesRow ⟨l.toArray⟩ (grownCap w l.length 0 5)).size, (bytesRow ⟨l.toArray⟩ (grownCap w l.length 0 5)).size + 1))
  refine ⟨_, _, h, Or.inr ⟨w.heap.size, 0, _, rfl, lt_of_block hh, grownCap_ge w l.length 0 5, fun i hi => ?_⟩, h1.alloc (Nat.le_refl _) _⟩
  rw [cell_of_row _ w.heap.size _ _ _ _ hh, Nat.zero_add]
  simp only [bytesRow]
  rw [Array.getElem?_append_left (by simpa using hi)]
  simp [hi, List.getD]
def Kills (p : GEnd) (l : List UInt8) (code : Int) (q : GEnd) : Prop := FeedF p l code q ∨ (FeedG p l q ∧ code = 7 ∧ q.m.fault = 7)
theorem Kills.app {p q : GEnd} {l : List UInt8} {code : Int} (h : Kills p l code q) (r : List UInt8) : Kills p (l ++ r) code q := by
  rcases h with h | ⟨h, h1⟩
  · exact Or.inl h.app
  · exact Or.inr ⟨h.app, h1⟩
theorem FeedR.kills {p p1 q : GEnd} {l r : List UInt8} {code : Int} (h : FeedR p l p1) (h2 : Kills p1 r code q) : Kills p (l ++ r) code q := by
  rcases h2 with h2 | ⟨h2, h3⟩
  · exact Or.inl (h.fault h2)
  · exact Or.inr ⟨h.goes h2, h3⟩
section
variable {w : World} {eb : Nat} {F : Nat → Prop} {p q : GEnd}
theorem a_feedF {bv : Value} {l : List UInt8} {code : Int} (h : StE w eb F p) (hf : FeedF p l code q) (hL : q.L.length ≤ 1048576) (hgl : Gl w) (hge : ∀ j, j < 7 → ¬ F j) (hb : BytesIn w bv l) (hbn : ∀ j, bv.ownBlock = some j → ¬ F j) (hl : l.length ≤ 4611686018427387904) :
    Calls Tryz.prog 8 #[.pointer (some ⟨eb, 0, none⟩), bv] w fun e w' => e = .returned (.int .i64 code) ∧ GoE w w' eb F q := by
  obtain ⟨mb, g, hi, hr, hp, hF⟩ := h
  rw [← hp] at hf
  refine (x_feedFL eb mb g q bv l code w hi hr hf hL hgl (fun j hj e => hge j hj ((hF j).2 e)) hb (fun j hj e => hbn j hj ((hF j).2 e)) hl).mono ?_
  rintro e w' ⟨rfl, g', h1, h2, h3⟩
  exact ⟨rfl, GoE.of hF h3 h2 h1⟩
theorem c_kills {bv : Value} {l : List UInt8} {code : Int} (h : StE w eb F p) (hf : Kills p l code q) (hL : q.L.length ≤ 1048576) (hgl : Gl w) (hge : ∀ j, j < 7 → ¬ F j) (hb : BytesIn w bv l) (hbn : ∀ j, bv.ownBlock = some j → ¬ F j) (hl : l.length ≤ 4611686018427387904) :
    Calls Tryz.prog 8 #[.pointer (some ⟨eb, 0, none⟩), bv] w fun e w' => e = .returned (.int .i64 code) ∧ GoE w w' eb F q := by
  rcases hf with hf | ⟨hf, rfl, hq⟩
  · exact a_feedF h hf hL hgl hge hb hbn hl
  · obtain ⟨mb, g, hi, hr, hp, hF⟩ := h
    rw [← hp] at hf
    refine (x_feedG eb mb g q bv l w hi hr hf hq hL hgl (fun j hj e => hge j hj ((hF j).2 e)) hb (fun j hj e => hbn j hj ((hF j).2 e)) hl).mono ?_
    rintro e w' ⟨rfl, g', h1, h2, h3⟩
    exact ⟨rfl, GoE.of hF h3 h2 h1⟩
end
section
variable {i c b k : Int} {t : List UInt8}
theorem spoil_K (ht : t.length ≤ 30) : ∀ j, j < 12 → Kills (pText i c b k t) (spoilB t.length j) (spoilC j) ((pText i c b k t).died (spoilC j)) := by
  intro j hj
  by_cases h : j < 11
  · exact Or.inl (spoil_F ht j h)
  · have e : j = 11 := by omega
    subst e
    obtain ⟨g1, g2, g3, g4, -⟩ := got_rest (pOne i c b k).begin.m t.length
    refine Or.inr ⟨?_, rfl, rfl⟩
    exact feedG_of_feed (p := pText i c b k t) (fl := 0) (b := [1]) g2 g1 g4 g3 (lay 5 0 0 [1]) [] (feed_right (by constructor <;> decide))
theorem spoilC_ok : ∀ j, j < 12 → spoilC j ≠ 0 ∧ 0 ≤ spoilC j ∧ spoilC j ≤ 255 := by decide
theorem spoilB_le (n : Nat) (hn : n ≤ 30) : ∀ j, j < 12 → (spoilB n j).length ≤ 200 := by
  intro j hj
  by_cases h : j = 3
  · subst h
    show (lay 0 0 1 (List.replicate (33 - n) 0)).length ≤ 200
    rw [lay_length, List.length_replicate]; omega
  · match j, hj, h with
    | 0, _, _ => exact (show (spoilB 0 0).length ≤ 200 by decide)
    | 1, _, _ => exact (show (spoilB 0 1).length ≤ 200 by decide)
    | 2, _, _ => exact (show (spoilB 0 2).length ≤ 200 by decide)
    | 4, _, _ => exact (show (spoilB 0 4).length ≤ 200 by decide)
    | 5, _, _ => exact (show (spoilB 0 5).length ≤ 200 by decide)
    | 6, _, _ => exact (show (spoilB 0 6).length ≤ 200 by decide)
    | 7, _, _ => exact (show (spoilB 0 7).length ≤ 200 by decide)
    | 8, _, _ => exact (show (spoilB 0 8).length ≤ 200 by decide)
    | 9, _, _ => exact (show (spoilB 0 9).length ≤ 200 by decide)
    | 10, _, _ => exact (show (spoilB 0 10).length ≤ 200 by decide)
    | 11, _, _ => exact (show (spoilB 0 11).length ≤ 200 by decide)
theorem got_rest2 (m : EndM) (n : Nat) : (m.got_ n).greets = m.greets ∧ (m.got_ n).owed = m.owed := by
  unfold EndM.got_ EndM.counted
  simp only []
  split
  · exact ⟨rfl, rfl⟩
  · split <;> exact ⟨rfl, rfl⟩
theorem dead_text (code : Int) : DeadQ ((pText i c b k t).died code) (sText t).mute code := ⟨rfl, rfl, rfl, rfl, rfl, (got_rest2 (pOne i c b k).begin.m t.length).1, rfl, rfl⟩
theorem dead_owed (code : Int) (h : CfgOk i c b k) : -1099511627776 ≤ ((pText i c b k t).died code).m.owed ∧ ((pText i c b k t).died code).m.owed ≤ 1099511627776 := by
  have h1 : ((pText i c b k t).died code).m.owed = c - 32 := (got_rest2 (pOne i c b k).begin.m t.length).2
  have := h.c0; have := h.c1
  omega
end
def aheadB (t : List UInt8) : List UInt8 := greetB ++ lay 3 0 0 (four4 100) ++ lay 1 4 1 [] ++ lay 0 0 1 t
theorem feed_ahead (i c b k : Int) (t : List UInt8) (h : CfgOk i c b k) (ht : t.length ≤ 30) : FeedR (pNew i c b k) (aheadB t) (pText i c b k t) := ((feed_set i c b k).app (feed_one i c b k)).app (feed_first i c b k t h ht)
theorem aheadB_le (t : List UInt8) (ht : t.length ≤ 30) : (aheadB t).length ≤ 100 := by
  unfold aheadB
  simp only [List.length_append, lay_length]
  have : (four4 100).length = 4 := rfl
  have : greetB.length = 7 := rfl
  simp
  omega
end Go.Proofs.YtiphkngfbpdeoaaGreatDoor
