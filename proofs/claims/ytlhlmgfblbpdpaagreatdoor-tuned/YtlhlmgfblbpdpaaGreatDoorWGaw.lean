import Derived.Test.YtlhlmgfblbpdpaaGreatDoorWEnNew3
import Derived.Test.YtlhlmgfblbpdpaaGreatDoorWGaq
import Derived.Test.YtlhlmgfblbpdpaaGreatDoorWGau
import Derived.Test.YtlhlmgfblbpdpaaGreatDoorWGap
import Derived.Test.YtlhlmgfblbpdpaaGreatDoorWGag
import Derived.BigRegion
set_option linter.unusedVariables false
set_option linter.unusedSimpArgs false
/-
  Package sluice: NewEnd, of an end that is not first.
-/
namespace Go.Proofs.YtlhlmgfblbpdpaaGreatDoor
set_option linter.unusedVariables false
set_option linter.unusedSimpArgs false
open Go.RowKit

set_option maxHeartbeats 400000 in
theorem isWithin_ok (n l : Int) (w : World) (h : l ≤ n ∧ n ≤ 1000) : Calls Tryz.prog 49 #[.int .i64 n, .int .i64 l] w fun e w' => e = .returned (.bool true) ∧ w' = w := by
  have h1 : n ≥ l := h.1
  have h2 := h.2
  go_enter Tryz.func49, Tryz.ntmps49
  go_wp2
  go_ret
  exact ⟨rfl, rfl⟩
set_option maxHeartbeats 800000 in
theorem cfgFits_ok (i c b k : Int) (w : World) (h : CfgOk i c b k) : Calls Tryz.prog 37 #[.agg #[.int .i64 i, .int .i64 c, .int .i64 b, .int .i64 k]] w fun e w' => e = .returned (.bool true) ∧ Below w.heap.size w w' := by
  have hcf := heap_alloc_new w (.cells #[.int .i64 i, .int .i64 c, .int .i64 b, .int .i64 k] 23)
  obtain ⟨y0, y1, y2, y3⟩ := cfgs' hcf
  have HB : Hid (Below w.heap.size w (w.alloc (.cells #[.int .i64 i, .int .i64 c, .int .i64 b, .int .i64 k] 23))) := (Below.refl _ _).alloc (Nat.le_refl _) _
  clear hcf
  have HW := hide (fun n l w h => isWithin_ok n l w h)
  have H := hide h
  clear h
  go_enter Tryz.func37, Tryz.ntmps37
  go_wp2_with (go_at_call 49; refine (HW.out _ _ _ (by obtain ⟨h1, h2, h3, h4, h5, h6, h7, h8⟩ := H.out; omega)).mono ?_; rintro e w' ⟨rfl, rfl⟩)
  go_ret
  exact ⟨rfl, HB.out⟩
theorem stE_new {i c b k : Int} {w : World} {eb mb : Nat} (he : w.heap[eb]? = some (.cells (EndM.new i c b k mb).cells 91 (0, 0))) (hm : w.heap[mb]? = some (.map #[] 0)) : StE w eb (fun j => j = eb ∨ j = mb) (pNew i c b k) := by
  refine ⟨mb, ⟨EndM.new i c b k mb, [], [], [], [], [], []⟩, ?_, ?_, ?_, ?_⟩
  · constructor
    · exact ⟨he⟩
    · exact ⟨⟨#[], 0, hm, rfl, fun e h => by simp at h⟩, fun p h => by cases h⟩
    · rfl
    · exact List.nodup_nil
    · exact List.nodup_nil
    · exact List.nodup_nil
    · exact fun n h => by cases h
    · exact (World.ownsRow_nil _ _ _ _)
    · exact (World.ownsRow_nil _ _ _ _)
    · exact (World.ownsRow_nil _ _ _ _)
    · exact fun p h => by cases h
    · exact fun p h => by cases h
    · exact RowAt.of_owns (World.ownsRow_nil _ _ _ _)
    · exact fun p h => by cases h
    · exact RowAt.of_owns (World.ownsRow_nil _ _ _ _)
    · exact ⟨fun _ => 0, by constructor <;> simp [EndM.new, Value.ownBlock]⟩
  · exact RdOk.nil rfl
  · rfl
  · intro j
    unfold Foot
    simp [EndM.new, Value.ownBlock]
set_option maxHeartbeats 1600000 in
theorem newEnd_ok (i c b k : Int) (w : World) (h : CfgOk i c b k) : Calls Tryz.prog 19 #[.bool false, .agg #[.int .i64 i, .int .i64 c, .int .i64 b, .int .i64 k]] w fun e w' => ∃ eb F, e = .returned (.tuple #[.pointer (some ⟨eb, 0, none⟩), .int .i64 0]) ∧ StE w' eb F (pNew i c b k) ∧ Below w.heap.size w w' ∧ ∀ j, F j → w.heap.size ≤ j := by
  obtain ⟨w0, hw0⟩ : ∃ w0, w0 = w.alloc (.cells #[.int .i64 i, .int .i64 c, .int .i64 b, .int .i64 k] 23) := ⟨_, rfl⟩
  have hcf : w0.heap[w.heap.size]? = some (.cells #[.int .i64 i, .int .i64 c, .int .i64 b, .int .i64 k] 23 (0, 0)) := by rw [hw0]; exact heap_alloc_new w _
  have HB : Hid (Below w.heap.size w w0) := by rw [hw0]; exact (Below.refl _ _).alloc (Nat.le_refl _) _
  obtain ⟨y0, y1, y2, y3⟩ := cfgs' hcf
  have HCF := hide hcf
  have HF := hide (fun w => cfgFits_ok i c b k w h)
  have HN := hide (fun w => eNew_any i c b k w ⟨h.c0, h.c1⟩)
  clear hcf h
  have HW0 := hide hw0
  clear hw0
  go_enter Tryz.func19, Tryz.ntmps19
  go_upto_region 1 with fail
  rw [← HW0.out]
  go_wp2_with fail
  refine (HF.out _).mono ?_
  rintro e w1 ⟨rfl, hb1⟩
  have hcf1 : w1.heap[w.heap.size]? = some (.cells #[.int .i64 i, .int .i64 c, .int .i64 b, .int .i64 k] 23 (0, 0)) := kept_told HCF.out hb1
  obtain ⟨z0, z1, z2, z3⟩ := cfgs' hcf1
  have HB1 : Hid (Below w.heap.size w w1) := HB.out.trans (hb1.mono HB.out.size)
  clear hb1 hcf1
  go_wp2_with fail
  refine (HN.out _).mono ?_
  rintro e w2 ⟨mb, rfl, hm1, hm2, hb2⟩
  have HM1 : Hid (w.heap.size ≤ mb) := Nat.le_trans HB1.out.size hm1
  have HM2 := hide hm2
  have HB2 : Hid (Below w.heap.size w w2) := HB1.out.trans (hb2.mono HB1.out.size)
  clear hb2 hm1 hm2
  simp only [EndM.cells, EndM.new]
  go_wp2_with fail
  refine bodyPost_ret (v := .tuple #[.pointer (some ⟨w2.heap.size, 0, none⟩), .int .i64 0]) ?_ rfl ⟨w2.heap.size, _, rfl, stE_new (mb := mb) (heap_alloc_new w2 _) (cfg_alloc HM2.out), below_al HB2.out, ?_⟩
  · simp [results, Tryz.results19, go_sem]
  · rintro j (rfl | rfl)
    · exact HB2.out.size
    · exact HM1.out
end Go.Proofs.YtlhlmgfblbpdpaaGreatDoor
/-
  The law's own: begun.
-/
namespace Go.Proofs.YtlhlmgfblbpdpaaGreatDoor
set_option linter.unusedVariables false
set_option linter.unusedSimpArgs false
open Go.RowKit

theorem fine_heard {i c b k : Int} (h : CfgOk i c b k) : Fine (pHeard i c b k) where
  greets := rfl
  wanted := ⟨h.i0, h.i1⟩
  owed := by show 0 ≤ c - 32 ∧ c - 32 ≤ 4294967295; have := h.c0; have := h.c1; omega
  receive := by show -1099511627776 ≤ (32 : Int) ∧ 32 + (c - 32) ≤ 1099511627776; have := h.c0; have := h.c1; omega
  pnum := by show (0 : Nat) < 4294967296; decide
  own := by show -1099511627776 ≤ (32 : Int) ∧ (32 : Int) ≤ 1099511627776; decide
  other := by show -1099511627776 ≤ (0 : Int) ∧ (0 : Int) ≤ 1099511627776; decide
  ans := fun a ha => by
    have : a = ⟨3, 1, [], .slice none 0 0⟩ := by simpa [pHeard] using ha
    rw [this]; decide
  res := fun n hn => by cases hn
  st := fun s hs => by cases hs
  few := by show (0 : Nat) ≤ 1048576; decide
theorem owns_ge {w : World} {base e size n : Nat} {v : Value} {xs : List Value} (h : w.ownsRow base e size v n xs) {j : Nat} (hj : v.ownBlock = some j) : base ≤ j := by
  rcases h.2 with ⟨rfl, -⟩ | ⟨g, cap, cur, rfl, h2, _⟩
  · simp [Value.ownBlock] at hj
  · simp [Value.ownBlock] at hj; omega
theorem conv_str {w : World} {bv : Value} {l : List UInt8} (h : BytesIn w bv l) : (convert 43 9 bv).run Tryz.prog w = .ok (.string ⟨l.toArray⟩) w := by
  rcases h with ⟨rfl, rfl⟩ | ⟨bb, off, cap, rfl, h1, h2, h3⟩
  · exact run_convert_bytes_nil w 43 5 Tryz.underlying43 Tryz.underlying5 0 0 9 Tryz.underlying9
  · refine run_convert_bytes_back w 43 9 5 ⟨bb, off, none⟩ cap l Tryz.underlying43 Tryz.underlying5 Tryz.underlying9 (fun j hj => ?_)
    have e : (⟨bb, off, none⟩ : Addr).add j = ⟨bb, off + j, none⟩ := by unfold Addr.add; split <;> simp_all
    rw [e, h3 j hj, getD_lt _ _ _ hj]
set_option maxRecDepth 100000 in
set_option maxHeartbeats 1600000 in
theorem kbegun_any (i c b k : Int) (w : World) (h : CfgOk i c b k) (hgl : Gl w) (hg : 7 ≤ w.heap.size) :
    Calls Tryz.prog 9 #[.agg #[.int .i64 i, .int .i64 c, .int .i64 b, .int .i64 k], .int .i64 0] w fun e w' => ∃ eb F, e = .returned (.tuple #[.pointer (some ⟨eb, 0, none⟩), .bool true]) ∧ StE w' eb F (pSaid i c b k) ∧ Below w.heap.size w w' ∧ ∀ j, F j → w.heap.size ≤ j := by
  have kc : ∀ (w : World) (C : Array Value) (n c : Nat), (convert 43 43 (.slice (some ⟨w.heap.size, 0, none⟩) n c)).run Tryz.prog (w.alloc (.cells C 5)) = .ok (.slice (some ⟨w.heap.size, 0, none⟩) n c) (w.alloc (.cells C 5 (C.size, C.size + 1))) := fun w C n c => Lib.run_convert_bytes_const (P := Tryz.prog) w 43 5 C n c Tryz.underlying43 Tryz.underlying5
  obtain ⟨i0, hi, hz0, hz1, hz2⟩ := info_parts Tryz.info5
  obtain ⟨w0, hw0⟩ : ∃ w0, w0 = w.alloc (.cells #[.int .i64 i, .int .i64 c, .int .i64 b, .int .i64 k] 23) := ⟨_, rfl⟩
  have hcf : w0.heap[w.heap.size]? = some (.cells #[.int .i64 i, .int .i64 c, .int .i64 b, .int .i64 k] 23 (0, 0)) := by rw [hw0]; exact heap_alloc_new w _
  have hb0 : Below w.heap.size w w0 := by rw [hw0]; exact (Below.refl _ _).alloc (Nat.le_refl _) _
  obtain ⟨y0, y1, y2, y3⟩ := cfgs' hcf
  have HCF := hide hcf
  have HB0 := hide hb0
  have HW0 := hide hw0
  have HN := hide (newEnd_ok i c b k w0 h)
  have HOK := hide h
  have HGL := hide hgl
  clear hcf hb0 hw0 h hgl
  go_enter Tryz.func9, Tryz.ntmps9
  go_upto_region 1 with fail
  rw [← HW0.out]
  go_wp2_with fail
  refine HN.out.mono ?_
  rintro e w1 ⟨eb, F, rfl, hst, hb1, hF⟩
  have HST := hide hst
  have HF : Hid (∀ j, F j → w0.heap.size ≤ j) := hF
  have h0lt : w.heap.size < w0.heap.size := lt_of_block HCF.out
  have HB1 : Hid (Below w.heap.size w w1) := HB0.out.trans (hb1.mono HB0.out.size)
  have HCF1 : Hid (w1.heap[w.heap.size]? = some (.cells #[.int .i64 i, .int .i64 c, .int .i64 b, .int .i64 k] 23 (0, 0))) := kept_told HCF.out hb1
  clear hst hF hb1 y0 y1 y2 y3
  go_upto_region 5 with fail
  have hgb : (w1.alloc (.cells #[.int .u8 115, .int .u8 108, .int .u8 117, .int .u8 105, .int .u8 99, .int .u8 101, .int .u8 10] 5 (7, 8))).heap[w1.heap.size]? = some (.cells #[.int .u8 115, .int .u8 108, .int .u8 117, .int .u8 105, .int .u8 99, .int .u8 101, .int .u8 10] 5 (7, 8)) := heap_alloc_new w1 _
  have hb2 : Below w1.heap.size w1 (w1.alloc (.cells #[.int .u8 115, .int .u8 108, .int .u8 117, .int .u8 105, .int .u8 99, .int .u8 101, .int .u8 10] 5 (7, 8))) := (Below.refl _ _).alloc (Nat.le_refl _) _
  generalize (w1.alloc (.cells #[.int .u8 115, .int .u8 108, .int .u8 117, .int .u8 105, .int .u8 99, .int .u8 101, .int .u8 10] 5 (7, 8))) = w2 at *
  have HGB := hide hgb
  have HB2 := hide hb2
  have HK4 : Hid (Calls Tryz.prog 20 #[.int .i64 0] w2 fun e w' => e = .returned (.slice (some ⟨w2.heap.size, 0, none⟩) 4 4) ∧ BytesIn w' (.slice (some ⟨w2.heap.size, 0, none⟩) 4 4) (four4 0) ∧ Below w2.heap.size w2 w') := kfour_any 0 w2 (by omega)
  clear hgb hb2
  go_wp2_with fail
  refine HK4.out.mono ?_
  rintro e w3 ⟨rfl, hby3, hb3⟩
  have HL3 : Hid (Calls Tryz.prog 11 #[.int .i64 3, .int .i64 0, .int .i64 0, .slice (some ⟨w2.heap.size, 0, none⟩) 4 4] w3 fun e w' => ∃ v, e = .returned v ∧ w'.ownsRow w3.heap.size 5 1 v (lay 3 0 0 (four4 0)).length ((lay 3 0 0 (four4 0)).map B) ∧ Below w3.heap.size w3 w') := klay_any 3 0 0 (some ⟨w2.heap.size, 0, none⟩) (four4 0) 4 w3 (by omega) (by omega) (by omega) (by omega) (by omega) (by omega) (by decide) hby3
  have HB3 : Hid (Below w1.heap.size w1 w3) := HB2.out.trans (hb3.mono HB2.out.size)
  have HGB3 := hide (kept_told HGB.out hb3)
  clear hby3 hb3
  go_wp2_with fail
  refine HL3.out.mono ?_
  rintro e w4 ⟨v4, rfl, hown4, hb4⟩
  have HB4 : Hid (Below w1.heap.size w1 w4) := HB3.out.trans (hb4.mono HB3.out.size)
  have hgb4 := kept_told HGB3.out hb4
  rw [lay_len] at hown4
  obtain ⟨s4, c4, rfl⟩ := slice_len hown4
  have hby4 := bytesIn_of_owns hown4 (by rw [lay_len])
  obtain ⟨b4, rfl⟩ : ∃ b4, s4 = some b4 := by
    rcases hown4.2 with ⟨-, h0⟩ | ⟨g, cap, cur, h1, _⟩
    · simp [four4] at h0
    · exact ⟨_, (by simp at h1; exact h1.1)⟩
  have hlen4 : (four4 0).length = 4 := rfl
  rw [hlen4] at hown4 hby4 ⊢
  have hn4 : ∀ j v, ((lay 3 0 0 (four4 0)).map B)[j]? = some v → w4.cell? (b4.add j) = some v := by
    rcases lies_of_bytesIn hby4 with ⟨-, h0⟩ | ⟨ad, cap, h1, h2⟩
    · rw [lay_len] at h0; exact absurd h0.1 (by simp)
    · simp only [Value.slice.injEq, Option.some.injEq] at h1
      rw [h1.1]
      exact h2
  have hg4 : ∀ j v, (greetB.map B)[j]? = some v → w4.cell? ((⟨w1.heap.size, 0, none⟩ : Addr).add j) = some v := fun j v hv => by
    rw [Addr.add_mid, Nat.zero_add, cell_of_row _ _ _ _ _ _ hgb4, ← hv]
    exact List.getElem?_toArray
  have HN4 := hide hn4
  have HG4 := hide hg4
  have HB4' := hide hb4
  clear hn4 hg4 hgb4 hown4 hby4 hb4
  go_wp2_with (at_builtin; refine wpList_grow _ rfl (.tmp 29) (.tmp 30) 43 rfl i0 Tryz.underlying43 hi hz0 hz1 hz2 ⟨w1.heap.size, 0, none⟩ 7 7 (greetB.map B) rfl rfl HG4.out b4 10 c4 ((lay 3 0 0 (four4 0)).map B) (by rw [List.length_map, lay_len]; rfl) rfl HN4.out (by omega) (by omega) ?_)
  intro v5 w5 hown5 hb5
  obtain ⟨s5, c5, rfl⟩ := slice_len hown5
  have HB5 : Hid (Below w1.heap.size w1 w5) := HB4.out.trans (hb5.mono HB4.out.size)
  have hby5 : BytesIn w5 (.slice s5 17 c5) (greetB ++ lay 3 0 0 (four4 0)) := bytesIn_of_owns (by rw [List.map_append]; exact hown5) (by rw [List.length_append, lay_len]; rfl)
  have hbn5 : ∀ j, (Value.slice s5 17 c5).ownBlock = some j → ¬ F j := fun j hj hf => by
    have h1 := HST.out.lt hf
    have h2 := owns_ge hown5 hj
    have h3 := HB4.out.size
    omega
  have HFD := hide (c_feed (HST.out.below HB5.out) (feed_heard i c b k) rfl (HGL.out.below (HB1.out.trans (HB5.out.mono HB1.out.size))) (fun j hj hf => by have := HF.out j hf; omega) hby5 hbn5 (by rw [List.length_append, lay_len]; decide))
  clear hown5 hb5 hby5 hbn5
  go_wp2_with fail
  refine HFD.out.mono ?_
  rintro e w6 ⟨rfl, F6, hst6, hch6, hF6⟩
  have HFS : Hid (∀ j, F6 j → w0.heap.size ≤ j) := fun j hj => by
    rcases hF6 j hj with h | h
    · exact HF.out j h
    · have := HCF1.out; have := kept_told HCF1.out HB5.out; have := lt_of_block this; have h2 := HW0.out; have : w0.heap.size = w.heap.size + 1 := (by rw [h2]; simp); omega
  have HF6' : Hid (∀ j, F6 j → w.heap.size ≤ j) := fun j hj => by
    rcases hF6 j hj with h | h
    · have := HF.out j h; omega
    · exact Nat.le_trans (Nat.le_trans HB1.out.size HB5.out.size) h
  have hb6 : Below w.heap.size w w6 := below_of_chg (HB1.out.trans (HB5.out.mono HB1.out.size)) hch6 (fun j hj => by have := HF.out j hj; omega)
  have HCF6 : Hid (w6.heap[w.heap.size]? = some (.cells #[.int .i64 i, .int .i64 c, .int .i64 b, .int .i64 k] 23 (0, 0))) := by
    have h5 := kept_told HCF1.out HB5.out
    have := hch6.block w.heap.size (lt_of_block h5) (fun hf => by have := HF.out _ hf; omega)
    rw [this]; exact h5
  have hl16 : cutN 16 (firstB i).length = 16 := by rw [firstB_len]; decide
  have HT6 : Hid (Calls Tryz.prog 17 #[.pointer (some ⟨eb, 0, none⟩), .int .i64 16] w6 fun e w' => (∃ s, e = .returned (.slice s 16 16) ∧ BytesIn w' (.slice s 16 16) (firstB i)) ∧ GoE w6 w' eb F6 (pSaid i c b k)) := by
    refine (c_take (n := 16) hst6 (fine_heard HOK.out) rfl rfl rfl (runs_said i c b k) (by show (firstB i).length ≤ _; rw [firstB_len]; decide)).mono ?_
    rintro e w' ⟨⟨s, rfl, h1⟩, h2⟩
    change BytesIn w' (.slice s (cutN 16 (firstB i).length) (cutN 16 (firstB i).length)) ((firstB i).take (cutN 16 (firstB i).length)) at h1
    change GoE w6 w' eb F6 { pSaid i c b k with out := (firstB i).drop (cutN 16 (firstB i).length) } at h2
    rw [hl16, List.take_of_length_le (by rw [firstB_len]; decide)] at h1
    rw [hl16, List.drop_of_length_le (by rw [firstB_len]; decide)] at h2
    exact ⟨⟨s, by show Ending.returned (.slice s (cutN 16 (firstB i).length) (cutN 16 (firstB i).length)) = _; rw [hl16], h1⟩, h2⟩
  have HB6 := hide hb6
  clear hst6 hch6 hF6 hb6 hl16
  go_wp2_with fail
  refine HT6.out.mono ?_
  rintro e w7 ⟨⟨s7, rfl, hby7⟩, F7, hst7, hch7, hF7⟩
  have HF7 : Hid (∀ j, F7 j → w.heap.size ≤ j) := fun j hj => by
    rcases hF7 j hj with h | h
    · exact HF6'.out j h
    · exact Nat.le_trans HB6.out.size h
  have HB7 : Hid (Below w.heap.size w w7) := below_of_chg HB6.out hch7 HF6'.out
  have hcf7 : w7.heap[w.heap.size]? = some (.cells #[.int .i64 i, .int .i64 c, .int .i64 b, .int .i64 k] 23 (0, 0)) := by
    have := hch7.block w.heap.size (lt_of_block HCF6.out) (fun hf => by have := HFS.out _ hf; omega)
    rw [this]; exact HCF6.out
  obtain ⟨y0, -, -, -⟩ := cfgs' hcf7
  have hin : ((i.toNat : Nat) : Int) = i := by have := HOK.out.i0; omega
  have HK8 : Hid (Calls Tryz.prog 20 #[.int .i64 i] w7 fun e w' => e = .returned (.slice (some ⟨w7.heap.size, 0, none⟩) 4 4) ∧ BytesIn w' (.slice (some ⟨w7.heap.size, 0, none⟩) 4 4) (four4 i.toNat) ∧ Below w7.heap.size w7 w') := by
    have := kfour_any i.toNat w7 (by have := HOK.out.i1; omega)
    rw [hin] at this
    exact this
  have HBY7 := hide hby7
  have HST7 := hide hst7
  clear hby7 hst7 hch7 hF7 hcf7 hin
  go_wp2_with fail
  refine HK8.out.mono ?_
  rintro e w8 ⟨rfl, hby8, hb8⟩
  have HL8 : Hid (Calls Tryz.prog 11 #[.int .i64 3, .int .i64 0, .int .i64 0, .slice (some ⟨w7.heap.size, 0, none⟩) 4 4] w8 fun e w' => ∃ v, e = .returned v ∧ w'.ownsRow w8.heap.size 5 1 v (lay 3 0 0 (four4 i.toNat)).length ((lay 3 0 0 (four4 i.toNat)).map B) ∧ Below w8.heap.size w8 w') := klay_any 3 0 0 (some ⟨w7.heap.size, 0, none⟩) (four4 i.toNat) 4 w8 (by omega) (by omega) (by omega) (by omega) (by omega) (by omega) (by simp [four4]) hby8
  have HB8 := hide hb8
  clear hby8 hb8
  go_wp2_with fail
  refine HL8.out.mono ?_
  rintro e w9 ⟨v9, rfl, hown9, hb9⟩
  have hlen9 : (lay 3 0 0 (four4 i.toNat)).length = 10 := by rw [lay_len]; rfl
  rw [hlen9] at hown9
  obtain ⟨s9, c9, rfl⟩ := slice_len hown9
  have HO9 := hide hown9
  have HB9 : Hid (Below w7.heap.size w7 w9) := HB8.out.trans (hb9.mono HB8.out.size)
  have HL9 : Hid (Calls Tryz.prog 11 #[.int .i64 3, .int .i64 1, .int .i64 0, .slice none 0 0] w9 fun e w' => ∃ v, e = .returned v ∧ w'.ownsRow w9.heap.size 5 1 v (lay 3 1 0 []).length ((lay 3 1 0 []).map B) ∧ Below w9.heap.size w9 w') := klay_any 3 1 0 none [] 0 w9 (by omega) (by omega) (by omega) (by omega) (by omega) (by omega) (by decide) (Or.inl ⟨rfl, rfl⟩)
  clear hown9 hb9
  go_wp2_with fail
  refine HL9.out.mono ?_
  rintro e w10 ⟨v10, rfl, hown10, hb10⟩
  have hlen10 : (lay 3 1 0 []).length = 6 := by rw [lay_len]; rfl
  rw [hlen10] at hown10
  obtain ⟨s10, c10, rfl⟩ := slice_len hown10
  have HB10 : Hid (Below w7.heap.size w7 w10) := HB9.out.trans (hb10.mono HB9.out.size)
  have ho9 : w10.ownsRow 0 5 1 (.slice s9 10 c9) 10 ((lay 3 0 0 (four4 i.toNat)).map B) := owns_base (owns_chg HO9.out (Chg.of_below (S := fun _ => False) hb10) (fun _ _ => id)) (fun _ _ => Nat.zero_le _)
  have HO9' := hide ho9
  have HLI := hide (lies_of_bytesIn (bytesIn_of_owns hown10 hlen10.symm))
  rw [hlen10] at HLI
  have HF9 : Hid (∀ j, (Value.slice s9 10 c9).ownBlock = some j → w7.heap.size ≤ j) := fun j hj => Nat.le_trans HB8.out.size (owns_ge HO9.out hj)
  clear hown10 hb10 ho9
  go_wp2_with (at_builtin; refine wpList_app _ rfl (.tmp 42) (.tmp 43) 43 rfl 5 i0 (.int .u8 0) 1 1 Tryz.underlying43 hi hz0 hz1 hz2 rfl (by decide) _ 10 _ rfl HO9'.out _ 6 ((lay 3 1 0 []).map B) rfl ?c1 HLI.out ?c3 ?c4 ?c5 ?_)
  case c1 => simp [lay_len]
  case c3 => intro u hu; obtain ⟨x, -, rfl⟩ := List.mem_map.1 hu; rfl
  case c4 => unfold maxLen; omega
  case c5 => omega
  intro v11 w11 hown11 hg11 hfr11
  obtain ⟨s11, c11, rfl⟩ := slice_len hown11
  have hch11 : Chg (fun j => (Value.slice s9 10 c9).ownBlock = some j) w10 w11 := Chg.of_grown hg11 (fun j hj => hj)
  have hb11 : Below w7.heap.size w7 w11 := below_of_chg HB10.out hch11 HF9.out
  have hby11 : BytesIn w11 (.slice s11 16 c11) (firstB i) := bytesIn_of_owns (by unfold firstB; rw [List.map_append]; exact hown11) (by rw [firstB_len])
  have hby7' : BytesIn w11 (.slice s7 16 16) (firstB i) := HBY7.out.chg (Chg.of_below (S := fun _ => False) hb11) (fun _ _ => id)
  have q1 := conv_str hby11
  have q2 := conv_str hby7'
  have q3 := conv_str (w := w11.drew) hby11
  have q4 := conv_str (w := w11.drew) hby7'
  have HEND : Hid (StE w11 eb F7 (pSaid i c b k) ∧ Below w.heap.size w w11 ∧ ∀ j, F7 j → w.heap.size ≤ j) := ⟨HST7.out.below hb11, HB7.out.trans (hb11.mono HB7.out.size), HF7.out⟩
  clear hown11 hg11 hfr11 hch11 hb11 hby11 hby7'
  go_wp2
  have HKK : Hid ((convert 43 9 (.slice s7 16 16)).run Tryz.prog w11.drew = .ok (.string ⟨(firstB i).toArray⟩) w11.drew ∧ (convert 43 9 (.slice s11 16 c11)).run Tryz.prog w11.drew = .ok (.string ⟨(firstB i).toArray⟩) w11.drew) := ⟨q4, q3⟩
  clear q1 q2 q3 q4
  go_region_held3 (fun w' => (convert 43 9 (.slice s7 16 16)).run Tryz.prog w' = .ok (.string ⟨(firstB i).toArray⟩) w' ∧ (convert 43 9 (.slice s11 16 c11)).run Tryz.prog w' = .ok (.string ⟨(firstB i).toArray⟩) w') (exact HKK.out) (fail)
  all_goals go_wp2
  all_goals go_ret2
  all_goals (have hb := HEND.out.2.1; exact ⟨eb, F7, rfl, (show StE w11.drew eb F7 (pSaid i c b k) from HEND.out.1.below (below_dr (Below.refl _ _))), below_dr hb, HEND.out.2.2⟩)
end Go.Proofs.YtlhlmgfblbpdpaaGreatDoor
/-
  Package sluice: Feed of an end, of bytes that are a fault.
-/
namespace Go.Proofs.YtlhlmgfblbpdpaaGreatDoor
set_option linter.unusedVariables false
set_option linter.unusedSimpArgs false
open Go.RowKit

set_option maxRecDepth 100000 in
set_option maxHeartbeats 400000 in
theorem xclos_panic (fa ra eb : Nat) (code : Int) (older : List PanicEntry) (w : World) (R : World → Prop) (hf : w.heap[fa]? = some (.cells #[.int .i64 0] 41 (0, 0))) (hra : w.heap[ra]? = some (.cells #[.pointer (some ⟨eb, 0, none⟩)] 32 (0, 0))) (hne : fa ≠ ra)
    (hd : Calls Tryz.prog 23 #[.pointer (some ⟨eb, 0, none⟩), .int .i64 code] (w.setCell ⟨fa, 0, none⟩ (.int .i64 code)).drew fun e w' => e = .returned (.tuple #[]) ∧ R w') (hk : ∀ w', R w' → w'.cell? ⟨ra, 0, none⟩ = some (.pointer (some ⟨eb, 0, none⟩)) ∧ w'.cell? ⟨fa, 0, none⟩ = some (.int .i64 code)) :
    CallsD Tryz.prog 21 #[.pointer (some ⟨fa, 0, none⟩), .pointer (some ⟨ra, 0, none⟩)] (.panicking ({ v := .iface 41 (.int .i64 code), recovered := false } :: older)) w fun e u' w' =>
      e = .returned (.tuple #[]) ∧ u' = .panicking ({ v := .iface 41 (.int .i64 code), recovered := true } :: older) ∧ R w' := by
  have cf := cell_of_one hf
  have ff := free_of_one hf
  have c0 := cell_of_one hra
  have hlt := lt_of_block hra
  have k1 : (w.setCell ⟨fa, 0, none⟩ (.int .i64 code)).cell? ⟨fa, 0, none⟩ = some (.int .i64 code) := cell_of_one (show (w.setCell ⟨fa, 0, none⟩ (.int .i64 code)).heap[fa]? = some (.cells #[.int .i64 code] 41 (0, 0)) from blk_set hf)
  have k2 : (w.setCell ⟨fa, 0, none⟩ (.int .i64 code)).cell? ⟨ra, 0, none⟩ = some (.pointer (some ⟨eb, 0, none⟩)) := cell_of_one (by rw [heap_setCell_other w ⟨fa, 0, none⟩ ra _ (fun e => hne e.symm)]; exact hra)
  have HK : Hid ((w.setCell ⟨fa, 0, none⟩ (.int .i64 code)).drew.cell? ⟨ra, 0, none⟩ = some (.pointer (some ⟨eb, 0, none⟩)) ∧ (w.setCell ⟨fa, 0, none⟩ (.int .i64 code)).drew.cell? ⟨fa, 0, none⟩ = some (.int .i64 code)) := ⟨k2, k1⟩
  have HD := hide hd
  have HKP := hide hk
  clear hf hra hd hk
  refine callsD_of_wpS Tryz.func21 rfl fun c₀ cs hu => ?_
  apply wpS_seq
  apply wpS_region
  simp [wpOpsS, go_sem, recoverD, hu, Tryz.ntmps21, Exit.thenS]
  refine wpS_of_wp ?_
  change Code.wp Tryz.prog _ _ ⟨#[.pointer (some ⟨fa, 0, none⟩), .pointer (some ⟨ra, 0, none⟩), .iface 41 (.int .i64 code), .iface 41 (.int .i64 code), undef, undef, undef, undef, undef, undef, undef, undef, undef], []⟩ w
  go_wp2_with (go_at_call 22; refine (faultOf_any _ _).mono ?_; rintro e w' ⟨rfl, hw'⟩; rw [hw']; clear hw' w')
  go_region_held3 (fun wx => wx.cell? ⟨ra, 0, none⟩ = some (.pointer (some ⟨eb, 0, none⟩)) ∧ wx.cell? ⟨fa, 0, none⟩ = some (.int .i64 code)) (first | exact HK.out | exact HKP.out _ (by assumption)) (first | (go_at_call 23; refine HD.out.mono ?_; rintro e w' ⟨rfl, hx⟩))
  all_goals exact ⟨rfl, _, rfl, .tuple #[], by simp [results, Tryz.results21], rfl, rfl, by assumption⟩

set_option maxRecDepth 100000 in
set_option maxHeartbeats 1200000 in
theorem x_feedF (eb mb : Nat) (g q : GEnd) (bv : Value) (l : List UInt8) (code : Int) (w : World) (h : Inv w eb mb g) (hr : RdOk g) (hf : FeedF g.bare l code q) (hL : q.L.length ≤ 1048576) (hgl : Gl w) (hge : ∀ j, j < 7 → ¬ Foot eb mb g j) (hb : BytesIn w bv l) (hbn : ∀ j, bv.ownBlock = some j → ¬ Foot eb mb g j) (hl : l.length ≤ 4611686018427387904) :
    Calls Tryz.prog 10 #[.pointer (some ⟨eb, 0, none⟩), bv] w fun e w' => e = .returned (.int .i64 code) ∧ ∃ g', g'.bare = q ∧ RdOk g' ∧ Next w w' eb mb g g' := by
  have hmf : ∀ (fn : Fn) (first cap : Array Value) (w : World), (Instr.makeFunc fn first cap).run Tryz.prog w = .ok (.func fn first cap) w := fun _ _ _ _ => rfl
  obtain ⟨wA, hwA⟩ : ∃ wA, wA = (w.alloc (.cells #[.pointer (some ⟨eb, 0, none⟩)] 32)).alloc (.cells #[.int .i64 0] 41) := ⟨_, rfl⟩
  have hbA : Below w.heap.size w wA := by rw [hwA]; exact ((Below.refl _ _).alloc (Nat.le_refl _) _).alloc (by simp) _
  have hbx : wA.heap[w.heap.size]? = some (.cells #[.pointer (some ⟨eb, 0, none⟩)] 32 (0, 0)) := by
    rw [hwA, heap_alloc_old _ _ (by simp)]
    exact heap_alloc_new w _
  have hfc : wA.heap[w.heap.size + 1]? = some (.cells #[.int .i64 0] 41 (0, 0)) := by
    have := heap_alloc_new (w.alloc (.cells #[.pointer (some ⟨eb, 0, none⟩)] 32)) (.cells #[.int .i64 0] 41)
    rw [hwA]
    simpa using this
  have hA := h.below hbA
  have HFE := hide (i_feedF eb mb g q bv l code wA hA hr hf hL (hgl.below hbA) hge (hb.chg (Chg.of_below (S := fun _ => False) hbA) (fun _ _ => id)) hbn hl)
  have hnf : ∀ j, w.heap.size ≤ j → ¬ Foot eb mb g j := fun j hj hf => by have := Foot.lt h hf; omega
  have hlA : w.heap.size + 1 < wA.heap.size := lt_of_block hfc
  -- behind the inner Feed's panic
  have HMID : Hid (∀ w1, Dies wA w1 eb mb g q code → CallsD Tryz.prog 21 #[.pointer (some ⟨w.heap.size + 1, 0, none⟩), .pointer (some ⟨w.heap.size, 0, none⟩)] (.panicking [{ v := .iface 41 (.int .i64 code), recovered := false }]) w1 fun e u' w' => e = .returned (.tuple #[]) ∧ u' = .panicking [{ v := .iface 41 (.int .i64 code), recovered := true }] ∧ (w'.cell? ⟨w.heap.size, 0, none⟩ = some (.pointer (some ⟨eb, 0, none⟩)) ∧ w'.cell? ⟨w.heap.size + 1, 0, none⟩ = some (.int .i64 code)) ∧ ∃ g', g'.bare = q ∧ RdOk g' ∧ Next w w' eb mb g g') := fun w1 hd => by
    obtain ⟨g1, wI, m0, e, hg⟩ := hd
    have hnf1 : ∀ j, w.heap.size ≤ j → j < wA.heap.size → ¬ Foot eb mb g1 j := fun j h1 h2 hf => by
      rcases hg.nx.grow j hf with a | a
      · exact hnf j h1 a
      · omega
    have hkeep : ∀ j, w.heap.size ≤ j → j < wA.heap.size → w1.heap[j]? = wA.heap[j]? := fun j h1 h2 => by
      rw [hg.chg.block j (Nat.lt_of_lt_of_le h2 hg.nx.chg.size) (fun a => ?_), hg.nx.chg.block j h2 (hnf j h1)]
      rcases a with a | a | a
      · exact hnf1 j h1 h2 (Or.inl a)
      · exact hnf1 j h1 h2 (Or.inr (Or.inr (Or.inr (Or.inl a))))
      · omega
    have e1 : w1.heap[w.heap.size]? = some (.cells #[.pointer (some ⟨eb, 0, none⟩)] 32 (0, 0)) := by rw [hkeep _ (Nat.le_refl _) (by omega)]; exact hbx
    have e2 : w1.heap[w.heap.size + 1]? = some (.cells #[.int .i64 0] 41 (0, 0)) := by rw [hkeep _ (by omega) hlA]; exact hfc
    have hcs0 : Chg (fun j => j = w.heap.size + 1) w1 (w1.setCell ⟨w.heap.size + 1, 0, none⟩ (.int .i64 code)) := chg_set (Chg.refl _ _) rfl
    have hcs : Chg (fun j => j = w.heap.size + 1) w1 (w1.setCell ⟨w.heap.size + 1, 0, none⟩ (.int .i64 code)).drew := hcs0.drew
    have hfa := hnf1 (w.heap.size + 1) (by omega) hlA
    have hra := hnf1 w.heap.size (Nat.le_refl _) (by omega)
    have hg2 : GaveE w (w1.setCell ⟨w.heap.size + 1, 0, none⟩ (.int .i64 code)).drew eb mb g g1 wI m0 code := by
      refine ⟨hg.nx.pre hbA, hg.en.chg hcs (fun a => hfa (Or.inl a.symm)), hg.same, ?_, hg.few⟩
      refine (hg.chg.mono fun j _ a => ?_).trans (hcs.mono fun j _ a => Or.inr ?_)
      · rcases a with a | a | a
        · exact Or.inl a
        · exact Or.inr (Or.inl a)
        · exact Or.inr (Or.inr ⟨by omega, a.2⟩)
      · subst a
        exact Or.inr (Or.inr ⟨by omega, hfa⟩)
    have hb3 : (w1.setCell ⟨w.heap.size + 1, 0, none⟩ (.int .i64 code)).drew.heap[w.heap.size + 1]? = some (.cells #[.int .i64 code] 41 (0, 0)) := by
      show (w1.setCell ⟨w.heap.size + 1, 0, none⟩ (.int .i64 code)).heap[w.heap.size + 1]? = _
      rw [blk_set e2]
      rfl
    have hb4 : (w1.setCell ⟨w.heap.size + 1, 0, none⟩ (.int .i64 code)).drew.heap[w.heap.size]? = some (.cells #[.pointer (some ⟨eb, 0, none⟩)] 32 (0, 0)) := by
      rw [hcs.block _ (lt_of_block e1) (by omega)]
      exact e1
    refine (xclos_panic (w.heap.size + 1) w.heap.size eb code [] w1 (fun w' => (w'.cell? ⟨w.heap.size, 0, none⟩ = some (.pointer (some ⟨eb, 0, none⟩)) ∧ w'.cell? ⟨w.heap.size + 1, 0, none⟩ = some (.int .i64 code)) ∧ ∃ g', g'.bare = q ∧ RdOk g' ∧ Next w w' eb mb g g') e2 e1 (by omega) ?_ (fun w' h => h.1)).mono (fun e u' w' h => h)
    refine (eDie_any w eb mb g g1 wI m0 code _ hg2).mono ?_
    rintro e' w' ⟨rfl, ⟨g', q1, q2, q3⟩, hc⟩
    rw [e] at q1
    refine ⟨rfl, ⟨?_, ?_⟩, g', q1, q2, q3⟩
    · exact cell_of_one (by rw [hc.block _ (lt_of_block hb4) hra]; exact hb4)
    · exact cell_of_one (by rw [hc.block _ (lt_of_block hb3) hfa]; exact hb3)
  have HWA := hide hwA
  have hlt := h.en.lt
  obtain ⟨sv, cv, hv, -⟩ := bytesIn_len hb
  subst hv
  clear h hr hf hL hgl hge hb hbn hbA hfc hA hnf
  have k0 : wA.cell? ⟨w.heap.size, 0, none⟩ = some (.pointer (some ⟨eb, 0, none⟩)) := cell_of_one hbx
  clear hbx
  go_enter_defers Tryz.func10, Tryz.ntmps10
  go_wp2_with fail
  rw [← HWA.out]
  clear hwA
  refine HFE.out.mono ?_
  rintro e w1 ⟨rfl, hd⟩
  have HC := hide (HMID.out w1 hd)
  clear hd HMID HFE
  unfold faultP
  refine leaves_cons (f := 21) (args := #[.pointer (some ⟨w.heap.size + 1, 0, none⟩), .pointer (some ⟨w.heap.size, 0, none⟩)]) (by simp) (by simp [go_sem]) ?_
  refine HC.out.mono ?_
  rintro e u' w'' ⟨rfl, rfl, hk, hx⟩
  have hk2 := hk.2
  refine ⟨.int .i64 code, ?_, ?_⟩
  · simp [results, Tryz.results10, go_sem, hk2]
  · exact ⟨rfl, hx⟩
end Go.Proofs.YtlhlmgfblbpdpaaGreatDoor
/-
  Receive: a frame is laid and fed, whether it is a fault or not.
-/
namespace Go.Proofs.YtlhlmgfblbpdpaaGreatDoor
set_option linter.unusedVariables false
set_option linter.unusedSimpArgs false
open Go.RowKit

/-- What bytes do, and what Feed says to them. -/
def FeedC (p : GEnd) (l : List UInt8) (code : Int) (q : GEnd) : Prop := (code = 0 ∧ FeedR p l q ∧ q.m.fault = 0) ∨ (FeedF p l code q ∧ q.L.length ≤ 1048576)
section
variable {w w1 w2 : World} {xb eb : Nat} {F F1 : Nat → Prop} {p q : GEnd} {x : XM}
theorem c_feedX {bv : Value} {l : List UInt8} {code : Int} (h : StE w eb F p) (hf : FeedC p l code q) (hgl : Gl w) (hge : ∀ j, j < 7 → ¬ F j) (hb : BytesIn w bv l) (hbn : ∀ j, bv.ownBlock = some j → ¬ F j) (hl : l.length ≤ 4611686018427387904) :
    Calls Tryz.prog 10 #[.pointer (some ⟨eb, 0, none⟩), bv] w fun e w' => e = .returned (.int .i64 code) ∧ GoE w w' eb F q := by
  rcases hf with ⟨rfl, hf, hq⟩ | ⟨hf, hL⟩
  · exact c_feed h hf hq hgl hge hb hbn hl
  · obtain ⟨mb, g, hi, hr, hp, hF⟩ := h
    rw [← hp] at hf
    refine (x_feedF eb mb g q bv l code w hi hr hf hL hgl (fun j hj e => hge j hj ((hF j).2 e)) hb (fun j hj e => hbn j hj ((hF j).2 e)) hl).mono ?_
    rintro e w' ⟨rfl, g', h1, h2, h3⟩
    exact ⟨rfl, GoE.of hF h3 h2 h1⟩
theorem GoE.preX (hb : Below w.heap.size w w1) (h : GoE w1 w2 eb F q) : GoE w w2 eb F q := by
  obtain ⟨F2, h1, h2, h3⟩ := h
  refine ⟨F2, h1, (Chg.of_below hb).trans (h2.mono fun j _ e => Or.inr e), fun j hj => ?_⟩
  rcases h3 j hj with a | a
  · exact Or.inl a
  · exact Or.inr (Nat.le_trans hb.size a)
/-- A frame is laid; then it can be fed. -/
theorem klay_X {k f s : Int} {sa : Option Addr} {body : List UInt8} {cap : Nat} {code : Int} (h : In w xb eb F x p) (hf : FeedC p (lay k f s body) code q) (hbw : Below w.heap.size w w1) (hk0 : 0 ≤ k) (hk1 : k ≤ 255) (hf0 : 0 ≤ f) (hf1 : f ≤ 255) (hs0 : 0 ≤ s) (hs1 : s ≤ 32767) (hn : body.length ≤ 64) (hb : BytesIn w1 (.slice sa body.length cap) body) :
    Calls Tryz.prog 11 #[.int .i64 k, .int .i64 f, .int .i64 s, .slice sa body.length cap] w1 fun e w' => ∃ v, e = .returned v ∧ Below w1.heap.size w1 w' ∧ ∀ w2, Below w'.heap.size w' w2 → Calls Tryz.prog 10 #[.pointer (some ⟨eb, 0, none⟩), v] w2 fun e w'' => e = .returned (.int .i64 code) ∧ GoI w w'' xb eb F x q := by
  refine (klay_any k f s sa body cap w1 hk0 hk1 hf0 hf1 hs0 hs1 hn hb).mono ?_
  rintro e w' ⟨v, rfl, hown, hbl⟩
  refine ⟨v, rfl, hbl, fun w2 hb2 => ?_⟩
  have hbt := hbl.trans (hb2.mono hbl.size)
  have hbn : ∀ j, v.ownBlock = some j → ¬ F j := fun j hj hf => by
    have h1 := h.st.lt hf
    have h2 := owns_ge hown hj
    have h3 := hbw.size
    omega
  have hby := (bytesIn_of_owns hown rfl).chg (Chg.of_below (S := fun _ => False) hb2) (fun _ _ => id)
  refine (c_feedX ((h.st.below hbw).below hbt) hf ((h.gl.below hbw).below hbt) h.ge hby hbn (by rw [lay_len]; omega)).mono ?_
  rintro e w'' ⟨rfl, hgo⟩
  exact ⟨rfl, h.ends ((hgo.preX hbt).preX hbw)⟩
end
theorem conv_str2 (w : World) (l : List UInt8) : ∃ w' cap, (convert 9 43 (.string ⟨l.toArray⟩)).run Tryz.prog w = .ok (.slice (some ⟨w.heap.size, 0, none⟩) l.length cap) w' ∧ BytesIn w' (.slice (some ⟨w.heap.size, 0, none⟩) l.length cap) l ∧ Below w.heap.size w w' := by
  have h := run_bytes_of_string (P := Tryz.prog) w 9 43 5 ⟨l.toArray⟩ Tryz.underlying9 Tryz.underlying43 Tryz.underlying5
  have hs : (ByteArray.mk l.toArray).size = l.length := by simp [ByteArray.size]
  rw [hs] at h
  have h1 : Below w.heap.size w w.drew := ⟨rfl, rfl, rfl, Nat.le_refl _, fun _ _ => rfl⟩
  have hh := heap_alloc_new w.drew (.cells (bytesRow ⟨l.toArray⟩ (grownCap w l.length 0 5)) 5 ((bytesRow ⟨l.toArray⟩ (grownCap w l.length 0 5)).size, (bytesRow ⟨l.toArray⟩ (grownCap w l.length 0 5)).size + 1))
  refine ⟨_, _, h, Or.inr ⟨w.heap.size, 0, _, rfl, lt_of_block hh, grownCap_ge w l.length 0 5, fun i hi => ?_⟩, h1.alloc (Nat.le_refl _) _⟩
  rw [cell_of_row _ w.heap.size _ _ _ _ hh, Nat.zero_add]
  simp only [bytesRow]
  rw [Array.getElem?_append_left (by simpa using hi)]
  simp [hi, List.getD]
end Go.Proofs.YtlhlmgfblbpdpaaGreatDoor
/-
  Receive: the law's room and all.
-/
namespace Go.Proofs.YtlhlmgfblbpdpaaGreatDoor
set_option linter.unusedVariables false
set_option linter.unusedSimpArgs false
open Go.RowKit

/-- Numbers far below what an int holds. -/
structure XBd (x : XM) : Prop where
  cr : 0 ≤ x.credit ∧ x.credit ≤ 1152921504606846976
  bo : 0 ≤ x.bodies ∧ x.bodies ≤ 1152921504606846976
  be : 0 ≤ x.beside ∧ x.beside ≤ 1152921504606846976
  ak : 0 ≤ x.asked ∧ x.asked ≤ 1152921504606846976
  fo : 0 ≤ x.force ∧ x.force ≤ 1000
  ck : 0 ≤ x.clock ∧ x.clock ≤ 1000000
  lb : ∀ j, j < 4 → 0 ≤ (x.ln j).bodies ∧ (x.ln j).bodies ≤ 1152921504606846976
  lc : ∀ j, j < 4 → 0 ≤ (x.ln j).credit ∧ (x.ln j).credit ≤ 1152921504606846976
  lt : ∀ j, j < 4 → (x.ln j).read ≤ (x.ln j).text.length ∧ ((x.ln j).text.length : Int) ≤ 1152921504606846976
  cf : CfgOk x.cf.i x.cf.c x.cf.b x.cf.k
theorem Rel.bd {N : Nat} {x : XM} {d : Dn} {s : Nat → Sn} (h : Rel N x d s) (hN : N ≤ 9007199254740992) : XBd x := by
  have h1 := h.owd1; have h2 := h.texts; have h3 := h.sum; have h4 := h.bes; have h5 := h.bod1; have h6 := h.ask1; have h7 := h.ask0
  have h8 : x.asked ≤ N := by revert h6; split <;> omega
  refine ⟨⟨h.crd, by omega⟩, ⟨by omega, by omega⟩, ⟨by omega, by omega⟩, ⟨h7, by omega⟩, ⟨h.own0, h.own1⟩, ⟨h.clk0, h.clk1⟩, fun j hj => ?_, fun j hj => ?_, fun j hj => ?_, h.cf⟩
  · have := h.bodj hj; have := (h.lns j hj).owd1; omega
  · have := h.bodj hj; have := (h.lns j hj).owd1; have := (h.lns j hj).crd; have := (h.lns j hj).rcv; omega
  · have := h.bodj hj; have := (h.lns j hj).txt; exact ⟨(h.lns j hj).rd, by omega⟩

set_option maxRecDepth 100000 in
set_option maxHeartbeats 800000 in
theorem kall_X (xb : Nat) (ev pv : Value) (x : XM) (w : World) (h : XI w xb ev x pv) (hb : XBd x) :
    Calls Tryz.prog 29 #[.pointer (some ⟨xb, 0, none⟩)] w fun e w' => e = .returned (.int .i64 (32 + x.credit - x.bodies)) ∧ Below w.heap.size w w' := by
  have c24 := h.c24
  have c25 := h.c25
  have b1 := hb.cr
  have b2 := hb.bo
  generalize x.credit = cr at *
  generalize x.bodies = bo at *
  have hw1 : IntKind.i64.wrap (32 + cr) = 32 + cr := by rw [IntKind.wrap_i64]; omega
  have hw2 : IntKind.i64.wrap (32 + cr - bo) = 32 + cr - bo := by rw [IntKind.wrap_i64]; omega
  clear h hb b1 b2
  go_enter Tryz.func29, Tryz.ntmps29
  go_upto_region 1 with fail
  go_region_held3 (fun w' => w'.cell? ⟨xb, 24, none⟩ = some (.int .i64 bo) ∧ w'.cell? ⟨xb, 25, none⟩ = some (.int .i64 cr)) (exact ⟨c24, c25⟩) (fail)
  all_goals go_wp2
  all_goals go_ret
  all_goals exact ⟨by simp [hw1, hw2], Below.drew (Below.refl _ _)⟩
set_option maxRecDepth 100000 in
set_option maxHeartbeats 1600000 in
theorem kroom_X (xb : Nat) (ev pv : Value) (x : XM) (j : Nat) (w : World) (h : XI w xb ev x pv) (hb : XBd x) (hj : j < 4) :
    Calls Tryz.prog 28 #[.pointer (some ⟨xb, 0, none⟩), .int .i64 j] w fun e w' => e = .returned (.int .i64 (x.force + (x.ln j).credit - (x.ln j).bodies)) ∧ Below w.heap.size w w' := by
  have c21 := h.c21
  have d0 := h.c7
  have d1 := h.c11
  have d2 := h.c15
  have d3 := h.c19
  have e0 := h.c8
  have e1 := h.c12
  have e2 := h.c16
  have e3 := h.c20
  have b1 := hb.fo
  have b2 := hb.lb j hj
  have b3 := hb.lc j hj
  have hw1 : IntKind.i64.wrap (x.force + (x.ln j).credit) = x.force + (x.ln j).credit := by rw [IntKind.wrap_i64]; omega
  have hw2 : IntKind.i64.wrap (x.force + (x.ln j).credit - (x.ln j).bodies) = x.force + (x.ln j).credit - (x.ln j).bodies := by rw [IntKind.wrap_i64]; omega
  clear h hb b1 b2 b3
  rcases four_cases hj with rfl | rfl | rfl | rfl
  · generalize x.force = fo at *
    generalize (x.ln 0).bodies = bo at *
    generalize (x.ln 0).credit = cr at *
    clear d1 d2 d3 e1 e2 e3 hj
    go_enter Tryz.func28, Tryz.ntmps28
    go_upto_region 1 with fail
    go_region_held3 (fun w' => w'.cell? ⟨xb, 21, none⟩ = some (.int .i64 fo) ∧ w'.cell? ⟨xb, 7, none⟩ = some (.int .i64 bo) ∧ w'.cell? ⟨xb, 8, none⟩ = some (.int .i64 cr)) (exact ⟨c21, d0, e0⟩) (fail)
    all_goals go_wp2
    all_goals go_ret
    all_goals exact ⟨by simp [hw1, hw2], Below.drew (Below.refl _ _)⟩
  · generalize x.force = fo at *
    generalize (x.ln 1).bodies = bo at *
    generalize (x.ln 1).credit = cr at *
    clear d0 d2 d3 e0 e2 e3 hj
    go_enter Tryz.func28, Tryz.ntmps28
    go_upto_region 1 with fail
    go_region_held3 (fun w' => w'.cell? ⟨xb, 21, none⟩ = some (.int .i64 fo) ∧ w'.cell? ⟨xb, 11, none⟩ = some (.int .i64 bo) ∧ w'.cell? ⟨xb, 12, none⟩ = some (.int .i64 cr)) (exact ⟨c21, d1, e1⟩) (fail)
    all_goals go_wp2
    all_goals go_ret
    all_goals exact ⟨by simp [hw1, hw2], Below.drew (Below.refl _ _)⟩
  · generalize x.force = fo at *
    generalize (x.ln 2).bodies = bo at *
    generalize (x.ln 2).credit = cr at *
    clear d0 d1 d3 e0 e1 e3 hj
    go_enter Tryz.func28, Tryz.ntmps28
    go_upto_region 1 with fail
    go_region_held3 (fun w' => w'.cell? ⟨xb, 21, none⟩ = some (.int .i64 fo) ∧ w'.cell? ⟨xb, 15, none⟩ = some (.int .i64 bo) ∧ w'.cell? ⟨xb, 16, none⟩ = some (.int .i64 cr)) (exact ⟨c21, d2, e2⟩) (fail)
    all_goals go_wp2
    all_goals go_ret
    all_goals exact ⟨by simp [hw1, hw2], Below.drew (Below.refl _ _)⟩
  · generalize x.force = fo at *
    generalize (x.ln 3).bodies = bo at *
    generalize (x.ln 3).credit = cr at *
    clear d0 d1 d2 e0 e1 e2 hj
    go_enter Tryz.func28, Tryz.ntmps28
    go_upto_region 1 with fail
    go_region_held3 (fun w' => w'.cell? ⟨xb, 21, none⟩ = some (.int .i64 fo) ∧ w'.cell? ⟨xb, 19, none⟩ = some (.int .i64 bo) ∧ w'.cell? ⟨xb, 20, none⟩ = some (.int .i64 cr)) (exact ⟨c21, d3, e3⟩) (fail)
    all_goals go_wp2
    all_goals go_ret
    all_goals exact ⟨by simp [hw1, hw2], Below.drew (Below.refl _ _)⟩
end Go.Proofs.YtlhlmgfblbpdpaaGreatDoor
/-
  Package ends: Set, Tick.
-/
namespace Go.Proofs.YtlhlmgfblbpdpaaGreatDoor
set_option linter.unusedVariables false
set_option linter.unusedSimpArgs false
open Go.RowKit

def EndM.wants (m : EndM) (n : Int) : EndM := { m with wanted := n }
def EndM.setCode (m : EndM) (n : Int) : Int := if m.fault ≠ 0 then 7 else if withinB n 0 then 0 else 1
set_option maxRecDepth 100000 in
set_option maxHeartbeats 800000 in
theorem eSet_any (eb : Nat) (m : EndM) (n : Int) (w : World) (h : EnB w eb m) :
    Calls Tryz.prog 43 #[.pointer (some ⟨eb, 0, none⟩), .int .i64 n] w fun e w' => e = .returned (.int .i64 (m.setCode n)) ∧ (if m.setCode n = 0 then EnB w' eb (m.wants n) ∧ Chg (fun j => j = eb) w w' else w' = w) := by
  have HD := hide (isDead_any eb m w h)
  have HI := hide (isWithin_any n 0 w)
  have c7 := h.c7
  have f7 := h.fr 7
  have H := hide h
  clear h
  unfold EndM.setCode
  by_cases hf : m.fault = 0
  · have hb : (m.fault == 0) = true := by simp [hf]
    rw [hb] at HD
    obtain ⟨wb, hwb⟩ : ∃ wb, wb = withinB n 0 := ⟨_, rfl⟩
    rw [← hwb] at HI ⊢
    clear hwb
    cases wb
    all_goals (go_enter Tryz.func43, Tryz.ntmps43; go_wp2_with fail; refine HD.out.mono ?_; rintro e w' ⟨rfl, hw'⟩; rw [hw']; clear hw' w'; go_wp2_with fail; refine HI.out.mono ?_; rintro e w' ⟨rfl, hw'⟩; rw [hw']; clear hw' w'; go_wp2; go_ret)
    · simp [hf]
    · simp only [hf, ne_eq, not_true_eq_false, if_false, if_true]
      exact ⟨rfl, EnB.of (blk_set H.out.blk) rfl, by ((repeat (refine chg_set ?_ ?hs; (case hs => first | rfl | assumption | exact Or.inl rfl | exact Or.inr rfl))); first | exact Chg.refl _ _ | exact chg_drewN)⟩
  · have hb : (m.fault == 0) = false := by rw [beq_eq_false_iff_ne]; exact hf
    rw [hb] at HD
    go_enter Tryz.func43, Tryz.ntmps43
    go_wp2_with fail
    refine HD.out.mono ?_
    rintro e w' ⟨rfl, hw'⟩
    rw [hw']
    clear hw' w'
    go_wp2
    go_ret
    simp [hf]

def EndM.tickd (m : EndM) (n : Int) : EndM := { m with clock := m.clock + n }
set_option maxRecDepth 100000 in
set_option maxHeartbeats 800000 in
theorem eTick_ok (eb : Nat) (m : EndM) (n : Int) (w : World) (h : EnB w eb m) (hc1 : 0 ≤ m.clock) (hc2 : m.clock ≤ 1000000) (h0 : 0 ≤ n) (h1 : n ≤ 1000000 - m.clock) :
    Calls Tryz.prog 44 #[.pointer (some ⟨eb, 0, none⟩), .int .i64 n] w fun e w' => e = .returned (.int .i64 0) ∧ EnB w' eb (m.tickd n) ∧ Chg (fun j => j = eb) w w' := by
  have c2 := h.c2
  have f2 := h.fr 2
  have H := hide h
  clear h
  go_enter Tryz.func44, Tryz.ntmps44
  go_wp2
  go_ret
  exact ⟨rfl, EnB.of (blk_set H.out.blk) rfl, by ((repeat (refine chg_set ?_ ?hs; (case hs => first | rfl | assumption | exact Or.inl rfl | exact Or.inr rfl))); first | exact Chg.refl _ _ | exact chg_drewN)⟩
end Go.Proofs.YtlhlmgfblbpdpaaGreatDoor
/-
  An end that is dead: what its calls answer.
-/
namespace Go.Proofs.YtlhlmgfblbpdpaaGreatDoor
set_option linter.unusedVariables false
set_option linter.unusedSimpArgs false
open Go.RowKit

end Go.Proofs.YtlhlmgfblbpdpaaGreatDoor
/-
  An end that is dead: Take.
-/
namespace Go.Proofs.YtlhlmgfblbpdpaaGreatDoor
set_option linter.unusedVariables false
set_option linter.unusedSimpArgs false
open Go.RowKit

/-- The Goaway that a dead end has to make. -/
def GEnd.oGoaway (g : GEnd) : Option GEnd := if g.m.fault = 7 ∨ g.m.parted = true then none else some { g with m := { g.m with parted := true }, out := g.out ++ lay 5 0 0 [UInt8.ofNat g.m.fault.toNat] }
theorem goaway_bare (g : GEnd) : g.oGoaway.map GEnd.bare = g.bare.oGoaway := by
  unfold GEnd.oGoaway
  rw [show g.bare.m.fault = g.m.fault from rfl, show g.bare.m.parted = g.m.parted from rfl]
  split <;> rfl
set_option maxRecDepth 100000 in
set_option maxHeartbeats 1600000 in
theorem i_makeGoaway (eb mb : Nat) (g : GEnd) (w : World) (h : Inv w eb mb g) (hg : g.m.greets = false) (hf : 0 ≤ g.m.fault ∧ g.m.fault ≤ 255) (hl : g.out.length ≤ 1073741824) :
    Calls Tryz.prog 59 #[.pointer (some ⟨eb, 0, none⟩)] w fun e w' => MadeO w w' eb mb g g.oGoaway e := by
  have c1 := h.en.c1
  have c40 := h.en.c40
  have f40 := h.en.fr 40
  have hlt := h.en.lt
  by_cases h7 : g.m.fault = 7
  · have e : g.oGoaway = none := by unfold GEnd.oGoaway; rw [if_pos (Or.inl h7)]
    rw [e]
    rw [h7] at c1
    clear h e
    go_enter Tryz.func59, Tryz.ntmps59
    go_wp2
    go_ret
    exact ⟨rfl, Below.refl _ _⟩
  · cases hp : g.m.parted with
    | true =>
      have e : g.oGoaway = none := by unfold GEnd.oGoaway; rw [if_pos (Or.inr hp)]
      rw [e]
      rw [hp] at c40
      have h7' : (g.m.fault == 7) = false := by simp [h7]
      clear h e
      go_enter Tryz.func59, Tryz.ntmps59
      go_wp2
      go_ret
      exact ⟨rfl, Below.refl _ _⟩
    | false =>
      have e : g.oGoaway = some { g with m := { g.m with parted := true }, out := g.out ++ lay 5 0 0 [UInt8.ofNat g.m.fault.toNat] } := by unfold GEnd.oGoaway; rw [if_neg (by rw [hp]; simp [h7])]
      rw [e]
      rw [hp] at c40
      have h7' : (g.m.fault == 7) = false := by simp [h7]
      have hwr : IntKind.u8.wrap g.m.fault = g.m.fault := by rw [IntKind.wrap_u8]; omega
      have hset : Chg (fun j => j = eb) w (w.setCell ⟨eb, 40, none⟩ (.bool true)) := chg_set (Chg.refl _ _) rfl
      have hen1 : EnB (w.setCell ⟨eb, 40, none⟩ (.bool true)) eb { g.m with parted := true } := EnB.of (blk_set h.en.blk) rfl
      have hb2 : Below (w.setCell ⟨eb, 40, none⟩ (.bool true)).heap.size (w.setCell ⟨eb, 40, none⟩ (.bool true)) ((w.setCell ⟨eb, 40, none⟩ (.bool true)).alloc (.cells #[.int .u8 g.m.fault] 5)) := (Below.refl _ _).alloc (Nat.le_refl _) _
      have hszs : (w.setCell ⟨eb, 40, none⟩ (.bool true)).heap.size = w.heap.size := by simp
      have hrow1 : ((w.setCell ⟨eb, 40, none⟩ (.bool true)).alloc (.cells #[.int .u8 g.m.fault] 5)).ownsRow 0 5 1 g.m.out g.out.length (g.out.map B) := by
        refine owns_chg (owns_chg h.out hset (fun j hj e => by rw [e] at hj; exact owns_ne h.out h.en.blk (by decide) hj)) (Chg.of_below (S := fun _ => False) hb2) (fun _ _ => id)
      have hby : BytesIn ((w.setCell ⟨eb, 40, none⟩ (.bool true)).alloc (.cells #[.int .u8 g.m.fault] 5)) (.slice (some ⟨w.heap.size, 0, none⟩) 1 1) [UInt8.ofNat g.m.fault.toNat] := by
        have hn := heap_alloc_new (w.setCell ⟨eb, 40, none⟩ (.bool true)) (.cells #[.int .u8 g.m.fault] 5)
        rw [hszs] at hn
        refine Or.inr ⟨w.heap.size, 0, 1, rfl, lt_of_block hn, Nat.le_refl _, fun i hi => ?_⟩
        have hi0 : i = 0 := by simp at hi; omega
        subst hi0
        rw [cell_of_row _ _ _ _ _ _ hn]
        have e3 : ((UInt8.ofNat g.m.fault.toNat).toNat : Int) = g.m.fault := by rw [UInt8.toNat_ofNat']; omega
        show some (Value.int .u8 g.m.fault) = some (Value.int .u8 ((UInt8.ofNat g.m.fault.toNat).toNat : Int))
        rw [e3]
      have HP := hide (en_put eb { g.m with parted := true } g.out 5 0 0 (some ⟨w.heap.size, 0, none⟩) [UInt8.ofNat g.m.fault.toNat] 1 _ (hen1.below hb2) hg hrow1 hl (by omega) (by omega) (by omega) (by omega) (by omega) (by omega) (by simp) hby)
      have HEND : Hid (∀ w' v, Put ((w.setCell ⟨eb, 40, none⟩ (.bool true)).alloc (.cells #[.int .u8 g.m.fault] 5)) w' eb { g.m with parted := true } g.out (lay 5 0 0 [UInt8.ofNat g.m.fault.toNat]) v → ∃ g', g'.bare = ({ g with m := { g.m with parted := true }, out := g.out ++ lay 5 0 0 [UInt8.ofNat g.m.fault.toNat] } : GEnd).bare ∧ Next w w' eb mb g g') := fun w' v hput => by
        refine ⟨{ g with m := { g.m with parted := true, out := v }, out := g.out ++ lay 5 0 0 [UInt8.ofNat g.m.fault.toNat] }, rfl, ?_⟩
        refine h.put (m' := { g.m with parted := true }) rfl rfl rfl rfl rfl rfl ⟨hput.b, hput.row, ?_, fun j hj => ?_⟩
        · exact ((hset.mono fun j _ e => Or.inl e).then_below hb2).trans (hput.chg.mono fun j _ e => Or.inr e)
        · rcases hput.fresh j hj with a | a
          · exact Or.inl a
          · refine Or.inr ?_
            have := hb2.size
            omega
      clear h e hset hen1 hb2 hrow1 hby
      generalize g.m.fault = code at *
      go_enter Tryz.func59, Tryz.ntmps59
      go_wp2_with fail
      refine HP.out.mono ?_
      rintro e w' ⟨rfl, v, hput⟩
      have HX := hide (HEND.out w' v hput)
      clear hput
      go_wp2
      go_ret
      exact ⟨rfl, HX.out⟩
set_option maxRecDepth 100000 in
set_option maxHeartbeats 800000 in
theorem i_makeNextD (eb mb : Nat) (g : GEnd) (w : World) (h : Inv w eb mb g) (hg : g.m.greets = false) (hd : g.m.fault ≠ 0) (hf : 0 ≤ g.m.fault ∧ g.m.fault ≤ 255) (hl : g.out.length ≤ 1073741824) :
    Calls Tryz.prog 47 #[.pointer (some ⟨eb, 0, none⟩)] w fun e w' => MadeO w w' eb mb g g.oGoaway e := by
  have hdd := isDead_any eb g.m w h.en
  rw [show (!(g.m.fault == 0)) = true from by simp [hd]] at hdd
  have HD := hide hdd
  have HG := hide (i_makeGoaway eb mb g w h hg hf hl)
  clear h hdd
  generalize g.oGoaway = og at *
  go_enter Tryz.func47, Tryz.ntmps47
  go_wp2_with fail
  refine HD.out.mono ?_
  rintro e w' ⟨rfl, hw'⟩
  rw [hw']
  clear hw' w'
  go_wp2_with fail
  refine HG.out.mono ?_
  intro e w1 hm
  cases og with
  | none =>
    obtain ⟨rfl, hb⟩ := hm
    have HB := hide hb
    clear hb
    go_wp2
    go_ret
    exact ⟨rfl, HB.out⟩
  | some q =>
    obtain ⟨rfl, hx⟩ := hm
    have HX := hide hx
    clear hx
    go_wp2
    go_ret
    exact ⟨rfl, HX.out⟩
/-- How Take ends: what it hands out is the end's no more. -/
structure TakenX (w w' : World) (eb mb : Nat) (g p : GEnd) (n : Int) (e : Ending) : Prop where
  eq : ∃ s, e = .returned (.slice s (cutN n p.out.length) (cutN n p.out.length)) ∧ BytesIn w' (.slice s (cutN n p.out.length) (cutN n p.out.length)) (p.out.take (cutN n p.out.length)) ∧ ∃ g', g'.bare = { p with out := p.out.drop (cutN n p.out.length) } ∧ Next w w' eb mb g g' ∧ ∀ j, (Value.slice s (cutN n p.out.length) (cutN n p.out.length)).ownBlock = some j → ¬ Foot eb mb g' j
theorem takenX_of {w w1 w' : World} {eb mb : Nat} {g c : GEnd} {n : Int} {v' : Value} {e : Ending} (hn : Next w w1 eb mb g c) (hc : CutOff w1 w' eb 41 c.m.out v' c.out (cutN n c.out.length) e) : TakenX w w' eb mb g c.bare n e := by
  obtain ⟨⟨s, he, hby, hap⟩, w2, hw2, hb2, hrow⟩ := hc
  subst hw2
  have hi := hn.inv.below hb2
  have hset : Chg (fun j => j = eb) w2 (w2.setCell ⟨eb, 41, none⟩ v') := chg_set (Chg.refl _ _) rfl
  have hr0 : w2.ownsRow 0 5 1 v' (c.out.drop (cutN n c.out.length)).length ((c.out.drop (cutN n c.out.length)).map B) := by
    rw [List.length_drop]
    exact owns_base hrow (fun _ _ => Nat.zero_le _)
  have hcc : Chg (fun j => j = eb) w1 (w2.setCell ⟨eb, 41, none⟩ v') := (Chg.of_below hb2).trans (hset.mono fun j _ e => Or.inr e)
  have hn2 := hn.inv.onEnd (S := fun j => j = eb) (w' := w2.setCell ⟨eb, 41, none⟩ v') (m' := { c.m with out := v' }) (A' := c.ans) (R' := c.res) (o' := c.out.drop (cutN n c.out.length)) hcc (fun j e => Or.inl e) (EnB.of (blk_set hi.en.blk) rfl) rfl rfl rfl
    (owns_chg hr0 hset (fun j hj e => by rw [e] at hj; exact owns_ne hr0 hi.en.blk (by decide) hj)) (fun j hj => Or.inr (hrow.lt j hj).1) hn.inv.ans (fun _ h => h) (fun _ h => h) hn.inv.res (fun _ h => h)
  refine ⟨⟨s, he, hby, _, ?_, hn.trans hn2, ?_⟩⟩
  · rfl
  · intro j hj hf
    have hj := hap j hj
    have hlt := owns_lt hn.inv.out hj
    rcases hf with e | e | e | e | e | e | e | ⟨a, ha, e⟩ | ⟨p, hp, e | e | e⟩
    · rw [e] at hj; exact owns_ne hn.inv.out hn.inv.en.blk (by decide) hj
    · rw [e] at hj; exact owns_mb hn.inv.kn hn.inv.out hj
    · have := (hrow.lt j e).1; omega
    · exact hn.inv.out_got hj e
    · exact rows_ne hn.inv.out hn.inv.row (by decide) hj e
    · exact rows_ne2 hn.inv.out hn.inv.ans (by decide) hj e
    · exact rows_ne2 hn.inv.out hn.inv.res (by decide) hj e
    · exact hn.inv.out_an ha e hj
    · rw [e] at hj; exact owns_ne hn.inv.out (hn.inv.st hp).blk (by decide) hj
    · exact hn.inv.out_un hp e hj
    · exact hn.inv.out_wa hp e hj
set_option maxRecDepth 100000 in
set_option maxHeartbeats 1600000 in
theorem i_takeD (eb mb : Nat) (g q : GEnd) (n : Int) (w : World) (h : Inv w eb mb g) (hg : g.m.greets = false) (hd : g.m.fault ≠ 0) (hf : 0 ≤ g.m.fault ∧ g.m.fault ≤ 255) (hq : (g.bare.oGoaway = none ∧ q = g.bare) ∨ g.bare.oGoaway = some q) (hl : q.out.length ≤ 1073741824) (hn : (q.out.length : Int) < n) :
    Calls Tryz.prog 36 #[.pointer (some ⟨eb, 0, none⟩), .int .i64 n] w fun e w' => TakenX w w' eb mb g q n e := by
  have hqn : q.oGoaway = none := by
    rcases hq with ⟨h1, h2⟩ | h1
    · rw [h2]; exact h1
    · unfold GEnd.oGoaway at h1
      split at h1
      · cases h1
      · injection h1 with h1
        subst h1
        unfold GEnd.oGoaway
        rw [if_pos (Or.inr rfl)]
  have hqo : g.out.length ≤ q.out.length ∧ (g.bare.oGoaway = some q → g.out.length < q.out.length) := by
    rcases hq with ⟨h1, h2⟩ | h1
    · rw [h2]; exact ⟨Nat.le_refl _, fun e => by rw [h1] at e; cases e⟩
    · unfold GEnd.oGoaway at h1
      split at h1
      · cases h1
      · injection h1 with h1
        subst h1
        have : g.out.length < (g.out ++ lay 5 0 0 [UInt8.ofNat g.m.fault.toNat]).length := by rw [List.length_append, lay_length]; omega
        exact ⟨Nat.le_of_lt this, fun _ => this⟩
  have hqm : q.m.greets = g.m.greets ∧ q.m.fault = g.m.fault := by
    rcases hq with ⟨h1, h2⟩ | h1
    · rw [h2]; exact ⟨rfl, rfl⟩
    · unfold GEnd.oGoaway at h1
      split at h1
      · cases h1
      · injection h1 with h1
        subst h1
        exact ⟨rfl, rfl⟩
  obtain ⟨ho1, ho2⟩ := hqo
  have H := hide h
  have HG := hide hg
  have HD := hide hd
  have HF := hide hf
  have HQ := hide hq
  have HQN := hide hqn
  have HQM := hide hqm
  have HO2 := hide ho2
  clear h hg hd hf hq hqn hqm ho2
  go_enter Tryz.func36, Tryz.ntmps36
  go_wp2
  go_loopw [5] (fun i wr => ∃ (wv : World) (c : GEnd) (mo : Bool), wv = wr ∧ i = .bool mo ∧ Next w wv eb mb g c ∧ (if mo then c.bare = g.bare ∨ c.bare = q else c.bare = q)) (fun i wr => (q.out.length - madeLen wr eb) * 2 + oneIf i)
  case atStart => exact ⟨_, g, true, rfl, rfl, Next.refl H.out, Or.inl rfl⟩
  case round =>
    obtain ⟨wv, c, mo, hwv, rfl, hnx, hmo⟩ := hrel
    subst hwv
    have c41 := hnx.inv.en.c41
    obtain ⟨sa, ca, hsl⟩ := slice_len hnx.inv.out
    rw [hsl] at c41
    have hml := hnx.inv.madeLen
    have hco : c.out.length ≤ q.out.length := by
      have e1 : ∀ {a : GEnd}, c.bare = a → c.out = a.out := fun {a} e => by have := congrArg GEnd.out e; exact this
      cases mo with
      | true =>
        simp only [if_true] at hmo
        rcases hmo with e | e
        · rw [e1 e]; exact ho1
        · rw [e1 e]; exact Nat.le_refl _
      | false =>
        simp only [Bool.false_eq_true, if_false] at hmo
        rw [e1 hmo]; exact Nat.le_refl _
    have HNX := hide hnx
    have HML := hide hml
    have HMO := hide hmo
    clear hnx hml hmo hsl
    cases mo with
    | false =>
      have hcp := HMO.out
      simp only [Bool.false_eq_true, if_false] at hcp
      have HC : Hid (Calls Tryz.prog 48 #[.pointer (some ⟨eb, 41, none⟩), .int .i64 n] wv fun e w' => TakenX w w' eb mb g q n e) := by
        refine (ecut_any eb 41 c.m.out c.out n _ HNX.out.inv.en.c41 (HNX.out.inv.en.fr 41) HNX.out.inv.en.lt HNX.out.inv.out (fun e => owns_ne HNX.out.inv.out HNX.out.inv.en.blk (by decide) e) (by omega)).mono ?_
        rintro e w' ⟨v', hc⟩
        have := takenX_of HNX.out hc
        rw [hcp] at this
        exact this
      clear hcp
      go_wp2_with fail
      refine HC.out.mono ?_
      intro e w' ht
      obtain ⟨s, he, -⟩ := ht.eq
      have HT := hide ht
      clear ht
      subst he
      go_wp2
      go_ret
      exact HT.out
    | true =>
      have hru := HMO.out
      simp only [if_true] at hru
      have hcm : c.m.greets = false ∧ c.m.fault = g.m.fault := by
        rcases hru with e | e
        · have e2 : c.bare.m = g.bare.m := by rw [e]
          exact ⟨(show c.m.greets = g.m.greets from (by have := congrArg (fun m : EndM => m.greets) e2; exact this)).trans HG.out, (by have := congrArg (fun m : EndM => m.fault) e2; exact this)⟩
        · have e2 : c.bare.m = q.m := by rw [e]
          exact ⟨(show c.m.greets = q.m.greets from (by have := congrArg (fun m : EndM => m.greets) e2; exact this)).trans (HQM.out.1.trans HG.out), (show c.m.fault = q.m.fault from (by have := congrArg (fun m : EndM => m.fault) e2; exact this)).trans HQM.out.2⟩
      have hlt : (c.out.length : Int) < n := by omega
      have HMK := hide (i_makeNextD eb mb c wv HNX.out.inv hcm.1 (by rw [hcm.2]; exact HD.out) (by rw [hcm.2]; exact HF.out) (by omega))
      have HRU := hide hru
      have hgb := goaway_bare c
      have HGB := hide hgb
      clear hru HMO hcm hgb
      go_wp2_with fail
      refine HMK.out.mono ?_
      intro e w1 hm
      cases hcn : c.oGoaway with
      | none =>
        rw [hcn] at hm
        obtain ⟨rfl, hb⟩ := hm
        have hgb2 := HGB.out
        rw [hcn] at hgb2
        have hcp : c.bare = q := by
          rcases HRU.out with e | e
          · rw [e] at hgb2
            rcases HQ.out with ⟨-, h2⟩ | h1
            · rw [e]; exact h2.symm
            · rw [h1] at hgb2; cases hgb2
          · exact e
        have hml1 : madeLen w1 eb = c.out.length := (HNX.out.then_below hb).inv.madeLen
        have HB := hide hb
        have HCP := hide hcp
        clear hb hcp hgb2 hcn
        go_wp2
        all_goals go_roundw
        case rel => exact ⟨_, c, false, rfl, rfl, HNX.out.then_below HB.out, by simpa using HCP.out⟩
        case measure => rw [hml1, HML.out]; simp [oneIf]
      | some d =>
        rw [hcn] at hm
        obtain ⟨rfl, g', hg', hn'⟩ := hm
        have hgb2 := HGB.out
        rw [hcn] at hgb2
        have hcp : g'.bare = q ∧ c.out.length < q.out.length := by
          rcases HRU.out with e | e
          · rw [e] at hgb2
            rcases HQ.out with ⟨h1, -⟩ | h1
            · rw [h1] at hgb2; cases hgb2
            · have h3 := HO2.out h1
              rw [h1] at hgb2
              simp only [Option.map_some, Option.some.injEq] at hgb2
              refine ⟨by rw [hg']; exact hgb2, ?_⟩
              have : c.out = g.out := by have := congrArg GEnd.out e; exact this
              rw [this]; exact h3
          · rw [e, HQN.out] at hgb2; cases hgb2
        have hgo : g'.out = q.out := by have := congrArg GEnd.out hcp.1; exact this
        have hml1 : madeLen w1 eb = q.out.length := by rw [hn'.inv.madeLen, hgo]
        have HN' := hide hn'
        have HCP := hide hcp.1
        have hcl := hcp.2
        clear hn' hg' hgb2 hcn hcp hgo
        go_wp2
        all_goals go_roundw
        case rel => exact ⟨_, g', true, rfl, rfl, HNX.out.trans HN'.out, Or.inr HCP.out⟩
        case measure => rw [hml1, HML.out]; simp [oneIf]; omega
set_option maxHeartbeats 400000 in
theorem x_takeD (eb mb : Nat) (g q : GEnd) (n : Int) (w : World) (h : Inv w eb mb g) (hg : g.m.greets = false) (hd : g.m.fault ≠ 0) (hf : 0 ≤ g.m.fault ∧ g.m.fault ≤ 255) (hq : (g.bare.oGoaway = none ∧ q = g.bare) ∨ g.bare.oGoaway = some q) (hl : q.out.length ≤ 1073741824) (hn : (q.out.length : Int) < n) :
    Calls Tryz.prog 17 #[.pointer (some ⟨eb, 0, none⟩), .int .i64 n] w fun e w' => TakenX w w' eb mb g q n e := by
  have HC := hide (i_takeD eb mb g q n w h hg hd hf hq hl hn)
  clear h hg hd hf hq hl hn
  go_enter Tryz.func17, Tryz.ntmps17
  go_wp2_with fail
  refine HC.out.mono ?_
  intro e w' ht
  obtain ⟨s, he, -⟩ := ht.eq
  have HT := hide ht
  clear ht
  subst he
  go_wp2
  go_ret
  exact HT.out
end Go.Proofs.YtlhlmgfblbpdpaaGreatDoor
/-
  An end that is dead: its calls, as the laws need them.
-/
namespace Go.Proofs.YtlhlmgfblbpdpaaGreatDoor
set_option linter.unusedVariables false
set_option linter.unusedSimpArgs false
open Go.RowKit

set_option maxRecDepth 100000 in
set_option maxHeartbeats 800000 in
/-- Nothing is unread. -/
theorem eRead_dead (eb mb : Nat) (m : EndM) (K : List Str) (s n : Int) (p : Str) (ua : Option Addr) (uc : Nat) (w : World) (h : EnB w eb m) (hd : m.fault ≠ 0) (hm : m.known = .map (some mb)) (hK : KnownS w mb K) (hn : 0 ≤ n) (hf : findK K s = some p) (hr : p.2.reset = 0) (hh : p.2.hasAll = false) (hu : p.2.unread = .slice ua 0 uc) :
    Calls Tryz.prog 46 #[.pointer (some ⟨eb, 0, none⟩), .int .i64 s, .int .i64 n] w fun e w' => e = .returned (.tuple #[.slice none 0 0, .bool false, .int .i64 7]) ∧ w' = w := by
  have c22 := h.c22
  rw [hm] at c22
  have hlk := hK.lookup s
  rw [hf] at hlk
  simp only [Option.map_some, ptrO] at hlk
  have hst := hK.st p (findK_mem hf).1
  have hR := isReset_any p.1 p.2 w hst
  rw [show (!(p.2.reset == 0)) = false from by rw [hr]; rfl] at hR
  have hdd := isDead_any eb m w h
  rw [show (!(m.fault == 0)) = true from by simp [hd]] at hdd
  have HD := hide hdd
  have HR := hide hR
  have k9 := hst.c9
  rw [hh] at k9
  have k11 := hst.c11
  rw [hu] at k11
  obtain ⟨pb, st⟩ := p
  simp only at hlk HR k9 k11
  clear h hd hm hK hf hr hR hst hh hu hdd
  go_enter Tryz.func46, Tryz.ntmps46
  go_wp2_with fail
  refine HR.out.mono ?_
  rintro e w' ⟨rfl, hw'⟩
  rw [hw']
  clear hw' w'
  go_wp2_with fail
  refine HD.out.mono ?_
  rintro e w' ⟨rfl, hw'⟩
  rw [hw']
  clear hw' w'
  go_wp2
  refine bodyPost_ret (v := .tuple #[.slice none 0 0, .bool false, .int .i64 7]) ?_ rfl ⟨rfl, rfl⟩
  simp [results, Tryz.results46, go_sem]
section
variable {w w' : World} {eb : Nat} {F : Nat → Prop} {p q : GEnd}
theorem d_read_none {s : GSt} {n : Int} (h : StE w eb F p) (hs : s ∈ p.K) (hd : p.m.fault ≠ 0) (hr : s.st.reset = 0) (hh : s.st.hasAll = false) (hu : s.un = []) (hn : 0 ≤ n) :
    Calls Tryz.prog 35 #[.pointer (some ⟨eb, 0, none⟩), .int .i64 s.st.number, .int .i64 n] w fun e w' => e = .returned (.tuple #[.slice none 0 0, .bool false, .int .i64 7]) ∧ w' = w := by
  obtain ⟨mb, g, hi, hrd, hp, hF⟩ := h
  obtain ⟨x, hx, rfl, hfi⟩ := stE_at hi hp hs
  have e : g.m.fault = p.m.fault := by rw [← hp]; rfl
  obtain ⟨ua, uc, hua⟩ := slice_len (hi.un x hx)
  have hu' : x.un = [] := hu
  rw [hu'] at hua
  have hc := xRead_of (R := fun a b c w' => (a = .slice none 0 0 ∧ b = .bool false ∧ c = .int .i64 7) ∧ w' = w) eb x.st.number n w ((eRead_dead eb mb g.m _ x.st.number n x.str ua uc w hi.en (by rw [e]; exact hd) hi.km hi.kn hn hfi hr hh hua).mono fun e w' h => ⟨_, _, _, h.1, ⟨rfl, rfl, rfl⟩, h.2⟩)
  refine hc.mono ?_
  rintro e w' ⟨a, b, c, rfl, ⟨rfl, rfl, rfl⟩, hw⟩
  exact ⟨rfl, hw⟩
theorem d_take {n : Int} (h : StE w eb F p) (hg : p.m.greets = false) (hd : p.m.fault ≠ 0) (hf : 0 ≤ p.m.fault ∧ p.m.fault ≤ 255) (hgot : p.got = []) (hq : (p.oGoaway = none ∧ q = p) ∨ p.oGoaway = some q) (hqg : q.got = []) (hl : q.out.length ≤ 1073741824) (hn : (q.out.length : Int) < n) :
    Calls Tryz.prog 17 #[.pointer (some ⟨eb, 0, none⟩), .int .i64 n] w fun e w' => (∃ s, e = .returned (.slice s (cutN n q.out.length) (cutN n q.out.length)) ∧ BytesIn w' (.slice s (cutN n q.out.length) (cutN n q.out.length)) (q.out.take (cutN n q.out.length)) ∧ ∃ F', StE w' eb F' { q with out := q.out.drop (cutN n q.out.length) } ∧ Chg F w w' ∧ (∀ j, F' j → F j ∨ w.heap.size ≤ j) ∧ ∀ j, (Value.slice s (cutN n q.out.length) (cutN n q.out.length)).ownBlock = some j → ¬ F' j) := by
  obtain ⟨mb, g, hi, hrd, hp, hF⟩ := h
  have e : g.m.fault = p.m.fault := by rw [← hp]; rfl
  have e2 : g.m.greets = p.m.greets := by rw [← hp]; rfl
  refine (x_takeD eb mb g q n w hi (by rw [e2]; exact hg) (by rw [e]; exact hd) (by rw [e]; exact hf) (by rw [hp]; exact hq) hl hn).mono ?_
  rintro e w' ⟨s, h1, hby, g', h2, h3, h4⟩
  exact ⟨s, h1, hby, Foot eb mb g', ⟨mb, g', h3.inv, RdOk.nil (bare_got h2 hqg), h2, fun j => Iff.rfl⟩, h3.chg.mono fun j _ e => (hF j).2 e, fun j hj => (h3.grow j hj).imp_left (hF j).2, h4⟩
end
end Go.Proofs.YtlhlmgfblbpdpaaGreatDoor
