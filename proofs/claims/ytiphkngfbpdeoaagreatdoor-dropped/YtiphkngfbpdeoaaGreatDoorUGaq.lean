import Derived.Test.YtiphkngfbpdeoaaGreatDoorUEnNew3
import Derived.Test.YtiphkngfbpdeoaaGreatDoorUGao
import Derived.Test.YtiphkngfbpdeoaaGreatDoorUGan
set_option linter.unusedVariables false
set_option linter.unusedSimpArgs false
/-
  Package sluice: NewEnd, of an end that is not first.
-/
namespace Go.Proofs.YtiphkngfbpdeoaaGreatDoor
set_option linter.unusedVariables false
set_option linter.unusedSimpArgs false
open Go.RowKit

set_option maxHeartbeats 400000 in
theorem isWithin_ok (n l : Int) (w : World) (h : l ≤ n ∧ n ≤ 1000) : Calls Tryz.prog 52 #[.int .i64 n, .int .i64 l] w fun e w' => e = .returned (.bool true) ∧ w' = w := by
  have h1 : n ≥ l := h.1
  have h2 := h.2
  go_enter Tryz.func52, Tryz.ntmps52
  go_wp2
  go_ret
  exact ⟨rfl, rfl⟩
set_option maxHeartbeats 800000 in
theorem cfgFits_ok (i c b k : Int) (w : World) (h : CfgOk i c b k) : Calls Tryz.prog 33 #[.agg #[.int .i64 i, .int .i64 c, .int .i64 b, .int .i64 k]] w fun e w' => e = .returned (.bool true) ∧ Below w.heap.size w w' := by
  have hcf := heap_alloc_new w (.cells #[.int .i64 i, .int .i64 c, .int .i64 b, .int .i64 k] 23)
  obtain ⟨y0, y1, y2, y3⟩ := cfgs' hcf
  have HB : Hid (Below w.heap.size w (w.alloc (.cells #[.int .i64 i, .int .i64 c, .int .i64 b, .int .i64 k] 23))) := (Below.refl _ _).alloc (Nat.le_refl _) _
  clear hcf
  have HW := hide (fun n l w h => isWithin_ok n l w h)
  have H := hide h
  clear h
  go_enter Tryz.func33, Tryz.ntmps33
  go_wp2_with (go_at_call 52; refine (HW.out _ _ _ (by obtain ⟨h1, h2, h3, h4, h5, h6, h7, h8⟩ := H.out; omega)).mono ?_; rintro e w' ⟨rfl, rfl⟩)
  go_ret
  exact ⟨rfl, HB.out⟩
theorem stE_new {i c b k : Int} {w : World} {eb mb : Nat} (he : w.heap[eb]? = some (.cells (EndM.new i c b k mb).cells 98 (0, 0))) (hm : w.heap[mb]? = some (.map #[] 0)) : StE w eb (fun j => j = eb ∨ j = mb) (pNew i c b k) := by
  refine ⟨mb, ⟨EndM.new i c b k mb, [], [], [], [], [], []⟩, ?_, ?_, ?_, ?_⟩
  · constructor
    · exact ⟨he⟩
    · exact ⟨⟨#[], 0, hm, rfl, fun e h => by simp at h⟩, fun p h => by cases h⟩
    · rfl
    · exact List.nodup_nil
    · exact List.nodup_nil
    · exact List.nodup_nil
    · exact fun n h => by cases h
    · exact (World.ownsRow_nil _ _ _ _)
    · exact (World.ownsRow_nil _ _ _ _)
    · exact (World.ownsRow_nil _ _ _ _)
    · exact fun p h => by cases h
    · exact fun p h => by cases h
    · exact RowAt.of_owns (World.ownsRow_nil _ _ _ _)
    · exact fun p h => by cases h
    · exact RowAt.of_owns (World.ownsRow_nil _ _ _ _)
    · exact ⟨fun _ => 0, by constructor <;> simp [EndM.new, Value.ownBlock]⟩
  · exact RdOk.nil rfl
  · rfl
  · intro j
    unfold Foot
    simp [EndM.new, Value.ownBlock]
set_option maxHeartbeats 1600000 in
theorem newEnd_ok (i c b k : Int) (w : World) (h : CfgOk i c b k) : Calls Tryz.prog 13 #[.bool false, .agg #[.int .i64 i, .int .i64 c, .int .i64 b, .int .i64 k]] w fun e w' => ∃ eb F, e = .returned (.tuple #[.pointer (some ⟨eb, 0, none⟩), .int .i64 0]) ∧ StE w' eb F (pNew i c b k) ∧ Below w.heap.size w w' ∧ ∀ j, F j → w.heap.size ≤ j := by
  obtain ⟨w0, hw0⟩ : ∃ w0, w0 = w.alloc (.cells #[.int .i64 i, .int .i64 c, .int .i64 b, .int .i64 k] 23) := ⟨_, rfl⟩
  have hcf : w0.heap[w.heap.size]? = some (.cells #[.int .i64 i, .int .i64 c, .int .i64 b, .int .i64 k] 23 (0, 0)) := by rw [hw0]; exact heap_alloc_new w _
  have HB : Hid (Below w.heap.size w w0) := by rw [hw0]; exact (Below.refl _ _).alloc (Nat.le_refl _) _
  obtain ⟨y0, y1, y2, y3⟩ := cfgs' hcf
  have HCF := hide hcf
  have HF := hide (fun w => cfgFits_ok i c b k w h)
  have HN := hide (fun w => eNew_any i c b k w ⟨h.c0, h.c1⟩)
  clear hcf h
  have HW0 := hide hw0
  clear hw0
  go_enter Tryz.func13, Tryz.ntmps13
  go_upto_region 1 with fail
  rw [← HW0.out]
  go_wp2_with fail
  refine (HF.out _).mono ?_
  rintro e w1 ⟨rfl, hb1⟩
  have hcf1 : w1.heap[w.heap.size]? = some (.cells #[.int .i64 i, .int .i64 c, .int .i64 b, .int .i64 k] 23 (0, 0)) := kept_told HCF.out hb1
  obtain ⟨z0, z1, z2, z3⟩ := cfgs' hcf1
  have HB1 : Hid (Below w.heap.size w w1) := HB.out.trans (hb1.mono HB.out.size)
  clear hb1 hcf1
  go_wp2_with fail
  refine (HN.out _).mono ?_
  rintro e w2 ⟨mb, rfl, hm1, hm2, hb2⟩
  have HM1 : Hid (w.heap.size ≤ mb) := Nat.le_trans HB1.out.size hm1
  have HM2 := hide hm2
  have HB2 : Hid (Below w.heap.size w w2) := HB1.out.trans (hb2.mono HB1.out.size)
  clear hb2 hm1 hm2
  simp only [EndM.cells, EndM.new]
  go_wp2_with fail
  refine bodyPost_ret (v := .tuple #[.pointer (some ⟨w2.heap.size, 0, none⟩), .int .i64 0]) ?_ rfl ⟨w2.heap.size, _, rfl, stE_new (mb := mb) (heap_alloc_new w2 _) (cfg_alloc HM2.out), below_al HB2.out, ?_⟩
  · simp [results, Tryz.results13, go_sem]
  · rintro j (rfl | rfl)
    · exact HB2.out.size
    · exact HM1.out
end Go.Proofs.YtiphkngfbpdeoaaGreatDoor
/-
  The law's own: begun.
-/
namespace Go.Proofs.YtiphkngfbpdeoaaGreatDoor
set_option linter.unusedVariables false
set_option linter.unusedSimpArgs false
open Go.RowKit

theorem fine_heard {i c b k : Int} (h : CfgOk i c b k) : Fine (pHeard i c b k) where
  greets := rfl
  wanted := ⟨h.i0, h.i1⟩
  owed := by show 0 ≤ c - 32 ∧ c - 32 ≤ 4294967295; have := h.c0; have := h.c1; omega
  receive := by show -1099511627776 ≤ (32 : Int) ∧ 32 + (c - 32) ≤ 1099511627776; have := h.c0; have := h.c1; omega
  pnum := by show (0 : Nat) < 4294967296; decide
  own := by show -1099511627776 ≤ (32 : Int) ∧ (32 : Int) ≤ 1099511627776; decide
  other := by show -1099511627776 ≤ (0 : Int) ∧ (0 : Int) ≤ 1099511627776; decide
  ans := fun a ha => by
    have : a = ⟨3, 1, [], .slice none 0 0⟩ := by simpa [pHeard] using ha
    rw [this]; decide
  res := fun n hn => by cases hn
  st := fun s hs => by cases hs
  few := by show (0 : Nat) ≤ 1048576; decide
theorem owns_ge {w : World} {base e size n : Nat} {v : Value} {xs : List Value} (h : w.ownsRow base e size v n xs) {j : Nat} (hj : v.ownBlock = some j) : base ≤ j := by
  rcases h.2 with ⟨rfl, -⟩ | ⟨g, cap, cur, rfl, h2, _⟩
  · simp [Value.ownBlock] at hj
  · simp [Value.ownBlock] at hj; omega
theorem conv_str {w : World} {bv : Value} {l : List UInt8} (h : BytesIn w bv l) : (convert 38 9 bv).run Tryz.prog w = .ok (.string ⟨l.toArray⟩) w := by
  rcases h with ⟨rfl, rfl⟩ | ⟨bb, off, cap, rfl, h1, h2, h3⟩
  · exact run_convert_bytes_nil w 38 5 Tryz.underlying38 Tryz.underlying5 0 0 9 Tryz.underlying9
  · refine run_convert_bytes_back w 38 9 5 ⟨bb, off, none⟩ cap l Tryz.underlying38 Tryz.underlying5 Tryz.underlying9 (fun j hj => ?_)
    have e : (⟨bb, off, none⟩ : Addr).add j = ⟨bb, off + j, none⟩ := by unfold Addr.add; split <;> simp_all
    rw [e, h3 j hj, getD_lt _ _ _ hj]
set_option maxRecDepth 100000 in
set_option maxHeartbeats 1600000 in
theorem kbegun_any (i c b k : Int) (w : World) (h : CfgOk i c b k) (hgl : Gl w) (hg : 7 ≤ w.heap.size) :
    Calls Tryz.prog 19 #[.agg #[.int .i64 i, .int .i64 c, .int .i64 b, .int .i64 k], .int .i64 0] w fun e w' => ∃ eb F, e = .returned (.tuple #[.pointer (some ⟨eb, 0, none⟩), .bool true]) ∧ StE w' eb F (pSaid i c b k) ∧ Below w.heap.size w w' ∧ ∀ j, F j → w.heap.size ≤ j := by
  have kc : ∀ (w : World) (C : Array Value) (n c : Nat), (convert 38 38 (.slice (some ⟨w.heap.size, 0, none⟩) n c)).run Tryz.prog (w.alloc (.cells C 5)) = .ok (.slice (some ⟨w.heap.size, 0, none⟩) n c) (w.alloc (.cells C 5 (C.size, C.size + 1))) := fun w C n c => Lib.run_convert_bytes_const (P := Tryz.prog) w 38 5 C n c Tryz.underlying38 Tryz.underlying5
  obtain ⟨i0, hi, hz0, hz1, hz2⟩ := info_parts Tryz.info5
  obtain ⟨w0, hw0⟩ : ∃ w0, w0 = w.alloc (.cells #[.int .i64 i, .int .i64 c, .int .i64 b, .int .i64 k] 23) := ⟨_, rfl⟩
  have hcf : w0.heap[w.heap.size]? = some (.cells #[.int .i64 i, .int .i64 c, .int .i64 b, .int .i64 k] 23 (0, 0)) := by rw [hw0]; exact heap_alloc_new w _
  have hb0 : Below w.heap.size w w0 := by rw [hw0]; exact (Below.refl _ _).alloc (Nat.le_refl _) _
  obtain ⟨y0, y1, y2, y3⟩ := cfgs' hcf
  have HCF := hide hcf
  have HB0 := hide hb0
  have HW0 := hide hw0
  have HN := hide (newEnd_ok i c b k w0 h)
  have HOK := hide h
  have HGL := hide hgl
  clear hcf hb0 hw0 h hgl
  go_enter Tryz.func19, Tryz.ntmps19
  go_upto_region 1 with fail
  rw [← HW0.out]
  go_wp2_with fail
  refine HN.out.mono ?_
  rintro e w1 ⟨eb, F, rfl, hst, hb1, hF⟩
  have HST := hide hst
  have HF : Hid (∀ j, F j → w0.heap.size ≤ j) := hF
  have h0lt : w.heap.size < w0.heap.size := lt_of_block HCF.out
  have HB1 : Hid (Below w.heap.size w w1) := HB0.out.trans (hb1.mono HB0.out.size)
  have HCF1 : Hid (w1.heap[w.heap.size]? = some (.cells #[.int .i64 i, .int .i64 c, .int .i64 b, .int .i64 k] 23 (0, 0))) := kept_told HCF.out hb1
  clear hst hF hb1 y0 y1 y2 y3
  go_upto_region 5 with fail
  have hgb : (w1.alloc (.cells #[.int .u8 115, .int .u8 108, .int .u8 117, .int .u8 105, .int .u8 99, .int .u8 101, .int .u8 10] 5 (7, 8))).heap[w1.heap.size]? = some (.cells #[.int .u8 115, .int .u8 108, .int .u8 117, .int .u8 105, .int .u8 99, .int .u8 101, .int .u8 10] 5 (7, 8)) := heap_alloc_new w1 _
  have hb2 : Below w1.heap.size w1 (w1.alloc (.cells #[.int .u8 115, .int .u8 108, .int .u8 117, .int .u8 105, .int .u8 99, .int .u8 101, .int .u8 10] 5 (7, 8))) := (Below.refl _ _).alloc (Nat.le_refl _) _
  generalize (w1.alloc (.cells #[.int .u8 115, .int .u8 108, .int .u8 117, .int .u8 105, .int .u8 99, .int .u8 101, .int .u8 10] 5 (7, 8))) = w2 at *
  have HGB := hide hgb
  have HB2 := hide hb2
  have HK4 : Hid (Calls Tryz.prog 14 #[.int .i64 0] w2 fun e w' => e = .returned (.slice (some ⟨w2.heap.size, 0, none⟩) 4 4) ∧ BytesIn w' (.slice (some ⟨w2.heap.size, 0, none⟩) 4 4) (four4 0) ∧ Below w2.heap.size w2 w') := kfour_any 0 w2 (by omega)
  clear hgb hb2
  go_wp2_with fail
  refine HK4.out.mono ?_
  rintro e w3 ⟨rfl, hby3, hb3⟩
  have HL3 : Hid (Calls Tryz.prog 9 #[.int .i64 3, .int .i64 0, .int .i64 0, .slice (some ⟨w2.heap.size, 0, none⟩) 4 4] w3 fun e w' => ∃ v, e = .returned v ∧ w'.ownsRow w3.heap.size 5 1 v (lay 3 0 0 (four4 0)).length ((lay 3 0 0 (four4 0)).map B) ∧ Below w3.heap.size w3 w') := klay_any 3 0 0 (some ⟨w2.heap.size, 0, none⟩) (four4 0) 4 w3 (by omega) (by omega) (by omega) (by omega) (by omega) (by omega) (by decide) hby3
  have HB3 : Hid (Below w1.heap.size w1 w3) := HB2.out.trans (hb3.mono HB2.out.size)
  have HGB3 := hide (kept_told HGB.out hb3)
  clear hby3 hb3
  go_wp2_with fail
  refine HL3.out.mono ?_
  rintro e w4 ⟨v4, rfl, hown4, hb4⟩
  have HB4 : Hid (Below w1.heap.size w1 w4) := HB3.out.trans (hb4.mono HB3.out.size)
  have hgb4 := kept_told HGB3.out hb4
  rw [lay_len] at hown4
  obtain ⟨s4, c4, rfl⟩ := slice_len hown4
  have hby4 := bytesIn_of_owns hown4 (by rw [lay_len])
  obtain ⟨b4, rfl⟩ : ∃ b4, s4 = some b4 := by
    rcases hown4.2 with ⟨-, h0⟩ | ⟨g, cap, cur, h1, _⟩
    · simp [four4] at h0
    · exact ⟨_, (by simp at h1; exact h1.1)⟩
  have hlen4 : (four4 0).length = 4 := rfl
  rw [hlen4] at hown4 hby4 ⊢
  have hn4 : ∀ j v, ((lay 3 0 0 (four4 0)).map B)[j]? = some v → w4.cell? (b4.add j) = some v := by
    rcases lies_of_bytesIn hby4 with ⟨-, h0⟩ | ⟨ad, cap, h1, h2⟩
    · rw [lay_len] at h0; exact absurd h0.1 (by simp)
    · simp only [Value.slice.injEq, Option.some.injEq] at h1
      rw [h1.1]
      exact h2
  have hg4 : ∀ j v, (greetB.map B)[j]? = some v → w4.cell? ((⟨w1.heap.size, 0, none⟩ : Addr).add j) = some v := fun j v hv => by
    rw [Addr.add_mid, Nat.zero_add, cell_of_row _ _ _ _ _ _ hgb4, ← hv]
    exact List.getElem?_toArray
  have HN4 := hide hn4
  have HG4 := hide hg4
  have HB4' := hide hb4
  clear hn4 hg4 hgb4 hown4 hby4 hb4
  go_wp2_with (at_builtin; refine wpList_grow _ rfl (.tmp 29) (.tmp 30) 38 rfl i0 Tryz.underlying38 hi hz0 hz1 hz2 ⟨w1.heap.size, 0, none⟩ 7 7 (greetB.map B) rfl rfl HG4.out b4 10 c4 ((lay 3 0 0 (four4 0)).map B) (by rw [List.length_map, lay_len]; rfl) rfl HN4.out (by omega) (by omega) ?_)
  intro v5 w5 hown5 hb5
  obtain ⟨s5, c5, rfl⟩ := slice_len hown5
  have HB5 : Hid (Below w1.heap.size w1 w5) := HB4.out.trans (hb5.mono HB4.out.size)
  have hby5 : BytesIn w5 (.slice s5 17 c5) (greetB ++ lay 3 0 0 (four4 0)) := bytesIn_of_owns (by rw [List.map_append]; exact hown5) (by rw [List.length_append, lay_len]; rfl)
  have hbn5 : ∀ j, (Value.slice s5 17 c5).ownBlock = some j → ¬ F j := fun j hj hf => by
    have h1 := HST.out.lt hf
    have h2 := owns_ge hown5 hj
    have h3 := HB4.out.size
    omega
  have HFD := hide (c_feed (HST.out.below HB5.out) (feed_heard i c b k) rfl (HGL.out.below (HB1.out.trans (HB5.out.mono HB1.out.size))) (fun j hj hf => by have := HF.out j hf; omega) hby5 hbn5 (by rw [List.length_append, lay_len]; decide))
  clear hown5 hb5 hby5 hbn5
  go_wp2_with fail
  refine HFD.out.mono ?_
  rintro e w6 ⟨rfl, F6, hst6, hch6, hF6⟩
  have HFS : Hid (∀ j, F6 j → w0.heap.size ≤ j) := fun j hj => by
    rcases hF6 j hj with h | h
    · exact HF.out j h
    · have := HCF1.out; have := kept_told HCF1.out HB5.out; have := lt_of_block this; have h2 := HW0.out; have : w0.heap.size = w.heap.size + 1 := (by rw [h2]; simp); omega
  have HF6' : Hid (∀ j, F6 j → w.heap.size ≤ j) := fun j hj => by
    rcases hF6 j hj with h | h
    · have := HF.out j h; omega
    · exact Nat.le_trans (Nat.le_trans HB1.out.size HB5.out.size) h
  have hb6 : Below w.heap.size w w6 := below_of_chg (HB1.out.trans (HB5.out.mono HB1.out.size)) hch6 (fun j hj => by have := HF.out j hj; omega)
  have HCF6 : Hid (w6.heap[w.heap.size]? = some (.cells #[.int .i64 i, .int .i64 c, .int .i64 b, .int .i64 k] 23 (0, 0))) := by
    have h5 := kept_told HCF1.out HB5.out
    have := hch6.block w.heap.size (lt_of_block h5) (fun hf => by have := HF.out _ hf; omega)
    rw [this]; exact h5
  have hl16 : cutN 16 (firstB i).length = 16 := by rw [firstB_len]; decide
  have HT6 : Hid (Calls Tryz.prog 29 #[.pointer (some ⟨eb, 0, none⟩), .int .i64 16] w6 fun e w' => (∃ s, e = .returned (.slice s 16 16) ∧ BytesIn w' (.slice s 16 16) (firstB i)) ∧ GoE w6 w' eb F6 (pSaid i c b k)) := by
    refine (c_take (n := 16) hst6 (fine_heard HOK.out) rfl rfl rfl (runs_said i c b k) (by show (firstB i).length ≤ _; rw [firstB_len]; decide)).mono ?_
    rintro e w' ⟨⟨s, rfl, h1⟩, h2⟩
    change BytesIn w' (.slice s (cutN 16 (firstB i).length) (cutN 16 (firstB i).length)) ((firstB i).take (cutN 16 (firstB i).length)) at h1
    change GoE w6 w' eb F6 { pSaid i c b k with out := (firstB i).drop (cutN 16 (firstB i).length) } at h2
    rw [hl16, List.take_of_length_le (by rw [firstB_len]; decide)] at h1
    rw [hl16, List.drop_of_length_le (by rw [firstB_len]; decide)] at h2
    exact ⟨⟨s, by show Ending.returned (.slice s (cutN 16 (firstB i).length) (cutN 16 (firstB i).length)) = _; rw [hl16], h1⟩, h2⟩
  have HB6 := hide hb6
  clear hst6 hch6 hF6 hb6 hl16
  go_wp2_with fail
  refine HT6.out.mono ?_
  rintro e w7 ⟨⟨s7, rfl, hby7⟩, F7, hst7, hch7, hF7⟩
  have HF7 : Hid (∀ j, F7 j → w.heap.size ≤ j) := fun j hj => by
    rcases hF7 j hj with h | h
    · exact HF6'.out j h
    · exact Nat.le_trans HB6.out.size h
  have HB7 : Hid (Below w.heap.size w w7) := below_of_chg HB6.out hch7 HF6'.out
  have hcf7 : w7.heap[w.heap.size]? = some (.cells #[.int .i64 i, .int .i64 c, .int .i64 b, .int .i64 k] 23 (0, 0)) := by
    have := hch7.block w.heap.size (lt_of_block HCF6.out) (fun hf => by have := HFS.out _ hf; omega)
    rw [this]; exact HCF6.out
  obtain ⟨y0, -, -, -⟩ := cfgs' hcf7
  have hin : ((i.toNat : Nat) : Int) = i := by have := HOK.out.i0; omega
  have HK8 : Hid (Calls Tryz.prog 14 #[.int .i64 i] w7 fun e w' => e = .returned (.slice (some ⟨w7.heap.size, 0, none⟩) 4 4) ∧ BytesIn w' (.slice (some ⟨w7.heap.size, 0, none⟩) 4 4) (four4 i.toNat) ∧ Below w7.heap.size w7 w') := by
    have := kfour_any i.toNat w7 (by have := HOK.out.i1; omega)
    rw [hin] at this
    exact this
  have HBY7 := hide hby7
  have HST7 := hide hst7
  clear hby7 hst7 hch7 hF7 hcf7 hin
  go_wp2_with fail
  refine HK8.out.mono ?_
  rintro e w8 ⟨rfl, hby8, hb8⟩
  have HL8 : Hid (Calls Tryz.prog 9 #[.int .i64 3, .int .i64 0, .int .i64 0, .slice (some ⟨w7.heap.size, 0, none⟩) 4 4] w8 fun e w' => ∃ v, e = .returned v ∧ w'.ownsRow w8.heap.size 5 1 v (lay 3 0 0 (four4 i.toNat)).length ((lay 3 0 0 (four4 i.toNat)).map B) ∧ Below w8.heap.size w8 w') := klay_any 3 0 0 (some ⟨w7.heap.size, 0, none⟩) (four4 i.toNat) 4 w8 (by omega) (by omega) (by omega) (by omega) (by omega) (by omega) (by simp [four4]) hby8
  have HB8 := hide hb8
  clear hby8 hb8
  go_wp2_with fail
  refine HL8.out.mono ?_
  rintro e w9 ⟨v9, rfl, hown9, hb9⟩
  have hlen9 : (lay 3 0 0 (four4 i.toNat)).length = 10 := by rw [lay_len]; rfl
  rw [hlen9] at hown9
  obtain ⟨s9, c9, rfl⟩ := slice_len hown9
  have HO9 := hide hown9
  have HB9 : Hid (Below w7.heap.size w7 w9) := HB8.out.trans (hb9.mono HB8.out.size)
  have HL9 : Hid (Calls Tryz.prog 9 #[.int .i64 3, .int .i64 1, .int .i64 0, .slice none 0 0] w9 fun e w' => ∃ v, e = .returned v ∧ w'.ownsRow w9.heap.size 5 1 v (lay 3 1 0 []).length ((lay 3 1 0 []).map B) ∧ Below w9.heap.size w9 w') := klay_any 3 1 0 none [] 0 w9 (by omega) (by omega) (by omega) (by omega) (by omega) (by omega) (by decide) (Or.inl ⟨rfl, rfl⟩)
  clear hown9 hb9
  go_wp2_with fail
  refine HL9.out.mono ?_
  rintro e w10 ⟨v10, rfl, hown10, hb10⟩
  have hlen10 : (lay 3 1 0 []).length = 6 := by rw [lay_len]; rfl
  rw [hlen10] at hown10
  obtain ⟨s10, c10, rfl⟩ := slice_len hown10
  have HB10 : Hid (Below w7.heap.size w7 w10) := HB9.out.trans (hb10.mono HB9.out.size)
  have ho9 : w10.ownsRow 0 5 1 (.slice s9 10 c9) 10 ((lay 3 0 0 (four4 i.toNat)).map B) := owns_base (owns_chg HO9.out (Chg.of_below (S := fun _ => False) hb10) (fun _ _ => id)) (fun _ _ => Nat.zero_le _)
  have HO9' := hide ho9
  have HLI := hide (lies_of_bytesIn (bytesIn_of_owns hown10 hlen10.symm))
  rw [hlen10] at HLI
  have HF9 : Hid (∀ j, (Value.slice s9 10 c9).ownBlock = some j → w7.heap.size ≤ j) := fun j hj => Nat.le_trans HB8.out.size (owns_ge HO9.out hj)
  clear hown10 hb10 ho9
  go_wp2_with (at_builtin; refine wpList_app _ rfl (.tmp 42) (.tmp 43) 38 rfl 5 i0 (.int .u8 0) 1 1 Tryz.underlying38 hi hz0 hz1 hz2 rfl (by decide) _ 10 _ rfl HO9'.out _ 6 ((lay 3 1 0 []).map B) rfl ?c1 HLI.out ?c3 ?c4 ?c5 ?_)
  case c1 => simp [lay_len]
  case c3 => intro u hu; obtain ⟨x, -, rfl⟩ := List.mem_map.1 hu; rfl
  case c4 => unfold maxLen; omega
  case c5 => omega
  intro v11 w11 hown11 hg11 hfr11
  obtain ⟨s11, c11, rfl⟩ := slice_len hown11
  have hch11 : Chg (fun j => (Value.slice s9 10 c9).ownBlock = some j) w10 w11 := Chg.of_grown hg11 (fun j hj => hj)
  have hb11 : Below w7.heap.size w7 w11 := below_of_chg HB10.out hch11 HF9.out
  have hby11 : BytesIn w11 (.slice s11 16 c11) (firstB i) := bytesIn_of_owns (by unfold firstB; rw [List.map_append]; exact hown11) (by rw [firstB_len])
  have hby7' : BytesIn w11 (.slice s7 16 16) (firstB i) := HBY7.out.chg (Chg.of_below (S := fun _ => False) hb11) (fun _ _ => id)
  have q1 := conv_str hby11
  have q2 := conv_str hby7'
  have q3 := conv_str (w := w11.drew) hby11
  have q4 := conv_str (w := w11.drew) hby7'
  have HEND : Hid (StE w11 eb F7 (pSaid i c b k) ∧ Below w.heap.size w w11 ∧ ∀ j, F7 j → w.heap.size ≤ j) := ⟨HST7.out.below hb11, HB7.out.trans (hb11.mono HB7.out.size), HF7.out⟩
  clear hown11 hg11 hfr11 hch11 hb11 hby11 hby7'
  go_wp2
  have HKK : Hid ((convert 38 9 (.slice s7 16 16)).run Tryz.prog w11.drew = .ok (.string ⟨(firstB i).toArray⟩) w11.drew ∧ (convert 38 9 (.slice s11 16 c11)).run Tryz.prog w11.drew = .ok (.string ⟨(firstB i).toArray⟩) w11.drew) := ⟨q4, q3⟩
  clear q1 q2 q3 q4
  go_region_held3 (fun w' => (convert 38 9 (.slice s7 16 16)).run Tryz.prog w' = .ok (.string ⟨(firstB i).toArray⟩) w' ∧ (convert 38 9 (.slice s11 16 c11)).run Tryz.prog w' = .ok (.string ⟨(firstB i).toArray⟩) w') (exact HKK.out) (fail)
  all_goals go_wp2
  all_goals go_ret2
  all_goals (have hb := HEND.out.2.1; exact ⟨eb, F7, rfl, (show StE w11.drew eb F7 (pSaid i c b k) from HEND.out.1.below (below_dr (Below.refl _ _))), below_dr hb, HEND.out.2.2⟩)
end Go.Proofs.YtiphkngfbpdeoaaGreatDoor
/-
  The law's own: a frame is laid and fed.
-/
namespace Go.Proofs.YtiphkngfbpdeoaaGreatDoor
set_option linter.unusedVariables false
set_option linter.unusedSimpArgs false
open Go.RowKit

theorem conv_text (w : World) (l : List UInt8) : ∃ w' cap, (convert 9 38 (.string ⟨l.toArray⟩)).run Tryz.prog w = .ok (.slice (some ⟨w.heap.size, 0, none⟩) l.length cap) w' ∧ BytesIn w' (.slice (some ⟨w.heap.size, 0, none⟩) l.length cap) l ∧ Below w.heap.size w w' := by
  have h := run_bytes_of_string (P := Tryz.prog) w 9 38 5 ⟨l.toArray⟩ Tryz.underlying9 Tryz.underlying38 Tryz.underlying5
  have hs : (ByteArray.mk l.toArray).size = l.length := by simp [ByteArray.size]
  rw [hs] at h
  have h1 : Below w.heap.size w w.drew := ⟨rfl, rfl, rfl, Nat.le_refl _, fun _ _ => rfl⟩
  have hh := heap_alloc_new w.drew (.cells (bytesRow ⟨l.toArray⟩ (grownCap w l.length 0 5)) 5 ((bytesRow ⟨l.toArray⟩ (grownCap w l.length 0 5)).size, (bytesRow ⟨l.toArray⟩ (grownCap w l.length 0 5)).size + 1))
  refine ⟨_, _, h, Or.inr ⟨w.heap.size, 0, _, rfl, lt_of_block hh, grownCap_ge w l.length 0 5, fun i hi => ?_⟩, h1.alloc (Nat.le_refl _) _⟩
  rw [cell_of_row _ w.heap.size _ _ _ _ hh, Nat.zero_add]
  simp only [bytesRow]
  rw [Array.getElem?_append_left (by simpa using hi)]
  simp [hi, List.getD]
section
variable {w w1 w2 : World} {eb : Nat} {F F1 : Nat → Prop} {p q : GEnd}
/-- One step behind the other. -/
theorem GoE.then (hc : Chg F w w1) (hF : ∀ j, F1 j → F j ∨ w.heap.size ≤ j) (h : GoE w1 w2 eb F1 p) : GoE w w2 eb F p := by
  obtain ⟨F2, h1, h2, h3⟩ := h
  refine ⟨F2, h1, hc.trans (h2.mono fun j _ e => ?_), fun j hj => ?_⟩
  · rcases hF j e with a | a
    · exact Or.inr a
    · exact Or.inl a
  · rcases h3 j hj with a | a
    · exact hF j a
    · exact Or.inr (Nat.le_trans hc.size a)
theorem GoE.pre (hb : Below w.heap.size w w1) (h : GoE w1 w2 eb F p) : GoE w w2 eb F p := GoE.then (F1 := F) (Chg.of_below hb) (fun j hj => Or.inl hj) h
theorem GoE.post (h : GoE w w1 eb F p) (hb : Below w1.heap.size w1 w2) : GoE w w2 eb F p := by
  obtain ⟨F2, h1, h2, h3⟩ := h
  exact ⟨F2, h1.below hb, h2.then_below hb, h3⟩
theorem GoE.one (h : StE w eb F p) : GoE w w eb F p := ⟨F, h, Chg.refl _ _, fun _ hj => Or.inl hj⟩
/-- A frame is laid; then it can be fed. -/
theorem klay_feed {k f s : Int} {sa : Option Addr} {body : List UInt8} {cap : Nat} (he : StE w eb F p) (hf : FeedR p (lay k f s body) q) (hq : q.m.fault = 0) (hgl : Gl w1) (hge : ∀ j, j < 7 → ¬ F j) (hbw : Below w.heap.size w w1) (hk0 : 0 ≤ k) (hk1 : k ≤ 255) (hf0 : 0 ≤ f) (hf1 : f ≤ 255) (hs0 : 0 ≤ s) (hs1 : s ≤ 32767) (hn : body.length ≤ 64) (hb : BytesIn w1 (.slice sa body.length cap) body) :
    Calls Tryz.prog 9 #[.int .i64 k, .int .i64 f, .int .i64 s, .slice sa body.length cap] w1 fun e w' => ∃ v, e = .returned v ∧ Below w1.heap.size w1 w' ∧ ∀ w2, Below w'.heap.size w' w2 → Calls Tryz.prog 8 #[.pointer (some ⟨eb, 0, none⟩), v] w2 fun e w'' => e = .returned (.int .i64 0) ∧ GoE w w'' eb F q := by
  refine (klay_any k f s sa body cap w1 hk0 hk1 hf0 hf1 hs0 hs1 hn hb).mono ?_
  rintro e w' ⟨v, rfl, hown, hbl⟩
  refine ⟨v, rfl, hbl, fun w2 hb2 => ?_⟩
  have hbt := hbl.trans (hb2.mono hbl.size)
  have hbn : ∀ j, v.ownBlock = some j → ¬ F j := fun j hj hf => by
    have h1 := he.lt hf
    have h2 := owns_ge hown hj
    have h3 := hbw.size
    omega
  have hby := (bytesIn_of_owns hown rfl).chg (Chg.of_below (S := fun _ => False) hb2) (fun _ _ => id)
  refine (c_feed ((he.below hbw).below hbt) hf hq (hgl.below hbt) hge hby hbn (by rw [lay_len]; omega)).mono ?_
  rintro e w'' ⟨rfl, hgo⟩
  exact ⟨rfl, (hgo.pre hbt).pre hbw⟩
end
end Go.Proofs.YtiphkngfbpdeoaaGreatDoor
/-
  The law's own: dropped.
-/
namespace Go.Proofs.YtiphkngfbpdeoaaGreatDoor
set_option linter.unusedVariables false
set_option linter.unusedSimpArgs false
open Go.RowKit

def waitsB : List UInt8 := [119, 97, 105, 116, 115]
/-- The stream that is dropped, step by step. -/
def sMore (t : List UInt8) : GSt := (kF 1).more t false
def sWrote (t : List UInt8) : GSt := (sMore t).wrote waitsB
def sGone (t : List UInt8) (by_ : Bool) : GSt := (sWrote t).drop (if by_ then 1 else 2)
theorem sGone_o (t : List UInt8) (ht : t.length ≤ 32) (by_ : Bool) : StO (sGone t by_) 1 := ⟨rfl, by show -1000000 ≤ (0 : Int) - (t.length : Int) ∧ (0 : Int) - (t.length : Int) ≤ 1000000; omega, by show (0 : Int) ≤ 0 ∧ (0 : Int) ≤ 1000000; omega, rfl, rfl, rfl, rfl⟩
section
variable {i c k : Int} {d : Dy} {t : List UInt8}
theorem feed_text (h : CfgOk i c 1 k) (hd : DyB d 0 c 0) (ht : t.length ≤ 32) : FeedR (gS i c k d [kF 1, kF 3, kF 5, kF 7] [1, 3, 5, 7] [] []) (lay 0 0 1 t) (gS i c k (d.got c k t.length) [sMore t, kF 3, kF 5, kF 7] [1, 3, 5, 7] [] []) := by
  have := h.c0
  have := h.c1
  have h1 := feed_kept (i := i) (c := c) (k := k) (L := [1, 3, 5, 7]) (res := []) (K := [kF 1, kF 3, kF 5, kF 7]) (s := kF 1) (b := t) hd (by omega) (by omega) (by simp) ⟨by show (1 : Int) ≤ 1; omega, by show (1 : Int) ≤ 32767; omega⟩ rfl rfl rfl (by show 0 ≤ 1000; omega) (by omega) ⟨by omega, by show (t.length : Int) ≤ 32 + 0; omega⟩ (by show -1000000 ≤ (0 : Int) ∧ (0 : Int) ≤ 1000000; omega) (by show (0 : Int) ≤ 0 ∧ (0 : Int) ≤ 1000000; omega)
  have e : updN 1 (fun x => x.more t false) [kF 1, kF 3, kF 5, kF 7] = [sMore t, kF 3, kF 5, kF 7] := upd1 _ rfl rfl
  have e2 : (kF 1).st.number = 1 := rfl
  rw [e2, e] at h1
  exact h1
theorem write_st : updN 1 (fun x => x.wrote waitsB) [sMore t, kF 3, kF 5, kF 7] = [sWrote t, kF 3, kF 5, kF 7] := upd1 _ rfl rfl
theorem feed_away (hd : DyB d 1 (c - t.length) 0) (ht : t.length ≤ 32) : FeedR (gS i c k d [sWrote t, kF 3, kF 5, kF 7] [1, 3, 5, 7] [] []) (lay 2 0 1 [7]) (gS i c k (d.owes t.length) [sGone t false, kF 3, kF 5, kF 7] [3, 5, 7] [] []) := by
  have e0 : atN [sWrote t, kF 3, kF 5, kF 7] 1 = sWrote t := at1 rfl
  have h1 := feed_reset (i := i) (c := c) (k := k) (L := [1, 3, 5, 7]) (res := []) (K := [sWrote t, kF 3, kF 5, kF 7]) (j := 0) (x := 7) hd (by omega) (by simp) (by simp) ⟨by show (1 : Int) ≤ 1; omega, by show (1 : Int) ≤ 32767; omega⟩ (by show (atN [sWrote t, kF 3, kF 5, kF 7] 1).st.announced = true; rw [e0]; rfl) (by show (atN [sWrote t, kF 3, kF 5, kF 7] 1).st.closed = false; rw [e0]; rfl) (by show (atN [sWrote t, kF 3, kF 5, kF 7] 1).un.length ≤ 1000; rw [e0]; show t.length ≤ 1000; omega)
  have h2 : FeedR (gS i c k d [sWrote t, kF 3, kF 5, kF 7] [1, 3, 5, 7] [] []) (lay 2 0 1 [7]) (gS i c k (d.owes (atN [sWrote t, kF 3, kF 5, kF 7] 1).un.length) (updN 1 (fun s => s.drop 2) [sWrote t, kF 3, kF 5, kF 7]) [3, 5, 7] [] []) := h1
  rw [e0, show updN 1 (fun s => s.drop 2) [sWrote t, kF 3, kF 5, kF 7] = [sGone t false, kF 3, kF 5, kF 7] from upd1 _ rfl rfl] at h2
  exact h2
end
section
variable {i c k : Int} {d : Dy} {t : List UInt8} {w : World} {eb : Nat} {F : Nat → Prop}
theorem reset_call (hd : DyB d 1 (c - t.length) 0) (hv : d.resets = .slice none 0 0) (ht : t.length ≤ 32) (he : StE w eb F (gS i c k d [sWrote t, kF 3, kF 5, kF 7] [1, 3, 5, 7] [] [])) :
    Calls Tryz.prog 22 #[.pointer (some ⟨eb, 0, none⟩), .int .i64 1] w fun e w' => e = .returned (.int .i64 0) ∧ GoE w w' eb F (gS i c k { d.owes t.length with resets := .tuple #[] } [sGone t true, kF 3, kF 5, kF 7] [3, 5, 7] [] [1]) := by
  have e0 : atN [sWrote t, kF 3, kF 5, kF 7] 1 = sWrote t := at1 rfl
  have e2 : (gS i c k d [sWrote t, kF 3, kF 5, kF 7] [1, 3, 5, 7] [] []).m.owed = 0 := hd.ow
  have h1 := c_reset_first (k := 0) he (by show 0 < 4; omega) rfl rfl (by show (atN [sWrote t, kF 3, kF 5, kF 7] 1).st.announced = true; rw [e0]; rfl) (by show (atN [sWrote t, kF 3, kF 5, kF 7] 1).st.reset = 0; rw [e0]; rfl) (by show (atN [sWrote t, kF 3, kF 5, kF 7] 1).st.closed = false; rw [e0]; rfl) hv rfl (by show 4 ≤ 1048576; omega) (by show (atN [sWrote t, kF 3, kF 5, kF 7] 1).un.length ≤ 1048576; rw [e0]; show t.length ≤ 1048576; omega) (by rw [e2]; omega)
  have h2 : Calls Tryz.prog 22 #[.pointer (some ⟨eb, 0, none⟩), .int .i64 1] w fun e w' => e = .returned (.int .i64 0) ∧ GoE w w' eb F (gS i c k { d.owes (atN [sWrote t, kF 3, kF 5, kF 7] 1).un.length with resets := .tuple #[] } (updN 1 (fun s => s.drop 1) [sWrote t, kF 3, kF 5, kF 7]) [3, 5, 7] [] [1]) := h1
  rw [e0, show updN 1 (fun s => s.drop 1) [sWrote t, kF 3, kF 5, kF 7] = [sGone t true, kF 3, kF 5, kF 7] from upd1 _ rfl rfl] at h2
  exact h2
end
end Go.Proofs.YtiphkngfbpdeoaaGreatDoor
/-
  The law's own: dropped, the call.
-/
namespace Go.Proofs.YtiphkngfbpdeoaaGreatDoor
set_option linter.unusedVariables false
set_option linter.unusedSimpArgs false
open Go.RowKit

theorem bytes_row {w : World} {b : Nat} {l : List UInt8} {C : Array Value} {t : TypeId} {fr : Nat × Nat} (h : w.heap[b]? = some (.cells C t fr)) (hC : C = (l.map B).toArray) : BytesIn w (.slice (some ⟨b, 0, none⟩) l.length l.length) l := by
  refine Or.inr ⟨b, 0, l.length, rfl, lt_of_block h, Nat.le_refl _, fun i hi => ?_⟩
  rw [cell_of_row _ b _ _ _ _ h, Nat.zero_add, hC]
  simp [hi, List.getD, B]
theorem DyB.resets {d : Dy} {N : Nat} {rc ow : Int} (h : DyB d N rc ow) (v : Value) : DyB { d with resets := v } N rc ow := ⟨h.rc, h.ow, h.pnum, h.count⟩
theorem got_resets (c k : Int) (d : Dy) (n : Nat) : (d.got c k n).resets = d.resets := by
  unfold Dy.got
  split
  · rfl
  · split <;> rfl

set_option maxRecDepth 100000 in
set_option maxHeartbeats 1600000 in
theorem kdropped_any (i c k : Int) (d : Dy) (t : List UInt8) (by_ : Bool) (eb : Nat) (F : Nat → Prop) (w : World) (h : CfgOk i c 1 k) (hd : DyB d 0 c 0) (hv : d.resets = .slice none 0 0) (ht : t.length ≤ 32) (hgl : Gl w) (hge : ∀ j, j < 7 → ¬ F j) (he : StE w eb F (gS i c k d [kF 1, kF 3, kF 5, kF 7] [1, 3, 5, 7] [] [])) :
    Calls Tryz.prog 7 #[.pointer (some ⟨eb, 0, none⟩), .string ⟨t.toArray⟩, .bool by_] w fun e w' => e = .returned (.bool true) ∧ ∃ d', DyB d' 1 c 0 ∧ GoE w w' eb F (gS i c k d' [sGone t by_, kF 3, kF 5, kF 7] [3, 5, 7] [] []) := by
  have kc : ∀ (w : World) (C : Array Value) (n c : Nat), (convert 38 38 (.slice (some ⟨w.heap.size, 0, none⟩) n c)).run Tryz.prog (w.alloc (.cells C 5)) = .ok (.slice (some ⟨w.heap.size, 0, none⟩) n c) (w.alloc (.cells C 5 (C.size, C.size + 1))) := fun w C n c => Lib.run_convert_bytes_const (P := Tryz.prog) w 38 5 C n c Tryz.underlying38 Tryz.underlying5
  have hc0 := h.c0
  have hc1 := h.c1
  obtain ⟨wC, capC, hconv, hbyC, hbC⟩ := conv_text w t
  have hsz : (ByteArray.mk t.toArray).size = t.length := by simp [ByteArray.size]
  have hd1 : DyB (d.got c k t.length) 1 (c - t.length) 0 := hd.got (by omega)
  have hv1 : (d.got c k t.length).resets = .slice none 0 0 := by rw [got_resets]; exact hv
  have HLF := hide (klay_feed (w1 := wC) he (feed_text (i := i) (k := k) h hd ht) rfl (hgl.below hbC) hge hbC (by omega) (by omega) (by omega) (by omega) (by omega) (by omega) (by omega) hbyC)
  -- behind the text
  generalize d.got c k t.length = d1 at *
  have HWR : Hid (∀ w2 F2, StE w2 eb F2 (gS i c k d1 [sMore t, kF 3, kF 5, kF 7] [1, 3, 5, 7] [] []) → Calls Tryz.prog 21 #[.pointer (some ⟨eb, 0, none⟩), .int .i64 1, .slice (some ⟨w2.heap.size, 0, none⟩) 5 5] (w2.alloc (.cells #[.int .u8 119, .int .u8 97, .int .u8 105, .int .u8 116, .int .u8 115] 5 (5, 6))) fun e w' => e = .returned (.tuple #[.int .i64 5, .int .i64 0]) ∧ GoE w2 w' eb F2 (gS i c k d1 [sWrote t, kF 3, kF 5, kF 7] [1, 3, 5, 7] [] [])) := fun w2 F2 hs => by
    have hb2 : Below w2.heap.size w2 (w2.alloc (.cells #[.int .u8 119, .int .u8 97, .int .u8 105, .int .u8 116, .int .u8 115] 5 (5, 6))) := (Below.refl _ _).alloc (Nat.le_refl _) _
    have hby : BytesIn (w2.alloc (.cells #[.int .u8 119, .int .u8 97, .int .u8 105, .int .u8 116, .int .u8 115] 5 (5, 6))) (.slice (some ⟨w2.heap.size, 0, none⟩) waitsB.length waitsB.length) waitsB := bytes_row (heap_alloc_new w2 _) rfl
    have h1 := c_write_ok (s := sMore t) (hs.below hb2) (by show sMore t ∈ [sMore t, kF 3, kF 5, kF 7]; simp) rfl rfl rfl rfl rfl (by show 0 ≤ 100; omega) hby (by show 5 ≤ 1073741824; omega)
    refine h1.mono ?_
    rintro e w' ⟨rfl, hgo⟩
    refine ⟨rfl, GoE.pre hb2 ?_⟩
    have e1 : ({ gS i c k d1 [sMore t, kF 3, kF 5, kF 7] [1, 3, 5, 7] [] [] with K := updN (sMore t).st.number (fun s => s.wrote waitsB) [sMore t, kF 3, kF 5, kF 7] } : GEnd) = gS i c k d1 [sWrote t, kF 3, kF 5, kF 7] [1, 3, 5, 7] [] [] := by
      rw [show updN (sMore t).st.number (fun s => s.wrote waitsB) [sMore t, kF 3, kF 5, kF 7] = [sWrote t, kF 3, kF 5, kF 7] from write_st]
      rfl
    rw [← e1]
    exact hgo
  have HRS : Hid (∀ w3 F3, StE w3 eb F3 (gS i c k d1 [sWrote t, kF 3, kF 5, kF 7] [1, 3, 5, 7] [] []) → Calls Tryz.prog 22 #[.pointer (some ⟨eb, 0, none⟩), .int .i64 1] w3 fun e w' => e = .returned (.int .i64 0) ∧ ∃ d2, DyB d2 1 (c - t.length) t.length ∧ GoE w3 w' eb F3 (gS i c k d2 [sGone t true, kF 3, kF 5, kF 7] [3, 5, 7] [] (resL true))) := fun w3 F3 hs => by
    refine (reset_call hd1 hv1 ht hs).mono ?_
    rintro e w' ⟨rfl, hgo⟩
    refine ⟨rfl, _, ?_, hgo⟩
    have := hd1.owes t.length
    rw [Int.zero_add] at this
    exact this.resets _
  have HRF : Hid (∀ w3 F3, Gl w3 → (∀ j, j < 7 → ¬ F3 j) → StE w3 eb F3 (gS i c k d1 [sWrote t, kF 3, kF 5, kF 7] [1, 3, 5, 7] [] []) → Calls Tryz.prog 9 #[.int .i64 2, .int .i64 0, .int .i64 1, .slice (some ⟨w3.heap.size, 0, none⟩) 1 1] (w3.alloc (.cells #[.int .u8 7] 5)) fun e w' => ∃ v, e = .returned v ∧ Calls Tryz.prog 8 #[.pointer (some ⟨eb, 0, none⟩), v] w' fun e w'' => e = .returned (.int .i64 0) ∧ ∃ d2, DyB d2 1 (c - t.length) t.length ∧ GoE w3 w'' eb F3 (gS i c k d2 [sGone t false, kF 3, kF 5, kF 7] [3, 5, 7] [] (resL false))) := fun w3 F3 hgl3 hge3 hs => by
    have hb3 : Below w3.heap.size w3 (w3.alloc (.cells #[.int .u8 7] 5)) := (Below.refl _ _).alloc (Nat.le_refl _) _
    have hby : BytesIn (w3.alloc (.cells #[.int .u8 7] 5)) (.slice (some ⟨w3.heap.size, 0, none⟩) ([7] : List UInt8).length ([7] : List UInt8).length) [7] := bytes_row (heap_alloc_new w3 _) rfl
    refine (klay_feed (w1 := w3.alloc (.cells #[.int .u8 7] 5)) hs (feed_away (i := i) (k := k) hd1 ht) rfl (hgl3.below hb3) hge3 hb3 (by omega) (by omega) (by omega) (by omega) (by omega) (by omega) (by simp) hby).mono ?_
    rintro e w' ⟨v, rfl, hbl, hfd⟩
    refine ⟨v, rfl, (hfd w' (Below.refl _ _)).mono ?_⟩
    rintro e w'' ⟨rfl, hgo⟩
    refine ⟨rfl, _, ?_, hgo⟩
    have := hd1.owes t.length
    rw [Int.zero_add] at this
    exact this
  have HGN : Hid (∀ w4 F4 d2, StE w4 eb F4 (gS i c k d2 [sGone t by_, kF 3, kF 5, kF 7] [3, 5, 7] [] (resL by_)) → Calls Tryz.prog 12 #[.pointer (some ⟨eb, 0, none⟩), .int .i64 1] w4 fun e w' => e = .returned (.bool true) ∧ Below w4.heap.size w4 w') := fun w4 F4 d2 hs => kgone_true eb F4 _ (sGone t by_) w4 hs (by show sGone t by_ ∈ [sGone t by_, kF 3, kF 5, kF 7]; simp) (by cases by_ with | true => exact (by decide : (1 : Int) ≠ 0) | false => exact (by decide : (2 : Int) ≠ 0)) rfl
  have HGV : Hid (∀ w4 F4 d2, DyB d2 1 (c - t.length) t.length → StE w4 eb F4 (gS i c k d2 [sGone t by_, kF 3, kF 5, kF 7] [3, 5, 7] [] (resL by_)) → Calls Tryz.prog 11 #[.pointer (some ⟨eb, 0, none⟩), .int .i64 1] w4 fun e w' => e = .returned (.tuple #[.int .i64 t.length, .int .i64 (if by_ then 1 else 0)]) ∧ ∃ d', DyB d' 1 c 0 ∧ GoE w4 w' eb F4 (gS i c k d' [sGone t by_, kF 3, kF 5, kF 7] [3, 5, 7] [] [])) := fun w4 F4 d2 hd2 hs => by
    refine (given_reset h hd2 (by omega) (by omega) (by omega) (sGone_o t ht by_) (kF_o 3) rfl by_ hs).mono ?_
    rintro e w' ⟨rfl, hgo⟩
    refine ⟨rfl, _, ?_, hgo⟩
    have := hd2.made (by omega)
    rw [Int.sub_add_cancel] at this
    exact this
  have HGL := hide hgl
  have HGE := hide hge
  clear h hd hv he hd1 hv1 hbyC hgl hge
  generalize ByteArray.mk t.toArray = str at *
  go_enter Tryz.func7, Tryz.ntmps7
  go_wp2_with fail
  refine HLF.out.mono ?_
  rintro e w1 ⟨v, rfl, hb1, hfd⟩
  have HFD := hide (hfd w1 (Below.refl _ _))
  clear hb1 hfd hconv hbC
  go_wp2_with fail
  refine HFD.out.mono ?_
  rintro e w2 ⟨rfl, F2, hst2, hch2, hF2⟩
  have HW := hide (HWR.out w2 F2 hst2)
  have HC2 := hide hch2
  have HF2 := hide hF2
  clear hst2 hch2 hF2
  go_wp2_with fail
  refine HW.out.mono ?_
  rintro e w3 ⟨rfl, hgo3⟩
  obtain ⟨F3, hst3, hch3, hF3⟩ := GoE.then HC2.out HF2.out hgo3
  have hgl3 : Gl w3 := HGL.out.chg hch3 HGE.out
  have hge3 : ∀ j, j < 7 → ¬ F3 j := fun j hj hf => by
    rcases hF3 j hf with a | a
    · exact HGE.out j hj a
    · have := HGL.out.lt; omega
  have HRS3 := hide (HRS.out w3 F3 hst3)
  have HRF3 := hide (HRF.out w3 F3 hgl3 hge3 hst3)
  have HC3 := hide hch3
  have HF3 := hide hF3
  clear hst3 hch3 hF3 hgl3 hge3 hgo3 HW HFD HLF
  cases by_ with
  | true =>
    go_wp2_with fail
    refine HRS3.out.mono ?_
    rintro e w4 ⟨rfl, d2, hd2, F4, hst4, hch4, hF4⟩
    have HG4 := hide (HGN.out w4 F4 d2 hst4)
    have HV4 : Hid (∀ w5, Below w4.heap.size w4 w5 → Calls Tryz.prog 11 #[.pointer (some ⟨eb, 0, none⟩), .int .i64 1] w5 fun e w' => e = .returned (.tuple #[.int .i64 t.length, .int .i64 1]) ∧ ∃ d', DyB d' 1 c 0 ∧ GoE w w' eb F (gS i c k d' [sGone t true, kF 3, kF 5, kF 7] [3, 5, 7] [] [])) := fun w5 hb5 => (HGV.out w5 F4 d2 hd2 (hst4.below hb5)).mono fun e w' h => by
      obtain ⟨h1, d', h2, h3⟩ := h
      exact ⟨h1, d', h2, GoE.then HC3.out HF3.out (GoE.then hch4 hF4 (h3.pre hb5))⟩
    clear hd2 hst4 hch4 hF4
    go_wp2_with fail
    refine HG4.out.mono ?_
    rintro e w5 ⟨rfl, hb5⟩
    have HV5 := hide (HV4.out w5 hb5)
    clear hb5
    go_wp2_with fail
    refine HV5.out.mono ?_
    rintro e w6 ⟨rfl, hend⟩
    have HEND := hide hend
    clear hend
    go_wp2
    go_ret
    exact ⟨by simp [hsz], HEND.out⟩
  | false =>
    go_wp2_with fail
    refine HRF3.out.mono ?_
    rintro e w' ⟨v4, rfl, hcall⟩
    have HCALL := hide hcall
    clear hcall
    go_wp2_with fail
    refine HCALL.out.mono ?_
    rintro e w4 ⟨rfl, d2, hd2, F4, hst4, hch4, hF4⟩
    have HG4 := hide (HGN.out w4 F4 d2 hst4)
    have HV4 : Hid (∀ w5, Below w4.heap.size w4 w5 → Calls Tryz.prog 11 #[.pointer (some ⟨eb, 0, none⟩), .int .i64 1] w5 fun e w' => e = .returned (.tuple #[.int .i64 t.length, .int .i64 0]) ∧ ∃ d', DyB d' 1 c 0 ∧ GoE w w' eb F (gS i c k d' [sGone t false, kF 3, kF 5, kF 7] [3, 5, 7] [] [])) := fun w5 hb5 => (HGV.out w5 F4 d2 hd2 (hst4.below hb5)).mono fun e w' h => by
      obtain ⟨h1, d', h2, h3⟩ := h
      exact ⟨h1, d', h2, GoE.then HC3.out HF3.out (GoE.then hch4 hF4 (h3.pre hb5))⟩
    clear hd2 hst4 hch4 hF4
    go_wp2_with fail
    refine HG4.out.mono ?_
    rintro e w5 ⟨rfl, hb5⟩
    have HV5 := hide (HV4.out w5 hb5)
    clear hb5
    go_wp2_with fail
    refine HV5.out.mono ?_
    rintro e w6 ⟨rfl, hend⟩
    have HEND := hide hend
    clear hend
    go_wp2
    go_ret
    exact ⟨by simp [hsz], HEND.out⟩
end Go.Proofs.YtiphkngfbpdeoaaGreatDoor
/-
  The law's own: a frame that is a fault is laid and fed; the states behind dropped.
-/
namespace Go.Proofs.YtiphkngfbpdeoaaGreatDoor
set_option linter.unusedVariables false
set_option linter.unusedSimpArgs false
open Go.RowKit

theorem feedF_of_feed {p : GEnd} {f : Fr} {code : Int} (hg : p.m.greeted = 7) (hf : p.m.fault = 0) (hc : ComeF { p with got := [] } f code) : ∀ (l got : List UInt8), feed got l = ([f], ⟨[], 0⟩) → FeedF { p with got := got } l code (p.died code) := by
  intro l
  induction l with
  | nil =>
    intro got h
    unfold feed at h
    simp at h
  | cons c r ih =>
    intro got h
    unfold feed at h
    cases hs : step got c with
    | inl x =>
      rw [hs] at h
      cases x with
      | inl g1 => exact .step hf (.more hg hs) (ih g1 h)
      | inr f1 =>
        simp only [Prod.mk.injEq, List.cons.injEq] at h
        obtain ⟨⟨h1, h2⟩, h3⟩ := h
        subst h1
        exact .fault hf (.frame hg hs hc)
    | inr code =>
      rw [hs] at h
      simp at h
theorem feedF_lay {p : GEnd} {k f s : Int} {body : List UInt8} {code : Int} (hr : Right k f s body) (hg : p.m.greeted = 7) (hf : p.m.fault = 0) (hgot : p.got = []) (hc : ComeF p ⟨k, f, s, body⟩ code) : FeedF p (lay k f s body) code (p.died code) := by
  have e : p = { p with got := [] } := by rw [← hgot]
  rw [e] at hc
  have := feedF_of_feed hg hf hc (lay k f s body) [] (feed_right hr)
  rw [← e] at this
  exact this
section
variable {w w1 w2 : World} {eb : Nat} {F F1 : Nat → Prop} {p q : GEnd}
theorem c_feedF {bv : Value} {l : List UInt8} {code : Int} (h : StE w eb F p) (hf : FeedF p l code q) (hL : q.L.length ≤ 1048576) (hgl : Gl w) (hge : ∀ j, j < 7 → ¬ F j) (hb : BytesIn w bv l) (hbn : ∀ j, bv.ownBlock = some j → ¬ F j) (hl : l.length ≤ 268435456) :
    Calls Tryz.prog 8 #[.pointer (some ⟨eb, 0, none⟩), bv] w fun e w' => e = .returned (.int .i64 code) ∧ GoE w w' eb F q := by
  obtain ⟨mb, g, hi, hr, hp, hF⟩ := h
  rw [← hp] at hf
  refine (x_feedF eb mb g q bv l code w hi hr hf hL hgl (fun j hj e => hge j hj ((hF j).2 e)) hb (fun j hj e => hbn j hj ((hF j).2 e)) hl).mono ?_
  rintro e w' ⟨rfl, g', h1, h2, h3⟩
  exact ⟨rfl, GoE.of hF h3 h2 h1⟩
theorem klay_feedF {k f s : Int} {sa : Option Addr} {body : List UInt8} {cap : Nat} {code : Int} (he : StE w eb F p) (hf : FeedF p (lay k f s body) code q) (hL : q.L.length ≤ 1048576) (hgl : Gl w1) (hge : ∀ j, j < 7 → ¬ F j) (hbw : Below w.heap.size w w1) (hk0 : 0 ≤ k) (hk1 : k ≤ 255) (hf0 : 0 ≤ f) (hf1 : f ≤ 255) (hs0 : 0 ≤ s) (hs1 : s ≤ 32767) (hn : body.length ≤ 64) (hb : BytesIn w1 (.slice sa body.length cap) body) :
    Calls Tryz.prog 9 #[.int .i64 k, .int .i64 f, .int .i64 s, .slice sa body.length cap] w1 fun e w' => ∃ v, e = .returned v ∧ Below w1.heap.size w1 w' ∧ ∀ w2, Below w'.heap.size w' w2 → Calls Tryz.prog 8 #[.pointer (some ⟨eb, 0, none⟩), v] w2 fun e w'' => e = .returned (.int .i64 code) ∧ GoE w w'' eb F q := by
  refine (klay_any k f s sa body cap w1 hk0 hk1 hf0 hf1 hs0 hs1 hn hb).mono ?_
  rintro e w' ⟨v, rfl, hown, hbl⟩
  refine ⟨v, rfl, hbl, fun w2 hb2 => ?_⟩
  have hbt := hbl.trans (hb2.mono hbl.size)
  have hbn : ∀ j, v.ownBlock = some j → ¬ F j := fun j hj hf => by
    have h1 := he.lt hf
    have h2 := owns_ge hown hj
    have h3 := hbw.size
    omega
  have hby := (bytesIn_of_owns hown rfl).chg (Chg.of_below (S := fun _ => False) hb2) (fun _ _ => id)
  refine (c_feedF ((he.below hbw).below hbt) hf hL (hgl.below hbt) hge hby hbn (by rw [lay_len]; omega)).mono ?_
  rintro e w'' ⟨rfl, hgo⟩
  exact ⟨rfl, (hgo.pre hbt).pre hbw⟩
end
def otherB : List UInt8 := [111, 116, 104, 101, 114]
def sOther : GSt := (kF 3).more otherB false
def sRead : GSt := sOther.took 5
theorem sRead_o : StO sRead 3 := ⟨rfl, by show -1000000 ≤ (0 : Int) - 5 ∧ (0 : Int) - 5 ≤ 1000000; omega, by show (0 : Int) ≤ 0 + 5 ∧ (0 : Int) + 5 ≤ 1000000; omega, rfl, rfl, rfl, rfl⟩
theorem sGranted_o : StO sRead.granted 3 := ⟨rfl, by show -1000000 ≤ (0 : Int) - 5 + (0 + 5) ∧ (0 : Int) - 5 + (0 + 5) ≤ 1000000; omega, by show (0 : Int) ≤ 0 ∧ (0 : Int) ≤ 1000000; omega, rfl, rfl, rfl, rfl⟩
section
variable {i c k : Int} {d : Dy} {t m : List UInt8} {by_ : Bool} {w : World} {eb : Nat} {F : Nat → Prop} {N : Nat}
theorem feed_other (h : CfgOk i c 1 k) (hd : DyB d N c 0) : FeedR (gS i c k d [sGone t by_, kF 3, kF 5, kF 7] [3, 5, 7] [] []) (lay 0 0 3 otherB) (gS i c k (d.got c k 5) [sGone t by_, sOther, kF 5, kF 7] [3, 5, 7] [] []) := by
  have := h.c0
  have := h.c1
  have h1 := feed_kept (i := i) (c := c) (k := k) (L := [3, 5, 7]) (res := []) (K := [sGone t by_, kF 3, kF 5, kF 7]) (s := kF 3) (b := otherB) hd (by omega) (by omega) (by simp) ⟨by show (1 : Int) ≤ 3; omega, by show (3 : Int) ≤ 32767; omega⟩ rfl rfl rfl (by show 0 ≤ 1000; omega) (by show 5 ≤ 64; omega) ⟨by show (5 : Int) ≤ c; omega, by show (5 : Int) ≤ 32 + 0; omega⟩ (by show -1000000 ≤ (0 : Int) ∧ (0 : Int) ≤ 1000000; omega) (by show (0 : Int) ≤ 0 ∧ (0 : Int) ≤ 1000000; omega)
  have e : updN 3 (fun x => x.more otherB false) [sGone t by_, kF 3, kF 5, kF 7] = [sGone t by_, sOther, kF 5, kF 7] := upd3 _ rfl rfl
  have e2 : (kF 3).st.number = 3 := rfl
  rw [e2, e] at h1
  exact h1
theorem read_other (hd : DyB d N (c - 5) 0) (he : StE w eb F (gS i c k d [sGone t by_, sOther, kF 5, kF 7] [3, 5, 7] [] [])) :
    Calls Tryz.prog 10 #[.pointer (some ⟨eb, 0, none⟩), .int .i64 3, .int .i64 1099511627776] w fun e w' => (∃ a, e = .returned (.tuple #[.slice a 5 5, .bool false, .int .i64 0]) ∧ BytesIn w' (.slice a 5 5) otherB) ∧ GoE w w' eb F (gS i c k (d.owes 5) [sGone t by_, sRead, kF 5, kF 7] [3, 5, 7] [] []) := by
  have e2 : (gS i c k d [sGone t by_, sOther, kF 5, kF 7] [3, 5, 7] [] []).m.owed = 0 := hd.ow
  have h1 := c_read_ok (s := sOther) (n := 1099511627776) he (by show sOther ∈ [sGone t by_, sOther, kF 5, kF 7]; simp) rfl rfl rfl (by omega) (by show 5 ≤ 1048576; omega) (by rw [e2]; omega) (by show -1099511627776 ≤ (0 : Int) ∧ (0 : Int) ≤ 1099511627776; omega)
  have hcut : cutN 1099511627776 sOther.un.length = 5 := by decide
  rw [hcut] at h1
  refine h1.mono ?_
  rintro e w' ⟨⟨a, rfl, hb⟩, hgo⟩
  refine ⟨⟨a, rfl, hb⟩, ?_⟩
  have e3 : updN sOther.st.number (fun x => x.took 5) [sGone t by_, sOther, kF 5, kF 7] = [sGone t by_, sRead, kF 5, kF 7] := upd3 _ rfl rfl
  have e4 : ({ gS i c k d [sGone t by_, sOther, kF 5, kF 7] [3, 5, 7] [] [] with m := (gS i c k d [sGone t by_, sOther, kF 5, kF 7] [3, 5, 7] [] []).m.owes 5, K := updN sOther.st.number (fun x => x.took 5) [sGone t by_, sOther, kF 5, kF 7] } : GEnd) = gS i c k (d.owes 5) [sGone t by_, sRead, kF 5, kF 7] [3, 5, 7] [] [] := by
    rw [e3]
    rfl
  rw [← e4]
  exact hgo
theorem feed_more (h : CfgOk i c 1 k) (hd : DyB d N c 0) (hm : m.length ≤ 32) : FeedR (gS i c k d [sGone t true, sRead.granted, kF 5, kF 7] [3, 5, 7] [] []) (lay 0 0 1 m) (gS i c k ((d.got c k m.length).owes m.length) [sGone t true, sRead.granted, kF 5, kF 7] [3, 5, 7] [] []) := by
  have := h.c0
  have := h.c1
  have h1 := feed_lost (i := i) (c := c) (k := k) (L := [3, 5, 7]) (res := []) (K := [sGone t true, sRead.granted, kF 5, kF 7]) (s := sGone t true) (b := m) hd (by omega) (by omega) (by simp) ⟨by show (1 : Int) ≤ 1; omega, by show (1 : Int) ≤ 32767; omega⟩ rfl rfl rfl (by omega) (by omega)
  exact h1
theorem feed_refused (hm : m.length ≤ 32) : FeedF (gS i c k d [sGone t false, sRead.granted, kF 5, kF 7] [3, 5, 7] [] []) (lay 0 0 1 m) 11 ((gS i c k d [sGone t false, sRead.granted, kF 5, kF 7] [3, 5, 7] [] []).died 11) :=
  feedF_lay (right_data (by omega) (by omega) (by omega)) rfl rfl rfl (ComeF.gone 0 (sGone t false) m (by show sGone t false ∈ [sGone t false, sRead.granted, kF 5, kF 7]; simp) (by decide) rfl (Or.inr rfl) rfl rfl)
end
end Go.Proofs.YtiphkngfbpdeoaaGreatDoor
/-
  The law's own: an intake, behind opened; room, all, tells at Credit of the connection.
-/
namespace Go.Proofs.YtiphkngfbpdeoaaGreatDoor
set_option linter.unusedVariables false
set_option linter.unusedSimpArgs false
open Go.RowKit

/-- The cells of an intake on which nothing was sent yet: credit that came of the connection. -/
def xC (ev : Value) (i c k cr : Int) : Array Value := #[ev, .int .i64 i, .int .i64 c, .int .i64 1, .int .i64 k,
  .string ⟨#[]⟩, .int .i64 0, .int .i64 0, .int .i64 0, .string ⟨#[]⟩, .int .i64 0, .int .i64 0, .int .i64 0, .string ⟨#[]⟩, .int .i64 0, .int .i64 0, .int .i64 0, .string ⟨#[]⟩, .int .i64 0, .int .i64 0, .int .i64 0,
  .int .i64 32, .int .i64 i, .bool true, .int .i64 0, .int .i64 cr, .int .i64 0, .slice none 0 0, .int .i64 0, .bool false, .bool false, .int .i64 0, .bool true]
structure XB (w : World) (xb : Nat) (ev : Value) (i c k cr : Int) : Prop where
  blk : w.heap[xb]? = some (.cells (xC ev i c k cr) 35 (0, 0))
section
variable {w w' : World} {xb : Nat} {ev : Value} {i c k cr : Int}
theorem XB.cell (h : XB w xb ev i c k cr) {j : Nat} {v : Value} (hi : (xC ev i c k cr)[j]? = some v) : w.cell? ⟨xb, j, none⟩ = some v := by
  rw [cell_of_row w xb _ _ _ _ h.blk]; exact hi
theorem XB.fr (h : XB w xb ev i c k cr) (j : Nat) : w.frozen? ⟨xb, j, none⟩ = false := by simp [World.frozen?, h.blk]
theorem XB.below (h : XB w xb ev i c k cr) (hb : Below w.heap.size w w') : XB w' xb ev i c k cr := ⟨kept_told h.blk hb⟩
theorem XB.chg {S : Nat → Prop} (h : XB w xb ev i c k cr) (hc : Chg S w w') (hs : ¬ S xb) : XB w' xb ev i c k cr := ⟨by rw [hc.block xb (lt_of_block h.blk) hs]; exact h.blk⟩
end
set_option maxRecDepth 100000 in
set_option maxHeartbeats 800000 in
theorem kall_any (xb : Nat) (ev : Value) (i c k cr : Int) (w : World) (h : XB w xb ev i c k cr) (h1 : 0 ≤ cr ∧ cr ≤ 1000000) :
    Calls Tryz.prog 43 #[.pointer (some ⟨xb, 0, none⟩)] w fun e w' => e = .returned (.int .i64 (32 + cr)) ∧ Below w.heap.size w w' := by
  have c24 := h.cell (j := 24) rfl
  have c25 := h.cell (j := 25) rfl
  have hw1 : IntKind.i64.wrap (32 + cr) = 32 + cr := by rw [IntKind.wrap_i64]; omega
  clear h
  go_enter Tryz.func43, Tryz.ntmps43
  go_upto_region 1 with fail
  go_region_held3 (fun w' => w'.cell? ⟨xb, 24, none⟩ = some (.int .i64 0) ∧ w'.cell? ⟨xb, 25, none⟩ = some (.int .i64 cr)) (exact ⟨c24, c25⟩) (fail)
  all_goals go_wp2
  all_goals go_ret
  all_goals exact ⟨by simp, below_dr (Below.refl _ _)⟩
set_option maxRecDepth 100000 in
set_option maxHeartbeats 1600000 in
theorem kroom_any (xb : Nat) (ev : Value) (i c k cr : Int) (j : Nat) (w : World) (h : XB w xb ev i c k cr) (hj : j < 4) :
    Calls Tryz.prog 42 #[.pointer (some ⟨xb, 0, none⟩), .int .i64 j] w fun e w' => e = .returned (.int .i64 32) ∧ Below w.heap.size w w' := by
  have c21 := h.cell (j := 21) rfl
  have d0 := h.cell (j := 7) rfl
  have d1 := h.cell (j := 11) rfl
  have d2 := h.cell (j := 15) rfl
  have d3 := h.cell (j := 19) rfl
  have e0 := h.cell (j := 8) rfl
  have e1 := h.cell (j := 12) rfl
  have e2 := h.cell (j := 16) rfl
  have e3 := h.cell (j := 20) rfl
  clear h
  match j, hj with
  | 0, _ =>
    go_enter Tryz.func42, Tryz.ntmps42
    go_upto_region 1 with fail
    go_region_held3 (fun w' => w'.cell? ⟨xb, 21, none⟩ = some (.int .i64 32) ∧ w'.cell? ⟨xb, 7, none⟩ = some (.int .i64 0) ∧ w'.cell? ⟨xb, 8, none⟩ = some (.int .i64 0)) (exact ⟨c21, d0, e0⟩) (fail)
    all_goals go_wp2
    all_goals go_ret
    all_goals exact ⟨rfl, below_dr (Below.refl _ _)⟩
  | 1, _ =>
    go_enter Tryz.func42, Tryz.ntmps42
    go_upto_region 1 with fail
    go_region_held3 (fun w' => w'.cell? ⟨xb, 21, none⟩ = some (.int .i64 32) ∧ w'.cell? ⟨xb, 11, none⟩ = some (.int .i64 0) ∧ w'.cell? ⟨xb, 12, none⟩ = some (.int .i64 0)) (exact ⟨c21, d1, e1⟩) (fail)
    all_goals go_wp2
    all_goals go_ret
    all_goals exact ⟨rfl, below_dr (Below.refl _ _)⟩
  | 2, _ =>
    go_enter Tryz.func42, Tryz.ntmps42
    go_upto_region 1 with fail
    go_region_held3 (fun w' => w'.cell? ⟨xb, 21, none⟩ = some (.int .i64 32) ∧ w'.cell? ⟨xb, 15, none⟩ = some (.int .i64 0) ∧ w'.cell? ⟨xb, 16, none⟩ = some (.int .i64 0)) (exact ⟨c21, d2, e2⟩) (fail)
    all_goals go_wp2
    all_goals go_ret
    all_goals exact ⟨rfl, below_dr (Below.refl _ _)⟩
  | 3, _ =>
    go_enter Tryz.func42, Tryz.ntmps42
    go_upto_region 1 with fail
    go_region_held3 (fun w' => w'.cell? ⟨xb, 21, none⟩ = some (.int .i64 32) ∧ w'.cell? ⟨xb, 19, none⟩ = some (.int .i64 0) ∧ w'.cell? ⟨xb, 20, none⟩ = some (.int .i64 0)) (exact ⟨c21, d3, e3⟩) (fail)
    all_goals go_wp2
    all_goals go_ret
    all_goals exact ⟨rfl, below_dr (Below.refl _ _)⟩
end Go.Proofs.YtiphkngfbpdeoaaGreatDoor
/-
  The law's own: tells at Credit of the connection.
-/
namespace Go.Proofs.YtiphkngfbpdeoaaGreatDoor
set_option linter.unusedVariables false
set_option linter.unusedSimpArgs false
open Go.RowKit

set_option maxHeartbeats 400000 in
theorem kflag_zero (k s : Int) (sa : Option Addr) (n cap : Nat) (w : World) :
    Calls Tryz.prog 61 #[.agg #[.int .i64 k, .int .i64 0, .int .i64 s, .slice sa n cap], .int .i64 1] w fun e w' => e = .returned (.bool false) ∧ Below w.heap.size w w' := by
  go_enter Tryz.func61, Tryz.ntmps61
  go_wp2
  go_ret
  exact ⟨rfl, (Below.refl _ _).alloc (Nat.le_refl _) _⟩
theorem XB.credit {w : World} {xb : Nat} {ev : Value} {i c k cr cr' : Int} (h : XB w xb ev i c k cr) : XB (w.setCell ⟨xb, 25, none⟩ (.int .i64 cr')) xb ev i c k cr' := ⟨by rw [blk_set h.blk]; rfl⟩
set_option maxRecDepth 100000 in
set_option maxHeartbeats 1600000 in
theorem ktells_credit (xb : Nat) (ev : Value) (i c k cr : Int) (sb : Option Addr) (cb : Nat) (b : List UInt8) (w : World) (h : XB w xb ev i c k cr) (hb : BytesIn w (.slice sb b.length cb) b) (h4 : b.length = 4) (h1 : 0 ≤ cr ∧ cr ≤ 1000000) :
    Calls Tryz.prog 41 #[.pointer (some ⟨xb, 0, none⟩), .agg #[.int .i64 6, .int .i64 0, .int .i64 0, .slice sb b.length cb]] w fun e w' => e = .returned (.bool true) ∧ XB w' xb ev i c k (cr + num4 b) ∧ Chg (fun j => j = xb) w w' := by
  obtain ⟨n0, n1⟩ := num4_le b
  have hw1 : IntKind.i64.wrap (cr + num4 b) = cr + num4 b := by rw [IntKind.wrap_i64]; omega
  obtain ⟨w0, hw0⟩ : ∃ w0, w0 = w.alloc (.cells #[.int .i64 6, .int .i64 0, .int .i64 0, .slice sb b.length cb] 105) := ⟨_, rfl⟩
  have hfr : w0.heap[w.heap.size]? = some (.cells #[.int .i64 6, .int .i64 0, .int .i64 0, .slice sb b.length cb] 105 (0, 0)) := by rw [hw0]; exact heap_alloc_new w _
  have hb0 : Below w.heap.size w w0 := by rw [hw0]; exact (Below.refl _ _).alloc (Nat.le_refl _) _
  have y0 : w0.cell? ⟨w.heap.size, 0, none⟩ = some (.int .i64 6) := by rw [cell_of_row _ _ _ _ _ _ hfr]; rfl
  have y1 : w0.cell? ⟨w.heap.size, 1, none⟩ = some (.int .i64 0) := by rw [cell_of_row _ _ _ _ _ _ hfr]; rfl
  have y2 : w0.cell? ⟨w.heap.size, 2, none⟩ = some (.int .i64 0) := by rw [cell_of_row _ _ _ _ _ _ hfr]; rfl
  have y3 : w0.cell? ⟨w.heap.size, 3, none⟩ = some (.slice sb b.length cb) := by rw [cell_of_row _ _ _ _ _ _ hfr]; rfl
  have HFL := hide (fun w => kflag_zero 6 0 sb b.length cb w)
  have HFR := hide hfr
  have HB0 := hide hb0
  have HW0 := hide hw0
  have HX := hide h
  have HBY := hide hb
  have HV : Hid (∀ wx, BytesIn wx (.slice sb b.length cb) b → Calls Tryz.prog 31 #[.slice sb b.length cb] wx fun e w' => e = .returned (.int .i64 (num4 b)) ∧ Below wx.heap.size wx w') := fun wx hx => kvalue_of hx h4
  clear hfr hb0 hw0 h hb
  generalize hLL : b.length = LL at *
  have HLL := hide hLL
  clear hLL
  subst h4
  go_enter Tryz.func41, Tryz.ntmps41
  go_upto_region 1 with fail
  rw [← HW0.out]
  go_wp2_with fail
  refine (HFL.out _).mono ?_
  rintro e w1 ⟨rfl, hb1⟩
  have hfr1 := kept_told HFR.out hb1
  have HB1 : Hid (Below w.heap.size w w1) := HB0.out.trans (hb1.mono HB0.out.size)
  have z0 : w1.cell? ⟨w.heap.size, 0, none⟩ = some (.int .i64 6) := by rw [cell_of_row _ _ _ _ _ _ hfr1]; rfl
  have z2 : w1.cell? ⟨w.heap.size, 2, none⟩ = some (.int .i64 0) := by rw [cell_of_row _ _ _ _ _ _ hfr1]; rfl
  have z3 : w1.cell? ⟨w.heap.size, 3, none⟩ = some (.slice sb 4 cb) := by rw [cell_of_row _ _ _ _ _ _ hfr1]; rfl
  have hx1 := HX.out.below HB1.out
  have x25 : w1.cell? ⟨xb, 25, none⟩ = some (.int .i64 cr) := hx1.cell (j := 25) rfl
  have f25 := hx1.fr 25
  have HX1 := hide hx1
  have HFR1 := hide hfr1
  have HV1 := hide (HV.out w1.drew (HBY.out.chg (Chg.of_below (S := fun _ => False) HB1.out.drew) (fun _ _ => id)))
  clear hb1 hfr1 hx1 y0 y1 y2 y3
  go_wp2_with fail
  go_region_law (refine step_call rfl 31 Tryz.f31 Tryz.func31 (by kernel_rfl) rfl [.tmp 108] #[38] rfl [.slice sb 4 cb] (by simp [Act.eval, Act.put]) HV1.out ?_; rintro e w2 ⟨rfl, hb2⟩; refine ⟨_, rfl, ?_⟩; have hx2 : XB w2 xb ev i c k cr := (HX1.out.below (w' := w1.drew) (below_dr (Below.refl _ _))).below hb2; have u25 : w2.cell? ⟨xb, 25, none⟩ = some (.int .i64 cr) := hx2.cell (j := 25) rfl; have g25 := hx2.fr 25; have HX2 := hide hx2; have HB2 : Hid (Below w.heap.size w w2) := (HB1.out.drew.trans (hb2.mono HB1.out.size)); clear hx2 hb2)
  all_goals go_wp2
  all_goals go_ret
  all_goals exact ⟨rfl, HX2.out.credit, chg_set (Chg.of_below HB2.out) rfl⟩
end Go.Proofs.YtiphkngfbpdeoaaGreatDoor
