import Derived.Test.YtdccldbefdfppaaGreatDoorQGax
import Derived.Test.YtdccldbefdfppaaGreatDoorQGav
import Derived.Test.YtdccldbefdfppaaGreatDoorQLgDrain
import Derived.BigRegion
set_option linter.unusedVariables false
set_option linter.unusedSimpArgs false
/-
  The law's own: begun, with any initial window.
-/
namespace Go.Proofs.YtdccldbefdfppaaGreatDoor
set_option linter.unusedVariables false
set_option linter.unusedSimpArgs false
open Go.RowKit

/-- It has heard the greeting and Settings with o. -/
def pHeardO (i c b k : Int) (o : Nat) : GEnd := { pNew i c b k with m := { (pNew i c b k).m with greeted := 7, begun := true, other := (o : Int), answers := .tuple #[] }, ans := [⟨3, 1, [], .slice none 0 0⟩] }
/-- It has said its own Settings and its answer. -/
def pSaidO (i c b k : Int) (o : Nat) : GEnd := { pNew i c b k with m := { (pNew i c b k).m.setd with greeted := 7, begun := true, other := (o : Int), answers := .tuple #[] } }
theorem num4_o (n : Nat) (h : n ≤ 4294967295) : num4 (four4 n) = n := by
  have h1 : num4 (four4 n) = be4 (UInt8.ofNat (n / 16777216)) (UInt8.ofNat (n / 65536)) (UInt8.ofNat (n / 256)) (UInt8.ofNat n) := rfl
  rw [h1]
  unfold be4
  simp only [UInt8.toNat_ofNat']
  omega
theorem right_sets (n : Nat) (hn : n ≤ 2147483647) : Right 3 0 0 (four4 n) := by
  refine ⟨by omega, by omega, by omega, by omega, by omega, by omega, by decide, by simp [four4], by show lFits 4 3 0 = true; decide, ?_⟩
  have h1 := num4_o n (by omega)
  have e : bodyCode 3 0 (four4 n) = numCode (four4 n) 0 := rfl
  rw [e]
  unfold numCode nCode
  rw [h1]
  simp
  omega
theorem right_cred (s : Int) (hs : 0 ≤ s ∧ s ≤ 32767) (n : Nat) (h0 : 1 ≤ n) (hn : n ≤ 2147483647) : Right 6 0 s (four4 n) := by
  refine ⟨by omega, by omega, by omega, by omega, hs.1, hs.2, ?_, by simp [four4], by show lFits 4 6 0 = true; decide, ?_⟩
  · unfold sFits
    simp
  have h1 := num4_o n (by omega)
  have e : bodyCode 6 0 (four4 n) = numCode (four4 n) 1 := rfl
  rw [e]
  unfold numCode nCode
  rw [h1]
  simp
  omega
theorem feed_heardO (i c b k : Int) (o : Nat) (ho : o ≤ 255) : FeedR (pNew i c b k) (greetB ++ lay 3 0 0 (four4 o)) (pHeardO i c b k o) := by
  refine (feedR_greet rfl rfl).app ?_
  refine feedR_lay ?_ rfl rfl rfl ?_
  · exact right_sets o (by omega)
  · have := Come.settings (p := { pNew i c b k with m := { (pNew i c b k).m with greeted := 7 } }) 0 (four4 o) ⟨by omega, by omega⟩ (by decide) rfl rfl rfl rfl
    rw [num4_o o (by omega)] at this
    exact this
theorem runs_saidO (i c b k : Int) (o : Nat) : Runs 16 (pHeardO i c b k o) { pSaidO i c b k o with out := firstB i } := by
  refine .step (q := { pHeardO i c b k o with m := (pHeardO i c b k o).m.setd, out := lay 3 0 0 (four4 i.toNat) }) (by show (0 : Int) < 16; omega) rfl ?_
  refine .step (q := { pSaidO i c b k o with out := firstB i }) ?_ rfl (.stop ?_)
  · show ((lay 3 0 0 (four4 i.toNat)).length : Int) < 16
    rw [lay_len]
    show ((6 + 4 : Nat) : Int) < 16
    omega
  · show (16 : Int) ≤ ((firstB i).length : Int)
    rw [firstB_len]
    omega
theorem fine_heardO {i c b k : Int} {o : Nat} (h : CfgOk i c b k) (ho : o ≤ 255) : Fine (pHeardO i c b k o) where
  greets := rfl
  wanted := ⟨h.i0, h.i1⟩
  owed := by show 0 ≤ c - 32 ∧ c - 32 ≤ 4294967295; have := h.c0; have := h.c1; omega
  receive := by show -1099511627776 ≤ (32 : Int) ∧ 32 + (c - 32) ≤ 1099511627776; have := h.c0; have := h.c1; omega
  pnum := by show (0 : Nat) < 4294967296; decide
  own := by show -1099511627776 ≤ (32 : Int) ∧ (32 : Int) ≤ 1099511627776; decide
  other := by show -1099511627776 ≤ ((o : Nat) : Int) ∧ ((o : Nat) : Int) ≤ 1099511627776; omega
  ans := fun a ha => by
    have : a = ⟨3, 1, [], .slice none 0 0⟩ := by simpa [pHeardO] using ha
    rw [this]; decide
  res := fun n hn => by cases hn
  st := fun s hs => by cases hs
  few := by show (0 : Nat) ≤ 1048576; decide
set_option maxRecDepth 100000 in
set_option maxHeartbeats 1600000 in
theorem kbegun_all (i c b k : Int) (o : Nat) (w : World) (h : CfgOk i c b k) (ho : o ≤ 255) (hgl : Gl w) (hg : 7 ≤ w.heap.size) :
    Calls Tryz.prog 6 #[.agg #[.int .i64 i, .int .i64 c, .int .i64 b, .int .i64 k], .int .i64 (o : Int)] w fun e w' => ∃ eb F, e = .returned (.tuple #[.pointer (some ⟨eb, 0, none⟩), .bool true]) ∧ StE w' eb F (pSaidO i c b k o) ∧ Below w.heap.size w w' ∧ ∀ j, F j → w.heap.size ≤ j := by
  have kc : ∀ (w : World) (C : Array Value) (n c : Nat), (convert 44 44 (.slice (some ⟨w.heap.size, 0, none⟩) n c)).run Tryz.prog (w.alloc (.cells C 5)) = .ok (.slice (some ⟨w.heap.size, 0, none⟩) n c) (w.alloc (.cells C 5 (C.size, C.size + 1))) := fun w C n c => Lib.run_convert_bytes_const (P := Tryz.prog) w 44 5 C n c Tryz.underlying44 Tryz.underlying5
  obtain ⟨i0, hi, hz0, hz1, hz2⟩ := info_parts Tryz.info5
  obtain ⟨w0, hw0⟩ : ∃ w0, w0 = w.alloc (.cells #[.int .i64 i, .int .i64 c, .int .i64 b, .int .i64 k] 23) := ⟨_, rfl⟩
  have hcf : w0.heap[w.heap.size]? = some (.cells #[.int .i64 i, .int .i64 c, .int .i64 b, .int .i64 k] 23 (0, 0)) := by rw [hw0]; exact heap_alloc_new w _
  have hb0 : Below w.heap.size w w0 := by rw [hw0]; exact (Below.refl _ _).alloc (Nat.le_refl _) _
  obtain ⟨y0, y1, y2, y3⟩ := cfgs' hcf
  have HCF := hide hcf
  have HB0 := hide hb0
  have HW0 := hide hw0
  have HN := hide (newEnd_ok i c b k w0 h)
  have HOK := hide h
  have HGL := hide hgl
  clear hcf hb0 hw0 h hgl
  go_enter Tryz.func6, Tryz.ntmps6
  go_upto_region 1 with fail
  rw [← HW0.out]
  go_wp2_with fail
  refine HN.out.mono ?_
  rintro e w1 ⟨eb, F, rfl, hst, hb1, hF⟩
  have HST := hide hst
  have HF : Hid (∀ j, F j → w0.heap.size ≤ j) := hF
  have h0lt : w.heap.size < w0.heap.size := lt_of_block HCF.out
  have HB1 : Hid (Below w.heap.size w w1) := HB0.out.trans (hb1.mono HB0.out.size)
  have HCF1 : Hid (w1.heap[w.heap.size]? = some (.cells #[.int .i64 i, .int .i64 c, .int .i64 b, .int .i64 k] 23 (0, 0))) := kept_told HCF.out hb1
  clear hst hF hb1 y0 y1 y2 y3
  go_upto_region 5 with fail
  have hgb : (w1.alloc (.cells #[.int .u8 115, .int .u8 108, .int .u8 117, .int .u8 105, .int .u8 99, .int .u8 101, .int .u8 10] 5 (7, 8))).heap[w1.heap.size]? = some (.cells #[.int .u8 115, .int .u8 108, .int .u8 117, .int .u8 105, .int .u8 99, .int .u8 101, .int .u8 10] 5 (7, 8)) := heap_alloc_new w1 _
  have hb2 : Below w1.heap.size w1 (w1.alloc (.cells #[.int .u8 115, .int .u8 108, .int .u8 117, .int .u8 105, .int .u8 99, .int .u8 101, .int .u8 10] 5 (7, 8))) := (Below.refl _ _).alloc (Nat.le_refl _) _
  generalize (w1.alloc (.cells #[.int .u8 115, .int .u8 108, .int .u8 117, .int .u8 105, .int .u8 99, .int .u8 101, .int .u8 10] 5 (7, 8))) = w2 at *
  have HGB := hide hgb
  have HB2 := hide hb2
  have HK4 : Hid (Calls Tryz.prog 14 #[.int .i64 (o : Int)] w2 fun e w' => e = .returned (.slice (some ⟨w2.heap.size, 0, none⟩) 4 4) ∧ BytesIn w' (.slice (some ⟨w2.heap.size, 0, none⟩) 4 4) (four4 o) ∧ Below w2.heap.size w2 w') := kfour_any o w2 (by omega)
  clear hgb hb2
  go_wp2_with fail
  refine HK4.out.mono ?_
  rintro e w3 ⟨rfl, hby3, hb3⟩
  have HL3 : Hid (Calls Tryz.prog 13 #[.int .i64 3, .int .i64 0, .int .i64 0, .slice (some ⟨w2.heap.size, 0, none⟩) 4 4] w3 fun e w' => ∃ v, e = .returned v ∧ w'.ownsRow w3.heap.size 5 1 v (lay 3 0 0 (four4 o)).length ((lay 3 0 0 (four4 o)).map B) ∧ Below w3.heap.size w3 w') := klay_any 3 0 0 (some ⟨w2.heap.size, 0, none⟩) (four4 o) 4 w3 (by omega) (by omega) (by omega) (by omega) (by omega) (by omega) (by simp [four4]) hby3
  have HB3 : Hid (Below w1.heap.size w1 w3) := HB2.out.trans (hb3.mono HB2.out.size)
  have HGB3 := hide (kept_told HGB.out hb3)
  clear hby3 hb3
  go_wp2_with fail
  refine HL3.out.mono ?_
  rintro e w4 ⟨v4, rfl, hown4, hb4⟩
  have HB4 : Hid (Below w1.heap.size w1 w4) := HB3.out.trans (hb4.mono HB3.out.size)
  have hgb4 := kept_told HGB3.out hb4
  rw [lay_len] at hown4
  obtain ⟨s4, c4, rfl⟩ := slice_len hown4
  have hby4 := bytesIn_of_owns hown4 (by rw [lay_len])
  obtain ⟨b4, rfl⟩ : ∃ b4, s4 = some b4 := by
    rcases hown4.2 with ⟨-, h0⟩ | ⟨g, cap, cur, h1, _⟩
    · simp [four4] at h0
    · exact ⟨_, (by simp at h1; exact h1.1)⟩
  have hlen4 : (four4 o).length = 4 := rfl
  rw [hlen4] at hown4 hby4 ⊢
  have hn4 : ∀ j v, ((lay 3 0 0 (four4 o)).map B)[j]? = some v → w4.cell? (b4.add j) = some v := by
    rcases lies_of_bytesIn hby4 with ⟨-, h0⟩ | ⟨ad, cap, h1, h2⟩
    · rw [lay_len] at h0; exact absurd h0.1 (by simp)
    · simp only [Value.slice.injEq, Option.some.injEq] at h1
      rw [h1.1]
      exact h2
  have hg4 : ∀ j v, (greetB.map B)[j]? = some v → w4.cell? ((⟨w1.heap.size, 0, none⟩ : Addr).add j) = some v := fun j v hv => by
    rw [Addr.add_mid, Nat.zero_add, cell_of_row _ _ _ _ _ _ hgb4, ← hv]
    exact List.getElem?_toArray
  have HN4 := hide hn4
  have HG4 := hide hg4
  have HB4' := hide hb4
  clear hn4 hg4 hgb4 hown4 hby4 hb4
  go_wp2_with (at_builtin; refine wpList_grow _ rfl (.tmp 29) (.tmp 30) 44 rfl i0 Tryz.underlying44 hi hz0 hz1 hz2 ⟨w1.heap.size, 0, none⟩ 7 7 (greetB.map B) rfl rfl HG4.out b4 10 c4 ((lay 3 0 0 (four4 o)).map B) (by rw [List.length_map, lay_len]; rfl) rfl HN4.out (by omega) (by omega) ?_)
  intro v5 w5 hown5 hb5
  obtain ⟨s5, c5, rfl⟩ := slice_len hown5
  have HB5 : Hid (Below w1.heap.size w1 w5) := HB4.out.trans (hb5.mono HB4.out.size)
  have hby5 : BytesIn w5 (.slice s5 17 c5) (greetB ++ lay 3 0 0 (four4 o)) := bytesIn_of_owns (by rw [List.map_append]; exact hown5) (by rw [List.length_append, lay_len]; rfl)
  have hbn5 : ∀ j, (Value.slice s5 17 c5).ownBlock = some j → ¬ F j := fun j hj hf => by
    have h1 := HST.out.lt hf
    have h2 := owns_ge hown5 hj
    have h3 := HB4.out.size
    omega
  have HFD := hide (c_feed (HST.out.below HB5.out) (feed_heardO i c b k o ho) rfl (HGL.out.below (HB1.out.trans (HB5.out.mono HB1.out.size))) (fun j hj hf => by have := HF.out j hf; omega) hby5 hbn5 (by rw [List.length_append, lay_len]; simp [four4, greetB]))
  clear hown5 hb5 hby5 hbn5
  go_wp2_with fail
  refine HFD.out.mono ?_
  rintro e w6 ⟨rfl, F6, hst6, hch6, hF6⟩
  have HFS : Hid (∀ j, F6 j → w0.heap.size ≤ j) := fun j hj => by
    rcases hF6 j hj with h | h
    · exact HF.out j h
    · have := HCF1.out; have := kept_told HCF1.out HB5.out; have := lt_of_block this; have h2 := HW0.out; have : w0.heap.size = w.heap.size + 1 := (by rw [h2]; simp); omega
  have HF6' : Hid (∀ j, F6 j → w.heap.size ≤ j) := fun j hj => by
    rcases hF6 j hj with h | h
    · have := HF.out j h; omega
    · exact Nat.le_trans (Nat.le_trans HB1.out.size HB5.out.size) h
  have hb6 : Below w.heap.size w w6 := below_of_chg (HB1.out.trans (HB5.out.mono HB1.out.size)) hch6 (fun j hj => by have := HF.out j hj; omega)
  have HCF6 : Hid (w6.heap[w.heap.size]? = some (.cells #[.int .i64 i, .int .i64 c, .int .i64 b, .int .i64 k] 23 (0, 0))) := by
    have h5 := kept_told HCF1.out HB5.out
    have := hch6.block w.heap.size (lt_of_block h5) (fun hf => by have := HF.out _ hf; omega)
    rw [this]; exact h5
  have hl16 : cutN 16 (firstB i).length = 16 := by rw [firstB_len]; decide
  have HT6 : Hid (Calls Tryz.prog 19 #[.pointer (some ⟨eb, 0, none⟩), .int .i64 16] w6 fun e w' => (∃ s, e = .returned (.slice s 16 16) ∧ BytesIn w' (.slice s 16 16) (firstB i)) ∧ GoE w6 w' eb F6 (pSaidO i c b k o)) := by
    refine (c_take (n := 16) hst6 (fine_heardO HOK.out ho) rfl rfl rfl (runs_saidO i c b k o) (by show (firstB i).length ≤ _; rw [firstB_len]; decide)).mono ?_
    rintro e w' ⟨⟨s, rfl, h1⟩, h2⟩
    change BytesIn w' (.slice s (cutN 16 (firstB i).length) (cutN 16 (firstB i).length)) ((firstB i).take (cutN 16 (firstB i).length)) at h1
    change GoE w6 w' eb F6 { pSaidO i c b k o with out := (firstB i).drop (cutN 16 (firstB i).length) } at h2
    rw [hl16, List.take_of_length_le (by rw [firstB_len]; decide)] at h1
    rw [hl16, List.drop_of_length_le (by rw [firstB_len]; decide)] at h2
    exact ⟨⟨s, by show Ending.returned (.slice s (cutN 16 (firstB i).length) (cutN 16 (firstB i).length)) = _; rw [hl16], h1⟩, h2⟩
  have HB6 := hide hb6
  clear hst6 hch6 hF6 hb6 hl16
  go_wp2_with fail
  refine HT6.out.mono ?_
  rintro e w7 ⟨⟨s7, rfl, hby7⟩, F7, hst7, hch7, hF7⟩
  have HF7 : Hid (∀ j, F7 j → w.heap.size ≤ j) := fun j hj => by
    rcases hF7 j hj with h | h
    · exact HF6'.out j h
    · exact Nat.le_trans HB6.out.size h
  have HB7 : Hid (Below w.heap.size w w7) := below_of_chg HB6.out hch7 HF6'.out
  have hcf7 : w7.heap[w.heap.size]? = some (.cells #[.int .i64 i, .int .i64 c, .int .i64 b, .int .i64 k] 23 (0, 0)) := by
    have := hch7.block w.heap.size (lt_of_block HCF6.out) (fun hf => by have := HFS.out _ hf; omega)
    rw [this]; exact HCF6.out
  obtain ⟨y0, -, -, -⟩ := cfgs' hcf7
  have hin : ((i.toNat : Nat) : Int) = i := by have := HOK.out.i0; omega
  have HK8 : Hid (Calls Tryz.prog 14 #[.int .i64 i] w7 fun e w' => e = .returned (.slice (some ⟨w7.heap.size, 0, none⟩) 4 4) ∧ BytesIn w' (.slice (some ⟨w7.heap.size, 0, none⟩) 4 4) (four4 i.toNat) ∧ Below w7.heap.size w7 w') := by
    have := kfour_any i.toNat w7 (by have := HOK.out.i1; omega)
    rw [hin] at this
    exact this
  have HBY7 := hide hby7
  have HST7 := hide hst7
  clear hby7 hst7 hch7 hF7 hcf7 hin
  go_wp2_with fail
  refine HK8.out.mono ?_
  rintro e w8 ⟨rfl, hby8, hb8⟩
  have HL8 : Hid (Calls Tryz.prog 13 #[.int .i64 3, .int .i64 0, .int .i64 0, .slice (some ⟨w7.heap.size, 0, none⟩) 4 4] w8 fun e w' => ∃ v, e = .returned v ∧ w'.ownsRow w8.heap.size 5 1 v (lay 3 0 0 (four4 i.toNat)).length ((lay 3 0 0 (four4 i.toNat)).map B) ∧ Below w8.heap.size w8 w') := klay_any 3 0 0 (some ⟨w7.heap.size, 0, none⟩) (four4 i.toNat) 4 w8 (by omega) (by omega) (by omega) (by omega) (by omega) (by omega) (by simp [four4]) hby8
  have HB8 := hide hb8
  clear hby8 hb8
  go_wp2_with fail
  refine HL8.out.mono ?_
  rintro e w9 ⟨v9, rfl, hown9, hb9⟩
  have hlen9 : (lay 3 0 0 (four4 i.toNat)).length = 10 := by rw [lay_len]; rfl
  rw [hlen9] at hown9
  obtain ⟨s9, c9, rfl⟩ := slice_len hown9
  have HO9 := hide hown9
  have HB9 : Hid (Below w7.heap.size w7 w9) := HB8.out.trans (hb9.mono HB8.out.size)
  have HL9 : Hid (Calls Tryz.prog 13 #[.int .i64 3, .int .i64 1, .int .i64 0, .slice none 0 0] w9 fun e w' => ∃ v, e = .returned v ∧ w'.ownsRow w9.heap.size 5 1 v (lay 3 1 0 []).length ((lay 3 1 0 []).map B) ∧ Below w9.heap.size w9 w') := klay_any 3 1 0 none [] 0 w9 (by omega) (by omega) (by omega) (by omega) (by omega) (by omega) (by decide) (Or.inl ⟨rfl, rfl⟩)
  clear hown9 hb9
  go_wp2_with fail
  refine HL9.out.mono ?_
  rintro e w10 ⟨v10, rfl, hown10, hb10⟩
  have hlen10 : (lay 3 1 0 []).length = 6 := by rw [lay_len]; rfl
  rw [hlen10] at hown10
  obtain ⟨s10, c10, rfl⟩ := slice_len hown10
  have HB10 : Hid (Below w7.heap.size w7 w10) := HB9.out.trans (hb10.mono HB9.out.size)
  have ho9 : w10.ownsRow 0 5 1 (.slice s9 10 c9) 10 ((lay 3 0 0 (four4 i.toNat)).map B) := owns_base (owns_chg HO9.out (Chg.of_below (S := fun _ => False) hb10) (fun _ _ => id)) (fun _ _ => Nat.zero_le _)
  have HO9' := hide ho9
  have HLI := hide (lies_of_bytesIn (bytesIn_of_owns hown10 hlen10.symm))
  rw [hlen10] at HLI
  have HF9 : Hid (∀ j, (Value.slice s9 10 c9).ownBlock = some j → w7.heap.size ≤ j) := fun j hj => Nat.le_trans HB8.out.size (owns_ge HO9.out hj)
  clear hown10 hb10 ho9
  go_wp2_with (at_builtin; refine wpList_app _ rfl (.tmp 42) (.tmp 43) 44 rfl 5 i0 (.int .u8 0) 1 1 Tryz.underlying44 hi hz0 hz1 hz2 rfl (by decide) _ 10 _ rfl HO9'.out _ 6 ((lay 3 1 0 []).map B) rfl ?c1 HLI.out ?c3 ?c4 ?c5 ?_)
  case c1 => simp [lay_len]
  case c3 => intro u hu; obtain ⟨x, -, rfl⟩ := List.mem_map.1 hu; rfl
  case c4 => unfold maxLen; omega
  case c5 => omega
  intro v11 w11 hown11 hg11 hfr11
  obtain ⟨s11, c11, rfl⟩ := slice_len hown11
  have hch11 : Chg (fun j => (Value.slice s9 10 c9).ownBlock = some j) w10 w11 := Chg.of_grown hg11 (fun j hj => hj)
  have hb11 : Below w7.heap.size w7 w11 := below_of_chg HB10.out hch11 HF9.out
  have hby11 : BytesIn w11 (.slice s11 16 c11) (firstB i) := bytesIn_of_owns (by unfold firstB; rw [List.map_append]; exact hown11) (by rw [firstB_len])
  have hby7' : BytesIn w11 (.slice s7 16 16) (firstB i) := HBY7.out.chg (Chg.of_below (S := fun _ => False) hb11) (fun _ _ => id)
  have q1 := conv_str hby11
  have q2 := conv_str hby7'
  have q3 := conv_str (w := w11.drew) hby11
  have q4 := conv_str (w := w11.drew) hby7'
  have HEND : Hid (StE w11 eb F7 (pSaidO i c b k o) ∧ Below w.heap.size w w11 ∧ ∀ j, F7 j → w.heap.size ≤ j) := ⟨HST7.out.below hb11, HB7.out.trans (hb11.mono HB7.out.size), HF7.out⟩
  clear hown11 hg11 hfr11 hch11 hb11 hby11 hby7'
  go_wp2
  have HKK : Hid ((convert 44 9 (.slice s7 16 16)).run Tryz.prog w11.drew = .ok (.string ⟨(firstB i).toArray⟩) w11.drew ∧ (convert 44 9 (.slice s11 16 c11)).run Tryz.prog w11.drew = .ok (.string ⟨(firstB i).toArray⟩) w11.drew) := ⟨q4, q3⟩
  clear q1 q2 q3 q4
  go_region_held3 (fun w' => (convert 44 9 (.slice s7 16 16)).run Tryz.prog w' = .ok (.string ⟨(firstB i).toArray⟩) w' ∧ (convert 44 9 (.slice s11 16 c11)).run Tryz.prog w' = .ok (.string ⟨(firstB i).toArray⟩) w') (exact HKK.out) (fail)
  all_goals go_wp2
  all_goals go_ret2
  all_goals (have hb := HEND.out.2.1; exact ⟨eb, F7, rfl, (show StE w11.drew eb F7 (pSaidO i c b k o) from HEND.out.1.below (below_dr (Below.refl _ _))), below_dr hb, HEND.out.2.2⟩)
end Go.Proofs.YtdccldbefdfppaaGreatDoor
/-
  The law's own: a frame is laid and fed.
-/
namespace Go.Proofs.YtdccldbefdfppaaGreatDoor
set_option linter.unusedVariables false
set_option linter.unusedSimpArgs false
open Go.RowKit

theorem conv_text (w : World) (l : List UInt8) : ∃ w' cap, (convert 9 44 (.string ⟨l.toArray⟩)).run Tryz.prog w = .ok (.slice (some ⟨w.heap.size, 0, none⟩) l.length cap) w' ∧ BytesIn w' (.slice (some ⟨w.heap.size, 0, none⟩) l.length cap) l ∧ Below w.heap.size w w' := by
  have h := run_bytes_of_string (P := Tryz.prog) w 9 44 5 ⟨l.toArray⟩ Tryz.underlying9 Tryz.underlying44 Tryz.underlying5
  have hs : (ByteArray.mk l.toArray).size = l.length := by simp [ByteArray.size]
  rw [hs] at h
  have h1 : Below w.heap.size w w.drew := ⟨rfl, rfl, rfl, Nat.le_refl _, fun _ _ => rfl⟩
  have hh := heap_alloc_new w.drew (.cells (bytesRow ⟨l.toArray⟩ (grownCap w l.length 0 5)) 5 ((bytesRow ⟨l.toArray⟩ (grownCap w l.length 0 5)).size, (bytesRow ⟨l.toArray⟩ (grownCap w l.length 0 5)).size + 1))
  refine ⟨_, _, h, Or.inr ⟨w.heap.size, 0, _, rfl, lt_of_block hh, grownCap_ge w l.length 0 5, fun i hi => ?_⟩, h1.alloc (Nat.le_refl _) _⟩
  rw [cell_of_row _ w.heap.size _ _ _ _ hh, Nat.zero_add]
  simp only [bytesRow]
  rw [Array.getElem?_append_left (by simpa using hi)]
  simp [hi, List.getD]
section
variable {w w1 w2 : World} {eb : Nat} {F F1 : Nat → Prop} {p q : GEnd}
/-- One step behind the other. -/
theorem GoE.then (hc : Chg F w w1) (hF : ∀ j, F1 j → F j ∨ w.heap.size ≤ j) (h : GoE w1 w2 eb F1 p) : GoE w w2 eb F p := by
  obtain ⟨F2, h1, h2, h3⟩ := h
  refine ⟨F2, h1, hc.trans (h2.mono fun j _ e => ?_), fun j hj => ?_⟩
  · rcases hF j e with a | a
    · exact Or.inr a
    · exact Or.inl a
  · rcases h3 j hj with a | a
    · exact hF j a
    · exact Or.inr (Nat.le_trans hc.size a)
theorem GoE.pre (hb : Below w.heap.size w w1) (h : GoE w1 w2 eb F p) : GoE w w2 eb F p := GoE.then (F1 := F) (Chg.of_below hb) (fun j hj => Or.inl hj) h
theorem GoE.post (h : GoE w w1 eb F p) (hb : Below w1.heap.size w1 w2) : GoE w w2 eb F p := by
  obtain ⟨F2, h1, h2, h3⟩ := h
  exact ⟨F2, h1.below hb, h2.then_below hb, h3⟩
theorem GoE.one (h : StE w eb F p) : GoE w w eb F p := ⟨F, h, Chg.refl _ _, fun _ hj => Or.inl hj⟩
/-- A frame is laid; then it can be fed. -/
theorem klay_feed {k f s : Int} {sa : Option Addr} {body : List UInt8} {cap : Nat} (he : StE w eb F p) (hf : FeedR p (lay k f s body) q) (hq : q.m.fault = 0) (hgl : Gl w1) (hge : ∀ j, j < 7 → ¬ F j) (hbw : Below w.heap.size w w1) (hk0 : 0 ≤ k) (hk1 : k ≤ 255) (hf0 : 0 ≤ f) (hf1 : f ≤ 255) (hs0 : 0 ≤ s) (hs1 : s ≤ 32767) (hn : body.length ≤ 64) (hb : BytesIn w1 (.slice sa body.length cap) body) :
    Calls Tryz.prog 13 #[.int .i64 k, .int .i64 f, .int .i64 s, .slice sa body.length cap] w1 fun e w' => ∃ v, e = .returned v ∧ Below w1.heap.size w1 w' ∧ ∀ w2, Below w'.heap.size w' w2 → Calls Tryz.prog 16 #[.pointer (some ⟨eb, 0, none⟩), v] w2 fun e w'' => e = .returned (.int .i64 0) ∧ GoE w w'' eb F q := by
  refine (klay_any k f s sa body cap w1 hk0 hk1 hf0 hf1 hs0 hs1 hn hb).mono ?_
  rintro e w' ⟨v, rfl, hown, hbl⟩
  refine ⟨v, rfl, hbl, fun w2 hb2 => ?_⟩
  have hbt := hbl.trans (hb2.mono hbl.size)
  have hbn : ∀ j, v.ownBlock = some j → ¬ F j := fun j hj hf => by
    have h1 := he.lt hf
    have h2 := owns_ge hown hj
    have h3 := hbw.size
    omega
  have hby := (bytesIn_of_owns hown rfl).chg (Chg.of_below (S := fun _ => False) hb2) (fun _ _ => id)
  refine (c_feed ((he.below hbw).below hbt) hf hq (hgl.below hbt) hge hby hbn (by rw [lay_len]; omega)).mono ?_
  rintro e w'' ⟨rfl, hgo⟩
  exact ⟨rfl, (hgo.pre hbt).pre hbw⟩
end
end Go.Proofs.YtdccldbefdfppaaGreatDoor
/-
  Ledger: what the moves do to the account and to the end.
-/
namespace Go.Proofs.YtdccldbefdfppaaGreatDoor
set_option linter.unusedVariables false
set_option linter.unusedSimpArgs false
open Go.RowKit

theorem insL_count (f : Int → Bool) (n : Int) : ∀ L : List Int, (insL n L).countP f = L.countP f + (if f n then 1 else 0)
  | [] => by simp [insL, List.countP_cons]
  | x :: r => by
    unfold insL
    split
    · rw [List.countP_cons]
    · rw [List.countP_cons, insL_count f n r, List.countP_cons]
      omega
section
variable {a a' : LAcc} {p q : GEnd}
/-- All credit together is more than each. -/
theorem LRel.gives (h : LRel a p) {n : Int} (hn : 0 ≤ n) (hg : a.given + n ≤ 1073742200) : LRel { a with given := a.given + n } p := by
  have E := h.e
  refine ⟨⟨E.live, E.got, E.told, E.waits, E.under, E.greets, E.begun, E.bstream, E.greeted, E.first, E.res, E.next, E.newest, E.send, E.other, E.pw, E.wanted, E.owed, E.receive, E.pnum, E.own, E.ans⟩, h.len, fun i x s hx hs => ?_, h.nn, h.rise, h.mem, h.num, h.cnt, h.lenL, h.lenK, h.t4, h.o4, h.i, ?_, h.se, hg⟩
  · have F := h.fs i x s hx hs
    exact ⟨F.num, F.send, F.wa, F.le, F.shut, F.all, F.ov, F.w100, F.owed, F.rc, F.last, F.has, F.res, F.head, by have := F.cr; show 0 ≤ x.credit ∧ x.credit ≤ a.given + n; omega, F.se, F.nov⟩
  · have := h.cr
    show 0 ≤ a.credit ∧ a.credit ≤ a.given + n
    omega
/-- Settings come. -/
theorem LRel.sets (h : LRel a p) (hA : p.ans = []) {n : Nat} (hn : n ≤ 200) : ∃ q, FeedR p (lay 3 0 0 (four4 n)) q ∧ q.m.fault = 0 ∧ LRel { a with initial := n } q ∧ q.out = p.out ∧ q.ans.length ≤ 8 := by
  have E := h.e
  have hc := Come.sets (p := p) 0 (four4 n) ⟨by omega, by omega⟩ (by decide) (by rw [hA]; decide) (by rw [num4_o n (by omega)]; omega) (fun s hs => by
    obtain ⟨i, x, -, -, F⟩ := h.flow hs
    have f1 := F.send; have f2 := F.cr; have f3 := F.se; have f4 := h.gv
    rw [num4_o n (by omega)]
    omega) E.bstream E.begun
  rw [num4_o n (by omega)] at hc
  refine ⟨_, feedR_lay (right_sets n (by omega)) E.greeted E.live E.got hc, E.live, ⟨⟨E.live, E.got, E.told, E.waits, E.under, E.greets, rfl, E.bstream, E.greeted, E.first, E.res, E.next, E.newest, E.send, rfl, E.pw, E.wanted, E.owed, E.receive, E.pnum, E.own, fun x hx => ?_⟩, h.len, fun i x s hx hs => ?_, h.nn, h.rise, h.mem, h.num, h.cnt, h.lenL, h.lenK, h.t4, h.o4, ?_, h.cr, h.se, h.gv⟩, rfl, ?_⟩
  · rw [hA] at hx
    simpa using hx
  · have F := h.fs i x s hx hs
    exact ⟨F.num, F.send, F.wa, F.le, F.shut, F.all, F.ov, F.w100, F.owed, F.rc, F.last, F.has, F.res, F.head, F.cr, F.se, F.nov⟩
  · show 0 ≤ (n : Int) ∧ (n : Int) ≤ 200
    omega
  · show (p.ans ++ _).length ≤ 8
    rw [hA]
    decide
/-- Credit of the connection comes. -/
theorem LRel.cred0 (h : LRel a p) {n : Nat} (h1 : 1 ≤ n) (hn : n ≤ 300) (hg : a.given + n ≤ 1073742200) : ∃ q, FeedR p (lay 6 0 0 (four4 n)) q ∧ q.m.fault = 0 ∧ LRel { a with given := a.given + n, credit := a.credit + n } q ∧ q.out = p.out ∧ q.ans = p.ans := by
  have E := h.e
  have f1 := E.send; have f2 := h.cr; have f3 := h.se; have f4 := h.gv
  have hc := Come.credit0 (p := p) 0 (four4 n) (by rw [num4_o n (by omega)]; unfold LAcc.room at f1; omega) (by unfold LAcc.room at f1; omega) E.bstream E.begun
  rw [num4_o n (by omega)] at hc
  have hG := h.gives (n := n) (by omega) hg
  refine ⟨_, feedR_lay (right_cred 0 (by omega) n h1 (by omega)) E.greeted E.live E.got hc, E.live, ⟨⟨E.live, E.got, E.told, E.waits, E.under, E.greets, rfl, E.bstream, E.greeted, E.first, E.res, E.next, E.newest, ?_, E.other, E.pw, E.wanted, E.owed, E.receive, E.pnum, E.own, E.ans⟩, h.len, fun i x s hx hs => ?_, h.nn, h.rise, h.mem, h.num, h.cnt, h.lenL, h.lenK, h.t4, h.o4, h.i, ?_, ?_, hg⟩, rfl, rfl⟩
  · show p.m.send + (n : Int) = 32 + (a.credit + n) - a.sent
    unfold LAcc.room at f1
    omega
  · have F := hG.fs i x s hx hs
    exact ⟨F.num, F.send, F.wa, F.le, F.shut, F.all, F.ov, F.w100, F.owed, F.rc, F.last, F.has, F.res, F.head, F.cr, F.se, F.nov⟩
  · show 0 ≤ a.credit + (n : Int) ∧ a.credit + (n : Int) ≤ a.given + n
    omega
  · show 0 ≤ a.sent ∧ a.sent ≤ 32 + (a.credit + n)
    omega
/-- Credit of a stream comes. -/
theorem LRel.creds (h : LRel a p) (ht : ∀ s ∈ p.K, s.st.announced = true) {i : Nat} {x : LFlow} (hx : a.fl[i]? = some x) {n : Nat} (h1 : 1 ≤ n) (hn : n ≤ 300) (hg : a.given + n ≤ 1073742200) : ∃ q, FeedR p (lay 6 0 x.s (four4 n)) q ∧ q.m.fault = 0 ∧ LRel { a with given := a.given + n, fl := a.fl.set i { x with credit := x.credit + n } } q ∧ q.out = p.out ∧ q.ans = p.ans := by
  have E := h.e
  have hlt : i < p.K.length := by rw [← h.len]; exact (List.getElem?_eq_some_iff.1 hx).1
  have hs : p.K[i]? = some p.K[i] := List.getElem?_eq_getElem hlt
  have F := h.fs i x _ hx hs
  have hm : p.K[i] ∈ p.K := List.getElem_mem hlt
  have hB := h.numB hm
  have han := ht _ hm
  generalize p.K[i] = s at *
  have f1 := F.send; have f2 := F.cr; have f3 := F.se; have f4 := h.gv; have f5 := E.other; have f6 := h.i
  have hc := Come.credits (p := p) 0 s (four4 n) hm (by omega) han F.res (by rw [num4_o n (by omega)]; omega) (by omega) (by omega) E.bstream E.begun
  rw [num4_o n (by omega), updN_set h.nn hs rfl, F.num] at hc
  have hG := h.gives (n := n) (by omega) hg
  refine ⟨_, feedR_lay (right_cred x.s (by rw [← F.num]; omega) n h1 (by omega)) E.greeted E.live E.got hc, E.live, ?_, rfl, rfl⟩
  refine hG.set (x' := { x with credit := x.credit + n }) (s' := s.credit n) hx hs rfl rfl rfl rfl rfl ⟨E.live, E.got, E.told, E.waits, E.under, E.greets, rfl, E.bstream, E.greeted, E.first, E.res, E.next, E.newest, E.send, E.other, E.pw, E.wanted, E.owed, E.receive, E.pnum, E.own, E.ans⟩ ⟨F.num, ?_, F.wa, F.le, F.shut, F.all, F.ov, F.w100, F.owed, F.rc, F.last, F.has, F.res, F.head, ?_, ?_, F.nov⟩ h.se
  · show s.st.send + (n : Int) = x.credit + n - x.sent
    omega
  · show 0 ≤ x.credit + (n : Int) ∧ x.credit + (n : Int) ≤ a.given + n
    omega
  · show (x.sent : Int) ≤ 200 + (x.credit + n)
    omega
/-- Bytes are written. -/
theorem LRel.writes (h : LRel a p) {i : Nat} {x : LFlow} {s : GSt} (hx : a.fl[i]? = some x) (hs : p.K[i]? = some s) (hcl : x.closed = false) (b : List UInt8) : LRel { a with fl := a.fl.set i { x with wr := x.wr ++ b.take (roomN b.length s.wa.length) } } { p with K := updN s.st.number (fun s => s.wrote b) p.K } := by
  have F := h.fs i x s hx hs
  have E := h.e
  have f1 := F.le; have f2 := F.w100
  refine h.set (x' := { x with wr := x.wr ++ b.take (roomN b.length s.wa.length) }) (s' := s.wrote b) hx hs rfl rfl (updN_set h.nn hs rfl) rfl rfl ⟨E.live, E.got, E.told, E.waits, E.under, E.greets, E.begun, E.bstream, E.greeted, E.first, E.res, E.next, E.newest, E.send, E.other, E.pw, E.wanted, E.owed, E.receive, E.pnum, E.own, E.ans⟩ ⟨F.num, F.send, ?_, ?_, F.shut, F.all, fun ho => ?_, ?_, F.owed, F.rc, F.last, F.has, F.res, F.head, F.cr, F.se, F.nov⟩ h.se
  · show s.wa ++ b.take (roomN b.length s.wa.length) = (x.wr ++ b.take (roomN b.length s.wa.length)).drop x.sent
    rw [List.drop_append_of_le_length f1, F.wa]
  · show x.sent ≤ (x.wr ++ _).length
    rw [List.length_append]
    omega
  · have := (F.ov ho).2
    rw [hcl] at this
    cases this
  · show (s.wa ++ b.take (roomN b.length s.wa.length)).length ≤ 100
    rw [List.length_append, List.length_take]
    unfold roomN
    omega
def GSt.shuts (s : GSt) : GSt := { s with st := { s.st with shut := true } }
/-- A stream is closed. -/
theorem LRel.closes (h : LRel a p) {i : Nat} {x : LFlow} {s : GSt} (hx : a.fl[i]? = some x) (hs : p.K[i]? = some s) : LRel { a with fl := a.fl.set i { x with closed := true } } { p with K := updN s.st.number GSt.shuts p.K } := by
  have F := h.fs i x s hx hs
  have E := h.e
  exact h.set (x' := { x with closed := true }) (s' := s.shuts) hx hs rfl rfl (updN_set h.nn hs rfl) rfl rfl ⟨E.live, E.got, E.told, E.waits, E.under, E.greets, E.begun, E.bstream, E.greeted, E.first, E.res, E.next, E.newest, E.send, E.other, E.pw, E.wanted, E.owed, E.receive, E.pnum, E.own, E.ans⟩ ⟨F.num, F.send, F.wa, F.le, rfl, F.all, fun ho => ⟨(F.ov ho).1, rfl⟩, F.w100, F.owed, F.rc, F.last, F.has, F.res, F.head, F.cr, F.se, F.nov⟩ h.se
/-- A stream more. -/
theorem LRel.more (h : LRel a p) {n : Int} {s : GSt} (hs : s.st.number = n) (hn : ∀ y ∈ p.K, y.st.number ≠ n) (hF : LFS a' ⟨n, 0, [], 0, false, false⟩ s) (hE : LEnd a' q) (hK : q.K = p.K ++ [s]) (hL : q.L = insL n p.L) (hf : q.m.first = p.m.first)
    (e1 : a'.initial = a.initial) (e2 : a'.credit = a.credit) (e3 : a'.sent = a.sent) (e4 : a'.given = a.given) (e5 : a'.fl = a.fl ++ [⟨n, 0, [], 0, false, false⟩]) (hc : (a'.theirs = a.theirs + 1 ∧ a'.ours = a.ours ∧ p.m.opensN n = true ∧ n = 2 * (a'.theirs : Int)) ∨ (a'.theirs = a.theirs ∧ a'.ours = a.ours + 1 ∧ p.m.opensN n = false ∧ n = 2 * (a'.ours : Int) - 1)) (t4 : a'.theirs ≤ 4) (o4 : a'.ours ≤ 4) : LRel a' q := by
  have hnL : n ∉ p.L := fun hm => by
    obtain ⟨y, hy, e⟩ := (h.mem n).1 hm
    exact hn y hy e
  have hop : (fun k => q.m.opensN k) = fun k => p.m.opensN k := by
    funext k
    unfold EndM.opensN
    rw [hf]
  have hth : a.theirs ≤ a'.theirs := by omega
  have hou : a.ours ≤ a'.ours := by omega
  refine ⟨hE, by rw [e5, hK, List.length_append, List.length_append, h.len]; rfl, ?_, ?_, by rw [hL]; exact insL_rise h.rise hnL, ?_, ?_, ?_, ?_, ?_, t4, o4, by rw [e1]; exact h.i, by rw [e2, e4]; exact h.cr, by rw [e2, e3]; exact h.se, by rw [e4]; exact h.gv⟩
  · intro i x y hx hy
    rw [e5] at hx
    rw [hK] at hy
    by_cases hi : i < a.fl.length
    · rw [List.getElem?_append_left hi] at hx
      rw [List.getElem?_append_left (by rw [← h.len]; exact hi)] at hy
      have F := h.fs i x y hx hy
      exact ⟨F.num, F.send, F.wa, F.le, F.shut, F.all, F.ov, F.w100, F.owed, F.rc, F.last, F.has, F.res, F.head, by rw [e4]; exact F.cr, F.se, F.nov⟩
    · rw [List.getElem?_append_right (by omega)] at hx
      rw [List.getElem?_append_right (by rw [← h.len]; omega)] at hy
      have hi0 : i - a.fl.length = 0 := by
        have := (List.getElem?_eq_some_iff.1 hx).1
        simp at this
        omega
      rw [hi0] at hx
      rw [← h.len, hi0] at hy
      simp at hx hy
      subst hx hy
      exact hF
  · rw [hK, List.map_append, List.nodup_append]
    refine ⟨h.nn, by simp, ?_⟩
    intro u hu v hv e
    obtain ⟨y, hy, rfl⟩ := List.mem_map.1 hu
    simp [hs] at hv
    rw [hv] at e
    exact hn y hy e
  · intro k
    rw [hL, insL_mem, h.mem k, hK]
    constructor
    · rintro (rfl | ⟨y, hy, e⟩)
      · exact ⟨s, by simp, hs⟩
      · exact ⟨y, by simp [hy], e⟩
    · rintro ⟨y, hy, e⟩
      rcases List.mem_append.1 hy with hy | hy
      · exact Or.inr ⟨y, hy, e⟩
      · rw [List.mem_singleton.1 hy, hs] at e
        exact Or.inl e.symm
  · intro y hy
    rw [hK] at hy
    rcases List.mem_append.1 hy with hy | hy
    · rcases h.num y hy with ⟨k, k1, k2, k3⟩ | ⟨k, k1, k2, k3⟩
      · exact Or.inl ⟨k, k1, by omega, k3⟩
      · exact Or.inr ⟨k, k1, by omega, k3⟩
    · rw [List.mem_singleton.1 hy, hs]
      rcases hc with ⟨c1, c2, -, c4⟩ | ⟨c1, c2, -, c4⟩
      · exact Or.inl ⟨a'.theirs, by omega, by omega, c4⟩
      · exact Or.inr ⟨a'.ours, by omega, by omega, c4⟩
  · rw [hL, hop, insL_count, h.cnt]
    rcases hc with ⟨c1, c2, c3, c4⟩ | ⟨c1, c2, c3, c4⟩
    · rw [c3, c1]; simp
    · rw [c3, c1]; simp
  · rw [hL, insL_length, h.lenL]
    omega
  · rw [hK, List.length_append, h.lenK]
    simp
    omega
theorem LRel.fresh (h : LRel a p) {n : Int} (hn : n = 2 * (a.theirs : Int) + 2 ∨ n = 2 * (a.ours : Int) + 1) : ∀ y ∈ p.K, y.st.number ≠ n := by
  intro y hy e
  rcases h.num y hy with ⟨k, k1, k2, k3⟩ | ⟨k, k1, k2, k3⟩ <;> omega
theorem LRel.opensN (h : LRel a p) (n : Int) (h0 : 0 ≤ n) : p.m.opensN n = decide (n % 2 = 0) := by
  unfold EndM.opensN
  rw [h.e.first, Int.tmod_eq_emod_of_nonneg h0]
  by_cases e : n % 2 = 0
  · simp [e]
  · have : n % 2 = 1 := by omega
    simp [this]
/-- The end opens a stream. -/
theorem LRel.opens (h : LRel a p) (ht : a.theirs < 4) : LRel { a with theirs := a.theirs + 1, fl := a.fl ++ [⟨2 * ((a.theirs + 1 : Nat) : Int), 0, [], 0, false, false⟩] } p.opens := by
  have E := h.e
  have hnx : p.m.next = 2 * ((a.theirs + 1 : Nat) : Int) := by rw [E.next]; omega
  have hge := h.cr
  refine h.more (n := 2 * ((a.theirs + 1 : Nat) : Int)) (s := ⟨0, StM.mine p.m.next (.slice none 0 1), [], []⟩) hnx (h.fresh (Or.inl (by omega))) ⟨hnx, rfl, rfl, Nat.le_refl _, rfl, rfl, fun e => (by cases e), Nat.zero_le _, rfl, rfl, rfl, rfl, rfl, fun _ => (by show headV (.slice none 0 1) ≠ .tuple #[]; simp [headV]), ?_, ?_, fun _ => rfl⟩ ⟨E.live, E.got, E.told, E.waits, E.under, E.greets, E.begun, E.bstream, E.greeted, E.first, E.res, ?_, E.newest, E.send, E.other, E.pw, E.wanted, E.owed, E.receive, E.pnum, E.own, E.ans⟩ rfl (by show insL p.m.next p.L = _; rw [hnx]) rfl rfl rfl rfl rfl rfl (Or.inl ⟨rfl, rfl, ?_, rfl⟩) (by show a.theirs + 1 ≤ 4; omega) h.o4
  · show (0 : Int) ≤ 0 ∧ (0 : Int) ≤ a.given
    omega
  · show ((0 : Nat) : Int) ≤ 200 + 0
    omega
  · show p.m.next + 2 = 2 * ((a.theirs + 1 : Nat) : Int) + 2
    omega
  · rw [h.opensN _ (by omega)]
    exact decide_eq_true (by omega)
/-- The other end opens a stream. -/
theorem LRel.heads (h : LRel a p) (ho : a.ours < 4) : ∃ q, FeedR p (lay 1 4 (2 * ((a.ours + 1 : Nat) : Int) - 1) []) q ∧ q.m.fault = 0 ∧ LRel { a with ours := a.ours + 1, fl := a.fl ++ [⟨2 * ((a.ours + 1 : Nat) : Int) - 1, 0, [], 0, false, false⟩] } q ∧ q.out = p.out ∧ q.ans = p.ans := by
  have E := h.e
  have hge := h.cr
  have hop : p.m.opensN (2 * ((a.ours + 1 : Nat) : Int) - 1) = false := by
    rw [h.opensN _ (by omega)]
    exact decide_eq_false (by omega)
  have hnw := E.newest
  have hl := h.lenL
  have ht := h.t4
  have hfr := h.fresh (n := 2 * ((a.ours + 1 : Nat) : Int) - 1) (Or.inr (by omega))
  have hc := Come.headers (p := p) 4 (2 * ((a.ours + 1 : Nat) : Int) - 1) ⟨by omega, by omega⟩ (by decide) hop (by omega) (Or.inr ⟨by omega, by rw [h.cnt, hl]; omega⟩) hfr h.rise E.bstream E.begun
  refine ⟨_, feedR_lay (right_heads _ (by omega) (by omega)) E.greeted E.live E.got hc, E.live, ?_, rfl, rfl⟩
  refine h.more (n := 2 * ((a.ours + 1 : Nat) : Int) - 1) (s := ⟨0, StM.fresh (2 * ((a.ours + 1 : Nat) : Int) - 1) (hasB 4 1), [], []⟩) rfl hfr ⟨rfl, rfl, rfl, Nat.le_refl _, rfl, rfl, fun e => (by cases e), Nat.zero_le _, rfl, rfl, rfl, (by show hasB 4 1 = false; decide), rfl, fun e => (by cases e), ?_, ?_, fun _ => rfl⟩ ⟨E.live, E.got, E.told, E.waits, E.under, E.greets, rfl, rfl, E.greeted, E.first, E.res, E.next, ?_, E.send, E.other, E.pw, E.wanted, E.owed, E.receive, E.pnum, E.own, E.ans⟩ rfl rfl rfl rfl rfl rfl rfl rfl (Or.inr ⟨rfl, rfl, hop, rfl⟩) h.t4 (by show a.ours + 1 ≤ 4; omega)
  · show (0 : Int) ≤ 0 ∧ (0 : Int) ≤ a.given
    omega
  · show ((0 : Nat) : Int) ≤ 200 + 0
    omega
  · show 2 * ((a.ours + 1 : Nat) : Int) - 1 ≤ 2 * ((a.ours + 1 : Nat) : Int)
    omega
end
end Go.Proofs.YtdccldbefdfppaaGreatDoor
/-
  Close, Write of what is closed, and Open, as the law needs them.
-/
namespace Go.Proofs.YtdccldbefdfppaaGreatDoor
set_option linter.unusedVariables false
set_option linter.unusedSimpArgs false
open Go.RowKit

section
variable {w w' : World} {eb : Nat} {F : Nat → Prop} {p : GEnd}
theorem c_close_shut {s : GSt} (h : StE w eb F p) (hs : s ∈ p.K) (hl : p.m.fault = 0) (hr : s.st.reset = 0) (hsh : s.st.shut = true) :
    Calls Tryz.prog 20 #[.pointer (some ⟨eb, 0, none⟩), .int .i64 s.st.number] w fun e w' => e = .returned (.int .i64 5) ∧ w' = w := by
  obtain ⟨mb, g, hi, hrd, hp, hF⟩ := h
  obtain ⟨x, hx, rfl, hfi⟩ := stE_at hi hp hs
  have hl' : g.m.fault = 0 := by rw [← hp] at hl; exact hl
  have hr' : x.st.reset = 0 := hr
  have hs' : x.st.shut = true := hsh
  have hfi' : findK (g.K.map GSt.str) x.st.number = some x.str := hfi
  have hw5 : g.m.wcode (some x.str) = 5 := by simp [EndM.wcode, hl', GSt.str, hr', hs']
  refine (xClose_any eb mb g.m _ x.st.number w hi.en hi.km hi.kn).mono ?_
  intro e w' hcl
  unfold Closed at hcl
  rw [hfi'] at hcl
  simp [hw5] at hcl
  exact hcl
theorem c_write_shut {s : GSt} {bv : Value} (h : StE w eb F p) (hs : s ∈ p.K) (hl : p.m.fault = 0) (hr : s.st.reset = 0) (hsh : s.st.shut = true) :
    Calls Tryz.prog 21 #[.pointer (some ⟨eb, 0, none⟩), .int .i64 s.st.number, bv] w fun e w' => e = .returned (.tuple #[.int .i64 0, .int .i64 5]) ∧ w' = w := by
  obtain ⟨mb, g, hi, hrd, hp, hF⟩ := h
  obtain ⟨x, hx, rfl, hfi⟩ := stE_at hi hp hs
  have hl' : g.m.fault = 0 := by rw [← hp] at hl; exact hl
  have hr' : x.st.reset = 0 := hr
  have hs' : x.st.shut = true := hsh
  have hw5 : g.m.wcode (findK (g.K.map GSt.str) x.st.number) = 5 := by
    have hfi' : findK (g.K.map GSt.str) x.st.number = some x.str := hfi
    rw [hfi']
    simp [EndM.wcode, hl', GSt.str, hr', hs']
  have he := eWrite_no eb mb g.m _ x.st.number bv w hi.en hi.km hi.kn (by rw [hw5]; omega)
  rw [hw5] at he
  have hc := xWrite_of (R := fun a c w' => (a = .int .i64 0 ∧ c = .int .i64 5) ∧ w' = w) eb x.st.number bv w (he.mono fun e w' h => ⟨_, _, h.1, ⟨rfl, rfl⟩, h.2⟩)
  refine hc.mono ?_
  rintro e w' ⟨a, c, rfl, ⟨rfl, rfl⟩, hw⟩
  exact ⟨rfl, hw⟩
theorem c_close_ok {s : GSt} (h : StE w eb F p) (hs : s ∈ p.K) (hl : p.m.fault = 0) (hg : p.got = []) (hr : s.st.reset = 0) (hla : s.st.last = false) (hsh : s.st.shut = false) :
    Calls Tryz.prog 20 #[.pointer (some ⟨eb, 0, none⟩), .int .i64 s.st.number] w fun e w' => e = .returned (.int .i64 0) ∧ GoE w w' eb F { p with K := updN s.st.number GSt.shuts p.K } := by
  obtain ⟨mb, g, hi, hrd, hp, hF⟩ := h
  obtain ⟨x, hx, rfl, hfi⟩ := stE_at hi hp hs
  have hl' : g.m.fault = 0 := by rw [← hp] at hl; exact hl
  have hr' : x.st.reset = 0 := hr
  have hla' : x.st.last = false := hla
  have hs' : x.st.shut = false := hsh
  have hfi' : findK (g.K.map GSt.str) x.st.number = some x.str := hfi
  have hw0 : g.m.wcode (some x.str) = 0 := by simp [EndM.wcode, hl', GSt.str, hr', hla', hs']
  refine (xClose_any eb mb g.m _ x.st.number w hi.en hi.km hi.kn).mono ?_
  intro e w' hcl
  unfold Closed at hcl
  rw [hfi'] at hcl
  simp only [hw0, if_true] at hcl
  obtain ⟨he, hst, hch⟩ := hcl
  refine ⟨he, ?_⟩
  have keep : ∀ {k : Nat} {v' : Value} {xs : List Value} {ty : TypeId}, ty ≠ 127 → w.ownsRow 0 ty 1 v' k xs → w'.ownsRow 0 ty 1 v' k xs := fun h2 hr => owns_chg hr hch (fun j hjj e => by
    have e' : j = x.sb := e
    rw [e'] at hjj
    exact owns_ne hr (hi.st hx).blk h2 hjj)
  have hn := hi.onSt (S := fun j => j = x.sb) (m' := g.m) (s := x) (s' := ⟨x.sb, x.st.shutd, x.un, x.wa⟩) (L' := g.L) (o' := g.out) 0 hx hch (fun j e => Or.inr (Or.inl e)) (hi.en.chg hch (fun e => hi.st_eb hx e.symm)) hst rfl rfl rfl rfl rfl rfl
    (keep (by decide) hi.row) (fun j hj => Or.inl hj) (List.Sublist.refl _) (keep (by decide) hi.out) (fun j hj => Or.inl hj) (keep (by decide) (hi.un x hx)) (fun j hj => Or.inl hj) (keep (by decide) (hi.wa x hx)) (fun j hj => Or.inl hj)
  refine GoE.of hF hn ?_ ?_
  · exact RdOk.nil (show g.got = [] from bare_got hp hg)
  · rw [← hp]
    unfold GEnd.bare
    simp only [GEnd.mk.injEq, true_and, and_true]
    rw [← updN_bare _ GSt.shuts (fun s => rfl), show x.bare.st.number = x.st.number from rfl, ← updN_const (f := GSt.shuts) hi.nn hx rfl]
    rfl
theorem here_bare {g : GEnd} (hp : g.bare = p) : (g.L.countP fun k => g.m.opensN k) = p.L.countP fun k => p.m.opensN k := by
  rw [← hp]
  rfl
theorem c_open_many (h : StE w eb F p) (hl : p.m.fault = 0) (hL : p.L.length ≤ 1048576) (hm : 4 ≤ p.L.countP fun k => p.m.opensN k) :
    Calls Tryz.prog 18 #[.pointer (some ⟨eb, 0, none⟩), .slice none 0 0, .bool false] w fun e w' => e = .returned (.tuple #[.int .i64 0, .int .i64 3]) ∧ w' = w := by
  obtain ⟨mb, g, hi, hrd, hp, hF⟩ := h
  have hl' : g.m.fault = 0 := by rw [← hp] at hl; exact hl
  have hL' : g.L.length ≤ 1048576 := by rw [← hp] at hL; exact hL
  have hc := xOpen_of (R := fun a c w' => (a = .int .i64 0 ∧ c = .int .i64 3) ∧ w' = w) eb (.slice none 0 0) (.bool false) w ((eOpen_many eb mb g w hi hl' hL' (by rw [here_bare hp]; exact hm)).mono fun e w' h => ⟨_, _, h.1, ⟨rfl, rfl⟩, h.2⟩)
  refine hc.mono ?_
  rintro e w' ⟨a, c, rfl, ⟨rfl, rfl⟩, hw⟩
  exact ⟨rfl, hw⟩
theorem opens_bare (g : GEnd) : g.opens.bare = g.bare.opens := by
  unfold GEnd.opens GEnd.bare
  simp only [GEnd.mk.injEq, and_true]
  refine ⟨rfl, ?_, rfl⟩
  rw [List.map_append]
  rfl
theorem c_open_ok (h : StE w eb F p) (hl : p.m.fault = 0) (hg : p.got = []) (hm : (p.L.countP fun k => p.m.opensN k) < 4) (hnx : 0 ≤ p.m.next ∧ p.m.next ≤ 32767) (hn : ∀ x ∈ p.K, x.st.number ≠ p.m.next) (hup : Rise p.L) (hL : p.L.length ≤ 11) :
    Calls Tryz.prog 18 #[.pointer (some ⟨eb, 0, none⟩), .slice none 0 0, .bool false] w fun e w' => e = .returned (.tuple #[.int .i64 p.m.next, .int .i64 0]) ∧ GoE w w' eb F p.opens := by
  obtain ⟨mb, g, hi, hrd, hp, hF⟩ := h
  have hl' : g.m.fault = 0 := by rw [← hp] at hl; exact hl
  have e1 : g.L = p.L := by rw [← hp]; rfl
  have e2 : g.m.next = p.m.next := by rw [← hp]; rfl
  have hn' : ∀ x ∈ g.K, x.st.number ≠ g.m.next := fun x hx => by
    rw [e2]
    exact hn x.bare (by rw [← hp]; exact List.mem_map.2 ⟨x, hx, rfl⟩)
  have he := eOpen_ok eb mb g w hi hl' (by rw [here_bare hp]; exact hm) (by rw [e2]; exact hnx) hn' (by rw [e1]; exact hup) (by rw [e1]; exact hL)
  rw [e2] at he
  have hc := xOpen_of (R := fun a c w' => (a = .int .i64 p.m.next ∧ c = .int .i64 0) ∧ GoE w w' eb F p.opens) eb (.slice none 0 0) (.bool false) w (he.mono fun e w' h => by
    obtain ⟨h1, g', h2, h3⟩ := h
    refine ⟨_, _, h1, ⟨rfl, rfl⟩, GoE.of hF h3 ?_ ?_⟩
    · have : g'.bare = p.opens := by rw [h2, opens_bare, hp]
      exact RdOk.nil (bare_got this hg)
    · rw [h2, opens_bare, hp])
  refine hc.mono ?_
  rintro e w' ⟨a, c, rfl, ⟨rfl, rfl⟩, hw⟩
  exact ⟨rfl, hw⟩
end
end Go.Proofs.YtdccldbefdfppaaGreatDoor
/-
  Ledger: grants.
-/
namespace Go.Proofs.YtdccldbefdfppaaGreatDoor
set_option linter.unusedVariables false
set_option linter.unusedSimpArgs false
open Go.RowKit

/-- Behind a move. -/
structure LOk (a : LAcc) (p : GEnd) : Prop where
  rel : LRel a p
  out : p.out = []
  ans : p.ans.length ≤ 8
theorem LCalm.ok {a : LAcc} {p : GEnd} (h : LCalm a p) : LOk a p := ⟨h.rel, h.out, by rw [h.ans]; decide⟩
/-- How a move ends. -/
def LMoved (w w' : World) (ab eb : Nat) (G : Nat → Prop) (e : Ending) : Prop := e = .returned (.bool true) ∧ ∃ a' p', GoL w w' ab eb G a' p' ∧ LOk a' p'
theorem lpk_nat (c : Int) {n : Int} (hn : 0 < n) : ∃ k : Nat, pkI c n = k ∧ (k : Int) < n := by
  unfold pkI
  split
  · next h =>
    have := kpick_neg h hn
    exact ⟨(-(c + 1).tmod n).toNat, by omega, by omega⟩
  · have h1 := Int.emod_nonneg c (show n ≠ 0 by omega)
    have h2 := Int.emod_lt_of_pos c hn
    exact ⟨(c % n).toNat, by omega, by omega⟩
section
variable {w w' w1 w2 : World} {ab eb : Nat} {F G : Nat → Prop} {fv : Value} {a : LAcc} {p q : GEnd}
theorem GoL.step (hG : ∀ j, G j ↔ LFoot ab F fv j) (hc : Chg (LFoot ab F fv) w w1) (h : GoL w1 w2 ab eb (LFoot ab F fv) a p) : GoL w w2 ab eb G a p := GoL.then (hc.mono fun j _ e => (hG j).2 e) (fun j hj => Or.inl ((hG j).2 hj)) h
theorem LIn.feeds {k f s : Int} {sa : Option Addr} {body : List UInt8} {cap : Nat} (h : LIn w ab eb F fv a p) (hf : FeedR p (lay k f s body) q) (hq : q.m.fault = 0) (hbw : Below w.heap.size w w1) (hk0 : 0 ≤ k) (hk1 : k ≤ 255) (hf0 : 0 ≤ f) (hf1 : f ≤ 255) (hs0 : 0 ≤ s) (hs1 : s ≤ 32767) (hn : body.length ≤ 64) (hb : BytesIn w1 (.slice sa body.length cap) body) :
    Calls Tryz.prog 13 #[.int .i64 k, .int .i64 f, .int .i64 s, .slice sa body.length cap] w1 fun e w' => ∃ v, e = .returned v ∧ Below w1.heap.size w1 w' ∧ ∀ w2, Below w'.heap.size w' w2 → Calls Tryz.prog 16 #[.pointer (some ⟨eb, 0, none⟩), v] w2 fun e w'' => e = .returned (.int .i64 0) ∧ GoL w w'' ab eb (LFoot ab F fv) a q := by
  refine (klay_feed h.st hf hq (h.gl.below hbw) h.ge hbw hk0 hk1 hf0 hf1 hs0 hs1 hn hb).mono ?_
  rintro e w' ⟨v, rfl, h1, h2⟩
  refine ⟨v, rfl, h1, fun w2 hb2 => (h2 w2 hb2).mono ?_⟩
  rintro e w'' ⟨rfl, hgo⟩
  exact ⟨rfl, h.ends (fun j => Iff.rfl) hgo⟩
end
theorem move_cells {w : World} {b : Nat} {K S N : Int} {T : ByteArray} (h : w.heap[b]? = some (.cells #[.int .i64 K, .int .i64 S, .int .i64 N, .string T] 35 (0, 0))) : w.cell? ⟨b, 0, none⟩ = some (.int .i64 K) ∧ w.cell? ⟨b, 1, none⟩ = some (.int .i64 S) ∧ w.cell? ⟨b, 2, none⟩ = some (.int .i64 N) ∧ w.cell? ⟨b, 3, none⟩ = some (.string T) := by
  refine ⟨?_, ?_, ?_, ?_⟩ <;> (rw [cell_of_row _ _ _ _ _ _ h]; rfl)
set_option maxRecDepth 100000 in
set_option maxHeartbeats 6400000 in
theorem lgrants_0 (ab eb : Nat) (G : Nat → Prop) (a : LAcc) (p : GEnd) (K S N : Int) (T : ByteArray) (w : World) (h : LS w ab eb G a p) (hc : LCalm a p) (hN : I64 N) (hKi : I64 K) (hk : pkI K 7 = 0) :
    Calls Tryz.prog 8 #[.pointer (some ⟨ab, 0, none⟩), .agg #[.int .i64 K, .int .i64 S, .int .i64 N, .string T]] w fun e w' => LMoved w w' ab eb G e := by
  obtain ⟨F, fv, hin, hG⟩ := h
  have HP1 := hide (fun wx => kpick_fun N 300 wx (by omega) hN)
  have HP3 := hide (fun wx => kpick_fun N 200 wx (by omega) hN)
  have hp2 := fun wx => kpick_fun K 7 wx (by omega) hKi
  rw [hk] at hp2
  have HP2 := hide hp2
  obtain ⟨n, hn, hn3⟩ := lpk_nat N (n := 300) (by omega)
  obtain ⟨m, hm, hm2⟩ := lpk_nat N (n := 200) (by omega)
  rw [hn] at HP1
  rw [hm] at HP3
  obtain ⟨q, q1, q2, q3, q4, q5⟩ := hc.rel.sets hc.ans (n := m) (by omega)
  obtain ⟨w0, hw0⟩ : ∃ w0, w0 = w.alloc (.cells #[.int .i64 K, .int .i64 S, .int .i64 N, .string T] 35) := ⟨_, rfl⟩
  have hmb0 : w0.heap[w.heap.size]? = some (.cells #[.int .i64 K, .int .i64 S, .int .i64 N, .string T] 35 (0, 0)) := by rw [hw0]; exact heap_alloc_new w _
  have hb0 : Below w.heap.size w w0 := by rw [hw0]; exact (Below.refl _ _).alloc (Nat.le_refl _) _
  have hin0 := hin.below hb0
  obtain ⟨r0, r1, r2, r3⟩ := move_cells hmb0
  have s1 := hin0.ac.c1
  have sf1 := hin0.ac.fr 1
  obtain ⟨W1, hW1⟩ : ∃ W1, W1 = w0.setCell ⟨ab, 1, none⟩ (.int .i64 (m : Int)) := ⟨_, rfl⟩
  have hin1 : LIn W1 ab eb F fv { a with initial := (m : Int) } p := by rw [hW1]; exact hin0.writeA (by simp [LAcc.cells]) rfl
  have hc1 : Chg (LFoot ab F fv) w W1 := by
    rw [hW1]
    exact (Chg.of_below hb0).trans ((LIn.chgA (ab := ab) (F := F) (fv := fv) (w := w0) (j := 1) (v := .int .i64 (m : Int))).mono fun j _ e => Or.inr e)
  have hd1 : Below W1.heap.size W1 W1.drew := Below.drew (Below.refl _ _)
  have HF4 := hide (kfour_any m W1.drew (by omega))
  have HL : Hid (∀ w3 v cap, Below W1.heap.size W1 w3 → BytesIn w3 (.slice v 4 cap) (four4 m) → Calls Tryz.prog 13 #[.int .i64 3, .int .i64 0, .int .i64 0, .slice v 4 cap] w3 fun e w' => ∃ v, e = .returned v ∧ Below w3.heap.size w3 w' ∧ ∀ w2', Below w'.heap.size w' w2' → Calls Tryz.prog 16 #[.pointer (some ⟨eb, 0, none⟩), v] w2' fun e w'' => e = .returned (.int .i64 0) ∧ GoL W1 w'' ab eb (LFoot ab F fv) { a with initial := (m : Int) } q) := fun w3 v cap hb hby =>
    LIn.feeds (w1 := w3) (sa := v) (cap := cap) (body := four4 m) hin1 q1 q2 hb (by omega) (by omega) (by omega) (by omega) (by omega) (by omega) (by simp [four4]) hby
  have HEND : Hid (∀ w4, GoL W1 w4 ab eb (LFoot ab F fv) { a with initial := (m : Int) } q → LMoved w w4 ab eb G (.returned (.bool true))) := fun w4 hg => ⟨rfl, _, q, GoL.step hG hc1 hg, ⟨q3, by rw [q4]; exact hc.out, q5⟩⟩
  have y0 : W1.cell? ⟨ab, 0, none⟩ = some (.pointer (some ⟨eb, 0, none⟩)) := hin1.ac.c0
  have y1 : W1.cell? ⟨ab, 1, none⟩ = some (.int .i64 (m : Int)) := hin1.ac.c1
  have hw300 : IntKind.i64.wrap (1 + (n : Int)) = 1 + (n : Int) := by rw [IntKind.wrap_i64]; omega
  have HX := hide (hin1.ac.below hd1)
  have HW0 := hide hw0
  have HW1 := hide hW1
  have HD2 := hide hd1
  clear hin hG hc q1 q2 q3 q4 q5 hmb0 hb0 hin0 hin1 hc1 hd1 hw0 hW1 hp2 hk hn hm hN hKi
  go_enter Tryz.func8, Tryz.ntmps8
  go_upto_region 1 with fail
  rw [← HW0.out]
  go_wp2_with fail
  refine (HP1.out _).mono ?_
  rintro e w' ⟨rfl, hw'⟩
  rw [hw']
  clear hw' w'
  go_wp2_with fail
  refine (HP2.out _).mono ?_
  rintro e w' ⟨rfl, hw'⟩
  rw [hw']
  clear hw' w'
  go_wp2_with fail
  refine (HP3.out _).mono ?_
  rintro e w' ⟨rfl, hw'⟩
  rw [hw']
  clear hw' w'
  go_upto_region 5 with fail
  rw [← HW1.out]
  clear s1 sf1 r0 r1 r2 r3
  go_region_law (first
    | (refine step_call rfl 14 Tryz.f14 Tryz.func14 (by kernel_rfl) rfl [.tmp 33] #[3] rfl [.int .i64 (m : Int)] (by simp [Act.eval, Act.put]) HF4.out ?_; rintro e w3 ⟨rfl, hby3, hb3⟩; refine ⟨_, rfl, ?_⟩; have hbx3 := HD2.out.trans (hb3.mono HD2.out.size); have HL3 := hide (HL.out w3 _ _ hbx3 hby3); have HX3 := hide (HX.out.below hb3); have z0 : w3.cell? ⟨ab, 0, none⟩ = some (.pointer (some ⟨eb, 0, none⟩)) := (HX.out.below hb3).c0; clear hby3 hb3 hbx3)
    | (refine step_call rfl 13 Tryz.f13 Tryz.func13 (by kernel_rfl) rfl [.const (.int .i64 3), .const (.int .i64 0), .const (.int .i64 0), .tmp 34] #[3, 3, 3, 44] rfl [.int .i64 3, .int .i64 0, .int .i64 0, .slice (some ⟨W1.drew.heap.size, 0, none⟩) 4 4] (by simp [Act.eval, Act.put]) HL3.out ?_; rintro e w4 ⟨v, rfl, hb4, hfd⟩; refine ⟨_, rfl, ?_⟩; have HFD := hide (hfd w4 (Below.refl _ _)); have z0 : w4.cell? ⟨ab, 0, none⟩ = some (.pointer (some ⟨eb, 0, none⟩)) := (HX3.out.below hb4).c0; clear hb4 hfd)
    | (refine step_call rfl 16 Tryz.f16 Tryz.func16 (by kernel_rfl) rfl [.tmp 29, .tmp 35] #[27, 44] rfl [.pointer (some ⟨eb, 0, none⟩), v] (by simp [Act.eval, Act.put]) HFD.out ?_; rintro e w5 ⟨rfl, hgo⟩; refine ⟨_, rfl, ?_⟩; have HGO := hide hgo; clear hgo))
  all_goals go_wp2
  all_goals go_ret
  all_goals exact HEND.out _ HGO.out
end Go.Proofs.YtdccldbefdfppaaGreatDoor
/-
  Ledger: grants of credit.
-/
namespace Go.Proofs.YtdccldbefdfppaaGreatDoor
set_option linter.unusedVariables false
set_option linter.unusedSimpArgs false
open Go.RowKit

set_option maxRecDepth 100000 in
set_option maxHeartbeats 6400000 in
theorem lgrants_big (ab eb : Nat) (G : Nat → Prop) (a : LAcc) (p : GEnd) (K S N : Int) (T : ByteArray) (k : Int) (w : World) (h : LS w ab eb G a p) (hc : LCalm a p) (hN : I64 N) (hKi : I64 K) (hk : pkI K 7 = k) (hk0 : k ≠ 0) (hbig : 1073741824 < a.given) :
    Calls Tryz.prog 8 #[.pointer (some ⟨ab, 0, none⟩), .agg #[.int .i64 K, .int .i64 S, .int .i64 N, .string T]] w fun e w' => LMoved w w' ab eb G e := by
  have hLS := h
  obtain ⟨F, fv, hin, hG⟩ := h
  have HP1 := hide (fun wx => kpick_fun N 300 wx (by omega) hN)
  have hp2 := fun wx => kpick_fun K 7 wx (by omega) hKi
  rw [hk] at hp2
  have HP2 := hide hp2
  obtain ⟨n, hn, hn3⟩ := lpk_nat N (n := 300) (by omega)
  rw [hn] at HP1
  obtain ⟨w0, hw0⟩ : ∃ w0, w0 = w.alloc (.cells #[.int .i64 K, .int .i64 S, .int .i64 N, .string T] 35) := ⟨_, rfl⟩
  have hmb0 : w0.heap[w.heap.size]? = some (.cells #[.int .i64 K, .int .i64 S, .int .i64 N, .string T] 35 (0, 0)) := by rw [hw0]; exact heap_alloc_new w _
  have hb0 : Below w.heap.size w w0 := by rw [hw0]; exact (Below.refl _ _).alloc (Nat.le_refl _) _
  have hin0 := hin.below hb0
  obtain ⟨r0, r1, r2, r3⟩ := move_cells hmb0
  have s4 : w0.cell? ⟨ab, 4, none⟩ = some (.int .i64 a.given) := hin0.ac.c4
  have hkB : (k == 0) = false := by simp [hk0]
  have HEND : Hid (LMoved w w0 ab eb G (.returned (.bool true))) := ⟨rfl, a, p, GoL.of_below hLS hb0, hc.ok⟩
  have hw300 : IntKind.i64.wrap (1 + (n : Int)) = 1 + (n : Int) := by rw [IntKind.wrap_i64]; omega
  have HW0 := hide hw0
  clear hin hG hc hmb0 hb0 hin0 hw0 hp2 hk hn hN hKi hLS hk0
  go_enter Tryz.func8, Tryz.ntmps8
  go_upto_region 1 with fail
  rw [← HW0.out]
  go_wp2_with fail
  refine (HP1.out _).mono ?_
  rintro e w' ⟨rfl, hw'⟩
  rw [hw']
  clear hw' w'
  go_wp2_with fail
  refine (HP2.out _).mono ?_
  rintro e w' ⟨rfl, hw'⟩
  rw [hw']
  clear hw' w'
  go_wp2
  go_ret
  exact HEND.out
set_option maxRecDepth 100000 in
set_option maxHeartbeats 6400000 in
theorem lgrants_1 (ab eb : Nat) (G : Nat → Prop) (a : LAcc) (p : GEnd) (K S N : Int) (T : ByteArray) (w : World) (h : LS w ab eb G a p) (hc : LCalm a p) (hN : I64 N) (hKi : I64 K) (hk : pkI K 7 = 1) (hbig : a.given ≤ 1073741824) :
    Calls Tryz.prog 8 #[.pointer (some ⟨ab, 0, none⟩), .agg #[.int .i64 K, .int .i64 S, .int .i64 N, .string T]] w fun e w' => LMoved w w' ab eb G e := by
  obtain ⟨F, fv, hin, hG⟩ := h
  have HP1 := hide (fun wx => kpick_fun N 300 wx (by omega) hN)
  have hp2 := fun wx => kpick_fun K 7 wx (by omega) hKi
  rw [hk] at hp2
  have HP2 := hide hp2
  obtain ⟨n, hn, hn3⟩ := lpk_nat N (n := 300) (by omega)
  rw [hn] at HP1
  obtain ⟨m, hm⟩ : ∃ m, m = n + 1 := ⟨_, rfl⟩
  have hbd := hc.rel.bd
  obtain ⟨q, q1, q2, q3, q4, q5⟩ := hc.rel.cred0 (n := m) (by omega) (by omega) (by omega)
  obtain ⟨w0, hw0⟩ : ∃ w0, w0 = w.alloc (.cells #[.int .i64 K, .int .i64 S, .int .i64 N, .string T] 35) := ⟨_, rfl⟩
  have hmb0 : w0.heap[w.heap.size]? = some (.cells #[.int .i64 K, .int .i64 S, .int .i64 N, .string T] 35 (0, 0)) := by rw [hw0]; exact heap_alloc_new w _
  have hb0 : Below w.heap.size w w0 := by rw [hw0]; exact (Below.refl _ _).alloc (Nat.le_refl _) _
  have hin0 := hin.below hb0
  obtain ⟨r0, r1, r2, r3⟩ := move_cells hmb0
  have s4 : w0.cell? ⟨ab, 4, none⟩ = some (.int .i64 a.given) := hin0.ac.c4
  have sf4 := hin0.ac.fr 4
  obtain ⟨W1, hW1⟩ : ∃ W1, W1 = w0.setCell ⟨ab, 4, none⟩ (.int .i64 (a.given + (m : Int))) := ⟨_, rfl⟩
  have hin1 : LIn W1 ab eb F fv { a with given := a.given + (m : Int) } p := by rw [hW1]; exact hin0.writeA (by simp [LAcc.cells]) rfl
  have s2 : W1.cell? ⟨ab, 2, none⟩ = some (.int .i64 a.credit) := hin1.ac.c2
  have sf2 := hin1.ac.fr 2
  obtain ⟨W2, hW2⟩ : ∃ W2, W2 = W1.setCell ⟨ab, 2, none⟩ (.int .i64 (a.credit + (m : Int))) := ⟨_, rfl⟩
  have hin2 : LIn W2 ab eb F fv { a with given := a.given + (m : Int), credit := a.credit + (m : Int) } p := by rw [hW2]; exact hin1.writeA (by simp [LAcc.cells]) rfl
  have hc2 : Chg (LFoot ab F fv) w W2 := by
    rw [hW2, hW1]
    exact chg_set (chg_set (Chg.of_below hb0) (Or.inl rfl)) (Or.inl rfl)
  have hd1 : Below W2.heap.size W2 W2.drew := Below.drew (Below.refl _ _)
  have HF4 := hide (kfour_any m W2.drew (by omega))
  have HL : Hid (∀ w3 v cap, Below W2.heap.size W2 w3 → BytesIn w3 (.slice v 4 cap) (four4 m) → Calls Tryz.prog 13 #[.int .i64 6, .int .i64 0, .int .i64 0, .slice v 4 cap] w3 fun e w' => ∃ v, e = .returned v ∧ Below w3.heap.size w3 w' ∧ ∀ w2', Below w'.heap.size w' w2' → Calls Tryz.prog 16 #[.pointer (some ⟨eb, 0, none⟩), v] w2' fun e w'' => e = .returned (.int .i64 0) ∧ GoL W2 w'' ab eb (LFoot ab F fv) { a with given := a.given + (m : Int), credit := a.credit + (m : Int) } q) := fun w3 v cap hb hby =>
    LIn.feeds (w1 := w3) (sa := v) (cap := cap) (body := four4 m) hin2 q1 q2 hb (by omega) (by omega) (by omega) (by omega) (by omega) (by omega) (by simp [four4]) hby
  have HEND : Hid (∀ w4, GoL W2 w4 ab eb (LFoot ab F fv) { a with given := a.given + (m : Int), credit := a.credit + (m : Int) } q → LMoved w w4 ab eb G (.returned (.bool true))) := fun w4 hg => ⟨rfl, _, q, GoL.step hG hc2 hg, ⟨q3, by rw [q4]; exact hc.out, by rw [q5, hc.ans]; decide⟩⟩
  have y0 : W2.cell? ⟨ab, 0, none⟩ = some (.pointer (some ⟨eb, 0, none⟩)) := hin2.ac.c0
  have b1 := hbd.gv
  have b2 := hbd.cr
  have hw300 : IntKind.i64.wrap (1 + (n : Int)) = (m : Int) := by rw [IntKind.wrap_i64]; omega
  have hwg : IntKind.i64.wrap (a.given + (m : Int)) = a.given + (m : Int) := by rw [IntKind.wrap_i64]; omega
  have hwc : IntKind.i64.wrap (a.credit + (m : Int)) = a.credit + (m : Int) := by rw [IntKind.wrap_i64]; omega
  have hbg : ((1073741824 : Int) < a.given) = False := eq_false (by omega)
  have HX := hide (hin2.ac.below hd1)
  have HW0 := hide hw0
  have HW1 := hide hW1
  have HW2 := hide hW2
  have HD2 := hide hd1
  clear hin hG hc q1 q2 q3 q4 q5 hmb0 hb0 hin0 hin1 hin2 hc2 hd1 hw0 hW1 hW2 hp2 hk hn hm hN hKi hbd b1 b2 hbig
  generalize a.given = gv at *
  generalize a.credit = cr at *
  go_enter Tryz.func8, Tryz.ntmps8
  go_upto_region 1 with fail
  rw [← HW0.out]
  go_wp2_with fail
  refine (HP1.out _).mono ?_
  rintro e w' ⟨rfl, hw'⟩
  rw [hw']
  clear hw' w'
  go_wp2_with fail
  refine (HP2.out _).mono ?_
  rintro e w' ⟨rfl, hw'⟩
  rw [hw']
  clear hw' w'
  go_upto_region 10 with fail
  rw [← HW1.out]
  clear s4 sf4 r0 r1 r2 r3
  go_upto_region 12 with fail
  rw [← HW2.out]
  clear s2 sf2
  go_region_law (first
    | (refine step_call rfl 14 Tryz.f14 Tryz.func14 (by kernel_rfl) rfl [.tmp 68] #[3] rfl [.int .i64 (m : Int)] (by simp [Act.eval, Act.put]) HF4.out ?_; rintro e w3 ⟨rfl, hby3, hb3⟩; refine ⟨_, rfl, ?_⟩; have hbx3 := HD2.out.trans (hb3.mono HD2.out.size); have HL3 := hide (HL.out w3 _ _ hbx3 hby3); have HX3 := hide (HX.out.below hb3); have z0 : w3.cell? ⟨ab, 0, none⟩ = some (.pointer (some ⟨eb, 0, none⟩)) := (HX.out.below hb3).c0; clear hby3 hb3 hbx3)
    | (refine step_call rfl 13 Tryz.f13 Tryz.func13 (by kernel_rfl) rfl [.const (.int .i64 6), .const (.int .i64 0), .const (.int .i64 0), .tmp 69] #[3, 3, 3, 44] rfl [.int .i64 6, .int .i64 0, .int .i64 0, .slice (some ⟨W2.drew.heap.size, 0, none⟩) 4 4] (by simp [Act.eval, Act.put]) HL3.out ?_; rintro e w4 ⟨v, rfl, hb4, hfd⟩; refine ⟨_, rfl, ?_⟩; have HFD := hide (hfd w4 (Below.refl _ _)); have z0 : w4.cell? ⟨ab, 0, none⟩ = some (.pointer (some ⟨eb, 0, none⟩)) := (HX3.out.below hb4).c0; clear hb4 hfd)
    | (refine step_call rfl 16 Tryz.f16 Tryz.func16 (by kernel_rfl) rfl [.tmp 67, .tmp 70] #[27, 44] rfl [.pointer (some ⟨eb, 0, none⟩), v] (by simp [Act.eval, Act.put]) HFD.out ?_; rintro e w5 ⟨rfl, hgo⟩; refine ⟨_, rfl, ?_⟩; have HGO := hide hgo; clear hgo))
  all_goals go_wp2
  all_goals go_ret
  all_goals exact HEND.out _ HGO.out
end Go.Proofs.YtdccldbefdfppaaGreatDoor
