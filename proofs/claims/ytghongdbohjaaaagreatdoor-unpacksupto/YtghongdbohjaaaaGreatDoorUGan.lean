import Derived.Test.YtghongdbohjaaaaGreatDoorUGam
import Derived.Test.YtghongdbohjaaaaGreatDoorUGag
import Derived.Test.YtghongdbohjaaaaGreatDoorUGac
import Derived.Test.YtghongdbohjaaaaGreatDoorUGah
import Derived.Test.YtghongdbohjaaaaGreatDoorUGab
import Derived.Test.YtghongdbohjaaaaGreatDoorUGaa
import Derived.Test.YtghongdbohjaaaaGreatDoorUGaf
import Derived.Test.YtghongdbohjaaaaGreatDoorUGad
import Derived.Test.YtghongdbohjaaaaGreatDoorUGal
import Derived.Defers
import Derived.Recover
import Derived.Deep.MidRow
set_option linter.unusedVariables false
set_option linter.unusedSimpArgs false
/-
  Package sluice: NewUnpacker, Unpack (where there is a list), the sizes.
-/
namespace Go.Proofs.YtghongdbohjaaaaGreatDoor
set_option linter.unusedVariables false
set_option linter.unusedSimpArgs false
open Go.RowKit

/-- An unpacker that is not broken. -/
structure UpS (w : World) (ub : Nat) (cs : Array Value) (tv : Value) (u : Up) : Prop where
  st : TbS w ub cs 193 u.lim tv u.tab
  c3 : cs[3]? = some (.int .i64 (u.most : Int))
  c4 : cs[4]? = some (.bool false)
  most : u.most ≤ 256
theorem UpS.chg {S : Nat → Prop} {w w' : World} {ub : Nat} {cs : Array Value} {tv : Value} {u : Up} (h : UpS w ub cs tv u) (hc : Chg S w w') (h1 : ¬ S ub) (h2 : ∀ j, tv.ownBlock = some j → ¬ S j) : UpS w' ub cs tv u := ⟨h.st.chg hc h1 h2, h.c3, h.c4, h.most⟩

def newUs (n : Nat) : Array Value := #[.int .i64 (n : Int), .int .i64 0, .slice none 0 0, .int .i64 (n : Int), .bool false]
set_option maxRecDepth 100000 in
set_option maxHeartbeats 400000 in
theorem bNewUnpacker_any (n : Int) (w : World) : Calls Tryz.prog 85 #[.int .i64 n] w fun e w' => e = .returned (.agg #[.int .i64 n, .int .i64 0, .slice none 0 0, .int .i64 n]) ∧ Below w.heap.size w w' := by
  go_enter Tryz.func85, Tryz.ntmps85
  go_wp2
  refine bodyPost_ret (v := .agg #[.int .i64 n, .int .i64 0, .slice none 0 0, .int .i64 n]) ?_ rfl ⟨rfl, ?_⟩
  · simp [results, Tryz.results85, go_sem]
  · exact (Below.refl _ _).alloc (Nat.le_refl _) _
set_option maxRecDepth 100000 in
set_option maxHeartbeats 800000 in
theorem newUnpacker_ok (n : Nat) (w : World) (hn : n ≤ 256) : Calls Tryz.prog 43 #[.int .i64 n] w fun e w' => ∃ pb, e = .returned (.tuple #[.pointer (some ⟨pb, 0, none⟩), .int .i64 0]) ∧ w.heap.size ≤ pb ∧ Below w.heap.size w w' ∧ UpS w' pb (newUs n) (.slice none 0 0) ⟨n, [], n⟩ := by
  have hlf := limitFits_any (n : Int) w
  have hlb : limB (n : Int) = true := by simp [limB]; omega
  rw [hlb] at hlf
  have HLF := hide hlf
  have HNP := hide (fun wx => bNewUnpacker_any (n : Int) wx)
  clear hlf hlb
  go_enter Tryz.func43, Tryz.ntmps43
  go_wp2_with fail
  refine HLF.out.mono ?_
  rintro e w1 ⟨rfl, hw1⟩
  rw [hw1]
  clear hw1 w1
  go_wp2_with fail
  refine (HNP.out _).mono ?_
  rintro e w1 ⟨rfl, hb1⟩
  have HB1 := hide hb1
  clear hb1
  go_wp2
  refine bodyPost_ret (v := .tuple #[.pointer (some ⟨w1.heap.size, 0, none⟩), .int .i64 0]) ?_ rfl ⟨w1.heap.size, rfl, HB1.out.size, HB1.out.trans (((Below.refl _ _).alloc (Nat.le_refl _) _).mono HB1.out.size), ?_⟩
  · simp [results, Tryz.results43, go_sem]
  · exact ⟨⟨⟨heap_alloc_new w1 _, rfl, rfl, rfl, by decide⟩, World.ownsRow_nil _ _ _ _, Nat.zero_le _, hn⟩, rfl, rfl, hn⟩

set_option maxRecDepth 100000 in
set_option maxHeartbeats 400000 in
theorem bUSize_any (pb : Nat) (cs : Array Value) (tP : TypeId) (lim : Nat) (tv : Value) (tab : List HP) (w : World) (h : TbS w pb cs tP lim tv tab) : Calls Tryz.prog 86 #[.pointer (some ⟨pb, 0, none⟩)] w fun e w' => e = .returned (.int .i64 (szT tab : Int)) ∧ w' = w := by
  obtain ⟨-, z1, -⟩ := h.tb.cells
  clear h
  go_enter Tryz.func86, Tryz.ntmps86
  go_wp2
  go_ret
  exact ⟨rfl, rfl⟩
set_option maxRecDepth 100000 in
set_option maxHeartbeats 400000 in
theorem usize_any (pb : Nat) (cs : Array Value) (tP : TypeId) (lim : Nat) (tv : Value) (tab : List HP) (w : World) (h : TbS w pb cs tP lim tv tab) : Calls Tryz.prog 45 #[.pointer (some ⟨pb, 0, none⟩)] w fun e w' => e = .returned (.int .i64 (szT tab : Int)) ∧ w' = w := by
  have H := hide (bUSize_any pb cs tP lim tv tab w h)
  clear h
  go_enter Tryz.func45, Tryz.ntmps45
  go_wp2_with fail
  refine H.out.mono ?_
  rintro e w1 ⟨rfl, hw1⟩
  rw [hw1]
  clear hw1 w1
  go_wp2
  go_ret
  exact ⟨rfl, rfl⟩

set_option maxRecDepth 100000 in
set_option maxHeartbeats 400000 in
theorem uclos_idle (fa ra : Nat) (w : World) :
    CallsD Tryz.prog 87 #[.pointer (some ⟨fa, 0, none⟩), .pointer (some ⟨ra, 0, none⟩)] .returning w fun e u' w' => e = .returned (.tuple #[]) ∧ u' = .returning ∧ w' = w := by
  refine callsD_of_wpS Tryz.func87 rfl fun c₀ cs hu => ?_
  apply wpS_seq
  apply wpS_region
  simp [wpOpsS, go_sem, recoverD, hu, Tryz.ntmps87, Exit.thenS]
  refine wpS_of_wp ?_
  change Code.wp Tryz.prog _ _ ⟨#[.pointer (some ⟨fa, 0, none⟩), .pointer (some ⟨ra, 0, none⟩), .nilIface, .nilIface, undef, undef, undef, undef, undef, undef, undef], []⟩ w
  go_wp2
  cases c₀
  simp_all [bodyPostS, results, Tryz.results87]

theorem Unpd.out {w wA w1 : World} {ub : Nat} {cs cs' : Array Value} {tP : TypeId} {lim : Nat} {tv tv' : Value} {tab : List HP} {lv : Value} {hs : List HP} (h : Unpd wA w1 ub cs cs' tP lim tv tv' tab lv hs) (hb : Below w.heap.size w wA) {b : Nat} {bs : Array Value} {t : TypeId} {f : Nat × Nat} (hx : w1.heap[b]? = some (.cells bs t f)) (ht : t ≠ 62) (hbw : w.heap.size ≤ b) (hub : ub < w.heap.size) (u : Value) : Unpd w (w1.setCell ⟨b, 0, none⟩ u) ub cs cs' tP lim tv tv' tab lv hs := by
  have hc : Chg (fun j => j = b) w1 (w1.setCell ⟨b, 0, none⟩ u) := (Chg.refl (fun j => j = b) w1).setCell (p := ⟨b, 0, none⟩) (Or.inr rfl) _
  refine ⟨h.st.chg hc (by omega) (fun j hj e => owns_ne h.st.row hx (fun e => ht e.symm) (e ▸ hj)), h.cs3, ((Chg.of_below hb).trans (h.chg.mono fun j _ e => Or.inr e)).trans (hc.mono fun j _ e => Or.inl (by omega)), fun j hj => (h.tfresh j hj).imp_right fun e => Nat.le_trans hb.size e, owns_base (owns_chg h.row hc (fun j hj e => owns_ne h.row hx (fun e => ht e.symm) (e ▸ hj))) (fun j hj => Nat.le_trans hb.size (h.row.lt j hj).1), h.ap⟩

set_option maxRecDepth 100000 in
set_option maxHeartbeats 800000 in
theorem unpack_ok (ub : Nat) (cs : Array Value) (tv : Value) (u : Up) (bv : Value) (b : List UInt8) (hs : List HP) (lim' : Nat) (tab' : List HP) (w : World) (hgl : Gl w) (h : UpS w ub cs tv u) (hb : BytesIn w bv b) (hbu : bv.ownBlock ≠ some ub) (hbt : ∀ j, bv.ownBlock = some j → tv.ownBlock ≠ some j) (hl : b.length ≤ 134217728) (hub : 7 ≤ ub) (htv : ∀ j, tv.ownBlock = some j → 7 ≤ j) (hq : u.unpack b = some (hs, lim', tab')) :
    Calls Tryz.prog 47 #[.pointer (some ⟨ub, 0, none⟩), bv] w fun e w' => ∃ lv cs' tv', e = .returned (.tuple #[lv, .int .i64 0]) ∧ Unpd w w' ub cs cs' 193 lim' tv tv' tab' lv hs := by
  have hbA : Below w.heap.size w ((w.alloc (.cells #[.pointer (some ⟨ub, 0, none⟩)] 120)).alloc (.cells #[.int .i64 0] 83)) := ((Below.refl _ _).alloc (Nat.le_refl _) _).alloc (by simp) _
  have hA : ((w.alloc (.cells #[.pointer (some ⟨ub, 0, none⟩)] 120)).alloc (.cells #[.int .i64 0] 83)).heap[w.heap.size]? = some (.cells #[.pointer (some ⟨ub, 0, none⟩)] 120 (0, 0)) := by
    rw [Below.heap_alloc _ _ _ (by simp)]; exact heap_alloc_new w _
  have hB : ((w.alloc (.cells #[.pointer (some ⟨ub, 0, none⟩)] 120)).alloc (.cells #[.int .i64 0] 83)).heap[w.heap.size + 1]? = some (.cells #[.int .i64 0] 83 (0, 0)) := by
    have := heap_alloc_new (w.alloc (.cells #[.pointer (some ⟨ub, 0, none⟩)] 120)) (.cells #[.int .i64 0] 83)
    simpa using this
  have hst := h.st.below hbA
  have hun := bUnpack_ok ub cs 193 u.lim tv u.tab u.most bv b hs lim' tab' _ (hgl.below hbA) hst h.c3 h.most (hb.chg (Chg.of_below (S := fun _ => False) hbA) (fun _ _ => id)) hbu hbt hl hub htv (by decide) hq
  have c4 : ((w.alloc (.cells #[.pointer (some ⟨ub, 0, none⟩)] 120)).alloc (.cells #[.int .i64 0] 83)).cell? ⟨ub, 4, none⟩ = some (.bool false) := by rw [cell_of_row _ _ _ _ _ _ hst.tb.blk]; exact h.c4
  have hbw := lt_of_block h.st.tb.blk
  have htw : ∀ j, tv.ownBlock = some j → j < w.heap.size := fun j hj => owns_lt h.st.row hj
  obtain ⟨sv, cv, hv, _⟩ := bytesIn_len hb
  subst hv
  have HUN := hide hun
  have HBA := hide hbA
  have HA := hide hA
  have HB := hide hB
  have HTW := hide htw
  clear hun hbA hA hB hgl h hb hbu hbt htv hq hst htw
  go_enter_defers Tryz.func47, Tryz.ntmps47
  go_wp2_with fail
  refine HUN.out.mono ?_
  rintro e w1 ⟨lv, cs1, tv1, rfl, h1⟩
  have hB1 : w1.heap[w.heap.size + 1]? = some (.cells #[.int .i64 0] 83 (0, 0)) := by
    rw [h1.chg.block _ (lt_of_block HB.out) (by rintro (e | e); omega; have := HTW.out _ e; omega)]; exact HB.out
  have c0 := cell_of_one hB1
  have f0 := free_of_one hB1
  have H1 := hide h1
  have HB1 := hide hB1
  clear h1 hB1
  go_wp2
  refine leaves_cons (f := 87) (args := #[.pointer (some ⟨w.heap.size + 1, 0, none⟩), .pointer (some ⟨w.heap.size, 0, none⟩)]) (by simp) (by simp [go_sem]) ?_
  refine (uclos_idle (w.heap.size + 1) w.heap.size _).mono ?_
  rintro e u' w'' ⟨rfl, rfl, rfl⟩
  refine ⟨.tuple #[lv, .int .i64 0], ?_, ?_⟩
  · simp [results, Tryz.results47, go_sem, c0]
  · exact ⟨lv, cs1, tv1, rfl, H1.out.out HBA.out HB1.out (by decide) (by omega) hbw _⟩

end Go.Proofs.YtghongdbohjaaaaGreatDoor
/-
  sluicelaw: sameHeads, allHeads, markHead.
-/
namespace Go.Proofs.YtghongdbohjaaaaGreatDoor
set_option linter.unusedVariables false
set_option linter.unusedSimpArgs false
open Go.RowKit

theorem hp_hd (l : List HP) : hpCells l = hdCells l := by
  induction l with
  | nil => rfl
  | cons h r ih => simp [hpCells, hdCells, ih]

set_option maxRecDepth 100000 in
set_option maxHeartbeats 800000 in
theorem lsameHeads_eq (a b : Value) (hs : List HP) (w : World) (ha : HsIn w a hs) (hb : HsIn w b hs) (hl : hs.length ≤ 16) :
    Calls Tryz.prog 49 #[a, b] w fun e w' => e = .returned (.bool true) ∧ Below w.heap.size w w' := by
  obtain ⟨sa, ca, hav⟩ := ha.len
  obtain ⟨sb, cb, hbv⟩ := hb.len
  subst hav
  subst hbv
  have HA := hide ha
  have HB := hide hb
  clear ha hb
  go_enter Tryz.func49, Tryz.ntmps49
  go_wp2
  go_loopw [5] (fun i wr => ∃ k : Nat, i = .int .i64 (k : Int) ∧ k ≤ hs.length ∧ Below w.heap.size w wr) (fun i _ => hs.length - (intOf i).toNat)
  case atStart => exact ⟨0, rfl, Nat.zero_le _, Below.refl _ _⟩
  case round =>
    obtain ⟨k, rfl, hk, hbel⟩ := hrel
    by_cases hlt : k < hs.length
    · have ha := HA.out.chg (Chg.of_below (S := fun _ => False) hbel) (fun _ _ => id)
      have hb := HB.out.chg (Chg.of_below (S := fun _ => False) hbel) (fun _ _ => id)
      rcases ha with ⟨_, h0⟩ | ⟨ba, oa, ca', hva, _, ha⟩
      · rw [h0] at hlt; simp at hlt
      rcases hb with ⟨_, h0⟩ | ⟨bb, ob, cb', hvb, _, hb⟩
      · rw [h0] at hlt; simp at hlt
      simp only [Value.slice.injEq] at hva hvb
      obtain ⟨rfl, _, rfl⟩ := hva
      obtain ⟨rfl, _, rfl⟩ := hvb
      obtain ⟨a0, a1⟩ := ha k hlt
      obtain ⟨b0, b1⟩ := hb k hlt
      generalize hs[k] = x at a0 a1 b0 b1
      obtain ⟨xn, xv⟩ := x
      simp only at a0 a1 b0 b1
      have HBE := hide hbel
      clear ha hb hbel
      go_wp2
      go_quiet (fail)
      all_goals go_wp2
      all_goals go_roundw
      case rel => exact ⟨k + 1, by go_num, by omega, HBE.out.os, HBE.out.tape, HBE.out.output, HBE.out.size, HBE.out.block⟩
      case measure => simp [intOf]; omega
    · have HBE := hide hbel
      have hke : k = hs.length := by omega
      clear hbel
      go_wp2
      go_ret
      exact ⟨rfl, HBE.out⟩

/-- Pairs that are all the mark. -/
def fillH (n v : ByteArray) : Nat → List Value
  | 0 => []
  | k + 1 => .string n :: .string v :: fillH n v k
theorem fillH_length (n v : ByteArray) (k : Nat) : (fillH n v k).length = k * 2 := by
  induction k with
  | zero => rfl
  | succ k ih => simp [fillH, ih]; omega
theorem fillH_get (n v : ByteArray) {m k : Nat} (h : k < m) : (fillH n v m)[k * 2]? = some (.string n) ∧ (fillH n v m)[k * 2 + 1]? = some (.string v) := by
  induction m generalizing k with
  | zero => omega
  | succ m ih =>
    cases k with
    | zero => simp [fillH]
    | succ k =>
      have := ih (k := k) (by omega)
      rw [Nat.succ_mul]
      simpa [fillH, Nat.add_assoc] using this
theorem fillH_add (n v : ByteArray) (a b : Nat) : fillH n v (a + b) = fillH n v a ++ fillH n v b := by
  induction a with
  | zero => simp [fillH]
  | succ a ih => rw [Nat.succ_add]; simp [fillH, ih]

set_option maxRecDepth 100000 in
set_option maxHeartbeats 1600000 in
theorem allHeads_true (v : Value) (mn mv : ByteArray) (n : Nat) (w : World) (h : w.ownsRow 0 62 2 v n (fillH mn mv n)) (hn : n ≤ 4294967296) :
    Calls Tryz.prog 17 #[v, .agg #[.string mn, .string mv]] w fun e w' => e = .returned (.bool true) ∧ Below w.heap.size w w' := by
  obtain ⟨sv, cv, rfl⟩ := slice_len h
  have hb0 : Below w.heap.size w (w.alloc (.cells #[.string mn, .string mv] 62)) := (Below.refl _ _).alloc (Nat.le_refl _) _
  have hx0 := heap_alloc_new w (.cells #[.string mn, .string mv] 62)
  have HX0 := hide hx0
  have HB0 := hide hb0
  have H := hide h
  clear h hb0 hx0
  go_enter Tryz.func17, Tryz.ntmps17
  go_wp2
  go_loopw [5] (fun i wr => ∃ k : Nat, k ≤ n ∧ i = .int .i64 k ∧ Below w.heap.size w wr ∧ wr.heap[w.heap.size]? = some (.cells #[.string mn, .string mv] 62 (0, 0))) (fun i _ => n - (intOf i).toNat)
  case atStart => exact ⟨0, Nat.zero_le _, rfl, HB0.out, HX0.out⟩
  case round =>
    obtain ⟨k, hk, rfl, hbel, hx⟩ := hrel
    obtain ⟨m0, m1⟩ := pair_blk hx
    have HBE := hide hbel
    have HX := hide hx
    clear hbel hx
    by_cases hlt : k < n
    · obtain ⟨g, hg, hcv⟩ := slice_some H.out (by omega)
      subst hg
      have hgl : g < w.heap.size := owns_lt H.out rfl
      obtain ⟨e0, e1⟩ := fillH_get mn mv hlt
      have c0 : wr.cell? ⟨g, k * 2, none⟩ = some (.string mn) := (HBE.out.cell (p := ⟨g, k * 2, none⟩) hgl).trans (by rw [H.out.cellAt _ (by omega)]; exact e0)
      have c1 : wr.cell? ⟨g, k * 2 + 1, none⟩ = some (.string mv) := (HBE.out.cell (p := ⟨g, k * 2 + 1, none⟩) hgl).trans (by rw [H.out.cellAt _ (by omega)]; exact e1)
      clear e0 e1 H
      go_wp2
      go_quiet (fail)
      all_goals go_wp2
      all_goals go_roundw
      case rel => exact ⟨k + 1, by omega, by go_num, ⟨HBE.out.os, HBE.out.tape, HBE.out.output, HBE.out.size, HBE.out.block⟩, HX.out⟩
      case measure => simp [intOf]; omega
    · go_wp2
      go_ret
      exact ⟨rfl, HBE.out⟩

/-- The mark's value: three bytes of its number. -/
def markV (n : Nat) : ByteArray := ⟨#[UInt8.ofNat n, UInt8.ofNat (n / 256), UInt8.ofNat (n / 65536)]⟩
def markN : ByteArray := ⟨#[109, 97, 114, 107]⟩
set_option maxRecDepth 100000 in
set_option maxHeartbeats 1600000 in
theorem markHead_any (n : Nat) (w : World) (hn : n ≤ 1073741824) :
    Calls Tryz.prog 91 #[.int .i64 n] w fun e w' => e = .returned (.agg #[.string markN, .string (markV n)]) ∧ Below w.heap.size w w' := by
  obtain ⟨w2, hw2⟩ : ∃ w2, w2 = (w.alloc (.cells #[.string ⟨#[]⟩, .string ⟨#[]⟩] 62)).alloc (.cells #[.int .u8 ((n : Int) % 256), .int .u8 ((n : Int) / 256 % 256), .int .u8 ((n : Int) / 65536 % 256)] 5) := ⟨_, rfl⟩
  have hx2 : w2.heap[w.heap.size + 1]? = some (.cells #[.int .u8 ((n : Int) % 256), .int .u8 ((n : Int) / 256 % 256), .int .u8 ((n : Int) / 65536 % 256)] 5 (0, 0)) := by
    have := heap_alloc_new (w.alloc (.cells #[.string ⟨#[]⟩, .string ⟨#[]⟩] 62)) (.cells #[.int .u8 ((n : Int) % 256), .int .u8 ((n : Int) / 256 % 256), .int .u8 ((n : Int) / 65536 % 256)] 5)
    rw [World.size_alloc] at this
    rw [hw2]; exact this
  have hb2 : Below w.heap.size w w2 := by rw [hw2]; exact ((Below.refl _ _).alloc (Nat.le_refl _) _).alloc (by simp) _
  have hr2 : w2.heap[w.heap.size]? = some (.cells #[.string ⟨#[]⟩, .string ⟨#[]⟩] 62 (0, 0)) := by
    rw [hw2, Below.heap_alloc _ _ _ (by simp)]; exact heap_alloc_new w _
  have hby : BytesIn w2 (.slice (some ⟨w.heap.size + 1, 0, none⟩) 3 3) [UInt8.ofNat n, UInt8.ofNat (n / 256), UInt8.ofNat (n / 65536)] := by
    refine Or.inr ⟨w.heap.size + 1, 0, 3, rfl, lt_of_block hx2, by simp, fun i hi => ?_⟩
    have hi' : i < 3 := by simpa using hi
    rw [cell_of_row w2 _ _ _ _ _ hx2]
    have hu : ∀ x : Nat, ((UInt8.ofNat x).toNat : Int) = (x : Int) % 256 := fun x => by simp
    match i, hi' with
    | 0, _ => simp [hu]
    | 1, _ => simp [hu]
    | 2, _ => simp [hu]
  have hcv := conv_bytes hby
  have hcs : Chg (fun j => j = w.heap.size) w2 ((w2.setCell ⟨w.heap.size, 0, none⟩ (.string markN)).setCell ⟨w.heap.size, 1, none⟩ (.string (markV n))) := ((Chg.refl (fun j => j = w.heap.size) w2).setCell (p := ⟨w.heap.size, 0, none⟩) (Or.inr rfl) _).setCell (p := ⟨w.heap.size, 1, none⟩) (Or.inr rfl) _
  have HBE := hide (below_of_chg hb2 hcs (fun j e => by omega))
  obtain ⟨z0, z1⟩ := pair_blk hr2
  have rf : ∀ o, w2.frozen? ⟨w.heap.size, o, none⟩ = false := fun o => by simp [World.frozen?, hr2]
  have rf0 := rf 0
  have rf1 := rf 1
  obtain ⟨y0, y1⟩ := pair_blk (v0 := .string markN) (v1 := .string (markV n)) (block_setCell (i := 1) (u := .string (markV n)) (block_setCell (i := 0) (u := .string markN) hr2))
  have hmv : (⟨[UInt8.ofNat n, UInt8.ofNat (n / 256), UInt8.ofNat (n / 65536)].toArray⟩ : ByteArray) = markV n := rfl
  rw [hmv] at hcv
  generalize markV n = MV at *
  clear hby hx2 hb2 hr2 hcs rf hmv
  go_enter Tryz.func91, Tryz.ntmps91
  go_wp2_with fail
  rw [← hw2]
  clear hw2
  rw [hcv]
  go_wp2
  refine bodyPost_ret (v := .agg #[.string markN, .string MV]) ?_ rfl ⟨rfl, HBE.out⟩
  unfold markN at y0 y1 ⊢
  simp [results, Tryz.results91, go_sem, y0, y1]
end Go.Proofs.YtghongdbohjaaaaGreatDoor
/-
  (*sluicelaw.Books).keepHeads.
-/
namespace Go.Proofs.YtghongdbohjaaaaGreatDoor
set_option linter.unusedVariables false
set_option linter.unusedSimpArgs false
open Go.RowKit

theorem Tryz.info72 : (Tryz.prog.info? 72).map (fun i => (i.zero, i.size, i.bytes)) = some (some (.agg #[.slice none 0 0, .slice none 0 0, .slice none 0 0, .slice none 0 0, .string ⟨#[]⟩, .string ⟨#[]⟩]), 6, 128) := by kernel_rfl

/-- A list of pairs that is kept, and what was appended to it. -/
structure HRec where
  l : Value
  a : Value
  b : Value
  c : Value
  n : Nat
  len : Nat
def hrCells : List HRec → List Value
  | [] => []
  | r :: t => r.l :: r.a :: r.b :: r.c :: .string markN :: .string (markV r.n) :: hrCells t
theorem hrCells_length (rs : List HRec) : (hrCells rs).length = rs.length * 6 := by
  induction rs with
  | nil => rfl
  | cons p r ih => simp [hrCells, ih]; omega
theorem hrCells_append (a b : List HRec) : hrCells (a ++ b) = hrCells a ++ hrCells b := by
  induction a with
  | nil => rfl
  | cons p r ih => simp [hrCells, ih]
theorem hrCells_get {rs : List HRec} {k : Nat} (h : k < rs.length) : (hrCells rs)[k * 6]? = some rs[k].l ∧ (hrCells rs)[k * 6 + 1]? = some rs[k].a ∧ (hrCells rs)[k * 6 + 2]? = some rs[k].b ∧ (hrCells rs)[k * 6 + 3]? = some rs[k].c ∧ (hrCells rs)[k * 6 + 4]? = some (.string markN) ∧ (hrCells rs)[k * 6 + 5]? = some (.string (markV rs[k].n)) := by
  induction rs generalizing k with
  | nil => simp at h
  | cons p r ih =>
    cases k with
    | zero => simp [hrCells]
    | succ k =>
      simp only [List.length_cons] at h
      have := ih (k := k) (by omega)
      rw [Nat.succ_mul]
      simpa [hrCells, Nat.add_assoc] using this
structure FamH (w : World) (r : HRec) : Prop where
  l : w.ownsRow 0 62 2 r.l r.len (fillH markN (markV r.n) r.len)
  a : w.ownsRow 0 62 2 r.a (r.len + 1) (fillH markN (markV r.n) (r.len + 1))
  b : w.ownsRow 0 62 2 r.b (r.len + 2) (fillH markN (markV r.n) (r.len + 2))
  c : w.ownsRow 0 62 2 r.c (r.len + 3) (fillH markN (markV r.n) (r.len + 3))
theorem FamH.chg {S : Nat → Prop} {w w' : World} {r : HRec} (h : FamH w r) (hc : Chg S w w') (hs : ∀ v ∈ [r.l, r.a, r.b, r.c], ∀ k, v.ownBlock = some k → ¬ S k) : FamH w' r :=
  ⟨owns_chg h.l hc (hs _ (by simp)), owns_chg h.a hc (hs _ (by simp)), owns_chg h.b hc (hs _ (by simp)), owns_chg h.c hc (hs _ (by simp))⟩
theorem heads_block {w : World} {b : Nat} {v0 v1 v2 v3 v4 v5 : Value} {t : TypeId} (h : w.heap[b]? = some (.cells #[v0, v1, v2, v3, v4, v5] t (0, 0))) :
    w.cell? ⟨b, 0, none⟩ = some v0 ∧ w.cell? ⟨b, 1, none⟩ = some v1 ∧ w.cell? ⟨b, 2, none⟩ = some v2 ∧ w.cell? ⟨b, 3, none⟩ = some v3 ∧ w.cell? ⟨b, 4, none⟩ = some v4 ∧ w.cell? ⟨b, 5, none⟩ = some v5 ∧ ∀ o, w.frozen? ⟨b, o, none⟩ = false := by
  refine ⟨?_, ?_, ?_, ?_, ?_, ?_, fun o => by simp [World.frozen?, h]⟩ <;> rw [cell_of_row w b _ _ _ _ h] <;> rfl
theorem fillH_ones (n v : ByteArray) (k : Nat) : ∀ u ∈ fillH n v k, u.oneCell' = true := by
  induction k with
  | zero => simp [fillH]
  | succ k ih =>
    intro u hu
    simp only [fillH, List.mem_cons] at hu
    rcases hu with rfl | rfl | hu
    · rfl
    · rfl
    · exact ih u hu
theorem hchg_setCells {S : Nat → Prop} {a : World} {g : Nat} (hp : a.heap.size ≤ g ∨ S g) : ∀ (vs : List Value) (o : Nat) (w : World), Chg S a w → Chg S a (w.setCells g o vs)
  | [], _, _, h => h
  | v :: r, o, _, h => hchg_setCells hp r (o + 1) _ (h.setCell (p := ⟨g, o, none⟩) hp v)
/-- The loop: the marks, laid one by one. -/
def fillKH (n v : ByteArray) (k : Nat) (xs : List Value) : List Value := fillH n v k ++ xs.drop (k * 2)
theorem hset_next {A xs : List Value} {i : Nat} (x : Value) (hA : A.length = i) (h : i < xs.length) : (A ++ xs.drop i).set i x = (A ++ [x]) ++ xs.drop (i + 1) := by
  rw [List.set_append_right _ _ (by omega), hA, Nat.sub_self, List.drop_eq_getElem_cons h, List.set_cons_zero, List.append_assoc]
  rfl
theorem fillKH_succ {n v : ByteArray} {k : Nat} {xs : List Value} (h : k * 2 + 2 ≤ xs.length) : ((fillKH n v k xs).set (k * 2) (.string n)).set (k * 2 + 1) (.string v) = fillKH n v (k + 1) xs := by
  unfold fillKH
  have hl := fillH_length n v k
  rw [hset_next _ hl (by omega)]
  rw [hset_next _ (by simp [hl]) (by omega)]
  rw [fillH_add, Nat.succ_mul]
  simp [fillH]
theorem fillKH_all {n v : ByteArray} {m : Nat} {xs : List Value} (h : xs.length = m * 2) : fillKH n v m xs = fillH n v m := by
  unfold fillKH
  rw [List.drop_of_length_le (by omega)]
  simp
theorem fillKH_length {n v : ByteArray} {k m : Nat} {xs : List Value} (h : xs.length = m * 2) (hk : k ≤ m) : (fillKH n v k xs).length = m * 2 := by
  unfold fillKH
  rw [List.length_append, fillH_length, List.length_drop, h]
  omega
theorem hfill_stored {w : World} {base g n cap k : Nat} {mn mv : ByteArray} {xs : List Value} (h : w.ownsRow base 62 2 (.slice (some ⟨g, 0, none⟩) n cap) n (fillKH mn mv k xs)) (hk : k * 2 + 2 ≤ xs.length) :
    (w.setCells g (k * 2) [.string mn, .string mv]).ownsRow base 62 2 (.slice (some ⟨g, 0, none⟩) n cap) n (fillKH mn mv (k + 1) xs) := by
  rw [← fillKH_succ hk]
  exact ((h.stored _ _).1.stored _ _).1
theorem htake_fill {F0 : List Value} {mn mv : ByteArray} {n a c : Nat} (h : F0.length = n * 2) : F0 ++ fillH mn mv a = (F0 ++ fillH mn mv (a + c)).take ((n + a) * 2) := by
  rw [fillH_add, ← List.append_assoc, List.take_left']
  rw [List.length_append, h, fillH_length, Nat.add_mul]

theorem keepH_step {S : Nat → Prop} {w wX w1 : World} {xb len m : Nat} {X : Array Value} {v va : Value} {xs news : List Value} {o : Obj} (hx : wX.heap[xb]? = some (.cells X 72 (0, 0))) (hxb : w.heap.size ≤ xb) (hch : Chg S w wX) (hS : ∀ j, v.ownBlock = some j → w.heap.size ≤ j ∨ S j) (hl : wX.ownsRow 0 62 2 v len xs)
    (hown1 : w1.ownsRow 0 62 2 va (len + m) (xs ++ news)) (hg1 : (wX.alloc o).grownBy w1 v.ownBlock) (happ : Appd (wX.alloc o) w1 v va len m) (i : Nat) :
    (w1.setCell ⟨xb, i, none⟩ va).heap[xb]? = some (.cells (X.setIfInBounds i va) 72 (0, 0)) ∧ Chg S w (w1.setCell ⟨xb, i, none⟩ va) ∧ (w1.setCell ⟨xb, i, none⟩ va).ownsRow 0 62 2 v len xs ∧
      (w1.setCell ⟨xb, i, none⟩ va).ownsRow 0 62 2 va (len + m) (xs ++ news) ∧
      (∀ v0 k ys, wX.ownsRow 0 62 2 v0 k ys → (∀ g cap, v = .slice (some ⟨g, 0, none⟩) len cap → len + m ≤ cap → v0 = .slice (some ⟨g, 0, none⟩) k cap ∧ k ≤ len + m ∧ ys = (xs ++ news).take (k * 2)) → (w1.setCell ⟨xb, i, none⟩ va).ownsRow 0 62 2 v0 k ys) ∧
      (∀ j, va.ownBlock = some j → v.ownBlock = some j ∨ w.heap.size ≤ j) := by
  have hx1 : w1.heap[xb]? = some (.cells X 72 (0, 0)) := kept_block (hl.alloc o) hg1 (alloc_block hx o) (by decide)
  have hc1 : Chg S w w1 := (hch.alloc o).trans (Chg.of_grown hg1 (fun j hj => (hS j hj)))
  have hset : Chg (fun j => j = xb) w1 (w1.setCell ⟨xb, i, none⟩ va) := (Chg.refl (fun j => j = xb) w1).setCell (p := ⟨xb, i, none⟩) (Or.inr rfl) _
  have keep : ∀ v0 k ys, w1.ownsRow 0 62 2 v0 k ys → (w1.setCell ⟨xb, i, none⟩ va).ownsRow 0 62 2 v0 k ys := fun v0 k ys h => owns_chg h hset (fun j hj e => by subst e; exact owns_ne h hx1 (by decide) hj)
  refine ⟨block_setCell hx1, hc1.setCell (p := ⟨xb, i, none⟩) (Or.inl hxb) _, keep _ _ _ (app_pre hown1 happ (hl.alloc o) (fun g cap hv hr => ⟨hv, by omega, ?_⟩)), keep _ _ _ hown1, fun v0 k ys h hp => keep _ _ _ (app_pre hown1 happ (h.alloc o) hp), fun j hj => ?_⟩
  · rw [← hl.1, List.take_left]
  · rcases happ.block with e | e
    · rw [e] at hj; exact Or.inl hj
    · rw [e] at hj; simp at hj
      have := hch.size
      exact Or.inr (by omega)

/-- The end of keepHeads. -/
def KeptH (w w' : World) (b : Nat) (cs : Array Value) (hv v : Value) (hrs : List HRec) (len : Nat) : Prop :=
  ∃ hv' r, w'.heap[b]? = some (.cells (cs.setIfInBounds 11 hv') 46 (0, 0)) ∧ w'.ownsRow 0 72 6 hv' (hrs ++ [r]).length (hrCells (hrs ++ [r])) ∧ r.n = hrs.length ∧ r.len = len ∧ FamH w' r ∧
    (∀ u ∈ [r.l, r.a, r.b, r.c], ∀ j, u.ownBlock = some j → v.ownBlock = some j ∨ w.heap.size ≤ j) ∧ Chg (fun j => j = b ∨ hv.ownBlock = some j ∨ v.ownBlock = some j) w w' ∧ (∀ j, hv'.ownBlock = some j → hv.ownBlock = some j ∨ w.heap.size ≤ j)

theorem keptH_end {w w6 w7 : World} {b base len : Nat} {cs : Array Value} {hv hv' v va vb vc : Value} {hrs : List HRec} {xs : List Value} {X : List Value} {o : Obj} (hV : w.ownsRow base 62 2 v len xs) (hB : w.heap[b]? = some (.cells cs 46 (0, 0))) (hR : w.ownsRow 0 72 6 hv hrs.length (hrCells hrs))
    (hch6 : Chg (fun j => v.ownBlock = some j) w w6) (hfam : FamH w6 ⟨v, va, vb, vc, hrs.length, len⟩) (hba : ∀ j, va.ownBlock = some j → v.ownBlock = some j ∨ w.heap.size ≤ j) (hbb : ∀ j, vb.ownBlock = some j → v.ownBlock = some j ∨ w.heap.size ≤ j) (hbc : ∀ j, vc.ownBlock = some j → v.ownBlock = some j ∨ w.heap.size ≤ j)
    (hX : X = [v, va, vb, vc, .string markN, .string (markV hrs.length)]) (hown7 : w7.ownsRow 0 72 6 hv' (hrs.length + 1) (hrCells hrs ++ X)) (hg7 : (w6.alloc o).drew.grownBy w7 hv.ownBlock) (happ7 : Appd (w6.alloc o).drew w7 hv hv' hrs.length 1) (hb7 : w7.heap[b]? = some (.cells cs 46 (0, 0))) :
    KeptH w (w7.setCell ⟨b, 11, none⟩ hv') b cs hv v hrs len := by
  have hr6 := owns_chg hR hch6 (fun j hj e => rows_ne hR hV (by decide) hj e)
  have hb6 : w6.heap[b]? = some (.cells cs 46 (0, 0)) := by
    rw [hch6.block b (lt_of_block hB) (owns_ne hV hB (by decide))]; exact hB
  have hc7 : Chg (fun j => hv.ownBlock = some j) w6 w7 := (((Chg.refl _ w6).alloc o).drew).trans (Chg.of_grown hg7 (fun j hj => Or.inr hj))
  have hset : Chg (fun j => j = b) w7 (w7.setCell ⟨b, 11, none⟩ hv') := (Chg.refl (fun j => j = b) w7).setCell (p := ⟨b, 11, none⟩) (Or.inr rfl) _
  have hc8 : Chg (fun j => j = b ∨ hv.ownBlock = some j) w6 (w7.setCell ⟨b, 11, none⟩ hv') := (hc7.mono (fun j _ hj => Or.inr hj)).trans (hset.mono (fun j _ hj => Or.inr (Or.inl hj)))
  have sep : ∀ u k ys, w6.ownsRow 0 62 2 u k ys → ∀ j, u.ownBlock = some j → ¬ (j = b ∨ hv.ownBlock = some j) := by
    rintro u k ys h j hj (rfl | e)
    · exact owns_ne h hb6 (by decide) hj
    · exact rows_ne hr6 h (by decide) e hj
  refine ⟨hv', ⟨v, va, vb, vc, hrs.length, len⟩, block_setCell hb7, ?_, rfl, rfl, ?_, ?_, ?_, ?_⟩
  · rw [List.length_append, hrCells_append]
    refine owns_chg (w := w7) ?_ hset (fun j hj e => by subst e; exact owns_ne hown7 hb7 (by decide) hj)
    rw [hX] at hown7
    exact hown7
  · exact ⟨owns_chg hfam.l hc8 (sep _ _ _ hfam.l), owns_chg hfam.a hc8 (sep _ _ _ hfam.a), owns_chg hfam.b hc8 (sep _ _ _ hfam.b), owns_chg hfam.c hc8 (sep _ _ _ hfam.c)⟩
  · intro u hu j hj
    simp at hu
    rcases hu with rfl | rfl | rfl | rfl
    · exact Or.inl hj
    · exact hba j hj
    · exact hbb j hj
    · exact hbc j hj
  · refine (hch6.mono (fun j _ hj => Or.inr (Or.inr hj))).trans (hc8.mono ?_)
    rintro j _ (e | e)
    · exact Or.inr (Or.inl e)
    · exact Or.inr (Or.inr (Or.inl e))
  · intro j hj
    rcases happ7.block with e | e
    · rw [e] at hj; exact Or.inl hj
    · rw [e] at hj; simp at hj
      have := hch6.size
      exact Or.inr (by omega)

set_option maxRecDepth 100000 in
set_option maxHeartbeats 6400000 in
theorem keepHeads_any (b : Nat) (cs : Array Value) (hv v : Value) (len : Nat) (xs : List Value) (hrs : List HRec) (base : Nat) (w : World) (hb : w.heap[b]? = some (.cells cs 46 (0, 0))) (hhv : cs[11]? = some hv)
    (hrow : w.ownsRow 0 72 6 hv hrs.length (hrCells hrs)) (hV : w.ownsRow base 62 2 v len xs) (hn : hrs.length ≤ 67108864) (hlen : len ≤ 1048576) :
    Calls Tryz.prog 50 #[.pointer (some ⟨b, 9, none⟩), v] w fun e w' => e = .returned (.tuple #[]) ∧ KeptH w w' b cs hv v hrs len := by
  obtain ⟨i0, hi, hz0, hz1, hz2⟩ := info_parts Tryz.infoH62
  obtain ⟨j0, ji, jz0, jz1, jz2⟩ := info_parts Tryz.info72
  obtain ⟨sv, cv, rfl⟩ := slice_len hV
  obtain ⟨sf, cf, rfl⟩ := slice_len hrow
  have hblt := lt_of_block hb
  have g11 : w.cell? ⟨b, 11, none⟩ = some (.slice sf hrs.length cf) := by rw [cell_of_row w b _ _ _ _ hb]; exact hhv
  have HMK := hide (markHead_any hrs.length w (by omega))
  have HV := hide hV
  have HB := hide hb
  have HR := hide hrow
  have HHV := hide hhv
  obtain ⟨MV, hMV⟩ : ∃ MV, MV = markV hrs.length := ⟨_, rfl⟩
  rw [← hMV] at HMK
  have HMV := hide hMV
  clear hV hb hrow hMV hhv
  go_enter Tryz.func50, Tryz.ntmps50
  go_wp2_with fail
  refine HMK.out.mono ?_
  rintro e wo ⟨rfl, hbo⟩
  obtain ⟨wA, hwA⟩ : ∃ wA, wA = wo.alloc (.cells #[.string markN, .string MV] 62) := ⟨_, rfl⟩
  have hfA : wA.heap[wo.heap.size]? = some (.cells #[.string markN, .string MV] 62 (0, 0)) := by rw [hwA]; exact heap_alloc_new wo _
  have hcA : Chg (fun _ => False) w wA := by rw [hwA]; exact (Chg.of_below hbo).alloc _
  have hsA := lt_of_block hfA
  have hso := hbo.size
  have HFA := hide hfA
  have HCA := hide hcA
  have HVA := hide (owns_chg HV.out hcA (fun _ _ => id))
  obtain ⟨FB, hFB⟩ : ∃ FB, FB = wo.heap.size := ⟨_, rfl⟩
  rw [← hFB] at HFA hsA
  have hFBa : w.heap.size ≤ FB := by omega
  have HVL := hide (fun j (hj : (Value.slice sv len cv).ownBlock = some j) => owns_lt HV.out hj)
  clear hfA hcA HMK g11
  go_wp2_with fail
  rw [← hwA, ← hFB]
  clear hwA hFB hbo hso
  go_loopw [5] (fun i wr => ∃ k : Nat, k ≤ len ∧ i = .int .i64 k ∧ Chg (fun j => (Value.slice sv len cv).ownBlock = some j) wA wr ∧ wr.ownsRow base 62 2 (.slice sv len cv) len (fillKH markN MV k xs)) (fun i _ => len - (intOf i).toNat)
  case atStart => exact ⟨0, Nat.zero_le _, rfl, Chg.refl _ _, by simpa [fillKH, fillH] using HVA.out⟩
  case round =>
    obtain ⟨k, hk, rfl, hch, hown⟩ := hrel
    have hxl : xs.length = len * 2 := HV.out.1
    have hfr : wr.heap[FB]? = some (.cells #[.string markN, .string MV] 62 (0, 0)) := by
      rw [hch.block _ hsA (fun e => by have := HVL.out _ e; omega)]; exact HFA.out
    obtain ⟨m0, m1⟩ := pair_blk hfr
    by_cases hlt : k < len
    · obtain ⟨g, hg, hcv⟩ := slice_some hown (by omega)
      subst hg
      have hfl := fillKH_length (n := markN) (v := MV) hxl hk
      have HTH : Hid (wr.there g (k * 2) 2) := fun i hi => ⟨by rw [hown.cellAt (k * 2 + i) (by omega), List.getElem?_eq_getElem (by omega)]; rfl, owns_free hown (k * 2 + i)⟩
      have HSZ : Hid ((Tryz.prog.info? 62).map (·.size) = some 2) := by show _ = _; rw [hi]; simp [hz1]
      have HS := hide (hfill_stored hown (by omega))
      have HCH := hide (hchg_setCells (S := fun j => (Value.slice (some ⟨g, 0, none⟩) len cv).ownBlock = some j) (g := g) (Or.inr rfl) [.string markN, .string MV] (k * 2) wr hch)
      clear hown hch hfl hfr
      have HON : Hid ((#[.string markN, .string MV] : Array Value).all (·.oneCell') = true) := all_oneCell_toArray (fillH_ones markN MV 1)
      go_wp2_with (refine wpList_store_mid rfl 62 (.tmp 22) (.tmp 21) rfl g (k * 2) #[.string markN, .string MV] rfl rfl HTH.out HSZ.out HON.out ?_)
      go_roundw
      case rel => exact ⟨k + 1, by omega, by go_num, HCH.out, HS.out⟩
      case measure => simp [intOf]; omega
    · have hke : k = len := by omega
      subst hke
      rw [fillKH_all hxl] at hown
      obtain ⟨F0, hF0⟩ : ∃ F, F = fillH markN MV k := ⟨_, rfl⟩
      have hown0 := owns_base hown (base' := 0) (fun _ _ => Nat.zero_le _)
      rw [← hF0] at hown0
      have HF0 := hide hF0
      have HCH := hide hch
      have hsz0 := hch.size
      have hswr : FB < wr.heap.size := by omega
      obtain ⟨N1, hN1⟩ : ∃ N, N = fillH markN MV 1 := ⟨_, rfl⟩
      obtain ⟨N2, hN2⟩ : ∃ N, N = fillH markN MV 2 := ⟨_, rfl⟩
      obtain ⟨N3, hN3⟩ : ∃ N, N = fillH markN MV 3 := ⟨_, rfl⟩
      have HN1 := hide hN1
      have HN2 := hide hN2
      have HN3 := hide hN3
      have HO1 : Hid (∀ u ∈ N1, u.oneCell' = true) := by rw [hN1]; exact fillH_ones markN MV 1
      have HO2 : Hid (∀ u ∈ N2, u.oneCell' = true) := by rw [hN2]; exact fillH_ones markN MV 2
      have HO3 : Hid (∀ u ∈ N3, u.oneCell' = true) := by rw [hN3]; exact fillH_ones markN MV 3
      have HL1 : Hid (N1.length = 1 * 2) := by rw [hN1]; rfl
      have HL2 : Hid (N2.length = 2 * 2) := by rw [hN2]; rfl
      have HL3 : Hid (N3.length = 3 * 2) := by rw [hN3]; rfl
      have HE1 : Hid (∀ (W : World), ∀ j u, N1[j]? = some u → (W.alloc (.cells #[.string markN, .string MV] 62)).cell? ((⟨W.heap.size, 0, none⟩ : Addr).add j) = some u) := by
        intro W; rw [hN1]; exact fun j u hu => lies_row (xs := fillH markN MV 1) j u hu
      have HE2 : Hid (∀ (W : World), ∀ j u, N2[j]? = some u → (W.alloc (.cells #[.string markN, .string MV, .string markN, .string MV] 62)).cell? ((⟨W.heap.size, 0, none⟩ : Addr).add j) = some u) := by
        intro W; rw [hN2]; exact fun j u hu => lies_row (xs := fillH markN MV 2) j u hu
      have HE3 : Hid (∀ (W : World), ∀ j u, N3[j]? = some u → (W.alloc (.cells #[.string markN, .string MV, .string markN, .string MV, .string markN, .string MV] 62)).cell? ((⟨W.heap.size, 0, none⟩ : Addr).add j) = some u) := by
        intro W; rw [hN3]; exact fun j u hu => lies_row (xs := fillH markN MV 3) j u hu
      clear hown hF0 hch hfr hN1 hN2 hN3 hk
      go_wp2_with (at_builtin; refine wpList_app_full _ rfl (.tmp 26) (.tmp 28) 57 rfl 62 i0 (.agg #[.string ⟨#[]⟩, .string ⟨#[]⟩]) 2 32 Tryz.underlying57 hi hz0 hz1 hz2 rfl (by decide) _ _ _ rfl ((hown0.alloc _).alloc _) ⟨wr.heap.size + 1, 0, none⟩ 1 1 N1 rfl (by decide) HL1.out ?c0 HO1.out ?c2 ?c3 ?_)
      case c0 =>
        have := HE1.out (wr.alloc (.cells #[.slice sv k cv, .slice none 0 0, .slice none 0 0, .slice none 0 0, .string markN, .string MV] 72))
        simpa using this
      case c2 => unfold maxLen; omega
      case c3 => omega
      intro va w1 hown1 hg1 happ1
      obtain ⟨hx2, hch2, hl2, ha2, -, hba⟩ := keepH_step (heap_alloc_new wr _) hsz0 (HCH.out.alloc _) (fun j hj => Or.inr hj) (hown0.alloc _) hown1 hg1 happ1 1
      have hra : ∀ g cap, Value.slice sv k cv = .slice (some ⟨g, 0, none⟩) k cap → k + 1 ≤ cap → va = .slice (some ⟨g, 0, none⟩) (k + 1) cap := fun g cap e h => happ1.room e h
      obtain ⟨sa, ca, rfl⟩ := slice_len hown1
      have hxw1 : w1.heap[wr.heap.size]? = some (.cells #[.slice sv k cv, .slice none 0 0, .slice none 0 0, .slice none 0 0, .string markN, .string MV] 72 (0, 0)) := kept_block ((hown0.alloc _).alloc _) hg1 (alloc_block (heap_alloc_new wr _) _) (by decide)
      obtain ⟨y0, y1, y2, y3, y4, y5, yf⟩ := heads_block hxw1
      have yf1 := yf 1
      obtain ⟨w2, hw2⟩ : ∃ w2, w1.setCell ⟨wr.heap.size, 1, none⟩ (.slice sa (k + 1) ca) = w2 := ⟨_, rfl⟩
      rw [hw2] at hx2 hch2 hl2 ha2
      have hf2 : w2.heap[FB]? = some (.cells #[.string markN, .string MV] 62 (0, 0)) := by
        rw [hch2.block _ hsA (fun e => by have := HVL.out _ e; omega)]; exact HFA.out
      obtain ⟨n0, n1⟩ := pair_blk hf2
      have HX2 := hide hx2
      have HC2 := hide hch2
      have HA2 := hide ha2
      have HRA := hide hra
      have HBA := hide hba
      clear hx2 hch2 ha2 hra hba hown1 hg1 happ1 hown0 hxw1 yf hf2 m0 m1
      go_wp2_with (at_builtin; refine wpList_app_full _ rfl (.tmp 31) (.tmp 34) 57 rfl 62 i0 (.agg #[.string ⟨#[]⟩, .string ⟨#[]⟩]) 2 32 Tryz.underlying57 hi hz0 hz1 hz2 rfl (by decide) _ _ _ rfl (hl2.alloc _) ⟨w2.heap.size, 0, none⟩ 2 2 N2 rfl (by decide) HL2.out (HE2.out w2) HO2.out ?d2 ?d3 ?_)
      case d2 => unfold maxLen; omega
      case d3 => omega
      intro vb w3 hown3 hg3 happ3
      have hF0l : F0.length = k * 2 := hl2.1
      obtain ⟨hx4, hch4, hl4, hb4, hk4, hbb⟩ := keepH_step HX2.out hsz0 HC2.out (fun j hj => Or.inr hj) hl2 hown3 hg3 happ3 2
      have ha4 := hk4 _ _ _ HA2.out (fun g cap e h => ⟨HRA.out g cap e (by omega), by omega, by rw [HN1.out, HN2.out]; exact htake_fill (a := 1) (c := 1) hF0l⟩)
      have hrb : ∀ g cap, Value.slice sv k cv = .slice (some ⟨g, 0, none⟩) k cap → k + 2 ≤ cap → vb = .slice (some ⟨g, 0, none⟩) (k + 2) cap := fun g cap e h => happ3.room e h
      obtain ⟨sb, cb, rfl⟩ := slice_len hown3
      have hxw3 := kept_block (hl2.alloc _) hg3 (alloc_block HX2.out _) (by decide)
      obtain ⟨z0, z1, z2, z3, z4, z5, zf⟩ := heads_block hxw3
      have zf2 := zf 2
      obtain ⟨w4, hw4⟩ : ∃ w4, w3.setCell ⟨wr.heap.size, 2, none⟩ (.slice sb (k + 2) cb) = w4 := ⟨_, rfl⟩
      rw [hw4] at hx4 hch4 hl4 hb4 ha4
      have hf4 : w4.heap[FB]? = some (.cells #[.string markN, .string MV] 62 (0, 0)) := by
        rw [hch4.block _ hsA (fun e => by have := HVL.out _ e; omega)]; exact HFA.out
      obtain ⟨o0, o1⟩ := pair_blk hf4
      have HX4 := hide hx4
      have HC4 := hide hch4
      have HA4 := hide ha4
      have HB4 := hide hb4
      have HRB := hide hrb
      have HBB := hide hbb
      have HF0L := hide hF0l
      clear hx4 hch4 ha4 hb4 hrb hbb hown3 hg3 happ3 hl2 hxw3 zf hk4 hf4 hF0l HX2 HC2 HA2 hw2 y0 y1 y2 y3 y4 y5 yf1 n0 n1
      go_wp2_with (at_builtin; refine wpList_app_full _ rfl (.tmp 37) (.tmp 41) 57 rfl 62 i0 (.agg #[.string ⟨#[]⟩, .string ⟨#[]⟩]) 2 32 Tryz.underlying57 hi hz0 hz1 hz2 rfl (by decide) _ _ _ rfl (hl4.alloc _) ⟨w4.heap.size, 0, none⟩ 3 3 N3 rfl (by decide) HL3.out (HE3.out w4) HO3.out ?e2 ?e3 ?_)
      case e2 => unfold maxLen; omega
      case e3 => omega
      intro vc w5 hown5 hg5 happ5
      obtain ⟨hx6, hch6, hl6, hc6, hk6, hbc⟩ := keepH_step HX4.out hsz0 HC4.out (fun j hj => Or.inr hj) hl4 hown5 hg5 happ5 3
      have ha6 := hk6 _ _ _ HA4.out (fun g cap e h => ⟨HRA.out g cap e (by omega), by omega, by rw [HN1.out, HN3.out]; exact htake_fill (a := 1) (c := 2) HF0L.out⟩)
      have hb6 := hk6 _ _ _ HB4.out (fun g cap e h => ⟨HRB.out g cap e (by omega), by omega, by rw [HN2.out, HN3.out]; exact htake_fill (a := 2) (c := 1) HF0L.out⟩)
      obtain ⟨sc, cc, rfl⟩ := slice_len hown5
      have hxw5 := kept_block (hl4.alloc _) hg5 (alloc_block HX4.out _) (by decide)
      obtain ⟨p0, p1, p2, p3, p4, p5, pf⟩ := heads_block hxw5
      have pf3 := pf 3
      obtain ⟨w6, hw6⟩ : ∃ w6, w5.setCell ⟨wr.heap.size, 3, none⟩ (.slice sc (k + 3) cc) = w6 := ⟨_, rfl⟩
      rw [hw6] at hx6 hch6 hl6 hc6 ha6 hb6
      have hch6o : Chg (fun j => (Value.slice sv k cv).ownBlock = some j) w w6 := (HCA.out.mono (fun _ _ => False.elim)).trans (hch6.mono (fun j _ hj => Or.inr hj))
      have HX6 := hide hx6
      have HC6 := hide hch6o
      have HA6 := hide ha6
      have HB6 := hide hb6
      have HC6' := hide hc6
      have HL6 := hide hl6
      have HBC := hide hbc
      obtain ⟨q0, q1, q2, q3, q4, q5, qf⟩ := heads_block hx6
      have hb6w : w6.heap[b]? = some (.cells cs 46 (0, 0)) := by
        rw [hch6o.block b (lt_of_block HB.out) (owns_ne HV.out HB.out (by decide))]; exact HB.out
      have hrow6 := owns_chg HR.out hch6o (fun j hj e => rows_ne HR.out HV.out (by decide) hj e)
      have hc11 : w6.cell? ⟨b, 11, none⟩ = some (.slice sf hrs.length cf) := by rw [cell_of_row w6 b _ _ _ _ hb6w]; exact HHV.out
      have HB6w := hide hb6w
      have hszA := HCA.out.size
      clear hx6 hch6 hch6o ha6 hb6 hc6 hl6 hbc hown5 hg5 happ5 hl4 hxw5 pf hk6 HX4 HC4 HA4 HB4 hw4 z0 z1 z2 z3 z4 z5 zf2 qf hb6w o0 o1
      have hbx : b ≠ wr.heap.size := by omega
      have HONE : Hid (∀ u ∈ [Value.slice sv k cv, .slice sa (k + 1) ca, .slice sb (k + 2) cb, .slice sc (k + 3) cc, .string markN, .string MV], u.oneCell' = true) := by
        intro u hu
        simp at hu
        rcases hu with rfl | rfl | rfl | rfl | rfl | rfl <;> rfl
      have HNA : Hid (hrs.length + 1 ≤ maxLen) := by show _ ≤ _; unfold maxLen; omega
      have HNB : Hid ((hrs.length + 1) * 128 ≤ 140737488355328) := by show _ ≤ _; omega
      obtain ⟨X, hX⟩ : ∃ X, X = [Value.slice sv k cv, .slice sa (k + 1) ca, .slice sb (k + 2) cb, .slice sc (k + 3) cc, .string markN, .string MV] := ⟨_, rfl⟩
      have HOWN : Hid ((w6.alloc (.cells #[.slice sv k cv, .slice sa (k + 1) ca, .slice sb (k + 2) cb, .slice sc (k + 3) cc, .string markN, .string MV] 72)).drew.ownsRow 0 72 6 (.slice sf hrs.length cf) hrs.length (hrCells hrs)) := hrow6.alloc _
      have HCEL : Hid (∀ j u, X[j]? = some u → (w6.alloc (.cells #[.slice sv k cv, .slice sa (k + 1) ca, .slice sb (k + 2) cb, .slice sc (k + 3) cc, .string markN, .string MV] 72)).drew.cell? ((⟨w6.heap.size, 0, none⟩ : Addr).add j) = some u) := by
        subst hX
        exact fun j u hu => lies_row j u hu
      have HBA6 : Hid ((w6.alloc (.cells #[.slice sv k cv, .slice sa (k + 1) ca, .slice sb (k + 2) cb, .slice sc (k + 3) cc, .string markN, .string MV] 72)).drew.heap[b]? = some (.cells cs 46 (0, 0))) := alloc_block HB6w.out _
      rw [← hX] at HONE
      have HXL : Hid (X.length = 1 * 6) := by rw [hX]; rfl
      have HXX := hide hX
      clear hX
      have c11a : (w6.alloc (.cells #[.slice sv k cv, .slice sa (k + 1) ca, .slice sb (k + 2) cb, .slice sc (k + 3) cc, .string markN, .string MV] 72)).cell? ⟨b, 11, none⟩ = some (.slice sf hrs.length cf) := by
        rw [cell_of_row _ b _ _ _ _ (alloc_block HB6w.out _)]; exact HHV.out
      go_wp2
      go_region_law (refine step_app_full rfl (.tmp 48) (.tmp 50) 40 rfl 72 j0 (.agg #[.slice none 0 0, .slice none 0 0, .slice none 0 0, .slice none 0 0, .string ⟨#[]⟩, .string ⟨#[]⟩]) 6 128 Tryz.underlying40 ji jz0 jz1 jz2 rfl (by decide) (.slice sf hrs.length cf) hrs.length (hrCells hrs) (by simp [Act.eval]) HOWN.out ⟨w6.heap.size, 0, none⟩ 1 1 X (by simp [Act.eval]) (by decide) HXL.out HCEL.out HONE.out HNA.out HNB.out ?_; intro hv' w7 hown7 hg7 happ7; obtain ⟨sk', ck', hhv'⟩ := slice_len hown7; subst hhv'; have hb7 := kept_block HOWN.out hg7 HBA6.out (by decide); have c7 : w7.cell? ⟨b, 11, none⟩ = some (.slice sf hrs.length cf) := (by rw [cell_of_row w7 b _ _ _ _ hb7]; exact HHV.out); have f7 : w7.frozen? ⟨b, 11, none⟩ = false := (by simp [World.frozen?, hb7]))
      all_goals go_wp2
      all_goals refine bodyPost_end (results_none rfl _ _ _) rfl ⟨rfl, ?_⟩
      all_goals
        have hmv := HMV.out
        subst hmv
        have hfam : FamH w6 ⟨Value.slice sv k cv, .slice sa (k + 1) ca, .slice sb (k + 2) cb, .slice sc (k + 3) cc, hrs.length, k⟩ := by
          refine ⟨?_, ?_, ?_, ?_⟩
          · have h := HL6.out; rw [HF0.out] at h; exact h
          · have h := HA6.out; rw [HF0.out, HN1.out, ← fillH_add] at h; exact h
          · have h := HB6.out; rw [HF0.out, HN2.out, ← fillH_add] at h; exact h
          · have h := HC6'.out; rw [HF0.out, HN3.out, ← fillH_add] at h; exact h
        exact keptH_end HV.out HB.out HR.out HC6.out hfam (fun j hj => (HBA.out j hj).imp_right (fun h => by omega)) (fun j hj => (HBB.out j hj).imp_right (fun h => by omega)) (fun j hj => (HBC.out j hj).imp_right (fun h => by omega)) HXX.out hown7 hg7 happ7 hb7
end Go.Proofs.YtghongdbohjaaaaGreatDoor
/-
  (*sluicelaw.Books).whole, where there are lists of bytes and of pairs.
-/
namespace Go.Proofs.YtghongdbohjaaaaGreatDoor
set_option linter.unusedVariables false
set_option linter.unusedSimpArgs false
open Go.RowKit

/-- The books, as they lie in a World. -/
structure BkH (w : World) (b : Nat) (cs : Array Value) (kv hv : Value) (recs : List RecB) (hrs : List HRec) : Prop where
  blk : w.heap[b]? = some (.cells cs 46 (0, 0))
  c9 : cs[9]? = some kv
  c10 : cs[10]? = some (.slice none 0 0)
  c11 : cs[11]? = some hv
  c12 : cs[12]? = some (.slice none 0 0)
  c13 : cs[13]? = some (.slice none 0 0)
  rowB : w.ownsRow 0 65 5 kv recs.length (recCells recs)
  rowH : w.ownsRow 0 72 6 hv hrs.length (hrCells hrs)
  famB : ∀ r ∈ recs, FamB w r
  famH : ∀ r ∈ hrs, FamH w r
  okB : ∀ r ∈ recs, r.n ≤ 1099511627776 ∧ r.len ≤ 4294967296
  okH : ∀ r ∈ hrs, r.len ≤ 1073741824

set_option maxRecDepth 100000 in
set_option maxHeartbeats 6400000 in
theorem wholeH_true (b : Nat) (cs : Array Value) (kv hv : Value) (recs : List RecB) (hrs : List HRec) (w : World) (h : BkH w b cs kv hv recs hrs) (hn : recs.length ≤ 268435456) (hf : hrs.length ≤ 268435456) :
    Calls Tryz.prog 9 #[.pointer (some ⟨b, 9, none⟩)] w fun e w' => e = .returned (.bool true) ∧ Below w.heap.size w w' := by
  have H := hide h
  obtain ⟨sk, ck, rfl⟩ := slice_len h.rowB
  obtain ⟨sf, cf, rfl⟩ := slice_len h.rowH
  have hblt := lt_of_block h.blk
  have g9 : w.cell? ⟨b, 9, none⟩ = some (.slice sk recs.length ck) := by rw [cell_of_row w b _ _ _ _ h.blk]; exact h.c9
  have g10 : w.cell? ⟨b, 10, none⟩ = some (.slice none 0 0) := by rw [cell_of_row w b _ _ _ _ h.blk]; exact h.c10
  have g11 : w.cell? ⟨b, 11, none⟩ = some (.slice sf hrs.length cf) := by rw [cell_of_row w b _ _ _ _ h.blk]; exact h.c11
  have g12 : w.cell? ⟨b, 12, none⟩ = some (.slice none 0 0) := by rw [cell_of_row w b _ _ _ _ h.blk]; exact h.c12
  have g13 : w.cell? ⟨b, 13, none⟩ = some (.slice none 0 0) := by rw [cell_of_row w b _ _ _ _ h.blk]; exact h.c13
  clear h
  go_enter Tryz.func9, Tryz.ntmps9
  go_wp2
  go_loopw [3, 4] (fun ok i wr => ∃ k : Nat, k ≤ recs.length ∧ ok = .bool true ∧ i = .int .i64 k ∧ Below w.heap.size w wr) (fun _ i _ => recs.length - (intOf i).toNat)
  case atStart => exact ⟨0, Nat.zero_le _, rfl, rfl, Below.refl _ _⟩
  case round =>
    obtain ⟨k, hk, rfl, rfl, hbel⟩ := hrel
    have d9 := (hbel.cell (p := ⟨b, 9, none⟩) hblt).trans g9
    by_cases hlt : k < recs.length
    · obtain ⟨g, hg, hck⟩ := slice_some H.out.rowB (by omega)
      subst hg
      obtain ⟨r, hr⟩ : ∃ r, r = recs[k] := ⟨_, rfl⟩
      have hrm : r ∈ recs := by rw [hr]; exact List.getElem_mem _
      have hgl : g < w.heap.size := owns_lt H.out.rowB rfl
      obtain ⟨e0, e1, e2, e3, e4⟩ := recCells_get hlt
      rw [← hr] at e0 e1 e2 e3 e4
      have hrow := H.out.rowB
      have c0 : wr.cell? ⟨g, k * 5, none⟩ = some r.l := (hbel.cell (p := ⟨g, k * 5, none⟩) hgl).trans (by rw [hrow.cellAt _ (by omega)]; exact e0)
      have c1 : wr.cell? ⟨g, k * 5 + 1, none⟩ = some r.a := (hbel.cell (p := ⟨g, k * 5 + 1, none⟩) hgl).trans (by rw [hrow.cellAt _ (by omega)]; exact e1)
      have c2 : wr.cell? ⟨g, k * 5 + 2, none⟩ = some r.b := (hbel.cell (p := ⟨g, k * 5 + 2, none⟩) hgl).trans (by rw [hrow.cellAt _ (by omega)]; exact e2)
      have c3 : wr.cell? ⟨g, k * 5 + 3, none⟩ = some r.c := (hbel.cell (p := ⟨g, k * 5 + 3, none⟩) hgl).trans (by rw [hrow.cellAt _ (by omega)]; exact e3)
      have c4 : wr.cell? ⟨g, k * 5 + 4, none⟩ = some (.int .i64 r.n) := (hbel.cell (p := ⟨g, k * 5 + 4, none⟩) hgl).trans (by rw [hrow.cellAt _ (by omega)]; exact e4)
      have hfam := H.out.famB r hrm
      obtain ⟨hrn, hrl⟩ := H.out.okB r hrm
      obtain ⟨rl, ra, rb, rc, rn, rlen⟩ := r
      simp only at c0 c1 c2 c3 c4 hrn hrl
      have m1 : w.ownsRow 0 5 1 rl rlen ((marks rn rlen).map B) := hfam.l
      have m2 : w.ownsRow 0 5 1 ra (rlen + 1) ((marks rn (rlen + 1)).map B) := hfam.a
      have m3 : w.ownsRow 0 5 1 rb (rlen + 2) ((marks rn (rlen + 2)).map B) := hfam.b
      have m4 : w.ownsRow 0 5 1 rc (rlen + 3) ((marks rn (rlen + 3)).map B) := hfam.c
      clear hfam
      obtain ⟨s1, q1, rfl⟩ := slice_len m1
      obtain ⟨s2, q2, rfl⟩ := slice_len m2
      obtain ⟨s3, q3, rfl⟩ := slice_len m3
      obtain ⟨s4, q4, rfl⟩ := slice_len m4
      have K1 : Hid (∀ w', Below w.heap.size w w' → BytesIn w' (.slice s1 rlen q1) (marks rn rlen)) := fun w' hb' => bytes_of_marks (owns_chg m1 (Chg.of_below (S := fun _ => False) hb') (fun _ _ => id))
      have K2 : Hid (∀ w', Below w.heap.size w w' → BytesIn w' (.slice s2 (rlen + 1) q2) (marks rn (rlen + 1))) := fun w' hb' => bytes_of_marks (owns_chg m2 (Chg.of_below (S := fun _ => False) hb') (fun _ _ => id))
      have K3 : Hid (∀ w', Below w.heap.size w w' → BytesIn w' (.slice s3 (rlen + 2) q3) (marks rn (rlen + 2))) := fun w' hb' => bytes_of_marks (owns_chg m3 (Chg.of_below (S := fun _ => False) hb') (fun _ _ => id))
      have K4 : Hid (∀ w', Below w.heap.size w w' → BytesIn w' (.slice s4 (rlen + 3) q4) (marks rn (rlen + 3))) := fun w' hb' => bytes_of_marks (owns_chg m4 (Chg.of_below (S := fun _ => False) hb') (fun _ _ => id))
      have hbA : Below w.heap.size w (wr.alloc (.cells #[.slice s1 rlen q1, .slice s2 (rlen + 1) q2, .slice s3 (rlen + 2) q3, .slice s4 (rlen + 3) q4, .int .i64 rn] 65)) := hbel.alloc hbel.size _
      have HBA := hide hbA
      clear hbA m1 m2 m3 m4 e0 e1 e2 e3 e4 hr hrm hrow H g9 g10 g11 g12 g13
      have hx0 := heap_alloc_new wr (.cells #[.slice s1 rlen q1, .slice s2 (rlen + 1) q2, .slice s3 (rlen + 2) q3, .slice s4 (rlen + 3) q4, .int .i64 rn] 65)
      have HX0 := hide hx0
      clear hx0
      go_wp2_with fail
      refine (marked_true (.slice s1 rlen q1) rn rlen _ (K1.out _ HBA.out) (by omega) (by omega)).mono ?_
      rintro e w1 ⟨rfl, hb1⟩
      have hB1 := hide (HBA.out.trans (hb1.mono HBA.out.size))
      have HX1 := hide (told_kept HX0.out hb1)
      obtain ⟨a0, a1, a2, a3, a4, -⟩ := lists_block HX1.out
      clear hb1 c0 c1 c2 c3 c4 d9
      go_wp2_with fail
      refine (marked_true (.slice s2 (rlen + 1) q2) rn (rlen + 1) _ (K2.out _ hB1.out) (by omega) (by omega)).mono ?_
      rintro e w2 ⟨rfl, hb2⟩
      have hB2 := hide (hB1.out.trans (hb2.mono hB1.out.size))
      have HX2 := hide (told_kept HX1.out hb2)
      obtain ⟨b0, b1, b2, b3, b4, -⟩ := lists_block HX2.out
      clear hb2 a0 a1 a2 a3 a4
      go_wp2_with fail
      refine (marked_true (.slice s3 (rlen + 2) q3) rn (rlen + 2) _ (K3.out _ hB2.out) (by omega) (by omega)).mono ?_
      rintro e w3 ⟨rfl, hb3⟩
      have hB3 := hide (hB2.out.trans (hb3.mono hB2.out.size))
      have HX3 := hide (told_kept HX2.out hb3)
      obtain ⟨y0, y1, y2, y3, y4, -⟩ := lists_block HX3.out
      clear hb3 b0 b1 b2 b3 b4
      go_wp2_with fail
      refine (marked_true (.slice s4 (rlen + 3) q4) rn (rlen + 3) _ (K4.out _ hB3.out) (by omega) (by omega)).mono ?_
      rintro e w4 ⟨rfl, hb4⟩
      have hB4 := hide (hB3.out.trans (hb4.mono hB3.out.size))
      clear hb4 y0 y1 y2 y3 y4
      go_wp2
      go_roundw
      case rel => exact ⟨k + 1, by omega, rfl, by go_num, hB4.out⟩
      case measure => simp [intOf]; omega
    · have d10 := (hbel.cell (p := ⟨b, 10, none⟩) hblt).trans g10
      have d11 := (hbel.cell (p := ⟨b, 11, none⟩) hblt).trans g11
      have d12 := (hbel.cell (p := ⟨b, 12, none⟩) hblt).trans g12
      have d13 := (hbel.cell (p := ⟨b, 13, none⟩) hblt).trans g13
      clear g9 g10 g11 g12 g13
      go_wp2
      refine wp_loop_rounds 1 ?_
      rw [rounds_succ]
      go_wp2
      obtain ⟨w0, hw0⟩ : ∃ w0, w0 = wr := ⟨_, rfl⟩
      have hblt0 : b < w0.heap.size := by rw [hw0]; have := hbel.size; omega
      have hbel0 : Below w.heap.size w w0 := by rw [hw0]; exact hbel
      rw [← hw0] at d9 d10 d11 d12 d13 ⊢
      clear hbel hw0 d9 d10
      go_loopw [3, 8] (fun ok i wr => ∃ k : Nat, k ≤ hrs.length ∧ ok = .bool true ∧ i = .int .i64 k ∧ Below w0.heap.size w0 wr) (fun _ i _ => hrs.length - (intOf i).toNat)
      case atStart => exact ⟨0, Nat.zero_le _, rfl, rfl, Below.refl _ _⟩
      case round =>
        obtain ⟨j, hj, rfl, rfl, hbj⟩ := hrel
        have d11' := (hbj.cell (p := ⟨b, 11, none⟩) hblt0).trans d11
        have d12' := (hbj.cell (p := ⟨b, 12, none⟩) hblt0).trans d12
        have d13' := (hbj.cell (p := ⟨b, 13, none⟩) hblt0).trans d13
        clear d11 d12 d13
        have hbw := hbel0.trans (hbj.mono hbel0.size)
        by_cases hjl : j < hrs.length
        · obtain ⟨g, hg, hck⟩ := slice_some H.out.rowH (by omega)
          subst hg
          obtain ⟨r, hr⟩ : ∃ r, r = hrs[j] := ⟨_, rfl⟩
          have hrm : r ∈ hrs := by rw [hr]; exact List.getElem_mem _
          have hgl : g < w.heap.size := owns_lt H.out.rowH rfl
          obtain ⟨e0, e1, e2, e3, e4, e5⟩ := hrCells_get hjl
          rw [← hr] at e0 e1 e2 e3 e5
          have hrow := H.out.rowH
          have c0 : wr.cell? ⟨g, j * 6, none⟩ = some r.l := (hbw.cell (p := ⟨g, j * 6, none⟩) hgl).trans (by rw [hrow.cellAt _ (by omega)]; exact e0)
          have c1 : wr.cell? ⟨g, j * 6 + 1, none⟩ = some r.a := (hbw.cell (p := ⟨g, j * 6 + 1, none⟩) hgl).trans (by rw [hrow.cellAt _ (by omega)]; exact e1)
          have c2 : wr.cell? ⟨g, j * 6 + 2, none⟩ = some r.b := (hbw.cell (p := ⟨g, j * 6 + 2, none⟩) hgl).trans (by rw [hrow.cellAt _ (by omega)]; exact e2)
          have c3 : wr.cell? ⟨g, j * 6 + 3, none⟩ = some r.c := (hbw.cell (p := ⟨g, j * 6 + 3, none⟩) hgl).trans (by rw [hrow.cellAt _ (by omega)]; exact e3)
          have c4 : wr.cell? ⟨g, j * 6 + 4, none⟩ = some (.string markN) := (hbw.cell (p := ⟨g, j * 6 + 4, none⟩) hgl).trans (by rw [hrow.cellAt _ (by omega)]; exact e4)
          have c5 : wr.cell? ⟨g, j * 6 + 5, none⟩ = some (.string (markV r.n)) := (hbw.cell (p := ⟨g, j * 6 + 5, none⟩) hgl).trans (by rw [hrow.cellAt _ (by omega)]; exact e5)
          have hfam := H.out.famH r hrm
          have hrl := H.out.okH r hrm
          obtain ⟨rl, ra, rb, rc, rn, rlen⟩ := r
          simp only at c0 c1 c2 c3 c5 hrl
          have m1 : w.ownsRow 0 62 2 rl rlen (fillH markN (markV rn) rlen) := hfam.l
          have m2 : w.ownsRow 0 62 2 ra (rlen + 1) (fillH markN (markV rn) (rlen + 1)) := hfam.a
          have m3 : w.ownsRow 0 62 2 rb (rlen + 2) (fillH markN (markV rn) (rlen + 2)) := hfam.b
          have m4 : w.ownsRow 0 62 2 rc (rlen + 3) (fillH markN (markV rn) (rlen + 3)) := hfam.c
          clear hfam
          generalize markV rn = MV at *
          obtain ⟨s1, q1, rfl⟩ := slice_len m1
          obtain ⟨s2, q2, rfl⟩ := slice_len m2
          obtain ⟨s3, q3, rfl⟩ := slice_len m3
          obtain ⟨s4, q4, rfl⟩ := slice_len m4
          have K1 : Hid (∀ w', Below w.heap.size w w' → w'.ownsRow 0 62 2 (.slice s1 rlen q1) rlen (fillH markN MV rlen)) := fun w' hb' => owns_chg m1 (Chg.of_below (S := fun _ => False) hb') (fun _ _ => id)
          have K2 : Hid (∀ w', Below w.heap.size w w' → w'.ownsRow 0 62 2 (.slice s2 (rlen + 1) q2) (rlen + 1) (fillH markN MV (rlen + 1))) := fun w' hb' => owns_chg m2 (Chg.of_below (S := fun _ => False) hb') (fun _ _ => id)
          have K3 : Hid (∀ w', Below w.heap.size w w' → w'.ownsRow 0 62 2 (.slice s3 (rlen + 2) q3) (rlen + 2) (fillH markN MV (rlen + 2))) := fun w' hb' => owns_chg m3 (Chg.of_below (S := fun _ => False) hb') (fun _ _ => id)
          have K4 : Hid (∀ w', Below w.heap.size w w' → w'.ownsRow 0 62 2 (.slice s4 (rlen + 3) q4) (rlen + 3) (fillH markN MV (rlen + 3))) := fun w' hb' => owns_chg m4 (Chg.of_below (S := fun _ => False) hb') (fun _ _ => id)
          have HBJ := hide hbj
          have HB00 := hide hbel0
          have hbA : Below w0.heap.size w0 (wr.alloc (.cells #[.slice s1 rlen q1, .slice s2 (rlen + 1) q2, .slice s3 (rlen + 2) q3, .slice s4 (rlen + 3) q4, .string markN, .string MV] 72)) := hbj.alloc hbj.size _
          have HBA := hide hbA
          have hx0 := heap_alloc_new wr (.cells #[.slice s1 rlen q1, .slice s2 (rlen + 1) q2, .slice s3 (rlen + 2) q3, .slice s4 (rlen + 3) q4, .string markN, .string MV] 72)
          have HX0 := hide hx0
          clear hbA hx0 m1 m2 m3 m4 e0 e1 e2 e3 e4 e5 hr hrm hrow H hbw hbj hbel0
          go_wp2_with fail
          refine (allHeads_true (.slice s1 rlen q1) markN MV rlen _ (K1.out _ (HB00.out.trans (HBA.out.mono HB00.out.size))) (by omega)).mono ?_
          rintro e w1 ⟨rfl, hb1⟩
          have hB1 := hide (HBA.out.trans (hb1.mono HBA.out.size))
          have HX1 := hide (told_kept HX0.out hb1)
          obtain ⟨a0, a1, a2, a3, a4, a5, -⟩ := heads_block HX1.out
          clear hb1 c0 c1 c2 c3 c4 c5 d11' d12' d13'
          go_wp2_with fail
          refine (allHeads_true (.slice s2 (rlen + 1) q2) markN MV (rlen + 1) _ (K2.out _ (HB00.out.trans (hB1.out.mono HB00.out.size))) (by omega)).mono ?_
          rintro e w2 ⟨rfl, hb2⟩
          have hB2 := hide (hB1.out.trans (hb2.mono hB1.out.size))
          have HX2 := hide (told_kept HX1.out hb2)
          obtain ⟨b0, b1, b2, b3, b4, b5, -⟩ := heads_block HX2.out
          clear hb2 a0 a1 a2 a3 a4 a5
          go_wp2_with fail
          refine (allHeads_true (.slice s3 (rlen + 2) q3) markN MV (rlen + 2) _ (K3.out _ (HB00.out.trans (hB2.out.mono HB00.out.size))) (by omega)).mono ?_
          rintro e w3 ⟨rfl, hb3⟩
          have hB3 := hide (hB2.out.trans (hb3.mono hB2.out.size))
          have HX3 := hide (told_kept HX2.out hb3)
          obtain ⟨y0, y1, y2, y3, y4, y5, -⟩ := heads_block HX3.out
          clear hb3 b0 b1 b2 b3 b4 b5
          go_wp2_with fail
          refine (allHeads_true (.slice s4 (rlen + 3) q4) markN MV (rlen + 3) _ (K4.out _ (HB00.out.trans (hB3.out.mono HB00.out.size))) (by omega)).mono ?_
          rintro e w4 ⟨rfl, hb4⟩
          have hB4 := hide (hB3.out.trans (hb4.mono hB3.out.size))
          clear hb4 y0 y1 y2 y3 y4 y5
          go_wp2
          go_roundw
          case rel => exact ⟨j + 1, by omega, rfl, by go_num, hB4.out⟩
          case measure => simp [intOf]; omega
        · go_wp2
          refine wp_loop_rounds 1 ?_
          rw [rounds_succ]
          go_wp2
          refine wp_loop_rounds 1 ?_
          rw [rounds_succ]
          go_wp2
          go_ret
          exact ⟨rfl, hbw⟩
end Go.Proofs.YtghongdbohjaaaaGreatDoor
/-
  The document's reading of blocks, without the program, and that it is the program's. Nothing of the translation is imported.
-/
namespace Go.Proofs.YtghongdbohjaaaaGreatDoor
set_option linter.unusedVariables false
set_option linter.unusedSimpArgs false

/-- The next byte: what it is, the place behind it, whether there was none. -/
def oneB (l : List UInt8) (at_ : Nat) (no : Bool) : Nat × Nat × Bool := match l[at_]? with
  | none => (0, at_, true)
  | some c => (c.toNat, at_ + 1, no)
/-- What follows a count's first byte, as it is read: f bytes at most. -/
def cntT (l : List UInt8) : Nat → Nat → Nat → Nat → Nat → Bool → Nat × Nat × Bool
  | 0, _, _, _, at_, _ => (0, at_, true)
  | f + 1, i, n, by_, at_, no =>
    if (oneB l at_ no).1 < 128 then (n + (oneB l at_ no).1 % 128 * by_, (oneB l at_ no).2.1, (oneB l at_ no).2.2 || (decide (0 < i) && decide ((oneB l at_ no).1 = 0)))
    else cntT l f (i + 1) (n + (oneB l at_ no).1 % 128 * by_) (128 * by_) (oneB l at_ no).2.1 (oneB l at_ no).2.2
/-- A count in k bits, as it is read. -/
def cntR (l : List UInt8) (k at_ : Nat) (no : Bool) : Nat × Nat × Bool :=
  if (oneB l at_ no).1 % 2 ^ k < 2 ^ k - 1 then ((oneB l at_ no).1 % 2 ^ k, (oneB l at_ no).2.1, (oneB l at_ no).2.2)
  else cntT l 3 0 ((oneB l at_ no).1 % 2 ^ k) 1 (oneB l at_ no).2.1 (oneB l at_ no).2.2

theorem oneB_le (l : List UInt8) (at_ : Nat) (no : Bool) (ha : at_ ≤ l.length) : (oneB l at_ no).1 ≤ 255 ∧ (oneB l at_ no).2.1 ≤ l.length := by
  unfold oneB
  split
  · exact ⟨by omega, ha⟩
  · next c hc =>
    have := (List.getElem?_eq_some_iff.1 hc).1
    exact ⟨Nat.le_of_lt_succ c.toNat_lt, by show at_ + 1 ≤ _; omega⟩
theorem oneB_cons {l : List UInt8} {at_ : Nat} {c : UInt8} {r : List UInt8} (no : Bool) (h : l.drop at_ = c :: r) : oneB l at_ no = (c.toNat, at_ + 1, no) ∧ l.drop (at_ + 1) = r := by
  have h1 : l[at_]? = some c := by
    have := congrArg (fun x => x[0]?) h
    simpa using this
  refine ⟨by unfold oneB; rw [h1], ?_⟩
  have := congrArg (List.drop 1) h
  simpa [List.drop_drop, Nat.add_comm] using this
theorem oneB_nil {l : List UInt8} {at_ : Nat} (no : Bool) (h : l.drop at_ = []) : oneB l at_ no = (0, at_, true) := by
  unfold oneB
  rw [List.getElem?_eq_none (by simpa using h)]
theorem cntT_no (l : List UInt8) (f : Nat) : ∀ i n b at_, (cntT l f i n b at_ true).2.2 = true := by
  induction f with
  | zero => intros; rfl
  | succ f ih =>
    intro i n b at_
    have ho : (oneB l at_ true).2.2 = true := by unfold oneB; split <;> rfl
    simp only [cntT]
    split
    · simp [ho]
    · rw [ho]; exact ih _ _ _ _
theorem cntR_no (l : List UInt8) (k at_ : Nat) : (cntR l k at_ true).2.2 = true := by
  have ho : (oneB l at_ true).2.2 = true := by unfold oneB; split <;> rfl
  unfold cntR
  split
  · exact ho
  · rw [ho]; exact cntT_no _ _ _ _ _ _
theorem cntT_le (l : List UInt8) (f : Nat) : ∀ i n b at_ no, at_ ≤ l.length → (cntT l f i n b at_ no).2.1 ≤ l.length := by
  induction f with
  | zero => intro i n b at_ no h; exact h
  | succ f ih =>
    intro i n b at_ no h
    have ho := (oneB_le l at_ no h).2
    simp only [cntT]
    split
    · exact ho
    · exact ih _ _ _ _ _ ho
theorem cntR_le (l : List UInt8) (k at_ : Nat) (no : Bool) (h : at_ ≤ l.length) : (cntR l k at_ no).2.1 ≤ l.length := by
  have ho := (oneB_le l at_ no h).2
  unfold cntR
  split
  · exact ho
  · exact cntT_le _ _ _ _ _ _ _ ho
theorem cntT_more (l : List UInt8) (f : Nat) : ∀ i n at_, match rdMore f i n (l.drop at_) with
    | none => (cntT l f i n (2 ^ (7 * i)) at_ false).2.2 = true
    | some (m, q) => ∃ a, cntT l f i n (2 ^ (7 * i)) at_ false = (m, a, false) ∧ l.drop a = q ∧ at_ < a := by
  induction f with
  | zero => intro i n at_; simp [rdMore, cntT]
  | succ f ih =>
    intro i n at_
    cases hd : l.drop at_ with
    | nil =>
      simp only [rdMore, cntT, oneB_nil false hd]
      simp
    | cons c r =>
      obtain ⟨h1, h2⟩ := oneB_cons false hd
      simp only [rdMore, cntT, h1]
      by_cases hz : c.toNat = 0 ∧ 0 < i
      · rw [if_pos hz]
        simp [hz.1, hz.2]
      · rw [if_neg hz]
        by_cases hl : c.toNat < 128
        · rw [if_pos hl, if_pos hl]
          refine ⟨at_ + 1, ?_, h2, by omega⟩
          have : (decide (0 < i) && decide (c.toNat = 0)) = false := by
            by_cases a : 0 < i
            · have b : ¬ c.toNat = 0 := fun b => hz ⟨b, a⟩
              simp [b]
            · simp [a]
          simp [this]
        · rw [if_neg hl, if_neg hl]
          have h3 := ih (i + 1) (n + c.toNat % 128 * 2 ^ (7 * i)) (at_ + 1)
          rw [h2] at h3
          have e : 2 ^ (7 * (i + 1)) = 128 * 2 ^ (7 * i) := by rw [Nat.mul_add, Nat.mul_one, Nat.pow_add, Nat.mul_comm]
          rw [e] at h3
          cases hr : rdMore f (i + 1) (n + c.toNat % 128 * 2 ^ (7 * i)) r with
          | none => rw [hr] at h3; exact h3
          | some p =>
            rw [hr] at h3
            obtain ⟨m, q⟩ := p
            obtain ⟨a, a1, a2, a3⟩ := h3
            exact ⟨a, a1, a2, by omega⟩
/-- A count, by what is left. -/
theorem cntR_some {l : List UInt8} {k at_ : Nat} {c : UInt8} {r : List UInt8} (hd : l.drop at_ = c :: r) : match rdCnt k c r with
    | none => (cntR l k at_ false).2.2 = true
    | some (m, q) => ∃ a, cntR l k at_ false = (m, a, false) ∧ l.drop a = q ∧ at_ < a := by
  obtain ⟨h1, h2⟩ := oneB_cons false hd
  unfold rdCnt cntR
  rw [h1]
  simp only
  by_cases hc : c.toNat % 2 ^ k < 2 ^ k - 1
  · rw [if_pos hc, if_pos hc]
    exact ⟨at_ + 1, rfl, h2, by omega⟩
  · rw [if_neg hc, if_neg hc]
    have h3 := cntT_more l 3 0 (c.toNat % 2 ^ k) (at_ + 1)
    rw [h2] at h3
    simp only [Nat.mul_zero, Nat.pow_zero] at h3
    cases hr : rdMore 3 0 (c.toNat % 2 ^ k) r with
    | none => rw [hr] at h3; exact h3
    | some p =>
      rw [hr] at h3
      obtain ⟨m, q⟩ := p
      obtain ⟨a, a1, a2, a3⟩ := h3
      exact ⟨a, a1, a2, by omega⟩
theorem cntR_none {l : List UInt8} {k at_ : Nat} (hk : 2 ≤ k) (hd : l.drop at_ = []) : (cntR l k at_ false).2.2 = true := by
  unfold cntR
  rw [oneB_nil false hd]
  have : 4 ≤ 2 ^ k := by
    have := Nat.pow_le_pow_right (show 0 < 2 by omega) hk
    simpa using this
  simp only
  rw [if_pos (by rw [Nat.zero_mod]; omega)]

/-- Does s begin with t? -/
def begB (s t : List Bool) : Bool := decide (t.length ≤ s.length) && decide (s.take t.length = t)
theorem begB_iff (s t : List Bool) : begB s t = true ↔ ∃ r, s = t ++ r := by
  unfold begB
  rw [Bool.and_eq_true, decide_eq_true_eq, decide_eq_true_eq]
  constructor
  · rintro ⟨h1, h2⟩
    exact ⟨s.drop t.length, by conv => lhs; rw [← List.take_append_drop t.length s, h2]⟩
  · rintro ⟨r, rfl⟩
    exact ⟨by simp, by simp⟩
/-- The byte that stands next, from c on, k of them to try. -/
def tryC (s : List Bool) : Nat → Nat → Option Nat
  | 0, _ => none
  | k + 1, c => if begB s (codeB (UInt8.ofNat c)) then some c else tryC s k (c + 1)
def findC (s : List Bool) : Option Nat := tryC s 256 0
def onesB (s : List Bool) : Bool := decide (s.length < 8) && decide (s = List.replicate s.length true)
theorem tryC_some {s : List Bool} {k c n : Nat} (h : tryC s k c = some n) : begB s (codeB (UInt8.ofNat n)) = true ∧ c ≤ n ∧ n < c + k := by
  induction k generalizing c with
  | zero => simp [tryC] at h
  | succ k ih =>
    simp only [tryC] at h
    split at h
    · next hb => simp at h; subst h; exact ⟨hb, by omega, by omega⟩
    · obtain ⟨a, b, d⟩ := ih h; exact ⟨a, by omega, by omega⟩
theorem tryC_none {s : List Bool} {k c : Nat} (h : tryC s k c = none) : ∀ n, c ≤ n → n < c + k → begB s (codeB (UInt8.ofNat n)) = false := by
  induction k generalizing c with
  | zero => intro n h1 h2; omega
  | succ k ih =>
    simp only [tryC] at h
    split at h
    · simp at h
    · next hb =>
      intro n h1 h2
      by_cases e : n = c
      · subst e; simpa using hb
      · exact ih h n (by omega) (by omega)
theorem decB_inv {s : List Bool} {c : UInt8} {r : List Bool} (h : decB s = some (c, r)) : s = codeB c ++ r := by
  have take_of : ∀ {a b : Nat}, a + b ≤ s.length → natBits b (valB ((s.drop a).take b)) = (s.drop a).take b := by
    intro a b hab
    have := natBits_valB ((s.drop a).take b)
    rw [List.length_take, List.length_drop, Nat.min_eq_left (by omega)] at this
    exact this
  have one : ∀ {a : Nat}, a + 1 ≤ s.length → ∃ x, (s.drop a).take 1 = [x] ∧ valB ((s.drop a).take 1) = x.toNat := by
    intro a ha
    have e : (s.drop a).take 1 = [s[a]] := by rw [List.drop_eq_getElem_cons (by omega)]; rfl
    exact ⟨s[a], e, by rw [e]; simp [valB]⟩
  have cut : ∀ {a b : Nat}, s.drop a = (s.drop a).take b ++ s.drop (a + b) := by
    intro a b
    rw [← List.drop_drop]
    exact (List.take_append_drop b (s.drop a)).symm
  unfold decB at h
  split at h
  · simp at h
  next h1 =>
  have h1' : 1 ≤ s.length := by omega
  obtain ⟨x, hx1, hx2⟩ := one (a := 0) (by omega)
  rw [List.drop_zero] at hx1 hx2
  have s0 : s = [x] ++ s.drop 1 := by
    have := cut (a := 0) (b := 1)
    rw [List.drop_zero, hx1] at this
    exact this
  split at h
  · next h2 =>
    rw [hx2] at h2
    have hx0 : x = false := by cases x with | false => rfl | true => simp at h2
    split at h
    · simp at h
    next h3 =>
    simp only [Option.some.injEq, Prod.mk.injEq] at h
    obtain ⟨hc, hr⟩ := h
    have hb := take_of (a := 1) (b := 3) (by omega)
    have hv := valB_lt ((s.drop 1).take 3)
    rw [List.length_take, List.length_drop, Nat.min_eq_left (by omega)] at hv
    have hcut := cut (a := 1) (b := 3)
    rw [← hb] at hcut
    generalize valB ((s.drop 1).take 3) = v at hb hv hc hcut
    have hcode : codeB c = false :: natBits 3 v := by
      subst hc
      have : v = 0 ∨ v = 1 ∨ v = 2 ∨ v = 3 ∨ v = 4 ∨ v = 5 ∨ v = 6 ∨ v = 7 := by omega
      rcases this with rfl | rfl | rfl | rfl | rfl | rfl | rfl | rfl <;> decide
    rw [hcode, ← hr]
    rw [hx0, hcut] at s0
    exact s0
  · next h2 =>
    rw [hx2] at h2
    have hx0 : x = true := by cases x with | true => rfl | false => simp at h2
    split at h
    · simp at h
    next h3 =>
    obtain ⟨y, hy1, hy2⟩ := one (a := 1) (by omega)
    have s1 : s.drop 1 = [y] ++ s.drop 2 := by
      have := cut (a := 1) (b := 1)
      rw [hy1] at this
      exact this
    split at h
    · next h4 =>
      rw [hy2] at h4
      have hy0 : y = false := by cases y with | false => rfl | true => simp at h4
      split at h
      · simp at h
      next h5 =>
      simp only [Option.some.injEq, Prod.mk.injEq] at h
      obtain ⟨hc, hr⟩ := h
      have hb := take_of (a := 2) (b := 4) (by omega)
      have hv := valB_lt ((s.drop 2).take 4)
      rw [List.length_take, List.length_drop, Nat.min_eq_left (by omega)] at hv
      have hcut := cut (a := 2) (b := 4)
      rw [← hb] at hcut
      generalize valB ((s.drop 2).take 4) = v at hb hv hc hcut
      have hcode : codeB c = true :: false :: natBits 4 v := by
        subst hc
        have : v = 0 ∨ v = 1 ∨ v = 2 ∨ v = 3 ∨ v = 4 ∨ v = 5 ∨ v = 6 ∨ v = 7 ∨ v = 8 ∨ v = 9 ∨ v = 10 ∨ v = 11 ∨ v = 12 ∨ v = 13 ∨ v = 14 ∨ v = 15 := by omega
        rcases this with rfl | rfl | rfl | rfl | rfl | rfl | rfl | rfl | rfl | rfl | rfl | rfl | rfl | rfl | rfl | rfl <;> decide
      rw [hcode, ← hr]
      rw [hy0, hcut] at s1
      rw [hx0, s1] at s0
      exact s0
    · next h4 =>
      rw [hy2] at h4
      have hy0 : y = true := by cases y with | true => rfl | false => simp at h4
      split at h
      · simp at h
      next h5 =>
      split at h
      · simp at h
      next h6 =>
      simp only [Option.some.injEq, Prod.mk.injEq] at h
      obtain ⟨hc, hr⟩ := h
      have hb := take_of (a := 2) (b := 8) (by omega)
      have hv := valB_lt ((s.drop 2).take 8)
      rw [List.length_take, List.length_drop, Nat.min_eq_left (by omega)] at hv
      have hcut := cut (a := 2) (b := 8)
      rw [← hb] at hcut
      rw [hc] at h6
      have hcn : c.toNat = valB ((s.drop 2).take 8) := by rw [← hc]; exact u8_ofNat (by simpa using hv)
      have hcode : codeB c = true :: true :: natBits 8 c.toNat := by
        unfold codeB at h6 ⊢
        cases e1 : pl oft c with
        | some k => rw [e1] at h6; simp [natBits_length] at h6
        | none =>
          cases e2 : pl sel c with
          | some k => rw [e1, e2] at h6; simp [natBits_length] at h6
          | none => rfl
      rw [hcode, ← hr, hcn]
      rw [hy0, hcut] at s1
      rw [hx0, s1] at s0
      exact s0
theorem find_dec (s : List Bool) : match decB s with
    | none => findC s = none
    | some (c, r) => findC s = some c.toNat ∧ r = s.drop (codeB c).length := by
  cases hd : decB s with
  | none =>
    cases hf : findC s with
    | none => rfl
    | some n =>
      obtain ⟨h1, _, h2⟩ := tryC_some hf
      obtain ⟨r, hr⟩ := (begB_iff _ _).1 h1
      have := decB_code (UInt8.ofNat n) r
      rw [← hr, hd] at this
      simp at this
  | some p =>
    obtain ⟨c, r⟩ := p
    have hs := decB_inv hd
    refine ⟨?_, by rw [hs]; simp⟩
    cases hf : findC s with
    | none =>
      have := tryC_none hf c.toNat (Nat.zero_le _) (by have := c.toNat_lt; omega)
      have h2 : begB s (codeB c) = true := (begB_iff _ _).2 ⟨r, hs⟩
      simp [h2] at this
    | some n =>
      obtain ⟨h1, _, h2⟩ := tryC_some hf
      obtain ⟨r', hr⟩ := (begB_iff _ _).1 h1
      have h3 := decB_code (UInt8.ofNat n) r'
      rw [← hr, hd] at h3
      simp only [Option.some.injEq, Prod.mk.injEq] at h3
      rw [h3.1, u8_ofNat (by omega)]
theorem valB_ones (l : List Bool) : valB l + 1 = 2 ^ l.length ↔ l = List.replicate l.length true := by
  constructor
  · intro h
    have h1 := natBits_valB l
    have h2 := natBits_valB (List.replicate l.length true)
    have h3 : valB (List.replicate l.length true) + 1 = 2 ^ l.length := by
      generalize l.length = n
      induction n with
      | zero => rfl
      | succ n ih => rw [List.replicate_succ', valB_next, Nat.pow_succ]; simp; omega
    rw [List.length_replicate] at h2
    have e : valB l = valB (List.replicate l.length true) := by omega
    rw [e, h2] at h1
    exact h1.symm
  · intro h
    rw [h]
    simp only [List.length_replicate]
    generalize l.length = n
    induction n with
    | zero => rfl
    | succ n ih => rw [List.replicate_succ', valB_next, Nat.pow_succ]; simp; omega
theorem onesB_fill (s : List Bool) : onesB s = fillB s := by
  unfold onesB fillB
  congr 1
  exact decide_eq_decide.2 (valB_ones s).symm

/-- A text, as it is read: the text, the place behind it, whether it is none. -/
def txtR (l : List UInt8) (at_ : Nat) (no : Bool) : List UInt8 × Nat × Bool :=
  if (cntR l 7 at_ no).2.2 || decide (l.length - (cntR l 7 at_ no).2.1 < (cntR l 7 at_ no).1) then ([], (cntR l 7 at_ no).2.1, true)
  else if decide (128 ≤ (oneB l at_ no).1) then (match unpB (bitsB ((l.drop (cntR l 7 at_ no).2.1).take (cntR l 7 at_ no).1)) with
    | none => ([], (cntR l 7 at_ no).2.1 + (cntR l 7 at_ no).1, true)
    | some t => (t, (cntR l 7 at_ no).2.1 + (cntR l 7 at_ no).1, false))
  else ((l.drop (cntR l 7 at_ no).2.1).take (cntR l 7 at_ no).1, (cntR l 7 at_ no).2.1 + (cntR l 7 at_ no).1, false)
theorem txtR_no (l : List UInt8) (at_ : Nat) : (txtR l at_ true).2.2 = true := by
  unfold txtR
  rw [cntR_no]
  simp
theorem txtR_le (l : List UInt8) (at_ : Nat) (no : Bool) (h : at_ ≤ l.length) : (txtR l at_ no).2.1 ≤ l.length := by
  have hq := cntR_le l 7 at_ no h
  unfold txtR
  split
  · exact hq
  · next hc =>
    simp only [Bool.or_eq_true, decide_eq_true_eq, not_or, Nat.not_lt] at hc
    split
    · split
      · show _ + _ ≤ _; omega
      · show _ + _ ≤ _; omega
    · show _ + _ ≤ _; omega
theorem txtR_some (l : List UInt8) (at_ : Nat) : match rdTxt (l.drop at_) with
    | none => (txtR l at_ false).2.2 = true
    | some (t, q) => ∃ a, txtR l at_ false = (t, a, false) ∧ l.drop a = q := by
  cases hd : l.drop at_ with
  | nil =>
    simp only [rdTxt]
    unfold txtR
    rw [cntR_none (by omega) hd]
    simp
  | cons c r =>
    have hc := cntR_some (k := 7) hd
    obtain ⟨h1, h2⟩ := oneB_cons false hd
    simp only [rdTxt]
    cases hr : rdCnt 7 c r with
    | none =>
      rw [hr] at hc
      simp only at hc ⊢
      unfold txtR
      rw [hc]
      simp
    | some p =>
      obtain ⟨n, q⟩ := p
      rw [hr] at hc
      obtain ⟨a, a1, a2, a3⟩ := hc
      simp only
      have hlen : q.length = l.length - a := by rw [← a2]; simp
      unfold txtR
      rw [a1, h1]
      simp only [Bool.false_or, decide_eq_true_eq]
      rw [hlen]
      by_cases hn : l.length - a < n
      · rw [if_pos hn, if_pos hn]
      · rw [if_neg hn, if_neg hn, a2]
        have hq : l.drop (a + n) = q.drop n := by rw [← a2, List.drop_drop]
        by_cases h8 : 128 ≤ c.toNat
        · rw [if_pos h8, if_pos h8]
          cases hu : unpB (bitsB (q.take n)) with
          | none => rfl
          | some t => exact ⟨a + n, rfl, hq⟩
        · rw [if_neg h8, if_neg h8]
          exact ⟨a + n, rfl, hq⟩
end Go.Proofs.YtghongdbohjaaaaGreatDoor
