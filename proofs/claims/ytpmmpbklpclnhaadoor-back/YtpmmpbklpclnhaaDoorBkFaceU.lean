import Derived.Test.YtpmmpbklpclnhaaDoorBkUnpack
import Derived.Test.YtpmmpbklpclnhaaDoorBkFaceP
import Derived.Defers
import Derived.Recover
set_option linter.unusedVariables false
set_option linter.unusedSimpArgs false
/-
  Package sluice: NewUnpacker, Unpack (where there is a list), the sizes.
-/
namespace Go.Proofs.YtpmmpbklpclnhaaDoor
set_option linter.unusedVariables false
set_option linter.unusedSimpArgs false
open Go.RowKit

/-- An unpacker that is not broken. -/
structure UpS (w : World) (ub : Nat) (cs : Array Value) (tv : Value) (u : Up) : Prop where
  st : TbS w ub cs 55 u.lim tv u.tab
  c3 : cs[3]? = some (.int .i64 (u.most : Int))
  c4 : cs[4]? = some (.bool false)
  most : u.most ≤ 256
theorem UpS.chg {S : Nat → Prop} {w w' : World} {ub : Nat} {cs : Array Value} {tv : Value} {u : Up} (h : UpS w ub cs tv u) (hc : Chg S w w') (h1 : ¬ S ub) (h2 : ∀ j, tv.ownBlock = some j → ¬ S j) : UpS w' ub cs tv u := ⟨h.st.chg hc h1 h2, h.c3, h.c4, h.most⟩

def newUs (n : Nat) : Array Value := #[.int .i64 (n : Int), .int .i64 0, .slice none 0 0, .int .i64 (n : Int), .bool false]
set_option maxRecDepth 100000 in
set_option maxHeartbeats 400000 in
theorem bNewUnpacker_any (n : Int) (w : World) : Calls Tryd.prog 14 #[.int .i64 n] w fun e w' => e = .returned (.agg #[.int .i64 n, .int .i64 0, .slice none 0 0, .int .i64 n]) ∧ Below w.heap.size w w' := by
  go_enter Tryd.func14, Tryd.ntmps14
  go_wp2
  refine bodyPost_ret (v := .agg #[.int .i64 n, .int .i64 0, .slice none 0 0, .int .i64 n]) ?_ rfl ⟨rfl, ?_⟩
  · simp [results, Tryd.results14, go_sem]
  · exact (Below.refl _ _).alloc (Nat.le_refl _) _
set_option maxRecDepth 100000 in
set_option maxHeartbeats 800000 in
theorem newUnpacker_ok (n : Nat) (w : World) (hn : n ≤ 256) : Calls Tryd.prog 6 #[.int .i64 n] w fun e w' => ∃ pb, e = .returned (.tuple #[.pointer (some ⟨pb, 0, none⟩), .int .i64 0]) ∧ w.heap.size ≤ pb ∧ Below w.heap.size w w' ∧ UpS w' pb (newUs n) (.slice none 0 0) ⟨n, [], n⟩ := by
  have hlf := limitFits_any (n : Int) w
  have hlb : limB (n : Int) = true := by simp [limB]; omega
  rw [hlb] at hlf
  have HLF := hide hlf
  have HNP := hide (fun wx => bNewUnpacker_any (n : Int) wx)
  clear hlf hlb
  go_enter Tryd.func6, Tryd.ntmps6
  go_wp2_with fail
  refine HLF.out.mono ?_
  rintro e w1 ⟨rfl, hw1⟩
  rw [hw1]
  clear hw1 w1
  go_wp2_with fail
  refine (HNP.out _).mono ?_
  rintro e w1 ⟨rfl, hb1⟩
  have HB1 := hide hb1
  clear hb1
  go_wp2
  refine bodyPost_ret (v := .tuple #[.pointer (some ⟨w1.heap.size, 0, none⟩), .int .i64 0]) ?_ rfl ⟨w1.heap.size, rfl, HB1.out.size, HB1.out.trans (((Below.refl _ _).alloc (Nat.le_refl _) _).mono HB1.out.size), ?_⟩
  · simp [results, Tryd.results6, go_sem]
  · exact ⟨⟨⟨heap_alloc_new w1 _, rfl, rfl, rfl, by decide⟩, World.ownsRow_nil _ _ _ _, Nat.zero_le _, hn⟩, rfl, rfl, hn⟩

set_option maxRecDepth 100000 in
set_option maxHeartbeats 400000 in
theorem bUSize_any (pb : Nat) (cs : Array Value) (tP : TypeId) (lim : Nat) (tv : Value) (tab : List HP) (w : World) (h : TbS w pb cs tP lim tv tab) : Calls Tryd.prog 26 #[.pointer (some ⟨pb, 0, none⟩)] w fun e w' => e = .returned (.int .i64 (szT tab : Int)) ∧ w' = w := by
  obtain ⟨-, z1, -⟩ := h.tb.cells
  clear h
  go_enter Tryd.func26, Tryd.ntmps26
  go_wp2
  go_ret
  exact ⟨rfl, rfl⟩
set_option maxRecDepth 100000 in
set_option maxHeartbeats 400000 in
theorem usize_any (pb : Nat) (cs : Array Value) (tP : TypeId) (lim : Nat) (tv : Value) (tab : List HP) (w : World) (h : TbS w pb cs tP lim tv tab) : Calls Tryd.prog 18 #[.pointer (some ⟨pb, 0, none⟩)] w fun e w' => e = .returned (.int .i64 (szT tab : Int)) ∧ w' = w := by
  have H := hide (bUSize_any pb cs tP lim tv tab w h)
  clear h
  go_enter Tryd.func18, Tryd.ntmps18
  go_wp2_with fail
  refine H.out.mono ?_
  rintro e w1 ⟨rfl, hw1⟩
  rw [hw1]
  clear hw1 w1
  go_wp2
  go_ret
  exact ⟨rfl, rfl⟩

set_option maxRecDepth 100000 in
set_option maxHeartbeats 400000 in
theorem uclos_idle (fa ra : Nat) (w : World) :
    CallsD Tryd.prog 22 #[.pointer (some ⟨fa, 0, none⟩), .pointer (some ⟨ra, 0, none⟩)] .returning w fun e u' w' => e = .returned (.tuple #[]) ∧ u' = .returning ∧ w' = w := by
  refine callsD_of_wpS Tryd.func22 rfl fun c₀ cs hu => ?_
  apply wpS_seq
  apply wpS_region
  simp [wpOpsS, go_sem, recoverD, hu, Tryd.ntmps22, Exit.thenS]
  refine wpS_of_wp ?_
  change Code.wp Tryd.prog _ _ ⟨#[.pointer (some ⟨fa, 0, none⟩), .pointer (some ⟨ra, 0, none⟩), .nilIface, .nilIface, undef, undef, undef, undef, undef, undef, undef], []⟩ w
  go_wp2
  cases c₀
  simp_all [bodyPostS, results, Tryd.results22]

theorem Unpd.out {w wA w1 : World} {ub : Nat} {cs cs' : Array Value} {tP : TypeId} {lim : Nat} {tv tv' : Value} {tab : List HP} {lv : Value} {hs : List HP} (h : Unpd wA w1 ub cs cs' tP lim tv tv' tab lv hs) (hb : Below w.heap.size w wA) {b : Nat} {bs : Array Value} {t : TypeId} {f : Nat × Nat} (hx : w1.heap[b]? = some (.cells bs t f)) (ht : t ≠ 33) (hbw : w.heap.size ≤ b) (hub : ub < w.heap.size) (u : Value) : Unpd w (w1.setCell ⟨b, 0, none⟩ u) ub cs cs' tP lim tv tv' tab lv hs := by
  have hc : Chg (fun j => j = b) w1 (w1.setCell ⟨b, 0, none⟩ u) := (Chg.refl (fun j => j = b) w1).setCell (p := ⟨b, 0, none⟩) (Or.inr rfl) _
  refine ⟨h.st.chg hc (by omega) (fun j hj e => owns_ne h.st.row hx (fun e => ht e.symm) (e ▸ hj)), h.cs3, ((Chg.of_below hb).trans (h.chg.mono fun j _ e => Or.inr e)).trans (hc.mono fun j _ e => Or.inl (by omega)), fun j hj => (h.tfresh j hj).imp_right fun e => Nat.le_trans hb.size e, owns_base (owns_chg h.row hc (fun j hj e => owns_ne h.row hx (fun e => ht e.symm) (e ▸ hj))) (fun j hj => Nat.le_trans hb.size (h.row.lt j hj).1), h.ap⟩

set_option maxRecDepth 100000 in
set_option maxHeartbeats 800000 in
theorem unpack_ok (ub : Nat) (cs : Array Value) (tv : Value) (u : Up) (bv : Value) (b : List UInt8) (hs : List HP) (lim' : Nat) (tab' : List HP) (w : World) (hgl : Gl w) (h : UpS w ub cs tv u) (hb : BytesIn w bv b) (hbu : bv.ownBlock ≠ some ub) (hbt : ∀ j, bv.ownBlock = some j → tv.ownBlock ≠ some j) (hl : b.length ≤ 134217728) (hub : 7 ≤ ub) (htv : ∀ j, tv.ownBlock = some j → 7 ≤ j) (hq : u.unpack b = some (hs, lim', tab')) :
    Calls Tryd.prog 15 #[.pointer (some ⟨ub, 0, none⟩), bv] w fun e w' => ∃ lv cs' tv', e = .returned (.tuple #[lv, .int .i64 0]) ∧ Unpd w w' ub cs cs' 55 lim' tv tv' tab' lv hs := by
  have hbA : Below w.heap.size w ((w.alloc (.cells #[.pointer (some ⟨ub, 0, none⟩)] 28)).alloc (.cells #[.int .i64 0] 25)) := ((Below.refl _ _).alloc (Nat.le_refl _) _).alloc (by simp) _
  have hA : ((w.alloc (.cells #[.pointer (some ⟨ub, 0, none⟩)] 28)).alloc (.cells #[.int .i64 0] 25)).heap[w.heap.size]? = some (.cells #[.pointer (some ⟨ub, 0, none⟩)] 28 (0, 0)) := by
    rw [Below.heap_alloc _ _ _ (by simp)]; exact heap_alloc_new w _
  have hB : ((w.alloc (.cells #[.pointer (some ⟨ub, 0, none⟩)] 28)).alloc (.cells #[.int .i64 0] 25)).heap[w.heap.size + 1]? = some (.cells #[.int .i64 0] 25 (0, 0)) := by
    have := heap_alloc_new (w.alloc (.cells #[.pointer (some ⟨ub, 0, none⟩)] 28)) (.cells #[.int .i64 0] 25)
    simpa using this
  have hst := h.st.below hbA
  have hun := bUnpack_ok ub cs 55 u.lim tv u.tab u.most bv b hs lim' tab' _ (hgl.below hbA) hst h.c3 h.most (hb.chg (Chg.of_below (S := fun _ => False) hbA) (fun _ _ => id)) hbu hbt hl hub htv (by decide) hq
  have c4 : ((w.alloc (.cells #[.pointer (some ⟨ub, 0, none⟩)] 28)).alloc (.cells #[.int .i64 0] 25)).cell? ⟨ub, 4, none⟩ = some (.bool false) := by rw [cell_of_row _ _ _ _ _ _ hst.tb.blk]; exact h.c4
  have hbw := lt_of_block h.st.tb.blk
  have htw : ∀ j, tv.ownBlock = some j → j < w.heap.size := fun j hj => owns_lt h.st.row hj
  obtain ⟨sv, cv, hv, _⟩ := bytesIn_len hb
  subst hv
  have HUN := hide hun
  have HBA := hide hbA
  have HA := hide hA
  have HB := hide hB
  have HTW := hide htw
  clear hun hbA hA hB hgl h hb hbu hbt htv hq hst htw
  go_enter_defers Tryd.func15, Tryd.ntmps15
  go_wp2_with fail
  refine HUN.out.mono ?_
  rintro e w1 ⟨lv, cs1, tv1, rfl, h1⟩
  have hB1 : w1.heap[w.heap.size + 1]? = some (.cells #[.int .i64 0] 25 (0, 0)) := by
    rw [h1.chg.block _ (lt_of_block HB.out) (by rintro (e | e); omega; have := HTW.out _ e; omega)]; exact HB.out
  have c0 := cell_of_one hB1
  have f0 := free_of_one hB1
  have H1 := hide h1
  have HB1 := hide hB1
  clear h1 hB1
  go_wp2
  refine leaves_cons (f := 22) (args := #[.pointer (some ⟨w.heap.size + 1, 0, none⟩), .pointer (some ⟨w.heap.size, 0, none⟩)]) (by simp) (by simp [go_sem]) ?_
  refine (uclos_idle (w.heap.size + 1) w.heap.size _).mono ?_
  rintro e u' w'' ⟨rfl, rfl, rfl⟩
  refine ⟨.tuple #[lv, .int .i64 0], ?_, ?_⟩
  · simp [results, Tryd.results15, go_sem, c0]
  · exact ⟨lv, cs1, tv1, rfl, H1.out.out HBA.out HB1.out (by decide) (by omega) hbw _⟩

end Go.Proofs.YtpmmpbklpclnhaaDoor
