import Derived.Test.YtdccldbefdfppaaGreatDoorQGat
import Derived.Test.YtdccldbefdfppaaGreatDoorQGap
import Derived.Test.YtdccldbefdfppaaGreatDoorQGam
import Derived.Test.YtdccldbefdfppaaGreatDoorQGad
import Derived.BigRegion
set_option linter.unusedVariables false
set_option linter.unusedSimpArgs false
/-
  The law's own: split.
-/
namespace Go.Proofs.YtdccldbefdfppaaGreatDoor
set_option linter.unusedVariables false
set_option linter.unusedSimpArgs false
open Go.RowKit

/-- Frames of which a head can tell all. -/
structure FrFits (f : Fr) : Prop where
  k0 : 0 ≤ f.kind
  k1 : f.kind ≤ 255
  f0 : 0 ≤ f.flags
  f1 : f.flags ≤ 255
  s0 : 0 ≤ f.stream
  s1 : f.stream ≤ 32767
  n : f.body.length ≤ 64
def layFs (fs : List Fr) : List UInt8 := fs.flatMap fun f => lay f.kind f.flags f.stream f.body
def spC (p : Fr × Value) : List Value := [.int .i64 p.1.kind, .int .i64 p.1.flags, .int .i64 p.1.stream, p.2]
/-- What split answers. -/
structure SplitS (w w' : World) (fs : List Fr) (v : Value) (ps : List (Fr × Value)) : Prop where
  fst : ps.map Prod.fst = fs
  row : w'.ownsRow w.heap.size 48 4 v ps.length (ps.flatMap spC)
  body : ∀ p ∈ ps, BytesIn w p.2 p.1.body
  bel : Below w.heap.size w w'
theorem head_cells {w : World} {bb off : Nat} {f : Fr} {r : List UInt8} {l : List UInt8} (hl : l = lay f.kind f.flags f.stream f.body ++ r) (hf : FrFits f) (h4 : ∀ i, i < l.length → w.cell? ⟨bb, off + i, none⟩ = some (.int .u8 (l.getD i 0).toNat)) :
    w.cell? ⟨bb, off, none⟩ = some (.int .u8 0) ∧ w.cell? ⟨bb, off + 1, none⟩ = some (.int .u8 (f.body.length : Int)) ∧ w.cell? ⟨bb, off + 2, none⟩ = some (.int .u8 f.kind) ∧ w.cell? ⟨bb, off + 3, none⟩ = some (.int .u8 f.flags) ∧ w.cell? ⟨bb, off + 4, none⟩ = some (.int .u8 (f.stream / 256)) ∧ w.cell? ⟨bb, off + 5, none⟩ = some (.int .u8 (f.stream % 256)) := by
  have hlen : 6 ≤ l.length := by rw [hl, List.length_append, lay_length]; omega
  obtain ⟨k0, k1, f0, f1, s0, s1, n⟩ := hf
  have e : ∀ i x, l.getD i 0 = ofI x → 0 ≤ x → x ≤ 255 → i < l.length → w.cell? ⟨bb, off + i, none⟩ = some (.int .u8 x) := fun i x h1 h2 h3 hi => by
    rw [h4 i hi, h1, ofI_toNat h2 h3]
  refine ⟨?_, ?_, ?_, ?_, ?_, ?_⟩
  · have := e 0 ((f.body.length : Int) / 256) (by rw [hl]; rfl) (by omega) (by omega) (by omega)
    rw [Nat.add_zero] at this
    rw [this]
    congr 2
    omega
  · exact e 1 _ (by rw [hl]; rfl) (by omega) (by omega) (by omega)
  · exact e 2 _ (by rw [hl]; rfl) k0 k1 (by omega)
  · exact e 3 _ (by rw [hl]; rfl) f0 f1 (by omega)
  · exact e 4 _ (by rw [hl]; rfl) (by omega) (by omega) (by omega)
  · exact e 5 _ (by rw [hl]; rfl) (by omega) (by omega) (by omega)
theorem bytes_cut {w : World} {bb off cap : Nat} {l : List UInt8} (hb : bb < w.heap.size) (hl : l.length ≤ cap) (h4 : ∀ i, i < l.length → w.cell? ⟨bb, off + i, none⟩ = some (.int .u8 (l.getD i 0).toNat)) (a n : Nat) (h : a + n ≤ l.length) (c : Nat) (hc : n ≤ c) : BytesIn w (.slice (some ⟨bb, off + a, none⟩) n c) ((l.drop a).take n) := by
  have e : ((l.drop a).take n).length = n := by rw [List.length_take, List.length_drop]; omega
  refine Or.inr ⟨bb, off + a, c, by rw [e], hb, by rw [e]; exact hc, fun i hi => ?_⟩
  rw [e] at hi
  rw [Nat.add_assoc, h4 (a + i) (by omega)]
  simp [List.getD, List.getElem?_take, hi, List.getElem?_drop]

set_option maxRecDepth 100000 in
set_option maxHeartbeats 1200000 in
theorem ksplit_all (sv : Option Addr) (cap : Nat) (fs : List Fr) (w : World) (hf : ∀ f ∈ fs, FrFits f) (hfl : fs.length ≤ 1048576) (hb : BytesIn w (.slice sv (layFs fs).length cap) (layFs fs)) :
    Calls Tryz.prog 22 #[.slice sv (layFs fs).length cap] w fun e w' => ∃ v ps, e = .returned (.tuple #[v, .bool true]) ∧ SplitS w w' fs v ps ∧ ∀ p ∈ ps, ∀ j, p.2.ownBlock = some j → (Value.slice sv (layFs fs).length cap).ownBlock = some j := by
  obtain ⟨i0, hi, hz0, hz1, hz2⟩ := info_parts Tryz.info48
  have HFS := hide hf
  have HB := hide hb
  clear hf hb
  go_enter Tryz.func22, Tryz.ntmps22
  go_wp2
  go_loopw [0, 4] (fun b l wr => ∃ (wv : World) (ps : List (Fr × Value)) (todo : List Fr) (sv' : Option Addr) (cap' : Nat), wv = wr ∧ b = .slice sv' (layFs todo).length cap' ∧ BytesIn w (.slice sv' (layFs todo).length cap') (layFs todo) ∧ ps.map Prod.fst ++ todo = fs ∧ wv.ownsRow w.heap.size 48 4 l ps.length (ps.flatMap spC) ∧ (∀ p ∈ ps, BytesIn w p.2 p.1.body ∧ ∀ j, p.2.ownBlock = some j → (Value.slice sv (layFs fs).length cap).ownBlock = some j) ∧ Below w.heap.size w wv ∧ ∀ j, (Value.slice sv' (layFs todo).length cap').ownBlock = some j → (Value.slice sv (layFs fs).length cap).ownBlock = some j) (fun b _ _ => lenV b)
  case atStart => exact ⟨_, [], fs, sv, cap, rfl, rfl, HB.out, rfl, World.ownsRow_nil _ _ _ _, by simp, Below.refl _ _, fun _ h => h⟩
  case round =>
    obtain ⟨wv, ps, todo, sv', cap', hwv, rfl, hby, hfs, hrow, hbod, hbel, hown⟩ := hrel
    subst hwv
    have hps : ps.length ≤ 1048576 := by
      have := congrArg List.length hfs
      simp at this
      omega
    obtain ⟨sl, cl, hsl⟩ := slice_len hrow
    subst hsl
    cases todo with
    | nil =>
      have hl0 : (layFs []).length = 0 := rfl
      rw [hl0]
      have HE : Hid (SplitS w wv fs (.slice sl ps.length cl) ps ∧ ∀ p ∈ ps, ∀ j, p.2.ownBlock = some j → (Value.slice sv (layFs fs).length cap).ownBlock = some j) := ⟨⟨by rw [← hfs, List.append_nil], hrow, fun p hp => (hbod p hp).1, hbel⟩, fun p hp => (hbod p hp).2⟩
      clear hrow hbod hbel hby hfs hl0 hown
      go_wp2
      go_ret2
      exact ⟨_, ps, rfl, HE.out⟩
    | cons f r =>
      have hff := HFS.out f (by rw [← hfs]; simp)
      have hll : layFs (f :: r) = lay f.kind f.flags f.stream f.body ++ layFs r := rfl
      have hlen : (layFs (f :: r)).length = 6 + f.body.length + (layFs r).length := by rw [hll, List.length_append, lay_length]
      rcases hby with ⟨h1, h2⟩ | ⟨bb, off, cap2, h1, h2, h3, h4⟩
      · rw [h2] at hlen; simp at hlen; omega
      simp only [Value.slice.injEq, true_and] at h1
      obtain ⟨rfl, rfl⟩ := h1
      obtain ⟨q0, q1, q2, q3, q4, q5⟩ := head_cells hll hff h4
      have hw0 : ∀ o, wv.cell? ⟨bb, o, none⟩ = w.cell? ⟨bb, o, none⟩ := fun o => Below.cell hbel (p := ⟨bb, o, none⟩) h2
      rw [← hw0] at q0 q1 q2 q3 q4 q5
      obtain ⟨d0, d1, d2, d3, d4, d5, d6⟩ := hff
      -- the body and the rest
      have hbody : ∀ c, f.body.length ≤ c → BytesIn w (.slice (some ⟨bb, off + 6, none⟩) f.body.length c) f.body := fun c hc => by
        have := bytes_cut h2 h3 h4 6 f.body.length (by omega) c hc
        have e : ((layFs (f :: r)).drop 6).take f.body.length = f.body := by
          rw [hll]
          show (f.body ++ layFs r).take f.body.length = f.body
          rw [List.take_left' rfl]
        rw [e] at this
        exact this
      have hrest : ∀ c, (layFs r).length ≤ c → BytesIn w (.slice (some ⟨bb, off + (6 + f.body.length), none⟩) (layFs r).length c) (layFs r) := fun c hc => by
        have := bytes_cut h2 h3 h4 (6 + f.body.length) (layFs r).length (by omega) c hc
        have e : ((layFs (f :: r)).drop (6 + f.body.length)).take (layFs r).length = layFs r := by
          rw [hll, ← lay_length f.kind f.flags f.stream f.body, List.drop_left' rfl, List.take_of_length_le (Nat.le_refl _)]
        rw [e] at this
        exact this
      obtain ⟨n, hn⟩ : ∃ n, n = f.body.length := ⟨_, rfl⟩
      obtain ⟨m, hm⟩ : ∃ m, m = (layFs r).length := ⟨_, rfl⟩
      rw [← hn] at q1 d6 hbody hrest hlen
      rw [← hm] at hrest hlen
      obtain ⟨T, hT⟩ : ∃ T, T = (layFs (f :: r)).length := ⟨_, rfl⟩
      rw [← hT] at h3 hlen ⊢
      have i0' : (0 : Int) < T := by omega
      have i1' : (1 : Int) < T := by omega
      have i2' : (2 : Int) < T := by omega
      have i3' : (3 : Int) < T := by omega
      have i4' : (4 : Int) < T := by omega
      have i5' : (5 : Int) < T := by omega
      have i6' : (6 : Int) ≤ T := by omega
      have i7' : ¬ ((T : Int) < 6 + (n : Int)) := by omega
      have i8' : 6 + (n : Int) ≤ (cap' : Int) := by omega
      have i9' : 6 + (n : Int) ≤ (T : Int) := by omega
      have ia' : 6 + n ≤ T := by omega
      have hTm : T - (6 + n) = m := by omega
      have HNEXT : Hid (∀ (w' : World) (v bv : Value) (sv2 : Option Addr) (c2 : Nat), w'.ownsRow w.heap.size 48 4 v (ps.length + 1) (ps.flatMap spC ++ [.int .i64 f.kind, .int .i64 f.flags, .int .i64 f.stream, bv]) → BytesIn w bv f.body → BytesIn w (.slice sv2 m c2) (layFs r) → Below w.heap.size w w' → (∀ j, bv.ownBlock = some j → j = bb) → (∀ j, (Value.slice sv2 m c2).ownBlock = some j → j = bb) → ∃ (wv : World) (ps : List (Fr × Value)) (todo : List Fr) (sv' : Option Addr) (cap' : Nat), wv = w' ∧ (.slice sv2 m c2 : Value) = .slice sv' (layFs todo).length cap' ∧ BytesIn w (.slice sv' (layFs todo).length cap') (layFs todo) ∧ ps.map Prod.fst ++ todo = fs ∧ wv.ownsRow w.heap.size 48 4 v ps.length (ps.flatMap spC) ∧ (∀ p ∈ ps, BytesIn w p.2 p.1.body ∧ ∀ j, p.2.ownBlock = some j → (Value.slice sv (layFs fs).length cap).ownBlock = some j) ∧ Below w.heap.size w wv ∧ ∀ j, (Value.slice sv' (layFs todo).length cap').ownBlock = some j → (Value.slice sv (layFs fs).length cap).ownBlock = some j) := fun w' v bv sv2 c2 hr hbb hrr hbe ho1 ho2 => by
        have hbo : (Value.slice sv (layFs fs).length cap).ownBlock = some bb := hown bb rfl
        refine ⟨w', ps ++ [(f, bv)], r, sv2, c2, rfl, by rw [hm], by rw [hm] at hrr; exact hrr, ?_, ?_, ?_, hbe, fun j hj => by rw [ho2 j (by rw [hm]; exact hj)]; exact hbo⟩
        · rw [List.map_append, ← hfs]; simp
        · rw [List.length_append, List.flatMap_append]
          simpa [spC] using hr
        · intro p hp
          rcases List.mem_append.1 hp with a | a
          · exact hbod p a
          · rw [List.mem_singleton.1 a]; exact ⟨hbb, fun j hj => by rw [ho1 j hj]; exact hbo⟩
      have HROW := hide hrow
      have HBEL := hide hbel
      have HBD := hide hbody
      have HRS := hide hrest
      have hs256 : 256 * (f.stream / 256) + f.stream % 256 = f.stream := by omega
      have hbbv : bb < wv.heap.size := Nat.lt_of_lt_of_le h2 hbel.size
      generalize f.kind = kk at *
      generalize f.flags = ff at *
      generalize f.stream = ss at *
      have HTM := hide hTm
      have HLR : Hid ((layFs r).length = m) := hm.symm
      have HLB : Hid (f.body.length = n) := hn.symm
      have HLEN := hide hlen
      clear hfs hrow hbod hbel hown hw0 h4 hbody hrest hll hlen hm hn hTm hT
      go_upto_region 3 with fail
      go_quiet (fail)
      go_upto_region 6 with fail
      obtain ⟨w3, hw3⟩ : ∃ w3, w3 = wv.drewN nq := ⟨_, rfl⟩
      rw [← hw3]
      have hb3 : Below w.heap.size w w3 := by rw [hw3]; exact HBEL.out.trans (Below.mono (bel_drewN (Below.refl _ _)) HBEL.out.size)
      have hr3 : w3.ownsRow w.heap.size 48 4 (.slice sl ps.length cl) ps.length (ps.flatMap spC) := by rw [hw3]; exact owns_chg HROW.out (Chg.of_below (S := fun _ => False) (bel_drewN (Below.refl _ _))) (fun _ _ => id)
      have p2 : w3.cell? ⟨bb, off + 2, none⟩ = some (.int .u8 kk) := by rw [hw3]; exact q2
      have p3 : w3.cell? ⟨bb, off + 3, none⟩ = some (.int .u8 ff) := by rw [hw3]; exact q3
      have p4 : w3.cell? ⟨bb, off + 4, none⟩ = some (.int .u8 (ss / 256)) := by rw [hw3]; exact q4
      have p5 : w3.cell? ⟨bb, off + 5, none⟩ = some (.int .u8 (ss % 256)) := by rw [hw3]; exact q5
      have hbb3 : bb < w3.heap.size := by rw [hw3]; exact hbbv
      -- behind the append
      have HRA : Hid (∀ o, (w3.alloc o).drew.ownsRow 0 48 4 (.slice sl ps.length cl) ps.length (ps.flatMap spC)) := fun o => owns_base (owns_chg hr3 (((Chg.refl (fun _ => False) w3).alloc o).drew) (fun _ _ => id)) (fun _ _ => Nat.zero_le _)
      have HAPP : Hid (∀ (o : Obj) (v4 : Value) (w4 : World) (xs : List Value), w4.ownsRow 0 48 4 v4 (ps.length + 1) xs → (w3.alloc o).drew.grownBy w4 (Value.slice sl ps.length cl).ownBlock → (v4.ownBlock = (Value.slice sl ps.length cl).ownBlock ∨ v4.ownBlock = some (w3.alloc o).drew.heap.size) → Below w.heap.size w w4 ∧ w4.ownsRow w.heap.size 48 4 v4 (ps.length + 1) xs ∧ w4.cell? ⟨bb, off + 2, none⟩ = some (.int .u8 kk) ∧ w4.cell? ⟨bb, off + 3, none⟩ = some (.int .u8 ff) ∧ w4.cell? ⟨bb, off + 4, none⟩ = some (.int .u8 (ss / 256)) ∧ w4.cell? ⟨bb, off + 5, none⟩ = some (.int .u8 (ss % 256))) := fun o v4 w4 xs ho hg hfr => by
        have hb3a : Below w.heap.size w (w3.alloc o).drew := by
          have := hb3.alloc hb3.size o
          exact ⟨this.os, this.tape, this.output, this.size, this.block⟩
        have hb4 : Below w.heap.size w w4 := below_of_chg hb3a (Chg.of_grown (S := fun j => (Value.slice sl ps.length cl).ownBlock = some j) hg (fun j hj => hj)) (fun j hj => (hr3.lt j hj).1)
        have hcell : ∀ x u, w3.cell? ⟨bb, x, none⟩ = some u → w4.cell? ⟨bb, x, none⟩ = some u := fun x u hx => by
          rw [Below.cell hb4 (p := ⟨bb, x, none⟩) h2, ← Below.cell hb3 (p := ⟨bb, x, none⟩) h2]
          exact hx
        refine ⟨hb4, owns_base ho (fun j hj => ?_), hcell _ _ p2, hcell _ _ p3, hcell _ _ p4, hcell _ _ p5⟩
        rcases hfr with e | e
        · rw [e] at hj; exact (hr3.lt j hj).1
        · rw [e] at hj
          simp only [Option.some.injEq] at hj
          have := hb3a.size
          omega
      clear hw3 q0 q1 q2 q3 q4 q5 hr3 hb3 HROW HBEL
      have wr1 : IntKind.i64.wrap (6 + (n : Int)) = 6 + n := by rw [IntKind.wrap_i64]; omega
      have wr2 : IntKind.i64.wrap kk = kk := by rw [IntKind.wrap_i64]; omega
      have wr3 : IntKind.i64.wrap ff = ff := by rw [IntKind.wrap_i64]; omega
      have wr4 : IntKind.i64.wrap (ss / 256) = ss / 256 := by rw [IntKind.wrap_i64]; omega
      have wr5 : IntKind.i64.wrap (256 * (ss / 256)) = 256 * (ss / 256) := by rw [IntKind.wrap_i64]; omega
      have wr6 : IntKind.i64.wrap (ss % 256) = ss % 256 := by rw [IntKind.wrap_i64]; omega
      have wr7 : IntKind.i64.wrap (256 * (ss / 256) + ss % 256) = ss := by rw [IntKind.wrap_i64]; omega
      have wr8 : IntKind.i64.wrap ss = ss := by rw [IntKind.wrap_i64]; omega
      have mx1 : max (6 + (n : Int)) 0 = 6 + n := by omega
      have ge1 : (0 : Int) ≤ 6 + (n : Int) := by omega
      have ge2 : (6 : Int) ≤ 6 + (n : Int) := by omega
      have tn1 : (6 + (n : Int)).toNat = 6 + n := by omega
      have hc6 : 6 + n + m ≤ cap' := by have := HLEN.out; omega
      by_cases hcc : cap' = 6
      · have hT6 : T = 6 := by omega
        have hn0 : n = 0 := by omega
        have HM0 : Hid (m = 0) := by show m = 0; omega
        subst hcc
        subst hT6
        subst hn0
        have wz6 : IntKind.i64.wrap 6 = 6 := by rw [IntKind.wrap_i64]; rfl
        have wz0 : IntKind.i64.wrap 0 = 0 := by rw [IntKind.wrap_i64]; rfl
        clear wr1 mx1 ge1 ge2 tn1 i0' i1' i2' i3' i4' i5' i6' i7' i8' i9' ia'
        go_cut [4] (fun s4 wx => ∃ v, s4 = v ∧ Below w.heap.size w wx ∧ wx.ownsRow w.heap.size 48 4 v (ps.length + 1) (ps.flatMap spC ++ [.int .i64 kk, .int .i64 ff, .int .i64 ss, .slice (some ⟨bb, off, none⟩) 0 0]))
        case first =>
          go_region_held3 (fun w' => w'.cell? ⟨bb, off + 2, none⟩ = some (.int .u8 kk) ∧ w'.cell? ⟨bb, off + 3, none⟩ = some (.int .u8 ff) ∧ w'.cell? ⟨bb, off + 4, none⟩ = some (.int .u8 (ss / 256)) ∧ w'.cell? ⟨bb, off + 5, none⟩ = some (.int .u8 (ss % 256))) (go_keep)
            (first
              | (refine step_appd rfl (.tmp 25) (.tmp 49) 39 rfl 48 i0 (.agg #[.int .i64 0, .int .i64 0, .int .i64 0, .slice none 0 0]) 4 48 Tryz.underlying39 hi hz0 hz1 hz2 rfl (by decide) (.slice sl ps.length cl) ps.length (ps.flatMap spC) (by simp [Act.eval, Act.put]) (HRA.out _) (.slice (some ⟨w3.heap.size, 0, none⟩) 1 1) 1 [.int .i64 kk, .int .i64 ff, .int .i64 ss, .slice (some ⟨bb, off, none⟩) 0 0] (by simp [Act.eval, Act.put]) rfl (Or.inr ⟨_, _, rfl, fun j u hu => lies_row (w := w3) (xs := [.int .i64 kk, .int .i64 ff, .int .i64 ss, .slice (some ⟨bb, off, none⟩) 0 0]) (t := 48) j u hu⟩) (by intro u hu; simp only [List.mem_cons, List.not_mem_nil, or_false] at hu; rcases hu with rfl | rfl | rfl | rfl <;> rfl) (by unfold maxLen; omega) (by omega) ?_; intro v4 w4 ho4 hg4 hfr4; obtain ⟨s4, c4, hv4⟩ := slice_len ho4; subst hv4; obtain ⟨hb4, hr4, x2, x3, x4, x5⟩ := HAPP.out _ _ w4 _ ho4 hg4 hfr4; clear ho4 hg4 hfr4))
          all_goals (go_wp2_with fail; go_meet; exact ⟨_, rfl, hb4, hr4⟩)
        case rest =>
          obtain ⟨v, rfl, hbx, hrx⟩ := hcut
          obtain ⟨w5, hw5⟩ : ∃ w5, w5 = wc := ⟨wc, rfl⟩
          subst hw5
          obtain ⟨sx, cx, hsx⟩ := slice_len hrx
          subst hsx
          have HBX := hide hbx
          have HRX := hide hrx
          have HBO : Hid (BytesIn w (.slice (some ⟨bb, off, none⟩) 0 0) f.body) := by
            have e0 : f.body = [] := List.length_eq_zero_iff.1 HLB.out
            rw [e0]
            exact Or.inr ⟨bb, off, 0, rfl, h2, Nat.le_refl _, fun i hi => by simp at hi⟩
          clear hbx hrx
          go_wp2
          all_goals go_roundw
          case rel =>
            have e0 := HM0.out
            subst e0
            exact HNEXT.out w5 _ (.slice (some ⟨bb, off, none⟩) 0 0) (some ⟨bb, off, none⟩) 0 HRX.out HBO.out (Or.inr ⟨bb, off, 0, by rw [HLR.out], h2, by rw [HLR.out]; exact Nat.le_refl _, fun i hi => by rw [HLR.out] at hi; omega⟩) HBX.out (fun j hj => by simp [Value.ownBlock] at hj; exact hj.symm) (fun j hj => by simp [Value.ownBlock] at hj; exact hj.symm)
          case measure => simp [lenV]
      · have hcc' : ¬ 6 = cap' := fun e => hcc e.symm
        go_cut [4] (fun s4 wx => ∃ v, s4 = v ∧ Below w.heap.size w wx ∧ wx.ownsRow w.heap.size 48 4 v (ps.length + 1) (ps.flatMap spC ++ [.int .i64 kk, .int .i64 ff, .int .i64 ss, .slice (some ⟨bb, off + 6, none⟩) n (cap' - 6)]))
        case first =>
          go_region_held3 (fun w' => w'.cell? ⟨bb, off + 2, none⟩ = some (.int .u8 kk) ∧ w'.cell? ⟨bb, off + 3, none⟩ = some (.int .u8 ff) ∧ w'.cell? ⟨bb, off + 4, none⟩ = some (.int .u8 (ss / 256)) ∧ w'.cell? ⟨bb, off + 5, none⟩ = some (.int .u8 (ss % 256))) (go_keep)
            (first
              | (refine step_appd rfl (.tmp 25) (.tmp 49) 39 rfl 48 i0 (.agg #[.int .i64 0, .int .i64 0, .int .i64 0, .slice none 0 0]) 4 48 Tryz.underlying39 hi hz0 hz1 hz2 rfl (by decide) (.slice sl ps.length cl) ps.length (ps.flatMap spC) (by simp [Act.eval, Act.put]) (HRA.out _) (.slice (some ⟨w3.heap.size, 0, none⟩) 1 1) 1 [.int .i64 kk, .int .i64 ff, .int .i64 ss, .slice (some ⟨bb, off + 6, none⟩) n (cap' - 6)] (by simp [Act.eval, Act.put]) rfl (Or.inr ⟨_, _, rfl, fun j u hu => lies_row (w := w3) (xs := [.int .i64 kk, .int .i64 ff, .int .i64 ss, .slice (some ⟨bb, off + 6, none⟩) n (cap' - 6)]) (t := 48) j u hu⟩) (by intro u hu; simp only [List.mem_cons, List.not_mem_nil, or_false] at hu; rcases hu with rfl | rfl | rfl | rfl <;> rfl) (by unfold maxLen; omega) (by omega) ?_; intro v4 w4 ho4 hg4 hfr4; obtain ⟨s4, c4, hv4⟩ := slice_len ho4; subst hv4; obtain ⟨hb4, hr4, x2, x3, x4, x5⟩ := HAPP.out _ _ w4 _ ho4 hg4 hfr4; clear ho4 hg4 hfr4))
          all_goals (go_wp2_with fail; go_meet; exact ⟨_, rfl, hb4, hr4⟩)
        case rest =>
          obtain ⟨v, rfl, hbx, hrx⟩ := hcut
          obtain ⟨w5, hw5⟩ : ∃ w5, w5 = wc := ⟨wc, rfl⟩
          subst hw5
          obtain ⟨sx, cx, hsx⟩ := slice_len hrx
          subst hsx
          have HBX := hide hbx
          have HRX := hide hrx
          clear hbx hrx
          by_cases hc7 : cap' = 6 + n
          · have HM0 : Hid (m = 0) := by have := HLEN.out; show m = 0; omega
            have hc7' : ¬ (cap' ≠ 6 + n) := fun h => h hc7
            have HC7 := hide hc7
            have hTe : T = 6 + n := by have := HLEN.out; have := HM0.out; omega
            clear hc7'
            subst hTe
            subst hc7
            go_wp2
            all_goals go_roundw
            case rel =>
              have e0 := HM0.out
              subst e0
              exact HNEXT.out w5 _ (.slice (some ⟨bb, off + 6, none⟩) n (6 + n - 6)) (some ⟨bb, off, none⟩) 0 HRX.out (HBD.out _ (by omega)) (Or.inr ⟨bb, off, 0, by rw [HLR.out], h2, by rw [HLR.out]; exact Nat.le_refl _, fun i hi => by rw [HLR.out] at hi; omega⟩) HBX.out (fun j hj => by simp [Value.ownBlock] at hj; exact hj.symm) (fun j hj => by simp [Value.ownBlock] at hj; exact hj.symm)
            case measure => simp [lenV]; omega
          · have hc7' : ¬ 6 + n = cap' := fun e => hc7 e.symm
            go_wp2
            all_goals go_roundw
            case rel =>
              have := HNEXT.out w5 _ (.slice (some ⟨bb, off + 6, none⟩) n (cap' - 6)) (some ⟨bb, off + (6 + n), none⟩) (cap' - (6 + n)) HRX.out (HBD.out _ (by omega)) (HRS.out _ (by omega)) HBX.out (fun j hj => by simp [Value.ownBlock] at hj; exact hj.symm) (fun j hj => by simp [Value.ownBlock] at hj; exact hj.symm)
              rw [← HTM.out] at this
              exact this
            case measure => simp [lenV]; omega
end Go.Proofs.YtdccldbefdfppaaGreatDoor
/-
  Ledger: the account that the law keeps, without where things lie; what Take makes agrees with it.
-/
namespace Go.Proofs.YtdccldbefdfppaaGreatDoor
set_option linter.unusedVariables false
set_option linter.unusedSimpArgs false
open Go.RowKit

/-- A stream, as the law keeps it. -/
structure LFlow where
  s : Int
  credit : Int
  wr : List UInt8
  sent : Nat
  closed : Bool
  over : Bool
structure LAcc where
  initial : Int
  credit : Int
  sent : Int
  given : Int
  fl : List LFlow
  theirs : Nat
  ours : Nat
def LAcc.room (a : LAcc) : Int := 32 + a.credit - a.sent
def LAcc.win (a : LAcc) (x : LFlow) : Int := a.initial + x.credit - x.sent
/-- A stream as the law has it, and as the end has it. -/
structure LFS (a : LAcc) (x : LFlow) (s : GSt) : Prop where
  num : s.st.number = x.s
  send : s.st.send = x.credit - x.sent
  wa : s.wa = x.wr.drop x.sent
  le : x.sent ≤ x.wr.length
  shut : s.st.shut = x.closed
  all : s.st.sentAll = x.over
  ov : x.over = true → x.sent = x.wr.length ∧ x.closed = true
  w100 : s.wa.length ≤ 100
  owed : s.st.owed = 0
  rc : s.st.receive = 0
  last : s.st.last = false
  has : s.st.hasAll = false
  res : s.st.reset = 0
  head : s.st.announced = false → headV s.st.heads ≠ .tuple #[]
  cr : 0 ≤ x.credit ∧ x.credit ≤ a.given
  se : (x.sent : Int) ≤ 200 + x.credit
  nov : s.st.announced = false → x.over = false
/-- What an end is that the law has before it. -/
structure LEnd (a : LAcc) (p : GEnd) : Prop where
  live : p.m.fault = 0
  got : p.got = []
  told : p.m.told = true
  waits : p.m.waits = true
  under : p.m.under = false
  greets : p.m.greets = false
  begun : p.m.begun = true
  bstream : p.m.bstream = 0
  greeted : p.m.greeted = 7
  first : p.m.first = false
  res : p.res = []
  next : p.m.next = 2 * (a.theirs : Int) + 2
  newest : p.m.newest ≤ 2 * (a.ours : Int)
  send : p.m.send = a.room
  other : p.m.other = a.initial
  pw : nilU p.m.pwait = .slice none 0 0
  wanted : 0 ≤ p.m.wanted ∧ p.m.wanted ≤ 1000
  owed : 0 ≤ p.m.owed ∧ p.m.owed ≤ 1000
  receive : 0 ≤ p.m.receive ∧ p.m.receive ≤ 1000000 - p.m.owed
  pnum : p.m.pnum < 4294967296
  own : 0 ≤ p.m.own ∧ p.m.own ≤ 1000
  ans : ∀ x ∈ p.ans, x = ⟨3, 1, [], .slice none 0 0⟩
structure LRel (a : LAcc) (p : GEnd) : Prop where
  e : LEnd a p
  len : a.fl.length = p.K.length
  fs : ∀ (i : Nat) (x : LFlow) (s : GSt), a.fl[i]? = some x → p.K[i]? = some s → LFS a x s
  nn : (p.K.map fun s => s.st.number).Nodup
  rise : Rise p.L
  mem : ∀ n, n ∈ p.L ↔ ∃ s ∈ p.K, s.st.number = n
  num : ∀ s ∈ p.K, (∃ k : Nat, 1 ≤ k ∧ k ≤ a.theirs ∧ s.st.number = 2 * (k : Int)) ∨ (∃ k : Nat, 1 ≤ k ∧ k ≤ a.ours ∧ s.st.number = 2 * (k : Int) - 1)
  cnt : (p.L.countP fun k => p.m.opensN k) = a.theirs
  lenL : p.L.length = a.theirs + a.ours
  lenK : p.K.length = a.theirs + a.ours
  t4 : a.theirs ≤ 4
  o4 : a.ours ≤ 4
  i : 0 ≤ a.initial ∧ a.initial ≤ 200
  cr : 0 ≤ a.credit ∧ a.credit ≤ a.given
  se : 0 ≤ a.sent ∧ a.sent ≤ 32 + a.credit
  gv : a.given ≤ 1073742200

section
variable {a a' : LAcc} {p q : GEnd}
theorem LRel.numB (h : LRel a p) {s : GSt} (hs : s ∈ p.K) : 1 ≤ s.st.number ∧ s.st.number ≤ 8 := by
  have := h.t4; have := h.o4
  rcases h.num s hs with ⟨k, h1, h2, h3⟩ | ⟨k, h1, h2, h3⟩ <;> omega
/-- The stream of an index. -/
theorem LRel.flow (h : LRel a p) {s : GSt} (hs : s ∈ p.K) : ∃ (i : Nat) (x : LFlow), a.fl[i]? = some x ∧ p.K[i]? = some s ∧ LFS a x s := by
  obtain ⟨i, hi⟩ := List.mem_iff_getElem?.1 hs
  have hlt : i < p.K.length := (List.getElem?_eq_some_iff.1 hi).1
  have hlt2 : i < a.fl.length := by rw [h.len]; exact hlt
  exact ⟨i, a.fl[i], List.getElem?_eq_getElem hlt2, hi, h.fs i _ _ (List.getElem?_eq_getElem hlt2) hi⟩
theorem LRel.at (h : LRel a p) {n : Int} (hn : n ∈ p.L) : atN p.K n ∈ p.K ∧ (atN p.K n).st.number = n := by
  obtain ⟨s, hs, rfl⟩ := (h.mem n).1 hn
  rw [atN_mem h.nn hs]
  exact ⟨hs, rfl⟩
theorem LRel.fine (h : LRel a p) : FineG p where
  b := {
    greets := h.e.greets
    wanted := h.e.wanted
    owed := by have := h.e.owed; omega
    receive := by have := h.e.owed; have := h.e.receive; omega
    pnum := h.e.pnum
    own := by have := h.e.own; omega
    other := by have := h.e.other; have := h.i; omega
    ans := fun x hx => by rw [h.e.ans x hx]; decide
    res := fun n hn => by rw [h.e.res] at hn; cases hn
    st := fun s hs => by
      obtain ⟨i, x, h1, h2, f⟩ := h.flow hs
      have := h.numB hs; have := f.owed; have := f.rc; have := f.send; have := f.cr; have := f.se; have := h.gv
      omega
    few := by rw [h.lenL]; have := h.t4; have := h.o4; omega }
  send := by have := h.e.send; have := h.cr; have := h.se; have := h.gv; unfold LAcc.room at *; omega
  pw := h.e.pw
  nw := fun s hs ha => by
    obtain ⟨i, x, h1, h2, f⟩ := h.flow hs
    exact ⟨f.head ha, f.last⟩
  wa := fun s hs => by
    obtain ⟨i, x, h1, h2, f⟩ := h.flow hs
    exact ⟨by have := f.w100; omega, f.has, f.res⟩
theorem firstDueN_none {m : EndM} {K : List GSt} : ∀ {L : List Int}, (∀ n ∈ L, m.dueS (atN K n).st = false) → firstDueN m K L = none
  | [], _ => rfl
  | n :: r, h => by
    rw [firstDueN, if_neg (by rw [h n List.mem_cons_self]; simp)]
    exact firstDueN_none fun k hk => h k (List.mem_cons_of_mem _ hk)
theorem LRel.next (h : LRel a p) : p.next = p.oAnswer.or p.oCredit := by
  have h1 : p.oFirst = none := by unfold GEnd.oFirst; rw [h.e.told]; rfl
  have h3 : p.oSettings = none := by unfold GEnd.oSettings; rw [h.e.waits]; rfl
  have h4 : p.oPing = none := by unfold GEnd.oPing; rw [h.e.under]; rfl
  have h6 : p.oStream = none := by
    unfold GEnd.oStream
    rw [firstDueN_none]
    · rfl
    · intro n hn
      obtain ⟨i, x, -, -, f⟩ := h.flow (h.at hn).1
      unfold EndM.dueS dueB
      rw [f.owed]
      simp
  have h7 : p.oReset = none := by unfold GEnd.oReset; rw [h.e.res]
  unfold GEnd.next
  rw [h1, h3, h4, h6, h7]
  simp
/-- What is still to be made of a stream, and of an end. -/
def LW (s : GSt) : Nat := s.wa.length + (if s.st.announced then 0 else 1) + (if s.st.shut && !s.st.sentAll then 1 else 0)
def LMu (p : GEnd) : Nat := p.ans.length + (if 0 < p.m.owed then 1 else 0) + (p.K.map LW).sum
theorem updN_set {n : Int} {f : GSt → GSt} : ∀ {K : List GSt} {i : Nat} {s : GSt}, (K.map fun s => s.st.number).Nodup → K[i]? = some s → s.st.number = n → updN n f K = K.set i (f s)
  | [], i, s, _, h, _ => by simp at h
  | y :: r, 0, s, hn, h, he => by
    simp only [List.getElem?_cons_zero, Option.some.injEq] at h
    subst h
    rw [List.map_cons, List.nodup_cons] at hn
    unfold updN
    rw [List.map_cons, if_pos he, List.set_cons_zero]
    congr 1
    conv => rhs; rw [← List.map_id r]
    apply List.map_congr_left
    intro z hz
    have : z.st.number ≠ n := fun e => hn.1 (by rw [he, ← e]; exact List.mem_map.2 ⟨z, hz, rfl⟩)
    rw [if_neg this]
    rfl
  | y :: r, i + 1, s, hn, h, he => by
    rw [List.getElem?_cons_succ] at h
    rw [List.map_cons, List.nodup_cons] at hn
    have hy : y.st.number ≠ n := fun e => hn.1 (by
      rw [e, ← he]
      exact List.mem_map.2 ⟨s, List.mem_of_getElem? h, rfl⟩)
    have := updN_set (f := f) hn.2 h he
    unfold updN at this ⊢
    rw [List.map_cons, if_neg hy, List.set_cons_succ, this]
theorem sum_set {K : List GSt} {i : Nat} {s t : GSt} (h : K[i]? = some s) : ((K.set i t).map LW).sum + LW s = (K.map LW).sum + LW t := by
  induction K generalizing i with
  | nil => simp at h
  | cons y r ih =>
    cases i with
    | zero =>
      simp only [List.getElem?_cons_zero, Option.some.injEq] at h
      subst h
      rw [List.set_cons_zero, List.map_cons, List.map_cons, List.sum_cons, List.sum_cons]
      omega
    | succ i =>
      rw [List.getElem?_cons_succ] at h
      have := ih h
      rw [List.set_cons_succ, List.map_cons, List.map_cons, List.sum_cons, List.sum_cons]
      omega
theorem map_set_num {K : List GSt} {i : Nat} {s t : GSt} (h : K[i]? = some s) (he : t.st.number = s.st.number) : ((K.set i t).map fun s => s.st.number) = K.map fun s => s.st.number := by
  rw [List.map_set, he]
  apply List.ext_getElem?
  intro j
  rw [List.getElem?_set]
  split
  · rename_i e
    subst e
    split
    · rw [List.getElem?_map, h]; rfl
    · rename_i hl
      rw [List.getElem?_eq_none (by omega)]
  · rfl
/-- One stream changes, here and there. -/
theorem LRel.set (h : LRel a p) {i : Nat} {x x' : LFlow} {s s' : GSt} (hx : a.fl[i]? = some x) (hs : p.K[i]? = some s) (hn : s'.st.number = s.st.number) (ha : a' = { a with fl := a.fl.set i x', sent := a'.sent }) (k1 : q.K = p.K.set i s') (k2 : q.L = p.L) (hm : q.m.first = p.m.first) (hE : LEnd a' q) (hF : LFS a' x' s') (hse : 0 ≤ a'.sent ∧ a'.sent ≤ 32 + a'.credit) : LRel a' q := by
  have e1 : a'.initial = a.initial := by rw [ha]
  have e2 : a'.credit = a.credit := by rw [ha]
  have e3 : a'.given = a.given := by rw [ha]
  have e4 : a'.theirs = a.theirs := by rw [ha]
  have e5 : a'.ours = a.ours := by rw [ha]
  have e6 : a'.fl = a.fl.set i x' := by rw [ha]
  have hnum := map_set_num (t := s') hs hn
  have hmemK : ∀ y ∈ q.K, ∃ z ∈ p.K, z.st.number = y.st.number := fun y hy => by
    rw [k1] at hy
    rcases List.mem_or_eq_of_mem_set hy with hy | hy
    · exact ⟨y, hy, rfl⟩
    · exact ⟨s, List.mem_of_getElem? hs, by rw [hy, hn]⟩
  have hop : (fun k => q.m.opensN k) = fun k => p.m.opensN k := by
    funext k
    unfold EndM.opensN
    rw [hm]
  refine ⟨hE, by rw [e6, k1, List.length_set, List.length_set]; exact h.len, ?_, by rw [k1, hnum]; exact h.nn, by rw [k2]; exact h.rise, ?_, ?_, by rw [k2, hop, e4]; exact h.cnt, by rw [k2, e4, e5]; exact h.lenL, by rw [k1, List.length_set, e4, e5]; exact h.lenK, by rw [e4]; exact h.t4, by rw [e5]; exact h.o4, by rw [e1]; exact h.i, by rw [e2, e3]; exact h.cr, hse, by rw [e3]; exact h.gv⟩
  · intro j y z hy hz
    rw [e6, List.getElem?_set] at hy
    rw [k1, List.getElem?_set] at hz
    by_cases e : i = j
    · subst e
      have l1 : i < a.fl.length := (List.getElem?_eq_some_iff.1 hx).1
      have l2 : i < p.K.length := (List.getElem?_eq_some_iff.1 hs).1
      simp [l1] at hy
      simp [l2] at hz
      subst hy hz
      exact hF
    · rw [if_neg e] at hy hz
      have f := h.fs j y z hy hz
      exact ⟨f.num, f.send, f.wa, f.le, f.shut, f.all, f.ov, f.w100, f.owed, f.rc, f.last, f.has, f.res, f.head, by rw [e3]; exact f.cr, f.se, f.nov⟩
  · intro n
    rw [k2, h.mem n, k1]
    have : (∃ y ∈ p.K, y.st.number = n) ↔ n ∈ p.K.map fun s => s.st.number := by simp
    rw [this, ← hnum]
    exact List.mem_map
  · intro y hy
    obtain ⟨z, hz, e⟩ := hmemK y hy
    rw [e4, e5, ← e]
    exact h.num z hz
/-- Data that the law finds right. -/
structure LData (a : LAcc) (f : Fr) (a' : LAcc) : Prop where
  ok : ∃ (i : Nat) (x : LFlow), a.fl[i]? = some x ∧ x.s = f.stream ∧ x.over = false ∧ f.body.length ≤ 64 ∧ (0 < f.body.length → (f.body.length : Int) ≤ a.win x ∧ (f.body.length : Int) ≤ a.room) ∧ f.body = (x.wr.drop x.sent).take f.body.length ∧ x.sent + f.body.length ≤ x.wr.length ∧ f.flags = (if (x.closed && decide (x.sent + f.body.length = x.wr.length)) then 1 else 0) ∧
    a' = { a with fl := a.fl.set i { x with sent := x.sent + f.body.length, over := x.closed && decide (x.sent + f.body.length = x.wr.length) }, sent := a.sent + f.body.length }
/-- A frame, and the account behind it. -/
def LFr (a : LAcc) (f : Fr) (a' : LAcc) : Prop := FrFits f ∧ (f.kind = 0 → LData a f a') ∧ (f.kind ≠ 0 → a' = a)
theorem LRel.out (h : LRel a p) {o : List UInt8} : LRel a { p with out := o } := ⟨⟨h.e.live, h.e.got, h.e.told, h.e.waits, h.e.under, h.e.greets, h.e.begun, h.e.bstream, h.e.greeted, h.e.first, h.e.res, h.e.next, h.e.newest, h.e.send, h.e.other, h.e.pw, h.e.wanted, h.e.owed, h.e.receive, h.e.pnum, h.e.own, h.e.ans⟩, h.len, h.fs, h.nn, h.rise, h.mem, h.num, h.cnt, h.lenL, h.lenK, h.t4, h.o4, h.i, h.cr, h.se, h.gv⟩
end
end Go.Proofs.YtdccldbefdfppaaGreatDoor
/-
  Ledger: frame by frame, what the end makes agrees with the account; behind all frames nothing is left.
-/
namespace Go.Proofs.YtdccldbefdfppaaGreatDoor
set_option linter.unusedVariables false
set_option linter.unusedSimpArgs false
open Go.RowKit

/-- Numbers far below what an int holds. -/
structure LBd (a : LAcc) : Prop where
  i : 0 ≤ a.initial ∧ a.initial ≤ 200
  cr : 0 ≤ a.credit ∧ a.credit ≤ 4294967296
  se : 0 ≤ a.sent ∧ a.sent ≤ 8589934592
  gv : 0 ≤ a.given ∧ a.given ≤ 4294967296
  n : a.fl.length ≤ 8
  th : a.theirs ≤ 4
  ou : a.ours ≤ 4
  fl : ∀ x ∈ a.fl, (0 ≤ x.credit ∧ x.credit ≤ 4294967296) ∧ x.sent ≤ x.wr.length ∧ x.wr.length ≤ 8589934592 ∧ 1 ≤ x.s ∧ x.s ≤ 8
theorem LRel.bd {a : LAcc} {p : GEnd} (h : LRel a p) : LBd a := by
  have h1 := h.cr; have h2 := h.se; have h3 := h.gv; have h4 := h.t4; have h5 := h.o4; have h6 := h.len; have h7 := h.lenK
  refine ⟨h.i, by omega, by omega, by omega, by omega, h4, h5, fun x hx => ?_⟩
  obtain ⟨i, hi⟩ := List.mem_iff_getElem?.1 hx
  have hlt : i < p.K.length := by rw [← h.len]; exact (List.getElem?_eq_some_iff.1 hi).1
  have F := h.fs i x p.K[i] hi (List.getElem?_eq_getElem hlt)
  have hB := h.numB (List.getElem_mem hlt)
  have f1 := F.cr; have f2 := F.se; have f3 := F.le; have f4 := F.w100; have f5 := F.num
  rw [F.wa, List.length_drop] at f4
  omega
/-- Each flow has a number of its own. -/
def LNum (a : LAcc) : Prop := ∀ (i j : Nat) (x y : LFlow), a.fl[i]? = some x → a.fl[j]? = some y → x.s = y.s → i = j
theorem LRel.first {a : LAcc} {p : GEnd} (h : LRel a p) : LNum a := by
  intro i j x y hx hy e
  have hi : i < p.K.length := by rw [← h.len]; exact (List.getElem?_eq_some_iff.1 hx).1
  have hj : j < p.K.length := by rw [← h.len]; exact (List.getElem?_eq_some_iff.1 hy).1
  have F := h.fs i x p.K[i] hx (List.getElem?_eq_getElem hi)
  have H := h.fs j y p.K[j] hy (List.getElem?_eq_getElem hj)
  have hn := h.nn
  unfold List.Nodup at hn
  rw [List.pairwise_iff_getElem] at hn
  have hl : (p.K.map fun s => s.st.number).length = p.K.length := by simp
  rcases Nat.lt_trichotomy i j with hh | hh | hh
  · exact absurd (show (p.K.map fun s => s.st.number)[i]'(by omega) = (p.K.map fun s => s.st.number)[j]'(by omega) by simp [F.num, H.num, e]) (hn i j (by omega) (by omega) hh)
  · exact hh
  · exact absurd (show (p.K.map fun s => s.st.number)[j]'(by omega) = (p.K.map fun s => s.st.number)[i]'(by omega) by simp [F.num, H.num, e]) (hn j i (by omega) (by omega) hh)
section
variable {a a' : LAcc} {p q : GEnd}
theorem LEnd.same (h : LEnd a p) (hm : q.m = p.m) (hg : q.got = p.got) (hr : q.res = p.res) (ha : ∀ x ∈ q.ans, x ∈ p.ans) : LEnd a q := by
  constructor
  all_goals first
    | (rw [hm]; first | exact h.live | exact h.told | exact h.waits | exact h.under | exact h.greets | exact h.begun | exact h.bstream | exact h.greeted | exact h.first | exact h.next | exact h.newest | exact h.send | exact h.other | exact h.pw | exact h.wanted | exact h.owed | exact h.receive | exact h.pnum | exact h.own)
    | (rw [hg]; exact h.got)
    | (rw [hr]; exact h.res)
    | exact fun x hx => h.ans x (ha x hx)
theorem LRel.kept (h : LRel a p) (hE : LEnd a q) (hK : q.K = p.K) (hL : q.L = p.L) (hf : q.m.first = p.m.first) : LRel a q := by
  have hop : (fun k => q.m.opensN k) = fun k => p.m.opensN k := by
    funext k
    unfold EndM.opensN
    rw [hf]
  exact ⟨hE, by rw [hK]; exact h.len, by rw [hK]; exact h.fs, by rw [hK]; exact h.nn, by rw [hL]; exact h.rise, by rw [hK, hL]; exact h.mem, by rw [hK]; exact h.num, by rw [hL, hop]; exact h.cnt, by rw [hL]; exact h.lenL, by rw [hK]; exact h.lenK, h.t4, h.o4, h.i, h.cr, h.se, h.gv⟩
theorem hasD_true {m : EndM} {s : GSt} (h : m.hasD s.st s.wa.length = true) : s.st.announced = true ∧ s.st.sentAll = false ∧ (s.wa.length = 0 → s.st.shut = true) ∧ (s.wa.length ≠ 0 → 1 ≤ m.other + s.st.send ∧ 1 ≤ m.send) := by
  unfold EndM.hasD at h
  split at h
  · cases h
  · rename_i h1
    simp at h1
    refine ⟨h1.1, h1.2, fun e => ?_, fun e => ?_⟩
    · rw [if_pos e] at h; exact h
    · rw [if_neg e] at h; simpa using h
theorem hasD_false {m : EndM} {s : GSt} (h : m.hasD s.st s.wa.length = false) (ha : s.st.announced = true) (hs : s.st.sentAll = false) : (s.wa.length = 0 → s.st.shut = false) ∧ (s.wa.length ≠ 0 → ¬ (1 ≤ m.other + s.st.send ∧ 1 ≤ m.send)) := by
  unfold EndM.hasD at h
  rw [if_neg (by simp [ha, hs])] at h
  refine ⟨fun e => ?_, fun e => ?_⟩
  · rw [if_pos e] at h; exact h
  · rw [if_neg e] at h
    simpa using h
theorem LRel.data (h : LRel a p) {n : Int} (hn : n ∈ p.L) (hd : p.m.hasD (atN p.K n).st (atN p.K n).wa.length = true) : ∃ f a', LFr a f a' ∧ (p.goes (atN p.K n)).out = p.out ++ lay f.kind f.flags f.stream f.body ∧ LRel a' (p.goes (atN p.K n)) ∧ LMu (p.goes (atN p.K n)) < LMu p := by
  obtain ⟨hmem, hnum⟩ := h.at hn
  obtain ⟨i, x, hx, hs, F⟩ := h.flow hmem
  generalize atN p.K n = s at *
  obtain ⟨h1, h2, h3, h4⟩ := hasD_true hd
  obtain ⟨k, hk⟩ : ∃ k, k = p.m.goN s := ⟨_, rfl⟩
  obtain ⟨g1, g2, g3⟩ := goN_le p.m s
  have gpos : s.wa.length ≠ 0 → 1 ≤ p.m.goN s := fun e => by
    have := h4 e
    unfold EndM.goN cutN
    omega
  rw [← hk] at g1 g2 g3 gpos
  have hwl : s.wa.length = x.wr.length - x.sent := by rw [F.wa, List.length_drop]
  have hov : x.over = false := by rw [← F.all]; exact h2
  obtain ⟨e, he⟩ : ∃ e, e = p.m.goE s := ⟨_, rfl⟩
  have hle := F.le
  have hew : e = (x.closed && decide (x.sent + k = x.wr.length)) := by
    rw [he]
    unfold EndM.goE
    rw [← hk, F.shut, Bool.and_comm]
    congr 1
    exact decide_eq_decide.2 (by omega)
  have hoth := h.e.other
  have hsnd := h.e.send
  have hss := F.send
  have hgo : p.goes s = { p with m := p.m.went k s.st.number, K := p.K.set i (s.went k e), out := p.out ++ lay 0 (if e then 1 else 0) s.st.number (s.wa.take k) } := by
    unfold GEnd.goes
    rw [← hk, ← he, updN_set h.nn hs rfl]
  have htl : (s.wa.take k).length = k := by rw [List.length_take]; omega
  have hB := h.numB hmem
  refine ⟨⟨0, if e then 1 else 0, s.st.number, s.wa.take k⟩, { a with fl := a.fl.set i { x with sent := x.sent + k, over := e }, sent := a.sent + k }, ⟨⟨by show (0 : Int) ≤ 0; omega, by show (0 : Int) ≤ 255; omega, ?_, ?_, ?_, ?_, ?_⟩, fun _ => ⟨i, x, hx, ?_, hov, ?_, ?_, ?_, ?_, ?_, ?_⟩, fun h => absurd rfl h⟩, ?_, ?_, ?_⟩
  · show (0 : Int) ≤ if e = true then 1 else 0
    split <;> omega
  · show (if e = true then (1 : Int) else 0) ≤ 255
    split <;> omega
  · show 0 ≤ s.st.number
    omega
  · show s.st.number ≤ 32767
    omega
  · show (s.wa.take k).length ≤ 64
    omega
  · exact F.num.symm
  · show (s.wa.take k).length ≤ 64
    omega
  · show 0 < (s.wa.take k).length → ((s.wa.take k).length : Int) ≤ a.win x ∧ ((s.wa.take k).length : Int) ≤ a.room
    rw [htl]
    intro h0
    have := g3 h0
    unfold LAcc.win
    omega
  · show s.wa.take k = (x.wr.drop x.sent).take (s.wa.take k).length
    rw [htl, F.wa]
  · show x.sent + (s.wa.take k).length ≤ x.wr.length
    omega
  · show (if e = true then (1 : Int) else 0) = if (x.closed && decide (x.sent + (s.wa.take k).length = x.wr.length)) = true then 1 else 0
    rw [htl, hew]
  · show _ = { a with fl := a.fl.set i { x with sent := x.sent + (s.wa.take k).length, over := x.closed && decide (x.sent + (s.wa.take k).length = x.wr.length) }, sent := a.sent + (s.wa.take k).length }
    rw [htl, ← hew]
  · rw [hgo]
  · rw [hgo]
    have hroom : LAcc.room a = 32 + a.credit - a.sent := rfl
    have hse := h.se
    have hFs := F.se
    have hi := h.i
    refine h.set (s' := s.went k e) hx hs rfl rfl rfl rfl rfl ?_ ⟨F.num, ?_, ?_, ?_, F.shut, ?_, ?_, ?_, F.owed, F.rc, F.last, F.has, F.res, ?_, F.cr, ?_, ?_⟩ ?_
    · have E := h.e
      refine ⟨E.live, E.got, E.told, E.waits, E.under, E.greets, E.begun, E.bstream, E.greeted, E.first, E.res, E.next, E.newest, ?_, E.other, E.pw, E.wanted, E.owed, E.receive, E.pnum, E.own, E.ans⟩
      show p.m.send - (k : Int) = 32 + a.credit - (a.sent + k)
      omega
    · show s.st.send - (k : Int) = x.credit - ((x.sent + k : Nat) : Int)
      omega
    · show s.wa.drop k = x.wr.drop (x.sent + k)
      rw [F.wa, List.drop_drop]
    · show x.sent + k ≤ x.wr.length
      omega
    · show (if e = true then true else s.st.sentAll) = e
      rw [h2]
      cases e <;> rfl
    · show e = true → x.sent + k = x.wr.length ∧ x.closed = true
      intro h0
      rw [hew] at h0
      simp at h0
      exact ⟨h0.2, h0.1⟩
    · show (s.wa.drop k).length ≤ 100
      rw [List.length_drop]
      have := F.w100
      omega
    · show s.st.announced = false → _
      intro h0
      rw [h1] at h0
      cases h0
    · show ((x.sent + k : Nat) : Int) ≤ 200 + x.credit
      by_cases h0 : 0 < k
      · have := g3 h0
        omega
      · omega
    · show s.st.announced = false → _
      intro h0
      rw [h1] at h0
      cases h0
    · show 0 ≤ a.sent + (k : Int) ∧ a.sent + (k : Int) ≤ 32 + a.credit
      by_cases h0 : 0 < k
      · have := g3 h0
        omega
      · omega
  · rw [hgo]
    show p.ans.length + (if 0 < p.m.owed then 1 else 0) + ((p.K.set i (s.went k e)).map LW).sum < p.ans.length + (if 0 < p.m.owed then 1 else 0) + (p.K.map LW).sum
    have hsum := sum_set (t := s.went k e) hs
    have hw : LW (s.went k e) < LW s := by
      unfold LW
      show (s.wa.drop k).length + (if s.st.announced then 0 else 1) + (if s.st.shut && !(if e = true then true else s.st.sentAll) then 1 else 0) < _
      rw [h1, h2, List.length_drop]
      by_cases h0 : s.wa.length = 0
      · have hsh := h3 h0
        have hk0 : k = 0 := by omega
        have hee : e = true := by
          rw [hew, ← F.shut, hsh]
          simp
          omega
        rw [hee, hsh, h0]
        simp
      · have := gpos h0
        have hbb : (if s.st.shut && !(if e = true then true else false) then 1 else 0) ≤ (if s.st.shut && !false then 1 else 0) := by
          cases s.st.shut <;> cases e <;> simp
        simp only [if_true]
        omega
    omega
theorem LRel.step (h : LRel a p) (hn : p.nextG = some q) : ∃ f a', LFr a f a' ∧ q.out = p.out ++ lay f.kind f.flags f.stream f.body ∧ LRel a' q ∧ LMu q < LMu p := by
  rcases or_some hn with hn | hn
  · rw [h.next] at hn
    rcases or_some hn with hn | hn
    · unfold GEnd.oAnswer at hn
      split at hn
      · cases hn
      · rename_i x r hx
        injection hn with hn; subst hn
        have e1 := h.e.ans x (by rw [hx]; exact List.mem_cons_self)
        subst e1
        refine ⟨⟨3, 1, 0, []⟩, a, ⟨by constructor <;> decide, fun e => absurd e (by decide), fun _ => rfl⟩, rfl, h.kept (h.e.same rfl rfl rfl (fun y hy => by rw [hx]; exact List.mem_cons_of_mem _ hy)) rfl rfl rfl, ?_⟩
        show r.length + _ + _ < p.ans.length + _ + _
        rw [hx, List.length_cons]
        show r.length + (if 0 < p.m.owed then 1 else 0) + (p.K.map LW).sum < _
        omega
    · unfold GEnd.oCredit at hn
      split at hn
      · rename_i hd
        injection hn with hn; subst hn
        have E := h.e
        have h1 : 1 ≤ p.m.owed := by
          unfold dueB at hd
          simp at hd
          exact hd.1
        have h2 := E.owed
        have h3 := E.receive
        refine ⟨⟨6, 0, 0, four4 p.m.owed.toNat⟩, a, ⟨⟨by show (0 : Int) ≤ 6; omega, by show (6 : Int) ≤ 255; omega, by show (0 : Int) ≤ 0; omega, by show (0 : Int) ≤ 255; omega, by show (0 : Int) ≤ 0; omega, by show (0 : Int) ≤ 32767; omega, by show (four4 p.m.owed.toNat).length ≤ 64; simp [four4]⟩, fun e => absurd e (by show ¬ (6 : Int) = 0; omega), fun _ => rfl⟩, rfl, h.kept ?_ rfl rfl rfl, ?_⟩
        · refine ⟨E.live, E.got, E.told, E.waits, E.under, E.greets, E.begun, E.bstream, E.greeted, E.first, E.res, E.next, E.newest, E.send, E.other, E.pw, E.wanted, ?_, ?_, E.pnum, E.own, E.ans⟩
          · show (0 : Int) ≤ 0 ∧ (0 : Int) ≤ 1000
            omega
          · show 0 ≤ p.m.receive + p.m.owed ∧ p.m.receive + p.m.owed ≤ 1000000 - 0
            omega
        · show p.ans.length + (if (0 : Int) < 0 then 1 else 0) + (p.K.map LW).sum < p.ans.length + (if 0 < p.m.owed then 1 else 0) + (p.K.map LW).sum
          rw [if_pos (show 0 < p.m.owed by omega)]
          simp
      · cases hn
  rcases or_some hn with hn | hn
  · unfold GEnd.oHead at hn
    cases hd : firstNew p.K p.L with
    | none => rw [hd] at hn; cases hn
    | some n =>
      rw [hd, Option.map_some] at hn
      injection hn with hn; subst hn
      obtain ⟨hL, han⟩ := firstNew_mem hd
      obtain ⟨hmem, hnum⟩ := h.at hL
      obtain ⟨i, x, hx, hs, F⟩ := h.flow hmem
      generalize atN p.K n = s at *
      have hB := h.numB hmem
      have hK : updN n GSt.told p.K = p.K.set i s.told := updN_set h.nn hs hnum
      refine ⟨⟨1, 4, n, []⟩, a, ⟨⟨by show (0 : Int) ≤ 1; omega, by show (1 : Int) ≤ 255; omega, by show (0 : Int) ≤ 4; omega, by show (4 : Int) ≤ 255; omega, by show 0 ≤ n; omega, by show n ≤ 32767; omega, by show 0 ≤ 64; omega⟩, fun e => absurd e (by show ¬ (1 : Int) = 0; omega), fun _ => rfl⟩, rfl, ?_, ?_⟩
      · have hfl : a.fl.set i x = a.fl := by
          apply List.ext_getElem?
          intro j
          rw [List.getElem?_set]
          split
          · rename_i e
            subst e
            rw [hx]
            simp [(List.getElem?_eq_some_iff.1 hx).1]
          · rfl
        refine h.set (x' := x) (s' := s.told) hx hs rfl ?_ hK rfl rfl (h.e.same rfl rfl rfl (fun _ h => h)) ⟨F.num, F.send, F.wa, F.le, F.shut, ?_, F.ov, F.w100, F.owed, F.rc, F.last, F.has, F.res, ?_, F.cr, F.se, ?_⟩ h.se
        · rw [hfl]
        · show s.st.last = x.over
          rw [F.last, F.nov han]
        · intro e; cases e
        · intro e; cases e
      · show p.ans.length + (if 0 < p.m.owed then 1 else 0) + ((updN n GSt.told p.K).map LW).sum < p.ans.length + (if 0 < p.m.owed then 1 else 0) + (p.K.map LW).sum
        rw [hK]
        have hsum := sum_set (t := s.told) hs
        have hw : LW s.told < LW s := by
          unfold LW
          show s.wa.length + 0 + (if s.st.shut && !s.st.last then 1 else 0) < s.wa.length + (if s.st.announced then 0 else 1) + (if s.st.shut && !s.st.sentAll then 1 else 0)
          rw [han, F.last, F.all, F.nov han]
          simp
        omega
  · unfold GEnd.oData at hn
    cases hd : nextN p.m p.K p.L none with
    | none => rw [hd] at hn; cases hn
    | some n =>
      rw [hd, Option.map_some] at hn
      injection hn with hn; subst hn
      rcases nextN_mem hd with h0 | ⟨h0, h1⟩
      · cases h0
      · exact h.data h0 h1
/-- The frames of one Take, one by one. -/
def LFrs (z1 : LAcc) (z2 : List Fr) (z3 : LAcc) : Prop := ∀ Z : LAcc → List Fr → LAcc → Prop, (∀ (a : LAcc), Z a [] a) → (∀ (a a' a'' : LAcc) (f : Fr) (fs : List Fr) (x1 : LBd a) (x2 : LNum a) (x3 : LFr a f a') (x4 : Z a' fs a''), Z a (f :: fs) a'') → Z z1 z2 z3
theorem LFrs.nil {a : LAcc} : LFrs a [] a := fun Z zk1 zk2 => zk1 a
theorem LFrs.cons {a a' a'' : LAcc} {f : Fr} {fs : List Fr} (x1 : LBd a) (x2 : LNum a) (x3 : LFr a f a') (x4 : LFrs a' fs a'') : LFrs a (f :: fs) a'' := fun Z zk1 zk2 => zk2 a a' a'' f fs x1 x2 x3 (x4 Z zk1 zk2)
theorem LFrs.ind {motive : ∀ (z1 : LAcc) (z2 : List Fr) (z3 : LAcc), LFrs z1 z2 z3 → Prop} (nil : ∀ {a : LAcc}, motive a [] a (@LFrs.nil a)) (cons : ∀ {a a' a'' : LAcc} {f : Fr} {fs : List Fr} (x1 : LBd a) (x2 : LNum a) (x3 : LFr a f a') (x4 : LFrs a' fs a'') (ih : motive a' fs a'' x4), motive a (f :: fs) a'' (@LFrs.cons a a' a'' f fs x1 x2 x3 x4)) {z1 : LAcc} {z2 : List Fr} {z3 : LAcc} (zt : LFrs z1 z2 z3) : motive z1 z2 z3 zt := (zt (fun z1 z2 z3 => ∃ zt : LFrs z1 z2 z3, motive z1 z2 z3 zt) (fun a => ⟨_, @nil a⟩) (fun a a' a'' f fs x1 x2 x3 zy => zy.elim fun x4 zx => ⟨_, @cons a a' a'' f fs x1 x2 x3 x4 zx⟩)).elim fun _ zx => zx
/-- Nothing is left that might be sent. -/
def LDone (a : LAcc) : Prop := ∀ x ∈ a.fl, ¬ (x.sent < x.wr.length ∧ 0 < a.room ∧ 0 < a.win x) ∧ ¬ (x.closed = true ∧ x.sent = x.wr.length ∧ x.over = false)
theorem LRel.done (h : LRel a p) (hn : p.nextG = none) : LDone a ∧ p.ans = [] ∧ ∀ s ∈ p.K, s.st.announced = true := by
  unfold GEnd.nextG at hn
  rw [Option.or_eq_none_iff, Option.or_eq_none_iff, h.next, Option.or_eq_none_iff] at hn
  obtain ⟨⟨h1, -⟩, h2, h3⟩ := hn
  have hA : ∀ s ∈ p.K, s.st.announced = true := by
    have hg : ∀ L : List Int, firstNew p.K L = none → ∀ n ∈ L, (atN p.K n).st.announced = true := by
      intro L
      induction L with
      | nil => intro _ n hn; cases hn
      | cons y r ih =>
        intro hf n hn
        rw [firstNew] at hf
        split at hf
        · rename_i hy
          rcases List.mem_cons.1 hn with rfl | hn
          · exact hy
          · exact ih hf n hn
        · cases hf
    intro s hs
    have hnl : s.st.number ∈ p.L := (h.mem _).2 ⟨s, hs, rfl⟩
    have := hg p.L (by
      unfold GEnd.oHead at h2
      cases hd : firstNew p.K p.L with
      | none => rfl
      | some n => rw [hd] at h2; cases h2) _ hnl
    rw [atN_mem h.nn hs] at this
    exact this
  have hD : ∀ s ∈ p.K, p.m.hasD s.st s.wa.length = false := by
    intro s hs
    have hnl : s.st.number ∈ p.L := (h.mem _).2 ⟨s, hs, rfl⟩
    have := nextN_none (b := none) (by
      unfold GEnd.oData at h3
      cases hd : nextN p.m p.K p.L none with
      | none => rfl
      | some n => rw [hd] at h3; cases h3) _ hnl
    rw [atN_mem h.nn hs] at this
    exact this
  refine ⟨fun x hx => ?_, ?_, hA⟩
  · obtain ⟨i, hi⟩ := List.mem_iff_getElem?.1 hx
    have hlt : i < p.K.length := by rw [← h.len]; exact (List.getElem?_eq_some_iff.1 hi).1
    have F := h.fs i x p.K[i] hi (List.getElem?_eq_getElem hlt)
    have hm : p.K[i] ∈ p.K := List.getElem_mem hlt
    have q1 := hA _ hm
    have q2 := hD _ hm
    generalize p.K[i] = s at *
    have hwl : s.wa.length = x.wr.length - x.sent := by rw [F.wa, List.length_drop]
    have hle := F.le
    have hoth := h.e.other
    have hsnd := h.e.send
    have hss := F.send
    cases ho : x.over with
    | true =>
      have := F.ov ho
      refine ⟨fun h => by omega, fun h => by cases h.2.2⟩
    | false =>
      obtain ⟨q3, q4⟩ := hasD_false q2 q1 (by rw [F.all]; exact ho)
      refine ⟨fun ⟨r1, r2, r3⟩ => ?_, fun ⟨r1, r2, r3⟩ => ?_⟩
      · refine q4 (by omega) ⟨?_, ?_⟩
        · unfold LAcc.win at r3
          omega
        · omega
      · have := q3 (by omega)
        rw [F.shut, r1] at this
        cases this
  · unfold GEnd.oAnswer at h1
    split at h1
    · assumption
    · cases h1
theorem FrFits.len {f : Fr} (h : FrFits f) : (lay f.kind f.flags f.stream f.body).length ≤ 70 := by
  rw [lay_length]
  have := h.n
  omega
theorem LRel.run : ∀ (N : Nat) (a : LAcc) (p : GEnd), LRel a p → LMu p ≤ N → p.out.length + 70 * N ≤ 1073741824 → ∃ fs a' p', RunsG 1099511627776 p p' ∧ p'.nextG = none ∧ p'.out = p.out ++ layFs fs ∧ LFrs a fs a' ∧ LRel a' p' ∧ fs.length ≤ N ∧ p'.out.length ≤ 1073741824 := by
  intro N
  induction N with
  | zero =>
    intro a p h hN hl
    cases hn : p.nextG with
    | none => exact ⟨[], a, p, .none hn, hn, by simp [layFs], .nil, h, Nat.le_refl _, by omega⟩
    | some q =>
      obtain ⟨f, a', -, -, -, h4⟩ := h.step hn
      omega
  | succ N ih =>
    intro a p h hN hl
    cases hn : p.nextG with
    | none => exact ⟨[], a, p, .none hn, hn, by simp [layFs], .nil, h, Nat.zero_le _, by omega⟩
    | some q =>
      obtain ⟨f, a1, h1, h2, h3, h4⟩ := h.step hn
      have hf := h1.1.len
      have hql : q.out.length = p.out.length + (lay f.kind f.flags f.stream f.body).length := by rw [h2, List.length_append]
      obtain ⟨fs, a', p', r1, r2, r3, r4, r5, r6, r7⟩ := ih a1 q h3 (by omega) (by omega)
      refine ⟨f :: fs, a', p', .step (by omega) hn r1, r2, ?_, .cons h.bd h.first h1 r4, r5, by simp; omega, r7⟩
      rw [r3, h2, List.append_assoc]
      rfl
theorem LRel.mu (h : LRel a p) (ha : p.ans.length ≤ 8) : LMu p ≤ 1000 := by
  have hw : ∀ K : List GSt, (∀ s ∈ K, LW s ≤ 102) → (K.map LW).sum ≤ 102 * K.length := by
    intro K
    induction K with
    | nil => intro _; simp
    | cons s r ih =>
      intro hk
      rw [List.map_cons, List.sum_cons, List.length_cons]
      have := hk s List.mem_cons_self
      have := ih fun y hy => hk y (List.mem_cons_of_mem _ hy)
      omega
  have := hw p.K (fun s hs => by
    obtain ⟨i, x, -, -, F⟩ := h.flow hs
    have := F.w100
    unfold LW
    split <;> split <;> omega)
  have h1 := h.lenK
  have h2 := h.t4
  have h3 := h.o4
  unfold LMu
  split <;> omega
end
end Go.Proofs.YtdccldbefdfppaaGreatDoor
/-
  An end, as its calls leave it, without where things lie.
-/
namespace Go.Proofs.YtdccldbefdfppaaGreatDoor
set_option linter.unusedVariables false
set_option linter.unusedSimpArgs false
open Go.RowKit

/-- An end at eb; F: its blocks; p: what it is. -/
def StE (w : World) (eb : Nat) (F : Nat → Prop) (p : GEnd) : Prop := ∃ mb g, Inv w eb mb g ∧ RdOk g ∧ g.bare = p ∧ ∀ j, F j ↔ Foot eb mb g j
/-- One call on. -/
def GoE (w w' : World) (eb : Nat) (F : Nat → Prop) (p : GEnd) : Prop := ∃ F', StE w' eb F' p ∧ Chg F w w' ∧ ∀ j, F' j → F j ∨ w.heap.size ≤ j
section
variable {w w' : World} {eb : Nat} {F : Nat → Prop} {p : GEnd}
theorem GoE.of {mb : Nat} {g g' : GEnd} {p' : GEnd} (hF : ∀ j, F j ↔ Foot eb mb g j) (hn : Next w w' eb mb g g') (hr : RdOk g') (hp : g'.bare = p') : GoE w w' eb F p' :=
  ⟨Foot eb mb g', ⟨mb, g', hn.inv, hr, hp, fun j => Iff.rfl⟩, hn.chg.mono fun j _ e => (hF j).2 e, fun j hj => (hn.grow j hj).imp_left (hF j).2⟩
theorem StE.lt (h : StE w eb F p) {j : Nat} (hj : F j) : j < w.heap.size := by
  obtain ⟨mb, g, hi, -, -, hF⟩ := h
  exact Foot.lt hi ((hF j).1 hj)
theorem StE.below (h : StE w eb F p) (hb : Below w.heap.size w w') : StE w' eb F p := by
  obtain ⟨mb, g, hi, hr, hp, hF⟩ := h
  exact ⟨mb, g, hi.below hb, hr, hp, hF⟩
theorem StE.chg {S : Nat → Prop} (h : StE w eb F p) (hc : Chg S w w') (hs : ∀ j, F j → ¬ S j) : StE w' eb F p := by
  obtain ⟨mb, g, hi, hr, hp, hF⟩ := h
  exact ⟨mb, g, hi.chg hc (fun j hj => hs j ((hF j).2 hj)), hr, hp, hF⟩
theorem bare_got {g : GEnd} (hp : g.bare = p) (h : p.got = []) : g.got = [] := by
  rw [← hp] at h
  exact h
theorem c_feed {q : GEnd} {bv : Value} {l : List UInt8} (h : StE w eb F p) (hf : FeedR p l q) (hq : q.m.fault = 0) (hgl : Gl w) (hge : ∀ j, j < 7 → ¬ F j) (hb : BytesIn w bv l) (hbn : ∀ j, bv.ownBlock = some j → ¬ F j) (hl : l.length ≤ 4611686018427387904) :
    Calls Tryz.prog 16 #[.pointer (some ⟨eb, 0, none⟩), bv] w fun e w' => e = .returned (.int .i64 0) ∧ GoE w w' eb F q := by
  obtain ⟨mb, g, hi, hr, hp, hF⟩ := h
  rw [← hp] at hf
  refine (x_feed eb mb g q bv l w hi hr hf hq hgl (fun j hj e => hge j hj ((hF j).2 e)) hb (fun j hj e => hbn j hj ((hF j).2 e)) hl).mono ?_
  rintro e w' ⟨rfl, g', h1, h2, h3⟩
  exact ⟨rfl, GoE.of hF h3 h2 h1⟩
theorem c_take {p' : GEnd} {n : Int} (h : StE w eb F p) (hf : Fine p) (hg : p.got = []) (hg' : p'.got = []) (hl : p.m.fault = 0) (hr : Runs n p p') (ho : p'.out.length ≤ 1073741824) :
    Calls Tryz.prog 19 #[.pointer (some ⟨eb, 0, none⟩), .int .i64 n] w fun e w' => (∃ s, e = .returned (.slice s (cutN n p'.out.length) (cutN n p'.out.length)) ∧ BytesIn w' (.slice s (cutN n p'.out.length) (cutN n p'.out.length)) (p'.out.take (cutN n p'.out.length))) ∧ GoE w w' eb F { p' with out := p'.out.drop (cutN n p'.out.length) } := by
  obtain ⟨mb, g, hi, hrd, hp, hF⟩ := h
  have hf' : Fine g := Fine.of_bare (by rw [hp]; exact hf)
  have hl' : g.m.fault = 0 := by rw [← hp] at hl; exact hl
  refine (x_take eb mb g p' n w hi hf' hl' (by rw [hp]; exact hr) ho).mono ?_
  rintro e w' ⟨h1, g', h2, h3⟩
  exact ⟨h1, GoE.of hF h3 (RdOk.nil (bare_got h2 hg')) h2⟩
/-- The stream of a number, as it lies. -/
theorem stE_at {mb : Nat} {g : GEnd} (hi : Inv w eb mb g) (hp : g.bare = p) {s : GSt} (hs : s ∈ p.K) : ∃ x ∈ g.K, x.bare = s ∧ findK (g.K.map GSt.str) s.st.number = some x.str := by
  obtain ⟨x, hx, rfl⟩ := mem_bare hp hs
  exact ⟨x, hx, rfl, hi.find hx⟩
end
end Go.Proofs.YtdccldbefdfppaaGreatDoor
/-
  Reset, Write and Read of an end that are done.
-/
namespace Go.Proofs.YtdccldbefdfppaaGreatDoor
set_option linter.unusedVariables false
set_option linter.unusedSimpArgs false
open Go.RowKit

section
variable {w w' : World} {eb : Nat} {F : Nat → Prop} {p : GEnd}
def GSt.wrote (s : GSt) (b : List UInt8) : GSt := { s with wa := s.wa ++ b.take (roomN b.length s.wa.length) }
end
end Go.Proofs.YtdccldbefdfppaaGreatDoor
/-
  Package ends: Open of a stream without pairs.
-/
namespace Go.Proofs.YtdccldbefdfppaaGreatDoor
set_option linter.unusedVariables false
set_option linter.unusedSimpArgs false
open Go.RowKit

set_option maxHeartbeats 400000 in
theorem indexFunc_nil (f : Value) (w : World) : Calls Tryz.prog 106 #[.slice none 0 0, f] w fun e w' => e = .returned (.int .i64 (-1)) ∧ w' = w := by
  go_enter Tryz.func106, Tryz.ntmps106
  go_wp2
  refine wp_loop_rounds 1 ?_
  rw [rounds_succ]
  go_wp2
  go_ret
  exact ⟨rfl, rfl⟩
set_option maxHeartbeats 400000 in
theorem containsFunc_nil (f : Value) (w : World) : Calls Tryz.prog 74 #[.slice none 0 0, f] w fun e w' => e = .returned (.bool false) ∧ w' = w := by
  have HC := hide (indexFunc_nil f w)
  go_enter Tryz.func74, Tryz.ntmps74
  go_wp2_with fail
  refine HC.out.mono ?_
  rintro e w1 ⟨rfl, hw1⟩
  rw [hw1]
  clear hw1 w1
  go_wp2
  go_ret
  exact ⟨rfl, rfl⟩
set_option maxHeartbeats 400000 in
theorem isList_nil (w : World) : Calls Tryz.prog 59 #[.slice none 0 0] w fun e w' => e = .returned (.bool true) ∧ w' = w := by
  have HC := hide (fun f => containsFunc_nil f w)
  go_enter Tryz.func59, Tryz.ntmps59
  go_wp2_with fail
  refine (HC.out _).mono ?_
  rintro e w1 ⟨rfl, hw1⟩
  rw [hw1]
  clear hw1 w1
  go_wp2
  go_ret
  exact ⟨rfl, rfl⟩
set_option maxRecDepth 100000 in
set_option maxHeartbeats 400000 in
theorem copyOf_nil (w : World) : Calls Tryz.prog 61 #[.slice none 0 0] w fun e w' => (∃ a, e = .returned (.slice (some a) 0 0)) ∧ Below w.heap.size w w' := by
  obtain ⟨i0, hi, hz0, hz1, hz2⟩ := info_parts Tryz.info130
  obtain ⟨M, hM⟩ : ∃ M, M = madeCells (Value.agg #[.string ⟨#[]⟩, .string ⟨#[]⟩]).cells (((0 : Nat) : Int).toNat * i0.size) := ⟨_, rfl⟩
  have hmk : ∀ W : World, (Instr.makeSlice 88 (.int .i64 0) (.int .i64 0)).run Tryz.prog W = .ok (.slice (some ⟨W.heap.size, 0, none⟩) 0 0) (W.alloc (.cells M 130)) := fun W => by
    have h := run_make (P := Tryz.prog) W 88 130 i0 (.agg #[.string ⟨#[]⟩, .string ⟨#[]⟩]) Tryz.underlying88 hi hz0 .i64 .i64 ((0 : Nat) : Int) ((0 : Nat) : Int) (by omega) (by omega) (by rw [hz2]; decide) (by decide)
    rw [← hM] at h
    simpa using h
  clear hM
  go_enter Tryz.func61, Tryz.ntmps61
  go_wp2
  refine wp_loop_rounds 1 ?_
  rw [rounds_succ]
  go_wp2
  go_ret
  exact ⟨⟨_, rfl⟩, (Below.refl _ _).alloc (Nat.le_refl _) _⟩
/-- A stream that was opened here. -/
def StM.mine (n : Int) (hv : Value) : StM := ⟨0, 0, 0, n, hv, false, false, false, false, false, 0, .slice none 0 0, .slice none 0 0⟩
/-- With one stream more, which was opened here. -/
def GEnd.opens (g : GEnd) : GEnd := { g with m := { g.m with next := g.m.next + 2 }, K := g.K ++ [⟨0, StM.mine g.m.next (.slice none 0 1), [], []⟩], L := insL g.m.next g.L }
set_option maxRecDepth 100000 in
set_option maxHeartbeats 1600000 in
theorem eOpen_many (eb mb : Nat) (g : GEnd) (w : World) (h : Inv w eb mb g) (hl : g.m.fault = 0) (hL : g.L.length ≤ 1048576) (hm : 4 ≤ g.L.countP fun k => g.m.opensN k) :
    Calls Tryz.prog 40 #[.pointer (some ⟨eb, 0, none⟩), .slice none 0 0, .bool false] w fun e w' => e = .returned (.tuple #[.int .i64 0, .int .i64 3]) ∧ w' = w := by
  have HD := hide (isDead_any eb g.m w h.en)
  have hb : (g.m.fault == 0) = true := by simp [hl]
  rw [hb] at HD
  have HI := hide (isList_nil w)
  have HH := hide (openHere_any eb g.m (openS g.K g.L) w h.en h.open (by rw [openS_length]; exact hL))
  rw [← h.here] at hm
  generalize g.m.hereN (openS g.K g.L) = c at *
  clear h hb
  go_enter Tryz.func40, Tryz.ntmps40
  go_wp2_with fail
  refine HD.out.mono ?_
  rintro e w1 ⟨rfl, hw1⟩
  rw [hw1]
  clear hw1 w1
  go_wp2_with fail
  refine HI.out.mono ?_
  rintro e w1 ⟨rfl, hw1⟩
  rw [hw1]
  clear hw1 w1
  go_wp2_with fail
  refine HH.out.mono ?_
  rintro e w1 ⟨rfl, hw1⟩
  rw [hw1]
  clear hw1 w1
  go_wp2
  refine bodyPost_ret (v := .tuple #[.int .i64 0, .int .i64 3]) ?_ rfl ⟨rfl, rfl⟩
  simp [results, Tryz.results40, go_sem]
set_option maxRecDepth 100000 in
set_option maxHeartbeats 3200000 in
theorem eOpen_ok (eb mb : Nat) (g : GEnd) (w : World) (h : Inv w eb mb g) (hl : g.m.fault = 0) (hm : (g.L.countP fun k => g.m.opensN k) < 4) (hnx : 0 ≤ g.m.next ∧ g.m.next ≤ 32767) (hn : ∀ x ∈ g.K, x.st.number ≠ g.m.next) (hup : Rise g.L) (hL : g.L.length ≤ 11) :
    Calls Tryz.prog 40 #[.pointer (some ⟨eb, 0, none⟩), .slice none 0 0, .bool false] w fun e w' => e = .returned (.tuple #[.int .i64 g.m.next, .int .i64 0]) ∧ ∃ g', g'.bare = g.opens.bare ∧ Next w w' eb mb g g' := by
  have HD := hide (isDead_any eb g.m w h.en)
  have hb : (g.m.fault == 0) = true := by simp [hl]
  rw [hb] at HD
  have HI := hide (isList_nil w)
  have HH := hide (openHere_any eb g.m (openS g.K g.L) w h.en h.open (by rw [openS_length]; omega))
  have HCO := hide (fun wx => copyOf_nil wx)
  rw [← h.here] at hm
  have c44 := h.en.c44
  have hlt := h.en.lt
  have H := hide h
  generalize g.m.hereN (openS g.K g.L) = c at *
  clear h hb
  go_enter Tryz.func40, Tryz.ntmps40
  go_wp2_with fail
  refine HD.out.mono ?_
  rintro e w1 ⟨rfl, hw1⟩
  rw [hw1]
  clear hw1 w1
  go_wp2_with fail
  refine HI.out.mono ?_
  rintro e w1 ⟨rfl, hw1⟩
  rw [hw1]
  clear hw1 w1
  go_wp2_with fail
  refine HH.out.mono ?_
  rintro e w1 ⟨rfl, hw1⟩
  rw [hw1]
  clear hw1 w1
  go_upto_region 7 with fail
  go_cut [8] (fun s8 wx => ∃ sb a, s8 = .pointer (some ⟨sb, 0, none⟩) ∧ w.heap.size ≤ sb ∧ StB wx sb (StM.mine g.m.next (.slice (some a) 0 0)) ∧ Below w.heap.size w wx)
  case first =>
    go_region_held3 (fun w' => w'.cell? ⟨eb, 44, none⟩ = some (.int .i64 g.m.next)) (go_keep)
      (first | (go_at_call 61; refine (HCO.out _).mono ?_; rintro e w3 ⟨⟨a, rfl⟩, hb3⟩; have hbx : Below w.heap.size w w3 := ⟨hb3.os, hb3.tape, hb3.output, hb3.size, hb3.block⟩; have t1 : w3.cell? ⟨eb, 44, none⟩ = some (.int .i64 g.m.next) := (by rw [Below.cell hbx (p := ⟨eb, 44, none⟩) hlt]; exact c44)))
    all_goals (go_wp2_with fail; go_meet; exact ⟨w3.heap.size, a, rfl, hbx.size, ⟨heap_alloc_new w3 _⟩, hbx.alloc hbx.size _⟩)
  case rest =>
    obtain ⟨sb, a, hs8, hsb, hst, hbc⟩ := hcut
    subst hs8
    obtain ⟨w2, hw2⟩ : ∃ w2, w2 = wc := ⟨wc, rfl⟩
    rw [← hw2] at hst hbc ⊢
    clear hw2
    have hI2 := H.out.below hbc
    have d44 := hI2.en.c44
    have f44 := hI2.en.fr 44
    have hwr : IntKind.i64.wrap (g.m.next + 2) = g.m.next + 2 := by rw [IntKind.wrap_i64]; omega
    obtain ⟨w3, hw3⟩ : ∃ w3, w3 = w2.setCell ⟨eb, 44, none⟩ (.int .i64 (g.m.next + 2)) := ⟨_, rfl⟩
    have hc3 : Chg (fun j => j = eb) w2 w3 := by rw [hw3]; exact chg_set (Chg.refl _ _) rfl
    have hn3 := hI2.onM (m' := { g.m with next := g.m.next + 2 }) hc3 ⟨by rw [hw3]; exact (blk_set hI2.en.blk).trans (by simp [EndM.cells])⟩ rfl rfl rfl rfl rfl rfl
    have hst3 : StB w3 sb (StM.mine g.m.next (.slice (some a) 0 0)) := hst.chg hc3 (by omega)
    have hN3 := hn3.pre hbc
    have hIx := hN3.inv
    have HADD : Hid (Calls Tryz.prog 62 #[.pointer (some ⟨eb, 22, none⟩), .pointer (some ⟨sb, 0, none⟩)] w3 fun e w' => e = .returned (.tuple #[]) ∧ w'.cell? ⟨sb, 3, none⟩ = some (.int .i64 g.m.next) ∧ ∃ g', g'.bare = g.opens.bare ∧ Next w w' eb mb g g') := by
      refine (sadd_any eb mb sb _ (g.K.map GSt.str) (openS g.K g.L) (StM.mine g.m.next (.slice (some a) 0 0)) w3 hIx.en hIx.km hIx.kn hIx.open hst3 ?_ ?_ (by rw [openS_length]; exact hL)).mono ?_
      · rw [findK_str]
        rw [List.find?_eq_none.2 fun x hx => by simpa [StM.mine] using hn x hx]
        rfl
      · have hmap : (openS g.K g.L).map (fun p => p.2.number) = g.L := by
          unfold openS
          rw [List.map_map]
          conv => rhs; rw [← List.map_id g.L]
          apply List.map_congr_left
          intro k hk
          exact (H.out.at hk).2
        rw [hmap]
        exact hup
      · rintro e w' ⟨rfl, v, hA⟩
        have hN := Inv.added hN3 hsb hst3 (n := g.m.next) rfl rfl rfl (fun hf => by
          have := Foot.lt H.out (show Foot eb mb g sb from hf)
          omega) hn hA
        refine ⟨rfl, (hN.inv.st (p := ⟨sb, StM.mine g.m.next (.slice (some a) 0 0), [], []⟩) (List.mem_append_right _ (List.mem_singleton.2 rfl))).c3, _, ?_, hN⟩
        unfold GEnd.opens GEnd.bare
        simp only [GEnd.mk.injEq, true_and, and_true]
        refine ⟨rfl, ?_⟩
        rw [List.map_append, List.map_append]
        rfl
    have HW3 := hide hw3
    clear hI2 hc3 hn3 hst3 hN3 hIx hw3 hbc hst
    go_upto_region 9 with fail
    rw [← HW3.out]
    go_wp2_with fail
    refine HADD.out.mono ?_
    rintro e w4 ⟨rfl, k3, hq⟩
    have HQ := hide hq
    clear hq
    go_wp2
    refine bodyPost_ret (v := .tuple #[.int .i64 g.m.next, .int .i64 0]) ?_ rfl ⟨rfl, HQ.out⟩
    simp [results, Tryz.results40, go_sem]
set_option maxHeartbeats 400000 in
theorem xOpen_of (eb : Nat) (v b : Value) (w : World) {R : Value → Value → World → Prop} (h : Calls Tryz.prog 40 #[.pointer (some ⟨eb, 0, none⟩), v, b] w fun e w' => ∃ a c, e = .returned (.tuple #[a, c]) ∧ R a c w') :
    Calls Tryz.prog 18 #[.pointer (some ⟨eb, 0, none⟩), v, b] w fun e w' => ∃ a c, e = .returned (.tuple #[a, c]) ∧ R a c w' := by
  have HC := hide h
  clear h
  go_enter Tryz.func18, Tryz.ntmps18
  go_wp2_with fail
  refine HC.out.mono ?_
  rintro e w' ⟨a, c, rfl, h⟩
  have H := hide h
  clear h
  go_wp2
  refine bodyPost_ret (v := .tuple #[a, c]) ?_ rfl ⟨a, c, rfl, H.out⟩
  simp [results, Tryz.results18, go_sem]
end Go.Proofs.YtdccldbefdfppaaGreatDoor
