import Derived.Test.YtlhlmgfblbpdpaaGreatDoorWGap
import Derived.Lib.SlBytesConst
set_option linter.unusedVariables false
set_option linter.unusedSimpArgs false
/-
  The law's own: split.
-/
namespace Go.Proofs.YtlhlmgfblbpdpaaGreatDoor
set_option linter.unusedVariables false
set_option linter.unusedSimpArgs false
open Go.RowKit

/-- Frames of which a head can tell all. -/
structure FrFits (f : Fr) : Prop where
  k0 : 0 ≤ f.kind
  k1 : f.kind ≤ 255
  f0 : 0 ≤ f.flags
  f1 : f.flags ≤ 255
  s0 : 0 ≤ f.stream
  s1 : f.stream ≤ 32767
  n : f.body.length ≤ 64
def layFs (fs : List Fr) : List UInt8 := fs.flatMap fun f => lay f.kind f.flags f.stream f.body
def spC (p : Fr × Value) : List Value := [.int .i64 p.1.kind, .int .i64 p.1.flags, .int .i64 p.1.stream, p.2]
/-- What split answers. -/
structure SplitS (w w' : World) (fs : List Fr) (v : Value) (ps : List (Fr × Value)) : Prop where
  fst : ps.map Prod.fst = fs
  row : w'.ownsRow w.heap.size 99 4 v ps.length (ps.flatMap spC)
  body : ∀ p ∈ ps, BytesIn w p.2 p.1.body
  bel : Below w.heap.size w w'
theorem head_cells {w : World} {bb off : Nat} {f : Fr} {r : List UInt8} {l : List UInt8} (hl : l = lay f.kind f.flags f.stream f.body ++ r) (hf : FrFits f) (h4 : ∀ i, i < l.length → w.cell? ⟨bb, off + i, none⟩ = some (.int .u8 (l.getD i 0).toNat)) :
    w.cell? ⟨bb, off, none⟩ = some (.int .u8 0) ∧ w.cell? ⟨bb, off + 1, none⟩ = some (.int .u8 (f.body.length : Int)) ∧ w.cell? ⟨bb, off + 2, none⟩ = some (.int .u8 f.kind) ∧ w.cell? ⟨bb, off + 3, none⟩ = some (.int .u8 f.flags) ∧ w.cell? ⟨bb, off + 4, none⟩ = some (.int .u8 (f.stream / 256)) ∧ w.cell? ⟨bb, off + 5, none⟩ = some (.int .u8 (f.stream % 256)) := by
  have hlen : 6 ≤ l.length := by rw [hl, List.length_append, lay_length]; omega
  obtain ⟨k0, k1, f0, f1, s0, s1, n⟩ := hf
  have e : ∀ i x, l.getD i 0 = ofI x → 0 ≤ x → x ≤ 255 → i < l.length → w.cell? ⟨bb, off + i, none⟩ = some (.int .u8 x) := fun i x h1 h2 h3 hi => by
    rw [h4 i hi, h1, ofI_toNat h2 h3]
  refine ⟨?_, ?_, ?_, ?_, ?_, ?_⟩
  · have := e 0 ((f.body.length : Int) / 256) (by rw [hl]; rfl) (by omega) (by omega) (by omega)
    rw [Nat.add_zero] at this
    rw [this]
    congr 2
    omega
  · exact e 1 _ (by rw [hl]; rfl) (by omega) (by omega) (by omega)
  · exact e 2 _ (by rw [hl]; rfl) k0 k1 (by omega)
  · exact e 3 _ (by rw [hl]; rfl) f0 f1 (by omega)
  · exact e 4 _ (by rw [hl]; rfl) (by omega) (by omega) (by omega)
  · exact e 5 _ (by rw [hl]; rfl) (by omega) (by omega) (by omega)
theorem bytes_cut {w : World} {bb off cap : Nat} {l : List UInt8} (hb : bb < w.heap.size) (hl : l.length ≤ cap) (h4 : ∀ i, i < l.length → w.cell? ⟨bb, off + i, none⟩ = some (.int .u8 (l.getD i 0).toNat)) (a n : Nat) (h : a + n ≤ l.length) (c : Nat) (hc : n ≤ c) : BytesIn w (.slice (some ⟨bb, off + a, none⟩) n c) ((l.drop a).take n) := by
  have e : ((l.drop a).take n).length = n := by rw [List.length_take, List.length_drop]; omega
  refine Or.inr ⟨bb, off + a, c, by rw [e], hb, by rw [e]; exact hc, fun i hi => ?_⟩
  rw [e] at hi
  rw [Nat.add_assoc, h4 (a + i) (by omega)]
  simp [List.getD, List.getElem?_take, hi, List.getElem?_drop]

set_option maxRecDepth 100000 in
set_option maxHeartbeats 1200000 in
theorem ksplit_any (sv : Option Addr) (cap : Nat) (fs : List Fr) (w : World) (hf : ∀ f ∈ fs, FrFits f ∧ 1 ≤ f.body.length) (hfl : fs.length ≤ 1048576) (hb : BytesIn w (.slice sv (layFs fs).length cap) (layFs fs)) :
    Calls Tryz.prog 26 #[.slice sv (layFs fs).length cap] w fun e w' => ∃ v ps, e = .returned (.tuple #[v, .bool true]) ∧ SplitS w w' fs v ps := by
  obtain ⟨i0, hi, hz0, hz1, hz2⟩ := info_parts Tryz.info99
  have HFS := hide hf
  have HB := hide hb
  clear hf hb
  go_enter Tryz.func26, Tryz.ntmps26
  go_wp2
  go_loopw [0, 4] (fun b l wr => ∃ (wv : World) (ps : List (Fr × Value)) (todo : List Fr) (sv' : Option Addr) (cap' : Nat), wv = wr ∧ b = .slice sv' (layFs todo).length cap' ∧ BytesIn w (.slice sv' (layFs todo).length cap') (layFs todo) ∧ ps.map Prod.fst ++ todo = fs ∧ wv.ownsRow w.heap.size 99 4 l ps.length (ps.flatMap spC) ∧ (∀ p ∈ ps, BytesIn w p.2 p.1.body) ∧ Below w.heap.size w wv) (fun b _ _ => lenV b)
  case atStart => exact ⟨_, [], fs, sv, cap, rfl, rfl, HB.out, rfl, World.ownsRow_nil _ _ _ _, by simp, Below.refl _ _⟩
  case round =>
    obtain ⟨wv, ps, todo, sv', cap', hwv, rfl, hby, hfs, hrow, hbod, hbel⟩ := hrel
    subst hwv
    have hps : ps.length ≤ 1048576 := by
      have := congrArg List.length hfs
      simp at this
      omega
    obtain ⟨sl, cl, hsl⟩ := slice_len hrow
    subst hsl
    cases todo with
    | nil =>
      have hl0 : (layFs []).length = 0 := rfl
      rw [hl0]
      have HE : Hid (SplitS w wv fs (.slice sl ps.length cl) ps) := ⟨by rw [← hfs, List.append_nil], hrow, hbod, hbel⟩
      clear hrow hbod hbel hby hfs hl0
      go_wp2
      go_ret2
      exact ⟨_, ps, rfl, HE.out⟩
    | cons f r =>
      obtain ⟨hff, hf1⟩ := HFS.out f (by rw [← hfs]; simp)
      have hll : layFs (f :: r) = lay f.kind f.flags f.stream f.body ++ layFs r := rfl
      have hlen : (layFs (f :: r)).length = 6 + f.body.length + (layFs r).length := by rw [hll, List.length_append, lay_length]
      rcases hby with ⟨h1, h2⟩ | ⟨bb, off, cap2, h1, h2, h3, h4⟩
      · rw [h2] at hlen; simp at hlen; omega
      simp only [Value.slice.injEq, true_and] at h1
      obtain ⟨rfl, rfl⟩ := h1
      obtain ⟨q0, q1, q2, q3, q4, q5⟩ := head_cells hll hff h4
      have hw0 : ∀ o, wv.cell? ⟨bb, o, none⟩ = w.cell? ⟨bb, o, none⟩ := fun o => Below.cell hbel (p := ⟨bb, o, none⟩) h2
      rw [← hw0] at q0 q1 q2 q3 q4 q5
      obtain ⟨d0, d1, d2, d3, d4, d5, d6⟩ := hff
      -- the body and the rest
      have hbody : ∀ c, f.body.length ≤ c → BytesIn w (.slice (some ⟨bb, off + 6, none⟩) f.body.length c) f.body := fun c hc => by
        have := bytes_cut h2 h3 h4 6 f.body.length (by omega) c hc
        have e : ((layFs (f :: r)).drop 6).take f.body.length = f.body := by
          rw [hll]
          show (f.body ++ layFs r).take f.body.length = f.body
          rw [List.take_left' rfl]
        rw [e] at this
        exact this
      have hrest : ∀ c, (layFs r).length ≤ c → BytesIn w (.slice (some ⟨bb, off + (6 + f.body.length), none⟩) (layFs r).length c) (layFs r) := fun c hc => by
        have := bytes_cut h2 h3 h4 (6 + f.body.length) (layFs r).length (by omega) c hc
        have e : ((layFs (f :: r)).drop (6 + f.body.length)).take (layFs r).length = layFs r := by
          rw [hll, ← lay_length f.kind f.flags f.stream f.body, List.drop_left' rfl, List.take_of_length_le (Nat.le_refl _)]
        rw [e] at this
        exact this
      obtain ⟨n, hn⟩ : ∃ n, n = f.body.length := ⟨_, rfl⟩
      obtain ⟨m, hm⟩ : ∃ m, m = (layFs r).length := ⟨_, rfl⟩
      rw [← hn] at q1 d6 hbody hrest hlen hf1
      rw [← hm] at hrest hlen
      obtain ⟨T, hT⟩ : ∃ T, T = (layFs (f :: r)).length := ⟨_, rfl⟩
      rw [← hT] at h3 hlen ⊢
      have i0' : (0 : Int) < T := by omega
      have i1' : (1 : Int) < T := by omega
      have i2' : (2 : Int) < T := by omega
      have i3' : (3 : Int) < T := by omega
      have i4' : (4 : Int) < T := by omega
      have i5' : (5 : Int) < T := by omega
      have i6' : (6 : Int) ≤ T := by omega
      have i7' : ¬ ((T : Int) < 6 + (n : Int)) := by omega
      have i8' : 6 + (n : Int) ≤ (cap' : Int) := by omega
      have i9' : 6 + (n : Int) ≤ (T : Int) := by omega
      have ia' : 6 + n ≤ T := by omega
      have hTm : T - (6 + n) = m := by omega
      have HNEXT : Hid (∀ (w' : World) (v bv : Value) (sv2 : Option Addr) (c2 : Nat), w'.ownsRow w.heap.size 99 4 v (ps.length + 1) (ps.flatMap spC ++ [.int .i64 f.kind, .int .i64 f.flags, .int .i64 f.stream, bv]) → BytesIn w bv f.body → BytesIn w (.slice sv2 m c2) (layFs r) → Below w.heap.size w w' → ∃ (wv : World) (ps : List (Fr × Value)) (todo : List Fr) (sv' : Option Addr) (cap' : Nat), wv = w' ∧ (.slice sv2 m c2 : Value) = .slice sv' (layFs todo).length cap' ∧ BytesIn w (.slice sv' (layFs todo).length cap') (layFs todo) ∧ ps.map Prod.fst ++ todo = fs ∧ wv.ownsRow w.heap.size 99 4 v ps.length (ps.flatMap spC) ∧ (∀ p ∈ ps, BytesIn w p.2 p.1.body) ∧ Below w.heap.size w wv) := fun w' v bv sv2 c2 hr hbb hrr hbe => by
        refine ⟨w', ps ++ [(f, bv)], r, sv2, c2, rfl, by rw [hm], by rw [hm] at hrr; exact hrr, ?_, ?_, ?_, hbe⟩
        · rw [List.map_append, ← hfs]; simp
        · rw [List.length_append, List.flatMap_append]
          simpa [spC] using hr
        · intro p hp
          rcases List.mem_append.1 hp with a | a
          · exact hbod p a
          · rw [List.mem_singleton.1 a]; exact hbb
      have HROW := hide hrow
      have HBEL := hide hbel
      have HBD := hide hbody
      have HRS := hide hrest
      have hs256 : 256 * (f.stream / 256) + f.stream % 256 = f.stream := by omega
      have hbbv : bb < wv.heap.size := Nat.lt_of_lt_of_le h2 hbel.size
      generalize f.kind = kk at *
      generalize f.flags = ff at *
      generalize f.stream = ss at *
      have HTM := hide hTm
      have HLR : Hid ((layFs r).length = m) := hm.symm
      have HLB : Hid (f.body.length = n) := hn.symm
      have HLEN := hide hlen
      clear hfs hrow hbod hbel hw0 h4 hbody hrest hll hlen hm hn hTm hT
      go_upto_region 3 with fail
      go_quiet (fail)
      go_upto_region 6 with fail
      obtain ⟨w3, hw3⟩ : ∃ w3, w3 = wv.drewN nq := ⟨_, rfl⟩
      rw [← hw3]
      have hb3 : Below w.heap.size w w3 := by rw [hw3]; exact HBEL.out.trans (Below.mono (bel_drewN (Below.refl _ _)) HBEL.out.size)
      have hr3 : w3.ownsRow w.heap.size 99 4 (.slice sl ps.length cl) ps.length (ps.flatMap spC) := by rw [hw3]; exact owns_chg HROW.out (Chg.of_below (S := fun _ => False) (bel_drewN (Below.refl _ _))) (fun _ _ => id)
      have p2 : w3.cell? ⟨bb, off + 2, none⟩ = some (.int .u8 kk) := by rw [hw3]; exact q2
      have p3 : w3.cell? ⟨bb, off + 3, none⟩ = some (.int .u8 ff) := by rw [hw3]; exact q3
      have p4 : w3.cell? ⟨bb, off + 4, none⟩ = some (.int .u8 (ss / 256)) := by rw [hw3]; exact q4
      have p5 : w3.cell? ⟨bb, off + 5, none⟩ = some (.int .u8 (ss % 256)) := by rw [hw3]; exact q5
      have hbb3 : bb < w3.heap.size := by rw [hw3]; exact hbbv
      -- behind the append
      have HRA : Hid (∀ o, (w3.alloc o).drew.ownsRow 0 99 4 (.slice sl ps.length cl) ps.length (ps.flatMap spC)) := fun o => owns_base (owns_chg hr3 (((Chg.refl (fun _ => False) w3).alloc o).drew) (fun _ _ => id)) (fun _ _ => Nat.zero_le _)
      have HAPP : Hid (∀ (o : Obj) (v4 : Value) (w4 : World) (xs : List Value), w4.ownsRow 0 99 4 v4 (ps.length + 1) xs → (w3.alloc o).drew.grownBy w4 (Value.slice sl ps.length cl).ownBlock → (v4.ownBlock = (Value.slice sl ps.length cl).ownBlock ∨ v4.ownBlock = some (w3.alloc o).drew.heap.size) → Below w.heap.size w w4 ∧ w4.ownsRow w.heap.size 99 4 v4 (ps.length + 1) xs ∧ w4.cell? ⟨bb, off + 2, none⟩ = some (.int .u8 kk) ∧ w4.cell? ⟨bb, off + 3, none⟩ = some (.int .u8 ff) ∧ w4.cell? ⟨bb, off + 4, none⟩ = some (.int .u8 (ss / 256)) ∧ w4.cell? ⟨bb, off + 5, none⟩ = some (.int .u8 (ss % 256))) := fun o v4 w4 xs ho hg hfr => by
        have hb3a : Below w.heap.size w (w3.alloc o).drew := by
          have := hb3.alloc hb3.size o
          exact ⟨this.os, this.tape, this.output, this.size, this.block⟩
        have hb4 : Below w.heap.size w w4 := below_of_chg hb3a (Chg.of_grown (S := fun j => (Value.slice sl ps.length cl).ownBlock = some j) hg (fun j hj => hj)) (fun j hj => (hr3.lt j hj).1)
        have hcell : ∀ x u, w3.cell? ⟨bb, x, none⟩ = some u → w4.cell? ⟨bb, x, none⟩ = some u := fun x u hx => by
          rw [Below.cell hb4 (p := ⟨bb, x, none⟩) h2, ← Below.cell hb3 (p := ⟨bb, x, none⟩) h2]
          exact hx
        refine ⟨hb4, owns_base ho (fun j hj => ?_), hcell _ _ p2, hcell _ _ p3, hcell _ _ p4, hcell _ _ p5⟩
        rcases hfr with e | e
        · rw [e] at hj; exact (hr3.lt j hj).1
        · rw [e] at hj
          simp only [Option.some.injEq] at hj
          have := hb3a.size
          omega
      clear hw3 q0 q1 q2 q3 q4 q5 hr3 hb3 HROW HBEL
      have wr1 : IntKind.i64.wrap (6 + (n : Int)) = 6 + n := by rw [IntKind.wrap_i64]; omega
      have wr2 : IntKind.i64.wrap kk = kk := by rw [IntKind.wrap_i64]; omega
      have wr3 : IntKind.i64.wrap ff = ff := by rw [IntKind.wrap_i64]; omega
      have wr4 : IntKind.i64.wrap (ss / 256) = ss / 256 := by rw [IntKind.wrap_i64]; omega
      have wr5 : IntKind.i64.wrap (256 * (ss / 256)) = 256 * (ss / 256) := by rw [IntKind.wrap_i64]; omega
      have wr6 : IntKind.i64.wrap (ss % 256) = ss % 256 := by rw [IntKind.wrap_i64]; omega
      have wr7 : IntKind.i64.wrap (256 * (ss / 256) + ss % 256) = ss := by rw [IntKind.wrap_i64]; omega
      have wr8 : IntKind.i64.wrap ss = ss := by rw [IntKind.wrap_i64]; omega
      have mx1 : max (6 + (n : Int)) 0 = 6 + n := by omega
      have ge1 : (0 : Int) ≤ 6 + (n : Int) := by omega
      have ge2 : (6 : Int) ≤ 6 + (n : Int) := by omega
      have tn1 : (6 + (n : Int)).toNat = 6 + n := by omega
      have hc6 : 6 + n + m ≤ cap' := by have := HLEN.out; omega
      by_cases hcc : cap' = 6
      · exact absurd hcc (by omega)
      · have hcc' : ¬ 6 = cap' := fun e => hcc e.symm
        go_cut [4] (fun s4 wx => ∃ v, s4 = v ∧ Below w.heap.size w wx ∧ wx.ownsRow w.heap.size 99 4 v (ps.length + 1) (ps.flatMap spC ++ [.int .i64 kk, .int .i64 ff, .int .i64 ss, .slice (some ⟨bb, off + 6, none⟩) n (cap' - 6)]))
        case first =>
          go_region_held3 (fun w' => w'.cell? ⟨bb, off + 2, none⟩ = some (.int .u8 kk) ∧ w'.cell? ⟨bb, off + 3, none⟩ = some (.int .u8 ff) ∧ w'.cell? ⟨bb, off + 4, none⟩ = some (.int .u8 (ss / 256)) ∧ w'.cell? ⟨bb, off + 5, none⟩ = some (.int .u8 (ss % 256))) (go_keep)
            (first
              | (refine step_appd rfl (.tmp 25) (.tmp 49) 83 rfl 99 i0 (.agg #[.int .i64 0, .int .i64 0, .int .i64 0, .slice none 0 0]) 4 48 Tryz.underlying83 hi hz0 hz1 hz2 rfl (by decide) (.slice sl ps.length cl) ps.length (ps.flatMap spC) (by simp [Act.eval, Act.put]) (HRA.out _) (.slice (some ⟨w3.heap.size, 0, none⟩) 1 1) 1 [.int .i64 kk, .int .i64 ff, .int .i64 ss, .slice (some ⟨bb, off + 6, none⟩) n (cap' - 6)] (by simp [Act.eval, Act.put]) rfl (Or.inr ⟨_, _, rfl, fun j u hu => lies_row (w := w3) (xs := [.int .i64 kk, .int .i64 ff, .int .i64 ss, .slice (some ⟨bb, off + 6, none⟩) n (cap' - 6)]) (t := 99) j u hu⟩) (by intro u hu; simp only [List.mem_cons, List.not_mem_nil, or_false] at hu; rcases hu with rfl | rfl | rfl | rfl <;> rfl) (by unfold maxLen; omega) (by omega) ?_; intro v4 w4 ho4 hg4 hfr4; obtain ⟨s4, c4, hv4⟩ := slice_len ho4; subst hv4; obtain ⟨hb4, hr4, x2, x3, x4, x5⟩ := HAPP.out _ _ w4 _ ho4 hg4 hfr4; clear ho4 hg4 hfr4))
          all_goals (go_wp2_with fail; go_meet; exact ⟨_, rfl, hb4, hr4⟩)
        case rest =>
          obtain ⟨v, rfl, hbx, hrx⟩ := hcut
          obtain ⟨w5, hw5⟩ : ∃ w5, w5 = wc := ⟨wc, rfl⟩
          subst hw5
          obtain ⟨sx, cx, hsx⟩ := slice_len hrx
          subst hsx
          have HBX := hide hbx
          have HRX := hide hrx
          clear hbx hrx
          by_cases hc7 : cap' = 6 + n
          · have HM0 : Hid (m = 0) := by have := HLEN.out; show m = 0; omega
            have hc7' : ¬ (cap' ≠ 6 + n) := fun h => h hc7
            have HC7 := hide hc7
            have hTe : T = 6 + n := by have := HLEN.out; have := HM0.out; omega
            clear hc7'
            subst hTe
            subst hc7
            go_wp2
            all_goals go_roundw
            case rel =>
              have e0 := HM0.out
              subst e0
              exact HNEXT.out w5 _ (.slice (some ⟨bb, off + 6, none⟩) n (6 + n - 6)) (some ⟨bb, off, none⟩) 0 HRX.out (HBD.out _ (by omega)) (Or.inr ⟨bb, off, 0, by rw [HLR.out], h2, by rw [HLR.out]; exact Nat.le_refl _, fun i hi => by rw [HLR.out] at hi; omega⟩) HBX.out
            case measure => simp [lenV]; omega
          · have hc7' : ¬ 6 + n = cap' := fun e => hc7 e.symm
            go_wp2
            all_goals go_roundw
            case rel =>
              have := HNEXT.out w5 _ (.slice (some ⟨bb, off + 6, none⟩) n (cap' - 6)) (some ⟨bb, off + (6 + n), none⟩) (cap' - (6 + n)) HRX.out (HBD.out _ (by omega)) (HRS.out _ (by omega)) HBX.out
              rw [← HTM.out] at this
              exact this
            case measure => simp [lenV]; omega
end Go.Proofs.YtlhlmgfblbpdpaaGreatDoor
/-
  An end, as its calls leave it, without where things lie.
-/
namespace Go.Proofs.YtlhlmgfblbpdpaaGreatDoor
set_option linter.unusedVariables false
set_option linter.unusedSimpArgs false
open Go.RowKit

/-- An end at eb; F: its blocks; p: what it is. -/
def StE (w : World) (eb : Nat) (F : Nat → Prop) (p : GEnd) : Prop := ∃ mb g, Inv w eb mb g ∧ RdOk g ∧ g.bare = p ∧ ∀ j, F j ↔ Foot eb mb g j
/-- One call on. -/
def GoE (w w' : World) (eb : Nat) (F : Nat → Prop) (p : GEnd) : Prop := ∃ F', StE w' eb F' p ∧ Chg F w w' ∧ ∀ j, F' j → F j ∨ w.heap.size ≤ j
section
variable {w w' : World} {eb : Nat} {F : Nat → Prop} {p : GEnd}
theorem GoE.of {mb : Nat} {g g' : GEnd} {p' : GEnd} (hF : ∀ j, F j ↔ Foot eb mb g j) (hn : Next w w' eb mb g g') (hr : RdOk g') (hp : g'.bare = p') : GoE w w' eb F p' :=
  ⟨Foot eb mb g', ⟨mb, g', hn.inv, hr, hp, fun j => Iff.rfl⟩, hn.chg.mono fun j _ e => (hF j).2 e, fun j hj => (hn.grow j hj).imp_left (hF j).2⟩
theorem StE.lt (h : StE w eb F p) {j : Nat} (hj : F j) : j < w.heap.size := by
  obtain ⟨mb, g, hi, -, -, hF⟩ := h
  exact Foot.lt hi ((hF j).1 hj)
theorem StE.below (h : StE w eb F p) (hb : Below w.heap.size w w') : StE w' eb F p := by
  obtain ⟨mb, g, hi, hr, hp, hF⟩ := h
  exact ⟨mb, g, hi.below hb, hr, hp, hF⟩
theorem StE.chg {S : Nat → Prop} (h : StE w eb F p) (hc : Chg S w w') (hs : ∀ j, F j → ¬ S j) : StE w' eb F p := by
  obtain ⟨mb, g, hi, hr, hp, hF⟩ := h
  exact ⟨mb, g, hi.chg hc (fun j hj => hs j ((hF j).2 hj)), hr, hp, hF⟩
theorem bare_got {g : GEnd} (hp : g.bare = p) (h : p.got = []) : g.got = [] := by
  rw [← hp] at h
  exact h
theorem c_feed {q : GEnd} {bv : Value} {l : List UInt8} (h : StE w eb F p) (hf : FeedR p l q) (hq : q.m.fault = 0) (hgl : Gl w) (hge : ∀ j, j < 7 → ¬ F j) (hb : BytesIn w bv l) (hbn : ∀ j, bv.ownBlock = some j → ¬ F j) (hl : l.length ≤ 4611686018427387904) :
    Calls Tryz.prog 10 #[.pointer (some ⟨eb, 0, none⟩), bv] w fun e w' => e = .returned (.int .i64 0) ∧ GoE w w' eb F q := by
  obtain ⟨mb, g, hi, hr, hp, hF⟩ := h
  rw [← hp] at hf
  refine (x_feed eb mb g q bv l w hi hr hf hq hgl (fun j hj e => hge j hj ((hF j).2 e)) hb (fun j hj e => hbn j hj ((hF j).2 e)) hl).mono ?_
  rintro e w' ⟨rfl, g', h1, h2, h3⟩
  exact ⟨rfl, GoE.of hF h3 h2 h1⟩
theorem c_take {p' : GEnd} {n : Int} (h : StE w eb F p) (hf : Fine p) (hg : p.got = []) (hg' : p'.got = []) (hl : p.m.fault = 0) (hr : Runs n p p') (ho : p'.out.length ≤ 1073741824) :
    Calls Tryz.prog 17 #[.pointer (some ⟨eb, 0, none⟩), .int .i64 n] w fun e w' => (∃ s, e = .returned (.slice s (cutN n p'.out.length) (cutN n p'.out.length)) ∧ BytesIn w' (.slice s (cutN n p'.out.length) (cutN n p'.out.length)) (p'.out.take (cutN n p'.out.length))) ∧ GoE w w' eb F { p' with out := p'.out.drop (cutN n p'.out.length) } := by
  obtain ⟨mb, g, hi, hrd, hp, hF⟩ := h
  have hf' : Fine g := Fine.of_bare (by rw [hp]; exact hf)
  have hl' : g.m.fault = 0 := by rw [← hp] at hl; exact hl
  refine (x_take eb mb g p' n w hi hf' hl' (by rw [hp]; exact hr) ho).mono ?_
  rintro e w' ⟨h1, g', h2, h3⟩
  exact ⟨h1, GoE.of hF h3 (RdOk.nil (bare_got h2 hg')) h2⟩
/-- The stream of a number, as it lies. -/
theorem stE_at {mb : Nat} {g : GEnd} (hi : Inv w eb mb g) (hp : g.bare = p) {s : GSt} (hs : s ∈ p.K) : ∃ x ∈ g.K, x.bare = s ∧ findK (g.K.map GSt.str) s.st.number = some x.str := by
  obtain ⟨x, hx, rfl⟩ := mem_bare hp hs
  exact ⟨x, hx, rfl, hi.find hx⟩
end
end Go.Proofs.YtlhlmgfblbpdpaaGreatDoor
/-
  Reset, Write and Read of an end that are done.
-/
namespace Go.Proofs.YtlhlmgfblbpdpaaGreatDoor
set_option linter.unusedVariables false
set_option linter.unusedSimpArgs false
open Go.RowKit

section
variable {w w' : World} {eb : Nat} {F : Nat → Prop} {p : GEnd}
def GSt.took (s : GSt) (k : Nat) : GSt := { s with st := { s.st with owed := s.st.owed + k }, un := s.un.drop k }
theorem c_read_any {s : GSt} {n : Int} (h : StE w eb F p) (hs : s ∈ p.K) (hl : p.m.fault = 0 ∨ s.st.hasAll = true ∨ 0 < s.un.length) (hg : p.got = []) (hr : s.st.reset = 0) (hn : 0 ≤ n) (hu : s.un.length ≤ 1048576) (b1 : -1099511627776 ≤ p.m.owed ∧ p.m.owed ≤ 1099511627776) (b2 : -1099511627776 ≤ s.st.owed ∧ s.st.owed ≤ 1099511627776) :
    Calls Tryz.prog 35 #[.pointer (some ⟨eb, 0, none⟩), .int .i64 s.st.number, .int .i64 n] w fun e w' => (∃ a, e = .returned (.tuple #[.slice a (cutN n s.un.length) (cutN n s.un.length), .bool (s.st.hasAll && (s.un.length - cutN n s.un.length == 0)), .int .i64 0]) ∧ BytesIn w' (.slice a (cutN n s.un.length) (cutN n s.un.length)) (s.un.take (cutN n s.un.length))) ∧ GoE w w' eb F { p with m := p.m.owes (cutN n s.un.length), K := updN s.st.number (fun x => x.took (cutN n s.un.length)) p.K } := by
  obtain ⟨mb, g, hi, hrd, hp, hF⟩ := h
  obtain ⟨x, hx, rfl, hfi⟩ := stE_at hi hp hs
  have hl' : g.m.fault = 0 ∨ x.str.2.hasAll = true ∨ 0 < x.un.length := by rw [← hp] at hl; exact hl
  have m2 : g.m.owed = p.m.owed := by have := congrArg (fun x : GEnd => x.m.owed) hp; exact this
  have q1 : x.st.owed = x.bare.st.owed := rfl
  have hfi' : findK (g.K.map GSt.str) x.st.number = some x.str := hfi
  have he := eRead_ok eb mb g.m _ x.st.number n x.str x.un w hi.en hi.km hi.kn hn hfi' hr hl' (hi.un x hx) hu (by omega) (by omega) (by rw [show x.str.2.owed = x.bare.st.owed from rfl]; omega) (by rw [show x.str.2.owed = x.bare.st.owed from rfl]; omega)
  have hc := xRead_of (R := fun a b c w' => (∃ s, a = .slice s (cutN n x.un.length) (cutN n x.un.length) ∧ b = .bool (x.st.hasAll && (x.un.length - cutN n x.un.length == 0)) ∧ c = .int .i64 0 ∧ BytesIn w' (.slice s (cutN n x.un.length) (cutN n x.un.length)) (x.un.take (cutN n x.un.length))) ∧ GoE w w' eb F { p with m := p.m.owes (cutN n x.un.length), K := updN x.st.number (fun y => y.took (cutN n x.un.length)) p.K }) eb x.st.number n w (he.mono fun e w' h => by
    obtain ⟨v, hR⟩ := h
    obtain ⟨s, h1, h2, -⟩ := hR.eq
    refine ⟨_, _, _, h1, ⟨s, rfl, rfl, rfl, h2⟩, ?_⟩
    have keep : ∀ {k : Nat} {v' : Value} {xs : List Value} {ty : TypeId}, w.ownsRow 0 ty 1 v' k xs → (∀ j, v'.ownBlock = some j → j ≠ eb ∧ j ≠ x.sb) → w'.ownsRow 0 ty 1 v' k xs := fun hr hj => owns_chg hr hR.chg (fun j hjj e => by
      obtain ⟨a, b⟩ := hj j hjj
      rcases e with e | e
      · exact a e
      · exact b e)
    have hrow : w'.ownsRow 0 5 1 v (x.un.drop (cutN n x.un.length)).length ((x.un.drop (cutN n x.un.length)).map B) := by
      rw [List.length_drop]
      exact owns_base hR.row (fun _ _ => Nat.zero_le _)
    have hn := hi.onSt (S := fun j => j = eb ∨ j = x.sb) (m' := g.m.owes (cutN n x.un.length)) (s := x) (s' := ⟨x.sb, x.st.taken (cutN n x.un.length) v, x.un.drop (cutN n x.un.length), x.wa⟩) (L' := g.L) (o' := g.out) (3 + 2 * x.sb) hx hR.chg (by
        rintro j (e | e)
        · exact Or.inl e
        · exact Or.inr (Or.inl e)) hR.en hR.st rfl rfl rfl rfl rfl rfl
      (keep hi.row (fun j hj => ⟨fun e => by rw [e] at hj; exact owns_ne hi.row hi.en.blk (by decide) hj, fun e => by rw [e] at hj; exact owns_ne hi.row (hi.st hx).blk (by decide) hj⟩)) (fun j hj => Or.inl hj) (List.Sublist.refl _)
      (keep hi.out (fun j hj => ⟨fun e => by rw [e] at hj; exact owns_ne hi.out hi.en.blk (by decide) hj, fun e => by rw [e] at hj; exact owns_ne hi.out (hi.st hx).blk (by decide) hj⟩)) (fun j hj => Or.inl hj)
      hrow (fun j hj => Or.inr ⟨(hR.row.lt j hj).1, rfl⟩)
      (keep (hi.wa x hx) (fun j hj => ⟨fun e => by rw [e] at hj; exact owns_ne (hi.wa x hx) hi.en.blk (by decide) hj, fun e => by rw [e] at hj; exact owns_ne (hi.wa x hx) (hi.st hx).blk (by decide) hj⟩)) (fun j hj => Or.inl hj)
    refine GoE.of hF hn ?_ ?_
    · exact RdOk.nil (show g.got = [] from bare_got hp hg)
    · rw [← hp]
      unfold GEnd.bare
      simp only [GEnd.mk.injEq, true_and, and_true]
      refine ⟨rfl, ?_⟩
      rw [← updN_bare _ (fun y => y.took (cutN n x.un.length)) (fun s => rfl), ← updN_const (f := fun y => y.took (cutN n x.un.length)) hi.nn hx rfl]
      unfold updN
      rw [List.map_map, List.map_map]
      apply List.map_congr_left
      intro y hy
      show (if y.st.number = x.st.number then _ else y).bare = (if y.st.number = x.st.number then _ else y).bare
      split <;> rfl)
  refine hc.mono ?_
  rintro e w' ⟨a, b, c, rfl, ⟨s, rfl, rfl, rfl, hby⟩, hgo⟩
  exact ⟨⟨s, rfl, hby⟩, hgo⟩
end
end Go.Proofs.YtlhlmgfblbpdpaaGreatDoor
/-
  The law's own: given.
-/
namespace Go.Proofs.YtlhlmgfblbpdpaaGreatDoor
set_option linter.unusedVariables false
set_option linter.unusedSimpArgs false
open Go.RowKit

theorem num4_le (l : List UInt8) : 0 ≤ num4 l ∧ num4 l ≤ 4294967295 := by
  match l with
  | [] => simp [num4]
  | [_] => simp [num4]
  | [_, _] => simp [num4]
  | [_, _, _] => simp [num4]
  | a :: b :: c :: d :: r =>
    have h0 := a.toNat_lt
    have h1 := b.toNat_lt
    have h2 := c.toNat_lt
    have h3 := d.toNat_lt
    simp only [num4, be4]
    omega

set_option maxHeartbeats 800000 in
theorem kvalue_any (g off n cap : Nat) (x0 x1 x2 x3 : UInt8) (w : World) (hn : 4 ≤ n)
    (c0 : w.cell? ⟨g, off, none⟩ = some (.int .u8 x0.toNat)) (c1 : w.cell? ⟨g, off + 1, none⟩ = some (.int .u8 x1.toNat)) (c2 : w.cell? ⟨g, off + 2, none⟩ = some (.int .u8 x2.toNat))
    (c3 : w.cell? ⟨g, off + 3, none⟩ = some (.int .u8 x3.toNat)) :
    Calls Tryz.prog 42 #[.slice (some ⟨g, off, none⟩) n cap] w fun e w' => e = .returned (.int .i64 (be4 x0 x1 x2 x3)) ∧ ∃ k, w' = w.drewN k := by
  have h0 : x0.toNat < 256 := x0.toNat_lt
  have h1 : x1.toNat < 256 := x1.toNat_lt
  have h2 : x2.toNat < 256 := x2.toNat_lt
  have h3 : x3.toNat < 256 := x3.toNat_lt
  go_enter Tryz.func42, Tryz.ntmps42
  go_wp2
  go_quiet (fail)
  go_wp2
  go_ret
  exact ⟨rfl, _, rfl⟩
theorem kvalue_of {w : World} {bv : Value} {b : List UInt8} (h : BytesIn w bv b) (h4 : b.length = 4) : Calls Tryz.prog 42 #[bv] w fun e w' => e = .returned (.int .i64 (num4 b)) ∧ Below w.heap.size w w' := by
  match b, h4 with
  | [x0, x1, x2, x3], _ =>
    rcases h with ⟨-, h⟩ | ⟨bb, off, cap, rfl, h2, h3, h5⟩
    · cases h
    · have c0 := h5 0 (by simp)
      have c1 := h5 1 (by simp)
      have c2 := h5 2 (by simp)
      have c3 := h5 3 (by simp)
      rw [Nat.add_zero] at c0
      refine (kvalue_any bb off 4 cap x0 x1 x2 x3 w (Nat.le_refl _) c0 c1 c2 c3).mono ?_
      rintro e w' ⟨rfl, k, rfl⟩
      exact ⟨rfl, bel_drewN (Below.refl _ _)⟩
end Go.Proofs.YtlhlmgfblbpdpaaGreatDoor
/-
  The law's own: given.
-/
namespace Go.Proofs.YtlhlmgfblbpdpaaGreatDoor
set_option linter.unusedVariables false
set_option linter.unusedSimpArgs false
open Go.RowKit

theorem cutN_all {n : Nat} (h : n ≤ 1073741824) : cutN 1099511627776 n = n := by unfold cutN; omega
theorem spC_get : ∀ {ps : List (Fr × Value)} {i j : Nat} (h : i < ps.length), j < 4 → (ps.flatMap spC)[i * 4 + j]? = (spC ps[i])[j]?
  | p :: r, 0, j, _, hj => by
    rw [List.flatMap_cons, List.getElem?_append_left (by simp [spC]; omega)]
    simp
  | p :: r, i + 1, j, h, hj => by
    have hl : (spC p).length = 4 := rfl
    rw [List.flatMap_cons, List.getElem?_append_right (by rw [hl]; omega), hl, show (i + 1) * 4 + j - 4 = i * 4 + j by omega]
    exact spC_get (by simpa using h) hj
/-- The frames, as they lie. -/
theorem SplitS.at {w w' w2 : World} {fs : List Fr} {v : Value} {ps : List (Fr × Value)} (h : SplitS w w' fs v ps) (hb : Below w'.heap.size w' w2) {i : Nat} (hi : i < fs.length) : ∃ g c bv, v = .slice (some ⟨g, 0, none⟩) fs.length c ∧ fs.length ≤ c ∧ w2.cell? ⟨g, i * 4, none⟩ = some (.int .i64 fs[i].kind) ∧ w2.cell? ⟨g, i * 4 + 1, none⟩ = some (.int .i64 fs[i].flags) ∧ w2.cell? ⟨g, i * 4 + 2, none⟩ = some (.int .i64 fs[i].stream) ∧ w2.cell? ⟨g, i * 4 + 3, none⟩ = some bv ∧ BytesIn w2 bv fs[i].body ∧ g < w2.heap.size := by
  have hlen : ps.length = fs.length := by rw [← h.fst, List.length_map]
  have hip : i < ps.length := by omega
  have hr := h.row
  have hfi : ps[i].1 = fs[i] := by
    have := h.fst
    subst this
    simp
  rcases hr.2 with ⟨-, h0⟩ | ⟨g, cap, cur, h1, h2, h3, h4, h5, h6, h7⟩
  · omega
  · have hl := lt_of_block h3
    have hblk : w2.heap[g]? = some (.cells cur 99 (0, 0)) := by rw [hb.block g hl]; exact h3
    have hc : ∀ j, j < 4 → w2.cell? ⟨g, i * 4 + j, none⟩ = (spC ps[i])[j]? := fun j hj => by
      rw [cell_of_row _ _ _ _ _ _ hblk, ← spC_get hip hj, ← h7, List.getElem?_take, if_pos (by omega), Array.getElem?_toList]
    have q0 := hc 0 (by omega)
    rw [Nat.add_zero] at q0
    refine ⟨g, cap, ps[i].2, by rw [h1, hlen], by omega, ?_, ?_, ?_, ?_, ?_, Nat.lt_of_lt_of_le hl hb.size⟩
    · rw [q0, ← hfi]; rfl
    · rw [hc 1 (by omega), ← hfi]; rfl
    · rw [hc 2 (by omega), ← hfi]; rfl
    · rw [hc 3 (by omega)]; rfl
    · rw [← hfi]
      exact (h.body ps[i] (List.getElem_mem hip)).chg (Chg.of_below (S := fun _ => False) (h.bel.trans (hb.mono h.bel.size))) (fun _ _ => id)

end Go.Proofs.YtlhlmgfblbpdpaaGreatDoor
/-
  The law's own: gone.
-/
namespace Go.Proofs.YtlhlmgfblbpdpaaGreatDoor
set_option linter.unusedVariables false
set_option linter.unusedSimpArgs false
open Go.RowKit

end Go.Proofs.YtlhlmgfblbpdpaaGreatDoor
/-
  append that must grow, whatever the row.
-/
namespace Go.Proofs.YtlhlmgfblbpdpaaGreatDoor
set_option linter.unusedVariables false
set_option linter.unusedSimpArgs false
open Go.RowKit

theorem run_app_grow (w : World) (t ty : TypeId) (i : TypeInfo) (ht : Tryz.prog.underlying t = some (.slice 5)) (hi : Tryz.prog.info? 5 = some i) (hz : i.zero = some (.int .u8 0)) (hs : i.size = 1) (hby : i.bytes = 1)
    (b : Addr) (n cap : Nat) (xs : List Value) (hl : xs.length = n) (holds : ∀ j v, xs[j]? = some v → w.cell? (b.add j) = some v)
    (a : Addr) (m c : Nat) (news : List Value) (hm : news.length = m) (hnews : ∀ j v, news[j]? = some v → w.cell? (a.add j) = some v) (hg : cap < n + m) (h63 : n + m ≤ 1073741824) :
    ∃ v' w', (Builtin.append_ #[t, t] ty #[.slice (some b) n cap, .slice (some a) m c]).run Tryz.prog w = .ok v' w' ∧ w'.ownsRow w.heap.size 5 1 v' (n + m) (xs ++ news) ∧ Below w.heap.size w w' := by
  have h := run_append_grow (P := Tryz.prog) (w := w) t ty 5 i (.int .u8 0) ht hi hz b n cap xs (by rw [hs, hl, Nat.mul_one]) holds a m c news (by rw [hs, hm, Nat.mul_one]) hnews hg (by omega) (growslice_fits (by omega) (by rw [hby]; omega))
  refine ⟨_, _, h, ?_, ?_⟩
  · have hge := grownCap_ge w (n + m) cap 5
    have hcm : grownCap w (n + m) cap 5 ≤ maxLen := grownCap_le_maxLen w (n + m) cap 5 (by unfold maxLen; omega)
    have hlen : (xs ++ news).length = (n + m) * 1 := by rw [List.length_append, hl, hm, Nat.mul_one]
    refine ⟨hlen, .inr ⟨w.heap.size, _, _, rfl, Nat.le_refl _, heap_alloc_new w.drew _, hge, hcm, ?_, ?_⟩⟩
    · simp only [Array.size_append, List.size_toArray, size_zeroCells, hl, hm]
      show n + m + (grownCap w (n + m) cap 5 - (n + m)) * 1 = _
      omega
    · simp only [Array.toList_append, List.append_assoc]
      rw [← List.append_assoc, ← hlen]
      exact List.take_left
  · have := (Below.refl w.heap.size w).alloc (Nat.le_refl _) (.cells (xs.toArray ++ news.toArray ++ Builtin.zeroCells (Value.int .u8 0).cells (grownCap w (n + m) cap 5 - (n + m))) 5)
    exact ⟨this.os, this.tape, this.output, this.size, this.block⟩
/-- As a law for the walk. -/
theorem wpList_grow (w : World) {ops : Array Oper} {rest : List Oper} {o : Oper} {a : Act} {Q : Exit → Act → World → Prop} (hgd : o.guard = none) (s y : Operand) (t : TypeId)
    (ho : o.op = .call { callee := .builtin .append, args := #[s, y], argTypes := #[t, t] })
    (i : TypeInfo) (ht : Tryz.prog.underlying t = some (.slice 5)) (hi : Tryz.prog.info? 5 = some i) (hz : i.zero = some (.int .u8 0)) (hs : i.size = 1) (hby : i.bytes = 1)
    (b : Addr) (n cap : Nat) (xs : List Value) (hl : xs.length = n) (hsv : a.eval s = .slice (some b) n cap) (holds : ∀ j v, xs[j]? = some v → w.cell? (b.add j) = some v)
    (ad : Addr) (m c : Nat) (news : List Value) (hm : news.length = m) (hyv : a.eval y = .slice (some ad) m c) (hnews : ∀ j v, news[j]? = some v → w.cell? (ad.add j) = some v) (hg : cap < n + m) (h63 : n + m ≤ 1073741824)
    (hK : ∀ v' w', w'.ownsRow w.heap.size 5 1 v' (n + m) (xs ++ news) → Below w.heap.size w w' → wpList Tryz.prog ops Q rest (a.put o.dst v') w') :
    wpList Tryz.prog ops Q (o :: rest) a w := by
  obtain ⟨v', w', hr, h2, h3⟩ := run_app_grow w t o.type i ht hi hz hs hby b n cap xs hl holds ad m c news hm hnews hg h63
  refine wpList_plain hgd fun K hK' => ?_
  unfold Oper.wp
  simp [execOp, ho, resolve, invoke, builtin, hsv, hyv, hr, Result.andThen]
  exact hK' _ _ (hK v' w' h2 h3)
end Go.Proofs.YtlhlmgfblbpdpaaGreatDoor
/-
  The end that the law makes: its states, without where things lie.
-/
namespace Go.Proofs.YtlhlmgfblbpdpaaGreatDoor
set_option linter.unusedVariables false
set_option linter.unusedSimpArgs false
open Go.RowKit

/-- A new end. -/
def EndM.new (i c b k : Int) (mb : Nat) : EndM := ⟨false, 0, 0, b, 32, 32, c - 32, i, false, 0, false, 32, 32, c, k, 0, 1, 0, false, false, 0, 0, .map (some mb), .slice none 0 0, 0, .slice none 0 0, 0, 0, 0, 0, false, 0, .slice none 0 0, false, 0, 128, 0, .slice none 0 0, 128, false, false, .slice none 0 0, .slice none 0 0, .slice none 0 0, 2, 0, 128, 0, .slice none 0 0, .slice none 0 0⟩
def pNew (i c b k : Int) : GEnd := ⟨(EndM.new i c b k 0).bare, [], [], [], [], [], []⟩
/-- It has heard the greeting and Settings with 0. -/
def pHeard (i c b k : Int) : GEnd := { pNew i c b k with m := { (pNew i c b k).m with greeted := 7, begun := true, other := 0, answers := .tuple #[] }, ans := [⟨3, 1, [], .slice none 0 0⟩] }
/-- It has said its own Settings and its answer. -/
def pSaid (i c b k : Int) : GEnd := { pNew i c b k with m := { (pNew i c b k).m.setd with greeted := 7, begun := true, other := 0, answers := .tuple #[] } }
theorem feed_heard (i c b k : Int) : FeedR (pNew i c b k) (greetB ++ lay 3 0 0 (four4 0)) (pHeard i c b k) := by
  refine (feedR_greet rfl rfl).app ?_
  refine feedR_lay ?_ rfl rfl rfl ?_
  · constructor <;> decide
  · have h0 : num4 (four4 0) = 0 := by decide
    have := Come.settings (p := { pNew i c b k with m := { (pNew i c b k).m with greeted := 7 } }) 0 (four4 0) ⟨by omega, by omega⟩ (by decide) rfl rfl rfl rfl
    rw [h0] at this
    exact this
end Go.Proofs.YtlhlmgfblbpdpaaGreatDoor
/-
  The end that the law makes: what it says first, four streams, its first credit.
-/
namespace Go.Proofs.YtlhlmgfblbpdpaaGreatDoor
set_option linter.unusedVariables false
set_option linter.unusedSimpArgs false
open Go.RowKit

theorem lay_len (k f s : Int) (b : List UInt8) : (lay k f s b).length = 6 + b.length := lay_length k f s b
/-- What it says first. -/
def firstB (i : Int) : List UInt8 := lay 3 0 0 (four4 i.toNat) ++ lay 3 1 0 []
theorem firstB_len (i : Int) : (firstB i).length = 16 := by unfold firstB; rw [List.length_append, lay_len, lay_len]; rfl
theorem runs_said (i c b k : Int) : Runs 16 (pHeard i c b k) { pSaid i c b k with out := firstB i } := by
  refine .step (q := { pHeard i c b k with m := (pHeard i c b k).m.setd, out := lay 3 0 0 (four4 i.toNat) }) (by show (0 : Int) < 16; omega) rfl ?_
  refine .step (q := { pSaid i c b k with out := firstB i }) ?_ rfl (.stop ?_)
  · show ((lay 3 0 0 (four4 i.toNat)).length : Int) < 16
    rw [lay_len]
    show ((6 + 4 : Nat) : Int) < 16
    omega
  · show (16 : Int) ≤ ((firstB i).length : Int)
    rw [firstB_len]
    omega
/-- With some streams. -/
def pOpen (i c b k : Int) : Nat → GEnd
  | 0 => pSaid i c b k
  | j + 1 => (pOpen i c b k j).begin.opened (2 * j + 1) false
theorem right_heads (n : Int) (h0 : 1 ≤ n) (h1 : n ≤ 7) : Right 1 4 n [] := by
  refine ⟨by omega, by omega, by omega, by omega, by omega, by omega, ?_, by simp, by decide, by decide⟩
  unfold sFits
  simp
  omega
theorem feed_open0 (i c b k : Int) : FeedR (pOpen i c b k 0) (lay 1 4 1 []) (pOpen i c b k 1) :=
  feedR_lay (right_heads 1 (by omega) (by omega)) rfl rfl rfl (Come.headers 4 1 ⟨by omega, by omega⟩ (by decide) rfl (by show (0 : Int) < 1; omega) (by show (0 : Nat) < 4; omega) (fun x hx => by cases hx) (fun i h => by simp [pOpen, pSaid, pNew] at h) rfl rfl)
theorem feed_open1 (i c b k : Int) : FeedR (pOpen i c b k 1) (lay 1 4 3 []) (pOpen i c b k 2) :=
  feedR_lay (right_heads 3 (by omega) (by omega)) rfl rfl rfl (Come.headers 4 3 ⟨by omega, by omega⟩ (by decide) rfl (by show (1 : Int) < 3; omega) (by show (1 : Nat) < 4; omega) (fun x hx => by
    have : x = ⟨0, StM.fresh 1 false, [], []⟩ := by simpa [pOpen, pSaid, pNew, GEnd.opened, GEnd.begin] using hx
    rw [this]; decide) (by
    show ∀ i (h : i + 1 < ([1, 3] : List Int).length), ([1, 3] : List Int)[i] ≤ ([1, 3] : List Int)[i + 1]
    intro i h
    have hc : i = 0 := by simp at h; omega
    subst hc; simp) rfl rfl)
theorem feed_open2 (i c b k : Int) : FeedR (pOpen i c b k 2) (lay 1 4 5 []) (pOpen i c b k 3) :=
  feedR_lay (right_heads 5 (by omega) (by omega)) rfl rfl rfl (Come.headers 4 5 ⟨by omega, by omega⟩ (by decide) rfl (by show (3 : Int) < 5; omega) (by show (2 : Nat) < 4; omega) (fun x hx => by
    have : x = ⟨0, StM.fresh 1 false, [], []⟩ ∨ x = ⟨0, StM.fresh 3 false, [], []⟩ := by simpa [pOpen, pSaid, pNew, GEnd.opened, GEnd.begin] using hx
    rcases this with rfl | rfl <;> decide) (by
    show ∀ i (h : i + 1 < ([1, 3, 5] : List Int).length), ([1, 3, 5] : List Int)[i] ≤ ([1, 3, 5] : List Int)[i + 1]
    intro i h
    have hc : i = 0 ∨ i = 1 := by simp at h; omega
    rcases hc with rfl | rfl <;> simp) rfl rfl)
theorem feed_open3 (i c b k : Int) : FeedR (pOpen i c b k 3) (lay 1 4 7 []) (pOpen i c b k 4) :=
  feedR_lay (right_heads 7 (by omega) (by omega)) rfl rfl rfl (Come.headers 4 7 ⟨by omega, by omega⟩ (by decide) rfl (by show (5 : Int) < 7; omega) (by show (3 : Nat) < 4; omega) (fun x hx => by
    have : x = ⟨0, StM.fresh 1 false, [], []⟩ ∨ x = ⟨0, StM.fresh 3 false, [], []⟩ ∨ x = ⟨0, StM.fresh 5 false, [], []⟩ := by simpa [pOpen, pSaid, pNew, GEnd.opened, GEnd.begin] using hx
    rcases this with rfl | rfl | rfl <;> decide) (by
    show ∀ i (h : i + 1 < ([1, 3, 5, 7] : List Int).length), ([1, 3, 5, 7] : List Int)[i] ≤ ([1, 3, 5, 7] : List Int)[i + 1]
    intro i h
    have hc : i = 0 ∨ i = 1 ∨ i = 2 := by simp at h; omega
    rcases hc with rfl | rfl | rfl <;> simp) rfl rfl)
end Go.Proofs.YtlhlmgfblbpdpaaGreatDoor
/-
  The law's own: pick, tameConfig.
-/
namespace Go.Proofs.YtlhlmgfblbpdpaaGreatDoor
set_option linter.unusedVariables false
set_option linter.unusedSimpArgs false
open Go.RowKit

theorem kpick_neg {c n : Int} (hc : c < 0) (hn : 0 < n) : 0 ≤ -(c + 1).tmod n ∧ -(c + 1).tmod n < n := by
  have e : -(c + 1).tmod n = (-(c + 1)) % n := by
    rw [← Int.neg_tmod]
    exact Int.tmod_eq_emod_of_nonneg (by omega)
  rw [e]
  exact ⟨Int.emod_nonneg _ (by omega), Int.emod_lt_of_pos _ hn⟩
/-- A configuration that may be. -/
structure CfgOk (i c b k : Int) : Prop where
  i0 : 0 ≤ i
  i1 : i ≤ 1000
  c0 : 32 ≤ c
  c1 : c ≤ 1000
  b0 : 1 ≤ b
  b1 : b ≤ 1000
  k0 : c ≤ k
  k1 : k ≤ 1000

set_option maxHeartbeats 400000 in
theorem kpick_fun (c n : Int) (w : World) (hn : 0 < n) (hc : I64 c) :
    Calls Tryz.prog 13 #[.int .i64 c, .int .i64 n] w fun e w' => e = .returned (.int .i64 (pkI c n)) ∧ w' = w := by
  obtain ⟨hc1, hc2⟩ := hc
  have hnz : ¬ n = 0 := by omega
  by_cases hneg : c < 0
  · have e : pkI c n = -(c + 1).tmod n := by unfold pkI; rw [if_pos hneg]
    rw [e]
    clear e
    go_enter Tryz.func13, Tryz.ntmps13
    go_wp2
    go_ret
    exact ⟨rfl, rfl⟩
  · have e : pkI c n = c % n := by unfold pkI; rw [if_neg hneg]
    rw [e]
    clear e
    go_enter Tryz.func13, Tryz.ntmps13
    go_wp2
    go_ret
    exact ⟨rfl, rfl⟩
theorem blk_alloc {W : World} {b : Nat} {o x : Obj} (h : W.heap[b]? = some x) : (W.alloc o).heap[b]? = some x := by
  rw [heap_alloc_old _ _ (Array.getElem?_eq_some_iff.1 h).1]
  exact h
set_option maxRecDepth 100000 in
set_option maxHeartbeats 1600000 in
theorem tameConfig_any (x0 x1 x2 x3 : Int) (w : World) (h0 : I64 x0) (h1 : I64 x1) (h2 : I64 x2) (h3 : I64 x3) :
    Calls Tryz.prog 6 #[.agg #[.int .i64 x0, .int .i64 x1, .int .i64 x2, .int .i64 x3]] w fun e w' => ∃ i c b k, e = .returned (.agg #[.int .i64 i, .int .i64 c, .int .i64 b, .int .i64 k]) ∧ CfgOk i c b k ∧ Below w.heap.size w w' := by
  have HPK : Hid (∀ c n w, 0 < n → I64 c → Calls Tryz.prog 13 #[.int .i64 c, .int .i64 n] w fun e w' => e = .returned (.int .i64 (pkI c n)) ∧ w' = w) := fun c n w hn hc => kpick_fun c n w hn hc
  obtain ⟨i, hi⟩ : ∃ i, i = pkI x0 1001 := ⟨_, rfl⟩
  obtain ⟨b0, hb0⟩ : ∃ b, b = pkI x2 1000 := ⟨_, rfl⟩
  obtain ⟨c0, hc0⟩ : ∃ c, c = pkI x1 969 := ⟨_, rfl⟩
  have qi := pkI_bounds x0 (n := 1001) (by omega)
  have qb := pkI_bounds x2 (n := 1000) (by omega)
  have qc := pkI_bounds x1 (n := 969) (by omega)
  rw [← hi] at qi
  rw [← hb0] at qb
  rw [← hc0] at qc
  obtain ⟨qi0, qi1⟩ := qi
  obtain ⟨qb0, qb1⟩ := qb
  obtain ⟨qc0, qc1⟩ := qc
  have qk := pkI_bounds x3 (n := 1000 - (32 + c0) + 1) (by omega)
  obtain ⟨k0, hk0⟩ : ∃ k, k = pkI x3 (1000 - (32 + c0) + 1) := ⟨_, rfl⟩
  rw [← hk0] at qk
  obtain ⟨qk0, qk1⟩ := qk
  have w1 : IntKind.i64.wrap (1 + b0) = 1 + b0 := by rw [IntKind.wrap_i64]; omega
  have w2 : IntKind.i64.wrap (32 + c0) = 32 + c0 := by rw [IntKind.wrap_i64]; omega
  have w3 : IntKind.i64.wrap (1000 - (32 + c0)) = 1000 - (32 + c0) := by rw [IntKind.wrap_i64]; omega
  have w4 : IntKind.i64.wrap (1000 - (32 + c0) + 1) = 1000 - (32 + c0) + 1 := by rw [IntKind.wrap_i64]; omega
  have w5 : IntKind.i64.wrap (32 + c0 + k0) = 32 + c0 + k0 := by rw [IntKind.wrap_i64]; omega
  have n4 : 0 < 1000 - (32 + c0) + 1 := by omega
  have hi' : pkI x0 1001 = i := hi.symm
  have hb' : pkI x2 1000 = b0 := hb0.symm
  have hc' : pkI x1 969 = c0 := hc0.symm
  have hk' : pkI x3 (1000 - (32 + c0) + 1) = k0 := hk0.symm
  have hOK : CfgOk i (32 + c0) (1 + b0) (32 + c0 + k0) := ⟨by omega, by omega, by omega, by omega, by omega, by omega, by omega, by omega⟩
  have HOK := hide hOK
  clear hOK hi hb0 hc0 hk0
  go_enter Tryz.func6, Tryz.ntmps6
  go_upto_region 1 with fail
  go_cut [3] (fun s3 wx => s3 = .pointer (some ⟨w.heap.size + 1 + 1, 0, none⟩) ∧ wx = (((w.alloc (.cells #[.int .i64 x0, .int .i64 x1, .int .i64 x2, .int .i64 x3] 23)).alloc (.cells #[.int .i64 0, .int .i64 0, .int .i64 0, .int .i64 0] 23)).alloc (.cells #[.int .i64 i, .int .i64 0, .int .i64 (1 + b0), .int .i64 0] 23)).drew)
  case first =>
    go_region_held3 (fun w' => w'.cell? ⟨w.heap.size, 0, none⟩ = some (.int .i64 x0) ∧ w'.cell? ⟨w.heap.size, 1, none⟩ = some (.int .i64 x1) ∧ w'.cell? ⟨w.heap.size, 2, none⟩ = some (.int .i64 x2) ∧ w'.cell? ⟨w.heap.size, 3, none⟩ = some (.int .i64 x3)) (go_keep)
      (first | (go_at_call 13; refine (HPK.out _ _ _ (by first | decide | assumption) (by assumption)).mono ?_; rintro e w' ⟨rfl, rfl⟩))
    all_goals (go_wp2_with fail; go_meet)
    all_goals (simp only [hi', hb', w1]; exact ⟨trivial, trivial⟩)
  case rest =>
    obtain ⟨rfl, hwc⟩ := hcut
    rw [hwc]
    clear hwc
    go_wp2_with fail
    refine (HPK.out _ _ _ (by decide) h1).mono ?_
    rintro e w' ⟨rfl, hw'⟩
    rw [hw', hc']
    clear hw' w'
    go_upto_region 3 with fail
    obtain ⟨wB, hwB⟩ : ∃ wB, wB = (((w.alloc (.cells #[.int .i64 x0, .int .i64 x1, .int .i64 x2, .int .i64 x3] 23)).alloc (.cells #[.int .i64 0, .int .i64 0, .int .i64 0, .int .i64 0] 23)).alloc (.cells #[.int .i64 i, .int .i64 (32 + c0), .int .i64 (1 + b0), .int .i64 0] 23)).drew := ⟨_, rfl⟩
    rw [← hwB]
    have ha : wB.heap[w.heap.size]? = some (.cells #[.int .i64 x0, .int .i64 x1, .int .i64 x2, .int .i64 x3] 23 (0, 0)) := by
      rw [hwB]
      exact blk_alloc (blk_alloc (heap_alloc_new w _))
    have hb : wB.heap[w.heap.size + 1]? = some (.cells #[.int .i64 0, .int .i64 0, .int .i64 0, .int .i64 0] 23 (0, 0)) := by
      rw [hwB]
      have := heap_alloc_new (w.alloc (.cells #[.int .i64 x0, .int .i64 x1, .int .i64 x2, .int .i64 x3] 23)) (.cells #[.int .i64 0, .int .i64 0, .int .i64 0, .int .i64 0] 23)
      rw [World.size_alloc] at this
      exact blk_alloc this
    have hc : wB.heap[w.heap.size + 1 + 1]? = some (.cells #[.int .i64 i, .int .i64 (32 + c0), .int .i64 (1 + b0), .int .i64 0] 23 (0, 0)) := by
      rw [hwB]
      have := heap_alloc_new ((w.alloc (.cells #[.int .i64 x0, .int .i64 x1, .int .i64 x2, .int .i64 x3] 23)).alloc (.cells #[.int .i64 0, .int .i64 0, .int .i64 0, .int .i64 0] 23)) (.cells #[.int .i64 i, .int .i64 (32 + c0), .int .i64 (1 + b0), .int .i64 0] 23)
      rw [World.size_alloc, World.size_alloc] at this
      exact this
    have hbe : Below w.heap.size w wB := by
      rw [hwB]
      have := (((Below.refl w.heap.size w).alloc (Nat.le_refl _) (.cells #[.int .i64 x0, .int .i64 x1, .int .i64 x2, .int .i64 x3] 23)).alloc (by simp) (.cells #[.int .i64 0, .int .i64 0, .int .i64 0, .int .i64 0] 23)).alloc (by simp; omega) (.cells #[.int .i64 i, .int .i64 (32 + c0), .int .i64 (1 + b0), .int .i64 0] 23)
      exact ⟨this.os, this.tape, this.output, this.size, this.block⟩
    have y3 : wB.cell? ⟨w.heap.size, 3, none⟩ = some (.int .i64 x3) := by rw [cell_of_row _ _ _ _ _ _ ha]; rfl
    have y1 : wB.cell? ⟨w.heap.size + 1 + 1, 1, none⟩ = some (.int .i64 (32 + c0)) := by rw [cell_of_row _ _ _ _ _ _ hc]; rfl
    have z3 : wB.cell? ⟨w.heap.size + 1 + 1, 3, none⟩ = some (.int .i64 0) := by rw [cell_of_row _ _ _ _ _ _ hc]; rfl
    have zf : wB.frozen? ⟨w.heap.size + 1 + 1, 3, none⟩ = false := by simp [World.frozen?, hc]
    have hKP : (wB.setCell ⟨w.heap.size + 1 + 1, 3, none⟩ (.int .i64 (32 + c0 + k0))).cell? ⟨w.heap.size, 3, none⟩ = some (.int .i64 x3) ∧ (wB.setCell ⟨w.heap.size + 1 + 1, 3, none⟩ (.int .i64 (32 + c0 + k0))).cell? ⟨w.heap.size + 1 + 1, 1, none⟩ = some (.int .i64 (32 + c0)) := by
      have hset : Chg (fun j => j = w.heap.size + 1 + 1) wB (wB.setCell ⟨w.heap.size + 1 + 1, 3, none⟩ (.int .i64 (32 + c0 + k0))) := chg_set (Chg.refl _ _) rfl
      refine ⟨?_, ?_⟩
      · rw [hset.cell (p := ⟨w.heap.size, 3, none⟩) (lt_of_block ha) (by show ¬ w.heap.size = w.heap.size + 1 + 1; omega)]
        exact y3
      · rw [cell_of_row _ _ _ _ _ _ (blk_set hc)]
        rfl
    have HKP := hide hKP
    have HB := hide hb
    have HC := hide hc
    have HBE := hide hbe
    clear hwB ha hb hc hbe hKP
    go_cut [] (fun wx => wx.heap[w.heap.size + 1 + 1]? = some (.cells #[.int .i64 i, .int .i64 (32 + c0), .int .i64 (1 + b0), .int .i64 (32 + c0 + k0)] 23 (0, 0)) ∧ wx.heap[w.heap.size + 1]? = some (.cells #[.int .i64 0, .int .i64 0, .int .i64 0, .int .i64 0] 23 (0, 0)) ∧ Below w.heap.size w wx)
    case first =>
      go_region_held3 (fun w' => w'.cell? ⟨w.heap.size, 3, none⟩ = some (.int .i64 x3) ∧ w'.cell? ⟨w.heap.size + 1 + 1, 1, none⟩ = some (.int .i64 (32 + c0))) (first | exact HKP.out | go_keep)
        (first | (go_at_call 13; refine (HPK.out _ _ _ (by first | assumption | (rw [w3, w4]; assumption)) (by assumption)).mono ?_; rintro e w' ⟨rfl, rfl⟩))
      all_goals (go_wp2_with fail; go_meet)
      all_goals
        skip
        have hset : Chg (fun j => j = w.heap.size + 1 + 1) wB (wB.setCell ⟨w.heap.size + 1 + 1, 3, none⟩ (.int .i64 (32 + c0 + k0))) := chg_set (Chg.refl _ _) rfl
        refine ⟨blk_set HC.out, ?_, ?_⟩
        · have := hset.block (w.heap.size + 1) (lt_of_block HB.out) (by omega)
          exact this.trans HB.out
        · have := below_of_chg HBE.out hset (fun j e => by omega)
          exact ⟨this.os, this.tape, this.output, this.size, this.block⟩
    case rest =>
      obtain ⟨hc, hb, hbe⟩ := hcut
      obtain ⟨wD, hwD⟩ : ∃ wD, wD = wc := ⟨wc, rfl⟩
      subst hwD
      have c0' : wD.cell? ⟨w.heap.size + 1 + 1, 0, none⟩ = some (.int .i64 i) := by rw [cell_of_row _ _ _ _ _ _ hc]; rfl
      have c1' : wD.cell? ⟨w.heap.size + 1 + 1, 1, none⟩ = some (.int .i64 (32 + c0)) := by rw [cell_of_row _ _ _ _ _ _ hc]; rfl
      have c2' : wD.cell? ⟨w.heap.size + 1 + 1, 2, none⟩ = some (.int .i64 (1 + b0)) := by rw [cell_of_row _ _ _ _ _ _ hc]; rfl
      have c3' : wD.cell? ⟨w.heap.size + 1 + 1, 3, none⟩ = some (.int .i64 (32 + c0 + k0)) := by rw [cell_of_row _ _ _ _ _ _ hc]; rfl
      have r0 : wD.cell? ⟨w.heap.size + 1, 0, none⟩ = some (.int .i64 0) := by rw [cell_of_row _ _ _ _ _ _ hb]; rfl
      have r1 : wD.cell? ⟨w.heap.size + 1, 1, none⟩ = some (.int .i64 0) := by rw [cell_of_row _ _ _ _ _ _ hb]; rfl
      have r2 : wD.cell? ⟨w.heap.size + 1, 2, none⟩ = some (.int .i64 0) := by rw [cell_of_row _ _ _ _ _ _ hb]; rfl
      have r3 : wD.cell? ⟨w.heap.size + 1, 3, none⟩ = some (.int .i64 0) := by rw [cell_of_row _ _ _ _ _ _ hb]; rfl
      have f0 : wD.frozen? ⟨w.heap.size + 1, 0, none⟩ = false := by simp [World.frozen?, hb]
      have f1 : wD.frozen? ⟨w.heap.size + 1, 1, none⟩ = false := by simp [World.frozen?, hb]
      have f2 : wD.frozen? ⟨w.heap.size + 1, 2, none⟩ = false := by simp [World.frozen?, hb]
      have f3 : wD.frozen? ⟨w.heap.size + 1, 3, none⟩ = false := by simp [World.frozen?, hb]
      have hbb : ((((wD.setCell ⟨w.heap.size + 1, 0, none⟩ (.int .i64 i)).setCell ⟨w.heap.size + 1, 1, none⟩ (.int .i64 (32 + c0))).setCell ⟨w.heap.size + 1, 2, none⟩ (.int .i64 (1 + b0))).setCell ⟨w.heap.size + 1, 3, none⟩ (.int .i64 (32 + c0 + k0))).heap[w.heap.size + 1]? = some (.cells #[.int .i64 i, .int .i64 (32 + c0), .int .i64 (1 + b0), .int .i64 (32 + c0 + k0)] 23 (0, 0)) := blk_set (blk_set (blk_set (blk_set hb)))
      have s0 := cell_of_row _ _ 0 _ _ _ hbb
      have s1 := cell_of_row _ _ 1 _ _ _ hbb
      have s2 := cell_of_row _ _ 2 _ _ _ hbb
      have s3 := cell_of_row _ _ 3 _ _ _ hbb
      have HS0 := hide s0
      have HS1 := hide s1
      have HS2 := hide s2
      have HS3 := hide s3
      have HBE2 := hide hbe
      clear hc hb hbe hbb s0 s1 s2 s3
      go_wp2
      refine bodyPost_ret (v := .agg #[.int .i64 i, .int .i64 (32 + c0), .int .i64 (1 + b0), .int .i64 (32 + c0 + k0)]) ?_ rfl ⟨_, _, _, _, rfl, HOK.out, ?_⟩
      · have e0 := HS0.out
        have e1 := HS1.out
        have e2 := HS2.out
        have e3 := HS3.out
        simp [results, Tryz.results6, go_sem, e0, e1, e2, e3]
      · have hset : Chg (fun j => j = w.heap.size + 1) wD ((((wD.setCell ⟨w.heap.size + 1, 0, none⟩ (.int .i64 i)).setCell ⟨w.heap.size + 1, 1, none⟩ (.int .i64 (32 + c0))).setCell ⟨w.heap.size + 1, 2, none⟩ (.int .i64 (1 + b0))).setCell ⟨w.heap.size + 1, 3, none⟩ (.int .i64 (32 + c0 + k0))) := chg_set (chg_set (chg_set (chg_set (Chg.refl _ _) rfl) rfl) rfl) rfl
        exact below_of_chg HBE2.out hset (fun j e => by omega)
end Go.Proofs.YtlhlmgfblbpdpaaGreatDoor
