import Derived.Test.YtiphkngfbpdeoaaGreatDoorVGag
import Derived.Test.YtiphkngfbpdeoaaGreatDoorVGaf
import Derived.Test.YtiphkngfbpdeoaaGreatDoorVGaa
import Derived.LaidEqlPtr
set_option linter.unusedVariables false
set_option linter.unusedSimpArgs false
namespace Go.Proofs.YtiphkngfbpdeoaaGreatDoor
open Go.RowKit
set_option linter.unusedVariables false
section
variable {w : World} {rb : Nat} {gv : Value} {got l : List UInt8} {k : Nat} {v : Value} {wr : World} {ps : List (Fr × Value)} {gv' : Value} {got' : List UInt8}
end
end Go.Proofs.YtiphkngfbpdeoaaGreatDoor
namespace Go.Proofs.YtiphkngfbpdeoaaGreatDoor
open Go.RowKit
set_option linter.unusedVariables false
theorem frame_one (f : Fr) (sa : Option Addr) (n c : Nat) : ∀ u ∈ cellsOf [(f, .slice sa n c)], u.oneCell' = true := by
  intro u hu
  simp [cellsOf] at hu
  rcases hu with rfl | rfl | rfl | rfl <;> rfl
theorem lies_frame1 (w1 : World) (f : Fr) (sa : Option Addr) (n c : Nat) :
    Lies (w1.alloc (.cells #[.int .i64 f.kind, .int .i64 f.flags, .int .i64 f.stream, .slice sa n c] 105)) (.slice (some ⟨w1.heap.size, 0, none⟩) 1 1) 1 (cellsOf [(f, .slice sa n c)]) := by
  refine Or.inr ⟨_, _, rfl, fun j u hu => ?_⟩
  have hh := heap_alloc_new w1 (.cells #[.int .i64 f.kind, .int .i64 f.flags, .int .i64 f.stream, .slice sa n c] 105)
  have e : (⟨w1.heap.size, 0, none⟩ : Addr).add j = ⟨w1.heap.size, j, none⟩ := by unfold Addr.add; split <;> simp_all
  rw [e, cell_of_row _ _ _ _ _ _ hh, ← hu]
  simp [cellsOf]
theorem lies_frame (w1 : World) (o : Obj) (f : Fr) (sa : Option Addr) (n c : Nat) :
    Lies ((w1.alloc o).alloc (.cells #[.int .i64 f.kind, .int .i64 f.flags, .int .i64 f.stream, .slice sa n c] 105)) (.slice (some ⟨w1.heap.size + 1, 0, none⟩) 1 1) 1 (cellsOf [(f, .slice sa n c)]) := by
  have h := lies_frame1 (w1.alloc o) f sa n c
  rw [World.size_alloc] at h
  exact h
section
variable {w : World} {rb : Nat} {gv : Value} {got l : List UInt8} {k : Nat} {v : Value} {wr : World} {ps : List (Fr × Value)} {gv' : Value} {got' : List UInt8}
end
end Go.Proofs.YtiphkngfbpdeoaaGreatDoor
namespace Go.Proofs.YtiphkngfbpdeoaaGreatDoor
open Go.RowKit
end Go.Proofs.YtiphkngfbpdeoaaGreatDoor
namespace Go.Proofs.YtiphkngfbpdeoaaGreatDoor
open Go.RowKit
def inB (n : Int) : Bool := decide (0 ≤ n) && decide (n ≤ 255)
def fitsB (k f s : Int) (n : Nat) : Bool := inB k && inB f && decide (0 ≤ s) && decide (s ≤ 32767) && decide (n ≤ 64)
theorem B_ofI {x : Int} (h0 : 0 ≤ x) (h1 : x ≤ 255) : B (ofI x) = .int .u8 x := by unfold B; rw [ofI_toNat h0 h1]
theorem lies_six (w : World) (a b c d e f : Value) : Lies (w.alloc (.cells #[a, b, c, d, e, f] 5)) (.slice (some ⟨w.heap.size, 0, none⟩) 6 6) 6 [a, b, c, d, e, f] := by
  refine Or.inr ⟨_, _, rfl, fun j u hu => ?_⟩
  have hh := heap_alloc_new w (.cells #[a, b, c, d, e, f] 5)
  have e : (⟨w.heap.size, 0, none⟩ : Addr).add j = ⟨w.heap.size, j, none⟩ := by unfold Addr.add; split <;> simp_all
  rw [e, cell_of_row _ _ _ _ _ _ hh, ← hu]
  simp
set_option maxRecDepth 100000 in
set_option maxHeartbeats 1600000 in
theorem bytes_any (k f s : Int) (sa : Option Addr) (body : List UInt8) (cap : Nat) (w : World) (hk0 : 0 ≤ k) (hk1 : k ≤ 255) (hf0 : 0 ≤ f) (hf1 : f ≤ 255) (hs0 : 0 ≤ s) (hs1 : s ≤ 32767) (hn : body.length ≤ 64)
    (hb : BytesIn w (.slice sa body.length cap) body) :
    Calls Tryz.prog 150 #[.agg #[.int .i64 k, .int .i64 f, .int .i64 s, .slice sa body.length cap]] w fun e w' => ∃ v, e = .returned v ∧ w'.ownsRow w.heap.size 5 1 v (lay k f s body).length ((lay k f s body).map B) ∧ Below w.heap.size w w' := by
  obtain ⟨i0, hi, hz0, hz1, hz2⟩ := info_parts Tryz.info5
  have HB : Hid (BytesIn w (.slice sa body.length cap) body) := hb
  clear hb
  go_enter Tryz.func150, Tryz.ntmps150
  go_wp2_with (at_make; refine wpList_make_own _ rfl _ _ 38 rfl w.heap.size 5 i0 (.int .u8 0) 1 Tryz.underlying38 hi hz0 hz1 _ _ _ (6 + body.length) rfl rfl ?m1 ?m2 ?m3 ?m4 ?_)
  case m1 => omega
  case m2 => rw [hz2]; omega
  case m3 => unfold maxLen; omega
  case m4 => simp
  intro w1 hown1 hg1
  have hfb : w1.heap[w.heap.size]? = some (.cells #[.int .i64 k, .int .i64 f, .int .i64 s, .slice sa body.length cap] 105 (0, 0)) := by
    rw [hg1.block w.heap.size (by simp) (by simp)]; exact heap_alloc_new w _
  have hbel1 : Below w.heap.size w w1 := ((Below.refl _ _).alloc (Nat.le_refl _) _).grown hg1 (by simp) (fun k h => by cases h)
  obtain ⟨z0, z1, z2, z3, -⟩ := frame_block hfb
  have hsz1 := lt_of_block hfb
  have hb2 : ((s / 256) % 256) = s / 256 := by omega
  have hown1' := owns_base hown1 (base' := 0) (fun _ _ => Nat.zero_le _)
  clear hg1
  go_wp2_with (at_builtin; refine wpList_app _ rfl (.tmp 11) (.tmp 30) 38 rfl 5 i0 (.int .u8 0) 1 1 Tryz.underlying38 hi hz0 hz1 hz2 rfl (by decide) _ _ _ rfl (hown1'.alloc _) (.slice (some ⟨w1.heap.size, 0, none⟩) 6 6) 6 [.int .u8 ((body.length : Int) / 256), .int .u8 (body.length : Int), .int .u8 k, .int .u8 f, .int .u8 (s / 256), .int .u8 (s % 256)] rfl rfl ?c1 ?c2 ?c3 ?c4 ?_)
  case c1 => exact lies_six _ _ _ _ _ _ _
  case c2 =>
    intro u hu
    simp at hu
    rcases hu with rfl | rfl | rfl | rfl | rfl | rfl <;> rfl
  case c3 => unfold maxLen; omega
  case c4 => omega
  intro v2 w2 hown2 hg2 hfr2
  have hbel2 : Below w.heap.size w w2 := (hbel1.alloc (by omega) _).grown hg2 (by simp; omega) (fun k h => by simp [Value.ownBlock] at h; omega)
  have hfb2 : w2.heap[w.heap.size]? = some (.cells #[.int .i64 k, .int .i64 f, .int .i64 s, .slice sa body.length cap] 105 (0, 0)) := by
    rw [hg2.block w.heap.size (by simp; omega) (by simp [Value.ownBlock]), Below.heap_alloc _ _ _ hsz1]; exact hfb
  have hv2 : ∀ j, v2.ownBlock = some j → w.heap.size ≤ j := fun j hj => by
    rcases hfr2 with e | e
    · rw [e] at hj; simp [Value.ownBlock] at hj; omega
    · rw [e] at hj; simp at hj; omega
  obtain ⟨y0, y1, y2, y3, -⟩ := frame_block hfb2
  clear hfr2 hg2 z0 z1 z2 z3 hown1 hown1' hfb hfb2
  go_wp2_with (at_builtin; refine wpList_app _ rfl (.tmp 32) (.tmp 34) 38 rfl 5 i0 (.int .u8 0) 1 1 Tryz.underlying38 hi hz0 hz1 hz2 rfl (by decide) _ _ _ rfl hown2 (.slice sa body.length cap) body.length (body.map B) rfl ?d0 ?d1 ?d2 ?d3 ?d4 ?_)
  case d0 => simp
  case d1 => exact lies_of_bytesIn (HB.out.chg (Chg.of_below (S := fun _ => False) hbel2) (fun _ _ => id))
  case d2 => exact bytes_one _
  case d3 => unfold maxLen; omega
  case d4 => omega
  intro v3 w3 hown3 hg3 hfr3
  go_wp2
  go_ret
  have hsz2 := hbel2.size
  refine ⟨v3, rfl, ?_, hbel2.grown hg3 hsz2 (fun j hj => hv2 j hj)⟩
  have h4 := owns_base hown3 (base' := w.heap.size) (fun j hj => by
    rcases hfr3 with e | e
    · rw [e] at hj; exact hv2 j hj
    · rw [e] at hj; simp at hj; omega)
  have e1 : (lay k f s body).length = 6 + body.length := by simp [lay]; omega
  rw [e1]
  have e2 : (lay k f s body).map B = [.int .u8 ((body.length : Int) / 256), .int .u8 (body.length : Int), .int .u8 k, .int .u8 f, .int .u8 (s / 256), .int .u8 (s % 256)] ++ body.map B := by
    unfold lay
    rw [List.map_append]
    simp only [List.map_cons, List.map_nil]
    rw [B_ofI (by omega) (by omega), B_ofI (by omega) (by omega), B_ofI hk0 hk1, B_ofI hf0 hf1, B_ofI (by omega) (by omega), B_ofI (by omega) (by omega)]
  rw [e2]
  simpa using h4
end Go.Proofs.YtiphkngfbpdeoaaGreatDoor
namespace Go.Proofs.YtiphkngfbpdeoaaGreatDoor
theorem feed_code (got l : List UInt8) : (feed got l).2.code ≠ 0 → (feed got l).2.got = [] := by
  induction l generalizing got with
  | nil => intro h; exact absurd rfl h
  | cons c r ih =>
    simp only [feed]
    split
    · exact ih _
    · exact ih _
    · intro _; rfl
theorem feed_append (got a b : List UInt8) : feed got (a ++ b) = ((feed got a).1 ++ ((feed got a).2.feed b).1, ((feed got a).2.feed b).2) := by
  induction a generalizing got with
  | nil =>
    have : (Rd.mk got 0).feed b = feed got b := by show (if (0 : Int) = 0 then _ else _) = _; rw [if_pos rfl]
    simp [feed, this]
  | cons c r ih =>
    simp only [List.cons_append, feed]
    split
    · exact ih _
    · simp [ih]
    · rename_i code hs
      have hc : code ≠ 0 := by
        unfold step at hs
        simp only at hs
        split at hs
        · rename_i h; simp only [Sum.inr.injEq] at hs; rw [← hs]; exact h.2
        · split at hs
          · cases hs
          · split at hs
            · rename_i h; simp only [Sum.inr.injEq] at hs; rw [← hs]; exact h
            · cases hs
      have : (Rd.mk [] code).feed b = ([], ⟨[], code⟩) := by show (if code = 0 then _ else _) = _; rw [if_neg hc]
      simp [this]
theorem Rd.feed_append (r : Rd) (a b : List UInt8) : r.feed (a ++ b) = ((r.feed a).1 ++ ((r.feed a).2.feed b).1, ((r.feed a).2.feed b).2) := by
  unfold Rd.feed
  by_cases h : r.code = 0
  · simp only [h, if_true]
    exact Go.Proofs.YtiphkngfbpdeoaaGreatDoor.feed_append _ _ _
  · simp [h]
theorem Rd.feed_nil (r : Rd) : r.feed [] = ([], r) := by
  unfold Rd.feed
  by_cases h : r.code = 0
  · rw [if_pos h]
    show ([], Rd.mk r.got 0) = ([], r)
    rw [← h]
  · rw [if_neg h]
theorem Rd.feed_dead {r : Rd} (h : r.code ≠ 0) (l : List UInt8) : r.feed l = ([], r) := by unfold Rd.feed; rw [if_neg h]
structure Right (k f s : Int) (body : List UInt8) : Prop where
  k0 : 0 ≤ k
  k1 : k ≤ 255
  f0 : 0 ≤ f
  f1 : f ≤ 255
  s0 : 0 ≤ s
  s1 : s ≤ 32767
  st : sFits k s = true
  n : body.length ≤ 64
  ln : lFits body.length k f = true
  bd : bodyCode k f body = 0
theorem lay_length (k f s : Int) (body : List UInt8) : (lay k f s body).length = 6 + body.length := by simp [lay]; omega
theorem lay_drop (k f s : Int) (body : List UInt8) : (lay k f s body).drop 6 = body := rfl
theorem hdOf_lay {k f s : Int} {body r : List UInt8} (hk0 : 0 ≤ k) (hk1 : k ≤ 255) (hf0 : 0 ≤ f) (hf1 : f ≤ 255) (hs0 : 0 ≤ s) (hs1 : s ≤ 32767) (hn : body.length ≤ 64) :
    hdOf ([ofI ((body.length : Int) / 256), ofI (body.length : Int), ofI k, ofI f, ofI (s / 256), ofI (s % 256)] ++ r) = ⟨body.length, k, f, s⟩ := by
  simp only [hdOf, List.cons_append, be2]
  rw [ofI_toNat (by omega) (by omega), ofI_toNat (by omega) (by omega), ofI_toNat hk0 hk1, ofI_toNat hf0 hf1, ofI_toNat (by omega) (by omega), ofI_toNat (by omega) (by omega)]
  congr 1 <;> omega
theorem feed_short (got l : List UInt8) (h : got.length + l.length < 6) : feed got l = ([], ⟨got ++ l, 0⟩) := by
  induction l generalizing got with
  | nil => simp [feed]
  | cons c r ih =>
    have hs : step got c = .more (got ++ [c]) := by
      unfold step
      simp only [List.length_append, List.length_cons, List.length_nil] at h ⊢
      rw [if_neg (by omega), if_pos (by omega)]
    simp only [feed, hs]
    rw [ih _ (by simp at h ⊢; omega)]
    simp
theorem feed_body (got l : List UInt8) (n : Nat) (h6 : 6 ≤ got.length) (hc : (hdOf got).length = (n : Int)) (hl : got.length + l.length = 6 + n) (hlt : got.length < 6 + n) :
    feed got l = if bodyCode (hdOf got).kind (hdOf got).flags ((got ++ l).drop 6) = 0 then ([⟨(hdOf got).kind, (hdOf got).flags, (hdOf got).stream, (got ++ l).drop 6⟩], ⟨[], 0⟩) else ([], ⟨[], bodyCode (hdOf got).kind (hdOf got).flags ((got ++ l).drop 6)⟩) := by
  induction l generalizing got with
  | nil => simp at hl; omega
  | cons c r ih =>
    have hh : hdOf (got ++ [c]) = hdOf got := by
      match got, h6 with
      | a :: b :: d :: e :: f :: g :: r, _ => rfl
    by_cases hr : r = []
    · subst hr
      simp only [List.length_cons, List.length_nil] at hl
      by_cases hb : bodyCode (hdOf got).kind (hdOf got).flags ((got ++ [c]).drop 6) = 0
      · have hs : step got c = .frame ⟨(hdOf got).kind, (hdOf got).flags, (hdOf got).stream, (got ++ [c]).drop 6⟩ := by
          unfold step
          simp only [hh]
          simp only [List.length_append, List.length_cons, List.length_nil]
          rw [if_neg (by omega), if_neg (by omega), if_neg (by simpa using hb)]
        simp only [feed, hs]
        rw [if_pos hb]
      · have hs : step got c = .fault (bodyCode (hdOf got).kind (hdOf got).flags ((got ++ [c]).drop 6)) := by
          unfold step
          simp only [hh]
          simp only [List.length_append, List.length_cons, List.length_nil]
          rw [if_neg (by omega), if_neg (by omega), if_pos hb]
        simp only [feed, hs]
        rw [if_neg hb]
    · have hrl : 0 < r.length := List.length_pos_iff.2 hr
      simp only [List.length_cons] at hl
      have hs : step got c = .more (got ++ [c]) := by
        unfold step
        simp only [hh]
        simp only [List.length_append, List.length_cons, List.length_nil]
        rw [if_neg (by omega), if_pos (by omega)]
      simp only [feed, hs]
      have := ih (got ++ [c]) (by simp; omega) (by rw [hh]; exact hc) (by simp; omega) (by simp; omega)
      rw [this, hh]
      simp only [List.append_assoc, List.cons_append, List.nil_append]
theorem feed_lay {k f s : Int} {body : List UInt8} (hk0 : 0 ≤ k) (hk1 : k ≤ 255) (hf0 : 0 ≤ f) (hf1 : f ≤ 255) (hs0 : 0 ≤ s) (hs1 : s ≤ 32767) (hn : body.length ≤ 64) :
    feed [] (lay k f s body) = if headCode body.length k f s ≠ 0 then ([], ⟨[], headCode body.length k f s⟩) else if bodyCode k f body = 0 then ([⟨k, f, s, body⟩], ⟨[], 0⟩) else ([], ⟨[], bodyCode k f body⟩) := by
  obtain ⟨x0, hx0⟩ : ∃ x, x = ofI ((body.length : Int) / 256) := ⟨_, rfl⟩
  have hd : ∀ r, hdOf ([ofI ((body.length : Int) / 256), ofI (body.length : Int), ofI k, ofI f, ofI (s / 256), ofI (s % 256)] ++ r) = ⟨body.length, k, f, s⟩ := fun r => hdOf_lay hk0 hk1 hf0 hf1 hs0 hs1 hn
  have e : lay k f s body = [ofI ((body.length : Int) / 256), ofI (body.length : Int), ofI k, ofI f, ofI (s / 256)] ++ (ofI (s % 256) :: body) := rfl
  rw [e, feed_append, feed_short [] _ (by simp)]
  have h1 : (Rd.mk ([] ++ [ofI ((body.length : Int) / 256), ofI (body.length : Int), ofI k, ofI f, ofI (s / 256)]) 0).feed (ofI (s % 256) :: body) =
      feed [ofI ((body.length : Int) / 256), ofI (body.length : Int), ofI k, ofI f, ofI (s / 256)] (ofI (s % 256) :: body) := by
    show (if (0 : Int) = 0 then _ else _) = _
    rw [if_pos rfl]; rfl
  rw [h1]
  have hd0 : hdOf ([ofI ((body.length : Int) / 256), ofI (body.length : Int), ofI k, ofI f, ofI (s / 256)] ++ [ofI (s % 256)]) = ⟨body.length, k, f, s⟩ := by
    have := hd []; simpa using this
  have hcode : Hd.code ⟨body.length, k, f, s⟩ = headCode body.length k f s := rfl
  simp only [List.nil_append, feed]
  by_cases hh : headCode body.length k f s ≠ 0
  · have hs : step [ofI ((body.length : Int) / 256), ofI (body.length : Int), ofI k, ofI f, ofI (s / 256)] (ofI (s % 256)) = .fault (headCode body.length k f s) := by
      unfold step
      simp only [hd0, hcode]
      rw [if_pos ⟨rfl, hh⟩]
    rw [hs, if_pos hh]
  · rw [if_neg hh]
    by_cases hb : body = []
    · subst hb
      simp only [List.length_nil] at *
      have hs : step [ofI (((0 : Nat) : Int) / 256), ofI ((0 : Nat) : Int), ofI k, ofI f, ofI (s / 256)] (ofI (s % 256)) =
          if bodyCode k f [] = 0 then .frame ⟨k, f, s, []⟩ else .fault (bodyCode k f []) := by
        unfold step
        simp only [hd0, hcode]
        rw [if_neg (fun h => hh h.2), if_neg (by simp)]
        by_cases hz : bodyCode k f [] = 0
        · rw [if_neg (by simpa using hz), if_pos hz]; rfl
        · rw [if_pos (by simpa using hz), if_neg hz]; rfl
      rw [hs]
      by_cases hz : bodyCode k f [] = 0
      · simp [hz, feed]
      · simp [hz]
    · have hbl : 0 < body.length := List.length_pos_iff.2 hb
      have hs : step [ofI ((body.length : Int) / 256), ofI (body.length : Int), ofI k, ofI f, ofI (s / 256)] (ofI (s % 256)) = .more ([ofI ((body.length : Int) / 256), ofI (body.length : Int), ofI k, ofI f, ofI (s / 256)] ++ [ofI (s % 256)]) := by
        unfold step
        simp only [hd0, hcode]
        rw [if_neg (fun h => hh h.2), if_pos (Or.inr (by simp; omega))]
      rw [hs]
      simp only
      rw [feed_body _ body body.length (by simp) (by rw [hd0]) (by simp) (by simp; omega), hd0]
      simp only [List.cons_append, List.nil_append, List.drop_succ_cons, List.drop_zero]
theorem headCode_of {l k f s : Int} (h1 : s ≤ 32767) (h2 : sFits k s = true) (h3 : l ≤ 64) (h4 : lFits l k f = true) : headCode l k f s = 0 := by
  have a1 : ¬ (32767 < s ∨ sFits k s = false) := by
    rintro (a | a)
    · omega
    · rw [h2] at a; cases a
  have a2 : ¬ (64 < l ∨ lFits l k f = false) := by
    rintro (a | a)
    · omega
    · rw [h4] at a; cases a
  unfold headCode
  rw [if_neg a1, if_neg a2]
theorem feed_right {k f s : Int} {body : List UInt8} (h : Right k f s body) : feed [] (lay k f s body) = ([⟨k, f, s, body⟩], ⟨[], 0⟩) := by
  rw [feed_lay h.k0 h.k1 h.f0 h.f1 h.s0 h.s1 h.n, if_neg (by simpa using headCode_of h.s1 h.st (by have := h.n; omega) h.ln), if_pos h.bd]
end Go.Proofs.YtiphkngfbpdeoaaGreatDoor
namespace Go.Proofs.YtiphkngfbpdeoaaGreatDoor
set_option linter.unusedVariables false
set_option linter.unusedSimpArgs false
open Go.RowKit
structure Put (w w' : World) (eb : Nat) (m : EndM) (l new : List UInt8) (v : Value) : Prop where
  b : EnB w' eb { m with out := v }
  row : w'.ownsRow 0 5 1 v (l ++ new).length ((l ++ new).map B)
  chg : Chg (fun j => j = eb ∨ m.out.ownBlock = some j) w w'
  fresh : ∀ j, v.ownBlock = some j → m.out.ownBlock = some j ∨ w.heap.size ≤ j
set_option maxRecDepth 100000 in
set_option maxHeartbeats 3200000 in
theorem en_put (eb : Nat) (m : EndM) (l : List UInt8) (k f s : Int) (sa : Option Addr) (body : List UInt8) (cap : Nat) (w : World) (h : EnB w eb m) (hg : m.greets = false) (hrow : w.ownsRow 0 5 1 m.out l.length (l.map B)) (hl : l.length ≤ 1073741824) (hk0 : 0 ≤ k) (hk1 : k ≤ 255) (hf0 : 0 ≤ f) (hf1 : f ≤ 255) (hs0 : 0 ≤ s) (hs1 : s ≤ 32767) (hn : body.length ≤ 64)
    (hb : BytesIn w (.slice sa body.length cap) body) :
    Calls Tryz.prog 129 #[.pointer (some ⟨eb, 0, none⟩), .agg #[.int .i64 k, .int .i64 f, .int .i64 s, .slice sa body.length cap]] w fun e w' => e = .returned (.tuple #[]) ∧ ∃ v, Put w w' eb m l (lay k f s body) v := by
  obtain ⟨i0, hi, hz0, hz1, hz2⟩ := info_parts Tryz.info5
  obtain ⟨so, co, ho⟩ := slice_len hrow
  have hlt := h.lt
  have c39 := h.c39
  rw [hg] at c39
  have c41 := h.c41
  rw [ho] at c41
  have hbA : Below w.heap.size w (w.alloc (.cells #[.int .i64 k, .int .i64 f, .int .i64 s, .slice sa body.length cap] 105)).drew := by
    have h := (Below.refl w.heap.size w).alloc (Nat.le_refl _) (.cells #[.int .i64 k, .int .i64 f, .int .i64 s, .slice sa body.length cap] 105)
    exact ⟨h.os, h.tape, h.output, h.size, h.block⟩
  have HBY := hide (bytes_any k f s sa body cap _ hk0 hk1 hf0 hf1 hs0 hs1 hn (hb.chg (Chg.of_below (S := fun _ => False) hbA) (fun _ _ => id)))
  have hfr : (w.alloc (.cells #[.int .i64 k, .int .i64 f, .int .i64 s, .slice sa body.length cap] 105)).drew.heap[w.heap.size]? = some (.cells #[.int .i64 k, .int .i64 f, .int .i64 s, .slice sa body.length cap] 105 (0, 0)) := heap_alloc_new w _
  have HFR := hide hfr
  have hly := lay_length k f s body
  have H := hide h
  have HROW := hide hrow
  have HBA := hide hbA
  have HO := hide ho
  clear h hrow hb hbA hfr
  obtain ⟨L, hL⟩ : ∃ L, L = lay k f s body := ⟨_, rfl⟩
  rw [← hL] at HBY hly ⊢
  have hly2 : L.length ≤ 70 := by omega
  clear hL hly
  have hc41a : (w.alloc (.cells #[.int .i64 k, .int .i64 f, .int .i64 s, .slice sa body.length cap] 105)).cell? ⟨eb, 41, none⟩ = some (.slice so l.length co) := by rw [Below.cell ((Below.refl w.heap.size w).alloc (Nat.le_refl _) _) (p := ⟨eb, 41, none⟩) hlt]; exact c41
  go_enter Tryz.func129, Tryz.ntmps129
  go_upto_region 4 with fail
  go_region_law (first
    | (refine step_call rfl 150 Tryz.f150 Tryz.func150 (by kernel_rfl) rfl [.tmp 29] #[105] rfl [.agg #[.int .i64 k, .int .i64 f, .int .i64 s, .slice sa body.length cap]] (by simp [Act.eval, Act.put]) HBY.out ?_; rintro e w2 ⟨v2, rfl, hr2, hb2⟩; refine ⟨_, rfl, ?_⟩; obtain ⟨s2, q2, hv2⟩ := slice_len hr2; subst hv2; have hB2 := HBA.out.trans (hb2.mono HBA.out.size); have c41b : w2.cell? ⟨eb, 41, none⟩ = some (.slice so l.length co) := (by rw [Below.cell hB2 (p := ⟨eb, 41, none⟩) hlt]; exact c41); have HR2 := hide hr2; have HB2 := hide hB2; have HBB := hide hb2; clear hr2 hb2 hB2)
    | (refine step_appd rfl (.tmp 28) (.tmp 30) 38 rfl 5 i0 (.int .u8 0) 1 1 Tryz.underlying38 hi hz0 hz1 hz2 rfl (by decide) (.slice so l.length co) l.length (l.map B) (by simp [Act.eval, Act.put]) (by rw [← HO.out]; exact owns_chg HROW.out (Chg.of_below (S := fun _ => False) HB2.out) (fun _ _ => id)) _ L.length (L.map B) (by simp [Act.eval, Act.put]) (by simp) (lies_of_bytesIn (bytesIn_of_owns HR2.out rfl)) (by intro u hu; obtain ⟨x, -, rfl⟩ := List.mem_map.1 hu; rfl) (by unfold maxLen; omega) (by omega) ?_; intro v3 w3 ho3 hg3 hfr3; obtain ⟨s3, q3, hv3⟩ := slice_len ho3; subst hv3; have hb3 := kept_block (owns_chg HROW.out (Chg.of_below (S := fun _ => False) HB2.out) (fun _ _ => id)) (by rw [HO.out]; exact hg3) (H.out.below HB2.out).blk (by decide); have c41c : w3.cell? ⟨eb, 41, none⟩ = some (.slice so l.length co) := (by rw [cell_of_row w3 eb _ _ _ _ hb3]; rw [← HO.out]; rfl); have f41 : w3.frozen? ⟨eb, 41, none⟩ = false := (by simp [World.frozen?, hb3]); have HO3 := hide ho3; have HG3 := hide hg3; have HF3 := hide hfr3; have HB3 := hide hb3; clear ho3 hg3 hfr3 hb3))
  all_goals go_wp2
  all_goals
    refine bodyPost_end (results_none rfl _ _ _) rfl ⟨rfl, .slice s3 (l.length + L.length) q3, ⟨EnB.of (blk_set HB3.out) rfl, ?_, ?_, ?_⟩⟩
    · rw [List.length_append, List.map_append]
      exact owns_chg HO3.out (chg_set (S := fun j => j = eb) (Chg.refl _ _) rfl) (fun j hj e => by subst e; exact owns_ne HO3.out HB3.out (by decide) hj)
    · refine chg_set ((Chg.of_below HB2.out).trans (Chg.of_grown HG3.out (fun j hj => Or.inr (Or.inr (by rw [HO.out]; exact hj))))) (Or.inl rfl)
    · intro j hj
      have hz := HB2.out.size
      rcases HF3.out with e | e
      · rw [e] at hj; exact Or.inl (by rw [HO.out]; exact hj)
      · rw [e] at hj; simp at hj; exact Or.inr (by omega)
end Go.Proofs.YtiphkngfbpdeoaaGreatDoor
namespace Go.Proofs.YtiphkngfbpdeoaaGreatDoor
set_option linter.unusedVariables false
set_option linter.unusedSimpArgs false
open Go.RowKit
def four4 (n : Nat) : List UInt8 := [UInt8.ofNat (n / 16777216), UInt8.ofNat (n / 65536), UInt8.ofNat (n / 256), UInt8.ofNat n]
set_option maxHeartbeats 800000 in
theorem fNumber_any (n : Nat) (w : World) (hn : n < 4294967296) : Calls Tryz.prog 132 #[.int .u32 n] w fun e w' => e = .returned (.slice (some ⟨w.heap.size, 0, none⟩) 4 4) ∧ BytesIn w' (.slice (some ⟨w.heap.size, 0, none⟩) 4 4) (four4 n) ∧ w.heap.size < w'.heap.size ∧ Below w.heap.size w w' := by
  go_enter Tryz.func132, Tryz.ntmps132
  go_wp2
  go_ret
  have hh : (w.alloc (.cells #[.int .u8 (n / 16777216), .int .u8 (n / 65536 % 256), .int .u8 (n / 256 % 256), .int .u8 (n % 256)] 5)).heap[w.heap.size]? = some (.cells #[.int .u8 (n / 16777216), .int .u8 (n / 65536 % 256), .int .u8 (n / 256 % 256), .int .u8 (n % 256)] 5 (0, 0)) := heap_alloc_new w _
  refine ⟨rfl, Or.inr ⟨w.heap.size, 0, 4, rfl, lt_of_block hh, Nat.le_refl _, fun i hi => ?_⟩, lt_of_block hh, (Below.refl _ _).alloc (Nat.le_refl _) _⟩
  rw [cell_of_row _ _ _ _ _ _ hh]
  have hi' : i < 4 := hi
  have e0 : (n / 16777216 : Nat) % 256 = n / 16777216 := Nat.mod_eq_of_lt (by omega)
  match i, hi' with
  | 0, _ => simp [four4, UInt8.toNat_ofNat', e0]
  | 1, _ => simp [four4, UInt8.toNat_ofNat']
  | 2, _ => simp [four4, UInt8.toNat_ofNat']
  | 3, _ => simp [four4, UInt8.toNat_ofNat']
def EndM.pingd (m : EndM) : EndM := { m with pinged := true, start := m.clock }
set_option maxRecDepth 100000 in
set_option maxHeartbeats 800000 in
theorem tping_any (eb : Nat) (m : EndM) (w : World) (h : EnB w eb m) : Calls Tryz.prog 131 #[.pointer (some ⟨eb, 13, none⟩), .int .i64 m.clock] w fun e w' => (if m.under && !m.pinged then e = .returned (.tuple #[.int .u32 m.pnum, .bool true]) ∧ EnB w' eb m.pingd ∧ Chg (fun j => j = eb) w w' else e = .returned (.tuple #[.int .u32 0, .bool false]) ∧ w' = w) := by
  have c17 := h.c17
  have c18 := h.c18
  have c19 := h.c19
  have c20 := h.c20
  have f19 := h.fr 19
  have f20 := h.fr 20
  have H := hide h
  clear h
  cases hu : m.under <;> cases hp : m.pinged <;> rw [hu] at c18 <;> rw [hp] at c19
  all_goals (go_enter Tryz.func131, Tryz.ntmps131; go_wp2; go_ret2; simp only [Bool.false_and, Bool.true_and, Bool.not_true, Bool.not_false, Bool.false_eq_true, if_false, if_true])
  · exact ⟨rfl, trivial⟩
  · exact ⟨rfl, trivial⟩
  · exact ⟨rfl, EnB.of (blk_set (blk_set H.out.blk)) rfl, by ((repeat (refine chg_set ?_ ?hs; (case hs => first | rfl | assumption | exact Or.inl rfl | exact Or.inr rfl))); first | exact Chg.refl _ _ | exact chg_drewN)⟩
  · exact ⟨rfl, trivial⟩
theorem out_ne {w : World} {eb n : Nat} {m : EndM} {v : Value} {xs : List Value} (h : EnB w eb m) (hrow : w.ownsRow 0 5 1 v n xs) : v.ownBlock ≠ some eb := fun e => owns_ne hrow h.blk (by decide) e
theorem Put.pre {w w1 w2 w' : World} {eb : Nat} {m : EndM} {l new : List UInt8} {v : Value} (h : Put w2 w' eb m l new v) (h1 : Chg (fun j => j = eb) w w1) (h2 : Below w1.heap.size w1 w2) : Put w w' eb m l new v := by
  have hc : Chg (fun j => j = eb ∨ m.out.ownBlock = some j) w w2 := (h1.mono fun j _ e => Or.inl e).then_below h2
  refine ⟨h.b, h.row, hc.trans (h.chg.mono fun j _ e => Or.inr e), fun j hj => (h.fresh j hj).imp_right fun e => Nat.le_trans hc.size e⟩
def EndM.setd (m : EndM) : EndM := { m with told := true, made := m.wanted, waits := true }
set_option maxRecDepth 100000 in
set_option maxHeartbeats 1600000 in
theorem putSettings_any (eb : Nat) (m : EndM) (n : Nat) (l : List UInt8) (w : World) (h : EnB w eb m) (hg : m.greets = false) (hw : m.wanted = (n : Int)) (hn : n ≤ 1000) (hrow : w.ownsRow 0 5 1 m.out l.length (l.map B)) (hl : l.length ≤ 1073741824) :
    Calls Tryz.prog 130 #[.pointer (some ⟨eb, 0, none⟩)] w fun e w' => e = .returned (.tuple #[]) ∧ ∃ v, Put w w' eb m.setd l (lay 3 0 0 (four4 n)) v := by
  have c7 := h.c7
  rw [hw] at c7
  have c8 := h.c8
  have c9 := h.c9
  have c10 := h.c10
  have f8 := h.fr 8
  have f9 := h.fr 9
  have f10 := h.fr 10
  have hlt := h.lt
  obtain ⟨w1, hw1⟩ : ∃ w1, w1 = ((w.setCell ⟨eb, 8, none⟩ (.bool true)).setCell ⟨eb, 9, none⟩ (.int .i64 (n : Int))).setCell ⟨eb, 10, none⟩ (.bool true) := ⟨_, rfl⟩
  have h1 : EnB w1 eb m.setd := by rw [hw1]; refine EnB.of (blk_set (blk_set (blk_set h.blk))) ?_; rw [← hw]; rfl
  have hc1 : Chg (fun j => j = eb) w w1 := by rw [hw1]; ((repeat (refine chg_set ?_ ?hs; (case hs => first | rfl | assumption | exact Or.inl rfl | exact Or.inr rfl))); first | exact Chg.refl _ _ | exact chg_drewN)
  have hr1 : w1.ownsRow 0 5 1 m.out l.length (l.map B) := owns_chg hrow hc1 (fun j hj e => out_ne h hrow (by rw [hj, e]))
  have d9 : w1.cell? ⟨eb, 9, none⟩ = some (.int .i64 (n : Int)) := by rw [h1.c9]; show some (Value.int .i64 m.wanted) = _; rw [hw]
  have HW1 := hide hw1
  have HF := hide (fNumber_any n w1 (by omega))
  have H1 := hide h1
  have HC1 := hide hc1
  have HR1 := hide hr1
  have hlt1 := h1.lt
  clear h hrow h1 hc1 hr1 hw1
  go_enter Tryz.func130, Tryz.ntmps130
  go_upto_region 3 with fail
  rw [← HW1.out]
  clear c7 c8 c9 c10 f8 f9 f10
  go_wp2_with fail
  refine HF.out.mono ?_
  rintro e w2 ⟨rfl, hby, hlt2, hb2⟩
  have HB2 := hide hb2
  have HP := hide (en_put eb m.setd l 3 0 0 _ (four4 n) 4 w2 (H1.out.below hb2) hg (owns_chg HR1.out (Chg.of_below (S := fun _ => False) hb2) (fun _ _ => id)) hl (by omega) (by omega) (by omega) (by omega) (by omega) (by omega) (by simp [four4]) hby)
  clear hby hb2
  go_wp2_with fail
  refine HP.out.mono ?_
  rintro e w3 ⟨rfl, v, hp⟩
  have HPP := hide (hp.pre HC1.out HB2.out)
  clear hp
  go_wp2
  exact bodyPost_end (results_none rfl _ _ _) rfl ⟨rfl, v, HPP.out⟩
end Go.Proofs.YtiphkngfbpdeoaaGreatDoor
namespace Go.Proofs.YtiphkngfbpdeoaaGreatDoor
set_option linter.unusedVariables false
set_option linter.unusedSimpArgs false
open Go.RowKit
def MadeB (w w' : World) (eb : Nat) (m m' : EndM) (l : List UInt8) (new : List UInt8) (c : Bool) (e : Ending) : Prop :=
  e = .returned (.bool c) ∧ (if c then ∃ v, Put w w' eb m' l new v else Below w.heap.size w w')
section
variable (eb : Nat) (m : EndM) (l : List UInt8) (w : World)
set_option maxRecDepth 100000 in
set_option maxHeartbeats 800000 in
theorem makeFirst_any (n : Nat) (h : EnB w eb m) (hg : m.greets = false) (hw : m.wanted = (n : Int)) (hn : n ≤ 1000) (hrow : w.ownsRow 0 5 1 m.out l.length (l.map B)) (hl : l.length ≤ 1073741824) :
    Calls Tryz.prog 89 #[.pointer (some ⟨eb, 0, none⟩)] w fun e w' => MadeB w w' eb m m.setd l (lay 3 0 0 (four4 n)) (!m.told) e := by
  have c8 := h.c8
  have HP := hide (putSettings_any eb m n l w h hg hw hn hrow hl)
  clear h hg hw hrow
  cases ht : m.told with
  | true =>
    rw [ht] at c8
    go_enter Tryz.func89, Tryz.ntmps89
    go_wp2
    go_ret
    exact ⟨rfl, Below.refl _ _⟩
  | false =>
    rw [ht] at c8
    go_enter Tryz.func89, Tryz.ntmps89
    go_wp2_with fail
    refine HP.out.mono ?_
    rintro e w' ⟨rfl, hv⟩
    have HV := hide hv
    clear hv
    go_wp2
    go_ret
    exact ⟨rfl, HV.out⟩
set_option maxRecDepth 100000 in
set_option maxHeartbeats 800000 in
theorem makeSettings_any (n : Nat) (h : EnB w eb m) (hg : m.greets = false) (hw : m.wanted = (n : Int)) (hn : n ≤ 1000) (hrow : w.ownsRow 0 5 1 m.out l.length (l.map B)) (hl : l.length ≤ 1073741824) :
    Calls Tryz.prog 91 #[.pointer (some ⟨eb, 0, none⟩)] w fun e w' => MadeB w w' eb m m.setd l (lay 3 0 0 (four4 n)) (!(m.waits || m.wanted == m.made)) e := by
  have c7 := h.c7
  have c9 := h.c9
  have c10 := h.c10
  have HP : Hid (∀ nq, Calls Tryz.prog 130 #[.pointer (some ⟨eb, 0, none⟩)] (w.drewN nq) fun e w' => e = .returned (.tuple #[]) ∧ ∃ v, Put (w.drewN nq) w' eb m.setd l (lay 3 0 0 (four4 n)) v) := fun nq =>
    putSettings_any eb m n l _ (h.below (bel_drewN (Below.refl _ _))) hg hw hn hrow hl
  clear h hg hw hrow
  cases ht : m.waits <;> cases hq : (m.wanted == m.made) <;> rw [ht] at c10
  all_goals (go_enter Tryz.func91, Tryz.ntmps91; go_upto_region 1 with fail; go_quiet (fail))
  · go_wp2_with fail
    refine (HP.out _).mono ?_
    rintro e w' ⟨rfl, v, hv⟩
    have HV := hide (hv.pre (w := w) (Chg.of_below (bel_drewN (Below.refl _ _))) (Below.refl _ _))
    clear hv
    go_wp2
    go_ret
    exact ⟨rfl, v, HV.out⟩
  all_goals (go_wp2; go_ret; exact ⟨rfl, bel_drewN (Below.refl _ _)⟩)
theorem putCredit_any (b o : Nat) (s : Int) (r : Int) (n : Nat) (m' : EndM) (w1 : World) (hw1 : w1 = (w.setCell ⟨b, o + 1, none⟩ (.int .i64 (r + n))).setCell ⟨b, o + 2, none⟩ (.int .i64 0)) (h : EnB w1 eb m') (hg : m'.greets = false) (hr1 : w.cell? ⟨b, o + 1, none⟩ = some (.int .i64 r)) (hr2 : w.cell? ⟨b, o + 2, none⟩ = some (.int .i64 n)) (hf : ∀ i, w.frozen? ⟨b, i, none⟩ = false) (hb1 : -1152921504606846976 ≤ r) (hb2 : r ≤ 1152921504606846976) (hn : n ≤ 4294967295) (hs0 : 0 ≤ s) (hs1 : s ≤ 32767)
    (hrow : w1.ownsRow 0 5 1 m'.out l.length (l.map B)) (hl : l.length ≤ 1073741824) :
    Calls Tryz.prog 134 #[.pointer (some ⟨eb, 0, none⟩), .int .i64 s, .pointer (some ⟨b, o, none⟩)] w fun e w' => e = .returned (.tuple #[]) ∧ ∃ v, Put w1 w' eb m' l (lay 6 0 s (four4 n)) v := by
  have HG := hide (grant_any b o r n w hr1 hr2 hf hb1 hb2 (by omega) (by omega))
  have HF := hide (fNumber_any n w1 (by omega))
  have H := hide h
  have HROW := hide hrow
  have HW1 := hide hw1
  clear hr1 hr2 hf h hrow hw1
  go_enter Tryz.func134, Tryz.ntmps134
  go_wp2_with fail
  refine HG.out.mono ?_
  rintro e w' ⟨rfl, hw'⟩
  rw [hw', ← HW1.out]
  clear hw' w'
  go_wp2_with fail
  refine HF.out.mono ?_
  rintro e w2 ⟨rfl, hby, hlt2, hb2⟩
  have HB2 := hide hb2
  have HP := hide (en_put eb m' l 6 0 s _ (four4 n) 4 w2 (H.out.below hb2) hg (owns_chg HROW.out (Chg.of_below (S := fun _ => False) hb2) (fun _ _ => id)) hl (by omega) (by omega) (by omega) (by omega) hs0 hs1 (by simp [four4]) hby)
  clear hby hb2
  go_wp2_with fail
  refine HP.out.mono ?_
  rintro e w3 ⟨rfl, v, hp⟩
  have HPP := hide (hp.pre (w := w1) (Chg.refl _ _) HB2.out)
  clear hp
  go_wp2
  exact bodyPost_end (results_none rfl _ _ _) rfl ⟨rfl, v, HPP.out⟩
def EndM.granted (m : EndM) : EndM := { m with receive := m.receive + m.owed, owed := 0 }
set_option maxRecDepth 100000 in
set_option maxHeartbeats 800000 in
theorem makeCredit_any (n : Nat) (h : EnB w eb m) (hg : m.greets = false) (ho : m.owed = (n : Int)) (hn : n ≤ 4294967295) (hb1 : -1152921504606846976 ≤ m.receive) (hb2 : m.receive ≤ 1152921504606846976) (hrow : w.ownsRow 0 5 1 m.out l.length (l.map B)) (hl : l.length ≤ 1073741824) :
    Calls Tryz.prog 93 #[.pointer (some ⟨eb, 0, none⟩)] w fun e w' => MadeB w w' eb m m.granted l (lay 6 0 0 (four4 n)) (dueB m.owed m.receive m.batch) e := by
  have c3 := h.c3
  have c5 := h.c5
  have c6 := h.c6
  have HP : Hid (∀ wx, Below w.heap.size w wx → Calls Tryz.prog 134 #[.pointer (some ⟨eb, 0, none⟩), .int .i64 0, .pointer (some ⟨eb, 4, none⟩)] wx fun e w' => e = .returned (.tuple #[]) ∧ ∃ v, Put w w' eb m.granted l (lay 6 0 0 (four4 n)) v) := fun wx hbx => by
    have hd : EnB wx eb m := h.below hbx
    have hc : Chg (fun j => j = eb) w ((wx.setCell ⟨eb, 4 + 1, none⟩ (.int .i64 (m.receive + n))).setCell ⟨eb, 4 + 2, none⟩ (.int .i64 0)) := chg_set (chg_set (Chg.of_below hbx) rfl) rfl
    refine (putCredit_any eb l wx eb 4 0 m.receive n m.granted _ rfl (EnB.of (blk_set (blk_set hd.blk)) ?_) hg hd.c5 (by rw [hd.c6, ho]) hd.fr hb1 hb2 hn (by omega) (by omega) (owns_chg hrow hc (fun j hj e => out_ne h hrow (by rw [show m.out.ownBlock = some j from hj, e]))) hl).mono ?_
    · unfold EndM.granted; rw [← ho]; rfl
    · rintro e w' ⟨rfl, v, hv⟩
      exact ⟨rfl, v, hv.pre hc (Below.refl _ _)⟩
  have hlt := h.lt
  clear h hg ho hrow hb1 hb2
  obtain ⟨D, hD⟩ : ∃ D, D = dueB m.owed m.receive m.batch := ⟨_, rfl⟩
  have HD := hide (isDue_any m.owed m.receive m.batch)
  rw [← hD] at HD ⊢
  clear hD
  go_enter Tryz.func93, Tryz.ntmps93
  go_upto_region 1 with fail
  go_cut [18] (fun s18 wx => s18 = .bool (!D) ∧ Below w.heap.size w wx)
  case first =>
    go_region_held3 (fun w' => w'.cell? ⟨eb, 3, none⟩ = some (.int .i64 m.batch) ∧ w'.cell? ⟨eb, 5, none⟩ = some (.int .i64 m.receive) ∧ w'.cell? ⟨eb, 6, none⟩ = some (.int .i64 m.owed)) (go_keep)
      (first | (go_at_call 133; refine (HD.out _).mono ?_; rintro e w' ⟨rfl, rfl⟩))
    all_goals (go_wp2_with fail; go_meet; exact ⟨rfl, ⟨rfl, rfl, rfl, Nat.le_refl _, fun _ _ => rfl⟩⟩)
  case rest =>
    obtain ⟨rfl, hbx⟩ := hcut
    have HX := hide hbx
    clear hbx
    cases D with
    | false =>
      go_wp2
      go_ret
      exact ⟨rfl, HX.out⟩
    | true =>
      go_wp2_with fail
      refine (HP.out _ HX.out).mono ?_
      rintro e w' ⟨rfl, v, hv⟩
      have HV := hide hv
      clear hv
      go_wp2
      go_ret
      exact ⟨rfl, v, HV.out⟩
set_option maxRecDepth 100000 in
set_option maxHeartbeats 800000 in
theorem makePing_any (h : EnB w eb m) (hg : m.greets = false) (hn : m.pnum < 4294967296) (hrow : w.ownsRow 0 5 1 m.out l.length (l.map B)) (hl : l.length ≤ 1073741824) :
    Calls Tryz.prog 92 #[.pointer (some ⟨eb, 0, none⟩)] w fun e w' => MadeB w w' eb m m.pingd l (lay 4 0 0 (four4 m.pnum)) (m.under && !m.pinged) e := by
  have c2 := h.c2
  have HT : Hid (∀ wx, Below w.heap.size w wx → Calls Tryz.prog 131 #[.pointer (some ⟨eb, 13, none⟩), .int .i64 m.clock] wx fun e w' => (if m.under && !m.pinged then e = .returned (.tuple #[.int .u32 m.pnum, .bool true]) ∧ EnB w' eb m.pingd ∧ Chg (fun j => j = eb) wx w' else e = .returned (.tuple #[.int .u32 0, .bool false]) ∧ w' = wx)) := fun wx hbx => tping_any eb m wx (h.below hbx)
  have hlt := h.lt
  have HR := hide hrow
  have HNE := hide (out_ne h hrow)
  clear h hrow
  obtain ⟨N, hN⟩ : ∃ N, N = m.pnum := ⟨_, rfl⟩
  rw [← hN] at HT hn ⊢
  clear hN
  cases hc : (m.under && !m.pinged) with
  | false =>
    rw [hc] at HT
    simp only [Bool.false_eq_true, if_false] at HT
    go_enter Tryz.func92, Tryz.ntmps92
    go_upto_region 1 with fail
    go_cut [3, 4] (fun s3 s4 wx => s4 = .bool false ∧ Below w.heap.size w wx)
    case first =>
      go_region_held3 (fun w' => w'.cell? ⟨eb, 2, none⟩ = some (.int .i64 m.clock)) (go_keep)
        (first | (go_at_call 131; refine (HT.out w.drew ⟨rfl, rfl, rfl, Nat.le_refl _, fun _ _ => rfl⟩).mono ?_; rintro e w' ⟨rfl, rfl⟩))
      all_goals (go_wp2_with fail; go_meet; exact ⟨rfl, ⟨rfl, rfl, rfl, Nat.le_refl _, fun _ _ => rfl⟩⟩)
    case rest =>
      obtain ⟨rfl, hbx⟩ := hcut
      have HX := hide hbx
      clear hbx
      go_wp2
      go_ret
      exact ⟨rfl, HX.out⟩
  | true =>
    rw [hc] at HT
    simp only [if_true] at HT
    go_enter Tryz.func92, Tryz.ntmps92
    go_upto_region 1 with fail
    go_cut [3, 4] (fun s3 s4 wx => s3 = .int .u32 N ∧ s4 = .bool true ∧ EnB wx eb m.pingd ∧ Chg (fun j => j = eb) w wx)
    case first =>
      go_region_law (refine step_call rfl 131 Tryz.f131 Tryz.func131 (by kernel_rfl) rfl [.tmp 8, .tmp 12] #[72, 3] rfl [.pointer (some ⟨eb, 13, none⟩), .int .i64 m.clock] (by simp [Act.eval, Act.put]) (HT.out w.drew ⟨rfl, rfl, rfl, Nat.le_refl _, fun _ _ => rfl⟩) ?_; rintro e w2 ⟨rfl, hE, hC⟩; refine ⟨_, rfl, ?_⟩; have HE := hide hE; have HC : Hid (Chg (fun j => j = eb) w w2) := (⟨hC.os, hC.tape, hC.output, hC.size, hC.block⟩ : Chg (fun j => j = eb) w w2); clear hE hC)
      all_goals (go_wp2_with fail; go_meet; exact ⟨rfl, rfl, HE.out, HC.out⟩)
    case rest =>
      obtain ⟨rfl, rfl, hE, hC⟩ := hcut
      obtain ⟨w2, hw2⟩ : ∃ w2, w2 = wc := ⟨wc, rfl⟩
      subst hw2
      have HF := hide (fNumber_any N w2 hn)
      have HE := hide hE
      have HC := hide hC
      clear hE hC
      go_wp2_with fail
      refine HF.out.mono ?_
      rintro e w3 ⟨rfl, hby, hlt3, hb3⟩
      have HB3 := hide hb3
      have HP := hide (en_put eb m.pingd l 4 0 0 _ (four4 N) 4 w3 (HE.out.below hb3) hg (owns_chg (owns_chg HR.out HC.out (fun j hj e => HNE.out (by rw [show m.out.ownBlock = some j from hj, e]))) (Chg.of_below (S := fun _ => False) hb3) (fun _ _ => id)) hl (by omega) (by omega) (by omega) (by omega) (by omega) (by omega) (by simp [four4]) hby)
      clear hby hb3
      go_wp2_with fail
      refine HP.out.mono ?_
      rintro e w4 ⟨rfl, v, hp⟩
      have HPP := hide (hp.pre HC.out HB3.out)
      clear hp
      go_wp2
      go_ret
      exact ⟨rfl, v, HPP.out⟩
end
end Go.Proofs.YtiphkngfbpdeoaaGreatDoor
namespace Go.Proofs.YtiphkngfbpdeoaaGreatDoor
set_option linter.unusedVariables false
set_option linter.unusedSimpArgs false
open Go.RowKit
abbrev Str := Nat × StM
def opnCells (L : List Str) : List Value := L.map fun p => .pointer (some ⟨p.1, 0, none⟩)
theorem opnCells_length (L : List Str) : (opnCells L).length = L.length := by simp [opnCells]
structure OpenS (w : World) (v : Value) (L : List Str) : Prop where
  row : w.ownsRow 0 118 1 v L.length (opnCells L)
  st : ∀ p ∈ L, StB w p.1 p.2
theorem OpenS.below {w w' : World} {v : Value} {L : List Str} (h : OpenS w v L) (hb : Below w.heap.size w w') : OpenS w' v L := ⟨owns_chg h.row (Chg.of_below (S := fun _ => False) hb) (fun _ _ => id), fun p hp => (h.st p hp).below hb⟩
theorem OpenS.at {w : World} {v : Value} {L : List Str} (h : OpenS w v L) {k : Nat} (hk : k < L.length) : ∃ g c, v = .slice (some ⟨g, 0, none⟩) L.length c ∧ w.cell? ⟨g, k, none⟩ = some (.pointer (some ⟨L[k].1, 0, none⟩)) ∧ L.length ≤ c := by
  obtain ⟨sr, cr, hv⟩ := slice_len h.row
  subst hv
  obtain ⟨gr, hgr, hcr⟩ := slice_some h.row (by omega)
  subst hgr
  refine ⟨gr, cr, rfl, ?_, ?_⟩
  · rw [h.row.cellAt _ (by omega)]
    simp [opnCells, hk]
  · exact hcr
def StM.some? (s : StM) (n : Nat) : Prop := ∃ sa ca, s.waiting = .slice sa n ca
def EndM.hasD (m : EndM) (s : StM) (n : Nat) : Bool := if !s.announced || s.sentAll then false else if n = 0 then s.shut else decide (1 ≤ m.other + s.send) && decide (1 ≤ m.send)
set_option maxRecDepth 100000 in
set_option maxHeartbeats 800000 in
theorem hasData_any (eb sb : Nat) (m : EndM) (s : StM) (n : Nat) (w : World) (h : EnB w eb m) (hs : StB w sb s) (hn : s.some? n) (h1 : -1152921504606846976 ≤ m.other) (h2 : m.other ≤ 1152921504606846976) (h3 : -1152921504606846976 ≤ s.send) (h4 : s.send ≤ 1152921504606846976) :
    Calls Tryz.prog 153 #[.pointer (some ⟨eb, 0, none⟩), .pointer (some ⟨sb, 0, none⟩)] w fun e w' => e = .returned (.bool (m.hasD s n)) ∧ Below w.heap.size w w' := by
  obtain ⟨sa, ca, hw⟩ := hn
  have c4 := h.c4
  have s6 := hs.c6
  have s7 := hs.c7
  have s8 := hs.c8
  have s12 := hs.c12
  rw [hw] at s12
  have HS := hide (sendWindow_any eb sb m s w h hs h1 h2 h3 h4)
  have hlt := h.lt
  have H := hide h
  clear h hs hw
  unfold EndM.hasD
  cases ha : s.announced <;> cases hl : s.sentAll <;> rw [ha] at s7 <;> rw [hl] at s8
  case true.false =>
    by_cases hz : n = 0
    · subst hz
      go_enter Tryz.func153, Tryz.ntmps153
      go_wp2
      go_ret
      exact ⟨by simp, Below.refl _ _⟩
    · have hz0 : ((n : Int) == 0) = false := by rw [beq_eq_false_iff_ne]; omega
      go_enter Tryz.func153, Tryz.ntmps153
      go_wp2_with fail
      refine HS.out.mono ?_
      rintro e w1 ⟨rfl, hb1⟩
      have d4 : w1.cell? ⟨eb, 4, none⟩ = some (.int .i64 m.send) := (H.out.below hb1).c4
      have HB := hide hb1
      clear hb1
      by_cases hq : 1 ≤ m.other + s.send
      all_goals (go_wp2; go_ret; exact ⟨by first | (simp [hz, hq]; done) | (simp [hz]; omega), HB.out⟩)
  all_goals (go_enter Tryz.func153, Tryz.ntmps153; go_wp2; go_ret; exact ⟨by simp, Below.refl _ _⟩)
set_option maxRecDepth 100000 in
set_option maxHeartbeats 800000 in
theorem makeHeaders_no (eb : Nat) (m : EndM) (L : List Str) (w : World) (h : EnB w eb m) (ho : OpenS w m.opn L) (hL : L.length ≤ 1048576) (ha : ∀ p ∈ L, p.2.announced = true) :
    Calls Tryz.prog 96 #[.pointer (some ⟨eb, 0, none⟩)] w fun e w' => e = .returned (.bool false) ∧ Below w.heap.size w w' := by
  obtain ⟨sr, cr, hv⟩ := slice_len ho.row
  have c23 := h.c23
  rw [hv] at c23
  rw [hv] at ho
  have HO := hide ho
  have HA := hide ha
  clear h ho ha hv
  go_enter Tryz.func96, Tryz.ntmps96
  go_wp2
  go_loopw [11] (fun i wr => ∃ k : Nat, i = .int .i64 (k : Int) ∧ k ≤ L.length ∧ wr = w) (fun i _ => L.length - (intOf i).toNat)
  case atStart => exact ⟨0, rfl, Nat.zero_le _, rfl⟩
  case round =>
    obtain ⟨k, rfl, hk, rfl⟩ := hrel
    by_cases hlt : k < L.length
    · obtain ⟨g, c, hv, hcell, hcap⟩ := HO.out.at hlt
      simp only [Value.slice.injEq] at hv
      obtain ⟨rfl, _, rfl⟩ := hv
      have hm := List.getElem_mem hlt
      have s7 := (HO.out.st _ hm).c7
      rw [HA.out _ hm] at s7
      generalize L[k].1 = sb at hcell s7
      clear hm
      go_wp2
      all_goals go_roundw
      case rel => exact ⟨k + 1, by go_num, by omega, trivial⟩
      case measure => simp [intOf]; omega
    · have hke : k = L.length := by omega
      go_wp2
      go_ret
      exact ⟨rfl, Below.refl _ _⟩
def EndM.opensN (m : EndM) (n : Int) : Bool := (n.tmod 2 == 1) == m.first
def EndM.hereN (m : EndM) (L : List Str) : Nat := L.countP fun p => m.opensN p.2.number
theorem hereN_take {m : EndM} {L : List Str} {k : Nat} (h : k < L.length) : m.hereN (L.take (k + 1)) = m.hereN (L.take k) + (if m.opensN L[k].2.number then 1 else 0) := by
  unfold EndM.hereN
  rw [List.take_succ_eq_append_getElem h, List.countP_append]
  simp [List.countP_cons]
set_option maxRecDepth 100000 in
set_option maxHeartbeats 800000 in
theorem openHere_any (eb : Nat) (m : EndM) (L : List Str) (w : World) (h : EnB w eb m) (ho : OpenS w m.opn L) (hL : L.length ≤ 1048576) :
    Calls Tryz.prog 69 #[.pointer (some ⟨eb, 0, none⟩)] w fun e w' => e = .returned (.int .i64 (m.hereN L)) ∧ w' = w := by
  obtain ⟨sr, cr, hv⟩ := slice_len ho.row
  have c23 := h.c23
  rw [hv] at c23
  rw [hv] at ho
  have HO := hide ho
  have HOP : Hid (∀ n, Calls Tryz.prog 100 #[.pointer (some ⟨eb, 0, none⟩), .int .i64 n] w fun e w' => e = .returned (.bool (m.opensN n)) ∧ w' = w) := fun n => opens_any eb m n w h
  clear h ho hv
  go_enter Tryz.func69, Tryz.ntmps69
  go_wp2
  go_loopw [2, 11] (fun a i wr => ∃ k : Nat, i = .int .i64 (k : Int) ∧ a = .int .i64 (m.hereN (L.take k)) ∧ k ≤ L.length ∧ wr = w) (fun _ i _ => L.length - (intOf i).toNat)
  case atStart => exact ⟨0, rfl, rfl, Nat.zero_le _, rfl⟩
  case round =>
    obtain ⟨k, rfl, rfl, hk, rfl⟩ := hrel
    have hle : m.hereN (L.take k) ≤ 1048576 := by
      have h1 : m.hereN (L.take k) ≤ (L.take k).length := List.countP_le_length
      have h2 : (L.take k).length ≤ k := by simp; omega
      omega
    by_cases hlt : k < L.length
    · obtain ⟨g, c, hv, hcell, hcap⟩ := HO.out.at hlt
      simp only [Value.slice.injEq] at hv
      obtain ⟨rfl, _, rfl⟩ := hv
      have s3 := (HO.out.st _ (List.getElem_mem hlt)).c3
      have hnx := hereN_take (m := m) hlt
      have HC2 := hide (HOP.out L[k].2.number)
      obtain ⟨ob, hob⟩ : ∃ ob, ob = m.opensN L[k].2.number := ⟨_, rfl⟩
      rw [← hob] at hnx HC2
      clear hob
      generalize L[k].2.number = nn at s3 HC2
      generalize L[k].1 = sb at hcell s3
      obtain ⟨a0, ha0⟩ : ∃ a0, a0 = m.hereN (L.take k) := ⟨_, rfl⟩
      rw [← ha0] at hnx hle ⊢
      clear ha0
      have HNX := hide hnx
      clear hnx
      go_wp2_with fail
      refine HC2.out.mono ?_
      rintro e w' ⟨rfl, hw'⟩
      rw [hw']
      clear hw' w'
      cases ob with
      | false =>
        go_wp2
        all_goals go_roundw
        case rel => exact ⟨k + 1, by go_num, by rw [HNX.out]; simp, by omega, trivial⟩
        case measure => simp [intOf]; omega
      | true =>
        go_wp2
        all_goals go_roundw
        case rel => exact ⟨k + 1, by go_num, by rw [HNX.out]; simp, by omega, trivial⟩
        case measure => simp [intOf]; omega
    · have hke : k = L.length := by omega
      subst hke
      rw [List.take_length]
      go_wp2
      go_ret
      exact ⟨rfl, rfl⟩
def nextS (ld : Int) (hd : Str → Bool) : List Str → Option Nat → Option Nat
  | [], b => b
  | p :: r, b => if hd p then if ld < p.2.number then some p.1 else nextS ld hd r (b.or (some p.1)) else nextS ld hd r b
def ptrO (o : Option Nat) : Value := .pointer (o.map fun b => ⟨b, 0, none⟩)
set_option maxRecDepth 100000 in
set_option maxHeartbeats 1600000 in
theorem nextToSend_any (eb : Nat) (m : EndM) (L : List Str) (nw : Str → Nat) (w : World) (h : EnB w eb m) (ho : OpenS w m.opn L) (hL : L.length ≤ 1048576) (hnw : ∀ p ∈ L, p.2.some? (nw p)) (h1 : -1152921504606846976 ≤ m.other) (h2 : m.other ≤ 1152921504606846976) (h3 : ∀ p ∈ L, -1152921504606846976 ≤ p.2.send ∧ p.2.send ≤ 1152921504606846976) :
    Calls Tryz.prog 136 #[.pointer (some ⟨eb, 0, none⟩)] w fun e w' => e = .returned (ptrO (nextS m.lastData (fun p => m.hasD p.2 (nw p)) L none)) ∧ Below w.heap.size w w' := by
  obtain ⟨sr, cr, hv⟩ := slice_len ho.row
  have c23 := h.c23
  rw [hv] at c23
  rw [hv] at ho
  have HO := hide ho
  have HHD : Hid (∀ wx, Below w.heap.size w wx → ∀ p ∈ L, Calls Tryz.prog 153 #[.pointer (some ⟨eb, 0, none⟩), .pointer (some ⟨p.1, 0, none⟩)] wx fun e w' => e = .returned (.bool (m.hasD p.2 (nw p))) ∧ Below wx.heap.size wx w') := fun wx hb p hp => hasData_any eb p.1 m p.2 (nw p) wx (h.below hb) ((ho.st p hp).below hb) (hnw p hp) h1 h2 (h3 p hp).1 (h3 p hp).2
  have H := hide h
  have hlt := h.lt
  clear h ho hv hnw h3
  generalize hR : nextS m.lastData (fun p => m.hasD p.2 (nw p)) L none = R
  have HR := hide hR
  clear hR
  go_enter Tryz.func136, Tryz.ntmps136
  go_wp2
  go_loopw [3, 12] (fun a i wr => ∃ (k : Nat) (b : Option Nat), i = .int .i64 (k : Int) ∧ a = ptrO b ∧ k ≤ L.length ∧ Below w.heap.size w wr ∧ nextS m.lastData (fun p => m.hasD p.2 (nw p)) (L.drop k) b = R) (fun _ i _ => L.length - (intOf i).toNat)
  case atStart => exact ⟨0, none, rfl, rfl, Nat.zero_le _, Below.refl _ _, HR.out⟩
  case round =>
    obtain ⟨k, b, rfl, rfl, hk, hbel, hnx⟩ := hrel
    by_cases hlk : k < L.length
    · obtain ⟨g, c, hv, hcell, hcap⟩ := (HO.out.below hbel).at hlk
      simp only [Value.slice.injEq] at hv
      obtain ⟨rfl, _, rfl⟩ := hv
      have hm := List.getElem_mem hlk
      rw [List.drop_eq_getElem_cons hlk, nextS] at hnx
      have HC := hide (HHD.out _ hbel _ hm)
      have HST := hide ((HO.out.st _ hm).below hbel)
      obtain ⟨hd, hhd⟩ : ∃ hd, hd = m.hasD L[k].2 (nw L[k]) := ⟨_, rfl⟩
      rw [← hhd] at hnx HC
      clear hhd hm
      obtain ⟨nn, hnn⟩ : ∃ nn, nn = L[k].2.number := ⟨_, rfl⟩
      rw [← hnn] at hnx
      have HNN := hide hnn
      generalize hsb : L[k] = p at hnx HC HST hcell hnn HNN
      obtain ⟨sb, st⟩ := p
      simp only at hnx HC HST hcell
      have HNX := hide hnx
      have HBE := hide hbel
      clear hnx hsb hnn hbel
      go_wp2_with fail
      refine HC.out.mono ?_
      rintro e w1 ⟨rfl, hb1⟩
      have s3 : w1.cell? ⟨sb, 3, none⟩ = some (.int .i64 nn) := by rw [(HST.out.below hb1).c3, HNN.out]
      have hB := HBE.out.trans (hb1.mono HBE.out.size)
      have c45 := (H.out.below hB).c45
      have HB := hide hB
      clear hb1 hB HC
      cases hd with
      | false =>
        go_wp2
        all_goals go_roundw
        case rel => exact ⟨k + 1, b, by go_num, rfl, by omega, HB.out, by simpa using HNX.out⟩
        case measure => simp [intOf]; omega
      | true =>
        have hnx2 := HNX.out
        simp only [if_true] at hnx2
        by_cases hgt : m.lastData < nn
        · rw [if_pos hgt] at hnx2
          go_wp2
          go_quiet (fail)
          go_wp2
          go_ret
          exact ⟨by rw [← hnx2]; rfl, bel_drewN HB.out⟩
        · rw [if_neg hgt] at hnx2
          have HNX2 := hide hnx2
          clear hnx2
          cases b with
          | none =>
            simp only [ptrO, Option.map_none]
            go_wp2
            go_quiet (fail)
            go_wp2
            all_goals go_roundw
            case rel => exact ⟨k + 1, some sb, by go_num, rfl, by omega, bel_drewN HB.out, HNX2.out⟩
            case measure => simp [intOf]; omega
          | some b0 =>
            simp only [ptrO, Option.map_some]
            go_wp2
            go_quiet (fail)
            go_wp2
            all_goals go_roundw
            case rel => exact ⟨k + 1, some b0, by go_num, rfl, by omega, bel_drewN HB.out, HNX2.out⟩
            case measure => simp [intOf]; omega
    · have hke : k = L.length := by omega
      rw [List.drop_of_length_le (by omega), nextS] at hnx
      have HNX := hide hnx
      have HBE := hide hbel
      clear hnx hbel
      go_wp2
      go_ret
      exact ⟨by rw [HNX.out]; rfl, HBE.out⟩
end Go.Proofs.YtiphkngfbpdeoaaGreatDoor
namespace Go.Proofs.YtiphkngfbpdeoaaGreatDoor
set_option linter.unusedVariables false
set_option linter.unusedSimpArgs false
open Go.RowKit
theorem Tryz.size121 : (Tryz.prog.info? 121).map (fun i => i.size) = some 13 := by kernel_rfl
theorem eql_str {w : World} {q sb : Nat} {s1 s2 : StM} (h1 : StB w q s1) (h2 : StB w sb s2) : (binOp .eql 118 (.pointer (some ⟨q, 0, none⟩)) (.pointer (some ⟨sb, 0, none⟩))).run Tryz.prog w = .ok (.bool (q == sb)) w := by
  have hz := Tryz.size121
  cases hi : Tryz.prog.info? 121 with
  | none => rw [hi] at hz; simp at hz
  | some j =>
    rw [hi] at hz
    simp only [Option.map_some, Option.some.injEq] at hz
    by_cases hq : q = sb
    · subst hq
      rw [run_eql_ptr_same w ⟨q, 0, none⟩ Tryz.underlying118 hi]
      simp
    · rw [run_eql_ptr_other w (a := ⟨q, 0, none⟩) (b := ⟨sb, 0, none⟩) Tryz.underlying118 hi (by omega) (fun e => hq (by injection e)) h1.blk h2.blk]
      simp [hq]
set_option maxRecDepth 100000 in
set_option maxHeartbeats 400000 in
theorem settle1_any (q bx sb : Nat) (s1 s2 : StM) (w : World) (h : w.cell? ⟨bx, 0, none⟩ = some (.pointer (some ⟨sb, 0, none⟩))) (h1 : StB w q s1) (h2 : StB w sb s2) : Calls Tryz.prog 109 #[.pointer (some ⟨q, 0, none⟩), .pointer (some ⟨bx, 0, none⟩)] w fun e w' => e = .returned (.bool (q == sb)) ∧ w' = w := by
  have he := eql_str h1 h2
  clear h1 h2
  go_enter Tryz.func109, Tryz.ntmps109
  go_wp2
  go_ret
  exact ⟨rfl, rfl⟩
def idxS (sb : Nat) (L : List Str) (k : Nat) : Int := match (L.drop k).findIdx? (fun p => p.1 == sb) with
  | some i => ((k + i : Nat) : Int)
  | none => -1
theorem idxS_hit {sb : Nat} {L : List Str} {k : Nat} (h : k < L.length) (he : (L[k].1 == sb) = true) : idxS sb L k = k := by
  unfold idxS
  rw [List.drop_eq_getElem_cons h, List.findIdx?_cons, he]
  simp
theorem idxS_miss {sb : Nat} {L : List Str} {k : Nat} (h : k < L.length) (he : (L[k].1 == sb) = false) : idxS sb L k = idxS sb L (k + 1) := by
  unfold idxS
  rw [List.drop_eq_getElem_cons h, List.findIdx?_cons, he]
  cases hx : (L.drop (k + 1)).findIdx? (fun p => p.1 == sb) with
  | none => simp
  | some i => simp; omega
theorem idxS_end {sb : Nat} {L : List Str} {k : Nat} (h : L.length ≤ k) : idxS sb L k = -1 := by
  unfold idxS
  rw [List.drop_of_length_le h]
  rfl
set_option maxRecDepth 100000 in
set_option maxHeartbeats 800000 in
theorem indexFuncS_any (v : Value) (L : List Str) (bx sb : Nat) (w : World) (ho : w.ownsRow 0 118 1 v L.length (opnCells L)) (hst : ∀ p ∈ L, StB w p.1 p.2) (s2 : StM) (hs2 : StB w sb s2) (hx : w.cell? ⟨bx, 0, none⟩ = some (.pointer (some ⟨sb, 0, none⟩))) (hL : L.length ≤ 1048576) :
    Calls Tryz.prog 144 #[v, .func (.func 109) #[] #[.pointer (some ⟨bx, 0, none⟩)]] w fun e w' => e = .returned (.int .i64 (idxS sb L 0)) ∧ w' = w := by
  obtain ⟨sr, cr, hv⟩ := slice_len ho
  subst hv
  have HC : Hid (∀ p ∈ L, Calls Tryz.prog 109 #[.pointer (some ⟨p.1, 0, none⟩), .pointer (some ⟨bx, 0, none⟩)] w fun e w' => e = .returned (.bool (p.1 == sb)) ∧ w' = w) := fun p hp => settle1_any p.1 bx sb p.2 s2 w hx (hst p hp) hs2
  have HO := hide ho
  clear ho hx hst hs2
  generalize hR : idxS sb L 0 = R
  have HR := hide hR
  clear hR
  go_enter Tryz.func144, Tryz.ntmps144
  go_wp2
  go_loopw [8] (fun i wr => ∃ (k : Nat) (wv : World), wv = wr ∧ i = .int .i64 (k : Int) ∧ k ≤ L.length ∧ wv = w ∧ idxS sb L k = R) (fun i _ => L.length - (intOf i).toNat)
  case atStart => exact ⟨0, _, rfl, rfl, Nat.zero_le _, rfl, HR.out⟩
  case round =>
    obtain ⟨k, wv, hwv, rfl, hk, hww, hnx⟩ := hrel
    subst hwv
    subst hww
    by_cases hlk : k < L.length
    · obtain ⟨gr, hgr, hcr⟩ := slice_some HO.out (by omega)
      subst hgr
      have hcell : wv.cell? ⟨gr, k, none⟩ = some (.pointer (some ⟨L[k].1, 0, none⟩)) := by
        rw [HO.out.cellAt _ (by omega)]
        simp [opnCells, hlk]
      have HN := hide hnx
      have HCK := hide (HC.out L[k] (List.getElem_mem hlk))
      obtain ⟨hb, hhb⟩ : ∃ hb, hb = (L[k].1 == sb) := ⟨_, rfl⟩
      rw [← hhb] at HCK
      have HHB := hide hhb
      clear hnx hhb
      go_wp2_with fail
      refine HCK.out.mono ?_
      rintro e w' ⟨rfl, hw'⟩
      rw [hw']
      clear hw' w'
      cases hb with
      | true =>
        have hres := idxS_hit hlk HHB.out.symm
        rw [HN.out] at hres
        have HRES := hide hres
        clear hres
        go_wp2
        go_ret
        exact ⟨by rw [HRES.out]; rfl, rfl⟩
      | false =>
        go_wp2
        all_goals go_roundw
        case rel => exact ⟨k + 1, _, rfl, by go_num, by omega, rfl, by rw [← idxS_miss hlk HHB.out.symm]; exact HN.out⟩
        case measure => simp [intOf]; omega
    · rw [idxS_end (by omega)] at hnx
      have HN := hide hnx
      clear hnx
      go_wp2
      go_ret
      exact ⟨by rw [← HN.out]; rfl, rfl⟩
end Go.Proofs.YtiphkngfbpdeoaaGreatDoor
