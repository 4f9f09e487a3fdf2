import Derived.Test.YtjccnikmcoidhaaLay
set_option linter.unusedVariables false
set_option linter.unusedSimpArgs false
/-
  sluice.Write.
-/
namespace Go.Proofs.Ytjccnikmcoidhaa
open Go.RowKit

/-- Is the frame right? -/
def wOk (k f s : Int) (body : List UInt8) : Bool := fitsB k f s body.length && decide ((feed [] (lay k f s body)).2.code = 0)

theorem fits_bounds {k f s : Int} {n : Nat} (h : fitsB k f s n = true) : 0 ≤ k ∧ k ≤ 255 ∧ 0 ≤ f ∧ f ≤ 255 ∧ 0 ≤ s ∧ s ≤ 32767 ∧ n ≤ 64 := by
  simp only [fitsB, inB, Bool.and_eq_true, decide_eq_true_eq] at h
  omega

/-- A new reader. -/
theorem rd_new (w : World) : RdT (w.alloc (.cells #[.slice none 0 0, .int .i64 0, .int .i64 0, .int .i64 0, .int .i64 0, .int .i64 0] 56)) w.heap.size (.slice none 0 0) ⟨[], 0⟩ :=
  Or.inl ⟨rfl, got_nil, World.ownsRow_nil _ _ _ _, 0, 0, 0, 0, heap_alloc_new w _, fun h => by simp at h⟩

/-- The end of Write. -/
def Wrote (w w' : World) (k f s : Int) (body : List UInt8) (e : Ending) : Prop :=
  ∃ v, e = .returned (.tuple #[v, .int .i64 (if wOk k f s body then 0 else 1)]) ∧ w'.ownsRow w.heap.size 5 1 v (if wOk k f s body then lay k f s body else []).length ((if wOk k f s body then lay k f s body else []).map B) ∧
    (wOk k f s body = false → v = .slice none 0 0) ∧ Below w.heap.size w w'

theorem wrote_bad {w w' : World} {k f s : Int} {body : List UInt8} (h : wOk k f s body = false) (hb : Below w.heap.size w w') : Wrote w w' k f s body (.returned (.tuple #[.slice none 0 0, .int .i64 1])) := by
  refine ⟨.slice none 0 0, by rw [h]; rfl, ?_, fun _ => rfl, hb⟩
  rw [h]
  exact World.ownsRow_nil _ _ _ _

set_option maxRecDepth 100000 in
set_option maxHeartbeats 800000 in
theorem write_unfit (k f s : Int) (sa : Option Addr) (body : List UInt8) (cap : Nat) (w : World) (hfit : fitsB k f s body.length = false) :
    Calls Try.prog 10 #[.agg #[.int .i64 k, .int .i64 f, .int .i64 s, .slice sa body.length cap]] w fun e w' => Wrote w w' k f s body e := by
  have hno : Hid (wOk k f s body = false) := by show _ = _; simp [wOk, hfit]
  have HF : Hid (fitsB k f s body.length = false) := hfit
  clear hfit
  go_enter Try.func10, Try.ntmps10
  go_wp2_with (go_at_call 16; refine (fits_any k f s sa body.length cap _).mono ?_; rintro e w1 ⟨he, hb1⟩; rw [HF.out] at he; subst he)
  go_ret2
  exact wrote_bad hno.out (((Below.refl _ _).alloc (Nat.le_refl _) _).trans (hb1.mono (by simp)))

set_option maxRecDepth 100000 in
set_option maxHeartbeats 1600000 in
theorem write_fit (k f s : Int) (sa : Option Addr) (body : List UInt8) (cap : Nat) (w : World) (hfit : fitsB k f s body.length = true) (hb : BytesIn w (.slice sa body.length cap) body) :
    Calls Try.prog 10 #[.agg #[.int .i64 k, .int .i64 f, .int .i64 s, .slice sa body.length cap]] w fun e w' => Wrote w w' k f s body e := by
  obtain ⟨hk0, hk1, hf0, hf1, hs0, hs1, hn⟩ := fits_bounds hfit
  have HF : Hid (fitsB k f s body.length = true) := hfit
  have HB : Hid (BytesIn w (.slice sa body.length cap) body) := hb
  clear hfit hb
  go_enter Try.func10, Try.ntmps10
  go_wp2_with (go_at_call 16; refine (fits_any k f s sa body.length cap _).mono ?_; rintro e w1 ⟨he, hb1⟩; rw [HF.out] at he; subst he; obtain ⟨hc1, hf1'⟩ := bcell hb1)
  have hbw : Below w.heap.size w w1 := ((Below.refl _ _).alloc (Nat.le_refl _) _).trans (hb1.mono (by simp))
  refine (bytes_any k f s sa body cap w1 hk0 hk1 hf0 hf1 hs0 hs1 hn (HB.out.chg (Chg.of_below (S := fun _ => False) hbw) (fun _ _ => id))).mono ?_
  rintro e w2 ⟨bv, rfl, hown2, hb2⟩
  have hbw2 : Below w.heap.size w w2 := hbw.trans (hb2.mono hbw.size)
  go_wp2_with (go_at_call 11; refine (newReader_any _).mono ?_; rintro e w3 ⟨rfl, hw3⟩; subst hw3)
  have hown3 := hown2.alloc (.cells #[.slice none 0 0, .int .i64 0, .int .i64 0, .int .i64 0, .int .i64 0, .int .i64 0] 56)
  have hlen : (lay k f s body).length ≤ 268435456 := by simp [lay]; omega
  refine (feed_any w2.heap.size (.slice none 0 0) bv ⟨[], 0⟩ (lay k f s body) _ (rd_new w2) (bytesIn_of_owns hown3 rfl) hlen (fun j hj => ⟨by have := owns_lt hown2 hj; omega, by simp [Value.ownBlock]⟩)).mono ?_
  rintro e w4 ⟨v, ps, gv', rfl, hps, hfrs, hrt, hch, hfr, hap⟩
  have hfe : (Rd.mk [] 0).feed (lay k f s body) = feed [] (lay k f s body) := by
    show (if (0 : Int) = 0 then _ else _) = _
    rw [if_pos rfl]
  rw [hfe]
  have hown4 := owns_chg hown3 hch (fun j hj => by
    rintro (e | e)
    · have := owns_lt hown2 hj; omega
    · simp [Value.ownBlock] at e)
  have hb4 : Below w.heap.size w w4 := (hbw2.alloc hbw2.size _).trans ⟨hch.os, hch.tape, hch.output, hch.size, fun j hj => hch.block j (by have := hbw2.size; simp; omega) (by
    rintro (e | e)
    · have := hbw2.size; omega
    · simp [Value.ownBlock] at e)⟩
  clear hc1 hf1' hfe hps hfrs hrt hch hfr hap hown3 hown2
  by_cases hz : (feed [] (lay k f s body)).2.code = 0
  · have hok : wOk k f s body = true := by simp [wOk, HF.out, hz]
    have HO : Hid (wOk k f s body = true) := hok
    have hz' : ((feed [] (lay k f s body)).2.code != 0) = false := by simp [hz]
    clear hz hok
    go_wp2
    go_ret2
    refine ⟨bv, by rw [HO.out]; rfl, ?_, (fun h => by rw [HO.out] at h; cases h), hb4⟩
    rw [HO.out]
    exact owns_base hown4 (fun j hj => by have := (hown4.lt j hj).1; have := hbw.size; omega)
  · have hok : wOk k f s body = false := by simp [wOk, hz]
    have HO : Hid (wOk k f s body = false) := hok
    have hz' : ((feed [] (lay k f s body)).2.code != 0) = true := by simp [hz]
    clear hz hok
    go_wp2
    go_ret2
    exact wrote_bad HO.out hb4

theorem write_any (k f s : Int) (sa : Option Addr) (body : List UInt8) (cap : Nat) (w : World) (hb : BytesIn w (.slice sa body.length cap) body) :
    Calls Try.prog 10 #[.agg #[.int .i64 k, .int .i64 f, .int .i64 s, .slice sa body.length cap]] w fun e w' => Wrote w w' k f s body e := by
  cases h : fitsB k f s body.length with
  | true => exact write_fit k f s sa body cap w h hb
  | false => exact write_unfit k f s sa body cap w h
end Go.Proofs.Ytjccnikmcoidhaa
