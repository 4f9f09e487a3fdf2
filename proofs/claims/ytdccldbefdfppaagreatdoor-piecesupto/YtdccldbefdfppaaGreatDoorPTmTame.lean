import Derived.Test.YtdccldbefdfppaaGreatDoorPTm1
import Derived.Test.YtdccldbefdfppaaGreatDoorPGbg
import Derived.Deep.RegionWith
import Derived.Deep.DeepCutAuto
set_option linter.unusedVariables false
set_option linter.unusedSimpArgs false
namespace Go.Proofs.YtdccldbefdfppaaGreatDoor
open Go.RowKit
theorem tameBody_any (k f s : Int) (sa : Option Addr) (l : List UInt8) (cap : Nat) (w : World) (h0 : 0 ≤ f) (h1 : f < 256) (hb : BytesA w (.slice sa l.length cap) l) :
  Calls Tryz.prog 29 #[.agg #[.int .i64 k, .int .i64 f, .int .i64 s, .slice none 0 0], .slice sa l.length cap] w fun e w' => Tamed w w' k f e := by
 by_cases hlen : l.length ≤ 64
 ·by_cases k0 : k = 0
  ·subst k0
   cases h8 : hasB f 8 with
   | false => exact tb0n_short f s sa l cap w h0 h1 hlen h8 hb
   | true =>
    by_cases hz : l = []
    ·exact tb0e f s sa l cap w h0 h1 hlen h8 hz hb
    ·exact tb0p_short f s sa l cap w h0 h1 hlen h8 (List.length_pos_iff.2 hz) hb
  ·by_cases k2 : k = 2
   ·subst k2; exact tb2_short f s sa l cap w h0 h1 hlen hb
   ·by_cases k3 : k = 3
    ·subst k3
     cases h : hasB f 1 with
     | true => exact tb3a_short f s sa l cap w h0 h1 hlen h hb
     | false => exact tb3b_short f s sa l cap w h0 h1 hlen h hb
    ·by_cases k4 : k = 4
     ·subst k4; exact tb4_short f s sa l cap w h0 h1 hlen hb
     ·by_cases k5 : k = 5
      ·subst k5; exact tb5_short f s sa l cap w h0 h1 hlen hb
      ·by_cases k6 : k = 6
       ·subst k6; exact tb6_short f s sa l cap w h0 h1 hlen hb
       ·exact tbx_short k f s sa l cap w h0 h1 hlen k0 k2 k3 k4 k5 k6 hb
 ·have hlen' : 64 < l.length := by omega
  obtain ⟨bb, off, rfl, hcap, _⟩ := bytesIn_addr hb (by omega)
  by_cases k0 : k = 0
  ·subst k0
   cases h8 : hasB f 8 with
   | false => exact tb0n_long f s bb off l cap w h0 h1 hlen' h8 hb hcap
   | true => exact tb0p_long f s bb off l cap w h0 h1 hlen' h8 (by omega) hb hcap
  ·by_cases k2 : k = 2
   ·subst k2; exact tb2_long f s bb off l cap w h0 h1 hlen' hb hcap
   ·by_cases k3 : k = 3
    ·subst k3
     cases h : hasB f 1 with
     | true => exact tb3a_long f s bb off l cap w h0 h1 hlen' h hb hcap
     | false => exact tb3b_long f s bb off l cap w h0 h1 hlen' h hb hcap
    ·by_cases k4 : k = 4
     ·subst k4; exact tb4_long f s bb off l cap w h0 h1 hlen' hb hcap
     ·by_cases k5 : k = 5
      ·subst k5; exact tb5_long f s bb off l cap w h0 h1 hlen' hb hcap
      ·by_cases k6 : k = 6
       ·subst k6; exact tb6_long f s bb off l cap w h0 h1 hlen' hb hcap
       ·exact tbx_long k f s bb off l cap w h0 h1 hlen' k0 k2 k3 k4 k5 k6 hb hcap
def Tames (w w' : World) (e : Ending) : Prop := ∃ k f s sa n c body, e = .returned (.agg #[.int .i64 k, .int .i64 f, .int .i64 s, .slice sa n c]) ∧ w'.ownsRow w.heap.size 5 1 (.slice sa n c) body.length (body.map B) ∧
 Right k f s body ∧ Below w.heap.size w w'
abbrev tame1 (w : World) (k f s : Int) (sa : Option Addr) (n cap : Nat) : World :=
 (((w.alloc (.cells #[.int .i64 k, .int .i64 f, .int .i64 s, .slice sa n cap] 48)).alloc (.cells #[.int .i64 0, .int .i64 0, .int .i64 0, .slice none 0 0] 48)).alloc (.cells #[.int .i64 (pkI k 256), .int .i64 (pkI f 256), .int .i64 0, .slice none 0 0] 48)).drew
theorem tkinds (K : Int) : K = 3 ∨ K = 4 ∨ K = 5 ∨ K = 6 ∨ 7 < K ∨ (¬ K = 3 ∧ ¬ K = 4 ∧ ¬ K = 5 ∧ ¬ K = 6 ∧ ¬ 7 < K) := by omega
theorem tame1_facts {w wc : World} {k f s : Int} {sa : Option Addr} {n cap : Nat} (h : wc = tame1 w k f s sa n cap) : Below w.heap.size w wc ∧ wc.heap.size = w.heap.size + 3 ∧
  wc.heap[w.heap.size]? = some (.cells #[.int .i64 k, .int .i64 f, .int .i64 s, .slice sa n cap] 48 (0, 0)) ∧
  wc.heap[w.heap.size + 1]? = some (.cells #[.int .i64 0, .int .i64 0, .int .i64 0, .slice none 0 0] 48 (0, 0)) ∧
  wc.heap[w.heap.size + 1 + 1]? = some (.cells #[.int .i64 (pkI k 256), .int .i64 (pkI f 256), .int .i64 0, .slice none 0 0] 48 (0, 0)) := by
 subst h
 refine ⟨((((Below.refl _ _).alloc (Nat.le_refl _) _).alloc (by simp) _).alloc (by simp; omega) _).drew, by simp, ?_, ?_, ?_⟩
 ·show (World.alloc _ _).heap[_]? = _
  rw [Below.heap_alloc _ _ _ (by simp; omega), Below.heap_alloc _ _ _ (by simp)]
  exact heap_alloc_new w _
 ·show (World.alloc _ _).heap[_]? = _
  rw [Below.heap_alloc _ _ _ (by simp)]
  have := heap_alloc_new (w.alloc (.cells #[.int .i64 k, .int .i64 f, .int .i64 s, .slice sa n cap] 48)) (.cells #[.int .i64 0, .int .i64 0, .int .i64 0, .slice none 0 0] 48)
  simpa using this
 ·show (World.alloc _ _).heap[_]? = _
  have := heap_alloc_new ((w.alloc (.cells #[.int .i64 k, .int .i64 f, .int .i64 s, .slice sa n cap] 48)).alloc (.cells #[.int .i64 0, .int .i64 0, .int .i64 0, .slice none 0 0] 48)) (.cells #[.int .i64 (pkI k 256), .int .i64 (pkI f 256), .int .i64 0, .slice none 0 0] 48)
  simpa using this
theorem sFits_big {K : Int} (h : 7 < K) (s : Int) : sFits K s = true := by
 unfold sFits
 rw [if_neg (by omega), if_neg (by omega)]
theorem sFits_one {K s : Int} (h3 : ¬ K = 3) (h4 : ¬ K = 4) (h5 : ¬ K = 5) (hs : 0 < s) : sFits K s = true := by
 unfold sFits
 split
 ·simp; omega
 ·rw [if_neg (by omega)]
theorem tame_end {w W w5 : World} {v : Value} {m : Nat} {xs : List Value} {k f s : Int} (hW : Below w.heap.size w W) (hz : W.heap.size = w.heap.size + 3) (hb : Below W.heap.size W w5) (ho : w5.ownsRow W.heap.size 5 1 v m xs) :
  (((((w5.setCell ⟨w.heap.size + 1 + 1, 3, none⟩ v).setCell ⟨w.heap.size + 1, 0, none⟩ (.int .i64 k)).setCell ⟨w.heap.size + 1, 1, none⟩ (.int .i64 f)).setCell ⟨w.heap.size + 1, 2, none⟩ (.int .i64 s)).setCell ⟨w.heap.size + 1, 3, none⟩ v).ownsRow w.heap.size 5 1 v m xs ∧
  Below w.heap.size w (((((w5.setCell ⟨w.heap.size + 1 + 1, 3, none⟩ v).setCell ⟨w.heap.size + 1, 0, none⟩ (.int .i64 k)).setCell ⟨w.heap.size + 1, 1, none⟩ (.int .i64 f)).setCell ⟨w.heap.size + 1, 2, none⟩ (.int .i64 s)).setCell ⟨w.heap.size + 1, 3, none⟩ v) := by
 have hc : Chg (fun j => j = w.heap.size + 1 + 1 ∨ j = w.heap.size + 1) w5 (((((w5.setCell ⟨w.heap.size + 1 + 1, 3, none⟩ v).setCell ⟨w.heap.size + 1, 0, none⟩ (.int .i64 k)).setCell ⟨w.heap.size + 1, 1, none⟩ (.int .i64 f)).setCell ⟨w.heap.size + 1, 2, none⟩ (.int .i64 s)).setCell ⟨w.heap.size + 1, 3, none⟩ v) :=
  Chg.set4 (b := w.heap.size + 1) ((Chg.refl (fun j => j = w.heap.size + 1 + 1 ∨ j = w.heap.size + 1) w5).setCell (p := ⟨w.heap.size + 1 + 1, 3, none⟩) (Or.inr (Or.inl rfl)) v) (Or.inr (Or.inr rfl)) _ _ _ _
 have hbw := hW.trans (hb.mono (by omega))
 refine ⟨owns_base (owns_chg ho hc (fun j hj => ?_)) (fun j hj => ?_), hbw.trans ⟨hc.os, hc.tape, hc.output, hc.size, fun j hj => hc.block j (by have := hbw.size; omega) (by omega)⟩⟩
 ·have := (ho.lt j hj).1; omega
 ·have := (ho.lt j hj).1; omega
set_option maxHeartbeats 3200000 in
theorem tame_any (k f s : Int) (sa : Option Addr) (l : List UInt8) (cap : Nat) (w : World) (hk : I64 k) (hf : I64 f) (hs : I64 s) (hb : BytesA w (.slice sa l.length cap) l) :
  Calls Tryz.prog 15 #[.agg #[.int .i64 k, .int .i64 f, .int .i64 s, .slice sa l.length cap]] w fun e w' => Tames w w' e := by
 have HB : Hid (BytesA w (.slice sa l.length cap) l) := hb
 have HK : Hid (I64 k) := hk
 have HF : Hid (I64 f) := hf
 have HS : Hid (I64 s) := hs
 clear hb hk hf hs
 go_enter Tryz.func15, Tryz.ntmps15
 go_upto_region 1 with fail
 go_cut [3] (fun s3 wx => s3 = .pointer (some ⟨w.heap.size + 1 + 1, 0, none⟩) ∧ wx = tame1 w k f s sa l.length cap)
 case first =>
  go_region_with (first | (go_at_call_of 5 (k); refine (pick_fun k 256 _ (by decide) HK.out).mono ?_; rintro e w' ⟨rfl, rfl⟩) | (go_at_call_of 5 (f); refine (pick_fun f 256 _ (by decide) HF.out).mono ?_; rintro e w' ⟨rfl, rfl⟩))
  all_goals (go_wp2_with fail; go_meet; exact ⟨rfl, rfl⟩)
 case rest =>
  obtain ⟨rfl, hwc⟩ := hcut
  obtain ⟨F0, F1⟩ := pkI_bounds f (n := 256) (by decide)
  obtain ⟨K0, K1⟩ := pkI_bounds k (n := 256) (by decide)
  obtain ⟨S0, S1⟩ := pkI_bounds s (n := 32767) (by decide)
  obtain ⟨T0, T1⟩ := pkI_bounds s (n := 32768) (by decide)
  obtain ⟨hbw, hz, hb0, hb1, hb2⟩ := tame1_facts hwc
  clear hwc
  obtain ⟨K, hK⟩ : ∃ K, pkI k 256 = K := ⟨_, rfl⟩
  obtain ⟨F, hF⟩ : ∃ F, pkI f 256 = F := ⟨_, rfl⟩
  rw [hK] at K0 K1 hb2
  rw [hF] at F0 F1 hb2
  clear hK hF
  obtain ⟨a0, a1, a2, a3, af⟩ := frame_block hb0
  obtain ⟨c0, c1, c2, c3, cf⟩ := frame_block hb1
  obtain ⟨e0, e1, e2, e3, ef⟩ := frame_block hb2
  have ef2 := ef 2
  have ef3 := ef 3
  have cf0 := cf 0
  have cf1 := cf 1
  have cf2 := cf 2
  have cf3 := cf 3
  clear af cf ef hb0 hb1 hb2
  go_wp2_with fail
  refine (pick_fun s 32767 _ (by decide) HS.out).mono ?_
  rintro e w' ⟨rfl, hw'⟩
  subst hw'
  rcases tkinds K with h | h | h | h | h | h
  ·subst h
   go_wp2_with fail
   have hbW : Below w.heap.size w _ := (hbw.setCell (p := ⟨w.heap.size + 1 + 1, 2, none⟩) (by simp; omega) (.int .i64 (1 + pkI s 32767))).setCell (p := ⟨w.heap.size + 1 + 1, 2, none⟩) (by simp; omega) (.int .i64 0)
   refine (tameBody_any 3 F 0 sa l cap _ F0 F1 (HB.out.chg (Chg.of_below (S := fun _ => False) hbW))).mono ?_
   rintro e w5 ⟨v, body, rfl, hown5, htb, hb5⟩
   obtain ⟨sa5, n5, c5, rfl⟩ := slice_of_owns hown5
   obtain ⟨hcc, hff⟩ := bcell hb5
   have hfin := tame_end (k := 3) (f := F) (s := 0) hbW (by simp [hz]) hb5 hown5
   have HFI := hide hfin
   have HTB := hide htb
   clear hfin htb
   go_wp2
   obtain ⟨g1, g2⟩ := HFI.out
   refine bodyPost_ret (v := .agg #[.int .i64 3, .int .i64 F, .int .i64 0, .slice sa5 n5 c5]) ?_ rfl ⟨3, F, 0, sa5, n5, c5, body, rfl, g1, ⟨by omega, by omega, F0, by omega, by omega, by omega, by decide, HTB.out.n, HTB.out.ln, HTB.out.bd⟩, g2⟩
   simp [results, Tryz.results15, go_sem, hcc, c0, c1, c2, c3, hz]
  ·subst h
   go_wp2_with fail
   have hbW : Below w.heap.size w _ := (hbw.setCell (p := ⟨w.heap.size + 1 + 1, 2, none⟩) (by simp; omega) (.int .i64 (1 + pkI s 32767))).setCell (p := ⟨w.heap.size + 1 + 1, 2, none⟩) (by simp; omega) (.int .i64 0)
   refine (tameBody_any 4 F 0 sa l cap _ F0 F1 (HB.out.chg (Chg.of_below (S := fun _ => False) hbW))).mono ?_
   rintro e w5 ⟨v, body, rfl, hown5, htb, hb5⟩
   obtain ⟨sa5, n5, c5, rfl⟩ := slice_of_owns hown5
   obtain ⟨hcc, hff⟩ := bcell hb5
   have hfin := tame_end (k := 4) (f := F) (s := 0) hbW (by simp [hz]) hb5 hown5
   have HFI := hide hfin
   have HTB := hide htb
   clear hfin htb
   go_wp2
   obtain ⟨g1, g2⟩ := HFI.out
   refine bodyPost_ret (v := .agg #[.int .i64 4, .int .i64 F, .int .i64 0, .slice sa5 n5 c5]) ?_ rfl ⟨4, F, 0, sa5, n5, c5, body, rfl, g1, ⟨by omega, by omega, F0, by omega, by omega, by omega, by decide, HTB.out.n, HTB.out.ln, HTB.out.bd⟩, g2⟩
   simp [results, Tryz.results15, go_sem, hcc, c0, c1, c2, c3, hz]
  ·subst h
   go_wp2_with fail
   have hbW : Below w.heap.size w _ := (hbw.setCell (p := ⟨w.heap.size + 1 + 1, 2, none⟩) (by simp; omega) (.int .i64 (1 + pkI s 32767))).setCell (p := ⟨w.heap.size + 1 + 1, 2, none⟩) (by simp; omega) (.int .i64 0)
   refine (tameBody_any 5 F 0 sa l cap _ F0 F1 (HB.out.chg (Chg.of_below (S := fun _ => False) hbW))).mono ?_
   rintro e w5 ⟨v, body, rfl, hown5, htb, hb5⟩
   obtain ⟨sa5, n5, c5, rfl⟩ := slice_of_owns hown5
   obtain ⟨hcc, hff⟩ := bcell hb5
   have hfin := tame_end (k := 5) (f := F) (s := 0) hbW (by simp [hz]) hb5 hown5
   have HFI := hide hfin
   have HTB := hide htb
   clear hfin htb
   go_wp2
   obtain ⟨g1, g2⟩ := HFI.out
   refine bodyPost_ret (v := .agg #[.int .i64 5, .int .i64 F, .int .i64 0, .slice sa5 n5 c5]) ?_ rfl ⟨5, F, 0, sa5, n5, c5, body, rfl, g1, ⟨by omega, by omega, F0, by omega, by omega, by omega, by decide, HTB.out.n, HTB.out.ln, HTB.out.bd⟩, g2⟩
   simp [results, Tryz.results15, go_sem, hcc, c0, c1, c2, c3, hz]
  ·subst h
   go_wp2_with fail
   refine (pick_fun s 32768 _ (by decide) HS.out).mono ?_
   rintro e w'' ⟨rfl, hw''⟩
   subst hw''
   go_wp2_with fail
   have hbW : Below w.heap.size w _ := (hbw.setCell (p := ⟨w.heap.size + 1 + 1, 2, none⟩) (by simp; omega) (.int .i64 (1 + pkI s 32767))).setCell (p := ⟨w.heap.size + 1 + 1, 2, none⟩) (by simp; omega) (.int .i64 (pkI s 32768))
   refine (tameBody_any 6 F (pkI s 32768) sa l cap _ F0 F1 (HB.out.chg (Chg.of_below (S := fun _ => False) hbW))).mono ?_
   rintro e w5 ⟨v, body, rfl, hown5, htb, hb5⟩
   obtain ⟨sa5, n5, c5, rfl⟩ := slice_of_owns hown5
   obtain ⟨hcc, hff⟩ := bcell hb5
   have hfin := tame_end (k := 6) (f := F) (s := (pkI s 32768)) hbW (by simp [hz]) hb5 hown5
   have HFI := hide hfin
   have HTB := hide htb
   clear hfin htb
   go_wp2
   obtain ⟨g1, g2⟩ := HFI.out
   refine bodyPost_ret (v := .agg #[.int .i64 6, .int .i64 F, .int .i64 (pkI s 32768), .slice sa5 n5 c5]) ?_ rfl ⟨6, F, (pkI s 32768), sa5, n5, c5, body, rfl, g1, ⟨by omega, by omega, F0, by omega, by omega, by omega, rfl, HTB.out.n, HTB.out.ln, HTB.out.bd⟩, g2⟩
   simp [results, Tryz.results15, go_sem, hcc, c0, c1, c2, c3, hz]
  ·have b3 : (K == 3) = false := beq_eq_false_iff_ne.2 (by omega)
   have b4 : (K == 4) = false := beq_eq_false_iff_ne.2 (by omega)
   have b5 : (K == 5) = false := beq_eq_false_iff_ne.2 (by omega)
   have b6 : (K == 6) = false := beq_eq_false_iff_ne.2 (by omega)
   go_wp2_with fail
   refine (pick_fun s 32768 _ (by decide) HS.out).mono ?_
   rintro e w'' ⟨rfl, hw''⟩
   subst hw''
   go_wp2_with fail
   have hbW : Below w.heap.size w _ := (hbw.setCell (p := ⟨w.heap.size + 1 + 1, 2, none⟩) (by simp; omega) (.int .i64 (1 + pkI s 32767))).setCell (p := ⟨w.heap.size + 1 + 1, 2, none⟩) (by simp; omega) (.int .i64 (pkI s 32768))
   refine (tameBody_any K F (pkI s 32768) sa l cap _ F0 F1 (HB.out.chg (Chg.of_below (S := fun _ => False) hbW))).mono ?_
   rintro e w5 ⟨v, body, rfl, hown5, htb, hb5⟩
   obtain ⟨sa5, n5, c5, rfl⟩ := slice_of_owns hown5
   obtain ⟨hcc, hff⟩ := bcell hb5
   have hfin := tame_end (k := K) (f := F) (s := (pkI s 32768)) hbW (by simp [hz]) hb5 hown5
   have HFI := hide hfin
   have HTB := hide htb
   clear hfin htb
   go_wp2
   obtain ⟨g1, g2⟩ := HFI.out
   refine bodyPost_ret (v := .agg #[.int .i64 K, .int .i64 F, .int .i64 (pkI s 32768), .slice sa5 n5 c5]) ?_ rfl ⟨K, F, (pkI s 32768), sa5, n5, c5, body, rfl, g1, ⟨by omega, by omega, F0, by omega, by omega, by omega, sFits_big h _, HTB.out.n, HTB.out.ln, HTB.out.bd⟩, g2⟩
   simp [results, Tryz.results15, go_sem, hcc, c0, c1, c2, c3, hz]
  ·obtain ⟨m3, m4, m5, m6, m7⟩ := h
   have b3 : (K == 3) = false := beq_eq_false_iff_ne.2 (by omega)
   have b4 : (K == 4) = false := beq_eq_false_iff_ne.2 (by omega)
   have b5 : (K == 5) = false := beq_eq_false_iff_ne.2 (by omega)
   have b6 : (K == 6) = false := beq_eq_false_iff_ne.2 (by omega)
   go_wp2_with fail
   have hbW : Below w.heap.size w _ := hbw.setCell (p := ⟨w.heap.size + 1 + 1, 2, none⟩) (by simp; omega) (.int .i64 (1 + pkI s 32767))
   refine (tameBody_any K F (1 + pkI s 32767) sa l cap _ F0 F1 (HB.out.chg (Chg.of_below (S := fun _ => False) hbW))).mono ?_
   rintro e w5 ⟨v, body, rfl, hown5, htb, hb5⟩
   obtain ⟨sa5, n5, c5, rfl⟩ := slice_of_owns hown5
   obtain ⟨hcc, hff⟩ := bcell hb5
   have hfin := tame_end (k := K) (f := F) (s := (1 + pkI s 32767)) hbW (by simp [hz]) hb5 hown5
   have HFI := hide hfin
   have HTB := hide htb
   clear hfin htb
   go_wp2
   obtain ⟨g1, g2⟩ := HFI.out
   refine bodyPost_ret (v := .agg #[.int .i64 K, .int .i64 F, .int .i64 (1 + pkI s 32767), .slice sa5 n5 c5]) ?_ rfl ⟨K, F, (1 + pkI s 32767), sa5, n5, c5, body, rfl, g1, ⟨by omega, by omega, F0, by omega, by omega, by omega, sFits_one m3 m4 m5 (by omega), HTB.out.n, HTB.out.ln, HTB.out.bd⟩, g2⟩
   simp [results, Tryz.results15, go_sem, hcc, c0, c1, c2, c3, hz]
end Go.Proofs.YtdccldbefdfppaaGreatDoor
