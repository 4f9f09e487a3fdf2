/-
  (*sluicelaw.World).frames, at KReader and KRead.
-/
import Derived.Test.YtckeblkadiehbaaGreatRdNew
import Derived.Test.YtckeblkadiehbaaGreatSameFr
import Derived.Test.YtckeblkadiehbaaGreatKeepF
import Derived.Test.YtckeblkadiehbaaGreatFrW
namespace Go.Proofs.YtckeblkadiehbaaGreat
open Go.RowKit

theorem Tryz.info98 : (Tryz.prog.info? 98).map (fun i => (i.zero, i.size, i.bytes)) = some (some (.agg #[.pointer none, .pointer none]), 2, 16) := by kernel_rfl

set_option maxRecDepth 100000 in
set_option maxHeartbeats 6400000 in
theorem frames_new (W0 V0 : World) (b N : Nat) (gF gH gC gS rv kv fv : Value) (rds : List RdR) (recs : List RecB) (frs : List FRec) (A B' C : Int) (S : ByteArray) (w : World) (hI : RInv W0 V0 w b gF gH gC gS rv kv fv rds recs frs N) (hn : rds.length ≤ 67108864) :
    Calls Tryz.prog 10 #[.pointer (some ⟨b, 0, none⟩), .agg #[.int .i64 2, .int .i64 A, .int .i64 B', .int .i64 C, .string S]] w fun e w' => e = .returned (.bool true) ∧ ∃ rv' rds', RInv W0 V0 w' b gF gH gC gS rv' kv fv rds' recs frs (N + 1) := by
  obtain ⟨j0, ji, jz0, jz1, jz2⟩ := info_parts Tryz.info98
  obtain ⟨sr, cr, rfl⟩ := slice_len hI.rowR
  have hlt := lt_of_block hI.bk.blk
  have g0 : w.cell? ⟨b, 4, none⟩ = some (.slice sr rds.length cr) := by rw [cell_of_row w b _ _ _ _ hI.bk.blk]; rfl
  have gf : w.frozen? ⟨b, 4, none⟩ = false := by simp [World.frozen?, hI.bk.blk]
  have HI := hide hI
  clear hI
  go_enter Tryz.func10, Tryz.ntmps10
  have HRR := hide HI.out.rowR
  go_wp2_with (first | (go_at_call 28; refine (newReader_any _).mono ?_; rintro e w3 ⟨rfl, hw3⟩; subst hw3) | (at_builtin; refine wpList_app _ rfl (.tmp 115) (.tmp 120) 33 rfl 98 j0 (.agg #[.pointer none, .pointer none]) 2 16 Tryz.underlying33 ji jz0 jz1 jz2 rfl (by decide) _ _ _ rfl ((((HRR.out.alloc _).alloc _).alloc _).alloc _) (.slice (some ⟨w.heap.size + 1 + 1 + 1, 0, none⟩) 1 1) 1 [.pointer (some ⟨w.heap.size + 1, 0, none⟩), .pointer (some ⟨w.heap.size + 1 + 1, 0, none⟩)] rfl rfl ?c1 ?c2 ?c3 ?c4 ?_))
  case c1 =>
    refine Or.inr ⟨_, _, rfl, fun j u hu => ?_⟩
    have := lies_row (w := ((w.alloc (.cells #[.int .i64 2, .int .i64 A, .int .i64 B', .int .i64 C, .string S] 49)).alloc (.cells #[.slice none 0 0, .int .i64 0, .int .i64 0, .int .i64 0, .int .i64 0, .int .i64 0] 163)).alloc (.cells #[.slice none 0 0, .int .i64 0, .int .i64 0] 96)) (xs := [.pointer (some ⟨w.heap.size + 1, 0, none⟩), .pointer (some ⟨w.heap.size + 1 + 1, 0, none⟩)]) (t := 98) j u hu
    simpa using this
  case c2 =>
    intro u hu
    simp at hu
    rcases hu with rfl | rfl <;> rfl
  case c3 => unfold maxLen; omega
  case c4 => omega
  intro rv' w3 hown3 hg3 hfr3
  obtain ⟨sr', cr', rfl⟩ := slice_len hown3
  have hX : Below w.heap.size w ((((w.alloc (.cells #[.int .i64 2, .int .i64 A, .int .i64 B', .int .i64 C, .string S] 49)).alloc (.cells #[.slice none 0 0, .int .i64 0, .int .i64 0, .int .i64 0, .int .i64 0, .int .i64 0] 163)).alloc (.cells #[.slice none 0 0, .int .i64 0, .int .i64 0] 96)).alloc (.cells #[.pointer (some ⟨w.heap.size + 1, 0, none⟩), .pointer (some ⟨w.heap.size + 1 + 1, 0, none⟩)] 98)) :=
    ((((Below.refl _ w).alloc (Nat.le_refl _) _).alloc (by simp) _).alloc (by simp; omega) _).alloc (by simp; omega) _
  have hb3 := kept_block ((((HRR.out.alloc _).alloc _).alloc _).alloc _) hg3 (told_kept HI.out.bk.blk hX) (by decide)
  have hrin := rinv_reader (xb := w.heap.size + 1) (pb := w.heap.size + 1 + 1) HI.out hX (by omega) (by omega) (heap_in (by simp) (heap_in (by simp) (heap_at (by simp)))) (heap_in (by simp) (heap_at (by simp))) hown3 hg3 (by simpa using hfr3)
  have HRI := hide hrin
  have q4 : w3.cell? ⟨b, 4, none⟩ = some (.slice sr rds.length cr) := by rw [cell_of_row w3 b _ _ _ _ hb3]; rfl
  have q4f : w3.frozen? ⟨b, 4, none⟩ = false := by simp [World.frozen?, hb3]
  clear hown3 hg3 hfr3 hX hb3 hrin g0 gf
  go_wp2
  go_ret
  exact ⟨rfl, _, _, HRI.out⟩

theorem feed_count (got l : List UInt8) : (feed got l).1.length ≤ l.length := by
  induction l generalizing got with
  | nil => simp [feed]
  | cons c r ih =>
    simp only [feed]
    split
    · have := ih (by assumption); simp; omega
    · have := ih []; simp; omega
    · simp
theorem step_body {got : List UInt8} {c : UInt8} {f : Fr} (h : step got c = .inl (.inr f)) : f.body.length ≤ got.length + 1 := by
  unfold step at h
  simp only at h
  split at h
  · cases h
  · split at h
    · cases h
    · split at h
      · cases h
      · simp only [Sum.inl.injEq, Sum.inr.injEq] at h
        rw [← h]
        simp
        omega
theorem step_len {got g : List UInt8} {c : UInt8} (h : step got c = .inl (.inl g)) : g.length = got.length + 1 := by
  unfold step at h
  simp only at h
  split at h
  · cases h
  · split at h
    · simp only [Sum.inl.injEq] at h
      rw [← h]; simp
    · split at h
      · cases h
      · cases h
theorem feed_bodies (got l : List UInt8) : ∀ f ∈ (feed got l).1, f.body.length ≤ got.length + l.length := by
  induction l generalizing got with
  | nil => simp [feed]
  | cons c r ih =>
    simp only [feed]
    split
    · next g hs =>
      have hl := step_len hs
      intro f hf
      have := ih g f hf
      simp; omega
    · next f' hs =>
      have hl := step_body hs
      intro f hf
      simp only [List.mem_cons] at hf
      rcases hf with rfl | hf
      · simp; omega
      · have := ih [] f hf
        simp at this ⊢; omega
    · simp
theorem feed_got (got l : List UInt8) : (feed got l).2.got.length ≤ got.length + l.length := by
  induction l generalizing got with
  | nil => simp [feed]
  | cons c r ih =>
    simp only [feed]
    split
    · next g hs =>
      have hl := step_len hs
      have := ih g
      simp; omega
    · have := ih []
      simp at this ⊢; omega
    · simp
theorem Rd.feed_count (r : Rd) (l : List UInt8) : (r.feed l).1.length ≤ l.length := by
  unfold Rd.feed
  split
  · exact Go.Proofs.YtckeblkadiehbaaGreat.feed_count _ _
  · simp
theorem Rd.feed_bodies (r : Rd) (l : List UInt8) : ∀ f ∈ (r.feed l).1, f.body.length ≤ r.got.length + l.length := by
  unfold Rd.feed
  split
  · exact Go.Proofs.YtckeblkadiehbaaGreat.feed_bodies _ _
  · simp

theorem conv_string (w : World) (l : List UInt8) : ∃ w' cap, (convert 9 54 (.string ⟨l.toArray⟩)).run Tryz.prog w = .ok (.slice (some ⟨w.heap.size, 0, none⟩) l.length cap) w' ∧ Lies w' (.slice (some ⟨w.heap.size, 0, none⟩) l.length cap) l.length (l.map B) ∧ Below w.heap.size w w' := by
  have h := run_bytes_of_string (P := Tryz.prog) w 9 54 5 ⟨l.toArray⟩ Tryz.underlying9 Tryz.underlying54 Tryz.underlying5
  have hs : (ByteArray.mk l.toArray).size = l.length := by simp [ByteArray.size]
  rw [hs] at h
  refine ⟨_, _, h, Or.inr ⟨_, _, rfl, fun j u hu => ?_⟩, ?_⟩
  · have hj : j < l.length := by
      have := (List.getElem?_eq_some_iff.1 hu).1
      simpa using this
    rw [addr_add]
    have hh := heap_alloc_new w.drew (.cells (bytesRow ⟨l.toArray⟩ (grownCap w l.length 0 5)) 5 ((bytesRow ⟨l.toArray⟩ (grownCap w l.length 0 5)).size, (bytesRow ⟨l.toArray⟩ (grownCap w l.length 0 5)).size + 1))
    rw [cell_of_row _ w.heap.size _ _ _ _ hh]
    rw [← hu]
    simp [bytesRow, hj]
    rw [Array.getElem?_append_left (by simpa using hj)]
    simp [hj, B]
  · have h2 := (Below.refl w.heap.size w.drew)
    have h1 : Below w.heap.size w w.drew := ⟨rfl, rfl, rfl, Nat.le_refl _, fun _ _ => rfl⟩
    exact h1.alloc (Nat.le_refl _) _

theorem pair_block {w : World} {b : Nat} {v0 v1 : Value} {t : TypeId} {fr : Nat × Nat} (h : w.heap[b]? = some (.cells #[v0, v1] t fr)) : w.cell? ⟨b, 0, none⟩ = some v0 ∧ w.cell? ⟨b, 1, none⟩ = some v1 := by
  refine ⟨?_, ?_⟩ <;> rw [cell_of_row w b _ _ _ _ h] <;> rfl

set_option maxRecDepth 100000 in
set_option maxHeartbeats 6400000 in
theorem frames_read (W0 V0 : World) (b N : Nat) (gF gH gC gS rv kv fv : Value) (rds : List RdR) (recs : List RecB) (frs : List FRec) (A B' C : Int) (l : List UInt8) (w : World) (hI : RInv W0 V0 w b gF gH gC gS rv kv fv rds recs frs N) (hA : I64 A) (hr0 : 0 < rds.length) (hN : N + 1 + l.length ≤ 16777216) :
    Calls Tryz.prog 10 #[.pointer (some ⟨b, 0, none⟩), .agg #[.int .i64 3, .int .i64 A, .int .i64 B', .int .i64 C, .string ⟨l.toArray⟩]] w fun e w' => e = .returned (.bool true) ∧ ∃ kv' fv' rds' recs' frs', RInv W0 V0 w' b gF gH gC gS rv kv' fv' rds' recs' frs' (N + 1 + l.length) := by
  obtain ⟨sr, cr, rfl⟩ := slice_len hI.rowR
  have hlt := lt_of_block hI.bk.blk
  have g0 : w.cell? ⟨b, 4, none⟩ = some (.slice sr rds.length cr) := by rw [cell_of_row w b _ _ _ _ hI.bk.blk]; rfl
  obtain ⟨j, hj, hjl⟩ := pk_nat A hr0
  obtain ⟨gr, hgr, hgc⟩ := slice_some hI.rowR hr0
  subst hgr
  have hgl : gr < w.heap.size := owns_lt hI.rowR rfl
  obtain ⟨e0, e1⟩ := rdCells_get hjl
  have a0 : w.cell? ⟨gr, j * 2, none⟩ = some (.pointer (some ⟨rds[j].xb, 0, none⟩)) := by rw [hI.rowR.cellAt _ (by have := rdCells_length rds; omega)]; exact e0
  have a1 : w.cell? ⟨gr, j * 2 + 1, none⟩ = some (.pointer (some ⟨rds[j].pb, 0, none⟩)) := by rw [hI.rowR.cellAt _ (by have := rdCells_length rds; omega)]; exact e1
  have HI := hide hI
  have HJ := hide hj
  have HA := hide hA
  have hxlt : rds[j].xb < w.heap.size := hI.rb_lt (List.getElem_mem hjl) (Or.inl rfl)
  have hplt : rds[j].pb < w.heap.size := hI.rb_lt (List.getElem_mem hjl) (Or.inr (Or.inr (Or.inl rfl)))
  obtain ⟨str, hstr⟩ : ∃ str, str = ByteArray.mk l.toArray := ⟨_, rfl⟩
  rw [← hstr]
  obtain ⟨xb, hxb⟩ : ∃ x, x = rds[j].xb := ⟨_, rfl⟩
  obtain ⟨pb, hpb⟩ : ∃ x, x = rds[j].pb := ⟨_, rfl⟩
  rw [← hxb] at a0 hxlt
  rw [← hpb] at a1 hplt
  have HXB := hide hxb
  have HPB := hide hpb
  have HSTR := hide hstr
  clear hI hj hA e0 e1 hstr hxb hpb
  go_enter Tryz.func10, Tryz.ntmps10
  go_upto_region 20 with fail
  go_cut [15] (fun s15 wx => s15 = .pointer (some ⟨w.heap.size + 1, 0, none⟩) ∧ wx = ((w.alloc (.cells #[.int .i64 3, .int .i64 A, .int .i64 B', .int .i64 C, .string str] 49)).alloc (.cells #[.pointer (some ⟨xb, 0, none⟩), .pointer (some ⟨pb, 0, none⟩)] 98)).drew)
  case first =>
    go_region_held3 (fun w' => w'.cell? ⟨b, 4, none⟩ = some (.slice (some ⟨gr, 0, none⟩) rds.length cr) ∧ w'.cell? ⟨w.heap.size, 1, none⟩ = some (.int .i64 A) ∧ w'.cell? ⟨gr, j * 2, none⟩ = some (.pointer (some ⟨xb, 0, none⟩)) ∧ w'.cell? ⟨gr, j * 2 + 1, none⟩ = some (.pointer (some ⟨pb, 0, none⟩))) (go_keep)
      (first | (go_at_call 20; refine (lpick_at A rds.length j _ hr0 HA.out HJ.out).mono ?_; rintro e w' ⟨rfl, rfl⟩))
    all_goals (go_wp2_with fail)
    all_goals (go_meet; exact ⟨rfl, rfl⟩)
  case rest =>
    obtain ⟨rfl, hwc⟩ := hcut
    obtain ⟨w2, hw2⟩ : ∃ w2, w2 = wc := ⟨wc, rfl⟩
    subst hw2
    have hb2 : Below w.heap.size w w2 := by
      rw [hwc]
      have h := ((Below.refl w.heap.size w).alloc (Nat.le_refl _) (.cells #[.int .i64 3, .int .i64 A, .int .i64 B', .int .i64 C, .string str] 49)).alloc (by simp) (.cells #[.pointer (some ⟨xb, 0, none⟩), .pointer (some ⟨pb, 0, none⟩)] 98)
      exact ⟨h.os, h.tape, h.output, h.size, h.block⟩
    have ho2 : w2.heap[w.heap.size]? = some (.cells #[.int .i64 3, .int .i64 A, .int .i64 B', .int .i64 C, .string str] 49 (0, 0)) := by rw [hwc]; exact heap_in (by simp) (heap_at rfl)
    have hp2 : w2.heap[w.heap.size + 1]? = some (.cells #[.pointer (some ⟨xb, 0, none⟩), .pointer (some ⟨pb, 0, none⟩)] 98 (0, 0)) := by rw [hwc]; exact heap_at (by simp)
    have HB2 := hide hb2
    have HO2 := hide ho2
    have HP2 := hide hp2
    obtain ⟨-, -, -, -, o4, -⟩ := lists_block ho2
    have hs2 := lt_of_block hp2
    clear hwc hb2 ho2 hp2 a0 a1 g0
    go_wp2_with fail
    rw [HSTR.out]
    refine (lent_any l w2 (by omega)).mono ?_
    rw [← HSTR.out]
    rintro e w3 ⟨rfl, hlent, hb3⟩
    have hrj : rds[j] ∈ rds := List.getElem_mem _
    obtain ⟨rT, rS, rN⟩ := HI.out.rd rds[j] hrj
    have hB3 : Below w.heap.size w w3 := HB2.out.trans (hb3.mono HB2.out.size)
    have ho3 := told_kept HO2.out hb3
    have hp3 := told_kept HP2.out hb3
    have hs3 := lt_of_block hlent
    have hsz3 := hB3.size
    have hz2 := HB2.out.size
    have hRT3 : RdT w3 xb rds[j].gv (feed [] rds[j].all).2 := by rw [HXB.out]; exact rdT_chg rT (Chg.of_below (S := fun _ => False) hB3) id (fun _ _ => id)
    have hRS3 : RfS w3 pb rds[j].av rds[j].all := by rw [HPB.out]; exact rS.chg (Chg.of_below (S := fun _ => False) hB3) id (fun _ _ => id)
    have hgvlt : ∀ k, rds[j].gv.ownBlock = some k → k < w.heap.size := fun k e => HI.out.rb_lt hrj (Or.inr (Or.inl e))
    have havlt : ∀ k, rds[j].av.ownBlock = some k → k < w.heap.size := fun k e => HI.out.rb_lt hrj (Or.inr (Or.inr (Or.inr e)))
    have hgl3 : (feed [] rds[j].all).2.got.length ≤ N := Nat.le_trans (by have := feed_got [] rds[j].all; simpa using this) rN
    obtain ⟨cc, hcc⟩ : ∃ cc : Int, cc = ((feed [] rds[j].all).2.feed l).2.code := ⟨_, rfl⟩
    have HCC := hide hcc
    have HRJ := hide hrj
    have HRT3 := hide hRT3
    have HRS3 := hide hRS3
    have HGL := hide hgvlt
    have HAL := hide havlt
    have HGN := hide hgl3
    have HRN := hide rN
    have HB3 := hide hB3
    have HL3 := hide hlent
    have HO3 := hide ho3
    have HP3 := hide hp3
    obtain ⟨q0, q1⟩ := pair_block hp3
    clear hb3 hlent hB3 ho3 hp3 hrj rT rS rN hRT3 hRS3 hgvlt havlt hgl3 hcc o4
    go_wp2_with fail
    refine (feed_any xb rds[j].gv (.slice (some ⟨w2.heap.size, 0, none⟩) l.length (l.length + 4)) (feed [] rds[j].all).2 l _ HRT3.out (lent_bytes HL3.out (by omega)) (by omega) (fun k hk => by
      simp [Value.ownBlock] at hk
      subst hk
      exact ⟨by omega, fun e => by have := HGL.out _ e; omega⟩)).mono ?_
    rintro e wF ⟨v, ps, gv', he, hps, hfrs, hrd, hchF, hgvf, hap⟩
    rw [← HCC.out] at he
    subst he
    obtain ⟨sv, cv, rfl⟩ := slice_len hfrs.row
    have tch : ∀ k, w.heap.size ≤ k → ¬ Touch xb rds[j].gv k := by
      rintro k hk (e | e)
      · omega
      · have := HGL.out k e; omega
    have hoF : wF.heap[w.heap.size]? = some (.cells #[.int .i64 3, .int .i64 A, .int .i64 B', .int .i64 C, .string str] 49 (0, 0)) := by rw [hchF.block _ (lt_of_block HO3.out) (tch _ (Nat.le_refl _))]; exact HO3.out
    have hpF : wF.heap[w.heap.size + 1]? = some (.cells #[.pointer (some ⟨xb, 0, none⟩), .pointer (some ⟨pb, 0, none⟩)] 98 (0, 0)) := by rw [hchF.block _ (lt_of_block HP3.out) (tch _ (Nat.le_succ _))]; exact HP3.out
    have hlF : wF.heap[w2.heap.size]? = some (.cells (lentL l).toArray 5 (0, 0)) := by rw [hchF.block _ hs3 (tch _ hz2)]; exact HL3.out
    obtain ⟨cs9, hxblk⟩ := rdT_blk HRT3.out
    obtain ⟨n9, y9, hgown⟩ := rdT_own HRT3.out
    have hRSF : RfS wF pb rds[j].av rds[j].all := by
      refine HRS3.out.chg hchF ?_ ?_
      · rintro (e | e)
        · rw [← e, HRS3.out.blk] at hxblk; simp at hxblk
        · exact owns_ne hgown HRS3.out.blk (by decide) e
      · rintro k ek (e | e)
        · subst e; exact owns_ne HRS3.out.row hxblk (by decide) ek
        · exact HI.out.ap2 _ HRJ.out k e ek
    obtain ⟨wC, capC, hconv, hlies, hbC⟩ := conv_string wF l
    rw [← HSTR.out] at hconv
    have hzF := hchF.size
    have hzC := hbC.size
    have HPS := hide hps
    have HFRS := hide hfrs
    have HRD := hide hrd
    have HCHF := hide hchF
    have HGVF := hide hgvf
    have HAP := hide hap
    have HLIES := hide hlies
    have HBC := hide hbC
    have HOC := hide (told_kept hoF hbC)
    have HLC := hide (told_kept hlF hbC)
    have HRSC := hide (hRSF.chg (Chg.of_below (S := fun _ => False) hbC) id (fun _ _ => id))
    obtain ⟨p0, p1⟩ := pair_block hpF
    obtain ⟨-, -, -, -, o4, -⟩ := lists_block hoF
    clear hps hfrs hrd hchF hgvf hap hlies hbC hoF hpF hlF hRSF hxblk hgown q0 q1 tch
    go_wp2_with fail
    refine (rFeed_any pb rds[j].av (some ⟨wF.heap.size, 0, none⟩) l.length capC rds[j].all l _ HRSC.out HLIES.out (by have := HRN.out; omega)).mono ?_
    rintro e wR ⟨mv, qs, av', all', he, hqs, hfr, hrf, hfeq, hall, hchR, havf⟩
    rw [← HCC.out] at he
    subst he
    obtain ⟨sm, cm, rfl⟩ := hfr.form
    have hzR := hchR.size
    have rch : ∀ k, w.heap.size ≤ k → ¬ (k = pb ∨ rds[j].av.ownBlock = some k) := by
      rintro k hk (e | e)
      · omega
      · have := HAL.out k e; omega
    have hfrsR : FrsOwn wR w3.heap.size (.slice sv ps.length cv) ps := by
      have h1 := HFRS.out.chg' (Chg.of_below (S := fun _ => False) HBC.out) (fun _ _ => id) (fun _ _ => id)
      exact h1.chg' hchR (fun k e => rch k (by have := (h1.row.lt k e).1; omega)) (fun k e => rch k (by have := (h1.blocks e).1; omega))
    have hoR : wR.heap[w.heap.size]? = some (.cells #[.int .i64 3, .int .i64 A, .int .i64 B', .int .i64 C, .string str] 49 (0, 0)) := by rw [hchR.block _ (lt_of_block HOC.out) (rch _ (Nat.le_refl _))]; exact HOC.out
    have hlR : wR.heap[w2.heap.size]? = some (.cells (lentL l).toArray 5 (0, 0)) := by rw [hchR.block _ (lt_of_block HLC.out) (rch _ hz2)]; exact HLC.out
    have hpsl : ps.length ≤ l.length := by
      have h1 := Rd.feed_count (feed [] rds[j].all).2 l
      rw [← HPS.out, List.length_map] at h1
      exact h1
    have HQS := hide hqs
    have HFR := hide hfr
    have HRF := hide hrf
    have HFEQ := hide hfeq
    have HALL := hide hall
    have HCHR := hide hchR
    have HAVF := hide havf
    have HFRSR := hide hfrsR
    have HOR := hide hoR
    have HLR := hide hlR
    clear hqs hfr hrf hfeq hall hchR havf hfrsR hoR hlR rch p0 p1 o4 hconv
    go_wp2_with fail
    refine (sameFrames_true (.slice sv ps.length cv) (.slice sm qs.length cm) ps qs _ (frsR_all ⟨HFRSR.out.row, HFRSR.out.body⟩) HFR.out (HPS.out.trans HQS.out.symm) (by omega)).mono ?_
    rintro e wS ⟨rfl, hbS⟩
    have HBS := hide hbS
    have hzS := hbS.size
    have HOS := hide (told_kept HOR.out hbS)
    have HLS := hide (told_kept HLR.out hbS)
    have HFRSS := hide (HFRSR.out.chg' (Chg.of_below (S := fun _ => False) hbS) (fun _ _ => id) (fun _ _ => id))
    clear hbS
    go_wp2_with fail
    refine (num_any cc _).mono ?_
    rintro e w' ⟨rfl, hw'⟩
    rw [hw']
    clear hw' w'
    have c1 : Chg (RB rds[j]) w wS := by
      have hx := HXB.out
      have hp := HPB.out
      have t1 : Chg (RB rds[j]) w wF := (Chg.of_below HB3.out).trans (HCHF.out.mono (fun k _ e => by
        rcases e with e | e
        · exact Or.inr (Or.inl (e.trans hx))
        · exact Or.inr (Or.inr (Or.inl e))))
      have t2 : Chg (RB rds[j]) w wR := (t1.then_below HBC.out).trans (HCHR.out.mono (fun k _ e => by
        rcases e with e | e
        · exact Or.inr (Or.inr (Or.inr (Or.inl (e.trans hp))))
        · exact Or.inr (Or.inr (Or.inr (Or.inr e)))))
      exact t2.then_below HBS.out
    have HBK := hide (HI.out.others HRJ.out c1).1
    have hbodies : ∀ p ∈ ps, p.1.body.length ≤ 4294967296 := by
      intro p hp
      have h1 := Rd.feed_bodies (feed [] rds[j].all).2 l p.1 (by rw [← HPS.out]; exact List.mem_map_of_mem hp)
      have h2 := HGN.out
      omega
    have hfew := HI.out.few
    have HBO := hide hbodies
    clear c1 hbodies
    go_wp2_with fail
    refine (keepFrames_any b (lw gF gH gC gS (.slice (some ⟨gr, 0, none⟩) rds.length cr) kv fv) kv fv (.slice sv ps.length cv) ps recs frs w3.heap.size _ HBK.out.blk rfl rfl HBK.out.rowB HBK.out.rowF HFRSS.out (by omega) (by omega) HBO.out).mono ?_
    rintro e wK ⟨rfl, kv', fv', rs, q, hK⟩
    have kch : ∀ k, w.heap.size ≤ k → k < w3.heap.size → ¬ (k = b ∨ kv.ownBlock = some k ∨ fv.ownBlock = some k ∨ (Value.slice sv ps.length cv).ownBlock = some k ∨ k ∈ bodyBlocks ps) := by
      rintro k h1 h2 (e | e | e | e | e)
      · omega
      · have := owns_lt HI.out.bk.rowB e; omega
      · have := owns_lt HI.out.bk.rowF e; omega
      · have := (HFRSS.out.row.lt k e).1; omega
      · have := (HFRSS.out.blocks e).1; omega
    have hoK : wK.heap[w.heap.size]? = some (.cells #[.int .i64 3, .int .i64 A, .int .i64 B', .int .i64 C, .string str] 49 (0, 0)) := by rw [hK.chg.block _ (lt_of_block HOS.out) (kch _ (Nat.le_refl _) (by omega))]; exact HOS.out
    have hlK : wK.heap[w2.heap.size]? = some (.cells (lentL l).toArray 5 (0, 0)) := by rw [hK.chg.block _ (lt_of_block HLS.out) (kch _ hz2 hs3)]; exact HLS.out
    obtain ⟨-, -, -, -, o4, -⟩ := lists_block hoK
    have HK := hide hK
    have HLK := hide hlK
    clear hK kch hoK hlK
    go_wp2_with fail
    rw [HSTR.out]
    refine (wholeBytes_any w2.heap.size l _ (by omega) HLK.out).mono ?_
    rw [← HSTR.out]
    rintro e wE ⟨rfl, hE⟩
    clear o4
    go_wp2
    go_ret
    have hx := HXB.out
    have hp := HPB.out
    subst hx
    subst hp
    have hrn := HRN.out
    have hall := HALL.out
    exact ⟨rfl, kv', fv', _, _, _, rinv_next (N' := N + 1 + l.length) HI.out hjl HB3.out hz2 hs3 HFRS.out HRD.out HCHF.out HGVF.out HAP.out HBC.out HRF.out HCHR.out HAVF.out HFEQ.out.symm HBS.out HK.out hE (by omega) (by omega) (by omega) (by omega) (by omega)⟩
end Go.Proofs.YtckeblkadiehbaaGreat
