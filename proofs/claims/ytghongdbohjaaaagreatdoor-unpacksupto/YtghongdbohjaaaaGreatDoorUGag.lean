import Derived.Test.YtghongdbohjaaaaGreatDoorUGaf
import Derived.Test.YtghongdbohjaaaaGreatDoorUGad
import Derived.Test.YtghongdbohjaaaaGreatDoorUGab
import Derived.Test.YtghongdbohjaaaaGreatDoorUGae
import Derived.Test.YtghongdbohjaaaaGreatDoorUGaa
import Derived.Test.YtghongdbohjaaaaGreatDoorUGac
import Derived.Deep.MidRow
import Derived.Lib.SliceRun
set_option linter.unusedVariables false
set_option linter.unusedSimpArgs false
/-
  Package blocks: (*Packer).Pack.
-/
namespace Go.Proofs.YtghongdbohjaaaaGreatDoor
set_option linter.unusedVariables false
set_option linter.unusedSimpArgs false
open Go.RowKit

theorem Pkd.lay {w w1 w2 : World} {gv v v2 : Value} {l l2 : List UInt8} {pb : Nat} {cs cs1 : Array Value} {tP : TypeId} {lim : Nat} {tv tv1 : Value} {tab : List HP} (h : Pkd w w1 pb cs cs1 tP lim tv tv1 tab gv v l) (k : Laid w1 v w2 v2 l2) (htP : tP ≠ 5) : Pkd w w2 pb cs cs1 tP lim tv tv1 tab gv v2 l2 :=
  ⟨k.own, k.tab h.own h.st htP, h.cs3, h.chg.trans (k.chg.mono fun j _ e => by
    rcases h.fresh j e with a | a
    · exact Or.inr (Or.inl a)
    · exact Or.inl a), fun j hj => by
    rcases k.fresh j hj with e | e
    · exact h.fresh j e
    · exact Or.inr (Nat.le_trans h.chg.size e), h.tfresh⟩
theorem Pkd.turn {w w3 w6 : World} {gv v : Value} {l : List UInt8} {pb : Nat} {cs cs1 cs' : Array Value} {tP : TypeId} {lim lim' : Nat} {tv tv1 tv' : Value} {tab tab' : List HP} (h : Pkd w w3 pb cs cs1 tP lim tv tv1 tab gv v l) (h6 : TbTo w3 w6 pb cs1 cs' tP lim' tv1 tv' tab') (htP : tP ≠ 5) : Pkd w w6 pb cs cs' tP lim' tv tv' tab' gv v l := by
  have hsz := h.chg.size
  refine ⟨owns_chg h.own h6.chg ?_, h6.st, fun i hi => (h6.cs3 i hi).trans (h.cs3 i hi), h.chg.trans (h6.chg.mono ?_), h.fresh, fun j hj => ?_⟩
  · rintro j hj (e | e)
    · subst e; exact owns_ne h.own h.st.tb.blk (fun e => htP e.symm) hj
    · exact rows_ne h.own h.st.row (by decide) hj e
  · rintro j _ (e | e)
    · exact Or.inr (Or.inr (Or.inl e))
    · rcases h.tfresh j e with a | a
      · exact Or.inr (Or.inr (Or.inr a))
      · exact Or.inl a
  · rcases h6.own j hj with e | e
    · exact h.tfresh j e
    · exact Or.inr (Nat.le_trans hsz e)
theorem Pkd.trans {w w1 w2 : World} {gv v v2 : Value} {l l2 : List UInt8} {pb : Nat} {cs cs1 cs2 : Array Value} {tP : TypeId} {lim lim2 : Nat} {tv tv1 tv2 : Value} {tab tab2 : List HP} (h : Pkd w w1 pb cs cs1 tP lim tv tv1 tab gv v l) (k : Pkd w1 w2 pb cs1 cs2 tP lim2 tv1 tv2 tab2 v v2 l2) : Pkd w w2 pb cs cs2 tP lim2 tv tv2 tab2 gv v2 l2 := by
  have hsz := h.chg.size
  refine ⟨k.own, k.st, fun i hi => (k.cs3 i hi).trans (h.cs3 i hi), h.chg.trans (k.chg.mono ?_), fun j hj => ?_, fun j hj => ?_⟩
  · rintro j _ (e | e | e)
    · rcases h.fresh j e with a | a
      · exact Or.inr (Or.inl a)
      · exact Or.inl a
    · exact Or.inr (Or.inr (Or.inl e))
    · rcases h.tfresh j e with a | a
      · exact Or.inr (Or.inr (Or.inr a))
      · exact Or.inl a
  · rcases k.fresh j hj with e | e
    · exact h.fresh j e
    · exact Or.inr (Nat.le_trans hsz e)
  · rcases k.tfresh j hj with e | e
    · exact h.tfresh j e
    · exact Or.inr (Nat.le_trans hsz e)

def nCells (l : List Nat) : List Value := l.map fun (x : Nat) => Value.int .i64 (x : Int)
/-- A packer's block. -/
structure PkS (w : World) (pb : Nat) (cs : Array Value) (tv lv : Value) (p : Pk) : Prop where
  st : TbS w pb cs 177 p.lim tv p.tab
  c3 : cs[3]? = some lv
  row : w.ownsRow 0 3 1 lv p.wait.length (nCells p.wait)
  few : p.wait.length ≤ 2
  ok : ∀ x ∈ p.wait, x ≤ 256
/-- A list of pairs, somewhere in memory. -/
def HsIn (w : World) (v : Value) (hs : List HP) : Prop :=
  (v = .slice none 0 0 ∧ hs = []) ∨ ∃ bb off cap, v = .slice (some ⟨bb, off, none⟩) hs.length cap ∧ bb < w.heap.size ∧ ∀ i (h : i < hs.length), w.cell? ⟨bb, off + i * 2, none⟩ = some (.string hs[i].n) ∧ w.cell? ⟨bb, off + i * 2 + 1, none⟩ = some (.string hs[i].v)
theorem HsIn.chg {S : Nat → Prop} {w w' : World} {v : Value} {hs : List HP} (h : HsIn w v hs) (hc : Chg S w w') (hsep : ∀ j, v.ownBlock = some j → ¬ S j) : HsIn w' v hs := by
  rcases h with h | ⟨bb, off, cap, rfl, h1, h2⟩
  · exact Or.inl h
  · refine Or.inr ⟨bb, off, cap, rfl, Nat.lt_of_lt_of_le h1 hc.size, fun i hi => ?_⟩
    rw [hc.cell (p := ⟨bb, off + i * 2, none⟩) h1 (hsep bb rfl), hc.cell (p := ⟨bb, off + i * 2 + 1, none⟩) h1 (hsep bb rfl)]
    exact h2 i hi
theorem HsIn.len {w : World} {v : Value} {hs : List HP} (h : HsIn w v hs) : ∃ sv cv, v = .slice sv hs.length cv := by
  rcases h with ⟨rfl, rfl⟩ | ⟨bb, off, cap, rfl, _⟩
  · exact ⟨_, _, rfl⟩
  · exact ⟨_, _, rfl⟩

theorem limsK_le {ls : List Nat} {lim : Nat} {l : List HP} : (limsK ls lim l).1.length ≤ ls.length * 1048580 ∨ ∃ x ∈ ls, 256 < x := by
  induction ls generalizing lim l with
  | nil => left; simp [limsK]
  | cons x r ih =>
    by_cases hx : 256 < x
    · exact Or.inr ⟨x, by simp, hx⟩
    · rcases ih (lim := x) (l := shr l x) with h | ⟨y, hy, h⟩
      · left
        have := cnt_len 32 5 x (by omega)
        simp only [limsK, List.length_append, List.length_cons]
        omega
      · exact Or.inr ⟨y, by simp [hy], h⟩
theorem limsK_take {ls : List Nat} (h : ∀ x ∈ ls, x ≤ 256) (k lim : Nat) (l : List HP) : (limsK (ls.take k) lim l).1.length ≤ ls.length * 1048580 := by
  rcases limsK_le (ls := ls.take k) (lim := lim) (l := l) with e | ⟨x, hx, e⟩
  · rw [List.length_take] at e
    exact Nat.le_trans e (Nat.mul_le_mul_right _ (by omega))
  · have := h x (List.mem_of_mem_take hx); omega
theorem txs_le (tab : List HP) (f k : Nat) (h : HP) (hl : tab.length ≤ 1048000) (hn : h.n.size ≤ 262144) (hv : h.v.size ≤ 262144) : (txs tab f k h).length ≤ 8388608 := by
  have h1 := nmF_le (numd tab) h.n
  rw [numd_length] at h1
  have h2 := cnt_len f k (nmF (numd tab) h.n) (by omega)
  have h3 := txt_le h.n.data.toList hn
  have h4 := txt_le h.v.data.toList hv
  unfold txs
  simp only [List.length_append]
  split
  · omega
  · simp; omega
theorem pairK_le (tab : List HP) (lim : Nat) (h : HP) (hl : tab.length ≤ 1048000) (hn : h.n.size ≤ 262144) (hv : h.v.size ≤ 262144) : (pairK tab lim h).1.length ≤ 8388608 := by
  unfold pairK
  split
  · split
    · exact txs_le _ _ _ _ hl hn hv
    · exact txs_le _ _ _ _ hl hn hv
  · have h1 := pnN_le (numd tab) h
    rw [numd_length] at h1
    have := cnt_len 128 7 (pnN (numd tab) h) (by omega)
    show (cnt 128 7 (pnN (numd tab) h)).length ≤ _
    omega
theorem pairK_fit {tab : List HP} {lim : Nat} {h : HP} (hf : szT tab ≤ lim) : szT (pairK tab lim h).2 ≤ lim := by
  unfold pairK
  split
  · split
    · exact hf
    · exact addT_size _ _ _ hf
  · exact hf
theorem pairsK_fit {hs : List HP} {tab : List HP} {lim : Nat} (hf : szT tab ≤ lim) : szT (pairsK hs tab lim).2 ≤ lim := by
  induction hs generalizing tab with
  | nil => exact hf
  | cons x r ih => simp only [pairsK]; exact ih (pairK_fit hf)
theorem pairsK_le {hs : List HP} {tab : List HP} {lim : Nat} (hf : szT tab ≤ lim) (hl : lim ≤ 256) (hh : ∀ h ∈ hs, h.n.size ≤ 262144 ∧ h.v.size ≤ 262144) : (pairsK hs tab lim).1.length ≤ hs.length * 8388608 := by
  induction hs generalizing tab with
  | nil => simp [pairsK]
  | cons x r ih =>
    have hx := hh x (by simp)
    have h1 := szT_len tab
    have h2 := pairK_le tab lim x (by omega) hx.1 hx.2
    have h3 := ih (tab := (pairK tab lim x).2) (pairK_fit hf) (fun y hy => hh y (by simp [hy]))
    simp only [pairsK, List.length_append, List.length_cons]
    omega
end Go.Proofs.YtghongdbohjaaaaGreatDoor
/-
  Package blocks: (*Packer).Pack, walked.
-/
namespace Go.Proofs.YtghongdbohjaaaaGreatDoor
set_option linter.unusedVariables false
set_option linter.unusedSimpArgs false
open Go.RowKit

/-- A packer behind Pack. -/
structure Packd (w w' : World) (pb : Nat) (tv : Value) (v : Value) (cs' : Array Value) (tv' : Value) (q : List UInt8 × Pk) : Prop where
  own : w'.ownsRow w.heap.size 5 1 v q.1.length (q.1.map B)
  st : PkS w' pb cs' tv' (.slice none 0 0) q.2
  chg : Chg (TouchT pb tv) w w'
  tfresh : ∀ j, tv'.ownBlock = some j → tv.ownBlock = some j ∨ w.heap.size ≤ j

theorem Pkd.gl {w w' : World} {v : Value} {l : List UInt8} {pb : Nat} {cs cs' : Array Value} {tP : TypeId} {lim : Nat} {tv tv' : Value} {tab' : List HP} (h : Pkd w w' pb cs cs' tP lim tv tv' tab' (.slice none 0 0) v l) (hg : Gl w) (hpb : 7 ≤ pb) (htv : ∀ j, tv.ownBlock = some j → 7 ≤ j) : Gl w' := by
  refine hg.chg h.chg ?_
  rintro j hj (e | e | e)
  · simp [Value.ownBlock] at e
  · omega
  · have := htv j e; omega
theorem Pkd.gg {w w' : World} {v : Value} {l : List UInt8} {pb : Nat} {cs cs' : Array Value} {tP : TypeId} {lim : Nat} {tv tv' : Value} {tab' : List HP} (h : Pkd w w' pb cs cs' tP lim tv tv' tab' (.slice none 0 0) v l) (hg : Gl w) : ∀ j, v.ownBlock = some j → 7 ≤ j := fun j hj => by
  rcases h.fresh j hj with e | e
  · simp [Value.ownBlock] at e
  · exact Nat.le_trans hg.lt e
theorem Pkd.alloc {w w' : World} {gv v : Value} {l : List UInt8} {pb : Nat} {cs cs' : Array Value} {tP : TypeId} {lim : Nat} {tv tv' : Value} {tab' : List HP} (h : Pkd w w' pb cs cs' tP lim tv tv' tab' gv v l) (o : Obj) : Pkd w (w'.alloc o) pb cs cs' tP lim tv tv' tab' gv v l :=
  ⟨h.own.alloc _, h.st.below ((Below.refl _ _).alloc (Nat.le_refl _) _), h.cs3, h.chg.alloc o, h.fresh, h.tfresh⟩

set_option maxRecDepth 100000 in
set_option maxHeartbeats 800000 in
theorem bPack_any (pb : Nat) (cs : Array Value) (tv lv : Value) (p : Pk) (sv : Value) (hs : List HP) (w : World) (hgl : Gl w) (h : PkS w pb cs tv lv p) (hin : HsIn w sv hs) (hsep : ∀ j, sv.ownBlock = some j → ¬ TouchT pb tv j) (hlen : hs.length ≤ 8) (hok : ∀ h ∈ hs, h.n.size ≤ 262144 ∧ h.v.size ≤ 262144) (hpb : 7 ≤ pb) (htv : ∀ j, tv.ownBlock = some j → 7 ≤ j) :
    Calls Tryz.prog 79 #[.pointer (some ⟨pb, 0, none⟩), sv] w fun e w' => ∃ v cs' tv', e = .returned v ∧ Packd w w' pb tv v cs' tv' (p.pack hs) := by
  obtain ⟨lim, tab, wait⟩ := p
  have hst : TbS w pb cs 177 lim tv tab := h.st
  have hlr : w.ownsRow 0 3 1 lv wait.length (nCells wait) := h.row
  have hfw : wait.length ≤ 2 := h.few
  have hwo : ∀ x ∈ wait, x ≤ 256 := h.ok
  obtain ⟨sl, cl, hlv⟩ := slice_len hlr
  subst hlv
  obtain ⟨ss, cc, hsv⟩ := hin.len
  subst hsv
  have c3 : w.cell? ⟨pb, 3, none⟩ = some (.slice sl wait.length cl) := by rw [cell_of_row w pb _ _ _ _ hst.tb.blk]; exact h.c3
  have hpl := hst.tb.lt
  have hpk : (Pk.mk lim tab wait).pack hs = ((limsK wait lim tab).1 ++ (pairsK hs (limsK wait lim tab).2.2 (limsK wait lim tab).2.1).1, ⟨(limsK wait lim tab).2.1, (pairsK hs (limsK wait lim tab).2.2 (limsK wait lim tab).2.1).2, []⟩) := rfl
  have h0 : Pkd w w pb cs cs 177 (limsK (wait.take 0) lim tab).2.1 tv tv (limsK (wait.take 0) lim tab).2.2 (.slice none 0 0) (.slice none 0 0) (limsK (wait.take 0) lim tab).1 := ⟨World.ownsRow_nil _ _ _ _, hst, fun _ _ => rfl, Chg.refl _ _, fun j hj => Or.inl hj, fun j hj => Or.inl hj⟩
  have hc30 : cs[3]? = some (.slice sl wait.length cl) := h.c3
  have H0 := hide h0
  have HST := hide hst
  have HLR := hide hlr
  have HWO := hide hwo
  have HPK := hide hpk
  have HIN := hide hin
  have HSEP := hide hsep
  have HOK := hide hok
  have HTV := hide htv
  have HGL := hide hgl
  have HC3 := hide hc30
  clear hst hlr hwo hpk hin hsep hok htv hgl h0 h hc30
  go_enter Tryz.func79, Tryz.ntmps79
  go_wp2
  go_loopw [5, 15] (fun b i wr => ∃ k cs1 tv1, i = .int .i64 ((k : Nat) : Int) ∧ k ≤ wait.length ∧ Pkd w wr pb cs cs1 177 (limsK (wait.take k) lim tab).2.1 tv tv1 (limsK (wait.take k) lim tab).2.2 (.slice none 0 0) b (limsK (wait.take k) lim tab).1) (fun _ i _ => wait.length - (intOf i).toNat)
  case atStart => exact ⟨0, cs, tv, rfl, Nat.zero_le _, H0.out⟩
  case round =>
    obtain ⟨k, cs1, tv1, rfl, hk, hr⟩ := hrel
    have hg1 := hr.gl HGL.out hpb HTV.out
    have hgg1 := hr.gg HGL.out
    have hll := limsK_take HWO.out k lim tab
    by_cases hlt : k < wait.length
    · have hw1 : wr.ownsRow 0 3 1 (.slice sl wait.length cl) wait.length (nCells wait) := owns_chg HLR.out hr.chg (by
        rintro j hj (e | e | e)
        · simp [Value.ownBlock] at e
        · subst e; exact owns_ne HLR.out HST.out.tb.blk (by decide) hj
        · exact rows_ne HLR.out HST.out.row (by decide) hj e)
      obtain ⟨g, hgs, hcl⟩ := slice_some hw1 (by omega)
      subst hgs
      have d0 : wr.cell? ⟨g, k, none⟩ = some (.int .i64 (wait[k] : Int)) := by rw [hw1.cellAt k (by simp [nCells]; omega)]; simp [nCells, hlt]
      have hx := HWO.out wait[k] (List.getElem_mem _)
      have hnx := limsK_next hlt lim tab
      obtain ⟨g0, g1⟩ := hg1.lim
      obtain ⟨Q, hQ⟩ : ∃ Q, Q = limsK (wait.take k) lim tab := ⟨_, rfl⟩
      rw [← hQ] at hr hnx hll
      clear hQ
      obtain ⟨qb, ql, qt⟩ := Q
      simp only at hr hnx hll
      generalize wait[k] = x at d0 hx hnx
      have HR := hide hr
      have HNX := hide hnx
      have HGG1 := hide hgg1
      have hac := appendCount_any 32 5 x u5 qb wr hr.own (by omega) (by omega) (by decide) (by decide) (by omega)
      have HAC := hide hac
      clear hw1 hg1 hgg1 hnx hac hr
      go_wp2_with fail
      refine HAC.out.mono ?_
      rintro e w2 ⟨v2, rfl, hl2⟩
      have hr2 := HR.out.lay hl2 (by decide)
      have hrz := tresize_any pb cs1 177 ql tv1 qt x w2 hr2.st hx
      have HR2 := hide hr2
      have HRZ := hide hrz
      clear hl2 hr2 hrz
      go_wp2_with fail
      refine HRZ.out.mono ?_
      rintro e w3 ⟨rfl, cs3, tv3, h3⟩
      have HR3 := hide (HR2.out.turn h3 (by decide))
      clear h3
      go_wp2
      go_roundw
      case rel => exact ⟨k + 1, cs3, tv3, by go_num, by omega, by rw [HNX.out]; exact HR3.out⟩
      case measure => simp [intOf]; omega
    · have hke : k = wait.length := by omega
      subst hke
      rw [List.take_length] at hr hll
      obtain ⟨Q, hQ⟩ : ∃ Q, Q = limsK wait lim tab := ⟨_, rfl⟩
      have hpk := HPK.out
      rw [← hQ] at hr hll hpk
      clear hQ
      obtain ⟨qb, ql, qt⟩ := Q
      simp only at hr hll hpk
      have c3' : wr.cell? ⟨pb, 3, none⟩ = some (.slice sl wait.length cl) := by rw [cell_of_row wr pb _ _ _ _ hr.st.tb.blk, hr.cs3 3 (by decide)]; exact HC3.out
      have f3 := hr.st.tb.free 3
      have hc9 : Chg (fun j => j = pb) wr (wr.setCell ⟨pb, 3, none⟩ (.slice none 0 0)) := (Chg.refl (fun j => j = pb) wr).setCell (p := ⟨pb, 3, none⟩) (Or.inr rfl) _
      have hr9 : Pkd w (wr.setCell ⟨pb, 3, none⟩ (.slice none 0 0)) pb (cs.setIfInBounds 3 (.slice none 0 0)) (cs1.setIfInBounds 3 (.slice none 0 0)) 177 ql tv tv1 qt (.slice none 0 0) u5 qb := by
        refine ⟨owns_chg hr.own hc9 (fun j hj e => by subst e; exact owns_ne hr.own hr.st.tb.blk (by decide) hj), ⟨⟨block_setCell hr.st.tb.blk, by rw [set_ne (by decide)]; exact hr.st.tb.c0, by rw [set_ne (by decide)]; exact hr.st.tb.c1, by rw [set_ne (by decide)]; exact hr.st.tb.c2, hr.st.tb.ne⟩, owns_chg hr.st.row hc9 (fun j hj e => by subst e; exact owns_ne hr.st.row hr.st.tb.blk (by decide) hj), hr.st.fit, hr.st.small⟩, fun i hi => ?_, hr.chg.setCell (p := ⟨pb, 3, none⟩) (Or.inr (Or.inr (Or.inl rfl))) _, hr.fresh, hr.tfresh⟩
        by_cases h3 : i = 3
        · subst h3
          rw [set_get HC3.out, set_get ((hr.cs3 3 (by decide)).trans HC3.out)]
        · rw [set_ne (by omega), set_ne (by omega)]
          exact hr.cs3 i hi
      have hfit : szT qt ≤ ql := hr.st.fit
      have hsm : ql ≤ 256 := hr.st.small
      have HR9 := hide hr9
      have HPK2 := hide hpk
      clear hr hg1 hgg1 hc9 hr9 hpk
      go_wp2
      go_loopw [5, 34] (fun b i wr => ∃ k cs2 tv2, i = .int .i64 ((k : Nat) : Int) ∧ k ≤ hs.length ∧ Pkd w wr pb (cs.setIfInBounds 3 (.slice none 0 0)) cs2 177 ql tv tv2 (pairsK (hs.take k) qt ql).2 (.slice none 0 0) b (qb ++ (pairsK (hs.take k) qt ql).1)) (fun _ i _ => hs.length - (intOf i).toNat)
      case atStart => exact ⟨0, _, _, rfl, Nat.zero_le _, by simpa [pairsK] using HR9.out⟩
      case round =>
        obtain ⟨k, cs2, tv2, rfl, hk2, hr2⟩ := hrel
        have hg2 := hr2.gl HGL.out hpb HTV.out
        have hgg2 := hr2.gg HGL.out
        by_cases hlt2 : k < hs.length
        · have hin2 : HsIn wr (.slice ss hs.length cc) hs := HIN.out.chg hr2.chg (by
            rintro j hj (e | e)
            · simp [Value.ownBlock] at e
            · exact HSEP.out j hj e)
          rcases hin2 with ⟨h1, h2⟩ | ⟨bb, off, cap, h1, h2, h3⟩
          · rw [h2] at hlt2; simp at hlt2
          · simp only [Value.slice.injEq, true_and] at h1
            obtain ⟨hss, hcc⟩ := h1
            subst hss hcc
            obtain ⟨d0, d1⟩ := h3 k hlt2
            obtain ⟨o1, o2⟩ := HOK.out hs[k] (List.getElem_mem _)
            have hnx := pairsK_next hlt2 qt ql
            have hlb := pairsK_le (hs := hs.take k) (tab := qt) (lim := ql) hfit hsm (fun y hy => HOK.out y (List.mem_of_mem_take hy))
            rw [List.length_take] at hlb
            obtain ⟨Q2, hQ2⟩ : ∃ Q2, Q2 = pairsK (hs.take k) qt ql := ⟨_, rfl⟩
            rw [← hQ2] at hr2 hnx hlb
            clear hQ2
            obtain ⟨rb, rt⟩ := Q2
            simp only at hr2 hnx hlb
            have hll2 : (qb ++ rb).length ≤ 134217728 := by rw [List.length_append]; omega
            obtain ⟨LB, hLB⟩ : ∃ LB, LB = qb ++ rb := ⟨_, rfl⟩
            rw [← hLB] at hr2 hll2
            generalize hs[k] = x at d0 d1 o1 o2 hnx
            obtain ⟨xn, xv⟩ := x
            simp only at d0 d1 o1 o2
            have hra := hr2.alloc (.cells #[.string xn, .string xv] 62)
            have hap := appendPair_any pb cs2 177 ql tv2 rt ⟨xn, xv⟩ u5 LB (wr.alloc (.cells #[.string xn, .string xv] 62)) (hra.gl HGL.out hpb HTV.out) hra.st (by decide) hra.own hgg2 hll2 o1 o2
            have HRA := hide hra
            have HAP := hide hap
            have HNX := hide hnx
            have HLB := hide hLB
            clear hra hap hnx hr2 hg2 hgg2 h3 hLB
            go_wp2_with fail
            refine HAP.out.mono ?_
            rintro e w2 ⟨v2, cs4, tv4, rfl, h4⟩
            have HR4 := hide (HRA.out.trans h4)
            clear h4
            go_wp2
            go_roundw
            case rel =>
              refine ⟨k + 1, cs4, tv4, by go_num, by omega, ?_⟩
              rw [HNX.out]
              have h9 := HR4.out
              rw [HLB.out, List.append_assoc] at h9
              exact h9
            case measure => simp [intOf]; omega
        · have hke : k = hs.length := by omega
          subst hke
          rw [List.take_length] at hr2
          have HR2 := hide hr2
          clear hr2 hg2 hgg2
          go_wp2
          go_ret
          refine ⟨u5, cs2, tv2, rfl, ?_⟩
          rw [HPK2.out]
          have h9 := HR2.out
          refine ⟨owns_base h9.own (fun j hj => ?_), ⟨h9.st, ?_, World.ownsRow_nil _ _ _ _, by simp, by simp⟩, h9.chg.mono ?_, h9.tfresh⟩
          · rcases h9.fresh j hj with e | e
            · simp [Value.ownBlock] at e
            · exact e
          · rw [h9.cs3 3 (by decide)]
            exact set_get HC3.out
          · rintro j _ (e | e)
            · simp [Value.ownBlock] at e
            · exact e
end Go.Proofs.YtghongdbohjaaaaGreatDoor
/-
  Package blocks: IsList; package sluice: NewPacker, Pack, Size, Resize refused.
-/
namespace Go.Proofs.YtghongdbohjaaaaGreatDoor
set_option linter.unusedVariables false
set_option linter.unusedSimpArgs false
open Go.RowKit

def badI (hs : List HP) (k : Nat) : Int := match (hs.drop k).findIdx? (fun h => !prB h) with
  | some i => ((k + i : Nat) : Int)
  | none => -1
theorem badI_hit {hs : List HP} {k : Nat} (h : k < hs.length) (hb : prB hs[k] = false) : badI hs k = k := by
  unfold badI
  rw [List.drop_eq_getElem_cons h, List.findIdx?_cons, hb]
  simp
theorem badI_miss {hs : List HP} {k : Nat} (h : k < hs.length) (hb : prB hs[k] = true) : badI hs k = badI hs (k + 1) := by
  unfold badI
  rw [List.drop_eq_getElem_cons h, List.findIdx?_cons, hb]
  cases hx : (hs.drop (k + 1)).findIdx? (fun h => !prB h) with
  | none => simp
  | some i => simp; omega
theorem badI_end {hs : List HP} {k : Nat} (h : hs.length ≤ k) : badI hs k = -1 := by
  unfold badI
  rw [List.drop_of_length_le h]
  rfl
theorem badI_all (hs : List HP) : decide (0 ≤ badI hs 0) = !hs.all prB := by
  unfold badI
  rw [List.drop_zero]
  cases hx : hs.findIdx? (fun h => !prB h) with
  | none =>
    have := List.findIdx?_eq_none_iff.1 hx
    have h2 : hs.all prB = true := by
      rw [List.all_eq_true]
      intro x hm
      have := this x hm
      simpa using this
    rw [h2]
    decide
  | some i =>
    obtain ⟨h1, h2, _⟩ := List.findIdx?_eq_some_iff_getElem.1 hx
    have h3 : hs.all prB = false := by
      rw [List.all_eq_false]
      exact ⟨_, List.getElem_mem h1, by simpa using h2⟩
    rw [h3]
    simp
    try omega

set_option maxRecDepth 100000 in
set_option maxHeartbeats 800000 in
theorem indexFunc_any (v : Value) (hs : List HP) (w : World) (hin : HsIn w v hs) (hl : hs.length ≤ 1099511627776) (hok : ∀ h ∈ hs, h.n.size ≤ 281474976710656 ∧ h.v.size ≤ 281474976710656) :
    Calls Tryz.prog 209 #[v, .func (.func 137) #[] #[]] w fun e w' => e = .returned (.int .i64 (badI hs 0)) ∧ Below w.heap.size w w' := by
  obtain ⟨ss, cc, hsv⟩ := hin.len
  subst hsv
  have HIN := hide hin
  have HOK := hide hok
  clear hin hok
  go_enter Tryz.func209, Tryz.ntmps209
  go_wp2
  go_loopw [8] (fun i wr => ∃ k : Nat, i = .int .i64 (k : Int) ∧ k ≤ hs.length ∧ badI hs 0 = badI hs k ∧ Below w.heap.size w wr) (fun i _ => hs.length - (intOf i).toNat)
  case atStart => exact ⟨0, rfl, Nat.zero_le _, rfl, Below.refl _ _⟩
  case round =>
    obtain ⟨k, rfl, hk, heq, hbel⟩ := hrel
    by_cases hlt : k < hs.length
    · rcases HIN.out.chg (Chg.of_below (S := fun _ => False) hbel) (fun _ _ => id) with ⟨h1, h2⟩ | ⟨bb, off, cap, h1, h2, h3⟩
      · rw [h2] at hlt; simp at hlt
      · simp only [Value.slice.injEq, true_and] at h1
        obtain ⟨hss, hcc⟩ := h1
        subst hss hcc
        obtain ⟨d0, d1⟩ := h3 k hlt
        obtain ⟨o1, o2⟩ := HOK.out hs[k] (List.getElem_mem _)
        have hhit := fun hb => badI_hit hlt hb
        have hmis := fun hb => badI_miss hlt hb
        generalize hs[k] = x at d0 d1 o1 o2 hhit hmis
        have hbp := fun wx => breaksPair_any x wx o1 o2
        cases hpx : prB x with
        | true =>
          rw [hpx] at hbp
          have HBP := hide hbp
          have HMIS := hide (heq.trans (hmis hpx))
          have HB := hide hbel
          obtain ⟨xn, xv⟩ := x
          simp only at d0 d1 HBP
          clear hbp hhit hmis heq hbel h3
          go_wp2_with fail
          refine (HBP.out _).mono ?_
          rintro e w1 ⟨rfl, hb1⟩
          have HB1 := hide (HB.out.trans (hb1.mono HB.out.size))
          clear hb1
          go_wp2
          go_roundw
          case rel => exact ⟨k + 1, by go_num, by omega, HMIS.out, HB1.out⟩
          case measure => simp [intOf]; omega
        | false =>
          rw [hpx] at hbp
          have HBP := hide hbp
          have HHIT := hide (heq.trans (hhit hpx))
          have HB := hide hbel
          obtain ⟨xn, xv⟩ := x
          simp only at d0 d1 HBP
          clear hbp hhit hmis heq hbel h3
          go_wp2_with fail
          refine (HBP.out _).mono ?_
          rintro e w1 ⟨rfl, hb1⟩
          have HB1 := hide (HB.out.trans (hb1.mono HB.out.size))
          clear hb1
          go_wp2
          go_ret
          refine ⟨?_, HB1.out⟩
          rw [HHIT.out]
          try rfl
    · have HEQ := hide heq
      have HB := hide hbel
      clear heq hbel
      go_wp2
      go_ret
      refine ⟨?_, HB.out⟩
      rw [HEQ.out, badI_end (by omega)]
      try rfl

set_option maxRecDepth 100000 in
set_option maxHeartbeats 800000 in
theorem containsFunc_any (v : Value) (hs : List HP) (w : World) (hin : HsIn w v hs) (hl : hs.length ≤ 1099511627776) (hok : ∀ h ∈ hs, h.n.size ≤ 281474976710656 ∧ h.v.size ≤ 281474976710656) :
    Calls Tryz.prog 136 #[v, .func (.func 137) #[] #[]] w fun e w' => e = .returned (.bool (!hs.all prB)) ∧ Below w.heap.size w w' := by
  have hix := indexFunc_any v hs w hin hl hok
  have hall := badI_all hs
  generalize badI hs 0 = J at hix hall
  have HIX := hide hix
  have HALL := hide hall
  clear hix hall hin hok
  go_enter Tryz.func136, Tryz.ntmps136
  go_wp2_with fail
  refine HIX.out.mono ?_
  rintro e w1 ⟨rfl, hb1⟩
  have HB1 := hide hb1
  clear hb1
  go_wp2
  go_ret
  refine ⟨ret_bool ?_, HB1.out⟩
  rw [← HALL.out]

set_option maxRecDepth 100000 in
set_option maxHeartbeats 800000 in
theorem isList_any (v : Value) (hs : List HP) (w : World) (hin : HsIn w v hs) (hl : hs.length ≤ 1099511627776) (hok : ∀ h ∈ hs, h.n.size ≤ 281474976710656 ∧ h.v.size ≤ 281474976710656) :
    Calls Tryz.prog 78 #[v] w fun e w' => e = .returned (.bool (listB hs)) ∧ Below w.heap.size w w' := by
  have hcf := containsFunc_any v hs w hin hl hok
  have hlb : listB hs = (decide (hs.length ≤ 8) && hs.all prB) := rfl
  obtain ⟨ss, cc, hsv⟩ := hin.len
  subst hsv
  have HCF := hide hcf
  have HLB := hide hlb
  clear hcf hlb hin hok
  by_cases h8 : hs.length ≤ 8
  · go_enter Tryz.func78, Tryz.ntmps78
    go_wp2_with fail
    refine HCF.out.mono ?_
    rintro e w1 ⟨rfl, hb1⟩
    have HB1 := hide hb1
    clear hb1
    go_wp2
    go_ret
    refine ⟨ret_bool ?_, HB1.out⟩
    rw [HLB.out]
    simp [h8]
    try omega
  · go_enter Tryz.func78, Tryz.ntmps78
    go_wp2
    go_ret
    refine ⟨ret_bool ?_, Below.refl _ _⟩
    rw [HLB.out]
    simp [h8]
    try omega

set_option maxRecDepth 100000 in
set_option maxHeartbeats 800000 in
theorem bNewPacker_any (n : Int) (w : World) : Calls Tryz.prog 73 #[.int .i64 n] w fun e w' => e = .returned (.agg #[.int .i64 n, .int .i64 0, .slice none 0 0, .slice none 0 0]) ∧ Below w.heap.size w w' := by
  go_enter Tryz.func73, Tryz.ntmps73
  go_wp2
  refine bodyPost_ret (v := .agg #[.int .i64 n, .int .i64 0, .slice none 0 0, .slice none 0 0]) ?_ rfl ⟨rfl, ?_⟩
  · simp [results, Tryz.results73, go_sem]
  · exact (Below.refl _ _).alloc (Nat.le_refl _) _
/-- A new packer. -/
def newCs (n : Nat) : Array Value := #[.int .i64 (n : Int), .int .i64 0, .slice none 0 0, .slice none 0 0]
set_option maxRecDepth 100000 in
set_option maxHeartbeats 800000 in
theorem newPacker_ok (n : Nat) (w : World) (hn : n ≤ 256) : Calls Tryz.prog 33 #[.int .i64 n] w fun e w' => ∃ pb, e = .returned (.tuple #[.pointer (some ⟨pb, 0, none⟩), .int .i64 0]) ∧ w.heap.size ≤ pb ∧ Below w.heap.size w w' ∧ PkS w' pb (newCs n) (.slice none 0 0) (.slice none 0 0) ⟨n, [], []⟩ := by
  have hlf := limitFits_any (n : Int) w
  have hlb : limB (n : Int) = true := by simp [limB]; omega
  rw [hlb] at hlf
  have HLF := hide hlf
  have HNP := hide (fun wx => bNewPacker_any (n : Int) wx)
  clear hlf hlb
  go_enter Tryz.func33, Tryz.ntmps33
  go_wp2_with fail
  refine HLF.out.mono ?_
  rintro e w1 ⟨rfl, hw1⟩
  rw [hw1]
  clear hw1 w1
  go_wp2_with fail
  refine (HNP.out _).mono ?_
  rintro e w1 ⟨rfl, hb1⟩
  have HB1 := hide hb1
  clear hb1
  go_wp2
  refine bodyPost_ret (v := .tuple #[.pointer (some ⟨w1.heap.size, 0, none⟩), .int .i64 0]) ?_ rfl ⟨w1.heap.size, rfl, HB1.out.size, HB1.out.trans (((Below.refl _ _).alloc (Nat.le_refl _) _).mono HB1.out.size), ?_⟩
  · simp [results, Tryz.results33, go_sem]
  · exact ⟨⟨⟨heap_alloc_new w1 _, rfl, rfl, rfl, by decide⟩, World.ownsRow_nil _ _ _ _, Nat.zero_le _, hn⟩, rfl, World.ownsRow_nil _ _ _ _, by simp, by simp⟩

theorem prB_ok {h : HP} (hp : prB h = true) : okH h := by
  unfold prB at hp
  simp only [Bool.and_eq_true, decide_eq_true_eq, Bool.not_eq_true', ] at hp
  obtain ⟨⟨h1, h2⟩, h3⟩ := hp
  refine ⟨?_, h2, h3⟩
  rcases Nat.eq_zero_or_pos h.n.size with h0 | h0
  · have : h.n = ⟨#[]⟩ := by
      apply ByteArray.ext
      exact Array.eq_empty_of_size_eq_zero h0
    rw [this, ba_toList] at h1
    exact absurd h1 (by decide)
  · exact h0
set_option maxRecDepth 100000 in
set_option maxHeartbeats 800000 in
theorem pack_ok (pb : Nat) (cs : Array Value) (tv lv : Value) (p : Pk) (sv : Value) (hs : List HP) (w : World) (hgl : Gl w) (h : PkS w pb cs tv lv p) (hin : HsIn w sv hs) (hsep : ∀ j, sv.ownBlock = some j → ¬ TouchT pb tv j) (hlist : listB hs = true) (hpb : 7 ≤ pb) (htv : ∀ j, tv.ownBlock = some j → 7 ≤ j) :
    Calls Tryz.prog 40 #[.pointer (some ⟨pb, 0, none⟩), sv] w fun e w' => ∃ v cs' tv', e = .returned (.tuple #[v, .int .i64 0]) ∧ Packd w w' pb tv v cs' tv' (p.pack hs) := by
  have hl8 : hs.length ≤ 8 := by unfold listB at hlist; simp at hlist; exact hlist.1
  have hall : ∀ h ∈ hs, okH h := fun x hx => prB_ok (by unfold listB at hlist; simp at hlist; exact hlist.2 x hx)
  have hil := isList_any sv hs w hin (by omega) (fun x hx => by have := hall x hx; exact ⟨by have := this.2.1; omega, by have := this.2.2; omega⟩)
  rw [hlist] at hil
  have HIL := hide hil
  have HBP := hide (fun wx (hb : Below w.heap.size w wx) => bPack_any pb cs tv lv p sv hs wx (hgl.below hb) ⟨h.st.below hb, h.c3, owns_chg h.row (Chg.of_below (S := fun _ => False) hb) (fun _ _ => id), h.few, h.ok⟩ (hin.chg (Chg.of_below (S := fun _ => False) hb) (fun _ _ => id)) hsep hl8 (fun x hx => by have := hall x hx; exact ⟨by have := this.2.1; omega, by have := this.2.2; omega⟩) hpb htv)
  clear hil hall hin hsep hgl h htv
  go_enter Tryz.func40, Tryz.ntmps40
  go_wp2_with fail
  refine HIL.out.mono ?_
  rintro e w1 ⟨rfl, hb1⟩
  have HB1 := hide hb1
  clear hb1
  go_wp2_with fail
  refine (HBP.out w1 HB1.out).mono ?_
  rintro e w2 ⟨v, cs', tv', rfl, hp⟩
  have HP := hide hp
  clear hp
  go_wp2
  refine bodyPost_ret (v := .tuple #[v, .int .i64 0]) ?_ rfl ⟨v, cs', tv', rfl, ?_⟩
  · simp [results, Tryz.results40, go_sem]
  · have h9 := HP.out
    exact ⟨owns_base h9.own (fun j hj => Nat.le_trans HB1.out.size (h9.own.lt j hj).1), h9.st, (Chg.of_below HB1.out).trans (h9.chg.mono fun _ _ e => Or.inr e), fun j hj => (h9.tfresh j hj).imp_right fun e => Nat.le_trans HB1.out.size e⟩
set_option maxRecDepth 100000 in
set_option maxHeartbeats 800000 in
theorem pack_no (pb : Nat) (sv : Value) (hs : List HP) (w : World) (hin : HsIn w sv hs) (hlist : listB hs = false) (hl : hs.length ≤ 1099511627776) (hok : ∀ h ∈ hs, h.n.size ≤ 281474976710656 ∧ h.v.size ≤ 281474976710656) :
    Calls Tryz.prog 40 #[.pointer (some ⟨pb, 0, none⟩), sv] w fun e w' => e = .returned (.tuple #[.slice none 0 0, .int .i64 2]) ∧ Below w.heap.size w w' := by
  have hil := isList_any sv hs w hin hl hok
  rw [hlist] at hil
  have HIL := hide hil
  clear hil hin hok
  go_enter Tryz.func40, Tryz.ntmps40
  go_wp2_with fail
  refine HIL.out.mono ?_
  rintro e w1 ⟨rfl, hb1⟩
  have HB1 := hide hb1
  clear hb1
  go_wp2
  refine bodyPost_ret (v := .tuple #[.slice none 0 0, .int .i64 2]) ?_ rfl ⟨rfl, HB1.out⟩
  simp [results, Tryz.results40, go_sem]
theorem hsIn_of_owns {w : World} {b : Nat} {v : Value} {hs : List HP} (h : w.ownsRow b 62 2 v hs.length (hpCells hs)) : HsIn w v hs := by
  rcases h.2 with ⟨rfl, h0⟩ | ⟨g, cap, cur, rfl, _, hgg, hle, _⟩
  · exact Or.inl ⟨rfl, List.eq_nil_of_length_eq_zero h0⟩
  · refine Or.inr ⟨g, 0, cap, rfl, lt_of_block hgg, fun i hi => ?_⟩
    obtain ⟨e0, e1⟩ := hpCells_get hi
    rw [Nat.zero_add, h.cellAt _ (by have := hpCells_length hs; omega), h.cellAt _ (by have := hpCells_length hs; omega)]
    exact ⟨e0, e1⟩
end Go.Proofs.YtghongdbohjaaaaGreatDoor
/-
  Package sluice: Size and Resize of a packer; what is refused.
-/
namespace Go.Proofs.YtghongdbohjaaaaGreatDoor
set_option linter.unusedVariables false
set_option linter.unusedSimpArgs false
open Go.RowKit

set_option maxRecDepth 100000 in
set_option maxHeartbeats 400000 in
theorem bPSize_any (pb : Nat) (cs : Array Value) (tP : TypeId) (lim : Nat) (tv : Value) (tab : List HP) (w : World) (h : TbS w pb cs tP lim tv tab) : Calls Tryz.prog 75 #[.pointer (some ⟨pb, 0, none⟩)] w fun e w' => e = .returned (.int .i64 (szT tab : Int)) ∧ w' = w := by
  obtain ⟨-, z1, -⟩ := h.tb.cells
  clear h
  go_enter Tryz.func75, Tryz.ntmps75
  go_wp2
  go_ret
  exact ⟨rfl, rfl⟩
set_option maxRecDepth 100000 in
set_option maxHeartbeats 400000 in
theorem psize_any (pb : Nat) (cs : Array Value) (tP : TypeId) (lim : Nat) (tv : Value) (tab : List HP) (w : World) (h : TbS w pb cs tP lim tv tab) : Calls Tryz.prog 37 #[.pointer (some ⟨pb, 0, none⟩)] w fun e w' => e = .returned (.int .i64 (szT tab : Int)) ∧ w' = w := by
  have H := hide (bPSize_any pb cs tP lim tv tab w h)
  clear h
  go_enter Tryz.func37, Tryz.ntmps37
  go_wp2_with fail
  refine H.out.mono ?_
  rintro e w1 ⟨rfl, hw1⟩
  rw [hw1]
  clear hw1 w1
  go_wp2
  go_ret
  exact ⟨rfl, rfl⟩
/-- What waits, as cells. -/
theorem nCells_get {l : List Nat} {i : Nat} (h : i < l.length) : (nCells l)[i]? = some (.int .i64 (l[i] : Int)) := by
  unfold nCells; simp [h]
theorem rz_end {w : World} {pb : Nat} {cs : Array Value} {tv lv : Value} {lim : Nat} {tab : List HP} {wait ls : List Nat} {k : Nat} {ar : Array Value} (h : PkS w pb cs tv lv ⟨lim, tab, wait⟩) (har : ar = (nCells ls).toArray) (hk : ls.length = k) (hk2 : k ≤ 2) (hok : ∀ x ∈ ls, x ≤ 256) :
    PkS ((w.alloc (.cells ar 3)).setCell ⟨pb, 3, none⟩ (.slice (some ⟨w.heap.size, 0, none⟩) k k)) pb (cs.setIfInBounds 3 (.slice (some ⟨w.heap.size, 0, none⟩) k k)) tv (.slice (some ⟨w.heap.size, 0, none⟩) k k) ⟨lim, tab, ls⟩ ∧ Chg (fun j => j = pb) w ((w.alloc (.cells ar 3)).setCell ⟨pb, 3, none⟩ (.slice (some ⟨w.heap.size, 0, none⟩) k k)) := by
  have hlt := h.st.tb.lt
  have hcA : Chg (fun _ => False) w (w.alloc (.cells ar 3)) := (Chg.refl _ _).alloc _
  have hstA := h.st.chg hcA id (fun _ _ => id)
  have hc : Chg (fun j => j = pb) (w.alloc (.cells ar 3)) ((w.alloc (.cells ar 3)).setCell ⟨pb, 3, none⟩ (.slice (some ⟨w.heap.size, 0, none⟩) k k)) := (Chg.refl (fun j => j = pb) _).setCell (p := ⟨pb, 3, none⟩) (Or.inr rfl) _
  have hln : (nCells ls).length = k := by unfold nCells; simp [hk]
  have hrow : (w.alloc (.cells ar 3)).ownsRow 0 3 1 (.slice (some ⟨w.heap.size, 0, none⟩) k k) ls.length (nCells ls) := by
    have := World.ownsRow_lit (base := 0) (e := 3) (size := 1) w ar k (Nat.zero_le _) (by unfold maxLen; omega) (by rw [har]; simp [hln])
    rw [hk]
    simpa [har] using this
  have htn := owns_ne hstA.row hstA.tb.blk (fun e => hstA.tb.ne e.symm)
  refine ⟨⟨⟨⟨block_setCell (i := 3) hstA.tb.blk, ?_, ?_, ?_, hstA.tb.ne⟩, owns_chg hstA.row hc (fun j hj e => htn (e ▸ hj)), h.st.fit, h.st.small⟩, set_get h.c3, owns_chg hrow hc (fun j hj e => ?_), by show ls.length ≤ 2; omega, hok⟩, ?_⟩
  · rw [set_ne (by omega)]; exact h.st.tb.c0
  · rw [set_ne (by omega)]; exact h.st.tb.c1
  · rw [set_ne (by omega)]; exact h.st.tb.c2
  · simp [Value.ownBlock] at hj; omega
  · exact (hcA.mono fun _ _ e => e.elim).trans (hc.mono fun j _ e => Or.inr e)
set_option maxRecDepth 100000 in
set_option maxHeartbeats 800000 in
theorem bResize_any (pb : Nat) (cs : Array Value) (tv lv : Value) (p : Pk) (n : Nat) (w : World) (h : PkS w pb cs tv lv p) (hn : n ≤ 256) :
    Calls Tryz.prog 74 #[.pointer (some ⟨pb, 0, none⟩), .int .i64 n] w fun e w' => e = .returned (.tuple #[]) ∧ ∃ cs' lv', PkS w' pb cs' tv lv' (p.resize n) ∧ Chg (fun j => j = pb) w w' ∧ ∀ j, lv'.ownBlock = some j → w.heap.size ≤ j := by
  have c3 : w.cell? ⟨pb, 3, none⟩ = some lv := by rw [cell_of_row _ _ _ _ _ _ h.st.tb.blk]; exact h.c3
  have f3 := h.st.tb.free 3
  obtain ⟨lim, tab, wait⟩ := p
  have hrow := h.row
  have hfew := h.few
  have hok := h.ok
  simp only at hrow hfew hok
  have c3a : ∀ o, (w.alloc o).cell? ⟨pb, 3, none⟩ = some lv := fun o => (((Chg.refl (fun _ => False) w).alloc o).cell (p := ⟨pb, 3, none⟩) h.st.tb.lt id).trans c3
  have f3a : ∀ o, (w.alloc o).frozen? ⟨pb, 3, none⟩ = false := fun o => (h.st.tb.chg ((Chg.refl (fun _ => False) w).alloc o) id).free 3
  obtain ⟨sl, cl, hlv⟩ := slice_len hrow
  subst hlv
  have H := hide h
  clear h
  cases wait with
  | nil =>
    clear hrow
    go_enter Tryz.func74, Tryz.ntmps74
    have c3b := c3a (.cells #[.int .i64 (n : Int)] 3)
    have f3b := f3a (.cells #[.int .i64 (n : Int)] 3)
    clear c3a f3a
    go_wp2
    obtain ⟨e1, e2⟩ := rz_end (ls := [n]) (k := 1) (ar := #[.int .i64 (n : Int)]) H.out rfl rfl (by omega) (by simpa using hn)
    have e3 : (Pk.mk lim tab []).resize n = ⟨lim, tab, [n]⟩ := by simp [Pk.resize]
    rw [← e3] at e1
    exact bodyPost_end (results_none rfl _ _ _) rfl ⟨rfl, _, _, e1, e2, fun j hj => by simp [Value.ownBlock] at hj; omega⟩
  | cons x r =>
    have hx : x ≤ 256 := hok x (by simp)
    have hsl : ∃ g, sl = some ⟨g, 0, none⟩ := by
      obtain ⟨_, rs⟩ | ⟨g, cap, cur, e, _⟩ := hrow.2
      · simp at rs
      · simp at e; exact ⟨g, e.1⟩
    obtain ⟨g, rfl⟩ := hsl
    have q0 : w.cell? ⟨g, 0, none⟩ = some (.int .i64 (x : Int)) := by
      rw [hrow.cellAt 0 (by simp)]; rfl
    simp only [List.length_cons] at hfew c3 c3a
    have e3 : (Pk.mk lim tab (x :: r)).resize n = ⟨lim, tab, if x < n then [x, n] else [n]⟩ := by
      unfold Pk.resize
      simp only [Nat.min_def]
      by_cases hxn : x < n
      · rw [if_pos (by omega : x ≤ n), if_pos hxn]
      · by_cases hxe : x ≤ n
        · rw [if_pos hxe]
        · rw [if_neg hxe]; simp [hxn]
    have HE3 := hide e3
    clear hrow hok e3
    by_cases hxn : x < n
    · have c3b := c3a (.cells #[.int .i64 (min (x : Int) (n : Int)), .int .i64 (n : Int)] 3)
      have f3b := f3a (.cells #[.int .i64 (min (x : Int) (n : Int)), .int .i64 (n : Int)] 3)
      clear c3a f3a
      go_enter Tryz.func74, Tryz.ntmps74
      go_wp2
      obtain ⟨e1, e2⟩ := rz_end (ls := [x, n]) (k := 2) (ar := #[.int .i64 (min (x : Int) (n : Int)), .int .i64 (n : Int)]) H.out (by rw [show min (x : Int) (n : Int) = (x : Int) from by omega]; rfl) rfl (by omega) (by simp; omega)
      have e3 := HE3.out
      rw [if_pos hxn] at e3
      rw [← e3] at e1
      exact bodyPost_end (results_none rfl _ _ _) rfl ⟨rfl, _, _, e1, e2, fun j hj => by simp [Value.ownBlock] at hj; omega⟩
    · have c3b := c3a (.cells #[.int .i64 (n : Int)] 3)
      have f3b := f3a (.cells #[.int .i64 (n : Int)] 3)
      clear c3a f3a
      go_enter Tryz.func74, Tryz.ntmps74
      go_wp2
      obtain ⟨e1, e2⟩ := rz_end (ls := [n]) (k := 1) (ar := #[.int .i64 (n : Int)]) H.out rfl rfl (by omega) (by simpa using hn)
      have e3 := HE3.out
      rw [if_neg hxn] at e3
      rw [← e3] at e1
      exact bodyPost_end (results_none rfl _ _ _) rfl ⟨rfl, _, _, e1, e2, fun j hj => by simp [Value.ownBlock] at hj; omega⟩

set_option maxRecDepth 100000 in
set_option maxHeartbeats 800000 in
theorem resize_any (pb : Nat) (cs : Array Value) (tv lv : Value) (p : Pk) (n : Nat) (w : World) (h : PkS w pb cs tv lv p) (hn : n ≤ 256) :
    Calls Tryz.prog 35 #[.pointer (some ⟨pb, 0, none⟩), .int .i64 n] w fun e w' => e = .returned (.int .i64 0) ∧ ∃ cs' lv', PkS w' pb cs' tv lv' (p.resize n) ∧ Chg (fun j => j = pb) w w' ∧ ∀ j, lv'.ownBlock = some j → w.heap.size ≤ j := by
  have hlf := limitFits_any (n : Int) w
  have hlb : limB (n : Int) = true := by simp [limB]; omega
  rw [hlb] at hlf
  have HLF := hide hlf
  have HR := hide (bResize_any pb cs tv lv p n w h hn)
  clear hlf hlb h
  go_enter Tryz.func35, Tryz.ntmps35
  go_wp2_with fail
  refine HLF.out.mono ?_
  rintro e w1 ⟨rfl, hw1⟩
  rw [hw1]
  clear hw1 w1
  go_wp2_with fail
  refine HR.out.mono ?_
  rintro e w1 ⟨rfl, cs1, lv1, h1, h2, h3⟩
  have H1 := hide h1
  have H2 := hide h2
  have H3 := hide h3
  clear h1 h2 h3
  go_wp2
  go_ret
  exact ⟨rfl, cs1, lv1, H1.out, H2.out, H3.out⟩
set_option maxRecDepth 100000 in
set_option maxHeartbeats 400000 in
theorem newPacker_no (n : Int) (w : World) (hn : limB n = false) : Calls Tryz.prog 33 #[.int .i64 n] w fun e w' => e = .returned (.tuple #[.pointer none, .int .i64 1]) ∧ w' = w := by
  have hlf := limitFits_any n w
  rw [hn] at hlf
  have HLF := hide hlf
  clear hlf hn
  go_enter Tryz.func33, Tryz.ntmps33
  go_wp2_with fail
  refine HLF.out.mono ?_
  rintro e w1 ⟨rfl, hw1⟩
  rw [hw1]
  clear hw1 w1
  go_wp2
  refine bodyPost_ret (v := .tuple #[.pointer none, .int .i64 1]) ?_ rfl ⟨rfl, rfl⟩
  simp [results, Tryz.results33, go_sem]
set_option maxRecDepth 100000 in
set_option maxHeartbeats 400000 in
theorem resize_no (pb : Nat) (n : Int) (w : World) (hn : limB n = false) : Calls Tryz.prog 35 #[.pointer (some ⟨pb, 0, none⟩), .int .i64 n] w fun e w' => e = .returned (.int .i64 1) ∧ w' = w := by
  have hlf := limitFits_any n w
  rw [hn] at hlf
  have HLF := hide hlf
  clear hlf hn
  go_enter Tryz.func35, Tryz.ntmps35
  go_wp2_with fail
  refine HLF.out.mono ?_
  rintro e w1 ⟨rfl, hw1⟩
  rw [hw1]
  clear hw1 w1
  go_wp2
  go_ret
  exact ⟨rfl, rfl⟩
end Go.Proofs.YtghongdbohjaaaaGreatDoor
/-
  What stands of a script's world between two steps of Packs.
-/
namespace Go.Proofs.YtghongdbohjaaaaGreatDoor
set_option linter.unusedVariables false
set_option linter.unusedSimpArgs false
open Go.RowKit

/-- What packers do not touch: the scripts of the goods, the unpackers, the lists of pairs that are kept. -/
structure GX where
  s : Value
  u : Value
  h : Value
/-- The cells of a World of the law. -/
abbrev lwP (gF gH gC : Value) (gS : GX) (pv sv kv : Value) : Array Value := #[gF, gH, gC, gS.s, .slice none 0 0, pv, gS.u, .slice none 0 0, sv, kv, .slice none 0 0, gS.h, .slice none 0 0, .slice none 0 0]

/-- A packer of the program and the document's: their blocks, what they hold. -/
structure PkR where
  xb : Nat
  cs : Array Value
  tv : Value
  lv : Value
  pb : Nat
  av : Value
  bv : Value
  log : List Ch
  lim : Nat
  told : List Nat
def PkR.pk (r : PkR) : Pk := ⟨r.lim, tabL r.log, waitOf r.told⟩
def pkCells : List PkR → List Value
  | [] => []
  | r :: t => .pointer (some ⟨r.xb, 0, none⟩) :: .pointer (some ⟨r.pb, 0, none⟩) :: pkCells t
theorem pkCells_length (rs : List PkR) : (pkCells rs).length = rs.length * 2 := by
  induction rs with
  | nil => rfl
  | cons p r ih => simp [pkCells, ih]; omega
theorem pkCells_append (a b : List PkR) : pkCells (a ++ b) = pkCells a ++ pkCells b := by
  induction a with
  | nil => rfl
  | cons p r ih => simp [pkCells, ih]
theorem pkCells_get {rs : List PkR} {k : Nat} (h : k < rs.length) : (pkCells rs)[k * 2]? = some (.pointer (some ⟨rs[k].xb, 0, none⟩)) ∧ (pkCells rs)[k * 2 + 1]? = some (.pointer (some ⟨rs[k].pb, 0, none⟩)) := by
  induction rs generalizing k with
  | nil => simp at h
  | cons p r ih =>
    cases k with
    | zero => simp [pkCells]
    | succ k =>
      simp only [List.length_cons] at h
      have := ih (k := k) (by omega)
      rw [Nat.succ_mul]
      simpa [pkCells, Nat.add_assoc] using this
theorem pkCells_set {rs : List PkR} {k : Nat} {r : PkR} (h : k < rs.length) (hx : r.xb = rs[k].xb) (hp : r.pb = rs[k].pb) : pkCells (rs.set k r) = pkCells rs := by
  induction rs generalizing k with
  | nil => simp at h
  | cons p t ih =>
    cases k with
    | zero => simp at hx hp; simp [pkCells, hx, hp]
    | succ k =>
      simp only [List.length_cons] at h
      simp only [List.getElem_cons_succ] at hx hp
      simp [pkCells, ih (k := k) (by omega) hx hp]

def pkOb (r : PkR) : Ob where
  P := fun w => PkS w r.xb r.cs r.tv r.lv r.pk
  F := fun j => j = r.xb ∨ r.tv.ownBlock = some j ∨ r.lv.ownBlock = some j
  lt := fun w j h hj => by
    rcases hj with e | e | e
    · rw [e]; exact lt_of_block h.st.tb.blk
    · exact owns_lt h.st.row e
    · exact owns_lt h.row e
  chg := fun S w w' h hc hs => ⟨h.st.chg hc (hs _ (Or.inl rfl)) (fun j hj => hs j (Or.inr (Or.inl hj))), h.c3, owns_chg h.row hc (fun j hj => hs j (Or.inr (Or.inr hj))), h.few, h.ok⟩
def rpOb (r : PkR) : Ob where
  P := fun w => RpS w r.pb r.av r.bv r.log r.lim r.told
  F := fun j => j = r.pb ∨ r.av.ownBlock = some j ∨ r.bv.ownBlock = some j
  lt := fun w j h hj => by
    rcases hj with e | e | e
    · rw [e]; exact lt_of_block h.blk
    · exact owns_lt h.rowL e
    · exact owns_lt h.rowT e
  chg := fun S w w' h hc hs => ⟨by rw [hc.block _ (lt_of_block h.blk) (hs _ (Or.inl rfl))]; exact h.blk, owns_chg h.rowL hc (fun j hj => hs j (Or.inr (Or.inl hj))), owns_chg h.rowT hc (fun j hj => hs j (Or.inr (Or.inr hj))), h.ok, h.limit⟩
def recOb (x : RecB) : Ob where
  P := fun w => FamB w x
  F := fun j => ∃ u ∈ [x.l, x.a, x.b, x.c], u.ownBlock = some j
  lt := fun w j h hj => by
    obtain ⟨u, hu, e⟩ := hj
    simp only [List.mem_cons, List.not_mem_nil, or_false] at hu
    rcases hu with rfl | rfl | rfl | rfl
    · exact owns_lt h.l e
    · exact owns_lt h.a e
    · exact owns_lt h.b e
    · exact owns_lt h.c e
  chg := fun S w w' h hc hs => h.chg hc fun v hv k hk => hs k ⟨v, hv, hk⟩
def twoOb (r : PkR) : List Ob := [pkOb r, rpOb r]

def strCells (l : List ByteArray) : List Value := l.map .string
/-- All but the packers. -/
def restI (pv sv kv : Value) (prs : List PkR) (bls : List ByteArray) (recs : List RecB) (X : List Ob) : List Ob :=
  rowOb 112 2 pv prs.length (pkCells prs) :: rowOb 9 1 sv bls.length (strCells bls) :: rowOb 65 5 kv recs.length (recCells recs) :: (recs.map recOb ++ X)
def obsI (pv sv kv : Value) (prs : List PkR) (bls : List ByteArray) (recs : List RecB) (X : List Ob) : List Ob := restI pv sv kv prs bls recs X ++ prs.flatMap twoOb

/-- .. X: what else lies there. -/
structure PInvX (W0 V0 w : World) (b : Nat) (gF gH gC : Value) (gS : GX) (pv sv kv : Value) (prs : List PkR) (bls : List ByteArray) (recs : List RecB) (N : Nat) (X : List Ob) : Prop where
  blk : w.heap[b]? = some (.cells (lwP gF gH gC gS pv sv kv) 46 (0, 0))
  sep : Sep w V0.heap.size (obsI pv sv kv prs bls recs X)
  few : prs.length ≤ N ∧ bls.length ≤ N ∧ recs.length ≤ N
  logs : ∀ r ∈ prs, r.log.length ≤ 16 * N ∧ r.told.length ≤ N
  okB : ∀ r ∈ recs, r.n ≤ 1099511627776 ∧ r.len ≤ 4294967296
  okS : ∀ t ∈ bls, t.size ≤ 1048576
  b0 : W0.heap.size ≤ b
  bV : b < V0.heap.size
  belV : Below W0.heap.size W0 V0
  chV : Chg (fun j => j = b) V0 w
abbrev PInv (W0 V0 w : World) (b : Nat) (gF gH gC : Value) (gS : GX) (pv sv kv : Value) (prs : List PkR) (bls : List ByteArray) (recs : List RecB) (N : Nat) : Prop := PInvX W0 V0 w b gF gH gC gS pv sv kv prs bls recs N []

section
variable {W0 V0 w w' : World} {b N : Nat} {gF gH gC : Value} {gS : GX} {pv sv kv : Value} {prs : List PkR} {bls : List ByteArray} {recs : List RecB} {X : List Ob}

theorem PInvX.rowP (h : PInvX W0 V0 w b gF gH gC gS pv sv kv prs bls recs N X) : w.ownsRow 0 112 2 pv prs.length (pkCells prs) := h.sep.P (rowOb 112 2 pv prs.length (pkCells prs)) (by simp [obsI, restI])
theorem PInvX.rowS (h : PInvX W0 V0 w b gF gH gC gS pv sv kv prs bls recs N X) : w.ownsRow 0 9 1 sv bls.length (strCells bls) := h.sep.P (rowOb 9 1 sv bls.length (strCells bls)) (by simp [obsI, restI])
theorem PInvX.rowB (h : PInvX W0 V0 w b gF gH gC gS pv sv kv prs bls recs N X) : w.ownsRow 0 65 5 kv recs.length (recCells recs) := h.sep.P (rowOb 65 5 kv recs.length (recCells recs)) (by simp [obsI, restI])
theorem PInvX.fam (h : PInvX W0 V0 w b gF gH gC gS pv sv kv prs bls recs N X) {x : RecB} (hx : x ∈ recs) : FamB w x := h.sep.P (recOb x) (by unfold obsI restI; simp only [List.mem_append, List.mem_cons, List.mem_map]; exact Or.inl (Or.inr (Or.inr (Or.inr (Or.inl ⟨x, hx, rfl⟩)))))
theorem PInvX.mem2 {r : PkR} (hr : r ∈ prs) : pkOb r ∈ obsI pv sv kv prs bls recs X ∧ rpOb r ∈ obsI pv sv kv prs bls recs X := by
  constructor <;> (unfold obsI; refine List.mem_append_right _ (List.mem_flatMap.2 ⟨r, hr, ?_⟩); simp [twoOb])
theorem PInvX.pk (h : PInvX W0 V0 w b gF gH gC gS pv sv kv prs bls recs N X) {r : PkR} (hr : r ∈ prs) : PkS w r.xb r.cs r.tv r.lv r.pk := h.sep.P (pkOb r) (PInvX.mem2 hr).1
theorem PInvX.rp (h : PInvX W0 V0 w b gF gH gC gS pv sv kv prs bls recs N X) {r : PkR} (hr : r ∈ prs) : RpS w r.pb r.av r.bv r.log r.lim r.told := h.sep.P (rpOb r) (PInvX.mem2 hr).2
theorem PInvX.bel (h : PInvX W0 V0 w b gF gH gC gS pv sv kv prs bls recs N X) : Below W0.heap.size W0 w :=
  below_of_chg h.belV h.chV fun j e => by rw [e]; exact h.b0
theorem PInvX.bks (h : PInvX W0 V0 w b gF gH gC gS pv sv kv prs bls recs N X) (hh : gS.h = .slice none 0 0) : BkS w b (lwP gF gH gC gS pv sv kv) kv (.slice none 0 0) recs [] :=
  ⟨h.blk, rfl, rfl, by show some gS.h = _; rw [hh], rfl, rfl, h.rowB, World.ownsRow_nil _ _ _ _, fun r hr => h.fam hr, by simp, h.okB, by simp⟩
theorem PInvX.below (h : PInvX W0 V0 w b gF gH gC gS pv sv kv prs bls recs N X) (hb : Below w.heap.size w w') : PInvX W0 V0 w' b gF gH gC gS pv sv kv prs bls recs N X :=
  ⟨kept_told h.blk hb, h.sep.below hb, h.few, h.logs, h.okB, h.okS, h.b0, h.bV, h.belV, h.chV.then_below hb⟩
theorem PInvX.mono (h : PInvX W0 V0 w b gF gH gC gS pv sv kv prs bls recs N X) {N' : Nat} (hN : N ≤ N') : PInvX W0 V0 w b gF gH gC gS pv sv kv prs bls recs N' X :=
  ⟨h.blk, h.sep, ⟨Nat.le_trans h.few.1 hN, Nat.le_trans h.few.2.1 hN, Nat.le_trans h.few.2.2 hN⟩, fun r hr => ⟨Nat.le_trans (h.logs r hr).1 (by omega), Nat.le_trans (h.logs r hr).2 hN⟩, h.okB, h.okS, h.b0, h.bV, h.belV, h.chV⟩
theorem PInvX.lo (h : PInvX W0 V0 w b gF gH gC gS pv sv kv prs bls recs N X) : V0.heap.size ≤ w.heap.size := h.chV.size
theorem PInvX.small (h : PInvX W0 V0 w b gF gH gC gS pv sv kv prs bls recs N X) {r : PkR} (hr : r ∈ prs) : szT (tabL r.log) ≤ 256 := by
  have h1 := (h.pk hr).st
  have h2 : szT (tabL r.log) ≤ r.lim := h1.fit
  have h3 : r.lim ≤ 256 := h1.small
  omega

/-- The k-th packer, taken out. -/
theorem obs_get (k : Nat) (hk : k < prs.length) : (obsI pv sv kv prs bls recs X).Perm (twoOb prs[k] ++ ((prs.eraseIdx k).flatMap twoOb ++ restI pv sv kv prs bls recs X)) := by
  unfold obsI
  refine List.perm_append_comm.trans ?_
  rw [← List.append_assoc]
  exact (flat_get twoOb prs k hk).append_right _
theorem obs_set (k : Nat) (hk : k < prs.length) (r : PkR) (hx : r.xb = prs[k].xb) (hp : r.pb = prs[k].pb) : (obsI pv sv kv (prs.set k r) bls recs X).Perm (twoOb r ++ ((prs.eraseIdx k).flatMap twoOb ++ restI pv sv kv prs bls recs X)) := by
  have e : restI pv sv kv (prs.set k r) bls recs X = restI pv sv kv prs bls recs X := by unfold restI; rw [pkCells_set hk hx hp, List.length_set]
  unfold obsI
  rw [e]
  refine List.perm_append_comm.trans ?_
  rw [← List.append_assoc]
  exact (flat_set twoOb prs k hk r).append_right _

/-- A packer that is another now. -/
theorem pinv_turn {S : Nat → Prop} {r : PkR} (h : PInvX W0 V0 w b gF gH gC gS pv sv kv prs bls recs N X) (k : Nat) (hk : k < prs.length) (hx : r.xb = prs[k].xb) (hp : r.pb = prs[k].pb) (hc : Chg S w w')
    (hS : ∀ j, S j → (pkOb prs[k]).F j ∨ (rpOb prs[k]).F j) (h1 : (pkOb r).P w') (h2 : (rpOb r).P w') (hF1 : ∀ j, (pkOb r).F j → (pkOb prs[k]).F j ∨ w.heap.size ≤ j) (hF2 : ∀ j, (rpOb r).F j → (rpOb prs[k]).F j ∨ w.heap.size ≤ j)
    (hap : ∀ j, w.heap.size ≤ j → (pkOb r).F j → ¬ (rpOb r).F j) (N' : Nat) (hN : N ≤ N') (hl : r.log.length ≤ 16 * N' ∧ r.told.length ≤ N') : PInvX W0 V0 w' b gF gH gC gS pv sv kv (prs.set k r) bls recs N' X := by
  have hs := h.sep.perm (obs_get k hk)
  have hm := PInvX.mem2 (pv := pv) (sv := sv) (kv := kv) (bls := bls) (recs := recs) (X := X) (List.getElem_mem hk)
  have hlt : ∀ j, S j → V0.heap.size ≤ j := fun j hj => by
    rcases hS j hj with e | e
    · exact h.sep.lo _ hm.1 j e
    · exact h.sep.lo _ hm.2 j e
  have hb := h.bV
  refine ⟨by rw [hc.block b (lt_of_block h.blk) (fun e => by have := hlt b e; omega)]; exact h.blk, ?_, ⟨by rw [List.length_set]; exact Nat.le_trans h.few.1 hN, Nat.le_trans h.few.2.1 hN, Nat.le_trans h.few.2.2 hN⟩, ?_, h.okB, h.okS, h.b0, h.bV, h.belV, h.chV.trans (hc.mono fun j _ e => Or.inl (hlt j e))⟩
  · refine Sep.perm (Sep.turn (os := twoOb prs[k]) (os' := twoOb r) hs hc (fun j hj => Or.inl ?_) ?_ ?_ ?_ h.lo) (obs_set k hk r hx hp).symm
    · rcases hS j hj with e | e
      · exact ⟨_, by simp [twoOb], e⟩
      · exact ⟨_, by simp [twoOb], e⟩
    · intro o ho
      simp only [twoOb, List.mem_cons, List.not_mem_nil, or_false] at ho
      rcases ho with rfl | rfl
      · exact h1
      · exact h2
    · refine List.pairwise_cons.2 ⟨fun o ho j hj hj2 => ?_, List.pairwise_singleton _ _⟩
      simp only [List.mem_cons, List.not_mem_nil, or_false] at ho
      subst ho
      rcases hF1 j hj with e | e
      · rcases hF2 j hj2 with f | f
        · exact hs.two e f
        · have := hs.lt (o := pkOb prs[k]) (by simp [twoOb]) e; omega
      · exact hap j e hj hj2
    · intro o ho j hj
      simp only [twoOb, List.mem_cons, List.not_mem_nil, or_false] at ho
      rcases ho with rfl | rfl
      · exact (hF1 j hj).imp_left fun e => ⟨_, by simp [twoOb], e⟩
      · exact (hF2 j hj).imp_left fun e => ⟨_, by simp [twoOb], e⟩
  · intro x hx'
    rcases List.mem_or_eq_of_mem_set hx' with hx' | rfl
    · exact ⟨Nat.le_trans (h.logs x hx').1 (by omega), Nat.le_trans (h.logs x hx').2 hN⟩
    · exact hl

/-- One packer more. -/
theorem pinv_packer {wX w3 : World} {r : PkR} {pv' : Value} (h : PInvX W0 V0 w b gF gH gC gS pv sv kv prs bls recs N X) (hX : Below w.heap.size w wX) (h1 : (pkOb r).P wX) (h2 : (rpOb r).P wX) (hF1 : ∀ j, (pkOb r).F j → w.heap.size ≤ j) (hF2 : ∀ j, (rpOb r).F j → w.heap.size ≤ j) (hap : ∀ j, (pkOb r).F j → ¬ (rpOb r).F j)
    (hl : r.log = [] ∧ r.told = []) (hown : w3.ownsRow 0 112 2 pv' (prs.length + 1) (pkCells prs ++ pkCells [r])) (hg : wX.grownBy w3 pv.ownBlock) (hfr : pv'.ownBlock = pv.ownBlock ∨ pv'.ownBlock = some wX.heap.size) :
    PInvX W0 V0 (w3.setCell ⟨b, 5, none⟩ pv') b gF gH gC gS pv' sv kv (prs ++ [r]) bls recs (N + 1) X := by
  have hX' := h.below hX
  have zX := hX.size
  have hsX : Sep wX V0.heap.size (twoOb r ++ obsI pv sv kv prs bls recs X) := by
    refine Sep.more h.sep hX ?_ ?_ ?_ h.lo
    · intro o ho
      simp only [twoOb, List.mem_cons, List.not_mem_nil, or_false] at ho
      rcases ho with rfl | rfl
      · exact h1
      · exact h2
    · refine List.pairwise_cons.2 ⟨fun o ho j hj hj2 => ?_, List.pairwise_singleton _ _⟩
      simp only [List.mem_cons, List.not_mem_nil, or_false] at ho
      subst ho
      exact hap j hj hj2
    · intro o ho j hj
      simp only [twoOb, List.mem_cons, List.not_mem_nil, or_false] at ho
      rcases ho with rfl | rfl
      · exact hF1 j hj
      · exact hF2 j hj
  have b3 := kept_block hX'.rowP hg hX'.blk (by decide)
  have c3 : Chg (fun j => pv.ownBlock = some j) wX w3 := Chg.of_grown hg (fun j e => e)
  have hset : Chg (fun j => j = b) w3 (w3.setCell ⟨b, 5, none⟩ pv') := (Chg.refl (fun j => j = b) w3).setCell (p := ⟨b, 5, none⟩) (Or.inr rfl) _
  have cX : Chg (fun j => pv.ownBlock = some j ∨ j = b) wX (w3.setCell ⟨b, 5, none⟩ pv') := (c3.mono (fun j _ e => Or.inl e)).trans (hset.mono (fun j _ e => Or.inr (Or.inr e)))
  have hplo : ∀ j, pv.ownBlock = some j → V0.heap.size ≤ j := fun j hj => h.sep.lo (rowOb 112 2 pv prs.length (pkCells prs)) (by simp [obsI, restI]) j hj
  have hown' : (w3.setCell ⟨b, 5, none⟩ pv').ownsRow 0 112 2 pv' (prs.length + 1) (pkCells prs ++ pkCells [r]) := owns_chg hown hset (fun j hj e => by subst e; exact owns_ne hown b3 (by decide) hj)
  have hbV := h.bV
  refine ⟨by rw [block_setCell b3]; rfl, ?_, ⟨by simp; have := h.few.1; omega, Nat.le_trans h.few.2.1 (by omega), Nat.le_trans h.few.2.2 (by omega)⟩, ?_, h.okB, h.okS, h.b0, h.bV, h.belV, ?_⟩
  · have hp1 : (twoOb r ++ obsI pv sv kv prs bls recs X).Perm ([rowOb 112 2 pv prs.length (pkCells prs)] ++ (rowOb 9 1 sv bls.length (strCells bls) :: rowOb 65 5 kv recs.length (recCells recs) :: ((recs.map recOb ++ X) ++ (prs ++ [r]).flatMap twoOb))) := by
      unfold obsI restI
      refine List.perm_append_comm.trans ?_
      simp [List.flatMap_append]
    have hp2 : (obsI pv' sv kv (prs ++ [r]) bls recs X) = ([rowOb 112 2 pv' (prs.length + 1) (pkCells prs ++ pkCells [r])] ++ (rowOb 9 1 sv bls.length (strCells bls) :: rowOb 65 5 kv recs.length (recCells recs) :: ((recs.map recOb ++ X) ++ (prs ++ [r]).flatMap twoOb))) := by
      unfold obsI restI
      simp [pkCells_append]
    rw [hp2]
    refine Sep.turn (hsX.perm hp1) cX (fun j hj => ?_) ?_ (List.pairwise_singleton _ _) ?_ (Nat.le_trans h.lo zX)
    · rcases hj with e | e
      · exact Or.inl ⟨_, List.mem_cons_self, e⟩
      · exact Or.inr (by omega)
    · intro o ho
      simp only [List.mem_cons, List.not_mem_nil, or_false] at ho
      subst ho
      exact hown'
    · intro o ho j hj
      simp only [List.mem_cons, List.not_mem_nil, or_false] at ho
      subst ho
      have hj' : pv'.ownBlock = some j := hj
      rcases hfr with e | e
      · rw [e] at hj'; exact Or.inl ⟨_, List.mem_cons_self, hj'⟩
      · rw [e] at hj'; simp at hj'; exact Or.inr (by omega)
  · intro x hx
    rcases List.mem_append.1 hx with hx | hx
    · have := h.logs x hx; omega
    · simp only [List.mem_cons, List.not_mem_nil, or_false] at hx
      subst hx
      rw [hl.1, hl.2]
      simp
  · refine (hX'.chV).trans (cX.mono fun j _ e => ?_)
    rcases e with e | e
    · exact Or.inl (hplo j e)
    · exact Or.inr e

/-- One text more. -/
theorem pinv_text {w3 : World} {t : ByteArray} {sv' : Value} (h : PInvX W0 V0 w b gF gH gC gS pv sv kv prs bls recs N X) (hown : w3.ownsRow 0 9 1 sv' (bls.length + 1) (strCells bls ++ [.string t])) (hg : w.grownBy w3 sv.ownBlock) (hfr : sv'.ownBlock = sv.ownBlock ∨ sv'.ownBlock = some w.heap.size) (hf : bls.length + 1 ≤ N) (ht : t.size ≤ 1048576) :
    PInvX W0 V0 (w3.setCell ⟨b, 8, none⟩ sv') b gF gH gC gS pv sv' kv prs (bls ++ [t]) recs N X := by
  have b3 := kept_block h.rowS hg h.blk (by decide)
  have c3 : Chg (fun j => sv.ownBlock = some j) w w3 := Chg.of_grown hg (fun j e => e)
  have hset : Chg (fun j => j = b) w3 (w3.setCell ⟨b, 8, none⟩ sv') := (Chg.refl (fun j => j = b) w3).setCell (p := ⟨b, 8, none⟩) (Or.inr rfl) _
  have cX : Chg (fun j => sv.ownBlock = some j ∨ j = b) w (w3.setCell ⟨b, 8, none⟩ sv') := (c3.mono (fun j _ e => Or.inl e)).trans (hset.mono (fun j _ e => Or.inr (Or.inr e)))
  have hplo : ∀ j, sv.ownBlock = some j → V0.heap.size ≤ j := fun j hj => h.sep.lo (rowOb 9 1 sv bls.length (strCells bls)) (by simp [obsI, restI]) j hj
  have hown' : (w3.setCell ⟨b, 8, none⟩ sv').ownsRow 0 9 1 sv' (bls.length + 1) (strCells bls ++ [.string t]) := owns_chg hown hset (fun j hj e => by subst e; exact owns_ne hown b3 (by decide) hj)
  have hbV := h.bV
  refine ⟨by rw [block_setCell b3]; rfl, ?_, ⟨h.few.1, by simp; omega, h.few.2.2⟩, h.logs, h.okB, (fun x hx => (List.mem_append.1 hx).elim (h.okS x) (fun hx => by simp only [List.mem_cons, List.not_mem_nil, or_false] at hx; rw [hx]; exact ht)), h.b0, h.bV, h.belV, ?_⟩
  · have hp1 : (obsI pv sv kv prs bls recs X).Perm ([rowOb 9 1 sv bls.length (strCells bls)] ++ (rowOb 112 2 pv prs.length (pkCells prs) :: rowOb 65 5 kv recs.length (recCells recs) :: ((recs.map recOb ++ X) ++ prs.flatMap twoOb))) := by
      unfold obsI restI
      exact List.Perm.swap _ _ _
    have hp2 : (obsI pv sv' kv prs (bls ++ [t]) recs X).Perm ([rowOb 9 1 sv' (bls.length + 1) (strCells bls ++ [.string t])] ++ (rowOb 112 2 pv prs.length (pkCells prs) :: rowOb 65 5 kv recs.length (recCells recs) :: ((recs.map recOb ++ X) ++ prs.flatMap twoOb))) := by
      unfold obsI restI
      simp only [strCells, List.map_append, List.map_cons, List.map_nil, List.length_append, List.length_cons, List.length_nil, Nat.zero_add]
      exact List.Perm.swap _ _ _
    refine Sep.perm (Sep.turn (h.sep.perm hp1) cX (fun j hj => ?_) ?_ (List.pairwise_singleton _ _) ?_ h.lo) hp2.symm
    · rcases hj with e | e
      · exact Or.inl ⟨_, List.mem_cons_self, e⟩
      · exact Or.inr (by omega)
    · intro o ho
      simp only [List.mem_cons, List.not_mem_nil, or_false] at ho
      subst ho
      exact hown'
    · intro o ho j hj
      simp only [List.mem_cons, List.not_mem_nil, or_false] at ho
      subst ho
      have hj' : sv'.ownBlock = some j := hj
      rcases hfr with e | e
      · rw [e] at hj'; exact Or.inl ⟨_, List.mem_cons_self, hj'⟩
      · rw [e] at hj'; simp at hj'; exact Or.inr (by omega)
  · refine h.chV.trans (cX.mono fun j _ e => ?_)
    rcases e with e | e
    · exact Or.inl (hplo j e)
    · exact Or.inr e

/-- One list of bytes more that is kept. -/
theorem pinv_kept {len : Nat} {lv : Value} {xs : List Value} (h : PInvX W0 V0 w b gF gH gC gS pv sv kv prs bls recs N X) (hn : recs.length + 1 ≤ N) (hN : N ≤ 1099511627776) (hlen : len ≤ 4294967296)
    (hv : w.ownsRow 0 5 1 lv len xs) (hfree : ∀ o ∈ obsI pv sv kv prs bls recs X, ∀ j, lv.ownBlock = some j → ¬ o.F j) (hlo : ∀ j, lv.ownBlock = some j → V0.heap.size ≤ j) (hk : KeptB w w' b (lwP gF gH gC gS pv sv kv) kv lv recs len) :
    ∃ kv' r, PInvX W0 V0 w' b gF gH gC gS pv sv kv' prs bls (recs ++ [r]) N X := by
  obtain ⟨kv', r, hb6, hrow6, hrl, hrn, hrlen, hfam, hsep, hch, hkv'⟩ := hk
  have hklo : ∀ j, kv.ownBlock = some j → V0.heap.size ≤ j := fun j hj => h.sep.lo (rowOb 65 5 kv recs.length (recCells recs)) (by simp [obsI, restI]) j hj
  have hbV := h.bV
  refine ⟨kv', r, ⟨by rw [hb6]; rfl, ?_, ⟨h.few.1, h.few.2.1, by simp; omega⟩, h.logs, ?_, h.okS, h.b0, h.bV, h.belV, ?_⟩⟩
  · have hs1 : Sep w V0.heap.size (rowOb 5 1 lv len xs :: obsI pv sv kv prs bls recs X) := by
      refine ⟨fun o ho => ?_, fun o ho => ?_, List.pairwise_cons.2 ⟨fun o ho j hj => hfree o ho j hj, h.sep.ap⟩⟩
      · rcases List.mem_cons.1 ho with rfl | ho
        · exact hv
        · exact h.sep.P o ho
      · rcases List.mem_cons.1 ho with rfl | ho
        · exact hlo
        · exact h.sep.lo o ho
    have hp1 : (rowOb 5 1 lv len xs :: obsI pv sv kv prs bls recs X).Perm ([rowOb 65 5 kv recs.length (recCells recs), rowOb 5 1 lv len xs] ++ (rowOb 112 2 pv prs.length (pkCells prs) :: rowOb 9 1 sv bls.length (strCells bls) :: ((recs.map recOb ++ X) ++ prs.flatMap twoOb))) := by
      unfold obsI restI
      generalize rowOb 5 1 lv len xs = L
      generalize rowOb 65 5 kv recs.length (recCells recs) = K
      generalize rowOb 112 2 pv prs.length (pkCells prs) = P
      generalize rowOb 9 1 sv bls.length (strCells bls) = S
      generalize recs.map recOb = R
      generalize prs.flatMap twoOb = Z
      show (L :: P :: S :: K :: ((R ++ X) ++ Z)).Perm (K :: L :: P :: S :: ((R ++ X) ++ Z))
      exact (List.perm_middle (l₁ := [L, P, S]) (a := K) (l₂ := (R ++ X) ++ Z))
    have hp2 : (obsI pv sv kv' prs bls (recs ++ [r]) X).Perm ([rowOb 65 5 kv' (recs ++ [r]).length (recCells (recs ++ [r])), recOb r] ++ (rowOb 112 2 pv prs.length (pkCells prs) :: rowOb 9 1 sv bls.length (strCells bls) :: ((recs.map recOb ++ X) ++ prs.flatMap twoOb))) := by
      unfold obsI restI
      simp only [List.map_append, List.map_cons, List.map_nil]
      generalize rowOb 65 5 kv' (recs ++ [r]).length (recCells (recs ++ [r])) = K
      generalize rowOb 112 2 pv prs.length (pkCells prs) = P
      generalize rowOb 9 1 sv bls.length (strCells bls) = S
      generalize recs.map recOb = R
      generalize prs.flatMap twoOb = Z
      generalize recOb r = L
      have e : (P :: S :: K :: ((R ++ [L]) ++ X)) ++ Z = [P, S] ++ K :: (R ++ L :: (X ++ Z)) := by simp
      rw [e]
      refine List.perm_middle.trans ?_
      show (K :: ([P, S] ++ (R ++ L :: (X ++ Z)))).Perm (K :: L :: P :: S :: ((R ++ X) ++ Z))
      refine List.Perm.cons K ?_
      have e2 : [P, S] ++ (R ++ L :: (X ++ Z)) = (P :: S :: R) ++ L :: (X ++ Z) := by simp
      have e3 : P :: S :: ((R ++ X) ++ Z) = (P :: S :: R) ++ (X ++ Z) := by simp
      rw [e2, e3]
      exact List.perm_middle
    refine Sep.perm (Sep.turn (hs1.perm hp1) hch (fun j hj => ?_) ?_ ?_ ?_ h.lo) hp2.symm
    · rcases hj with e | e | e
      · exact Or.inr (by omega)
      · exact Or.inl ⟨_, List.mem_cons_self, e⟩
      · exact Or.inl ⟨rowOb 5 1 lv len xs, by simp, e⟩
    · intro o ho
      simp only [List.mem_cons, List.not_mem_nil, or_false] at ho
      rcases ho with rfl | rfl
      · exact hrow6
      · exact hfam
    · refine List.pairwise_cons.2 ⟨fun o ho j hj hj2 => ?_, List.pairwise_singleton _ _⟩
      simp only [List.mem_cons, List.not_mem_nil, or_false] at ho
      subst ho
      obtain ⟨u, hu, e⟩ := hj2
      simp only [List.mem_cons, List.not_mem_nil, or_false] at hu
      rcases hu with rfl | rfl | rfl | rfl
      · exact rows_ne hrow6 hfam.l (by decide) hj e
      · exact rows_ne hrow6 hfam.a (by decide) hj e
      · exact rows_ne hrow6 hfam.b (by decide) hj e
      · exact rows_ne hrow6 hfam.c (by decide) hj e
    · intro o ho j hj
      simp only [List.mem_cons, List.not_mem_nil, or_false] at ho
      rcases ho with rfl | rfl
      · exact (hkv' j hj).imp_left fun e => ⟨_, List.mem_cons_self, e⟩
      · obtain ⟨u, hu, e⟩ := hj
        exact (hsep u hu j e).imp_left fun e => ⟨rowOb 5 1 lv len xs, by simp, e⟩
  · intro x hx
    rcases List.mem_append.1 hx with hx | hx
    · exact h.okB x hx
    · simp only [List.mem_cons, List.not_mem_nil, or_false] at hx
      subst hx
      rw [hrn, hrlen]
      exact ⟨by omega, hlen⟩
  · refine h.chV.trans (hch.mono fun j _ e => ?_)
    rcases e with e | e | e
    · exact Or.inr e
    · exact Or.inl (hklo j e)
    · exact Or.inl (hlo j e)

theorem obs_more (o : Ob) : (obsI pv sv kv prs bls recs (o :: X)).Perm ([o] ++ obsI pv sv kv prs bls recs X) := by
  unfold obsI restI
  generalize rowOb 65 5 kv recs.length (recCells recs) = K
  generalize rowOb 112 2 pv prs.length (pkCells prs) = P
  generalize rowOb 9 1 sv bls.length (strCells bls) = S
  generalize recs.map recOb = R
  generalize prs.flatMap twoOb = Z
  have e : (P :: S :: K :: (R ++ o :: X)) ++ Z = (P :: S :: K :: R) ++ o :: (X ++ Z) := by simp
  have e3 : [o] ++ ((P :: S :: K :: (R ++ X)) ++ Z) = o :: ((P :: S :: K :: R) ++ (X ++ Z)) := by simp
  rw [e, e3]
  exact List.perm_middle
/-- One thing more beside them. -/
theorem PInvX.put (h : PInvX W0 V0 w b gF gH gC gS pv sv kv prs bls recs N X) (hb : Below w.heap.size w w') (o : Ob) (hP : o.P w') (hF : ∀ j, o.F j → w.heap.size ≤ j) : PInvX W0 V0 w' b gF gH gC gS pv sv kv prs bls recs N (o :: X) := by
  have h' := h.below hb
  refine ⟨h'.blk, ?_, h.few, h.logs, h.okB, h.okS, h.b0, h.bV, h.belV, h'.chV⟩
  refine Sep.perm (Sep.more (os' := [o]) h.sep hb ?_ (List.pairwise_singleton _ _) ?_ h.lo) (obs_more o).symm
  · intro q hq
    simp only [List.mem_cons, List.not_mem_nil, or_false] at hq
    rw [hq]; exact hP
  · intro q hq
    simp only [List.mem_cons, List.not_mem_nil, or_false] at hq
    rw [hq]; exact hF
/-- .. which goes again. -/
theorem PInvX.off {S : Nat → Prop} {o : Ob} (h : PInvX W0 V0 w b gF gH gC gS pv sv kv prs bls recs N (o :: X)) (hc : Chg S w w') (hS : ∀ j, S j → o.F j) : PInvX W0 V0 w' b gF gH gC gS pv sv kv prs bls recs N X := by
  have hs := h.sep.perm (obs_more o)
  have hlo : ∀ j, S j → V0.heap.size ≤ j := fun j hj => hs.lo o (by simp) j (hS j hj)
  have hbV := h.bV
  refine ⟨by rw [hc.block b (lt_of_block h.blk) (fun e => by have := hlo b e; omega)]; exact h.blk, ?_, h.few, h.logs, h.okB, h.okS, h.b0, h.bV, h.belV, h.chV.trans (hc.mono fun j _ e => Or.inl (hlo j e))⟩
  exact Sep.turn (os := [o]) (os' := []) hs hc (fun j hj => Or.inl ⟨o, by simp, hS j hj⟩) (by simp) List.Pairwise.nil (by simp) h.lo
theorem PInvX.x_mem {o : Ob} (ho : o ∈ X) : o ∈ obsI pv sv kv prs bls recs X := by
  unfold obsI restI
  simp only [List.mem_append, List.mem_cons]
  exact Or.inl (Or.inr (Or.inr (Or.inr (Or.inr ho))))
theorem PInvX.extra {o : Ob} (h : PInvX W0 V0 w b gF gH gC gS pv sv kv prs bls recs N (o :: X)) : o.P w := (h.sep.perm (obs_more o)).P o (by simp)
end
end Go.Proofs.YtghongdbohjaaaaGreatDoor
/-
  sluicelaw: far, lentHeads, wholeHeads.
-/
namespace Go.Proofs.YtghongdbohjaaaaGreatDoor
set_option linter.unusedVariables false
set_option linter.unusedSimpArgs false
open Go.RowKit

theorem run_copy_rowS {P : Program} (w : World) (dT sT ty elem : TypeId) (s g o dLen dCap : Nat) (a : Addr) (sLen sCap n : Nat) (cur : Array Value) (t : TypeId) (cs : List Value)
    (hu : P.underlying dT = some (.slice elem)) (hs : (P.info? elem).map (·.size) = some s)
    (hg : w.heap[g]? = some (.cells cur t (0, 0))) (hm : Nat.min sLen dLen = n) (hn : cs.length = n * s)
    (hsrc : ∀ j v, cs[j]? = some v → w.cell? (a.add j) = some v) (hfit : o + cs.length ≤ cur.size) (h1 : ∀ v ∈ cs, v.oneCell' = true) :
    (Builtin.copy_ #[dT, sT] ty #[.slice (some ⟨g, o, none⟩) dLen dCap, .slice (some a) sLen sCap]).run P w =
      .ok (goInt n) (w.setRow g (cur.toList.take o ++ cs ++ cur.toList.drop (o + cs.length)).toArray) := by
  have hl := run_loadCells_list (P := P) w a cs hsrc
  have hst := run_storeCells_at P g o t cs 0 cur w hg (by simpa using hfit) h1
  rw [hn] at hl
  cases hq : P.info? elem with
  | none => simp [hq] at hs
  | some i =>
    have hi : i.size = s := by simpa [hq] using hs
    simp [Builtin.copy_, run_underlying hu, Builtin.lenOf, Builtin.firstCells, sizeOf, typeInfo, hq, hi, hm, hl, hst]
theorem run_copy_zeroS {P : Program} (w : World) (dT sT ty elem : TypeId) (s : Nat) (d a : Option Addr) (dLen dCap sLen sCap : Nat)
    (hu : P.underlying dT = some (.slice elem)) (hs : (P.info? elem).map (·.size) = some s) (hm : Nat.min sLen dLen = 0) :
    (Builtin.copy_ #[dT, sT] ty #[.slice d dLen dCap, .slice a sLen sCap]).run P w = .ok (goInt 0) w := by
  cases hq : P.info? elem with
  | none => simp [hq] at hs
  | some i =>
    have hl : ∀ ad, (loadCells ad 0).run P w = .ok #[] w := fun ad => run_loadCells_list (P := P) w ad [] (by simp)
    cases a with
    | none => cases d <;> simp [Builtin.copy_, run_underlying hu, Builtin.lenOf, Builtin.firstCells, sizeOf, typeInfo, hq, hm, storeCells]
    | some ad => cases d <;> simp [Builtin.copy_, run_underlying hu, Builtin.lenOf, Builtin.firstCells, sizeOf, typeInfo, hq, hm, hl, storeCells]
theorem wpList_copy_rowS {P : Program} {w : World} {ops : Array Oper} {rest : List Oper} {o : Oper} {a : Act} {Q : Exit → Act → World → Prop} (hgd : o.guard = none) (d s : Operand) (dT sT : TypeId)
    (ho : o.op = .call { callee := .builtin .copy, args := #[d, s], argTypes := #[dT, sT] }) (elem : TypeId) (hu : P.underlying dT = some (.slice elem)) (z : Nat) (hsz : (P.info? elem).map (·.size) = some z)
    (g dLen dCap : Nat) (sp : Option Addr) (sLen sCap n : Nat) (hd : a.eval d = .slice (some ⟨g, 0, none⟩) dLen dCap) (hs : a.eval s = .slice sp sLen sCap)
    (cur : List Value) (t : TypeId) (hg : w.heap[g]? = some (.cells cur.toArray t (0, 0))) (cs : List Value) (hm : Nat.min sLen dLen = n) (hn : cs.length = n * z)
    (hpos : 0 < n → ∃ ad, sp = some ad ∧ ∀ j v, cs[j]? = some v → w.cell? (ad.add j) = some v)
    (hfit : cs.length ≤ cur.length) (h1 : ∀ v ∈ cs, v.oneCell' = true) (B : Nat) (w0 : World) (hb : Below B w0 w) (hBg : B ≤ g)
    (h : ∀ w', Hid (w'.heap[g]? = some (.cells (cs ++ cur.drop cs.length).toArray t (0, 0))) → Below B w0 w' → wpList P ops Q rest (a.put o.dst (goInt n)) w') :
    wpList P ops Q (o :: rest) a w := by
  refine wpList_plain hgd fun K hK => ?_
  by_cases h0 : n = 0
  · subst h0
    obtain rfl : cs = [] := List.eq_nil_of_length_eq_zero (by omega)
    have hrun := run_copy_zeroS (P := P) w dT sT o.type elem z (some ⟨g, 0, none⟩) sp dLen dCap sLen sCap hu hsz hm
    unfold Oper.wp
    simp [execOp, ho, resolve, invoke, builtin, hd, hs, hrun, Result.andThen]
    exact hK _ _ (h w (show _ = _ by simpa using hg) hb)
  · obtain ⟨ad, rfl, hsrc⟩ := hpos (by omega)
    have hrun := run_copy_rowS (P := P) w dT sT o.type elem z g 0 dLen dCap ad sLen sCap n cur.toArray t cs hu hsz hg hm hn hsrc (by simpa using hfit) h1
    unfold Oper.wp
    simp [execOp, ho, resolve, invoke, builtin, hd, hs, hrun, Result.andThen]
    exact hK _ _ (h _ (show _ = _ by simpa using setRow_heap w g _ _ t _ hg) (below_setRow hb hBg _))

/-- What lies in spare room, and what the caller writes over it. -/
def farP : HP := ⟨⟨#[98, 101, 121, 111, 110, 100]⟩, ⟨#[98, 101, 121, 111, 110, 100]⟩⟩
def overP : HP := ⟨⟨#[111, 118, 101, 114]⟩, ⟨#[111, 118, 101, 114]⟩⟩
set_option maxRecDepth 100000 in
theorem far_any (w : World) : Calls Tryz.prog 77 #[] w fun e w' => e = .returned (.agg #[.string ⟨#[98, 101, 121, 111, 110, 100]⟩, .string ⟨#[98, 101, 121, 111, 110, 100]⟩]) ∧ Below w.heap.size w w' := by
  go_enter Tryz.func77, Tryz.ntmps77
  go_wp2
  refine bodyPost_ret (v := .agg #[.string ⟨#[98, 101, 121, 111, 110, 100]⟩, .string ⟨#[98, 101, 121, 111, 110, 100]⟩]) ?_ rfl ⟨rfl, ?_⟩
  · simp [results, Tryz.results77, go_sem]
  · exact (Below.refl _ _).alloc (Nat.le_refl _) _

theorem addr_block (a : Addr) (j : Nat) : (a.add j).block = a.block := by unfold Addr.add; split <;> rfl
theorem hpCells_one (l : List HP) : ∀ u ∈ hpCells l, u.oneCell' = true := by
  intro u hu
  induction l with
  | nil => simp [hpCells] at hu
  | cons h r ih =>
    simp only [hpCells, List.mem_cons] at hu
    rcases hu with rfl | rfl | hu
    · rfl
    · rfl
    · exact ih hu
theorem hpCells_set (l : List HP) (k : Nat) (h : HP) : ((hpCells l).set (k * 2) (.string h.n)).set (k * 2 + 1) (.string h.v) = hpCells (l.set k h) ∨ l.length ≤ k := by
  induction l generalizing k with
  | nil => right; simp
  | cons x r ih =>
    cases k with
    | zero => left; simp [hpCells]
    | succ k =>
      rcases ih k with e | e
      · left
        have e1 : (k + 1) * 2 = k * 2 + 1 + 1 := by omega
        rw [e1]
        simp only [hpCells, List.set_cons_succ]
        rw [e]
      · right; simpa using e
theorem hp_store {w : World} {g k : Nat} {l : List HP} {t : TypeId} {fr : Nat × Nat} (h : HP) (hr : w.heap[g]? = some (.cells (hpCells l).toArray t fr)) (hk : k < l.length) :
    (w.setCells g (k * 2) [.string h.n, .string h.v]).heap[g]? = some (.cells (hpCells (l.set k h)).toArray t fr) := by
  have h1 := row_set (i := k * 2) (u := .string h.n) hr
  have h2 := row_set (i := k * 2 + 1) (u := .string h.v) h1
  rcases hpCells_set l k h with e | e
  · rw [e] at h2; exact h2
  · omega
theorem hp_there {w : World} {g k : Nat} {l : List HP} {t : TypeId} (hr : w.heap[g]? = some (.cells (hpCells l).toArray t (0, 0))) (hk : k < l.length) : w.there g (k * 2) 2 := by
  intro j hj
  refine ⟨?_, row_free hr⟩
  rw [row_cell hr, List.getElem?_eq_getElem (by rw [hpCells_length]; omega)]
  rfl
theorem chg_setCells2 {S : Nat → Prop} {a : World} {g : Nat} (hp : a.heap.size ≤ g ∨ S g) : ∀ (vs : List Value) (o : Nat) (w : World), Chg S a w → Chg S a (w.setCells g o vs)
  | [], _, _, h => h
  | v :: r, o, _, h => chg_setCells2 hp r (o + 1) _ (h.setCell (p := ⟨g, o, none⟩) hp v)
theorem below_setCells2 {B g : Nat} {a : World} (hp : B ≤ g) : ∀ (vs : List Value) (o : Nat) (w : World), Below B a w → Below B a (w.setCells g o vs)
  | [], _, _, h => h
  | v :: r, o, _, h => below_setCells2 hp r (o + 1) _ (h.setCell hp v)

theorem made_list2 {w : World} {b g n : Nat} (h : w.ownsRow b 62 2 (.slice (some ⟨g, 0, none⟩) n n) n (madeCells #[Value.string ⟨#[]⟩, Value.string ⟨#[]⟩] (n * 2)).toList) :
    w.heap[g]? = some (.cells (hpCells (List.replicate n noHP)).toArray 62 (0, 0)) := by
  rcases h.2 with ⟨h0, _⟩ | ⟨g', cap, cur, h0, _, hgg, hle, hmx, hs, ht⟩
  · cases h0
  · simp only [Value.slice.injEq, Option.some.injEq, Addr.mk.injEq, and_true, true_and] at h0
    obtain ⟨rfl, rfl⟩ := h0
    rw [hgg]
    have e1 : cur.toList.take (n * 2) = cur.toList := by rw [List.take_of_length_le]; simp; omega
    rw [e1] at ht
    have e3 : hpCells (List.replicate n noHP) = List.replicate (n * 2) (Value.string ⟨#[]⟩) := by
      clear h hgg hle hmx hs ht e1
      induction n with
      | zero => rfl
      | succ n ih =>
        rw [List.replicate_succ, hpCells, ih, Nat.succ_mul]
        rfl
    have e2 : cur = (List.replicate (n * 2) (Value.string ⟨#[]⟩)).toArray := by
      apply Array.toList_inj.1
      rw [ht]
      simp only [madeCells]
      rw [List.eq_replicate_iff]
      refine ⟨by simp, fun x hx => ?_⟩
      simp at hx
      obtain ⟨a, _, rfl⟩ := hx
      have : a % 2 = 0 ∨ a % 2 = 1 := by omega
      rcases this with e | e <;> simp [e]
    rw [e2, e3]

/-- What is lent: the pairs, and four more of the caller's behind them. -/
def lentH (hs : List HP) : List HP := hs ++ List.replicate 4 farP
def lentHK (hs : List HP) (k : Nat) : List HP := (hs ++ List.replicate k farP) ++ (hs ++ List.replicate 4 noHP).drop (hs.length + k)
theorem lentHK_zero (hs : List HP) : lentHK hs 0 = hs ++ List.replicate 4 noHP := by
  unfold lentHK
  rw [List.drop_append]
  simp
theorem lentHK_four (hs : List HP) : lentHK hs 4 = lentH hs := by
  unfold lentHK lentH
  rw [List.drop_of_length_le (by simp)]
  simp
theorem lentHK_succ (hs : List HP) {k : Nat} (h : k < 4) : (lentHK hs k).set (hs.length + k) farP = lentHK hs (k + 1) := by
  unfold lentHK
  rw [set_next _ (by simp) (by simp; omega)]
  simp only [List.append_assoc, List.replicate_succ', Nat.add_assoc]
theorem lentHK_length (hs : List HP) {k : Nat} (h : k ≤ 4) : (lentHK hs k).length = hs.length + 4 := by
  unfold lentHK
  simp; omega

/-- A list of pairs, as an argument. -/
def HsB (w : World) (v : Value) (hs : List HP) : Prop := HsIn w v hs ∨ ∃ ad c, v = .slice (some ad) 0 c ∧ hs = []
theorem HsIn.nil_or {w : World} {v : Value} {hs : List HP} (h : HsB w v hs) : (v = .slice none 0 0 ∧ hs = []) ∨ ∃ ad c, v = .slice (some ad) hs.length c ∧ (0 < hs.length → ∀ j u, (hpCells hs)[j]? = some u → w.cell? (ad.add j) = some u) := by
  rcases h with (⟨h1, h2⟩ | ⟨bb, off, cap, h1, h2, h3⟩) | ⟨ad, c, h1, h2⟩
  · exact Or.inl ⟨h1, h2⟩
  · refine Or.inr ⟨_, cap, h1, fun _ j u hu => ?_⟩
    have hj := (List.getElem?_eq_some_iff.1 hu).1
    rw [hpCells_length] at hj
    have hk : j / 2 < hs.length := by omega
    obtain ⟨c0, c1⟩ := h3 (j / 2) hk
    obtain ⟨e0, e1⟩ := hpCells_get hk
    rw [Addr.add_mid]
    rcases Nat.mod_two_eq_zero_or_one j with e | e
    · have ej : j = j / 2 * 2 := by omega
      have eo : off + j = off + j / 2 * 2 := by omega
      rw [ej, e0] at hu
      rw [eo, c0, ← hu]
    · have ej : j = j / 2 * 2 + 1 := by omega
      have eo : off + j = off + j / 2 * 2 + 1 := by omega
      rw [ej, e1] at hu
      rw [eo, c1, ← hu]
  · subst h2; exact Or.inr ⟨ad, c, h1, fun h => by simp at h⟩

set_option maxRecDepth 100000 in
theorem lentHeads_nil (w : World) : Calls Tryz.prog 39 #[.slice none 0 0] w fun e w' => e = .returned (.slice none 0 0) ∧ w' = w := by
  have hnil : ∀ w' : World, (binOp .eql 57 (.slice none 0 0) (.slice none 0 0)).run Tryz.prog w' = .ok (.bool true) w' := fun w' => Lib.run_eql_slice_nil w' 57 62 none _ _ _ _ Tryz.underlying57
  go_enter Tryz.func39, Tryz.ntmps39
  go_wp2
  go_ret
  exact ⟨rfl, rfl⟩

set_option maxRecDepth 100000 in
set_option maxHeartbeats 1600000 in
theorem lentHeads_any (ad : Addr) (c : Nat) (hs : List HP) (w : World) (hl : hs.length ≤ 4294967296) (hin : 0 < hs.length → ∀ j u, (hpCells hs)[j]? = some u → w.cell? (ad.add j) = some u) (hlt : 0 < hs.length → ad.block < w.heap.size) :
    Calls Tryz.prog 39 #[.slice (some ad) hs.length c] w fun e w' => e = .returned (.slice (some ⟨w.heap.size, 0, none⟩) hs.length (hs.length + 4)) ∧ w'.heap[w.heap.size]? = some (.cells (hpCells (lentH hs)).toArray 62 (0, 0)) ∧ Below w.heap.size w w' := by
  obtain ⟨i0, hi, hz0, hz1, hz2⟩ := info_parts Tryz.info62
  have hsz : (Tryz.prog.info? 62).map (·.size) = some 2 := by rw [hi]; simp [hz1]
  have hnil : ∀ w' : World, (binOp .eql 57 (.slice (some ad) hs.length c) (.slice none 0 0)).run Tryz.prog w' = .ok (.bool false) w' := fun w' => Lib.run_eql_slice_nil w' 57 62 (some ad) _ _ _ _ Tryz.underlying57
  have HIN := hide hin
  have HLT := hide hlt
  clear hin hlt
  go_enter Tryz.func39, Tryz.ntmps39
  go_wp2_with (at_make; refine wpList_make_full _ rfl _ _ 57 rfl w.heap.size 62 i0 (.agg #[.string ⟨#[]⟩, .string ⟨#[]⟩]) 2 Tryz.underlying57 hi hz0 hz1 _ _ _ _ (hs.length + 4) rfl rfl ?m1 ?m2 ?m3 ?m4 ?m5 ?_)
  case m1 => go_num
  case m2 => go_num
  case m3 => rw [hz2]; omega
  case m4 => unfold maxLen; omega
  case m5 => simp
  intro w1 hown1 hg1
  have hbel1 : Below w.heap.size w w1 := (Below.refl _ _).grown hg1 (Nat.le_refl _) (fun k h => by cases h)
  have hh := made_list2 hown1
  have hcs : 0 < hs.length → ∃ ad', some ad = some ad' ∧ ∀ j v, (hpCells hs)[j]? = some v → w1.cell? (ad'.add j) = some v := fun h0 => ⟨ad, rfl, fun j v hv => by
    have h1 := HIN.out h0 j v hv
    have h2 := HLT.out h0
    rw [← h1]
    exact hbel1.cell (p := ad.add j) (by rw [addr_block]; exact h2)⟩
  have HH := hide hh
  have HCS := hide hcs
  have HB1 := hide hbel1
  obtain ⟨CS, hCS⟩ : ∃ CS, CS = hpCells hs := ⟨_, rfl⟩
  have hCL : CS.length = hs.length * 2 := by rw [hCS, hpCells_length]
  have HCE := hide hCS
  have HONE : Hid (∀ v ∈ CS, v.oneCell' = true) := by rw [hCS]; exact hpCells_one hs
  rw [← hCS] at HCS
  have HCL := hide hCL
  clear hown1 hg1 hh hcs hbel1 hCS hCL hnil
  go_wp2_with (refine wpList_copy_rowS rfl (.tmp 13) (.tmp 14) 57 57 rfl 62 Tryz.underlying57 2 hsz w.heap.size (hs.length + 4) (hs.length + 4) (some ad) hs.length c hs.length rfl rfl (hpCells (List.replicate (hs.length + 4) noHP)) 62 HH.out CS (Nat.min_eq_left (by omega)) HCL.out HCS.out ?c2 HONE.out w.heap.size w HB1.out (Nat.le_refl _) ?_)
  case c2 => rw [HCL.out, hpCells_length, List.length_replicate]; omega
  intro w2 HG2 hB2
  have hg2 : w2.heap[w.heap.size]? = some (.cells (hpCells (lentHK hs 0)).toArray 62 (0, 0)) := by
    have h := HG2.out
    rw [HCL.out, HCE.out, ← hpCells_drop, ← hpCells_append, List.drop_replicate] at h
    rw [lentHK_zero]
    have e : hs.length + 4 - hs.length = 4 := by omega
    rw [e] at h
    exact h
  have HG := hide hg2
  have HB2 := hide hB2
  clear HG2 hg2 hB2 HCS HCL HONE HCE
  go_wp2
  go_loopw [5] (fun i wr => ∃ k : Nat, k ≤ 4 ∧ i = .int .i64 ((hs.length : Int) + (k : Int)) ∧ Below w.heap.size w wr ∧ wr.heap[w.heap.size]? = some (.cells (hpCells (lentHK hs k)).toArray 62 (0, 0))) (fun i _ => hs.length + 4 - (intOf i).toNat)
  case atStart => exact ⟨0, Nat.zero_le _, by simp, HB2.out, HG.out⟩
  case round =>
    obtain ⟨k, hk, rfl, hbel, hrow⟩ := hrel
    by_cases hlt : k < 4
    · have HROW := hide hrow
      have HBEL := hide hbel
      have HSZ := hide hsz
      have HON : Hid ((#[.string ⟨#[98, 101, 121, 111, 110, 100]⟩, .string ⟨#[98, 101, 121, 111, 110, 100]⟩] : Array Value).all (·.oneCell') = true) := all_oneCell_toArray (hpCells_one [farP])
      clear hrow hbel hsz
      go_wp2_with fail
      refine (far_any _).mono ?_
      rintro e w' ⟨rfl, hb'⟩
      have hrow := kept_told HROW.out hb'
      have hbel := HBEL.out.trans (hb'.mono HBEL.out.size)
      have HTH := hide (hp_there (k := hs.length + k) hrow (by rw [lentHK_length hs hk]; omega))
      have HR := hide (hp_store (k := hs.length + k) farP hrow (by rw [lentHK_length hs hk]; omega))
      have HBL := hide (below_setCells2 (B := w.heap.size) (g := w.heap.size) (Nat.le_refl _) [.string ⟨#[98, 101, 121, 111, 110, 100]⟩, .string ⟨#[98, 101, 121, 111, 110, 100]⟩] ((hs.length + k) * 2) w' hbel)
      clear hrow hbel hb'
      go_wp2_with (refine wpList_store_mid rfl 62 (.tmp 26) (.tmp 25) rfl w.heap.size ((hs.length + k) * 2) #[.string ⟨#[98, 101, 121, 111, 110, 100]⟩, .string ⟨#[98, 101, 121, 111, 110, 100]⟩] rfl rfl HTH.out HSZ.out HON.out ?_)
      go_roundw
      case rel => exact ⟨k + 1, by omega, by go_num, HBL.out, by rw [← lentHK_succ hs hlt]; exact HR.out⟩
      case measure => simp [intOf]; omega
    · have hk4 : k = 4 := by omega
      subst hk4
      rw [lentHK_four] at hrow
      have HR := hide hrow
      clear hrow
      go_wp2
      go_ret
      exact ⟨rfl, HR.out, hbel⟩
end Go.Proofs.YtghongdbohjaaaaGreatDoor
