import Derived.Test.YtdccldbefdfppaaGreatDoorPGaw
import Derived.Test.YtdccldbefdfppaaGreatDoorPGar
import Derived.Test.YtdccldbefdfppaaGreatDoorPGab
set_option linter.unusedVariables false
set_option linter.unusedSimpArgs false
namespace Go.Proofs.YtdccldbefdfppaaGreatDoor
open Go.RowKit
section
set_option maxRecDepth 100000 in
set_option maxHeartbeats 400000 in
theorem xclos_idle (fa ra : Nat) (w : World) :
  CallsD Tryz.prog 30 #[.pointer (some ⟨fa, 0, none⟩), .pointer (some ⟨ra, 0, none⟩)] .returning w fun e u' w' => e = .returned (.tuple #[]) ∧ u' = .returning ∧ w' = w := by
 refine callsD_of_wpS Tryz.func30 rfl fun c₀ cs hu => ?_
 apply wpS_seq
 apply wpS_region
 simp [wpOpsS, go_sem, recoverD, hu, Tryz.ntmps30, Exit.thenS]
 refine wpS_of_wp ?_
 change Code.wp Tryz.prog _ _ ⟨#[.pointer (some ⟨fa, 0, none⟩), .pointer (some ⟨ra, 0, none⟩), .nilIface, .nilIface, undef, undef, undef, undef, undef, undef, undef, undef, undef], []⟩ w
 go_wp2
 cases c₀
 simp_all [bodyPostS, results, Tryz.results30]
set_option maxRecDepth 100000 in
set_option maxHeartbeats 400000 in
theorem xclos_panic (fa ra eb : Nat) (code : Int) (older : List PanicEntry) (w : World) (R : World → Prop) (hf : w.heap[fa]? = some (.cells #[.int .i64 0] 41 (0, 0))) (hra : w.heap[ra]? = some (.cells #[.pointer (some ⟨eb, 0, none⟩)] 27 (0, 0))) (hne : fa ≠ ra)
  (hd : Calls Tryz.prog 32 #[.pointer (some ⟨eb, 0, none⟩), .int .i64 code] (w.setCell ⟨fa, 0, none⟩ (.int .i64 code)).drew fun e w' => e = .returned (.tuple #[]) ∧ R w') (hk : ∀ w', R w' → w'.cell? ⟨ra, 0, none⟩ = some (.pointer (some ⟨eb, 0, none⟩)) ∧ w'.cell? ⟨fa, 0, none⟩ = some (.int .i64 code)) :
  CallsD Tryz.prog 30 #[.pointer (some ⟨fa, 0, none⟩), .pointer (some ⟨ra, 0, none⟩)] (.panicking ({ v := .iface 41 (.int .i64 code), recovered := false } :: older)) w fun e u' w' =>
   e = .returned (.tuple #[]) ∧ u' = .panicking ({ v := .iface 41 (.int .i64 code), recovered := true } :: older) ∧ R w' := by
 have cf := cell_of_one hf
 have ff := free_of_one hf
 have c0 := cell_of_one hra
 have hlt := lt_of_block hra
 have k1 : (w.setCell ⟨fa, 0, none⟩ (.int .i64 code)).cell? ⟨fa, 0, none⟩ = some (.int .i64 code) := cell_of_one (show (w.setCell ⟨fa, 0, none⟩ (.int .i64 code)).heap[fa]? = some (.cells #[.int .i64 code] 41 (0, 0)) from blk_set hf)
 have k2 : (w.setCell ⟨fa, 0, none⟩ (.int .i64 code)).cell? ⟨ra, 0, none⟩ = some (.pointer (some ⟨eb, 0, none⟩)) := cell_of_one (by rw [heap_setCell_other w ⟨fa, 0, none⟩ ra _ (fun e => hne e.symm)]; exact hra)
 have HK : Hid ((w.setCell ⟨fa, 0, none⟩ (.int .i64 code)).drew.cell? ⟨ra, 0, none⟩ = some (.pointer (some ⟨eb, 0, none⟩)) ∧ (w.setCell ⟨fa, 0, none⟩ (.int .i64 code)).drew.cell? ⟨fa, 0, none⟩ = some (.int .i64 code)) := ⟨k2, k1⟩
 have HD := hide hd
 have HKP := hide hk
 clear hf hra hd hk
 refine callsD_of_wpS Tryz.func30 rfl fun c₀ cs hu => ?_
 apply wpS_seq
 apply wpS_region
 simp [wpOpsS, go_sem, recoverD, hu, Tryz.ntmps30, Exit.thenS]
 refine wpS_of_wp ?_
 change Code.wp Tryz.prog _ _ ⟨#[.pointer (some ⟨fa, 0, none⟩), .pointer (some ⟨ra, 0, none⟩), .iface 41 (.int .i64 code), .iface 41 (.int .i64 code), undef, undef, undef, undef, undef, undef, undef, undef, undef], []⟩ w
 go_wp2_with (go_at_call 31; refine (faultOf_any _ _).mono ?_; rintro e w' ⟨rfl, hw'⟩; rw [hw']; clear hw' w')
 go_region_held3 (fun wx => wx.cell? ⟨ra, 0, none⟩ = some (.pointer (some ⟨eb, 0, none⟩)) ∧ wx.cell? ⟨fa, 0, none⟩ = some (.int .i64 code)) (first | exact HK.out | exact HKP.out _ (by assumption)) (first | (go_at_call 32; refine HD.out.mono ?_; rintro e w' ⟨rfl, hx⟩))
 all_goals exact ⟨rfl, _, rfl, .tuple #[], by simp [results, Tryz.results30], rfl, rfl, by assumption⟩
theorem NextX.out {w w1 w2 : World} {eb mb : Nat} {X Y : GX} {S : Nat → Prop} (h : NextX w w1 eb mb X Y) (hc : Chg S w1 w2) (hs : ∀ j, S j → w.heap.size ≤ j ∧ ¬ FootX eb mb Y j) : NextX w w2 eb mb X Y where
 inv := h.inv.chg hc (fun j hj e => (hs j e).2 hj)
 chg := h.chg.trans (hc.mono fun j _ e => Or.inl (hs j e).1)
 grow := h.grow
set_option maxRecDepth 100000 in
set_option maxHeartbeats 1200000 in
theorem x_feedX (eb mb : Nat) (X : GX) (bv : Value) (l : List UInt8) (w : World) (h : InvX w eb mb X) (hr : RdOk X.g) (ho : SoundX X) (hgl : Gl w) (hge : ∀ j, j < 7 → ¬ FootX eb mb X j) (hb : BytesIn w bv l) (hbn : ∀ j, bv.ownBlock = some j → ¬ FootX eb mb X j) (hl : l.length ≤ 4611686018427387904) :
  Calls Tryz.prog 16 #[.pointer (some ⟨eb, 0, none⟩), bv] w fun e w' => e = .returned (.int .i64 (X.fed l).g.m.fault) ∧ ∃ Y', Y'.bare = (X.fed l).bare ∧ RdOk Y'.g ∧ NextX w w' eb mb X Y' := by
 have hmf : ∀ (fn : Fn) (first cap : Array Value) (w : World), (Instr.makeFunc fn first cap).run Tryz.prog w = .ok (.func fn first cap) w := fun _ _ _ _ => rfl
 obtain ⟨wA, hwA⟩ : ∃ wA, wA = (w.alloc (.cells #[.pointer (some ⟨eb, 0, none⟩)] 27)).alloc (.cells #[.int .i64 0] 41) := ⟨_, rfl⟩
 have hbA : Below w.heap.size w wA := by rw [hwA]; exact ((Below.refl _ _).alloc (Nat.le_refl _) _).alloc (by simp) _
 have hbx : wA.heap[w.heap.size]? = some (.cells #[.pointer (some ⟨eb, 0, none⟩)] 27 (0, 0)) := by
  rw [hwA, heap_alloc_old _ _ (by simp)]
  exact heap_alloc_new w _
 have hfc : wA.heap[w.heap.size + 1]? = some (.cells #[.int .i64 0] 41 (0, 0)) := by
  have := heap_alloc_new (w.alloc (.cells #[.pointer (some ⟨eb, 0, none⟩)] 27)) (.cells #[.int .i64 0] 41)
  rw [hwA]
  simpa using this
 have hA := h.below hbA
 have HFE := hide (x_feedI eb mb X bv l wA hA hr ho (hgl.below hbA) hge (hb.chg (Chg.of_below (S := fun _ => False) hbA) (fun _ _ => id)) hbn hl)
 have hnf : ∀ j, w.heap.size ≤ j → ¬ FootX eb mb X j := fun j hj hf => by have := h.lt hf; omega
 have hlA : w.heap.size + 1 < wA.heap.size := lt_of_block hfc
 generalize X.fed l = Q at *
 -- behind the inner Feed
 have HMID : Hid (∀ w1 Y', Y'.bare = Q.bare → NextX wA w1 eb mb X Y' → w1.cell? ⟨w.heap.size, 0, none⟩ = some (.pointer (some ⟨eb, 0, none⟩)) ∧ w1.cell? ⟨w.heap.size + 1, 0, none⟩ = some (.int .i64 0) ∧ w1.frozen? ⟨w.heap.size + 1, 0, none⟩ = false ∧ (Calls Tryz.prog 34 #[.pointer (some ⟨eb, 0, none⟩)] w1 fun e w' => e = .returned (.int .i64 Q.g.m.fault) ∧ w' = w1) ∧ (∀ v, (w1.setCell ⟨w.heap.size + 1, 0, none⟩ v).cell? ⟨w.heap.size + 1, 0, none⟩ = some v) ∧ ∀ v, NextX w (w1.setCell ⟨w.heap.size + 1, 0, none⟩ v) eb mb X Y') := fun w1 Y' hg hn => by
  have e1 : w1.heap[w.heap.size]? = some (.cells #[.pointer (some ⟨eb, 0, none⟩)] 27 (0, 0)) := by rw [hn.chg.block _ (lt_of_block hbx) (hnf _ (Nat.le_refl _))]; exact hbx
  have e2 : w1.heap[w.heap.size + 1]? = some (.cells #[.int .i64 0] 41 (0, 0)) := by rw [hn.chg.block _ hlA (hnf _ (Nat.le_succ _))]; exact hfc
  refine ⟨cell_of_one e1, cell_of_one e2, free_of_one e2, ?_, fun v => cell_of_one (show (w1.setCell ⟨w.heap.size + 1, 0, none⟩ v).heap[w.heap.size + 1]? = some (.cells #[v] 41 (0, 0)) from blk_set e2), fun v => ?_⟩
  ·have := eFault_any eb Y'.g.m w1 hn.inv.inv.en
   rw [bare_fault hg] at this
   exact this
  ·refine (hn.pre hbA).out (S := fun j => j = w.heap.size + 1) (chg_set (Chg.refl _ _) rfl) (fun j e => ⟨by omega, fun hf => ?_⟩)
   rcases hn.grow j hf with a | a
   ·exact hnf j (by omega) a
   ·omega
 -- behind the inner Feed's panic
 have HDIE : Hid (∀ w1 Z, (Z.died Q.g.m.fault).bare = Q.bare → DiesX wA w1 eb mb X Z Q.g.m.fault → CallsD Tryz.prog 30 #[.pointer (some ⟨w.heap.size + 1, 0, none⟩), .pointer (some ⟨w.heap.size, 0, none⟩)] (.panicking [{ v := .iface 41 (.int .i64 Q.g.m.fault), recovered := false }]) w1 fun e u' w' => e = .returned (.tuple #[]) ∧ u' = .panicking [{ v := .iface 41 (.int .i64 Q.g.m.fault), recovered := true }] ∧ (w'.cell? ⟨w.heap.size, 0, none⟩ = some (.pointer (some ⟨eb, 0, none⟩)) ∧ w'.cell? ⟨w.heap.size + 1, 0, none⟩ = some (.int .i64 Q.g.m.fault)) ∧ ∃ Y', Y'.bare = Q.bare ∧ RdOk Y'.g ∧ NextX w w' eb mb X Y') := fun w1 Z hZ hd => by
  generalize Q.g.m.fault = code at *
  obtain ⟨X1, wI, m0, e, hg⟩ := hd
  have hnf1 : ∀ j, w.heap.size ≤ j → j < wA.heap.size → ¬ FootX eb mb X1 j := fun j h1 h2 hf => by
   rcases hg.nx.grow j hf with a | a
   ·exact hnf j h1 a
   ·omega
  have hkeep : ∀ j, w.heap.size ≤ j → j < wA.heap.size → w1.heap[j]? = wA.heap[j]? := fun j h1 h2 => by
   rw [hg.chg.block j (Nat.lt_of_lt_of_le h2 hg.nx.chg.size) (fun a => ?_), hg.nx.chg.block j h2 (hnf j h1)]
   rcases a with a | a | a | a | a
   ·exact hnf1 j h1 h2 (Or.inl (Or.inl a))
   ·exact hnf1 j h1 h2 (Or.inl (Or.inr (Or.inr (Or.inr (Or.inl a)))))
   ·exact hnf1 j h1 h2 (Or.inr (Or.inl a))
   ·exact hnf1 j h1 h2 (Or.inr (Or.inr (Or.inl a)))
   ·omega
  have e1 : w1.heap[w.heap.size]? = some (.cells #[.pointer (some ⟨eb, 0, none⟩)] 27 (0, 0)) := by rw [hkeep _ (Nat.le_refl _) (by omega)]; exact hbx
  have e2 : w1.heap[w.heap.size + 1]? = some (.cells #[.int .i64 0] 41 (0, 0)) := by rw [hkeep _ (by omega) hlA]; exact hfc
  have hcs0 : Chg (fun j => j = w.heap.size + 1) w1 (w1.setCell ⟨w.heap.size + 1, 0, none⟩ (.int .i64 code)) := chg_set (Chg.refl _ _) rfl
  have hcs : Chg (fun j => j = w.heap.size + 1) w1 (w1.setCell ⟨w.heap.size + 1, 0, none⟩ (.int .i64 code)).drew := hcs0.drew
  have hfa := hnf1 (w.heap.size + 1) (by omega) hlA
  have hra := hnf1 w.heap.size (Nat.le_refl _) (by omega)
  have hg2 : GaveX w (w1.setCell ⟨w.heap.size + 1, 0, none⟩ (.int .i64 code)).drew eb mb X X1 wI m0 code := by
   refine ⟨hg.nx.pre hbA, hg.en.chg hcs (fun a => hfa (Or.inl (Or.inl a.symm))), hg.same, ?_, hg.few⟩
   refine (hg.chg.mono fun j _ a => ?_).trans (hcs.mono fun j _ a => Or.inr ?_)
   ·rcases a with a | a | a | a | a
    ·exact Or.inl a
    ·exact Or.inr (Or.inl a)
    ·exact Or.inr (Or.inr (Or.inl a))
    ·exact Or.inr (Or.inr (Or.inr (Or.inl a)))
    ·exact Or.inr (Or.inr (Or.inr (Or.inr ⟨by omega, a.2⟩)))
   ·subst a
    exact Or.inr (Or.inr (Or.inr (Or.inr ⟨by omega, hfa⟩)))
  have hb3 : (w1.setCell ⟨w.heap.size + 1, 0, none⟩ (.int .i64 code)).drew.heap[w.heap.size + 1]? = some (.cells #[.int .i64 code] 41 (0, 0)) := by
   show (w1.setCell ⟨w.heap.size + 1, 0, none⟩ (.int .i64 code)).heap[w.heap.size + 1]? = _
   rw [blk_set e2]
   rfl
  have hb4 : (w1.setCell ⟨w.heap.size + 1, 0, none⟩ (.int .i64 code)).drew.heap[w.heap.size]? = some (.cells #[.pointer (some ⟨eb, 0, none⟩)] 27 (0, 0)) := by
   rw [hcs.block _ (lt_of_block e1) (by omega)]
   exact e1
  refine (xclos_panic (w.heap.size + 1) w.heap.size eb code [] w1 (fun w' => (w'.cell? ⟨w.heap.size, 0, none⟩ = some (.pointer (some ⟨eb, 0, none⟩)) ∧ w'.cell? ⟨w.heap.size + 1, 0, none⟩ = some (.int .i64 code)) ∧ ∃ Y', Y'.bare = Q.bare ∧ RdOk Y'.g ∧ NextX w w' eb mb X Y') e2 e1 (by omega) ?_ (fun w' h => h.1)).mono (fun e u' w' h => h)
  refine (die_X w _ eb mb X X1 wI m0 code hg2).mono ?_
  rintro e' w' ⟨rfl, X', q1, q2, q3, hc⟩
  refine ⟨rfl, ⟨?_, ?_⟩, X', (q1.trans e).trans hZ, q2, q3⟩
  ·exact cell_of_one (by rw [hc.block _ (lt_of_block hb4) (fun a => hra (Or.inl a))]; exact hb4)
  ·exact cell_of_one (by rw [hc.block _ (lt_of_block hb3) (fun a => hfa (Or.inl a))]; exact hb3)
 have HWA := hide hwA
 have hlt := h.inv.en.lt
 obtain ⟨sv, cv, hv, -⟩ := bytesIn_len hb
 subst hv
 clear h hr ho hgl hge hb hbn hbA hfc hA hnf
 have k0 : wA.cell? ⟨w.heap.size, 0, none⟩ = some (.pointer (some ⟨eb, 0, none⟩)) := cell_of_one hbx
 clear hbx
 generalize hF : Q.g.m.fault = F at *
 go_enter_defers Tryz.func16, Tryz.ntmps16
 go_wp2_with fail
 rw [← HWA.out]
 clear hwA
 refine HFE.out.mono ?_
 intro e w1 hfx
 unfold FeedX at hfx
 rw [hF] at hfx
 rcases hfx with ⟨rfl, Y', hg', hr', hn'⟩ | ⟨rfl, Z, hZ, hd⟩
 ·obtain ⟨k1, k2, f1, hef, hsame, hend⟩ := HMID.out w1 Y' hg' hn'
  have HSAME := hide hsame
  have HEF := hide hef
  have HEND := hide hend
  have HG := hide hg'
  have HR' := hide hr'
  clear hef hend hg' hr' hn' HMID hsame HDIE k0 HFE
  go_wp2_with fail
  refine HEF.out.mono ?_
  rintro e w' ⟨rfl, hw'⟩
  rw [hw']
  clear hw' w'
  go_wp2
  refine leaves_cons (f := 30) (args := #[.pointer (some ⟨w.heap.size + 1, 0, none⟩), .pointer (some ⟨w.heap.size, 0, none⟩)]) (by simp) (by simp [go_sem]) ?_
  refine (xclos_idle (w.heap.size + 1) w.heap.size _).mono ?_
  rintro e u' w'' ⟨rfl, rfl, rfl⟩
  refine ⟨.int .i64 F, ?_, ?_⟩
  ·have hs := HSAME.out (.int .i64 F)
   simp [results, Tryz.results16, go_sem, hs]
  ·exact ⟨rfl, Y', HG.out, HR'.out, HEND.out _⟩
 ·have HC := hide (HDIE.out w1 Z hZ hd)
  clear hd hZ HMID HFE HDIE
  refine leaves_cons (f := 30) (args := #[.pointer (some ⟨w.heap.size + 1, 0, none⟩), .pointer (some ⟨w.heap.size, 0, none⟩)]) (by simp) (by simp [go_sem]) ?_
  refine HC.out.mono ?_
  rintro e u' w'' ⟨rfl, rfl, hk, hx⟩
  have hk2 := hk.2
  refine ⟨.int .i64 F, ?_, ?_⟩
  ·simp [results, Tryz.results16, go_sem, hk2]
  ·exact ⟨rfl, hx⟩
end
section
def EndM.greeted_ (m : EndM) : EndM := { m with greets := false }
set_option maxRecDepth 100000 in
set_option maxHeartbeats 3200000 in
theorem en_putG (eb : Nat) (m : EndM) (l : List UInt8) (k f s : Int) (sa : Option Addr) (body : List UInt8) (cap : Nat) (w : World) (h : EnB w eb m) (hg : m.greets = true) (hrow : w.ownsRow 0 5 1 m.out l.length (l.map B)) (hl : l.length ≤ 1073741824) (hk0 : 0 ≤ k) (hk1 : k ≤ 255) (hf0 : 0 ≤ f) (hf1 : f ≤ 255) (hs0 : 0 ≤ s) (hs1 : s ≤ 32767) (hn : body.length ≤ 64)
  (hb : BytesIn w (.slice sa body.length cap) body) (hbn : ∀ j, (Value.slice sa body.length cap).ownBlock = some j → j ≠ eb ∧ m.out.ownBlock ≠ some j) :
  Calls Tryz.prog 111 #[.pointer (some ⟨eb, 0, none⟩), .agg #[.int .i64 k, .int .i64 f, .int .i64 s, .slice sa body.length cap]] w fun e w' => e = .returned (.tuple #[]) ∧ ∃ v, Put w w' eb m.greeted_ l (greetB ++ lay k f s body) v := by
 obtain ⟨i0, hi, hz0, hz1, hz2⟩ := info_parts Tryz.info5
 obtain ⟨so, co, ho⟩ := slice_len hrow
 have hlt := h.lt
 have c39 := h.c39
 rw [hg] at c39
 have f39 := h.fr 39
 have c41 := h.c41
 rw [ho] at c41
 have f41 := h.fr 41
 obtain ⟨wA, hwA⟩ : ∃ wA, wA = w.alloc (.cells #[.int .i64 k, .int .i64 f, .int .i64 s, .slice sa body.length cap] 48) := ⟨_, rfl⟩
 have hbA : Below w.heap.size w wA := by rw [hwA]; exact (Below.refl _ _).alloc (Nat.le_refl _) _
 have hfr : wA.heap[w.heap.size]? = some (.cells #[.int .i64 k, .int .i64 f, .int .i64 s, .slice sa body.length cap] 48 (0, 0)) := by rw [hwA]; exact heap_alloc_new w _
 have hA := h.below hbA
 have hrA : wA.ownsRow 0 5 1 (.slice so l.length co) l.length (l.map B) := by rw [← ho]; exact owns_chg hrow (Chg.of_below (S := fun _ => False) hbA) (fun _ _ => id)
 have cA39 := hA.c39
 rw [hg] at cA39
 have cA41 := hA.c41
 rw [ho] at cA41
 have hltA := hA.lt
 have HFR := hide hfr
 have hly := lay_length k f s body
 have HA := hide hA
 have HRA := hide hrA
 have HBA := hide hbA
 have HO := hide ho
 have HWA := hide hwA
 have HROW := hide hrow
 have HB := hide hb
 have HBN := hide hbn
 clear h hrow hb hbA hfr hwA hA hrA hbn c39 f39 c41 f41
 obtain ⟨L, hL⟩ : ∃ L, L = lay k f s body := ⟨_, rfl⟩
 rw [← hL] at hly ⊢
 have hly2 : L.length ≤ 70 := by omega
 have HLL := hide hL
 clear hL hly
 go_enter Tryz.func111, Tryz.ntmps111
 go_upto_region 1 with fail
 rw [← HWA.out]
 go_wp2_with (at_builtin; refine wpList_app_str _ rfl (.tmp 14) (.const (.string ⟨#[115, 108, 117, 105, 99, 101, 10]⟩)) 44 9 rfl 5 i0 Tryz.underlying44 Tryz.underlying9 hi hz0 hz1 hz2 _ _ _ rfl HRA.out ⟨#[115, 108, 117, 105, 99, 101, 10]⟩ rfl ?c3 ?c4 ?_)
 case c3 => show l.length + 7 ≤ maxLen; unfold maxLen; omega
 case c4 => show l.length + 7 ≤ _; omega
 intro v1 w1 hown1 hg1 hfr1
 rw [strCells_eq] at hown1
 obtain ⟨l1, hl1⟩ : ∃ l1, l1 = l ++ greetB := ⟨_, rfl⟩
 have hown1 : w1.ownsRow 0 5 1 v1 l1.length (l1.map B) := by rw [hl1, List.length_append, List.map_append]; exact hown1
 have hl1l : l1.length ≤ 1073741840 := by rw [hl1, List.length_append]; show l.length + 7 ≤ _; omega
 have HL1 := hide hl1
 clear hl1
 obtain ⟨s1, q1, hv1⟩ := slice_len hown1
 subst hv1
 have hb1 := kept_block HRA.out hg1 HA.out.blk (by decide)
 have hen1 : EnB w1 eb m := ⟨hb1⟩
 have d39 := hen1.c39
 rw [hg] at d39
 have e39 := hen1.fr 39
 have d41 := hen1.c41
 rw [HO.out] at d41
 have e41 := hen1.fr 41
 have hlt1 := hen1.lt
 have hbx1 := kept_block HRA.out hg1 HFR.out (by decide)
 have hc1 : Chg (fun j => m.out.ownBlock = some j) wA w1 := Chg.of_grown hg1 (fun j hj => by rw [HO.out]; exact hj)
 have HOWN1 := hide hown1
 have HEN1 := hide hen1
 have HBX1 := hide hbx1
 have HC1 := hide hc1
 have HFR1 := hide hfr1
 clear hown1 hg1 hfr1 hen1 hb1 hbx1 hc1 cA39 cA41 hltA
 go_upto_region 4 with fail
 obtain ⟨wG, hwG⟩ : ∃ wG, wG = (w1.setCell ⟨eb, 41, none⟩ (.slice s1 l1.length q1)).setCell ⟨eb, 39, none⟩ (.bool false) := ⟨_, rfl⟩
 rw [← hwG]
 have hcG : Chg (fun j => j = eb) w1 wG := by rw [hwG]; exact chg_set (chg_set (Chg.refl _ _) rfl) rfl
 have henG : EnB wG eb { m.greeted_ with out := .slice s1 l1.length q1 } := by rw [hwG]; exact EnB.of (blk_set (blk_set HEN1.out.blk)) rfl
 have hrG : wG.ownsRow 0 5 1 (.slice s1 l1.length q1) l1.length (l1.map B) := owns_chg HOWN1.out hcG (fun j hj e => by subst e; exact owns_ne HOWN1.out HEN1.out.blk (by decide) hj)
 have hne : w.heap.size ≠ eb := by omega
 have hbxG : wG.heap[w.heap.size]? = some (.cells #[.int .i64 k, .int .i64 f, .int .i64 s, .slice sa body.length cap] 48 (0, 0)) := by rw [hcG.block _ (lt_of_block HBX1.out) hne]; exact HBX1.out
 have hby : BytesIn wG (.slice sa body.length cap) body := by
  refine ((HB.out.chg (Chg.of_below (S := fun _ => False) HBA.out) (fun _ _ => id)).chg HC1.out (fun j hj e => (HBN.out j hj).2 e)).chg hcG (fun j hj e => (HBN.out j hj).1 e)
 have HBY := hide (bytes_any k f s sa body cap wG.drew hk0 hk1 hf0 hf1 hs0 hs1 hn (hby.chg (Chg.of_below (S := fun _ => False) (Below.drew (Below.refl _ _))) (fun _ _ => id)))
 have b0 : wG.cell? ⟨w.heap.size, 0, none⟩ = some (.int .i64 k) := by rw [cell_of_row _ _ _ _ _ _ hbxG]; rfl
 have b1 : wG.cell? ⟨w.heap.size, 1, none⟩ = some (.int .i64 f) := by rw [cell_of_row _ _ _ _ _ _ hbxG]; rfl
 have b2 : wG.cell? ⟨w.heap.size, 2, none⟩ = some (.int .i64 s) := by rw [cell_of_row _ _ _ _ _ _ hbxG]; rfl
 have b3 : wG.cell? ⟨w.heap.size, 3, none⟩ = some (.slice sa body.length cap) := by rw [cell_of_row _ _ _ _ _ _ hbxG]; rfl
 have g41 : wG.cell? ⟨eb, 41, none⟩ = some (.slice s1 l1.length q1) := henG.c41
 have hltG := henG.lt
 have hltx := lt_of_block hbxG
 rw [← HLL.out] at HBY
 have HENG := hide henG
 have HRG := hide hrG
 have HCG := hide hcG
 have HWG := hide hwG
 have hsz : w.heap.size ≤ wG.heap.size := Nat.le_trans (Nat.le_trans HBA.out.size HC1.out.size) hcG.size
 clear henG hrG hcG hwG hby hbxG d39 e39 d41 e41 hlt1 hne
 go_region_law (first
  | (refine step_call rfl 151 Tryz.f151 Tryz.func151 (by kernel_rfl) rfl [.tmp 29] #[48] rfl [.agg #[.int .i64 k, .int .i64 f, .int .i64 s, .slice sa body.length cap]] (by simp [Act.eval, Act.put]) HBY.out ?_; rintro e w2 ⟨v2, rfl, hr2, hb2⟩; refine ⟨_, rfl, ?_⟩; obtain ⟨s2, q2, hv2⟩ := slice_len hr2; subst hv2; have hB2 : Below wG.heap.size wG w2 := ⟨hb2.os, hb2.tape, hb2.output, hb2.size, hb2.block⟩; have c41b : w2.cell? ⟨eb, 41, none⟩ = some (.slice s1 l1.length q1) := (by rw [Below.cell hB2 (p := ⟨eb, 41, none⟩) hltG]; exact g41); have HR2 := hide hr2; have HB2 := hide hB2; clear hr2 hb2 hB2)
  | (refine step_appd rfl (.tmp 28) (.tmp 30) 44 rfl 5 i0 (.int .u8 0) 1 1 Tryz.underlying44 hi hz0 hz1 hz2 rfl (by decide) (.slice s1 l1.length q1) l1.length (l1.map B) (by simp [Act.eval, Act.put]) (owns_chg HRG.out (Chg.of_below (S := fun _ => False) HB2.out) (fun _ _ => id)) _ L.length (L.map B) (by simp [Act.eval, Act.put]) (by simp) (lies_of_bytesIn (bytesIn_of_owns HR2.out rfl)) (by intro u hu; obtain ⟨x, -, rfl⟩ := List.mem_map.1 hu; rfl) (by unfold maxLen; omega) (by omega) ?_; intro v3 w3 ho3 hg3 hfr3; obtain ⟨s3, q3, hv3⟩ := slice_len ho3; subst hv3; have hb3 := kept_block (owns_chg HRG.out (Chg.of_below (S := fun _ => False) HB2.out) (fun _ _ => id)) hg3 (HENG.out.below HB2.out).blk (by decide); have c41c : w3.cell? ⟨eb, 41, none⟩ = some (.slice s1 l1.length q1) := (by rw [cell_of_row w3 eb _ _ _ _ hb3]; rfl); have f41 : w3.frozen? ⟨eb, 41, none⟩ = false := (by simp [World.frozen?, hb3]); have HO3 := hide ho3; have HG3 := hide hg3; have HF3 := hide hfr3; have HB3 := hide hb3; clear ho3 hg3 hfr3 hb3))
 all_goals go_wp2
 all_goals
  have hown : ∀ j, (Value.slice s1 l1.length q1).ownBlock = some j → m.out.ownBlock = some j ∨ w.heap.size ≤ j := fun j hj => by
   have hz := HBA.out.size
   rcases HFR1.out with e | e
   ·rw [e] at hj; exact Or.inl (by rw [HO.out]; exact hj)
   ·rw [e] at hj; simp at hj; exact Or.inr (by omega)
  refine bodyPost_end (results_none rfl _ _ _) rfl ⟨rfl, .slice s3 (l1.length + L.length) q3, ⟨EnB.of (blk_set HB3.out) rfl, ?_, ?_, ?_⟩⟩
  ·rw [← List.append_assoc, ← HL1.out, List.length_append, List.map_append]
   exact owns_chg HO3.out (chg_set (S := fun j => j = eb) (Chg.refl _ _) rfl) (fun j hj e => by subst e; exact owns_ne HO3.out HB3.out (by decide) hj)
  ·have hcA : Chg (fun j => j = eb ∨ m.out.ownBlock = some j) w wG := ((Chg.of_below HBA.out).trans (HC1.out.mono fun j _ e => Or.inr (Or.inr e))).trans (HCG.out.mono fun j _ e => Or.inr (Or.inl e))
   refine chg_set ((hcA.then_below HB2.out).trans (Chg.of_grown HG3.out (fun j hj => ?_))) (Or.inl rfl)
   rcases hown j hj with a | a
   ·exact Or.inr (Or.inr a)
   ·exact Or.inl a
  ·intro j hj
   have hz := HB2.out.size
   rcases HF3.out with e | e
   ·rw [e] at hj; exact hown j hj
   ·rw [e] at hj; simp at hj; exact Or.inr (by omega)
set_option maxRecDepth 100000 in
set_option maxHeartbeats 1600000 in
theorem putSettingsG (eb : Nat) (m : EndM) (n : Nat) (l : List UInt8) (w : World) (h : EnB w eb m) (hg : m.greets = true) (hw : m.wanted = (n : Int)) (hn : n ≤ 1000) (hrow : w.ownsRow 0 5 1 m.out l.length (l.map B)) (hl : l.length ≤ 1073741824) :
  Calls Tryz.prog 112 #[.pointer (some ⟨eb, 0, none⟩)] w fun e w' => e = .returned (.tuple #[]) ∧ ∃ v, Put w w' eb m.setd.greeted_ l (greetB ++ lay 3 0 0 (four4 n)) v := by
 have c7 := h.c7
 rw [hw] at c7
 have c8 := h.c8
 have c9 := h.c9
 have c10 := h.c10
 have f8 := h.fr 8
 have f9 := h.fr 9
 have f10 := h.fr 10
 have hlt := h.lt
 obtain ⟨w1, hw1⟩ : ∃ w1, w1 = ((w.setCell ⟨eb, 8, none⟩ (.bool true)).setCell ⟨eb, 9, none⟩ (.int .i64 (n : Int))).setCell ⟨eb, 10, none⟩ (.bool true) := ⟨_, rfl⟩
 have h1 : EnB w1 eb m.setd := by rw [hw1]; refine EnB.of (blk_set (blk_set (blk_set h.blk))) ?_; rw [← hw]; rfl
 have hc1 : Chg (fun j => j = eb) w w1 := by rw [hw1]; ((repeat (refine chg_set ?_ ?hs; (case hs => first | rfl | assumption | exact Or.inl rfl | exact Or.inr rfl))); first | exact Chg.refl _ _ | exact chg_drewN)
 have hr1 : w1.ownsRow 0 5 1 m.out l.length (l.map B) := owns_chg hrow hc1 (fun j hj e => out_ne h hrow (by rw [hj, e]))
 have d9 : w1.cell? ⟨eb, 9, none⟩ = some (.int .i64 (n : Int)) := by rw [h1.c9]; show some (Value.int .i64 m.wanted) = _; rw [hw]
 have HW1 := hide hw1
 have HF := hide (fNumber_any n w1 (by omega))
 have H1 := hide h1
 have HC1 := hide hc1
 have HR1 := hide hr1
 have hlt1 := h1.lt
 clear h hrow h1 hc1 hr1 hw1
 go_enter Tryz.func112, Tryz.ntmps112
 go_upto_region 3 with fail
 rw [← HW1.out]
 clear c7 c8 c9 c10 f8 f9 f10
 go_wp2_with fail
 refine HF.out.mono ?_
 rintro e w2 ⟨rfl, hby, hlt2, hb2⟩
 have HB2 := hide hb2
 have HP := hide (en_putG eb m.setd l 3 0 0 _ (four4 n) 4 w2 (H1.out.below hb2) hg (owns_chg HR1.out (Chg.of_below (S := fun _ => False) hb2) (fun _ _ => id)) hl (by omega) (by omega) (by omega) (by omega) (by omega) (by omega) (by simp [four4]) hby (fun j hj => by
  simp [Value.ownBlock] at hj
  subst hj
  refine ⟨by omega, fun e => ?_⟩
  have := owns_lt HR1.out e
  omega))
 clear hby hb2
 go_wp2_with fail
 refine HP.out.mono ?_
 rintro e w3 ⟨rfl, v, hp⟩
 have HPP := hide (hp.pre HC1.out HB2.out)
 clear hp
 go_wp2
 exact bodyPost_end (results_none rfl _ _ _) rfl ⟨rfl, v, HPP.out⟩
end
section
theorem next_out {g q : GEnd} (hn : g.next = some q) : g.out.length < q.out.length := by
 have hk : ∀ l : List UInt8, ∀ k f s b, l.length < (l ++ lay k f s b).length := fun l k f s b => by rw [List.length_append, lay_length]; omega
 rcases or_some hn with hn | hn
 ·unfold GEnd.oFirst at hn
  split at hn
  ·cases hn
  ·injection hn with hn; subst hn; exact hk _ _ _ _ _
 rcases or_some hn with hn | hn
 ·unfold GEnd.oAnswer at hn
  split at hn
  ·cases hn
  ·injection hn with hn; subst hn; exact hk _ _ _ _ _
 rcases or_some hn with hn | hn
 ·unfold GEnd.oSettings at hn
  split at hn
  ·cases hn
  ·injection hn with hn; subst hn; exact hk _ _ _ _ _
 rcases or_some hn with hn | hn
 ·unfold GEnd.oPing at hn
  split at hn
  ·injection hn with hn; subst hn; exact hk _ _ _ _ _
  ·cases hn
 rcases or_some hn with hn | hn
 ·unfold GEnd.oCredit at hn
  split at hn
  ·injection hn with hn; subst hn; exact hk _ _ _ _ _
  ·cases hn
 rcases or_some hn with hn | hn
 ·unfold GEnd.oStream at hn
  cases hd : firstDueN g.m g.K g.L with
  | none => rw [hd] at hn; cases hn
  | some n => rw [hd, Option.map_some] at hn; injection hn with hn; subst hn; exact hk _ _ _ _ _
 ·unfold GEnd.oReset at hn
  split at hn
  ·cases hn
  ·injection hn with hn; subst hn; exact hk _ _ _ _ _
theorem next_fault {g q : GEnd} (hn : g.next = some q) : q.m.fault = g.m.fault := by
 rcases or_some hn with hn | hn
 ·unfold GEnd.oFirst at hn
  split at hn
  ·cases hn
  ·injection hn with hn; subst hn; rfl
 rcases or_some hn with hn | hn
 ·unfold GEnd.oAnswer at hn
  split at hn
  ·cases hn
  ·injection hn with hn; subst hn; rfl
 rcases or_some hn with hn | hn
 ·unfold GEnd.oSettings at hn
  split at hn
  ·cases hn
  ·injection hn with hn; subst hn; rfl
 rcases or_some hn with hn | hn
 ·unfold GEnd.oPing at hn
  split at hn
  ·injection hn with hn; subst hn; rfl
  ·cases hn
 rcases or_some hn with hn | hn
 ·unfold GEnd.oCredit at hn
  split at hn
  ·injection hn with hn; subst hn; rfl
  ·cases hn
 rcases or_some hn with hn | hn
 ·unfold GEnd.oStream at hn
  cases hd : firstDueN g.m g.K g.L with
  | none => rw [hd] at hn; cases hn
  | some n => rw [hd, Option.map_some] at hn; injection hn with hn; subst hn; rfl
 ·unfold GEnd.oReset at hn
  split at hn
  ·cases hn
  ·injection hn with hn; subst hn; rfl
def madeLen (w : World) (eb : Nat) : Nat := match w.cell? ⟨eb, 41, none⟩ with
 | some (.slice _ n _) => n
 | _ => 0
theorem Inv.madeLen {w : World} {eb mb : Nat} {g : GEnd} (h : Inv w eb mb g) : madeLen w eb = g.out.length := by
 obtain ⟨a, c, e⟩ := slice_len h.out
 unfold Go.Proofs.YtdccldbefdfppaaGreatDoor.madeLen
 rw [h.en.c41, e]
def oneIf (v : Value) : Nat := match v with
 | .bool true => 1
 | _ => 0
end
end Go.Proofs.YtdccldbefdfppaaGreatDoor
