import Derived.Test.YtdccldbefdfppaaGreatDoorPGat
import Derived.Test.YtdccldbefdfppaaGreatDoorPGaq
import Derived.Laws.IdiomRangeMap
import Derived.BigRegion
set_option linter.unusedVariables false
set_option linter.unusedSimpArgs false
namespace Go.Proofs.YtdccldbefdfppaaGreatDoor
open Go.RowKit
section
def TK {α : Type} (m : Sem α) : Prop := ∀ w v w', m.run Tryz.prog w = .ok v w' → w'.tape = w.tape
theorem TK.pure {α : Type} (a : α) : TK (Pure.pure a : Sem α) := fun w v w' h => by
 simp only [Sem.run_pure] at h
 injection h with h1 h2
 rw [h2]
theorem TK.bind {α β : Type} {m : Sem α} {f : α → Sem β} (h : TK m) (k : ∀ a, TK (f a)) : TK (m >>= f) := fun w v w' hr => by
 rw [Sem.run_bind] at hr
 cases hm : m.run Tryz.prog w with
 | ok a w1 =>
  rw [hm, Result.andThen_ok] at hr
  exact (k a _ _ _ hr).trans (h _ _ _ hm)
 | _ => rw [hm] at hr; simp [Result.andThen] at hr
theorem TK.choose (q : Question) : TK (choose q) := fun w v w' h => by
 unfold Go.choose at h
 simp only [Sem.run] at h
 split at h
 ·injection h with h1 h2
  rw [← h2]
 ·injection h with h1 h2
  rw [← h2]
theorem TK.setObj (b : Nat) (o : Obj) : TK (setObj b o) := fun w v w' h => by
 unfold Go.setObj at h
 simp only [Sem.run] at h
 split at h
 all_goals first
  | (cases h; rfl)
  | cases h
theorem TK.unsupported {α : Type} (u : Unsupported) : TK (unsupported u : Sem α) := fun w v w' h => by
 unfold Go.unsupported at h
 simp [Sem.run] at h
theorem TK.stuck {α : Type} (u : String) : TK (stuck u : Sem α) := fun w v w' h => by
 unfold Go.stuck at h
 simp [Sem.run] at h
theorem next_tape {w w' : World} {r : Nat} {ty : TypeId} {bm since c0 clock : Nat} {seen : Array Nat} {es : Array MapEntry} {v : Value} (hb : w.heap[bm]? = some (.map es clock)) (hi : w.heap[r]? = some (.mapIter (some bm) since seen c0)) (h : (Instr.next (.pointer (some ⟨r, 0, none⟩)) false ty).run Tryz.prog w = .ok v w') : w'.tape = w.tape := by
 simp only [Instr.next, getObj, Sem.run_bind, Sem.run, hi, hb, Result.andThen] at h
 revert h
 refine (fun hk h => hk w v w' h : TK _ → _) ?_
 split
 ·exact TK.bind (TK.unsupported _) fun _ => TK.bind (TK.choose _) fun a => by
   split
   ·exact TK.bind (TK.setObj _ _) fun _ => TK.pure _
   ·exact TK.pure _
   ·exact TK.stuck _
 ·exact TK.bind (TK.choose _) fun a => by
   split
   ·exact TK.bind (TK.setObj _ _) fun _ => TK.pure _
   ·exact TK.pure _
   ·exact TK.stuck _
theorem alike_below {w w1 : World} (h : w1.Alike w) (ht : w1.tape = w.tape) : Below w.heap.size w w1 := ⟨h.2.1, ht, h.2.2, by rw [h.1]; exact Nat.le_refl _, fun k _ => by rw [h.1]⟩
set_option maxRecDepth 100000 in
set_option maxHeartbeats 3200000 in
theorem comeSettings_any (eb mb : Nat) (g : GEnd) (f n : Int) (sv : Option Addr) (len cb : Nat) (w : World) (h : Inv w eb mb g) (hf : 0 ≤ f ∧ f ≤ 255) (hak : hasB f 1 = false) (hn : g.ans.length < 8) (hn0 : 0 ≤ n ∧ n ≤ 2147483647) (hwin : ∀ s ∈ g.K, -1099511627776 ≤ s.st.send ∧ n + s.st.send ≤ 2147483647) :
  Calls Tryz.prog 100 #[.pointer (some ⟨eb, 0, none⟩), .agg #[.int .i64 3, .int .i64 f, .int .i64 0, .slice sv len cb, .int .i64 n]] w fun e w' => e = .returned (.tuple #[]) ∧ ∃ g', g'.bare = ({ g with m := { g.m with other := n, answers := .tuple #[] }, ans := g.ans ++ [⟨3, 1, [], .slice none 0 0⟩] } : GEnd).bare ∧ Next w w' eb mb g g' := by
 obtain ⟨wA, hwA⟩ : ∃ wA, wA = w.alloc (.cells #[.int .i64 3, .int .i64 f, .int .i64 0, .slice sv len cb, .int .i64 n] 173) := ⟨_, rfl⟩
 have hbA : Below w.heap.size w wA := by rw [hwA]; exact (Below.refl _ _).alloc (Nat.le_refl _) _
 have hnew : wA.heap[w.heap.size]? = some (.cells #[.int .i64 3, .int .i64 f, .int .i64 0, .slice sv len cb, .int .i64 n] 173 (0, 0)) := by rw [hwA]; exact heap_alloc_new w _
 have hA := h.below hbA
 have hh := has_any 3 f 0 1 (.slice sv len cb) wA hf.1 (by omega) (Or.inl rfl)
 rw [hak] at hh
 have HH := hide hh
 have HWA := hide hwA
 have HBX := hide hnew
 have HA := hide hA
 have HBA := hide hbA
 have HWN := hide hwin
 have hlt : eb < wA.heap.size := hA.en.lt
 have HFT : Hid (∀ j, (j = eb ∨ g.m.answers.ownBlock = some j) → j < w.heap.size) := fun j e => Foot.lt h (by
  rcases e with e | e
  ·exact Or.inl e
  ·exact Or.inr (Or.inr (Or.inr (Or.inr (Or.inr (Or.inl e))))))
 have HANS : Hid (∀ w2, Below w.heap.size w w2 → Calls Tryz.prog 137 #[.pointer (some ⟨eb, 0, none⟩), .agg #[.int .i64 3, .int .i64 1, .int .i64 0, .slice none 0 0]] w2 fun e w' => e = .returned (.tuple #[]) ∧ ∃ v, Next w w' eb mb g { g with m := { g.m with answers := v }, ans := g.ans ++ [⟨3, 1, [], .slice none 0 0⟩] } ∧ nilV v = .tuple #[] ∧ Chg (fun j => j = eb ∨ g.m.answers.ownBlock = some j) w2 w') := fun w2 hb => by
  have h1 := h.below hb
  refine (answer_any eb mb g 3 1 none 0 0 w2 h1 hn).mono ?_
  rintro e w' ⟨rfl, gr, go, cr, hen, hrow, hch, hfr⟩
  refine ⟨rfl, .slice (some ⟨gr, go, none⟩) (g.ans.length + 1) cr, ?_, rfl, hch⟩
  refine h1.answers (a := ⟨3, 1, [], .slice none 0 0⟩) hch hen hrow (fun j hj => ?_) (World.ownsRow_nil _ _ _ _) (fun j hj => by simp [Value.ownBlock] at hj) ((Next.refl h).then_below hb) (fun j hj => by simp [Value.ownBlock] at hj)
  simp [Value.ownBlock] at hj
  subst hj
  exact hfr
 have HCK : Hid (∀ m W, m ≤ 2147483647 → Calls Tryz.prog 136 #[.int .i64 m] W fun e w' => e = .returned (.tuple #[]) ∧ w' = W) := fun m W hm => checkWindow_ok m W hm
 clear h hA hbA hh hf hak hnew hwin hwA
 go_enter Tryz.func100, Tryz.ntmps100
 go_wp2_with fail
 rw [← HWA.out]
 refine HH.out.mono ?_
 rintro e w1 ⟨rfl, hb1⟩
 have hI1 := HA.out.below hb1
 obtain ⟨es, clock, hmp, hek, hborn, hnd⟩ := hI1.kn.blk
 have c22 := hI1.en.c22
 rw [hI1.km] at c22
 have hbx1 : w1.heap[w.heap.size]? = some (.cells #[.int .i64 3, .int .i64 f, .int .i64 0, .slice sv len cb, .int .i64 n] 173 (0, 0)) := kept_told HBX.out hb1
 have HI1 := hide hI1
 have HB1 := hide hb1
 have HBX1 := hide hbx1
 clear hI1 hb1 hbx1
 have hrg := run_range_map (P := Tryz.prog) w1 78 3 124 mb es clock Tryz.underlying78 hmp
 have HST : Hid (∀ e ∈ es.toList, ∃ s ∈ g.K, e.val = .pointer (some ⟨s.sb, 0, none⟩)) := fun e he => by
  have hm : (e.key, e.val) ∈ (g.K.map GSt.str).map knownE := by rw [← hek]; exact List.mem_map.2 ⟨e, he, rfl⟩
  obtain ⟨p, hp, hpe⟩ := List.mem_map.1 hm
  obtain ⟨s, hs, rfl⟩ := List.mem_map.1 hp
  refine ⟨s, hs, ?_⟩
  have := congrArg Prod.snd hpe
  exact this.symm
 have HBORN := hide hborn
 have HND := hide hnd
 have HMP := hide hmp
 clear hek hborn hnd
 go_wp2
 go_loopw [] (fun wr => ∃ (wz : World) (seen : Array Nat), wz.Alike w1 ∧ wz.tape = w1.tape ∧ wr = wz.alloc (.mapIter (some mb) clock seen clock)) (fun wr => (leftOf es (wr.iterSeen w1.heap.size)).size)
 case atStart => exact ⟨w1, #[], ⟨rfl, rfl, rfl⟩, rfl, rfl⟩
 case round =>
  obtain ⟨wz, seen, hal, htp, rfl⟩ := hrel
  have hsz : wz.heap.size = w1.heap.size := by rw [hal.1]
  have hbz : wz.heap[mb]? = some (.map es clock) := by rw [hal.1]; exact HMP.out
  have law := run_next_map (P := Tryz.prog) wz 0 mb clock clock seen es clock hbz HBORN.out (Nat.le_refl _)
  rw [hsz] at law
  have hbzw : Below w1.heap.size w1 wz := alike_below hal htp
  rcases law with ⟨h0, hrun⟩ | ⟨e, he, w2, hal2, hrun⟩
  ·have hnx : ∀ ty, (Instr.next (.pointer (some ⟨w1.heap.size, 0, none⟩)) false ty).run Tryz.prog (wz.alloc (.mapIter (some mb) clock seen clock)) = _ := fun _ => hrun
   obtain ⟨w3, hw3⟩ : ∃ w3, w3 = wz.alloc (.mapIter (some mb) clock seen clock) := ⟨_, rfl⟩
   have hb3 : Below w1.heap.size w1 w3 := by rw [hw3]; exact hbzw.alloc (by omega) _
   have hbw3 : Below w.heap.size w w3 := HBA.out.trans ((HB1.out.trans (hb3.mono HB1.out.size)).mono HBA.out.size)
   have HAN := hide (HANS.out w3 hbw3)
   have HBX3 := hide (kept_told HBX1.out hb3)
   have HW3 := hide hw3
   clear hw3 hb3 hbw3 hbzw hbz hal htp hsz h0
   go_wp2_with fail
   rw [← HW3.out]
   clear hnx hrun
   refine HAN.out.mono ?_
   rintro e w4 ⟨rfl, v, hn4, hnv, hch⟩
   have hbx4 : w4.heap[w.heap.size]? = some (.cells #[.int .i64 3, .int .i64 f, .int .i64 0, .slice sv len cb, .int .i64 n] 173 (0, 0)) := by
    rw [hch.block _ (lt_of_block HBX3.out) (fun e => by have := HFT.out _ e; omega)]
    exact HBX3.out
   have q4 : w4.cell? ⟨w.heap.size, 4, none⟩ = some (.int .i64 n) := by rw [cell_of_row _ _ _ _ _ _ hbx4]; rfl
   have k12 : w4.cell? ⟨eb, 12, none⟩ = some (.int .i64 g.m.other) := hn4.inv.en.c12
   have f12 := hn4.inv.en.fr 12
   have hset : Chg (fun j => j = eb) w4 (w4.setCell ⟨eb, 12, none⟩ (.int .i64 n)) := chg_set (Chg.refl _ _) rfl
   have hn5 := hn4.inv.onM (m' := { g.m with answers := v, other := n }) hset ⟨(blk_set hn4.inv.en.blk).trans (by simp [EndM.cells])⟩ rfl rfl rfl rfl rfl rfl
   have HEND : Hid (∃ g', g'.bare = ({ g with m := { g.m with other := n, answers := .tuple #[] }, ans := g.ans ++ [⟨3, 1, [], .slice none 0 0⟩] } : GEnd).bare ∧ Next w (w4.setCell ⟨eb, 12, none⟩ (.int .i64 n)) eb mb g g') := by
    refine ⟨_, ?_, hn4.trans hn5⟩
    unfold GEnd.bare
    simp only [GEnd.mk.injEq, true_and, and_true]
    unfold EndM.bare
    simp only [EndM.mk.injEq, true_and, and_true]
    rw [hnv]
    rfl
   clear hn4 hn5 hset hch hbx4 hnv
   go_wp2
   exact bodyPost_end (results_none rfl _ _ _) rfl ⟨rfl, HEND.out⟩
  ·obtain ⟨s, hs, hval⟩ := HST.out e (mem_left he).1
   rw [hval] at hrun
   have hiz : (wz.alloc (.mapIter (some mb) clock seen clock)).heap[w1.heap.size]? = some (.mapIter (some mb) clock seen clock) := by rw [← hsz]; exact heap_alloc_new wz _
   have hmz : (wz.alloc (.mapIter (some mb) clock seen clock)).heap[mb]? = some (.map es clock) := by rw [heap_alloc_old _ _ (Array.getElem?_eq_some_iff.1 hbz).1]; exact hbz
   have htp2 : w2.tape = w1.tape := (next_tape hmz hiz hrun).trans htp
   have hnx : ∀ ty, (Instr.next (.pointer (some ⟨w1.heap.size, 0, none⟩)) false ty).run Tryz.prog (wz.alloc (.mapIter (some mb) clock seen clock)) = _ := fun _ => hrun
   have hsz2 : w2.heap.size = w1.heap.size := by rw [hal2.1, hal.1]
   have hb2 : w2.heap[mb]? = some (.map es clock) := by rw [hal2.1]; exact hbz
   have hen := run_entry_map (P := Tryz.prog) w2 mb clock seen es clock e hb2 (mem_left he).1 HND.out
   rw [hsz2, hval] at hen
   have hal3 : w2.Alike w1 := ⟨hal2.1.trans hal.1, hal2.2.1.trans hal.2.1, hal2.2.2.trans hal.2.2⟩
   obtain ⟨wy, hwy⟩ : ∃ wy, wy = w2.alloc (.mapIter (some mb) clock (seen.push e.born) clock) := ⟨_, rfl⟩
   have hby : Below w1.heap.size w1 wy := by rw [hwy]; exact (alike_below hal3 htp2).alloc (by omega) _
   have hbxy := kept_told HBX1.out hby
   have q4 : wy.cell? ⟨w.heap.size, 4, none⟩ = some (.int .i64 n) := by rw [cell_of_row _ _ _ _ _ _ hbxy]; rfl
   have q0 : wy.cell? ⟨s.sb, 0, none⟩ = some (.int .i64 s.st.send) := ((HI1.out.below hby).st hs).c0
   have d4 : wy.drew.cell? ⟨w.heap.size, 4, none⟩ = some (.int .i64 n) := q4
   have d0 : wy.drew.cell? ⟨s.sb, 0, none⟩ = some (.int .i64 s.st.send) := q0
   obtain ⟨b1, b2⟩ := HWN.out s hs
   have hw1 : IntKind.i64.wrap (n + s.st.send) = n + s.st.send := by rw [IntKind.wrap_i64]; omega
   have HWY := hide hwy
   have HREL : Hid (∃ (wz' : World) (seen' : Array Nat), wz'.Alike w1 ∧ wz'.tape = w1.tape ∧ wy.drew = wz'.alloc (.mapIter (some mb) clock seen' clock)) := ⟨w2.drew, seen.push e.born, hal3, htp2, by rw [hwy]; rfl⟩
   have HMS : Hid ((leftOf es (wy.drew.iterSeen w1.heap.size)).size < (leftOf es ((wz.alloc (.mapIter (some mb) clock seen clock)).iterSeen w1.heap.size)).size) := by
    have e1 : wy.drew.iterSeen w1.heap.size = seen.push e.born := by
     rw [hwy, show (w2.alloc (.mapIter (some mb) clock (seen.push e.born) clock)).drew = w2.drew.alloc (.mapIter (some mb) clock (seen.push e.born) clock) from rfl, ← hsz2, show w2.heap.size = w2.drew.heap.size from rfl, World.iterSeen_alloc]
    have e2 : (wz.alloc (.mapIter (some mb) clock seen clock)).iterSeen w1.heap.size = seen := by rw [← hsz, World.iterSeen_alloc]
    show (leftOf es (wy.drew.iterSeen w1.heap.size)).size < (leftOf es ((wz.alloc (.mapIter (some mb) clock seen clock)).iterSeen w1.heap.size)).size
    rw [e1, e2]
    exact left_shrinks es seen e he
   have HCK2 := hide (HCK.out (n + s.st.send) wy.drew b2)
   clear hby hbxy hwy hal hal2 hal3 htp htp2 hbz hb2 hiz hmz hbzw hsz hsz2 b1 b2
   go_upto_region 6 with fail
   rw [← HWY.out]
   clear hnx hen hrun hrg
   go_region_law (refine step_call rfl 136 Tryz.f136 Tryz.func136 (by kernel_rfl) rfl [.tmp 28] #[3] rfl [.int .i64 (n + s.st.send)] (by simp [Act.eval, Act.put, hw1]) HCK2.out ?_; rintro e w' ⟨rfl, hw'⟩; refine ⟨_, rfl, ?_⟩; rw [hw']; clear hw' w')
   all_goals go_wp2
   all_goals go_roundw
   all_goals first
    | exact HREL.out
    | exact HMS.out
end
section
set_option maxRecDepth 100000 in
set_option maxHeartbeats 3200000 in
theorem comeSettings_great (eb mb : Nat) (g : GEnd) (f n : Int) (sv : Option Addr) (len cb : Nat) (w : World) (h : Inv w eb mb g) (hf : 0 ≤ f ∧ f ≤ 255) (hak : hasB f 1 = false) (hn0 : 0 ≤ n ∧ n ≤ 2147483647) (hwin : ∀ s ∈ g.K, -1099511627776 ≤ s.st.send ∧ s.st.send ≤ 1099511627776) (hbad : ∃ s ∈ g.K, 2147483647 < n + s.st.send) :
  Calls Tryz.prog 100 #[.pointer (some ⟨eb, 0, none⟩), .agg #[.int .i64 3, .int .i64 f, .int .i64 0, .slice sv len cb, .int .i64 n]] w fun e w' => e = faultE 12 ∧ Below w.heap.size w w' := by
 obtain ⟨wA, hwA⟩ : ∃ wA, wA = w.alloc (.cells #[.int .i64 3, .int .i64 f, .int .i64 0, .slice sv len cb, .int .i64 n] 173) := ⟨_, rfl⟩
 have hbA : Below w.heap.size w wA := by rw [hwA]; exact (Below.refl _ _).alloc (Nat.le_refl _) _
 have hnew : wA.heap[w.heap.size]? = some (.cells #[.int .i64 3, .int .i64 f, .int .i64 0, .slice sv len cb, .int .i64 n] 173 (0, 0)) := by rw [hwA]; exact heap_alloc_new w _
 have hA := h.below hbA
 have hh := has_any 3 f 0 1 (.slice sv len cb) wA hf.1 (by omega) (Or.inl rfl)
 rw [hak] at hh
 have HH := hide hh
 have HWA := hide hwA
 have HBX := hide hnew
 have HA := hide hA
 have HBA := hide hbA
 have HWN := hide hwin
 have hlt : eb < wA.heap.size := hA.en.lt
 have HCK : Hid (∀ m W, m ≤ 2147483647 → Calls Tryz.prog 136 #[.int .i64 m] W fun e w' => e = .returned (.tuple #[]) ∧ w' = W) := fun m W hm => checkWindow_ok m W hm
 have HCP : Hid (∀ m W, 2147483647 < m → Calls Tryz.prog 136 #[.int .i64 m] W fun e w' => e = .panicked [{ v := .iface 41 (.int .i64 12), recovered := false }] ∧ w' = W) := fun m W hm => checkWindow_p m W hm
 have HBAD := hide hbad
 have HNDK := hide h.nd
 clear h hA hbA hh hf hak hnew hwin hwA hbad
 go_enter Tryz.func100, Tryz.ntmps100
 go_wp2_with fail
 rw [← HWA.out]
 refine HH.out.mono ?_
 rintro e w1 ⟨rfl, hb1⟩
 have hI1 := HA.out.below hb1
 obtain ⟨es, clock, hmp, hek, hborn, hnd⟩ := hI1.kn.blk
 have c22 := hI1.en.c22
 rw [hI1.km] at c22
 have hbx1 : w1.heap[w.heap.size]? = some (.cells #[.int .i64 3, .int .i64 f, .int .i64 0, .slice sv len cb, .int .i64 n] 173 (0, 0)) := kept_told HBX.out hb1
 have HI1 := hide hI1
 have HB1 := hide hb1
 have HBX1 := hide hbx1
 clear hI1 hb1 hbx1
 have hrg := run_range_map (P := Tryz.prog) w1 78 3 124 mb es clock Tryz.underlying78 hmp
 have HST : Hid (∀ e ∈ es.toList, ∃ s ∈ g.K, e.val = .pointer (some ⟨s.sb, 0, none⟩)) := fun e he => by
  have hm : (e.key, e.val) ∈ (g.K.map GSt.str).map knownE := by rw [← hek]; exact List.mem_map.2 ⟨e, he, rfl⟩
  obtain ⟨p, hp, hpe⟩ := List.mem_map.1 hm
  obtain ⟨s, hs, rfl⟩ := List.mem_map.1 hp
  refine ⟨s, hs, ?_⟩
  have := congrArg Prod.snd hpe
  exact this.symm
 have HENT : Hid (∀ s ∈ g.K, ∃ e ∈ es.toList, e.val = .pointer (some ⟨s.sb, 0, none⟩)) := fun s hs => by
  have hm : knownE s.str ∈ es.toList.map (fun e => (e.key, e.val)) := by rw [hek]; exact List.mem_map.2 ⟨s.str, List.mem_map.2 ⟨s, hs, rfl⟩, rfl⟩
  obtain ⟨e, he, hpe⟩ := List.mem_map.1 hm
  exact ⟨e, he, congrArg Prod.snd hpe⟩
 have HBORN := hide hborn
 have HND := hide hnd
 have HMP := hide hmp
 clear hek hborn hnd
 go_wp2
 go_loopw [] (fun wr => ∃ (wz : World) (seen : Array Nat), wz.Alike w1 ∧ wz.tape = w1.tape ∧ wr = wz.alloc (.mapIter (some mb) clock seen clock) ∧ ∀ e ∈ es.toList, seen.contains e.born = true → ∀ s ∈ g.K, e.val = .pointer (some ⟨s.sb, 0, none⟩) → n + s.st.send ≤ 2147483647) (fun wr => (leftOf es (wr.iterSeen w1.heap.size)).size)
 case atStart => exact ⟨w1, #[], ⟨rfl, rfl, rfl⟩, rfl, rfl, fun e he hc => by simp at hc⟩
 case round =>
  obtain ⟨wz, seen, hal, htp, rfl, hok⟩ := hrel
  have hsz : wz.heap.size = w1.heap.size := by rw [hal.1]
  have hbz : wz.heap[mb]? = some (.map es clock) := by rw [hal.1]; exact HMP.out
  have law := run_next_map (P := Tryz.prog) wz 0 mb clock clock seen es clock hbz HBORN.out (Nat.le_refl _)
  rw [hsz] at law
  have hbzw : Below w1.heap.size w1 wz := alike_below hal htp
  rcases law with ⟨h0, hrun⟩ | ⟨e, he, w2, hal2, hrun⟩
  ·exfalso
   obtain ⟨s0, hs0, hb0⟩ := HBAD.out
   obtain ⟨e0, he0, hv0⟩ := HENT.out s0 hs0
   have hin : seen.contains e0.born = true := by
    have h2 : leftOf es seen = #[] := Array.eq_empty_of_size_eq_zero h0
    cases hc : seen.contains e0.born with
    | true => rfl
    | false =>
     have : e0 ∈ leftOf es seen := by
      unfold leftOf
      rw [Array.mem_filter]
      exact ⟨Array.mem_toList_iff.1 he0, by rw [hc]; rfl⟩
     rw [h2] at this
     simp at this
   have := hok e0 he0 hin s0 hs0 hv0
   omega
  ·obtain ⟨s, hs, hval⟩ := HST.out e (mem_left he).1
   rw [hval] at hrun
   have hiz : (wz.alloc (.mapIter (some mb) clock seen clock)).heap[w1.heap.size]? = some (.mapIter (some mb) clock seen clock) := by rw [← hsz]; exact heap_alloc_new wz _
   have hmz : (wz.alloc (.mapIter (some mb) clock seen clock)).heap[mb]? = some (.map es clock) := by rw [heap_alloc_old _ _ (Array.getElem?_eq_some_iff.1 hbz).1]; exact hbz
   have htp2 : w2.tape = w1.tape := (next_tape hmz hiz hrun).trans htp
   have hnx : ∀ ty, (Instr.next (.pointer (some ⟨w1.heap.size, 0, none⟩)) false ty).run Tryz.prog (wz.alloc (.mapIter (some mb) clock seen clock)) = _ := fun _ => hrun
   have hsz2 : w2.heap.size = w1.heap.size := by rw [hal2.1, hal.1]
   have hb2 : w2.heap[mb]? = some (.map es clock) := by rw [hal2.1]; exact hbz
   have hen := run_entry_map (P := Tryz.prog) w2 mb clock seen es clock e hb2 (mem_left he).1 HND.out
   rw [hsz2, hval] at hen
   have hal3 : w2.Alike w1 := ⟨hal2.1.trans hal.1, hal2.2.1.trans hal.2.1, hal2.2.2.trans hal.2.2⟩
   obtain ⟨wy, hwy⟩ : ∃ wy, wy = w2.alloc (.mapIter (some mb) clock (seen.push e.born) clock) := ⟨_, rfl⟩
   have hby : Below w1.heap.size w1 wy := by rw [hwy]; exact (alike_below hal3 htp2).alloc (by omega) _
   have hbxy := kept_told HBX1.out hby
   have q4 : wy.cell? ⟨w.heap.size, 4, none⟩ = some (.int .i64 n) := by rw [cell_of_row _ _ _ _ _ _ hbxy]; rfl
   have q0 : wy.cell? ⟨s.sb, 0, none⟩ = some (.int .i64 s.st.send) := ((HI1.out.below hby).st hs).c0
   have d4 : wy.drew.cell? ⟨w.heap.size, 4, none⟩ = some (.int .i64 n) := q4
   have d0 : wy.drew.cell? ⟨s.sb, 0, none⟩ = some (.int .i64 s.st.send) := q0
   obtain ⟨b1, b2⟩ := HWN.out s hs
   have hnxok : n + s.st.send ≤ 2147483647 → ∀ e' ∈ es.toList, (seen.push e.born).contains e'.born = true → ∀ s' ∈ g.K, e'.val = .pointer (some ⟨s'.sb, 0, none⟩) → n + s'.st.send ≤ 2147483647 := fun hgood e' he' hc s' hs' hv' => by
    have hc2 : e'.born = e.born ∨ seen.contains e'.born = true := by
     have h3 : e'.born ∈ (seen.push e.born) := by simpa using hc
     rcases Array.mem_push.1 h3 with h4 | h4
     ·exact Or.inr (by simpa using h4)
     ·exact Or.inl h4
    rcases hc2 with hbe | hc
    ·skip
     have hee : e = e' := inj_nd (fun x : MapEntry => x.born) HND.out (mem_left he).1 he' hbe.symm
     subst hee
     rw [hval] at hv'
     simp only [Value.pointer.injEq, Option.some.injEq, Addr.mk.injEq, and_true] at hv'
     have hss : s = s' := inj_nd GSt.sb HNDK.out hs hs' hv'
     subst hss
     exact hgood
    ·exact hok e' he' hc s' hs' hv'
   have hw1 : IntKind.i64.wrap (n + s.st.send) = n + s.st.send := by rw [IntKind.wrap_i64]; omega
   have HWY := hide hwy
   have HREL : Hid (n + s.st.send ≤ 2147483647 → ∃ (wz' : World) (seen' : Array Nat), wz'.Alike w1 ∧ wz'.tape = w1.tape ∧ wy.drew = wz'.alloc (.mapIter (some mb) clock seen' clock) ∧ ∀ e ∈ es.toList, seen'.contains e.born = true → ∀ s ∈ g.K, e.val = .pointer (some ⟨s.sb, 0, none⟩) → n + s.st.send ≤ 2147483647) := fun hgood => ⟨w2.drew, seen.push e.born, hal3, htp2, by rw [hwy]; rfl, hnxok hgood⟩
   have HBY : Hid (Below w.heap.size w wy.drew) := HBA.out.trans ((HB1.out.trans (hby.drew.mono HB1.out.size)).mono HBA.out.size)
   have HMS : Hid ((leftOf es (wy.drew.iterSeen w1.heap.size)).size < (leftOf es ((wz.alloc (.mapIter (some mb) clock seen clock)).iterSeen w1.heap.size)).size) := by
    have e1 : wy.drew.iterSeen w1.heap.size = seen.push e.born := by
     rw [hwy, show (w2.alloc (.mapIter (some mb) clock (seen.push e.born) clock)).drew = w2.drew.alloc (.mapIter (some mb) clock (seen.push e.born) clock) from rfl, ← hsz2, show w2.heap.size = w2.drew.heap.size from rfl, World.iterSeen_alloc]
    have e2 : (wz.alloc (.mapIter (some mb) clock seen clock)).iterSeen w1.heap.size = seen := by rw [← hsz, World.iterSeen_alloc]
    show (leftOf es (wy.drew.iterSeen w1.heap.size)).size < (leftOf es ((wz.alloc (.mapIter (some mb) clock seen clock)).iterSeen w1.heap.size)).size
    rw [e1, e2]
    exact left_shrinks es seen e he
   have HOK := hide hok
   clear hby hbxy hwy hal hal2 hal3 htp htp2 hbz hb2 hiz hmz hbzw hsz hsz2 b1 b2 hnxok hok
   go_upto_region 6 with fail
   rw [← HWY.out]
   clear hnx hen hrun hrg
   by_cases hgood : n + s.st.send ≤ 2147483647
   ·have HCK2 := hide (HCK.out (n + s.st.send) wy.drew hgood)
    go_region_law (refine step_call rfl 136 Tryz.f136 Tryz.func136 (by kernel_rfl) rfl [.tmp 28] #[3] rfl [.int .i64 (n + s.st.send)] (by simp [Act.eval, Act.put, hw1]) HCK2.out ?_; rintro e w' ⟨rfl, hw'⟩; refine ⟨_, rfl, ?_⟩; rw [hw']; clear hw' w')
    all_goals go_wp2
    all_goals go_roundw
    all_goals first
     | exact HREL.out hgood
     | exact HMS.out
   ·have HCK2 := hide (HCP.out (n + s.st.send) wy.drew (by omega))
    go_region_law (refine step_gone rfl 136 Tryz.f136 Tryz.func136 (by kernel_rfl) rfl [.tmp 28] #[3] rfl [.int .i64 (n + s.st.send)] (by simp [Act.eval, Act.put, hw1]) HCK2.out (fun e w3 he => ⟨_, he.1, rfl, rfl, by rw [he.2]; exact HBY.out⟩) (.tuple #[]) ?_; intro hf; have HFL : Hid False := hf; clear hf)
    all_goals exact HFL.out.elim
set_option maxRecDepth 100000 in
set_option maxHeartbeats 3200000 in
theorem comeSettings_calm (eb mb : Nat) (g : GEnd) (f n : Int) (sv : Option Addr) (len cb : Nat) (w : World) (h : Inv w eb mb g) (hf : 0 ≤ f ∧ f ≤ 255) (hak : hasB f 1 = false) (hn : 8 ≤ g.ans.length) (hn0 : 0 ≤ n ∧ n ≤ 2147483647) (hwin : ∀ s ∈ g.K, -1099511627776 ≤ s.st.send ∧ n + s.st.send ≤ 2147483647) :
  Calls Tryz.prog 100 #[.pointer (some ⟨eb, 0, none⟩), .agg #[.int .i64 3, .int .i64 f, .int .i64 0, .slice sv len cb, .int .i64 n]] w fun e w' => e = faultE 14 ∧ Below w.heap.size w w' := by
 obtain ⟨wA, hwA⟩ : ∃ wA, wA = w.alloc (.cells #[.int .i64 3, .int .i64 f, .int .i64 0, .slice sv len cb, .int .i64 n] 173) := ⟨_, rfl⟩
 have hbA : Below w.heap.size w wA := by rw [hwA]; exact (Below.refl _ _).alloc (Nat.le_refl _) _
 have hnew : wA.heap[w.heap.size]? = some (.cells #[.int .i64 3, .int .i64 f, .int .i64 0, .slice sv len cb, .int .i64 n] 173 (0, 0)) := by rw [hwA]; exact heap_alloc_new w _
 have hA := h.below hbA
 have hh := has_any 3 f 0 1 (.slice sv len cb) wA hf.1 (by omega) (Or.inl rfl)
 rw [hak] at hh
 have HH := hide hh
 have HWA := hide hwA
 have HBX := hide hnew
 have HA := hide hA
 have HBA := hide hbA
 have HWN := hide hwin
 have hlt : eb < wA.heap.size := hA.en.lt
 have HANS : Hid (∀ w2, Below w.heap.size w w2 → Calls Tryz.prog 137 #[.pointer (some ⟨eb, 0, none⟩), .agg #[.int .i64 3, .int .i64 1, .int .i64 0, .slice none 0 0]] w2 fun e w' => e = .panicked [{ v := .iface 41 (.int .i64 14), recovered := false }] ∧ Below w.heap.size w w') := fun w2 hb => (answer_p eb mb g 3 1 0 (.slice none 0 0) w2 (h.below hb) hn).mono fun e w' hh => ⟨hh.1, hb.trans (hh.2.mono hb.size)⟩
 have HCK : Hid (∀ m W, m ≤ 2147483647 → Calls Tryz.prog 136 #[.int .i64 m] W fun e w' => e = .returned (.tuple #[]) ∧ w' = W) := fun m W hm => checkWindow_ok m W hm
 clear h hA hbA hh hf hak hnew hwin hwA
 go_enter Tryz.func100, Tryz.ntmps100
 go_wp2_with fail
 rw [← HWA.out]
 refine HH.out.mono ?_
 rintro e w1 ⟨rfl, hb1⟩
 have hI1 := HA.out.below hb1
 obtain ⟨es, clock, hmp, hek, hborn, hnd⟩ := hI1.kn.blk
 have c22 := hI1.en.c22
 rw [hI1.km] at c22
 have hbx1 : w1.heap[w.heap.size]? = some (.cells #[.int .i64 3, .int .i64 f, .int .i64 0, .slice sv len cb, .int .i64 n] 173 (0, 0)) := kept_told HBX.out hb1
 have HI1 := hide hI1
 have HB1 := hide hb1
 have HBX1 := hide hbx1
 clear hI1 hb1 hbx1
 have hrg := run_range_map (P := Tryz.prog) w1 78 3 124 mb es clock Tryz.underlying78 hmp
 have HST : Hid (∀ e ∈ es.toList, ∃ s ∈ g.K, e.val = .pointer (some ⟨s.sb, 0, none⟩)) := fun e he => by
  have hm : (e.key, e.val) ∈ (g.K.map GSt.str).map knownE := by rw [← hek]; exact List.mem_map.2 ⟨e, he, rfl⟩
  obtain ⟨p, hp, hpe⟩ := List.mem_map.1 hm
  obtain ⟨s, hs, rfl⟩ := List.mem_map.1 hp
  refine ⟨s, hs, ?_⟩
  have := congrArg Prod.snd hpe
  exact this.symm
 have HBORN := hide hborn
 have HND := hide hnd
 have HMP := hide hmp
 clear hek hborn hnd
 go_wp2
 go_loopw [] (fun wr => ∃ (wz : World) (seen : Array Nat), wz.Alike w1 ∧ wz.tape = w1.tape ∧ wr = wz.alloc (.mapIter (some mb) clock seen clock)) (fun wr => (leftOf es (wr.iterSeen w1.heap.size)).size)
 case atStart => exact ⟨w1, #[], ⟨rfl, rfl, rfl⟩, rfl, rfl⟩
 case round =>
  obtain ⟨wz, seen, hal, htp, rfl⟩ := hrel
  have hsz : wz.heap.size = w1.heap.size := by rw [hal.1]
  have hbz : wz.heap[mb]? = some (.map es clock) := by rw [hal.1]; exact HMP.out
  have law := run_next_map (P := Tryz.prog) wz 0 mb clock clock seen es clock hbz HBORN.out (Nat.le_refl _)
  rw [hsz] at law
  have hbzw : Below w1.heap.size w1 wz := alike_below hal htp
  rcases law with ⟨h0, hrun⟩ | ⟨e, he, w2, hal2, hrun⟩
  ·have hnx : ∀ ty, (Instr.next (.pointer (some ⟨w1.heap.size, 0, none⟩)) false ty).run Tryz.prog (wz.alloc (.mapIter (some mb) clock seen clock)) = _ := fun _ => hrun
   obtain ⟨w3, hw3⟩ : ∃ w3, w3 = wz.alloc (.mapIter (some mb) clock seen clock) := ⟨_, rfl⟩
   have hb3 : Below w1.heap.size w1 w3 := by rw [hw3]; exact hbzw.alloc (by omega) _
   have hbw3 : Below w.heap.size w w3 := HBA.out.trans ((HB1.out.trans (hb3.mono HB1.out.size)).mono HBA.out.size)
   have HAN := hide (HANS.out w3 hbw3)
   have HBX3 := hide (kept_told HBX1.out hb3)
   have HW3 := hide hw3
   clear hw3 hb3 hbw3 hbzw hbz hal htp hsz h0
   go_wp2_with fail
   rw [← HW3.out]
   clear hnx hrun
   refine HAN.out.mono ?_
   rintro e w4 ⟨rfl, hb4⟩
   have HB4 := hide hb4
   clear hb4
   go_wp2
   exact ⟨rfl, rfl, HB4.out⟩
  ·obtain ⟨s, hs, hval⟩ := HST.out e (mem_left he).1
   rw [hval] at hrun
   have hiz : (wz.alloc (.mapIter (some mb) clock seen clock)).heap[w1.heap.size]? = some (.mapIter (some mb) clock seen clock) := by rw [← hsz]; exact heap_alloc_new wz _
   have hmz : (wz.alloc (.mapIter (some mb) clock seen clock)).heap[mb]? = some (.map es clock) := by rw [heap_alloc_old _ _ (Array.getElem?_eq_some_iff.1 hbz).1]; exact hbz
   have htp2 : w2.tape = w1.tape := (next_tape hmz hiz hrun).trans htp
   have hnx : ∀ ty, (Instr.next (.pointer (some ⟨w1.heap.size, 0, none⟩)) false ty).run Tryz.prog (wz.alloc (.mapIter (some mb) clock seen clock)) = _ := fun _ => hrun
   have hsz2 : w2.heap.size = w1.heap.size := by rw [hal2.1, hal.1]
   have hb2 : w2.heap[mb]? = some (.map es clock) := by rw [hal2.1]; exact hbz
   have hen := run_entry_map (P := Tryz.prog) w2 mb clock seen es clock e hb2 (mem_left he).1 HND.out
   rw [hsz2, hval] at hen
   have hal3 : w2.Alike w1 := ⟨hal2.1.trans hal.1, hal2.2.1.trans hal.2.1, hal2.2.2.trans hal.2.2⟩
   obtain ⟨wy, hwy⟩ : ∃ wy, wy = w2.alloc (.mapIter (some mb) clock (seen.push e.born) clock) := ⟨_, rfl⟩
   have hby : Below w1.heap.size w1 wy := by rw [hwy]; exact (alike_below hal3 htp2).alloc (by omega) _
   have hbxy := kept_told HBX1.out hby
   have q4 : wy.cell? ⟨w.heap.size, 4, none⟩ = some (.int .i64 n) := by rw [cell_of_row _ _ _ _ _ _ hbxy]; rfl
   have q0 : wy.cell? ⟨s.sb, 0, none⟩ = some (.int .i64 s.st.send) := ((HI1.out.below hby).st hs).c0
   have d4 : wy.drew.cell? ⟨w.heap.size, 4, none⟩ = some (.int .i64 n) := q4
   have d0 : wy.drew.cell? ⟨s.sb, 0, none⟩ = some (.int .i64 s.st.send) := q0
   obtain ⟨b1, b2⟩ := HWN.out s hs
   have hw1 : IntKind.i64.wrap (n + s.st.send) = n + s.st.send := by rw [IntKind.wrap_i64]; omega
   have HWY := hide hwy
   have HREL : Hid (∃ (wz' : World) (seen' : Array Nat), wz'.Alike w1 ∧ wz'.tape = w1.tape ∧ wy.drew = wz'.alloc (.mapIter (some mb) clock seen' clock)) := ⟨w2.drew, seen.push e.born, hal3, htp2, by rw [hwy]; rfl⟩
   have HMS : Hid ((leftOf es (wy.drew.iterSeen w1.heap.size)).size < (leftOf es ((wz.alloc (.mapIter (some mb) clock seen clock)).iterSeen w1.heap.size)).size) := by
    have e1 : wy.drew.iterSeen w1.heap.size = seen.push e.born := by
     rw [hwy, show (w2.alloc (.mapIter (some mb) clock (seen.push e.born) clock)).drew = w2.drew.alloc (.mapIter (some mb) clock (seen.push e.born) clock) from rfl, ← hsz2, show w2.heap.size = w2.drew.heap.size from rfl, World.iterSeen_alloc]
    have e2 : (wz.alloc (.mapIter (some mb) clock seen clock)).iterSeen w1.heap.size = seen := by rw [← hsz, World.iterSeen_alloc]
    show (leftOf es (wy.drew.iterSeen w1.heap.size)).size < (leftOf es ((wz.alloc (.mapIter (some mb) clock seen clock)).iterSeen w1.heap.size)).size
    rw [e1, e2]
    exact left_shrinks es seen e he
   have HCK2 := hide (HCK.out (n + s.st.send) wy.drew b2)
   clear hby hbxy hwy hal hal2 hal3 htp htp2 hbz hb2 hiz hmz hbzw hsz hsz2 b1 b2
   go_upto_region 6 with fail
   rw [← HWY.out]
   clear hnx hen hrun hrg
   go_region_law (refine step_call rfl 136 Tryz.f136 Tryz.func136 (by kernel_rfl) rfl [.tmp 28] #[3] rfl [.int .i64 (n + s.st.send)] (by simp [Act.eval, Act.put, hw1]) HCK2.out ?_; rintro e w' ⟨rfl, hw'⟩; refine ⟨_, rfl, ?_⟩; rw [hw']; clear hw' w')
   all_goals go_wp2
   all_goals go_roundw
   all_goals first
    | exact HREL.out
    | exact HMS.out
end
end Go.Proofs.YtdccldbefdfppaaGreatDoor
