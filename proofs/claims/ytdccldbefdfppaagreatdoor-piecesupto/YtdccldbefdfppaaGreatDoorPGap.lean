import Derived.Test.YtdccldbefdfppaaGreatDoorPGao
import Derived.Test.YtdccldbefdfppaaGreatDoorPGak
import Derived.Test.YtdccldbefdfppaaGreatDoorPGai
import Derived.Test.YtdccldbefdfppaaGreatDoorPGaj
import Derived.Test.YtdccldbefdfppaaGreatDoorPGal
import Derived.Laws.IdiomRangeMap
set_option linter.unusedVariables false
set_option linter.unusedSimpArgs false
namespace Go.Proofs.YtdccldbefdfppaaGreatDoor
open Go.RowKit
section
def EndM.got_ (m : EndM) (n : Nat) : EndM := ({ m with receive := m.receive - n } : EndM).counted n
theorem counted_same (m : EndM) (n : Int) : (m.counted n).known = m.known ∧ (m.counted n).opn = m.opn ∧ (m.counted n).got = m.got ∧ (m.counted n).out = m.out ∧ (m.counted n).answers = m.answers ∧ (m.counted n).resets = m.resets ∧ (m.counted n).owed = m.owed ∧ (m.counted n).own = m.own := by
 unfold EndM.counted
 split
 ·exact ⟨rfl, rfl, rfl, rfl, rfl, rfl, rfl, rfl⟩
 ·split
  ·exact ⟨rfl, rfl, rfl, rfl, rfl, rfl, rfl, rfl⟩
  ·exact ⟨rfl, rfl, rfl, rfl, rfl, rfl, rfl, rfl⟩
end
section
def GSt.drop (s : GSt) (by_ : Int) : GSt := { s with st := { s.st with reset := by_ }, un := [], wa := [] }
theorem erase_map {α β : Type} (f : α → β) : ∀ (L : List α) (k : Nat), (L.map f).eraseIdx k = (L.eraseIdx k).map f
 | [], _ => rfl
 | _ :: _, 0 => rfl
 | x :: r, k + 1 => by
  show f x :: (r.map f).eraseIdx k = f x :: (r.eraseIdx k).map f
  rw [erase_map f r k]
theorem openS_erase (K : List GSt) (L : List Int) (k : Nat) : (openS K L).eraseIdx k = openS K (L.eraseIdx k) := erase_map _ L k
theorem openS_get (K : List GSt) (L : List Int) (k : Nat) (h : k < L.length) (h2 : k < (openS K L).length) : (openS K L)[k] = (atN K L[k]).str := List.getElem_map (fun n => (atN K n).str) (h := h2)
theorem Inv.dropd {w w' : World} {eb mb : Nat} {g : GEnd} {k : Nat} (hk : k < g.L.length) {by_ : Int} {v : Value} (h : Inv w eb mb g) (hk2 : k < (openS g.K g.L).length) (hd : Dropd w w' eb g.m (openS g.K g.L) k (atN g.K g.L[k]).un.length hk2 by_ v) :
  ∃ g', g'.bare = ({ g with m := g.m.owes (atN g.K g.L[k]).un.length, K := updN g.L[k] (fun s => s.drop by_) g.K, L := g.L.eraseIdx k } : GEnd).bare ∧ Next w w' eb mb g g' ∧ g'.m.resets = g.m.resets ∧ g'.res = g.res ∧ StB w' (atN g.K g.L[k]).sb ((atN g.K g.L[k]).st.dropped by_) := by
 obtain ⟨hmem, hnum⟩ := h.at (List.getElem_mem hk)
 have hstr : (openS g.K g.L)[k] = (atN g.K g.L[k]).str := openS_get _ _ _ hk hk2
 obtain ⟨den, dst, drow, dsame, dchg⟩ := hd
 rw [hstr] at dst dchg
 have keep : ∀ {n : Nat} {v' : Value} {xs : List Value} {ty : TypeId}, w.ownsRow 0 ty 1 v' n xs → (∀ j, v'.ownBlock = some j → j ≠ eb ∧ j ≠ (atN g.K g.L[k]).sb ∧ g.m.opn.ownBlock ≠ some j) → w'.ownsRow 0 ty 1 v' n xs := fun hr hj => owns_chg hr dchg (fun j hjj e => by
  obtain ⟨a, b, c⟩ := hj j hjj
  rcases e with e | e | e
  ·exact a e
  ·exact b e
  ·exact c e)
 have hnil : ∀ w' : World, w'.ownsRow 0 5 1 (.slice none 0 0) ([] : List UInt8).length (([] : List UInt8).map B) := fun w' => World.ownsRow_nil _ _ _ _
 have hL : (g.L.eraseIdx k).length = g.L.length - 1 := by rw [List.length_eraseIdx, if_pos hk]
 refine ⟨{ g with m := (g.m.owes (atN g.K g.L[k]).un.length).opens v, K := updN (atN g.K g.L[k]).st.number (fun _ => ⟨(atN g.K g.L[k]).sb, (atN g.K g.L[k]).st.dropped by_, [], []⟩) g.K, L := g.L.eraseIdx k, out := g.out }, ?_, h.onSt (S := fun j => j = eb ∨ j = (atN g.K g.L[k]).sb ∨ g.m.opn.ownBlock = some j) (s := atN g.K g.L[k]) (s' := ⟨(atN g.K g.L[k]).sb, (atN g.K g.L[k]).st.dropped by_, [], []⟩) 0 hmem dchg ?_ den dst rfl rfl rfl rfl rfl rfl ?_ (fun j hj => Or.inl (by rw [← dsame]; exact hj)) (List.eraseIdx_sublist _ _) ?_ (fun j hj => Or.inl hj) (hnil _) (fun j hj => by simp [StM.dropped, Value.ownBlock] at hj) (hnil _) (fun j hj => by simp [StM.dropped, Value.ownBlock] at hj), rfl, rfl, dst⟩
 ·unfold GEnd.bare
  simp only [GEnd.mk.injEq, true_and, and_true]
  refine ⟨rfl, ?_⟩
  rw [hnum, updN, updN, List.map_map, List.map_map]
  apply List.map_congr_left
  intro x hx
  show (if x.st.number = g.L[k] then _ else x).bare = (if x.st.number = g.L[k] then _ else x).bare
  by_cases e : x.st.number = g.L[k]
  ·rw [if_pos e, if_pos e, inj_nd (fun s : GSt => s.st.number) h.nn hx hmem (by rw [hnum]; exact e)]
   rfl
  ·rw [if_neg e, if_neg e]
 ·rintro j (e | e | e)
  ·exact Or.inl e
  ·exact Or.inr (Or.inl e)
  ·exact Or.inr (Or.inr (Or.inl e))
 ·rw [openS_erase, openS_length] at drow
  rw [hL]
  exact drow
 ·exact keep h.out (fun j hj => ⟨fun e => by rw [e] at hj; exact owns_ne h.out h.en.blk (by decide) hj, fun e => by rw [e] at hj; exact owns_ne h.out (h.st hmem).blk (by decide) hj, fun e => rows_ne h.out h.row (by decide) hj e⟩)
theorem open_nd {w : World} {eb mb : Nat} {g : GEnd} (h : Inv w eb mb g) {k : Nat} (hk : k < (openS g.K g.L).length) : ∀ j (hj : j < (openS g.K g.L).length), j ≠ k → (openS g.K g.L)[j].1 ≠ (openS g.K g.L)[k].1 := by
 intro j hj hjk e
 have hj' : j < g.L.length := by rw [openS_length] at hj; exact hj
 have hk' : k < g.L.length := by rw [openS_length] at hk; exact hk
 have e1 : (atN g.K g.L[j]).sb = (atN g.K g.L[k]).sb := by
  have a : (openS g.K g.L)[j] = (atN g.K g.L[j]).str := openS_get _ _ _ hj' hj
  have b : (openS g.K g.L)[k] = (atN g.K g.L[k]).str := openS_get _ _ _ hk' hk
  rw [a, b] at e
  exact e
 obtain ⟨m1, n1⟩ := h.at (List.getElem_mem hj')
 obtain ⟨m2, n2⟩ := h.at (List.getElem_mem hk')
 have e2 := h.same m1 m2 e1
 have e3 : g.L[j] = g.L[k] := by rw [← n1, ← n2, e2]
 exact hjk ((List.getElem_inj h.ln).1 e3)
theorem i_reset (eb mb : Nat) (g : GEnd) (k : Nat) (by_ : Int) (w : World) (h : Inv w eb mb g) (hk : k < g.L.length) (hb : by_ ≠ 0) (hf : g.L.length ≤ 1048576) (hul : (atN g.K g.L[k]).un.length ≤ 1048576) (b : -1099511627776 ≤ g.m.owed ∧ g.m.owed ≤ 1099511627776) :
  Calls Tryz.prog 134 #[.pointer (some ⟨eb, 0, none⟩), .pointer (some ⟨(atN g.K g.L[k]).sb, 0, none⟩), .int .i64 by_] w fun e w' => e = .returned (.tuple #[]) ∧ ∃ g', g'.bare = ({ g with m := g.m.owes (atN g.K g.L[k]).un.length, K := updN g.L[k] (fun s => s.drop by_) g.K, L := g.L.eraseIdx k } : GEnd).bare ∧ Next w w' eb mb g g' ∧ g'.m.resets = g.m.resets ∧ g'.res = g.res ∧ StB w' (atN g.K g.L[k]).sb ((atN g.K g.L[k]).st.dropped by_) := by
 obtain ⟨hmem, hnum⟩ := h.at (List.getElem_mem hk)
 have hk2 : k < (openS g.K g.L).length := by rw [openS_length]; exact hk
 have hstr : (openS g.K g.L)[k] = (atN g.K g.L[k]).str := openS_get _ _ _ hk hk2
 obtain ⟨su, cu, hsu⟩ := slice_len (h.un _ hmem)
 have hr := ereset_any eb g.m (openS g.K g.L) k (atN g.K g.L[k]).un.length by_ su cu w h.en h.open (by rw [openS_length]; exact hf) hk2 hb (by rw [hstr]; exact hsu) hul (open_nd h hk2) (by omega) (by omega)
 rw [show (openS g.K g.L)[k].1 = (atN g.K g.L[k]).sb from by rw [hstr]; rfl] at hr
 refine hr.mono ?_
 rintro e w' ⟨rfl, v, hd⟩
 exact ⟨rfl, h.dropd hk hk2 hd⟩
set_option maxRecDepth 100000 in
set_option maxHeartbeats 800000 in
theorem comeReset_ok (eb mb : Nat) (g : GEnd) (k : Nat) (f : Int) (sv : Option Addr) (len cb : Nat) (w : World) (h : Inv w eb mb g) (hk : k < g.L.length) (ha : (atN g.K g.L[k]).st.announced = true) (hcl : (atN g.K g.L[k]).st.closed = false) (hf : g.L.length ≤ 1048576) (hul : (atN g.K g.L[k]).un.length ≤ 1048576) (b : -1099511627776 ≤ g.m.owed ∧ g.m.owed ≤ 1099511627776) :
  Calls Tryz.prog 99 #[.pointer (some ⟨eb, 0, none⟩), .agg #[.int .i64 2, .int .i64 f, .int .i64 g.L[k], .slice sv len cb]] w fun e w' => e = .returned (.tuple #[]) ∧ ∃ g', g'.bare = ({ g with m := g.m.owes (atN g.K g.L[k]).un.length, K := updN g.L[k] (fun s => s.drop 2) g.K, L := g.L.eraseIdx k } : GEnd).bare ∧ Next w w' eb mb g g' ∧ g'.m.resets = g.m.resets ∧ g'.res = g.res := by
 obtain ⟨hmem, hnum⟩ := h.at (List.getElem_mem hk)
 have hbA : Below w.heap.size w (w.alloc (.cells #[.int .i64 2, .int .i64 f, .int .i64 g.L[k], .slice sv len cb] 170)) := (Below.refl _ _).alloc (Nat.le_refl _) _
 have hA := h.below hbA
 have han := announced_any eb mb g.m _ g.L[k] _ hA.en h.km hA.kn
 have hfi := hA.find hmem
 rw [hnum] at hfi
 rw [hfi] at han
 simp only [GSt.str, ha, if_true] at han
 have hcc := isClosed_any (atN g.K g.L[k]).sb (atN g.K g.L[k]).st _ (hA.st hmem)
 rw [hcl] at hcc
 have HAN := hide han
 have HCC := hide hcc
 have HR := hide ((i_reset eb mb g k 2 _ hA hk (by omega) hf hul b).mono (R' := fun e w' => e = .returned (.tuple #[]) ∧ ∃ g', g'.bare = ({ g with m := g.m.owes (atN g.K g.L[k]).un.length, K := updN g.L[k] (fun s => s.drop 2) g.K, L := g.L.eraseIdx k } : GEnd).bare ∧ Next w w' eb mb g g' ∧ g'.m.resets = g.m.resets ∧ g'.res = g.res) (by
  rintro e w' ⟨h1, g', h2, h3, h4, h5, -⟩
  exact ⟨h1, g', h2, h3.pre hbA, h4, h5⟩))
 clear h hA han hcc hbA hfi ha hcl hmem hnum
 generalize g.L[k] = nn at *
 go_enter Tryz.func99, Tryz.ntmps99
 go_wp2_with fail
 refine HAN.out.mono ?_
 rintro e w' ⟨hw', rfl⟩
 rw [hw']
 clear hw' w'
 go_wp2_with fail
 refine HCC.out.mono ?_
 rintro e w' ⟨rfl, hw'⟩
 rw [hw']
 clear hw' w'
 go_wp2_with fail
 refine HR.out.mono ?_
 rintro e w' ⟨rfl, hx⟩
 have HX := hide hx
 clear hx
 go_wp2
 exact bodyPost_end (results_none rfl _ _ _) rfl ⟨rfl, HX.out⟩
end
section
set_option maxHeartbeats 400000 in
theorem xRead_of (eb : Nat) (s n : Int) (w : World) {R : Value → Value → Value → World → Prop} (h : Calls Tryz.prog 58 #[.pointer (some ⟨eb, 0, none⟩), .int .i64 s, .int .i64 n] w fun e w' => ∃ a b c, e = .returned (.tuple #[a, b, c]) ∧ R a b c w') :
  Calls Tryz.prog 39 #[.pointer (some ⟨eb, 0, none⟩), .int .i64 s, .int .i64 n] w fun e w' => ∃ a b c, e = .returned (.tuple #[a, b, c]) ∧ R a b c w' := by
 have HC := hide h
 clear h
 go_enter Tryz.func39, Tryz.ntmps39
 go_wp2_with fail
 refine HC.out.mono ?_
 rintro e w' ⟨a, b, c, rfl, h⟩
 have H := hide h
 clear h
 go_wp2
 refine bodyPost_ret (v := .tuple #[a, b, c]) ?_ rfl ⟨a, b, c, rfl, H.out⟩
 simp [results, Tryz.results39, go_sem]
end
section
structure RdOk (g : GEnd) : Prop where
 got : Got g.got
 head : 6 ≤ g.got.length → hdOf g.got = ⟨g.m.hlen, g.m.hkind, g.m.hflags, g.m.hstream⟩
theorem RdOk.nil {g : GEnd} (h : g.got = []) : RdOk g := ⟨by rw [h]; exact got_nil, fun h6 => by rw [h] at h6; simp at h6⟩
theorem Inv.rdsg {w : World} {eb mb : Nat} {g : GEnd} (h : Inv w eb mb g) (hr : RdOk g) : RdSG w eb 25 103 g.m.cells g.m.got g.got :=
 ⟨hr.got, h.got, g.m.hlen, g.m.hkind, g.m.hflags, g.m.hstream, ⟨h.en.blk, by decide, rfl, rfl, rfl, rfl, rfl⟩, hr.head⟩
def EndM.rd (m : EndM) (gv : Value) (L K F S : Int) : EndM := { m with got := gv, hlen := L, hkind := K, hflags := F, hstream := S }
theorem rd_cells {m : EndM} {cs' : Array Value} {gv : Value} {L K F S : Int} (ha : Alike 25 m.cells cs') (h0 : cs'[25]? = some gv) (h1 : cs'[26]? = some (.int .i64 L)) (h2 : cs'[27]? = some (.int .i64 K)) (h3 : cs'[28]? = some (.int .i64 F)) (h4 : cs'[29]? = some (.int .i64 S)) : cs' = (m.rd gv L K F S).cells := by
 have e : (m.rd gv L K F S).cells = ((((m.cells.setIfInBounds 25 gv).setIfInBounds 26 (.int .i64 L)).setIfInBounds 27 (.int .i64 K)).setIfInBounds 28 (.int .i64 F)).setIfInBounds 29 (.int .i64 S) := rfl
 have hsz : m.cells.size = 50 := rfl
 rw [e]
 apply Array.ext_getElem?
 intro i
 by_cases i0 : i = 25
 ·subst i0; rw [h0]; simp [hsz, Array.getElem?_setIfInBounds]
 by_cases i1 : i = 26
 ·subst i1; rw [h1]; simp [hsz, Array.getElem?_setIfInBounds]
 by_cases i2 : i = 27
 ·subst i2; rw [h2]; simp [hsz, Array.getElem?_setIfInBounds]
 by_cases i3 : i = 28
 ·subst i3; rw [h3]; simp [hsz, Array.getElem?_setIfInBounds]
 by_cases i4 : i = 29
 ·subst i4; rw [h4]; simp [hsz, Array.getElem?_setIfInBounds]
 rw [ha.2 i (by omega), Array.getElem?_setIfInBounds_ne (by omega), Array.getElem?_setIfInBounds_ne (by omega), Array.getElem?_setIfInBounds_ne (by omega), Array.getElem?_setIfInBounds_ne (by omega), Array.getElem?_setIfInBounds_ne (by omega)]
theorem Inv.onGot {w w' : World} {eb mb : Nat} {g : GEnd} {cs' : Array Value} {gv' : Value} {got' : List UInt8} (h : Inv w eb mb g) (hl : LeftG w w' eb 25 103 g.m.cells cs' g.m.got gv' got') : ∃ g', g'.bare = ({ g with got := got' } : GEnd).bare ∧ RdOk g' ∧ Next w w' eb mb g g' ∧ (∀ j, Foot eb mb g' j → Foot eb mb g j ∨ gv'.ownBlock = some j) := by
 obtain ⟨⟨hgot, hown, L, K, F, S, hrd, hhd⟩, hal, hc, hfr⟩ := hl
 have hen : EnB w' eb (g.m.rd gv' L K F S) := ⟨by rw [hrd.blk, rd_cells hal hrd.c0 hrd.c1 hrd.c2 hrd.c3 hrd.c4]⟩
 have hs : ∀ j, Touch eb g.m.got j → j = eb ∨ g.m.got.ownBlock = some j := fun j e => e
 refine ⟨{ g with m := g.m.rd gv' L K F S, got := got' }, rfl, ⟨hgot, hhd⟩, ⟨⟨hen, h.kn.chg hc (fun e => ?_) (fun p hp e => ?_), h.km, h.nd, h.nn, h.ln, h.has, ?_, ?_, hown, fun p hp => ?_, fun p hp => ?_, ?_, fun a ha => ?_, ?_, ?_⟩, hc.mono fun j _ e => ?_, fun j hj => ?_⟩, fun j hj => ?_⟩
 ·rcases hs _ e with a | a
  ·exact h.eb_mb a
  ·exact owns_mb h.kn h.got a
 ·obtain ⟨q, hq, rfl⟩ := List.mem_map.1 hp
  rcases hs _ e with a | a
  ·exact h.st_eb hq a
  ·exact owns_ne h.got (h.st hq).blk (by decide) a
 ·refine owns_chg h.row hc (fun j hj e => ?_)
  rcases hs _ e with a | a
  ·rw [a] at hj; exact owns_ne h.row h.en.blk (by decide) hj
  ·exact rows_ne h.got h.row (by decide) a hj
 ·refine owns_chg h.out hc (fun j hj e => ?_)
  rcases hs _ e with a | a
  ·rw [a] at hj; exact owns_ne h.out h.en.blk (by decide) hj
  ·exact h.out_got hj a
 ·refine owns_chg (h.un p hp) hc (fun j hj e => ?_)
  rcases hs _ e with a | a
  ·rw [a] at hj; exact owns_ne (h.un p hp) h.en.blk (by decide) hj
  ·exact h.got_un hp hj a
 ·refine owns_chg (h.wa p hp) hc (fun j hj e => ?_)
  rcases hs _ e with a | a
  ·rw [a] at hj; exact owns_ne (h.wa p hp) h.en.blk (by decide) hj
  ·exact h.got_wa hp hj a
 ·refine h.ans.chg hc (fun j hj e => ?_)
  rcases hs _ e with a | a
  ·rw [a] at hj; exact h.ans.ne h.en.blk (by decide) hj
  ·exact rows_ne2 h.got h.ans (by decide) a hj
 ·refine owns_chg (h.anb a ha) hc (fun j hj e => ?_)
  rcases hs _ e with b | b
  ·rw [b] at hj; exact owns_ne (h.anb a ha) h.en.blk (by decide) hj
  ·exact h.got_an ha hj b
 ·refine h.res.chg hc (fun j hj e => ?_)
  rcases hs _ e with a | a
  ·rw [a] at hj; exact h.res.ne h.en.blk (by decide) hj
  ·exact rows_ne2 h.got h.res (by decide) a hj
 ·exact h.apart (fun _ => 1) _ g.K g.ans (fun j hj => Or.inl hj) (fun j hj => (hfr j hj).imp_right fun a => ⟨a, rfl⟩) (fun p hp j hj => Or.inl ⟨p, hp, rfl, hj⟩) (fun p hp j hj => Or.inl ⟨p, hp, rfl, hj⟩) (fun a ha j hj => Or.inl ⟨a, ha, hj⟩)
 ·rcases hs _ e with a | a
  ·exact Or.inl a
  ·unfold Foot; simp [a]
 ·rcases hj with e | e | e | e | e | e | e | e | e
  ·exact Or.inl (Or.inl e)
  ·exact Or.inl (Or.inr (Or.inl e))
  ·exact Or.inl (by unfold Foot; simp [show g.m.out.ownBlock = some j from e])
  ·rcases hfr j e with a | a
   ·exact Or.inl (by unfold Foot; simp [a])
   ·exact Or.inr a
  ·exact Or.inl (by unfold Foot; simp [show g.m.opn.ownBlock = some j from e])
  ·exact Or.inl (by unfold Foot; simp [show g.m.answers.ownBlock = some j from e])
  ·exact Or.inl (by unfold Foot; simp [show g.m.resets.ownBlock = some j from e])
  ·exact Or.inl (Or.inr (Or.inr (Or.inr (Or.inr (Or.inr (Or.inr (Or.inr (Or.inl e))))))))
  ·exact Or.inl (Or.inr (Or.inr (Or.inr (Or.inr (Or.inr (Or.inr (Or.inr (Or.inr e))))))))
 ·rcases hj with e | e | e | e | e | e | e | e | e
  ·exact Or.inl (Or.inl e)
  ·exact Or.inl (Or.inr (Or.inl e))
  ·exact Or.inl (by unfold Foot; simp [show g.m.out.ownBlock = some j from e])
  ·exact Or.inr e
  ·exact Or.inl (by unfold Foot; simp [show g.m.opn.ownBlock = some j from e])
  ·exact Or.inl (by unfold Foot; simp [show g.m.answers.ownBlock = some j from e])
  ·exact Or.inl (by unfold Foot; simp [show g.m.resets.ownBlock = some j from e])
  ·exact Or.inl (Or.inr (Or.inr (Or.inr (Or.inr (Or.inr (Or.inr (Or.inr (Or.inl e))))))))
  ·exact Or.inl (Or.inr (Or.inr (Or.inr (Or.inr (Or.inr (Or.inr (Or.inr (Or.inr e))))))))
theorem Inv.begins {w : World} {eb mb : Nat} {g : GEnd} (h : Inv w eb mb g) : ∃ g', g'.bare = ({ g with m := { g.m with begun := true } } : GEnd).bare ∧ Next w (w.setCell ⟨eb, 30, none⟩ (.bool true)) eb mb g g' := by
 have hc : Chg (fun j => j = eb) w (w.setCell ⟨eb, 30, none⟩ (.bool true)) := chg_set (Chg.refl _ _) rfl
 have hn := h.onEnd (S := fun j => j = eb) (m' := { g.m with begun := true }) (o' := g.out) (A' := g.ans) (R' := g.res) hc (fun j e => Or.inl e) (EnB.of (blk_set h.en.blk) rfl) rfl rfl rfl (owns_chg h.out hc (fun j hj e => by rw [e] at hj; exact owns_ne h.out h.en.blk (by decide) hj)) (fun j hj => Or.inl hj) h.ans (fun _ h => h) (fun _ h => h) h.res (fun _ h => h)
 exact ⟨_, rfl, hn⟩
end
section
def Ahead (w w1 : World) (eb mb : Nat) (g g1 : GEnd) : Prop := g1.bare = ({ g with m := { g.m with begun := true } } : GEnd).bare ∧ Next w w1 eb mb g g1
theorem ahead_of {w w0 w1 : World} {eb mb : Nat} {g g1 : GEnd} (hb : Below w.heap.size w w0) (h1 : g1.bare = ({ g with m := { g.m with begun := true } } : GEnd).bare) (h2 : Next w0 (w0.setCell ⟨eb, 30, none⟩ (.bool true)) eb mb g g1) (hb2 : Below (w0.setCell ⟨eb, 30, none⟩ (.bool true)).heap.size (w0.setCell ⟨eb, 30, none⟩ (.bool true)) w1) : Ahead w w1 eb mb g g1 := ⟨h1, (h2.pre hb).then_below hb2⟩
section
variable (eb mb : Nat) (g : GEnd) (w : World) (R : World → Prop)
end
end
end Go.Proofs.YtdccldbefdfppaaGreatDoor
