import Derived.Test.YtdccldbefdfppaaGreatDoorPGar
set_option linter.unusedVariables false
set_option linter.unusedSimpArgs false
namespace Go.Proofs.YtdccldbefdfppaaGreatDoor
open Go.RowKit
section
structure GaveX (W w : World) (eb mb : Nat) (X0 X : GX) (wI : World) (m0 : EndM) (code : Int) : Prop where
 nx : NextX W wI eb mb X0 X
 en : EnB w eb m0
 same : m0.died code = X.g.m.died code
 chg : Chg (fun j => j = eb ∨ X.g.m.got.ownBlock = some j ∨ X.g.m.utab.ownBlock = some j ∨ X.g.m.bbytes.ownBlock = some j ∨ (W.heap.size ≤ j ∧ ¬ FootX eb mb X j)) wI w
 few : X.g.L.length ≤ 1048576
def DiesX (W w : World) (eb mb : Nat) (X0 Y : GX) (code : Int) : Prop := ∃ X wI m0, (X.died code).bare = (Y.died code).bare ∧ GaveX W w eb mb X0 X wI m0 code
section
variable {W w w' w1 : World} {eb mb : Nat} {X0 X1 X Y : GX} {code : Int}
theorem DiesX.of (hn : NextX W w eb mb X0 X) (hL : X.g.L.length ≤ 1048576) : DiesX W w eb mb X0 X code := ⟨X, w, X.g.m, rfl, hn, hn.inv.inv.en, rfl, Chg.refl _ _, hL⟩
theorem DiesX.pre (h : DiesX w1 w' eb mb X1 Y code) (hn : NextX W w1 eb mb X0 X1) : DiesX W w' eb mb X0 Y code := by
 obtain ⟨X, wI, m0, e, hg⟩ := h
 refine ⟨X, wI, m0, e, hn.trans hg.nx, hg.en, hg.same, hg.chg.mono fun j _ a => ?_, hg.few⟩
 rcases a with a | a | a | a | a
 ·exact Or.inl a
 ·exact Or.inr (Or.inl a)
 ·exact Or.inr (Or.inr (Or.inl a))
 ·exact Or.inr (Or.inr (Or.inr (Or.inl a)))
 ·exact Or.inr (Or.inr (Or.inr (Or.inr ⟨Nat.le_trans hn.chg.size a.1, a.2⟩)))
theorem DiesX.as (h : DiesX W w eb mb X0 X code) (e : (X.died code).bare = (Y.died code).bare) : DiesX W w eb mb X0 Y code := by
 obtain ⟨Z, wI, m0, e1, hg⟩ := h
 exact ⟨Z, wI, m0, e1.trans e, hg⟩
theorem InvX.onGave (h : InvX w eb mb X) (hL : X.g.L.length ≤ 1048576) (hg : GaveG w w' eb 25 103 X.g.m.cells X.g.m.got) : DiesX w w' eb mb X X code := by
 obtain ⟨cs', gv', L, K, F, S, hrd, hal, hc⟩ := hg
 have hen : EnB w' eb (X.g.m.rd gv' L K F S) := ⟨by rw [hrd.blk, rd_cells hal hrd.c0 hrd.c1 hrd.c2 hrd.c3 hrd.c4]⟩
 refine ⟨X, w, X.g.m.rd gv' L K F S, rfl, NextX.refl h, hen, rfl, hc.mono fun j _ e => ?_, hL⟩
 rcases e with e | e
 ·exact Or.inl e
 ·exact Or.inr (Or.inl e)
theorem InvX.onPiece {e : Ending} (h : InvX w eb mb X) (hL : X.g.L.length ≤ 1048576) (hp : PieceP w w' eb X e) : e = faultE 13 ∧ DiesX w w' eb mb X X 13 := by
 obtain ⟨h1, ⟨m0, hen, lim, sz, tv, hm⟩, hc⟩ := hp
 refine ⟨h1, X, w, m0, rfl, NextX.refl h, hen, by rw [hm]; rfl, hc.mono fun j _ a => ?_, hL⟩
 rcases a with a | a | a
 ·exact Or.inl a
 ·exact Or.inr (Or.inr (Or.inl a))
 ·exact Or.inr (Or.inr (Or.inr (Or.inl a)))
end
theorem owns_none (w : World) (e : TypeId) (size : Nat) : w.ownsRow 0 e size (.slice none 0 0) 0 [] := ⟨by simp, .inl ⟨rfl, rfl⟩⟩
theorem die_X (W w : World) (eb mb : Nat) (X0 X : GX) (wI : World) (m0 : EndM) (code : Int) (h : GaveX W w eb mb X0 X wI m0 code) :
  Calls Tryz.prog 32 #[.pointer (some ⟨eb, 0, none⟩), .int .i64 code] w fun e w' => e = .returned (.tuple #[]) ∧ ∃ X', X'.bare = (X.died code).bare ∧ RdOk X'.g ∧ NextX W w' eb mb X0 X' ∧ Chg (fun j => Foot eb mb X.g j) w w' := by
 have hI := h.nx.inv
 refine (eDie_any eb mb X.g wI m0 code w ⟨hI.inv, h.en, h.same, h.chg.mono fun j _ a => ?_, h.few⟩).mono ?_
 ·rcases a with a | a | a | a | a
  ·exact Or.inl a
  ·exact Or.inr (Or.inl a)
  ·exact Or.inr (Or.inr (hI.nf j (Or.inl a)))
  ·exact Or.inr (Or.inr (hI.nf j (Or.inr (Or.inl a))))
  ·exact Or.inr (Or.inr fun b => a.2 (Or.inl b))
 rintro e w' ⟨rfl, g', hb, hr, hi, hc, hf⟩
 have hm : g'.m.bare = X.g.m.bare.died code := by have := congrArg GEnd.m hb; exact this
 have hK : g'.K.map GSt.bare = muteN X.g.L (X.g.K.map GSt.bare) := by have := congrArg GEnd.K hb; exact this
 have e1 : g'.m.utab = .slice none 0 0 := by have := congrArg EndM.utab hm; exact this
 have e2 : g'.m.bbytes = .slice none 0 0 := by have := congrArg EndM.bbytes hm; exact this
 have hh : ∀ s ∈ g'.K, ∃ t ∈ X.g.K, t.st.number = s.st.number ∧ t.st.heads = s.st.heads := fun s hs => by
  have hs' : s.bare ∈ muteN X.g.L (X.g.K.map GSt.bare) := by rw [← hK]; exact List.mem_map.2 ⟨s, hs, rfl⟩
  obtain ⟨u, hu, e⟩ := List.mem_map.1 hs'
  obtain ⟨t, ht, rfl⟩ := List.mem_map.1 hu
  refine ⟨t, ht, ?_⟩
  split at e
  ·exact ⟨by have := congrArg (fun x : GSt => x.st.number) e; exact this, by have := congrArg (fun x : GSt => x.st.heads) e; exact this⟩
  ·exact ⟨by have := congrArg (fun x : GSt => x.st.number) e; exact this, by have := congrArg (fun x : GSt => x.st.heads) e; exact this⟩
 have hblk : ∀ j, GX.blk ⟨g', 0, [], 0, [], X.hs⟩ j → ∃ t ∈ X.g.K, t.st.heads.ownBlock = some j := fun j hj => by
  rcases hj with e | e | ⟨s, hs, e⟩
  ·have e : g'.m.utab.ownBlock = some j := e
   rw [e1] at e; cases e
  ·have e : g'.m.bbytes.ownBlock = some j := e
   rw [e2] at e; cases e
  ·obtain ⟨t, ht, -, e4⟩ := hh s hs
   exact ⟨t, ht, by rw [e4]; exact e⟩
 have hkeep : ∀ t ∈ X.g.K, w'.ownsRow 0 130 2 t.st.heads (X.hs t.st.number).length (hpCells (X.hs t.st.number)) := fun t ht => by
  have hr1 := owns_chg (hI.hd t ht) h.chg (fun j hj a => by
   have hx : X.blk j := Or.inr (Or.inr ⟨t, ht, hj⟩)
   have hn := hI.nf j hx
   rcases a with a | a | a | a | a
   ·exact hn (Or.inl a)
   ·exact hn (Or.inr (Or.inr (Or.inr (Or.inl a))))
   ·exact hI.au t ht j hj a
   ·exact rows_ne hI.bb (hI.hd t ht) (by decide) a hj
   ·exact a.2 (Or.inr hx))
  exact owns_chg hr1 hc (fun j hj a => hI.nf j (Or.inr (Or.inr ⟨t, ht, hj⟩)) a)
 refine ⟨rfl, ⟨g', 0, [], 0, [], X.hs⟩, ?_, hr, ⟨⟨hi, ?_, ?_, ?_, Nat.zero_le _, ?_, by simp [szT], Nat.zero_le _, ?_, by simp, fun s hs => ?_, fun j hj hfj => ?_, fun s hs j hj => ?_⟩, ?_, fun j hj => ?_⟩, hc⟩
 ·unfold GX.bare GX.died
  simp only
  rw [crude_of_bare (g := X.g.died code) (g' := g') (by rw [hb, died_bare])]
 ·show g'.m.ulim = _
  have := congrArg EndM.ulim hm; exact this
 ·show g'.m.usz = _
  have := congrArg EndM.usz hm; exact this
 ·show g'.m.umost = _
  have := congrArg EndM.umost hm; exact this
 ·show w'.ownsRow 0 130 2 g'.m.utab 0 _
  rw [e1]; exact owns_none _ _ _
 ·show w'.ownsRow 0 5 1 g'.m.bbytes 0 _
  rw [e2]; exact owns_none _ _ _
 ·obtain ⟨t, ht, e3, e4⟩ := hh s hs
  show w'.ownsRow 0 130 2 s.st.heads (X.hs s.st.number).length (hpCells (X.hs s.st.number))
  rw [← e3, ← e4]
  exact hkeep t ht
 ·obtain ⟨t, ht, e⟩ := hblk j hj
  exact hI.nf j (Or.inr (Or.inr ⟨t, ht, e⟩)) (hf j hfj)
 ·show g'.m.utab.ownBlock ≠ some j
  rw [e1]; intro e; cases e
 ·have hnx := h.nx
  have hF : ∀ j, FootX eb mb X j → W.heap.size ≤ j ∨ FootX eb mb X0 j := fun j hj => (hnx.grow j hj).symm
  refine (hnx.chg.trans (h.chg.mono fun j _ a => ?_)).trans (hc.mono fun j _ a => hF j (Or.inl a))
  rcases a with a | a | a | a | a
  ·exact hF j (Or.inl (Or.inl a))
  ·exact hF j (Or.inl (Or.inr (Or.inr (Or.inr (Or.inl a)))))
  ·exact hF j (Or.inr (Or.inl a))
  ·exact hF j (Or.inr (Or.inr (Or.inl a)))
  ·exact Or.inl a.1
 ·rcases hj with a | a
  ·exact h.nx.grow j (Or.inl (hf j a))
  ·obtain ⟨t, ht, e⟩ := hblk j a
   exact h.nx.grow j (Or.inr (Or.inr (Or.inr ⟨t, ht, e⟩)))
end
section
structure FrOk (f : Fr) : Prop where
 kind : 0 ≤ f.kind ∧ f.kind ≤ 255
 flags : 0 ≤ f.flags ∧ f.flags ≤ 255
 stream : 0 ≤ f.stream ∧ f.stream ≤ 32767
 fit : sFits f.kind f.stream = true
 len : f.body.length ≤ 64
 lfit : lFits (f.body.length : Int) f.kind f.flags = true
 body : bodyCode f.kind f.flags f.body = 0
theorem be2_le (a b : UInt8) : 0 ≤ be2 a b ∧ be2 a b ≤ 65535 := by
 have h1 := a.toNat_lt
 have h2 := b.toNat_lt
 unfold be2
 omega
theorem hdOf_le (l : List UInt8) : (0 ≤ (hdOf l).length) ∧ (0 ≤ (hdOf l).kind ∧ (hdOf l).kind ≤ 255) ∧ (0 ≤ (hdOf l).flags ∧ (hdOf l).flags ≤ 255) ∧ (0 ≤ (hdOf l).stream) := by
 unfold hdOf
 split
 ·rename_i a b c d e f r
  have h1 := c.toNat_lt
  have h2 := d.toNat_lt
  exact ⟨(be2_le a b).1, ⟨by simp, by simp only; omega⟩, ⟨by simp, by simp only; omega⟩, (be2_le e f).1⟩
 ·simp
theorem step_ok {g : List UInt8} {c : UInt8} {f : Fr} (hg : Got g) (h : step g c = .frame f) : FrOk f := by
 unfold step at h
 simp only at h
 have hl : (g ++ [c]).length = g.length + 1 := by simp
 split at h
 ·cases h
 rename_i h1
 split at h
 ·cases h
 rename_i h2
 split at h
 ·cases h
 rename_i h3
 simp only [Sum.inl.injEq, Sum.inr.injEq] at h
 subst h
 obtain ⟨b1, b2, b3, b4⟩ := hdOf_le (g ++ [c])
 have h6 : 6 ≤ (g ++ [c]).length := by omega
 have hc : (hdOf (g ++ [c])).code = 0 ∧ ((g ++ [c]).length : Int) = 6 + (hdOf (g ++ [c])).length := by
  by_cases e : (g ++ [c]).length = 6
  ·refine ⟨?_, by omega⟩
   by_cases e2 : (hdOf (g ++ [c])).code = 0
   ·exact e2
   ·exact absurd ⟨e, e2⟩ h1
  ·have h7 : 6 ≤ g.length := by omega
   obtain ⟨a1, a2⟩ := hg h7
   rw [hdOf_append h7] at h2 ⊢
   exact ⟨a1, by omega⟩
 obtain ⟨z1, z2, z3, z4⟩ := headCode_zero hc.1
 have hd : ((g ++ [c]).drop 6).length = (hdOf (g ++ [c])).length.toNat := by
  rw [List.length_drop]
  omega
 refine ⟨b2, b3, ⟨b4, z1⟩, z2, ?_, ?_, ?_⟩
 ·show ((g ++ [c]).drop 6).length ≤ 64
  omega
 ·show lFits (((g ++ [c]).drop 6).length : Int) _ _ = true
  rw [hd, show (((hdOf (g ++ [c])).length.toNat : Nat) : Int) = (hdOf (g ++ [c])).length from by omega]
  exact z4
 ·exact Decidable.not_not.1 h3
def sumU (K : List GSt) : Nat := (K.map fun s => s.un.length).sum
theorem sumU_upd {n : Int} {f : GSt → GSt} : ∀ {K : List GSt}, (K.map fun s => s.st.number).Nodup → ∀ {s : GSt}, s ∈ K → s.st.number = n → sumU (updN n f K) + s.un.length = sumU K + (f s).un.length
 | [], _, s, hs, _ => by cases hs
 | x :: r, hn, s, hs, he => by
  rw [List.map_cons, List.nodup_cons] at hn
  have e1 : sumU (updN n f (x :: r)) = (if x.st.number = n then f x else x).un.length + sumU (updN n f r) := by simp [sumU, updN]
  have e2 : sumU (x :: r) = x.un.length + sumU r := by simp [sumU]
  rw [e1, e2]
  rcases List.mem_cons.1 hs with e | e
  ·subst e
   have e3 : updN n f r = r := by
    unfold updN
    conv => rhs; rw [← List.map_id r]
    apply List.map_congr_left
    intro y hy
    have : y.st.number ≠ n := fun e => hn.1 (List.mem_map.2 ⟨y, hy, by rw [e, he]⟩)
    simp [this]
   rw [e3, if_pos he]
   omega
  ·have hx : x.st.number ≠ n := fun e4 => hn.1 (List.mem_map.2 ⟨s, e, by rw [e4, he]⟩)
   rw [if_neg hx]
   have := sumU_upd (f := f) hn.2 e he
   omega
theorem updN_num {n : Int} {f : GSt → GSt} (hf : ∀ s, (f s).st.number = s.st.number) (K : List GSt) : ((updN n f K).map fun s => s.st.number) = K.map fun s => s.st.number := by
 unfold updN
 rw [List.map_map]
 apply List.map_congr_left
 intro s _
 show (if s.st.number = n then f s else s).st.number = _
 split
 ·exact hf s
 ·rfl
theorem mem_updN {n : Int} {f : GSt → GSt} {K : List GSt} {s : GSt} (h : s ∈ updN n f K) : ∃ t ∈ K, (t.st.number = n ∧ s = f t) ∨ (t.st.number ≠ n ∧ s = t) := by
 obtain ⟨t, ht, rfl⟩ := List.mem_map.1 h
 refine ⟨t, ht, ?_⟩
 by_cases e : t.st.number = n
 ·exact Or.inl ⟨e, by simp [e]⟩
 ·exact Or.inr ⟨e, by simp [e]⟩
theorem insL_countP (f : Int → Bool) (n : Int) : ∀ L : List Int, (insL n L).countP f = L.countP f + (if f n then 1 else 0)
 | [] => by simp [insL, List.countP_cons]
 | x :: r => by
  rw [insL]
  split
  ·simp only [List.countP_cons]
  ·simp only [List.countP_cons, insL_countP f n r]
   omega
def opensB (fi : Bool) (n : Int) : Bool := (n.tmod 2 == 1) == fi
structure GoodS (fi : Bool) (nw : Int) (L : List Int) (s : GSt) : Prop where
 num : 1 ≤ s.st.number ∧ s.st.number ≤ 32767
 rcv : -1000 ≤ s.st.receive
 owed : 0 ≤ s.st.owed
 sum : s.st.receive + s.st.owed + (s.un.length : Int) ≤ 0
 send : -2147483648 ≤ s.st.send ∧ s.st.send ≤ 2147483647
 seen : opensB fi s.st.number = false → s.st.number ≤ nw
 opn : s.st.closed = false → s.st.number ∈ L
structure GoodM (m : EndM) : Prop where
 fault : m.fault = 0
 greeted : 0 ≤ m.greeted ∧ m.greeted ≤ 7
 send : 0 ≤ m.send ∧ m.send ≤ 2147483647
 receive : 0 ≤ m.receive
 owed : 0 ≤ m.owed
 tgt : m.target ≤ m.most ∧ m.most ≤ 1000
 wanted : 0 ≤ m.wanted ∧ m.wanted ≤ 1000
 made : 0 ≤ m.made ∧ m.made ≤ 1000
 own : 0 ≤ m.own ∧ m.own ≤ 1000
 other : 0 ≤ m.other ∧ m.other ≤ 2147483647
 count : 0 ≤ m.count ∧ m.count ≤ 2147483647
 clock : 0 ≤ m.clock ∧ m.clock ≤ 1000000
 start : 0 ≤ m.start ∧ m.start ≤ 1000000
 bestB : 0 ≤ m.bestB ∧ m.bestB ≤ 2147483647
 bestT : 0 ≤ m.bestT ∧ m.bestT ≤ 2147483647
 pnum : m.pnum < 4294967296
 newest : 0 ≤ m.newest ∧ m.newest ≤ 32767
 bst : 0 ≤ m.bstream ∧ m.bstream ≤ 32767
structure GoodG (g : GEnd) : Prop where
 m : GoodM g.m
 sum : g.m.receive + g.m.owed + (sumU g.K : Int) ≤ g.m.target
 rise : Rise g.L
 here : (g.L.countP fun k => g.m.opensN k) ≤ 4
 there : g.there ≤ 4
 blk : g.m.bstream ≠ 0 → g.m.opensN g.m.bstream = false ∧ g.m.newest < g.m.bstream ∧ g.there < 4
 nn : (g.K.map fun s => s.st.number).Nodup
 st : ∀ s ∈ g.K, GoodS g.m.first g.m.newest g.L s
 cls : ∀ n ∈ g.L, ∃ s ∈ g.K, s.st.number = n
 ans : ∀ a ∈ g.ans, (0 ≤ a.kind ∧ a.kind ≤ 255 ∧ 0 ≤ a.flags ∧ a.flags ≤ 255 ∧ a.body.length ≤ 64)
 alen : g.ans.length ≤ 8
 res : ∀ n ∈ g.res, 0 ≤ n ∧ n ≤ 32767
theorem GoodG.few {g : GEnd} (h : GoodG g) : g.L.length ≤ 8 := by
 have h1 := h.here
 have h2 := h.there
 unfold GEnd.there at h2
 omega
theorem GoodS.mono {fi : Bool} {nw nw' : Int} {L L' : List Int} {s : GSt} (h : GoodS fi nw L s) (h1 : nw ≤ nw') (h2 : s.st.closed = false → s.st.number ∈ L → s.st.number ∈ L') : GoodS fi nw' L' s := ⟨h.num, h.rcv, h.owed, h.sum, h.send, fun e => Int.le_trans (h.seen e) h1, fun e => h2 e (h.opn e)⟩
theorem GoodM.counted {m : EndM} (h : GoodM m) {n : Int} (hn : 0 ≤ n ∧ n ≤ 64) : GoodM (m.counted n) := by
 unfold EndM.counted
 have h1 := h.count
 split
 ·exact ⟨h.fault, h.greeted, h.send, h.receive, h.owed, h.tgt, h.wanted, h.made, h.own, h.other, ⟨by show 0 ≤ min (m.count + n) 2147483647; omega, by show min (m.count + n) 2147483647 ≤ 2147483647; omega⟩, h.clock, h.start, h.bestB, h.bestT, h.pnum, h.newest, h.bst⟩
 ·split
  ·exact ⟨h.fault, h.greeted, h.send, h.receive, h.owed, h.tgt, h.wanted, h.made, h.own, h.other, ⟨hn.1, by show n ≤ _; omega⟩, h.clock, ⟨by show (0 : Int) ≤ 0; omega, by show (0 : Int) ≤ _; omega⟩, h.bestB, h.bestT, Nat.mod_lt _ (by omega), h.newest, h.bst⟩
  ·exact h
theorem counted_keep (m : EndM) (n : Int) : (m.counted n).receive = m.receive ∧ (m.counted n).owed = m.owed ∧ (m.counted n).target = m.target ∧ (m.counted n).first = m.first ∧ (m.counted n).newest = m.newest ∧ (m.counted n).bstream = m.bstream := by
 unfold EndM.counted
 split
 ·exact ⟨rfl, rfl, rfl, rfl, rfl, rfl⟩
 ·split
  ·exact ⟨rfl, rfl, rfl, rfl, rfl, rfl⟩
  ·exact ⟨rfl, rfl, rfl, rfl, rfl, rfl⟩
theorem GoodM.got {m : EndM} (h : GoodM m) {n k : Nat} (hn : n ≤ 64) (hr : n = 0 ∨ (n : Int) ≤ m.receive) : GoodM ((m.got_ n).owes k) ∧ ((m.got_ n).owes k).receive = m.receive - n ∧ ((m.got_ n).owes k).owed = m.owed + k ∧ ((m.got_ n).owes k).target = m.target ∧ ((m.got_ n).owes k).first = m.first ∧ ((m.got_ n).owes k).newest = m.newest ∧ ((m.got_ n).owes k).bstream = m.bstream := by
 have h0 : GoodM ({ m with receive := m.receive - n } : EndM) := ⟨h.fault, h.greeted, h.send, by show 0 ≤ m.receive - n; have := h.receive; omega, h.owed, h.tgt, h.wanted, h.made, h.own, h.other, h.count, h.clock, h.start, h.bestB, h.bestT, h.pnum, h.newest, h.bst⟩
 have h1 : GoodM (m.got_ n) := h0.counted ⟨by omega, by omega⟩
 obtain ⟨e1, e2, e3, e4, e5, e6⟩ := counted_keep ({ m with receive := m.receive - n } : EndM) n
 refine ⟨⟨h1.fault, h1.greeted, h1.send, h1.receive, ?_, h1.tgt, h1.wanted, h1.made, h1.own, h1.other, h1.count, h1.clock, h1.start, h1.bestB, h1.bestT, h1.pnum, h1.newest, h1.bst⟩, e1, ?_, e3, e4, e5, e6⟩
 ·show 0 ≤ (m.got_ n).owed + k
  have := h1.owed; omega
 ·show (m.got_ n).owed + k = _
  rw [show (m.got_ n).owed = m.owed from e2]
theorem GoodG.onM {g : GEnd} (h : GoodG g) {m' : EndM} (hm : GoodM m') (e1 : m'.first = g.m.first) (e2 : m'.newest = g.m.newest) (e3 : m'.bstream = g.m.bstream) (hs : m'.receive + m'.owed + (sumU g.K : Int) ≤ m'.target) : GoodG { g with m := m' } := by
 have ho : m'.opensN = g.m.opensN := by funext k; unfold EndM.opensN; rw [e1]
 refine ⟨hm, hs, h.rise, ?_, ?_, ?_, h.nn, ?_, h.cls, h.ans, h.alen, h.res⟩
 ·show (g.L.countP fun k => m'.opensN k) ≤ 4
  rw [ho]; exact h.here
 ·show (g.L.length : Int) - (g.L.countP fun k => m'.opensN k : Nat) ≤ 4
  rw [ho]; exact h.there
 ·show m'.bstream ≠ 0 → m'.opensN m'.bstream = false ∧ m'.newest < m'.bstream ∧ (g.L.length : Int) - (g.L.countP fun k => m'.opensN k : Nat) < 4
  rw [ho, e2, e3]; exact h.blk
 ·show ∀ s ∈ g.K, GoodS m'.first m'.newest g.L s
  rw [e1, e2]; exact h.st
theorem GoodG.onS {g : GEnd} (h : GoodG g) {m' : EndM} {s : GSt} {f : GSt → GSt} {L' : List Int} (hs : s ∈ g.K) (hf : ∀ x, (f x).st.number = x.st.number) (hm : GoodM m') (e1 : m'.first = g.m.first) (e2 : m'.newest = g.m.newest) (e3 : m'.bstream = g.m.bstream)
  (hsum : m'.receive + m'.owed + (sumU g.K : Int) - s.un.length + (f s).un.length ≤ m'.target) (hL : List.Sublist L' g.L) (hLm : ∀ n ∈ g.L, n ≠ s.st.number → n ∈ L') (hS : GoodS g.m.first g.m.newest L' (f s)) : GoodG { g with m := m', K := updN s.st.number f g.K, L := L' } := by
 have ho : m'.opensN = g.m.opensN := by funext k; unfold EndM.opensN; rw [e1]
 have hth : ({ g with m := m', K := updN s.st.number f g.K, L := L' } : GEnd).there ≤ g.there := by
  show (L'.length : Int) - (L'.countP fun k => m'.opensN k : Nat) ≤ (g.L.length : Int) - (g.L.countP fun k => g.m.opensN k : Nat)
  rw [ho]
  have hp : ∀ l : List Int, (l.length : Int) - (l.countP fun k => g.m.opensN k : Nat) = (l.countP fun k => !g.m.opensN k : Nat) := fun l => by
   induction l with
   | nil => rfl
   | cons x r ih =>
    simp only [List.countP_cons, List.length_cons]
    cases g.m.opensN x <;> simp <;> omega
  rw [hp, hp]
  have a3 := hL.countP_le (p := fun k => !g.m.opensN k)
  omega
 refine ⟨hm, ?_, h.rise.sublist hL, ?_, Int.le_trans hth h.there, ?_, ?_, ?_, ?_, h.ans, h.alen, h.res⟩
 ·show m'.receive + m'.owed + (sumU (updN s.st.number f g.K) : Int) ≤ m'.target
  have := sumU_upd (f := f) h.nn hs rfl
  omega
 ·show (L'.countP fun k => m'.opensN k) ≤ 4
  rw [ho]
  exact Nat.le_trans hL.countP_le h.here
 ·show m'.bstream ≠ 0 → m'.opensN m'.bstream = false ∧ m'.newest < m'.bstream ∧ _
  intro hb
  rw [e3] at hb
  obtain ⟨b1, b2, b3⟩ := h.blk hb
  rw [ho, e2, e3]
  exact ⟨b1, b2, Int.lt_of_le_of_lt hth b3⟩
 ·show ((updN s.st.number f g.K).map fun s => s.st.number).Nodup
  rw [updN_num hf]; exact h.nn
 ·show ∀ x ∈ updN s.st.number f g.K, GoodS m'.first m'.newest L' x
  intro x hx
  rw [e1, e2]
  obtain ⟨t, ht, ⟨e, rfl⟩ | ⟨e, rfl⟩⟩ := mem_updN hx
  ·have : t = s := inj_nd (fun s : GSt => s.st.number) h.nn ht hs e
   rw [this]; exact hS
  ·exact (h.st x ht).mono (Int.le_refl _) (fun _ hm => hLm _ hm e)
 ·show ∀ n ∈ L', ∃ x ∈ updN s.st.number f g.K, x.st.number = n
  intro n hn
  obtain ⟨t, ht, e⟩ := h.cls n (hL.subset hn)
  exact ⟨_, List.mem_map.2 ⟨t, ht, rfl⟩, by split <;> simp [hf, e]⟩
end
section
theorem cutB_le (fl : Int) (b : List UInt8) : (cutB fl b).length ≤ b.length := by
 unfold cutB
 split
 ·rw [List.length_take, List.length_drop]
  omega
 ·exact Nat.le_refl _
theorem padX_eq (fl : Int) (b : List UInt8) : b.length = (cutB fl b).length + padX fl b := by
 have := cutB_le fl b
 unfold padX
 omega
theorem GoodG.begin {X : GX} (h : GoodG X.g) : GoodG X.begin.g :=
 h.onM (m' := { X.g.m with begun := true }) ⟨h.m.fault, h.m.greeted, h.m.send, h.m.receive, h.m.owed, h.m.tgt, h.m.wanted, h.m.made, h.m.own, h.m.other, h.m.count, h.m.clock, h.m.start, h.m.bestB, h.m.bestT, h.m.pnum, h.m.newest, h.m.bst⟩ rfl rfl rfl h.sum
theorem erase_keep {L : List Int} {n k : Int} (h : k ∈ L) (hn : k ≠ n) : k ∈ L.erase n := (List.mem_erase_of_ne hn).2 h
theorem good_data {X Y : GX} {fl n : Int} {b : List UInt8} (h : GoodG X.g) (hb : b.length ≤ 64) (hr : X.comeData fl n b = .inl Y) : GoodG Y.g := by
 unfold GX.comeData at hr
 cases ht : X.g.told? n with
 | none => rw [ht] at hr; cases hr
 | some s =>
  rw [ht] at hr
  simp only at hr
  obtain ⟨hs, hn, ha⟩ := told_mem ht
  subst hn
  split at hr
  ·cases hr
  rename_i h1
  split at hr
  ·cases hr
  rename_i h2
  have hS := h.st s hs
  split at hr
  ·simp only [Sum.inl.injEq] at hr
   subst hr
   obtain ⟨g1, g2, g3, g4, g5, g6, g7⟩ := h.m.got (n := b.length) (k := b.length) hb (by omega)
   refine h.onM g1 g5 g6 g7 ?_
   rw [g2, g3, g4]
   have := h.sum
   omega
  ·rename_i h3
   simp only [Sum.inl.injEq] at hr
   subst hr
   have h3 : s.st.reset = 0 := Decidable.not_not.1 h3
   have hh : s.st.hasAll = false := by cases e : s.st.hasAll <;> simp_all
   obtain ⟨g1, g2, g3, g4, g5, g6, g7⟩ := h.m.got (n := b.length) (k := padX fl b) hb (by omega)
   have hp := padX_eq fl b
   have hsum := h.sum
   have hown := h.m.own
   refine h.onS (f := fun s => s.morep b.length (padX fl b) (cutB fl b) (hasB fl 1)) hs (fun x => rfl) g1 g5 g6 g7 ?_ ?_ ?_ ?_
   ·rw [g2, g3, g4]
    show _ - (s.un.length : Int) + ((s.un ++ cutB fl b).length : Int) ≤ _
    rw [List.length_append]
    omega
   ·split
    ·exact List.erase_sublist ..
    ·exact List.Sublist.refl _
   ·intro k hk hne
    split
    ·exact erase_keep hk hne
    ·exact hk
   ·refine ⟨hS.num, ?_, ?_, ?_, hS.send, hS.seen, ?_⟩
    ·show -1000 ≤ s.st.receive - (b.length : Int)
     have := hS.rcv
     have : ¬ (1 ≤ (b.length : Int) ∧ (X.g.m.own + s.st.receive < (b.length : Int))) := fun e => h2 ⟨e.1, Or.inr ⟨h3, e.2⟩⟩
     omega
    ·show 0 ≤ s.st.owed + (padX fl b : Int)
     have := hS.owed
     omega
    ·show s.st.receive - (b.length : Int) + (s.st.owed + (padX fl b : Int)) + ((s.un ++ cutB fl b).length : Int) ≤ 0
     rw [List.length_append]
     have := hS.sum
     omega
    ·show (!(s.st.reset == 0) || (s.st.sentAll && hasB fl 1)) = false → s.st.number ∈ _
     intro hc
     have hc2 : (s.st.sentAll && hasB fl 1) = false := by
      rw [h3] at hc
      simpa using hc
     rw [hc2]
     exact hS.opn (by unfold StM.closed; rw [h3, hh]; simp)
theorem good_reset {X Y : GX} {n : Int} (h : GoodG X.g) (hr : X.comeReset n = .inl Y) : GoodG Y.g := by
 unfold GX.comeReset at hr
 cases ht : X.g.told? n with
 | none => rw [ht] at hr; cases hr
 | some s =>
  rw [ht] at hr
  simp only at hr
  obtain ⟨hs, hn, ha⟩ := told_mem ht
  subst hn
  split at hr
  ·simp only [Sum.inl.injEq] at hr
   subst hr; exact h
  ·simp only [Sum.inl.injEq] at hr
   subst hr
   have hS := h.st s hs
   have hsum := h.sum
   refine h.onS (f := fun s => s.drop 2) (m' := X.g.m.owes s.un.length) hs (fun x => rfl) ⟨h.m.fault, h.m.greeted, h.m.send, h.m.receive, by show 0 ≤ X.g.m.owed + (s.un.length : Int); have := h.m.owed; omega, h.m.tgt, h.m.wanted, h.m.made, h.m.own, h.m.other, h.m.count, h.m.clock, h.m.start, h.m.bestB, h.m.bestT, h.m.pnum, h.m.newest, h.m.bst⟩ rfl rfl rfl ?_ (List.erase_sublist ..) (fun k hk hne => erase_keep hk hne) ?_
   ·show X.g.m.receive + (X.g.m.owed + (s.un.length : Int)) + (sumU X.g.K : Int) - (s.un.length : Int) + ((([] : List UInt8).length : Nat) : Int) ≤ X.g.m.target
    simp
    omega
   ·refine ⟨hS.num, hS.rcv, hS.owed, ?_, hS.send, hS.seen, fun hc => ?_⟩
    ·show s.st.receive + s.st.owed + ((([] : List UInt8).length : Nat) : Int) ≤ 0
     have := hS.sum
     simp
     omega
    ·exact absurd hc (by simp [StM.closed, GSt.drop])
theorem num4_le4 (l : List UInt8) : 0 ≤ num4 l ∧ num4 l ≤ 4294967295 := by
 match l with
 | [] => simp [num4]
 | [_] => simp [num4]
 | [_, _] => simp [num4]
 | [_, _, _] => simp [num4]
 | a :: b :: c :: d :: r =>
  have h0 := a.toNat_lt
  have h1 := b.toNat_lt
  have h2 := c.toNat_lt
  have h3 := d.toNat_lt
  simp only [num4, be4]
  omega
theorem FrOk.num {f : Fr} (h : FrOk f) (hk : (f.kind = 3 ∧ hasB f.flags 1 = false) ∨ f.kind = 6) : 0 ≤ num4 f.body ∧ num4 f.body ≤ 2147483647 := by
 have hb := h.body
 refine ⟨(num4_le4 _).1, ?_⟩
 unfold bodyCode numCode nCode at hb
 rcases hk with ⟨e, e2⟩ | e
 ·rw [e, e2] at hb
  simp at hb
  omega
 ·rw [e] at hb
  simp at hb
  omega
theorem good_settings {X Y : GX} {fl : Int} {b : List UInt8} (h : GoodG X.g) (hn : hasB fl 1 = false → 0 ≤ num4 b ∧ num4 b ≤ 2147483647) (hr : X.comeSettings fl b = .inl Y) : GoodG Y.g := by
 unfold GX.comeSettings at hr
 split at hr
 ·split at hr
  ·simp only [Sum.inl.injEq] at hr
   subst hr
   exact h.onM (m' := X.g.m.acked) ⟨h.m.fault, h.m.greeted, h.m.send, h.m.receive, h.m.owed, h.m.tgt, h.m.wanted, h.m.made, h.m.made, h.m.other, h.m.count, h.m.clock, h.m.start, h.m.bestB, h.m.bestT, h.m.pnum, h.m.newest, h.m.bst⟩ rfl rfl rfl h.sum
  ·cases hr
 rename_i h1
 split at hr
 ·cases hr
 split at hr
 ·cases hr
 rename_i h3
 simp only [Sum.inl.injEq] at hr
 subst hr
 have hg := h.onM (m' := { X.g.m with other := num4 b, answers := .tuple #[] }) ⟨h.m.fault, h.m.greeted, h.m.send, h.m.receive, h.m.owed, h.m.tgt, h.m.wanted, h.m.made, h.m.own, hn (by simpa using h1), h.m.count, h.m.clock, h.m.start, h.m.bestB, h.m.bestT, h.m.pnum, h.m.newest, h.m.bst⟩ rfl rfl rfl h.sum
 refine ⟨hg.m, hg.sum, hg.rise, hg.here, hg.there, hg.blk, hg.nn, hg.st, hg.cls, ?_, ?_, hg.res⟩
 ·intro a ha
  rcases List.mem_append.1 ha with e | e
  ·exact h.ans a e
  ·rw [List.mem_singleton] at e
   subst e
   simp
 ·show (X.g.ans ++ [_]).length ≤ 8
  rw [List.length_append]
  simp
  omega
theorem good_ping {X Y : GX} {fl : Int} {b : List UInt8} (h : GoodG X.g) (hb : b.length ≤ 64) (hr : X.comePing fl b = .inl Y) : GoodG Y.g := by
 unfold GX.comePing at hr
 split at hr
 ·simp only [Sum.inl.injEq] at hr
  subst hr
  have h0 := h.m
  have hsum := h.sum
  have hr := h0.receive
  have ho := h0.owed
  have hk : GoodM (X.g.m.answd (num4 b).toNat) ∧ X.g.m.target ≤ (X.g.m.answd (num4 b).toNat).target ∧ (X.g.m.answd (num4 b).toNat).receive = X.g.m.receive ∧ (X.g.m.answd (num4 b).toNat).first = X.g.m.first ∧ (X.g.m.answd (num4 b).toNat).newest = X.g.m.newest ∧ (X.g.m.answd (num4 b).toNat).bstream = X.g.m.bstream := by
   have ht1 := h0.tgt
   have hc := h0.clock
   have hst := h0.start
   have htk : 0 ≤ X.g.m.ticks ∧ X.g.m.ticks ≤ 2147483647 := by unfold EndM.ticks; omega
   unfold EndM.answd
   split
   ·split
    ·split
     ·exact ⟨⟨h0.fault, h0.greeted, h0.send, h0.receive, h0.owed, h0.tgt, h0.wanted, h0.made, h0.own, h0.other, h0.count, h0.clock, h0.start, h0.count, htk, h0.pnum, h0.newest, h0.bst⟩, Int.le_refl _, rfl, rfl, rfl, rfl⟩
     ·exact ⟨⟨h0.fault, h0.greeted, h0.send, h0.receive, h0.owed, ⟨by show min _ _ ≤ X.g.m.most; omega, ht1.2⟩, h0.wanted, h0.made, h0.own, h0.other, h0.count, h0.clock, h0.start, h0.count, htk, h0.pnum, h0.newest, h0.bst⟩, by show X.g.m.target ≤ min _ _; omega, rfl, rfl, rfl, rfl⟩
    ·exact ⟨⟨h0.fault, h0.greeted, h0.send, h0.receive, h0.owed, h0.tgt, h0.wanted, h0.made, h0.own, h0.other, h0.count, h0.clock, h0.start, h0.bestB, h0.bestT, h0.pnum, h0.newest, h0.bst⟩, Int.le_refl _, rfl, rfl, rfl, rfl⟩
   ·exact ⟨h0, Int.le_refl _, rfl, rfl, rfl, rfl⟩
  obtain ⟨k0, k1, k2, k3, k4, k5⟩ := hk
  refine h.onM (m' := X.g.m.ponged (num4 b).toNat) ⟨k0.fault, k0.greeted, k0.send, k0.receive, ?_, k0.tgt, k0.wanted, k0.made, k0.own, k0.other, k0.count, k0.clock, k0.start, k0.bestB, k0.bestT, k0.pnum, k0.newest, k0.bst⟩ k3 k4 k5 ?_
  ·show 0 ≤ X.g.m.owed + ((X.g.m.answd (num4 b).toNat).target - X.g.m.target)
   omega
  ·show (X.g.m.answd (num4 b).toNat).receive + (X.g.m.owed + ((X.g.m.answd (num4 b).toNat).target - X.g.m.target)) + (sumU X.g.K : Int) ≤ (X.g.m.answd (num4 b).toNat).target
   omega
 split at hr
 ·cases hr
 rename_i h3
 simp only [Sum.inl.injEq] at hr
 subst hr
 have hg := h.onM (m' := { X.g.m with answers := .tuple #[] }) ⟨h.m.fault, h.m.greeted, h.m.send, h.m.receive, h.m.owed, h.m.tgt, h.m.wanted, h.m.made, h.m.own, h.m.other, h.m.count, h.m.clock, h.m.start, h.m.bestB, h.m.bestT, h.m.pnum, h.m.newest, h.m.bst⟩ rfl rfl rfl h.sum
 refine ⟨hg.m, hg.sum, hg.rise, hg.here, hg.there, hg.blk, hg.nn, hg.st, hg.cls, ?_, ?_, hg.res⟩
 ·intro a ha
  rcases List.mem_append.1 ha with e | e
  ·exact h.ans a e
  ·rw [List.mem_singleton] at e
   subst e
   exact ⟨by simp, by simp, by simp, by simp, hb⟩
 ·show (X.g.ans ++ [_]).length ≤ 8
  rw [List.length_append]
  simp
  omega
theorem good_credit {X Y : GX} {n : Int} {b : List UInt8} (h : GoodG X.g) (hn : 0 ≤ num4 b ∧ num4 b ≤ 2147483647) (hr : X.comeCredit n b = .inl Y) : GoodG Y.g := by
 unfold GX.comeCredit at hr
 split at hr
 ·split at hr
  ·cases hr
  rename_i h2
  simp only [Sum.inl.injEq] at hr
  subst hr
  exact h.onM (m' := X.g.m.more (num4 b)) ⟨h.m.fault, h.m.greeted, ⟨by show 0 ≤ X.g.m.send + num4 b; have := h.m.send; omega, by show X.g.m.send + num4 b ≤ _; omega⟩, h.m.receive, h.m.owed, h.m.tgt, h.m.wanted, h.m.made, h.m.own, h.m.other, h.m.count, h.m.clock, h.m.start, h.m.bestB, h.m.bestT, h.m.pnum, h.m.newest, h.m.bst⟩ rfl rfl rfl h.sum
 ·cases ht : X.g.told? n with
  | none => rw [ht] at hr; cases hr
  | some s =>
   rw [ht] at hr
   simp only at hr
   obtain ⟨hs, hn', ha⟩ := told_mem ht
   subst hn'
   split at hr
   ·simp only [Sum.inl.injEq] at hr
    subst hr; exact h
   split at hr
   ·cases hr
   rename_i h3
   simp only [Sum.inl.injEq] at hr
   subst hr
   have hS := h.st s hs
   have hsum := h.sum
   have ho := h.m.other
   have h4 := hS.send
   refine h.onS (f := fun x => x.credit (num4 b)) (m' := X.g.m) (L' := X.g.L) hs (fun x => rfl) h.m rfl rfl rfl ?_ (List.Sublist.refl _) (fun k hk _ => hk) ⟨hS.num, hS.rcv, hS.owed, hS.sum, ⟨by show _ ≤ s.st.send + num4 b; omega, by show s.st.send + num4 b ≤ _; omega⟩, hS.seen, hS.opn⟩
   show _ - (s.un.length : Int) + (s.un.length : Int) ≤ _
   omega
theorem good_piece {X Y : GX} {n : Int} {bl : Bool} {l0 l : List UInt8} {last : Bool} (h : GoodG X.g) (hn : 1 ≤ n ∧ n ≤ 32767) (ho : X.g.m.opensN n = false) (hw : X.g.m.newest < n) (h4 : X.g.there < 4) (hr : X.comePiece n bl l0 l last = .inl Y) : GoodG Y.g := by
 unfold GX.comePiece at hr
 split at hr
 ·cases hr
 split at hr
 ·simp only [Sum.inl.injEq] at hr
  subst hr
  exact ⟨⟨h.m.fault, h.m.greeted, h.m.send, h.m.receive, h.m.owed, h.m.tgt, h.m.wanted, h.m.made, h.m.own, h.m.other, h.m.count, h.m.clock, h.m.start, h.m.bestB, h.m.bestT, h.m.pnum, h.m.newest, ⟨by show 0 ≤ n; omega, hn.2⟩⟩, h.sum, h.rise, h.here, h.there, fun _ => ⟨ho, hw, h4⟩, h.nn, h.st, h.cls, h.ans, h.alen, h.res⟩
 ·cases hu : (Up.mk X.ul X.ut X.um).unpack (l0 ++ l) with
  | none => rw [hu] at hr; cases hr
  | some r =>
   obtain ⟨hs, lim, tab⟩ := r
   rw [hu] at hr
   simp only [Sum.inl.injEq] at hr
   subst hr
   have hno : ∀ s ∈ X.g.K, s.st.number ≠ n := fun s hs e => by
    have := (h.st s hs).seen (by rw [e]; exact ho)
    omega
   have hnl : n ∉ X.g.L := fun hm => by
    obtain ⟨s, hs, e⟩ := h.cls n hm
    exact hno s hs e
   have hnew := h.m.newest
   refine ⟨⟨h.m.fault, h.m.greeted, h.m.send, h.m.receive, h.m.owed, h.m.tgt, h.m.wanted, h.m.made, h.m.own, h.m.other, h.m.count, h.m.clock, h.m.start, h.m.bestB, h.m.bestT, h.m.pnum, ⟨by show 0 ≤ n; omega, hn.2⟩, ⟨by show (0 : Int) ≤ 0; omega, by show (0 : Int) ≤ _; omega⟩⟩, ?_, insL_rise h.rise hnl, ?_, ?_, fun e => absurd rfl e, ?_, ?_, ?_, h.ans, h.alen, h.res⟩
   ·show X.g.m.receive + X.g.m.owed + (sumU (X.g.K ++ [⟨0, StM.fresh n bl, [], []⟩]) : Int) ≤ X.g.m.target
    have : sumU (X.g.K ++ [⟨0, StM.fresh n bl, [], []⟩]) = sumU X.g.K := by simp [sumU]
    rw [this]; exact h.sum
   ·show ((insL n X.g.L).countP fun k => X.g.m.opensN k) ≤ 4
    rw [insL_countP, ho]
    simpa using h.here
   ·show ((insL n X.g.L).length : Int) - ((insL n X.g.L).countP fun k => X.g.m.opensN k : Nat) ≤ 4
    rw [insL_countP, ho, insL_length]
    unfold GEnd.there at h4
    simp
    omega
   ·show ((X.g.K ++ [(⟨0, StM.fresh n bl, [], []⟩ : GSt)]).map fun s => s.st.number).Nodup
    rw [List.map_append, List.nodup_append]
    refine ⟨h.nn, by simp, fun a ha b hb e => ?_⟩
    obtain ⟨s, hs, rfl⟩ := List.mem_map.1 ha
    simp at hb
    subst hb
    exact hno s hs e
   ·show ∀ s ∈ X.g.K ++ [(⟨0, StM.fresh n bl, [], []⟩ : GSt)], GoodS X.g.m.first n (insL n X.g.L) s
    intro s hs
    rcases List.mem_append.1 hs with e | e
    ·exact (h.st s e).mono (by omega) (fun _ hm => insL_mem.2 (Or.inr hm))
    ·rw [List.mem_singleton] at e
     subst e
     exact ⟨hn, by simp [StM.fresh], by simp [StM.fresh], by simp [StM.fresh], by simp [StM.fresh], fun _ => Int.le_refl _, fun _ => insL_mem.2 (Or.inl rfl)⟩
   ·show ∀ k ∈ insL n X.g.L, ∃ s ∈ X.g.K ++ [(⟨0, StM.fresh n bl, [], []⟩ : GSt)], s.st.number = k
    intro k hk
    rcases insL_mem.1 hk with e | e
    ·exact ⟨_, List.mem_append.2 (Or.inr (List.mem_singleton.2 rfl)), e.symm⟩
    ·obtain ⟨s, hs, e2⟩ := h.cls k e
     exact ⟨s, List.mem_append.2 (Or.inl hs), e2⟩
theorem good_headers {X Y : GX} {fl n : Int} {b : List UInt8} (h : GoodG X.g) (hn : 1 ≤ n ∧ n ≤ 32767) (hr : X.comeHeaders fl n b = .inl Y) : GoodG Y.g := by
 unfold GX.comeHeaders at hr
 split at hr
 ·cases hr
 rename_i h1
 exact good_piece h hn (by cases e : X.g.m.opensN n <;> simp_all) (by omega) (by omega) hr
theorem FrOk.pos {f : Fr} (h : FrOk f) (hk : f.kind = 0 ∨ f.kind = 1 ∨ f.kind = 2 ∨ f.kind = 7) : 1 ≤ f.stream ∧ f.stream ≤ 32767 := by
 have h1 := h.stream
 have h2 := h.fit
 unfold sFits at h2
 rw [if_pos hk] at h2
 have : f.stream ≠ 0 := by simpa using h2
 omega
theorem FrOk.zero {f : Fr} (h : FrOk f) (hk : f.kind = 3 ∨ f.kind = 4 ∨ f.kind = 5) : f.stream = 0 := by
 have h2 := h.fit
 unfold sFits at h2
 rw [if_neg (by omega), if_pos hk] at h2
 simpa using h2
theorem good_come {X Y : GX} {f : Fr} (h : GoodG X.g) (hf : FrOk f) (hr : X.come f = .inl Y) : GoodG Y.g ∨ Y.g.m.fault ≠ 0 := by
 unfold GX.come at hr
 have hb := h.begin
 by_cases ht : X.g.m.turn (decide (f.kind = 3) && !hasB f.flags 1) (if f.kind = 7 then f.stream else 0) = false
 ·rw [if_pos ht] at hr; cases hr
 rw [if_neg ht] at hr
 by_cases k0 : f.kind = 0
 ·rw [if_pos k0] at hr
  exact Or.inl (good_data hb hf.len hr)
 rw [if_neg k0] at hr
 by_cases k1 : f.kind = 1
 ·rw [if_pos k1] at hr
  exact Or.inl (good_headers hb (hf.pos (by omega)) hr)
 rw [if_neg k1] at hr
 by_cases k2 : f.kind = 2
 ·rw [if_pos k2] at hr
  exact Or.inl (good_reset hb hr)
 rw [if_neg k2] at hr
 by_cases k3 : f.kind = 3
 ·rw [if_pos k3] at hr
  exact Or.inl (good_settings hb (fun e => hf.num (Or.inl ⟨k3, e⟩)) hr)
 rw [if_neg k3] at hr
 by_cases k4 : f.kind = 4
 ·rw [if_pos k4] at hr
  exact Or.inl (good_ping hb hf.len hr)
 rw [if_neg k4] at hr
 by_cases k5 : f.kind = 5
 ·rw [if_pos k5] at hr
  simp only [Sum.inl.injEq] at hr
  subst hr
  exact Or.inr (by show (7 : Int) ≠ 0; omega)
 rw [if_neg k5] at hr
 by_cases k6 : f.kind = 6
 ·rw [if_pos k6] at hr
  exact Or.inl (good_credit hb (hf.num (Or.inr k6)) hr)
 rw [if_neg k6] at hr
 by_cases k7 : f.kind = 7
 ·rw [if_pos k7] at hr
  have hp := hf.pos (by omega)
  have ht2 : f.stream = X.g.m.bstream := by
   rw [if_pos k7] at ht
   unfold EndM.turn at ht
   simp at ht
   exact ht.2
  obtain ⟨b1, b2, b3⟩ := h.blk (by omega)
  rw [← ht2] at b1 b2
  exact Or.inl (good_piece hb hp b1 b2 b3 hr)
 ·rw [if_neg k7] at hr
  simp only [Sum.inl.injEq] at hr
  subst hr
  exact Or.inl hb
theorem good_byte {X Y : GX} {c : UInt8} (h : GoodG X.g) (hg : Got X.g.got) (hr : X.byte c = .inl Y) : GoodG Y.g ∨ Y.g.m.fault ≠ 0 := by
 unfold GX.byte at hr
 split at hr
 ·rename_i h7
  split at hr
  ·simp only [Sum.inl.injEq] at hr
   subst hr
   have := h.m.greeted
   exact Or.inl (h.onM (m' := { X.g.m with greeted := X.g.m.greeted + 1 }) ⟨h.m.fault, ⟨by show 0 ≤ X.g.m.greeted + 1; omega, by show X.g.m.greeted + 1 ≤ 7; omega⟩, h.m.send, h.m.receive, h.m.owed, h.m.tgt, h.m.wanted, h.m.made, h.m.own, h.m.other, h.m.count, h.m.clock, h.m.start, h.m.bestB, h.m.bestT, h.m.pnum, h.m.newest, h.m.bst⟩ rfl rfl rfl h.sum)
  ·cases hr
 ·cases hs : step X.g.got c with
  | inl x =>
   cases x with
   | inl l =>
    rw [hs] at hr
    simp only [Sum.inl.injEq] at hr
    subst hr
    exact Or.inl ⟨h.m, h.sum, h.rise, h.here, h.there, h.blk, h.nn, h.st, h.cls, h.ans, h.alen, h.res⟩
   | inr f =>
    rw [hs] at hr
    exact good_come (X := X.to { X.g with got := [] }) ⟨h.m, h.sum, h.rise, h.here, h.there, h.blk, h.nn, h.st, h.cls, h.ans, h.alen, h.res⟩ (step_ok hg hs) hr
  | inr code => rw [hs] at hr; cases hr
end
section
def codeOf : ResX → Int
 | .inl _ => 0
 | .inr c => c
def RX (w0 : World) (eb mb : Nat) (X0 : GX) (r : ResX) (w' : World) : Prop := ∃ Y Y', r = .inl Y ∧ Y'.bare = Y.bare ∧ NextX w0 w' eb mb X0 Y'
def SX (w0 : World) (eb mb : Nat) (X0 X : GX) (r : ResX) (w' : World) : Prop := ∃ c, r = .inr c ∧ DiesX w0 w' eb mb X0 X c
def Outc (w0 : World) (eb mb : Nat) (X0 X : GX) (r : ResX) (e : Ending) (w' : World) : Prop := (e = .returned (.tuple #[]) ∧ RX w0 eb mb X0 r w') ∨ (e = .panicked [{ v := .iface 41 (.int .i64 (codeOf r)), recovered := false }] ∧ SX w0 eb mb X0 X r w')
section
variable {w0 w w' : World} {eb mb : Nat} {X0 X1 X Y Y' : GX} {r r' : ResX} {c : Int} {e : Ending}
theorem outc_ok (hr : r = .inl Y) (hb : Y'.bare = Y.bare) (hn : NextX w0 w' eb mb X0 Y') : Outc w0 eb mb X0 X r (.returned (.tuple #[])) w' := Or.inl ⟨rfl, Y, Y', hr, hb, hn⟩
theorem outc_no (hr : r = .inr c) (hd : DiesX w0 w' eb mb X0 X c) : Outc w0 eb mb X0 X r (faultE c) w' := Or.inr ⟨by rw [hr]; rfl, c, hr, hd⟩
theorem outc_same {q : GEnd} (h : InvX w eb mb X) (hr : r = .inl (X.to q)) (hn : ∃ g', g'.bare = q.bare ∧ Next w w' eb mb X.g g') (hs : SameX X.g q) : Outc w eb mb X X r (.returned (.tuple #[])) w' := by
 obtain ⟨g', h1, h2⟩ := h.step hn hs
 refine outc_ok hr (Y' := { X with g := g' }) ?_ h2
 unfold GX.bare GX.to
 simp only
 rw [crude_of_bare h1]
theorem outc_below (h : InvX w eb mb X) (hr : r = .inr c) (hL : X.g.L.length ≤ 1048576) (hb : Below w.heap.size w w') : Outc w eb mb X X r (faultE c) w' := outc_no hr (DiesX.of (NextX.of_below h hb) hL)
theorem outc_pre {Z : GX} (h : Outc w eb mb X1 Z r' e w') (hn : NextX w0 w eb mb X0 X1) (hb : r'.bare = r.bare) (hd : ∀ c, (Z.died c).bare = (X.died c).bare) : Outc w0 eb mb X0 X r e w' := by
 rcases h with ⟨rfl, Y, Y', h1, h2, h3⟩ | ⟨rfl, c, h1, h2⟩
 ·cases r with
  | inl Z =>
   rw [h1] at hb
   have hb : Y.bare = Z.bare := by simpa [ResX.bare] using hb
   exact Or.inl ⟨rfl, Z, Y', rfl, h2.trans hb, hn.trans h3⟩
  | inr c => rw [h1] at hb; cases hb
 ·cases r with
  | inl Z => rw [h1] at hb; cases hb
  | inr c' =>
   rw [h1] at hb
   have hb : c = c' := by simpa [ResX.bare] using hb
   subst hb
   exact Or.inr ⟨by rw [h1], c, rfl, (h2.pre hn).as (hd c)⟩
end
theorem GoodS.crude {fi : Bool} {nw : Int} {L : List Int} {s : GSt} : GoodS fi nw L s.crude ↔ GoodS fi nw L s := ⟨fun h => ⟨h.num, h.rcv, h.owed, h.sum, h.send, h.seen, h.opn⟩, fun h => ⟨h.num, h.rcv, h.owed, h.sum, h.send, h.seen, h.opn⟩⟩
theorem GoodM.crude {m : EndM} : GoodM m.crude ↔ GoodM m := ⟨fun h => ⟨h.fault, h.greeted, h.send, h.receive, h.owed, h.tgt, h.wanted, h.made, h.own, h.other, h.count, h.clock, h.start, h.bestB, h.bestT, h.pnum, h.newest, h.bst⟩, fun h => ⟨h.fault, h.greeted, h.send, h.receive, h.owed, h.tgt, h.wanted, h.made, h.own, h.other, h.count, h.clock, h.start, h.bestB, h.bestT, h.pnum, h.newest, h.bst⟩⟩
theorem sumU_crude (K : List GSt) : sumU (K.map GSt.crude) = sumU K := by unfold sumU; rw [List.map_map]; rfl
theorem nums_crude (K : List GSt) : ((K.map GSt.crude).map fun s => s.st.number) = K.map fun s => s.st.number := by rw [List.map_map]; rfl
theorem GoodG.crude {g : GEnd} : GoodG g.crude ↔ GoodG g := by
 rw [crude_eq]
 constructor
 ·intro h
  refine ⟨GoodM.crude.1 h.m, ?_, h.rise, h.here, h.there, h.blk, ?_, fun s hs => ?_, fun n hn => ?_, fun a ha => ?_, ?_, h.res⟩
  ·have := h.sum
   simp only [sumU_crude] at this
   exact this
  ·have := h.nn
   simp only [nums_crude] at this
   exact this
  ·exact GoodS.crude.1 (h.st s.crude (List.mem_map.2 ⟨s, hs, rfl⟩))
  ·obtain ⟨s, hs, e⟩ := h.cls n hn
   obtain ⟨t, ht, rfl⟩ := List.mem_map.1 hs
   exact ⟨t, ht, e⟩
  ·exact h.ans a.bare (List.mem_map.2 ⟨a, ha, rfl⟩)
  ·have := h.alen
   simpa using this
 ·intro h
  refine ⟨GoodM.crude.2 h.m, ?_, h.rise, h.here, h.there, h.blk, ?_, fun s hs => ?_, fun n hn => ?_, fun a ha => ?_, ?_, h.res⟩
  ·simp only [sumU_crude]
   exact h.sum
  ·simp only [nums_crude]
   exact h.nn
  ·obtain ⟨t, ht, rfl⟩ := List.mem_map.1 hs
   exact GoodS.crude.2 (h.st t ht)
  ·obtain ⟨s, hs, e⟩ := h.cls n hn
   exact ⟨s.crude, List.mem_map.2 ⟨s, hs, rfl⟩, e⟩
  ·obtain ⟨b, hb, rfl⟩ := List.mem_map.1 ha
   exact h.ans b hb
  ·simpa using h.alen
structure CalmG (g : GEnd) : Prop where
 st : ∀ s ∈ g.K, s.st.announced = true ∧ s.st.sentAll = false ∧ s.st.shut = false ∧ s.st.last = false ∧ s.wa = [] ∧ (s.st.reset = 0 ∨ s.st.reset = 2)
 res : g.res = []
 first : g.m.begun = false → g.K = [] ∧ g.m.bstream = 0
 their : ∀ s ∈ g.K, opensB g.m.first s.st.number = false
 told : g.m.told = false
 out : g.out = []
 next : 1 ≤ g.m.next ∧ g.m.next ≤ 2 ∧ opensB g.m.first g.m.next = true
theorem CalmG.crude {g : GEnd} : CalmG g.crude ↔ CalmG g := by
 rw [crude_eq]
 constructor
 ·intro h
  refine ⟨fun s hs => h.st s.crude (List.mem_map.2 ⟨s, hs, rfl⟩), h.res, fun hb => ?_, fun s hs => h.their s.crude (List.mem_map.2 ⟨s, hs, rfl⟩), h.told, h.out, h.next⟩
  obtain ⟨h1, h2⟩ := h.first hb
  exact ⟨List.map_eq_nil_iff.1 h1, h2⟩
 ·intro h
  refine ⟨fun s hs => ?_, h.res, fun hb => ?_, fun s hs => ?_, h.told, h.out, h.next⟩
  ·obtain ⟨t, ht, rfl⟩ := List.mem_map.1 hs
   exact h.st t ht
  ·obtain ⟨h1, h2⟩ := h.first hb
   exact ⟨by show g.K.map GSt.crude = []; rw [h1]; rfl, h2⟩
  ·obtain ⟨t, ht, rfl⟩ := List.mem_map.1 hs
   exact h.their t ht
structure OkG (g : GEnd) : Prop where
 good : GoodG g
 calm : CalmG g
theorem OkG.crude {g : GEnd} : OkG g.crude ↔ OkG g := ⟨fun h => ⟨GoodG.crude.1 h.good, CalmG.crude.1 h.calm⟩, fun h => ⟨GoodG.crude.2 h.good, CalmG.crude.2 h.calm⟩⟩
theorem OkG.of_bare {X Y : GX} (h : OkG X.g) (e : X.bare = Y.bare) : OkG Y.g := by
 have e1 : X.g.crude = Y.g.crude := congrArg GX.g e
 exact OkG.crude.1 (by rw [← e1]; exact OkG.crude.2 h)
structure KeepM (m m' : EndM) : Prop where
 first : m'.first = m.first
 told : m'.told = m.told
 next : m'.next = m.next
theorem CalmG.onM {g : GEnd} (h : CalmG g) {m' : EndM} (h1 : m'.begun = false → g.m.begun = false ∧ m'.bstream = g.m.bstream) (hk : KeepM g.m m') : CalmG { g with m := m' } := by
 refine ⟨h.st, h.res, fun hb => ⟨(h.first (h1 hb).1).1, (h1 hb).2.trans (h.first (h1 hb).1).2⟩, ?_, hk.told.trans h.told, h.out, ?_⟩
 ·show ∀ s ∈ g.K, opensB m'.first s.st.number = false
  rw [hk.first]; exact h.their
 ·show 1 ≤ m'.next ∧ m'.next ≤ 2 ∧ opensB m'.first m'.next = true
  rw [hk.first, hk.next]; exact h.next
theorem counted_begun (m : EndM) (n : Int) : (m.counted n).begun = m.begun := by
 unfold EndM.counted
 split
 ·rfl
 ·split <;> rfl
theorem counted_keepM (m : EndM) (n : Int) : KeepM m (m.counted n) := by
 unfold EndM.counted
 split
 ·exact ⟨rfl, rfl, rfl⟩
 ·split <;> exact ⟨rfl, rfl, rfl⟩
theorem answd_keepM (m : EndM) (n : Nat) : KeepM m (m.answd n) := by
 unfold EndM.answd
 split
 ·split
  ·split <;> exact ⟨rfl, rfl, rfl⟩
  ·exact ⟨rfl, rfl, rfl⟩
 ·exact ⟨rfl, rfl, rfl⟩
theorem calm_upd {g : GEnd} {n : Int} {f : GSt → GSt} (h : CalmG g) (m' : EndM) (L' : List Int) (hb : m'.begun = true) (hk : KeepM g.m m') (hf : ∀ s ∈ g.K, (f s).st.number = s.st.number ∧ (f s).st.announced = true ∧ (f s).st.sentAll = false ∧ (f s).st.shut = false ∧ (f s).st.last = false ∧ (f s).wa = [] ∧ ((f s).st.reset = 0 ∨ (f s).st.reset = 2)) : CalmG { g with m := m', K := updN n f g.K, L := L' } := by
 refine ⟨fun s hs => ?_, h.res, fun hb' => ?_, fun s hs => ?_, hk.told.trans h.told, h.out, ?_⟩
 ·obtain ⟨t, ht, ⟨e, rfl⟩ | ⟨e, rfl⟩⟩ := mem_updN hs
  ·exact (hf t ht).2
  ·exact h.st _ ht
 ·have hb' : m'.begun = false := hb'
  rw [hb] at hb'; cases hb'
 ·show opensB m'.first s.st.number = false
  rw [hk.first]
  obtain ⟨t, ht, ⟨e, rfl⟩ | ⟨e, rfl⟩⟩ := mem_updN hs
  ·rw [(hf t ht).1]; exact h.their t ht
  ·exact h.their _ ht
 ·show 1 ≤ m'.next ∧ m'.next ≤ 2 ∧ opensB m'.first m'.next = true
  rw [hk.first, hk.next]; exact h.next
theorem calm_come {X Y : GX} {f : Fr} (h : CalmG X.g) (hG : GoodG X.g) (hz : f.kind = 7 → f.stream = 0 → opensB X.g.m.first f.stream = false) (hr : X.come f = .inl Y) : CalmG Y.g ∨ Y.g.m.fault ≠ 0 := by
 unfold GX.come at hr
 by_cases ht : X.g.m.turn (decide (f.kind = 3) && !hasB f.flags 1) (if f.kind = 7 then f.stream else 0) = false
 ·rw [if_pos ht] at hr; cases hr
 rw [if_neg ht] at hr
 have hb : CalmG X.begin.g := ⟨h.st, h.res, (fun e => by cases e), h.their, h.told, h.out, h.next⟩
 have piece : ∀ {n bl l0 l la}, opensB X.g.m.first n = false → X.begin.comePiece n bl l0 l la = .inl Y → CalmG Y.g := fun {n bl l0 l la} hop hr => by
  unfold GX.comePiece at hr
  split at hr
  ·cases hr
  split at hr
  ·simp only [Sum.inl.injEq] at hr
   subst hr
   exact ⟨h.st, h.res, (fun e => by cases e), h.their, h.told, h.out, h.next⟩
  ·cases hu : (Up.mk X.begin.ul X.begin.ut X.begin.um).unpack (l0 ++ l) with
   | none => rw [hu] at hr; cases hr
   | some r =>
    obtain ⟨hs, lim, tab⟩ := r
    rw [hu] at hr
    simp only [Sum.inl.injEq] at hr
    subst hr
    refine ⟨fun s hs => ?_, h.res, (fun e => by cases e), fun s hs => ?_, h.told, h.out, h.next⟩
    ·rcases List.mem_append.1 hs with e | e
     ·exact h.st s e
     ·rw [List.mem_singleton] at e
      subst e
      simp [StM.fresh]
    ·rcases List.mem_append.1 hs with e | e
     ·exact h.their s e
     ·rw [List.mem_singleton] at e
      subst e
      exact hop
 by_cases k0 : f.kind = 0
 ·rw [if_pos k0] at hr
  unfold GX.comeData at hr
  cases ht : X.begin.g.told? f.stream with
  | none => rw [ht] at hr; cases hr
  | some s =>
   rw [ht] at hr
   simp only at hr
   split at hr
   ·cases hr
   split at hr
   ·cases hr
   split at hr
   ·simp only [Sum.inl.injEq] at hr
    subst hr
    have hk := counted_keepM ({ X.begin.g.m with receive := X.begin.g.m.receive - f.body.length } : EndM) (f.body.length : Int)
    refine Or.inl (hb.onM (fun e => ?_) ⟨hk.first, hk.told, hk.next⟩)
    have e : (X.begin.g.m.got_ f.body.length).begun = false := e
    unfold EndM.got_ at e
    rw [counted_begun] at e
    cases e
   ·simp only [Sum.inl.injEq] at hr
    subst hr
    have hk := counted_keepM ({ X.begin.g.m with receive := X.begin.g.m.receive - f.body.length } : EndM) (f.body.length : Int)
    refine Or.inl (calm_upd hb _ _ ?_ ⟨hk.first, hk.told, hk.next⟩ fun x hx => ⟨rfl, h.st x hx⟩)
    show (X.begin.g.m.got_ f.body.length).begun = true
    unfold EndM.got_
    rw [counted_begun]
    rfl
 rw [if_neg k0] at hr
 by_cases k1 : f.kind = 1
 ·rw [if_pos k1] at hr
  unfold GX.comeHeaders at hr
  split at hr
  ·cases hr
  ·rename_i hx
   refine Or.inl (piece ?_ hr)
   have : ¬ (opensB X.g.m.first f.stream = true) := fun e => hx (Or.inl e)
   simpa using this
 rw [if_neg k1] at hr
 by_cases k2 : f.kind = 2
 ·rw [if_pos k2] at hr
  unfold GX.comeReset at hr
  cases ht : X.begin.g.told? f.stream with
  | none => rw [ht] at hr; cases hr
  | some s =>
   rw [ht] at hr
   simp only at hr
   split at hr
   ·simp only [Sum.inl.injEq] at hr
    subst hr; exact Or.inl hb
   ·simp only [Sum.inl.injEq] at hr
    subst hr
    refine Or.inl (calm_upd hb _ _ rfl ⟨rfl, rfl, rfl⟩ fun x hx => ?_)
    obtain ⟨a1, a2, a3, a4, a5, a6⟩ := h.st x hx
    exact ⟨rfl, a1, a2, a3, a4, rfl, Or.inr rfl⟩
 rw [if_neg k2] at hr
 by_cases k3 : f.kind = 3
 ·rw [if_pos k3] at hr
  unfold GX.comeSettings at hr
  split at hr
  ·split at hr
   ·simp only [Sum.inl.injEq] at hr
    subst hr
    exact Or.inl (hb.onM (fun e => by cases e) ⟨rfl, rfl, rfl⟩)
   ·cases hr
  split at hr
  ·cases hr
  split at hr
  ·cases hr
  simp only [Sum.inl.injEq] at hr
  subst hr
  exact Or.inl ⟨h.st, h.res, (fun e => by cases e), h.their, h.told, h.out, h.next⟩
 rw [if_neg k3] at hr
 by_cases k4 : f.kind = 4
 ·rw [if_pos k4] at hr
  unfold GX.comePing at hr
  split at hr
  ·simp only [Sum.inl.injEq] at hr
   subst hr
   have hk := answd_keepM X.begin.g.m (num4 f.body).toNat
   refine Or.inl (hb.onM (fun e => ?_) ⟨hk.first, hk.told, hk.next⟩)
   have e1 : (X.begin.g.m.answd (num4 f.body).toNat).begun = false := e
   have e2 : (X.begin.g.m.answd (num4 f.body).toNat).begun = true := by
    unfold EndM.answd
    split
    ·split
     ·split <;> rfl
     ·rfl
    ·rfl
   rw [e2] at e1; cases e1
  split at hr
  ·cases hr
  simp only [Sum.inl.injEq] at hr
  subst hr
  exact Or.inl ⟨h.st, h.res, (fun e => by cases e), h.their, h.told, h.out, h.next⟩
 rw [if_neg k4] at hr
 by_cases k5 : f.kind = 5
 ·rw [if_pos k5] at hr
  simp only [Sum.inl.injEq] at hr
  subst hr
  exact Or.inr (by show (7 : Int) ≠ 0; omega)
 rw [if_neg k5] at hr
 by_cases k6 : f.kind = 6
 ·rw [if_pos k6] at hr
  unfold GX.comeCredit at hr
  split at hr
  ·split at hr
   ·cases hr
   simp only [Sum.inl.injEq] at hr
   subst hr
   exact Or.inl (hb.onM (fun e => by cases e) ⟨rfl, rfl, rfl⟩)
  ·cases ht : X.begin.g.told? f.stream with
   | none => rw [ht] at hr; cases hr
   | some s =>
    rw [ht] at hr
    simp only at hr
    split at hr
    ·simp only [Sum.inl.injEq] at hr
     subst hr; exact Or.inl hb
    split at hr
    ·cases hr
    simp only [Sum.inl.injEq] at hr
    subst hr
    exact Or.inl (calm_upd hb X.begin.g.m X.begin.g.L rfl ⟨rfl, rfl, rfl⟩ fun x hx => ⟨rfl, h.st x hx⟩)
 rw [if_neg k6] at hr
 by_cases k7 : f.kind = 7
 ·rw [if_pos k7] at hr
  have ht2 : f.stream = X.g.m.bstream := by
   rw [if_pos k7] at ht
   unfold EndM.turn at ht
   simp at ht
   exact ht.2
  by_cases h0 : X.g.m.bstream = 0
  ·refine Or.inl (piece ?_ hr)
   exact hz k7 (by rw [ht2, h0])
  ·refine Or.inl (piece ?_ hr)
   rw [ht2]
   exact (hG.blk h0).1
 ·rw [if_neg k7] at hr
  simp only [Sum.inl.injEq] at hr
  subst hr
  exact Or.inl hb
theorem calm_byte {X Y : GX} {c : UInt8} (h : CalmG X.g) (hG : GoodG X.g) (hg : Got X.g.got) (hr : X.byte c = .inl Y) : CalmG Y.g ∨ Y.g.m.fault ≠ 0 := by
 unfold GX.byte at hr
 split at hr
 ·split at hr
  ·simp only [Sum.inl.injEq] at hr
   subst hr
   exact Or.inl (h.onM (fun e => ⟨e, rfl⟩) ⟨rfl, rfl, rfl⟩)
  ·cases hr
 ·cases hs : step X.g.got c with
  | inl x =>
   cases x with
   | inl l =>
    rw [hs] at hr
    simp only [Sum.inl.injEq] at hr
    subst hr
    exact Or.inl ⟨h.st, h.res, h.first, h.their, h.told, h.out, h.next⟩
   | inr f =>
    rw [hs] at hr
    have hf := step_ok hg hs
    exact calm_come (X := X.to { X.g with got := [] }) ⟨h.st, h.res, h.first, h.their, h.told, h.out, h.next⟩ ⟨hG.m, hG.sum, hG.rise, hG.here, hG.there, hG.blk, hG.nn, hG.st, hG.cls, hG.ans, hG.alen, hG.res⟩ (fun k7 k0 => by have := (hf.pos (by omega)).1; omega) hr
  | inr code => rw [hs] at hr; cases hr
theorem ok_byte {X Y : GX} {c : UInt8} (h : OkG X.g) (hg : Got X.g.got) (hr : X.byte c = .inl Y) : OkG Y.g ∨ Y.g.m.fault ≠ 0 := by
 rcases good_byte h.good hg hr with a | a
 ·rcases calm_byte h.calm h.good hg hr with b | b
  ·exact Or.inl ⟨a, b⟩
  ·exact Or.inr b
 ·exact Or.inr a
theorem come_got {X Y : GX} {f : Fr} (hg : X.g.got = []) (hr : X.come f = .inl Y) : Y.g.got = [] := by
 unfold GX.come at hr
 by_cases ht : X.g.m.turn (decide (f.kind = 3) && !hasB f.flags 1) (if f.kind = 7 then f.stream else 0) = false
 ·rw [if_pos ht] at hr; cases hr
 rw [if_neg ht] at hr
 have piece : ∀ {n bl l0 l la}, X.begin.comePiece n bl l0 l la = .inl Y → Y.g.got = [] := fun {n bl l0 l la} hr => by
  unfold GX.comePiece at hr
  split at hr
  ·cases hr
  split at hr
  ·simp only [Sum.inl.injEq] at hr
   subst hr
   exact hg
  ·cases hu : (Up.mk X.begin.ul X.begin.ut X.begin.um).unpack (l0 ++ l) with
   | none => rw [hu] at hr; cases hr
   | some r =>
    obtain ⟨hs, lim, tab⟩ := r
    rw [hu] at hr
    simp only [Sum.inl.injEq] at hr
    subst hr
    exact hg
 by_cases k0 : f.kind = 0
 ·rw [if_pos k0] at hr
  unfold GX.comeData at hr
  cases ht : X.begin.g.told? f.stream with
  | none => rw [ht] at hr; cases hr
  | some s =>
   rw [ht] at hr
   simp only at hr
   repeat' split at hr
   all_goals first
    | (cases hr; done)
    | (simp only [Sum.inl.injEq] at hr; subst hr; exact hg)
 rw [if_neg k0] at hr
 by_cases k1 : f.kind = 1
 ·rw [if_pos k1] at hr
  unfold GX.comeHeaders at hr
  split at hr
  ·cases hr
  ·exact piece hr
 rw [if_neg k1] at hr
 by_cases k2 : f.kind = 2
 ·rw [if_pos k2] at hr
  unfold GX.comeReset at hr
  cases ht : X.begin.g.told? f.stream with
  | none => rw [ht] at hr; cases hr
  | some s =>
   rw [ht] at hr
   simp only at hr
   repeat' split at hr
   all_goals (simp only [Sum.inl.injEq] at hr; subst hr; exact hg)
 rw [if_neg k2] at hr
 by_cases k3 : f.kind = 3
 ·rw [if_pos k3] at hr
  unfold GX.comeSettings at hr
  repeat' split at hr
  all_goals first
   | (cases hr; done)
   | (simp only [Sum.inl.injEq] at hr; subst hr; exact hg)
 rw [if_neg k3] at hr
 by_cases k4 : f.kind = 4
 ·rw [if_pos k4] at hr
  unfold GX.comePing at hr
  repeat' split at hr
  all_goals first
   | (cases hr; done)
   | (simp only [Sum.inl.injEq] at hr; subst hr; exact hg)
 rw [if_neg k4] at hr
 by_cases k5 : f.kind = 5
 ·rw [if_pos k5] at hr
  simp only [Sum.inl.injEq] at hr
  subst hr
  rfl
 rw [if_neg k5] at hr
 by_cases k6 : f.kind = 6
 ·rw [if_pos k6] at hr
  unfold GX.comeCredit at hr
  split at hr
  ·split at hr
   ·cases hr
   simp only [Sum.inl.injEq] at hr
   subst hr
   exact hg
  ·cases ht : X.begin.g.told? f.stream with
   | none => rw [ht] at hr; cases hr
   | some s =>
    rw [ht] at hr
    simp only at hr
    repeat' split at hr
    all_goals first
     | (cases hr; done)
     | (simp only [Sum.inl.injEq] at hr; subst hr; exact hg)
 rw [if_neg k6] at hr
 by_cases k7 : f.kind = 7
 ·rw [if_pos k7] at hr
  exact piece hr
 ·rw [if_neg k7] at hr
  simp only [Sum.inl.injEq] at hr
  subst hr
  exact hg
end
end Go.Proofs.YtdccldbefdfppaaGreatDoor
