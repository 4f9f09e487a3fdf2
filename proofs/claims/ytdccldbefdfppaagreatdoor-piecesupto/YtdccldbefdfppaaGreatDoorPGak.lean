import Derived.Test.YtdccldbefdfppaaGreatDoorPGaj
import Derived.Test.YtdccldbefdfppaaGreatDoorPGai
set_option linter.unusedVariables false
set_option linter.unusedSimpArgs false
namespace Go.Proofs.YtdccldbefdfppaaGreatDoor
open Go.RowKit
section
def RowAt (w : World) (e : TypeId) (size : Nat) (v : Value) (n : Nat) (xs : List Value) : Prop :=
 xs.length = n * size ∧ ((v = .slice none 0 0 ∧ n = 0) ∨ ∃ g o cap cur, v = .slice (some ⟨g, o, none⟩) n cap ∧ w.heap[g]? = some (.cells cur e (0, 0)) ∧ n ≤ cap ∧ cap ≤ maxLen ∧ o + cap * size ≤ cur.size ∧ (cur.toList.drop o).take (n * size) = xs)
theorem RowAt.of_owns {w : World} {e : TypeId} {size n : Nat} {v : Value} {xs : List Value} (h : w.ownsRow 0 e size v n xs) : RowAt w e size v n xs := by
 refine ⟨h.1, ?_⟩
 rcases h.2 with h1 | ⟨g, cap, cur, h1, h2, h3, h4, h5, h6, h7⟩
 ·exact Or.inl h1
 ·exact Or.inr ⟨g, 0, cap, cur, h1, h3, h4, h5, by rw [h6, Nat.zero_add]; exact Nat.le_refl _, by rw [List.drop_zero]; exact h7⟩
theorem RowAt.lt {w : World} {e : TypeId} {size n : Nat} {v : Value} {xs : List Value} (h : RowAt w e size v n xs) {j : Nat} (hj : v.ownBlock = some j) : j < w.heap.size := by
 rcases h.2 with ⟨h1, -⟩ | ⟨g, o, cap, cur, h1, h3, -⟩
 ·subst h1; simp [Value.ownBlock] at hj
 ·subst h1; simp [Value.ownBlock] at hj; subst hj; exact lt_of_block h3
theorem RowAt.chg {S : Nat → Prop} {w w' : World} {e : TypeId} {size n : Nat} {v : Value} {xs : List Value} (h : RowAt w e size v n xs) (hc : Chg S w w') (hs : ∀ j, v.ownBlock = some j → ¬ S j) : RowAt w' e size v n xs := by
 refine ⟨h.1, ?_⟩
 rcases h.2 with h1 | ⟨g, o, cap, cur, h1, h3, h4⟩
 ·exact Or.inl h1
 ·exact Or.inr ⟨g, o, cap, cur, h1, by rw [hc.block g (lt_of_block h3) (hs g (by subst h1; rfl))]; exact h3, h4⟩
theorem RowAt.ne {w : World} {e e' : TypeId} {size n b : Nat} {v : Value} {xs : List Value} {cs : Array Value} {fr : Nat × Nat} (h : RowAt w e size v n xs) (hb : w.heap[b]? = some (.cells cs e' fr)) (hne : e ≠ e') : v.ownBlock ≠ some b := by
 intro hj
 rcases h.2 with ⟨h1, -⟩ | ⟨g, o, cap, cur, h1, h3, -⟩
 ·subst h1; simp [Value.ownBlock] at hj
 ·subst h1; simp [Value.ownBlock] at hj; subst hj; rw [hb] at h3; simp only [Option.some.injEq, Obj.cells.injEq] at h3; exact hne h3.2.1.symm
structure GSt where
 sb : Nat
 st : StM
 un : List UInt8
 wa : List UInt8
def noSt : GSt := ⟨0, ⟨0, 0, 0, 0, .slice none 0 0, false, false, false, false, false, 0, .slice none 0 0, .slice none 0 0⟩, [], []⟩
def GSt.str (s : GSt) : Str := (s.sb, s.st)
def atN (K : List GSt) (n : Int) : GSt := (K.find? fun s => s.st.number == n).getD noSt
def openS (K : List GSt) (L : List Int) : List Str := L.map fun n => (atN K n).str
structure Ans where
 kind : Int
 flags : Int
 body : List UInt8
 bv : Value
def Ans.cells (a : Ans) : List Value := [.int .i64 a.kind, .int .i64 a.flags, .int .i64 0, a.bv]
structure GEnd where
 m : EndM
 K : List GSt
 L : List Int
 out : List UInt8
 got : List UInt8
 ans : List Ans
 res : List Int
structure ApartE (T : Nat → Nat) (m : EndM) (K : List GSt) (A : List Ans) : Prop where
 out : ∀ j, m.out.ownBlock = some j → T j = 0
 got : ∀ j, m.got.ownBlock = some j → T j = 1
 un : ∀ p ∈ K, ∀ j, p.st.unread.ownBlock = some j → T j = 3 + 2 * p.sb
 wa : ∀ p ∈ K, ∀ j, p.st.waiting.ownBlock = some j → T j = 4 + 2 * p.sb
 an : ∀ a ∈ A, ∀ j, a.bv.ownBlock = some j → T j = 2
structure Inv (w : World) (eb mb : Nat) (g : GEnd) : Prop where
 en : EnB w eb g.m
 kn : KnownS w mb (g.K.map GSt.str)
 km : g.m.known = .map (some mb)
 nd : (g.K.map GSt.sb).Nodup
 nn : (g.K.map fun s => s.st.number).Nodup
 ln : g.L.Nodup
 has : ∀ n ∈ g.L, ∃ s ∈ g.K, s.st.number = n
 row : w.ownsRow 0 124 1 g.m.opn g.L.length (opnCells (openS g.K g.L))
 out : w.ownsRow 0 5 1 g.m.out g.out.length (g.out.map B)
 got : w.ownsRow 0 5 1 g.m.got g.got.length (g.got.map B)
 un : ∀ p ∈ g.K, w.ownsRow 0 5 1 p.st.unread p.un.length (p.un.map B)
 wa : ∀ p ∈ g.K, w.ownsRow 0 5 1 p.st.waiting p.wa.length (p.wa.map B)
 ans : RowAt w 48 4 g.m.answers g.ans.length (g.ans.flatMap Ans.cells)
 anb : ∀ a ∈ g.ans, w.ownsRow 0 5 1 a.bv a.body.length (a.body.map B)
 res : RowAt w 3 1 g.m.resets g.res.length (g.res.map fun i => .int .i64 i)
 ap : ∃ T, ApartE T g.m g.K g.ans
def Foot (eb mb : Nat) (g : GEnd) (j : Nat) : Prop := j = eb ∨ j = mb ∨ g.m.out.ownBlock = some j ∨ g.m.got.ownBlock = some j ∨ g.m.opn.ownBlock = some j ∨ g.m.answers.ownBlock = some j ∨ g.m.resets.ownBlock = some j ∨ (∃ a ∈ g.ans, a.bv.ownBlock = some j) ∨ ∃ p ∈ g.K, j = p.sb ∨ p.st.unread.ownBlock = some j ∨ p.st.waiting.ownBlock = some j
structure Next (w w' : World) (eb mb : Nat) (g g' : GEnd) : Prop where
 inv : Inv w' eb mb g'
 chg : Chg (Foot eb mb g) w w'
 grow : ∀ j, Foot eb mb g' j → Foot eb mb g j ∨ w.heap.size ≤ j
theorem find_nd {α : Type} (f : α → Int) : ∀ {K : List α}, (K.map f).Nodup → ∀ {s : α}, s ∈ K → K.find? (fun x => f x == f s) = some s
 | [], _, _, h => by cases h
 | x :: r, hn, s, hs => by
  rw [List.map_cons, List.nodup_cons] at hn
  rw [List.find?_cons]
  rcases List.mem_cons.1 hs with rfl | h
  ·simp
  ·have : f x ≠ f s := fun e => hn.1 (by rw [e]; exact List.mem_map.2 ⟨s, h, rfl⟩)
   simp only [beq_eq_false_iff_ne.2 this]
   exact find_nd f hn.2 h
theorem atN_mem {K : List GSt} (hn : (K.map fun s => s.st.number).Nodup) {s : GSt} (h : s ∈ K) : atN K s.st.number = s := by
 unfold atN
 rw [find_nd (fun s : GSt => s.st.number) hn h]
 rfl
theorem findK_str (K : List GSt) (n : Int) : findK (K.map GSt.str) n = (K.find? fun s => s.st.number == n).map GSt.str := by
 unfold findK
 induction K with
 | nil => rfl
 | cons x r ih =>
  rw [List.map_cons, List.find?_cons, List.find?_cons]
  show (match x.st.number == n with | true => _ | false => _) = _
  cases x.st.number == n
  ·exact ih
  ·rfl
theorem openS_length (K : List GSt) (L : List Int) : (openS K L).length = L.length := by simp [openS]
section
variable {w w' w'' : World} {eb mb : Nat} {g g' g'' : GEnd}
theorem Inv.st (h : Inv w eb mb g) {p : GSt} (hp : p ∈ g.K) : StB w p.sb p.st := h.kn.st p.str (List.mem_map.2 ⟨p, hp, rfl⟩)
theorem Inv.at (h : Inv w eb mb g) {n : Int} (hn : n ∈ g.L) : atN g.K n ∈ g.K ∧ (atN g.K n).st.number = n := by
 obtain ⟨s, hs, rfl⟩ := h.has n hn
 rw [atN_mem h.nn hs]
 exact ⟨hs, rfl⟩
theorem Inv.open (h : Inv w eb mb g) : OpenS w g.m.opn (openS g.K g.L) := ⟨by rw [openS_length]; exact h.row, fun p hp => by
 obtain ⟨n, hn, rfl⟩ := List.mem_map.1 hp
 exact h.st (h.at hn).1⟩
theorem block_ne {w : World} {a b : Nat} {cs cs' : Array Value} {t t' : TypeId} {f f' : Nat × Nat} (h : w.heap[a]? = some (.cells cs t f)) (h' : w.heap[b]? = some (.cells cs' t' f')) (hne : t ≠ t') : a ≠ b := fun e => by
 rw [e, h'] at h
 simp only [Option.some.injEq, Obj.cells.injEq] at h
 exact hne h.2.1.symm
theorem map_ne {w : World} {a b : Nat} {es : Array MapEntry} {c : Nat} {cs' : Array Value} {t' : TypeId} {f' : Nat × Nat} (h : w.heap[a]? = some (.map es c)) (h' : w.heap[b]? = some (.cells cs' t' f')) : a ≠ b := fun e => by
 rw [e, h'] at h
 cases h
theorem KnownS.ne_cells {mb b : Nat} {K : List Str} {cs : Array Value} {t : TypeId} {f : Nat × Nat} (h : KnownS w mb K) (h' : w.heap[b]? = some (.cells cs t f)) : mb ≠ b := by
 obtain ⟨es, c, hb, -⟩ := h.blk
 exact map_ne hb h'
theorem owns_mb {mb n e sz : Nat} {K : List Str} {v : Value} {xs : List Value} (h : KnownS w mb K) (h' : w.ownsRow 0 e sz v n xs) : v.ownBlock ≠ some mb := by
 intro hj
 rcases h'.2 with ⟨h1, -⟩ | ⟨g, cap, cur, h1, h2, h3, -⟩
 ·subst h1; simp [Value.ownBlock] at hj
 ·subst h1; simp [Value.ownBlock] at hj; exact h.ne_cells h3 hj.symm
theorem rowAt_mb {mb n e sz : Nat} {K : List Str} {v : Value} {xs : List Value} (h : KnownS w mb K) (h' : RowAt w e sz v n xs) : v.ownBlock ≠ some mb := by
 intro hj
 rcases h'.2 with ⟨h1, -⟩ | ⟨g, o, cap, cur, h1, h3, -⟩
 ·subst h1; simp [Value.ownBlock] at hj
 ·subst h1; simp [Value.ownBlock] at hj; exact h.ne_cells h3 hj.symm
theorem Inv.eb_mb (h : Inv w eb mb g) : mb ≠ eb := h.kn.ne_cells h.en.blk
theorem Inv.st_eb (h : Inv w eb mb g) {p : GSt} (hp : p ∈ g.K) : p.sb ≠ eb := block_ne (h.st hp).blk h.en.blk (by decide)
theorem Inv.st_mb (h : Inv w eb mb g) {p : GSt} (hp : p ∈ g.K) : mb ≠ p.sb := h.kn.ne_cells (h.st hp).blk
theorem rows_ne2 {e e' sz sz' n n' : Nat} {v v' : Value} {xs xs' : List Value} (h : w.ownsRow 0 e sz v n xs) (h' : RowAt w e' sz' v' n' xs') (hne : e ≠ e') {k : Nat} (hk : v.ownBlock = some k) : v'.ownBlock ≠ some k := by
 intro hk'
 rcases h.2 with ⟨h1, -⟩ | ⟨g, cap, cur, h1, h2, h3, -⟩
 ·subst h1; simp [Value.ownBlock] at hk
 ·subst h1; simp [Value.ownBlock] at hk; subst hk; exact h'.ne h3 (fun e => hne e.symm) hk'
theorem rows_ne3 {e e' sz sz' n n' : Nat} {v v' : Value} {xs xs' : List Value} (h : RowAt w e sz v n xs) (h' : RowAt w e' sz' v' n' xs') (hne : e ≠ e') {k : Nat} (hk : v.ownBlock = some k) : v'.ownBlock ≠ some k := by
 intro hk'
 rcases h.2 with ⟨h1, -⟩ | ⟨g, o, cap, cur, h1, h3, -⟩
 ·subst h1; simp [Value.ownBlock] at hk
 ·subst h1; simp [Value.ownBlock] at hk; subst hk; exact h'.ne h3 (fun e => hne e.symm) hk'
theorem Inv.chg {S : Nat → Prop} (h : Inv w eb mb g) (hc : Chg S w w') (hs : ∀ j, Foot eb mb g j → ¬ S j) : Inv w' eb mb g where
 en := h.en.chg hc (hs _ (Or.inl rfl))
 kn := h.kn.chg hc (hs _ (Or.inr (Or.inl rfl))) (fun p hp => by
  obtain ⟨q, hq, rfl⟩ := List.mem_map.1 hp
  exact hs _ (Or.inr (Or.inr (Or.inr (Or.inr (Or.inr (Or.inr (Or.inr (Or.inr ⟨q, hq, Or.inl rfl⟩)))))))))
 km := h.km
 nd := h.nd
 nn := h.nn
 ln := h.ln
 has := h.has
 row := owns_chg h.row hc (fun j hj => hs j (by unfold Foot; simp [hj]))
 out := owns_chg h.out hc (fun j hj => hs j (by unfold Foot; simp [hj]))
 got := owns_chg h.got hc (fun j hj => hs j (by unfold Foot; simp [hj]))
 un := fun p hp => owns_chg (h.un p hp) hc (fun j hj => hs j (by unfold Foot; exact Or.inr (Or.inr (Or.inr (Or.inr (Or.inr (Or.inr (Or.inr (Or.inr ⟨p, hp, Or.inr (Or.inl hj)⟩)))))))))
 wa := fun p hp => owns_chg (h.wa p hp) hc (fun j hj => hs j (by unfold Foot; exact Or.inr (Or.inr (Or.inr (Or.inr (Or.inr (Or.inr (Or.inr (Or.inr ⟨p, hp, Or.inr (Or.inr hj)⟩)))))))))
 ans := h.ans.chg hc (fun j hj => hs j (by unfold Foot; simp [hj]))
 anb := fun a ha => owns_chg (h.anb a ha) hc (fun j hj => hs j (Or.inr (Or.inr (Or.inr (Or.inr (Or.inr (Or.inr (Or.inr (Or.inl ⟨a, ha, hj⟩)))))))))
 res := h.res.chg hc (fun j hj => hs j (by unfold Foot; simp [hj]))
 ap := h.ap
theorem Inv.below (h : Inv w eb mb g) (hb : Below w.heap.size w w') : Inv w' eb mb g := h.chg (Chg.of_below (S := fun _ => False) hb) (fun _ _ => id)
theorem Foot.lt (h : Inv w eb mb g) {j : Nat} (hj : Foot eb mb g j) : j < w.heap.size := by
 rcases hj with e | e | e | e | e | e | e | ⟨a, ha, e⟩ | ⟨p, hp, e | e | e⟩
 ·rw [e]; exact h.en.lt
 ·rw [e]; exact h.kn.lt
 ·exact owns_lt h.out e
 ·exact owns_lt h.got e
 ·exact owns_lt h.row e
 ·exact h.ans.lt e
 ·exact h.res.lt e
 ·exact owns_lt (h.anb a ha) e
 ·rw [e]; exact (h.st hp).lt
 ·exact owns_lt (h.un p hp) e
 ·exact owns_lt (h.wa p hp) e
theorem Next.refl (h : Inv w eb mb g) : Next w w eb mb g g := ⟨h, Chg.refl _ _, fun _ hj => Or.inl hj⟩
theorem Next.of_below (h : Inv w eb mb g) (hb : Below w.heap.size w w') : Next w w' eb mb g g := ⟨h.below hb, Chg.of_below hb, fun _ hj => Or.inl hj⟩
theorem Next.trans (h : Next w w' eb mb g g') (h' : Next w' w'' eb mb g' g'') : Next w w'' eb mb g g'' where
 inv := h'.inv
 chg := h.chg.trans (h'.chg.mono fun j _ hj => (h.grow j hj).symm)
 grow := fun j hj => by
  rcases h'.grow j hj with a | a
  ·exact h.grow j a
  ·exact Or.inr (Nat.le_trans h.chg.size a)
theorem Next.pre (h : Next w' w'' eb mb g g') (hb : Below w.heap.size w w') : Next w w'' eb mb g g' where
 inv := h.inv
 chg := (Chg.of_below hb).trans (h.chg.mono fun j _ hj => Or.inr hj)
 grow := fun j hj => (h.grow j hj).imp_right fun a => Nat.le_trans hb.size a
theorem Next.then_below (h : Next w w' eb mb g g') (hb : Below w'.heap.size w' w'') : Next w w'' eb mb g g' := h.trans (Next.of_below h.inv hb)
theorem Next.bytes (h : Next w w' eb mb g g') {bv : Value} {l : List UInt8} (hb : BytesIn w bv l) (hn : ∀ j, bv.ownBlock = some j → ¬ Foot eb mb g j) : BytesIn w' bv l ∧ ∀ j, bv.ownBlock = some j → ¬ Foot eb mb g' j := by
 refine ⟨hb.chg h.chg hn, fun j hj hf => ?_⟩
 rcases h.grow j hf with a | a
 ·exact hn j hj a
 ·have := hb.lt hj; omega
theorem Inv.apart (h : Inv w eb mb g) (tg : Nat → Nat) (m' : EndM) (K' : List GSt) (A' : List Ans) (ho : ∀ j, m'.out.ownBlock = some j → g.m.out.ownBlock = some j ∨ (w.heap.size ≤ j ∧ tg j = 0)) (hg : ∀ j, m'.got.ownBlock = some j → g.m.got.ownBlock = some j ∨ (w.heap.size ≤ j ∧ tg j = 1))
  (hu : ∀ p ∈ K', ∀ j, p.st.unread.ownBlock = some j → (∃ q ∈ g.K, q.sb = p.sb ∧ q.st.unread.ownBlock = some j) ∨ (w.heap.size ≤ j ∧ tg j = 3 + 2 * p.sb))
  (hw : ∀ p ∈ K', ∀ j, p.st.waiting.ownBlock = some j → (∃ q ∈ g.K, q.sb = p.sb ∧ q.st.waiting.ownBlock = some j) ∨ (w.heap.size ≤ j ∧ tg j = 4 + 2 * p.sb))
  (ha : ∀ a ∈ A', ∀ j, a.bv.ownBlock = some j → (∃ b ∈ g.ans, b.bv.ownBlock = some j) ∨ (w.heap.size ≤ j ∧ tg j = 2)) : ∃ T, ApartE T m' K' A' := by
 obtain ⟨T, hT⟩ := h.ap
 refine ⟨fun j => if j < w.heap.size then T j else tg j, ⟨?_, ?_, ?_, ?_, ?_⟩⟩
 ·intro j hj
  rcases ho j hj with a | ⟨a, b⟩
  ·simp only [owns_lt h.out a, if_true]; exact hT.out j a
  ·simp only [Nat.not_lt.2 a, if_false]; exact b
 ·intro j hj
  rcases hg j hj with a | ⟨a, b⟩
  ·simp only [owns_lt h.got a, if_true]; exact hT.got j a
  ·simp only [Nat.not_lt.2 a, if_false]; exact b
 ·intro p hp j hj
  rcases hu p hp j hj with ⟨q, hq, e, a⟩ | ⟨a, b⟩
  ·simp only [owns_lt (h.un q hq) a, if_true]; rw [← e]; exact hT.un q hq j a
  ·simp only [Nat.not_lt.2 a, if_false]; exact b
 ·intro p hp j hj
  rcases hw p hp j hj with ⟨q, hq, e, a⟩ | ⟨a, b⟩
  ·simp only [owns_lt (h.wa q hq) a, if_true]; rw [← e]; exact hT.wa q hq j a
  ·simp only [Nat.not_lt.2 a, if_false]; exact b
 ·intro c hc j hj
  rcases ha c hc j hj with ⟨q, hq, a⟩ | ⟨a, b⟩
  ·simp only [owns_lt (h.anb q hq) a, if_true]; exact hT.an q hq j a
  ·simp only [Nat.not_lt.2 a, if_false]; exact b
theorem Inv.out_got (h : Inv w eb mb g) {j : Nat} (hj : g.m.out.ownBlock = some j) : g.m.got.ownBlock ≠ some j := fun e => by
 obtain ⟨T, hT⟩ := h.ap
 have := hT.out j hj; have := hT.got j e; omega
theorem Inv.out_un (h : Inv w eb mb g) {p : GSt} (hp : p ∈ g.K) {j : Nat} (hj : p.st.unread.ownBlock = some j) : g.m.out.ownBlock ≠ some j := fun e => by
 obtain ⟨T, hT⟩ := h.ap
 have := hT.out j e; have := hT.un p hp j hj; omega
theorem Inv.out_wa (h : Inv w eb mb g) {p : GSt} (hp : p ∈ g.K) {j : Nat} (hj : p.st.waiting.ownBlock = some j) : g.m.out.ownBlock ≠ some j := fun e => by
 obtain ⟨T, hT⟩ := h.ap
 have := hT.out j e; have := hT.wa p hp j hj; omega
theorem Inv.got_un (h : Inv w eb mb g) {p : GSt} (hp : p ∈ g.K) {j : Nat} (hj : p.st.unread.ownBlock = some j) : g.m.got.ownBlock ≠ some j := fun e => by
 obtain ⟨T, hT⟩ := h.ap
 have := hT.got j e; have := hT.un p hp j hj; omega
theorem Inv.got_wa (h : Inv w eb mb g) {p : GSt} (hp : p ∈ g.K) {j : Nat} (hj : p.st.waiting.ownBlock = some j) : g.m.got.ownBlock ≠ some j := fun e => by
 obtain ⟨T, hT⟩ := h.ap
 have := hT.got j e; have := hT.wa p hp j hj; omega
theorem Inv.un_wa (h : Inv w eb mb g) {p q : GSt} (hp : p ∈ g.K) (hq : q ∈ g.K) {j : Nat} (hj : p.st.unread.ownBlock = some j) : q.st.waiting.ownBlock ≠ some j := fun e => by
 obtain ⟨T, hT⟩ := h.ap
 have := hT.un p hp j hj; have := hT.wa q hq j e; omega
theorem Inv.un_un (h : Inv w eb mb g) {p q : GSt} (hp : p ∈ g.K) (hq : q ∈ g.K) (hne : p.sb ≠ q.sb) {j : Nat} (hj : p.st.unread.ownBlock = some j) : q.st.unread.ownBlock ≠ some j := fun e => by
 obtain ⟨T, hT⟩ := h.ap
 have := hT.un p hp j hj; have := hT.un q hq j e; omega
theorem Inv.wa_wa (h : Inv w eb mb g) {p q : GSt} (hp : p ∈ g.K) (hq : q ∈ g.K) (hne : p.sb ≠ q.sb) {j : Nat} (hj : p.st.waiting.ownBlock = some j) : q.st.waiting.ownBlock ≠ some j := fun e => by
 obtain ⟨T, hT⟩ := h.ap
 have := hT.wa p hp j hj; have := hT.wa q hq j e; omega
theorem Inv.out_an (h : Inv w eb mb g) {a : Ans} (ha : a ∈ g.ans) {j : Nat} (hj : a.bv.ownBlock = some j) : g.m.out.ownBlock ≠ some j := fun e => by
 obtain ⟨T, hT⟩ := h.ap
 have := hT.out j e; have := hT.an a ha j hj; omega
theorem Inv.got_an (h : Inv w eb mb g) {a : Ans} (ha : a ∈ g.ans) {j : Nat} (hj : a.bv.ownBlock = some j) : g.m.got.ownBlock ≠ some j := fun e => by
 obtain ⟨T, hT⟩ := h.ap
 have := hT.got j e; have := hT.an a ha j hj; omega
theorem Inv.un_an (h : Inv w eb mb g) {a : Ans} (ha : a ∈ g.ans) {j : Nat} (hj : a.bv.ownBlock = some j) {p : GSt} (hp : p ∈ g.K) : p.st.unread.ownBlock ≠ some j := fun e => by
 obtain ⟨T, hT⟩ := h.ap
 have := hT.un p hp j e; have := hT.an a ha j hj; omega
theorem Inv.wa_an (h : Inv w eb mb g) {a : Ans} (ha : a ∈ g.ans) {j : Nat} (hj : a.bv.ownBlock = some j) {p : GSt} (hp : p ∈ g.K) : p.st.waiting.ownBlock ≠ some j := fun e => by
 obtain ⟨T, hT⟩ := h.ap
 have := hT.wa p hp j e; have := hT.an a ha j hj; omega
theorem inj_nd {α β : Type} (f : α → β) : ∀ {K : List α}, (K.map f).Nodup → ∀ {s t : α}, s ∈ K → t ∈ K → f s = f t → s = t
 | [], _, _, _, h, _, _ => by cases h
 | x :: r, hn, s, t, hs, ht, e => by
  rw [List.map_cons, List.nodup_cons] at hn
  rcases List.mem_cons.1 hs with rfl | h1
  ·rcases List.mem_cons.1 ht with rfl | h2
   ·rfl
   ·exact absurd (List.mem_map.2 ⟨t, h2, e.symm⟩) hn.1
  ·rcases List.mem_cons.1 ht with rfl | h2
   ·exact absurd (List.mem_map.2 ⟨s, h1, e⟩) hn.1
   ·exact inj_nd f hn.2 h1 h2 e
theorem Inv.same (h : Inv w eb mb g) {p q : GSt} (hp : p ∈ g.K) (hq : q ∈ g.K) (he : p.sb = q.sb) : p = q := inj_nd GSt.sb h.nd hp hq he
theorem Inv.foot_st (h : Inv w eb mb g) {p : GSt} (hp : p ∈ g.K) : Foot eb mb g p.sb := Or.inr (Or.inr (Or.inr (Or.inr (Or.inr (Or.inr (Or.inr (Or.inr ⟨p, hp, Or.inl rfl⟩)))))))
theorem foot_un {p : GSt} (hp : p ∈ g.K) {j : Nat} (hj : p.st.unread.ownBlock = some j) : Foot eb mb g j := Or.inr (Or.inr (Or.inr (Or.inr (Or.inr (Or.inr (Or.inr (Or.inr ⟨p, hp, Or.inr (Or.inl hj)⟩)))))))
theorem foot_wa {p : GSt} (hp : p ∈ g.K) {j : Nat} (hj : p.st.waiting.ownBlock = some j) : Foot eb mb g j := Or.inr (Or.inr (Or.inr (Or.inr (Or.inr (Or.inr (Or.inr (Or.inr ⟨p, hp, Or.inr (Or.inr hj)⟩)))))))
theorem Inv.onEnd {S : Nat → Prop} {m' : EndM} {o' : List UInt8} {A' : List Ans} {R' : List Int} (h : Inv w eb mb g) (hc : Chg S w w') (hs : ∀ j, S j → j = eb ∨ g.m.out.ownBlock = some j) (hen : EnB w' eb m') (hk : m'.known = g.m.known) (hp : m'.opn = g.m.opn) (hg : m'.got = g.m.got) (ho : w'.ownsRow 0 5 1 m'.out o'.length (o'.map B)) (hfr : ∀ j, m'.out.ownBlock = some j → g.m.out.ownBlock = some j ∨ w.heap.size ≤ j)
  (ha : RowAt w 48 4 m'.answers A'.length (A'.flatMap Ans.cells)) (haa : ∀ a ∈ A', a ∈ g.ans) (hab : ∀ j, m'.answers.ownBlock = some j → g.m.answers.ownBlock = some j) (hr : RowAt w 3 1 m'.resets R'.length (R'.map fun i => .int .i64 i)) (hrb : ∀ j, m'.resets.ownBlock = some j → g.m.resets.ownBlock = some j) :
  Next w w' eb mb g { g with m := m', out := o', ans := A', res := R' } where
 inv := {
  en := hen
  kn := h.kn.chg hc (fun e => by
   rcases hs _ e with a | a
   ·exact h.eb_mb a
   ·exact owns_mb h.kn h.out a) (fun p hp' e => by
   obtain ⟨q, hq, rfl⟩ := List.mem_map.1 hp'
   rcases hs _ e with a | a
   ·exact h.st_eb hq a
   ·exact owns_ne h.out (h.st hq).blk (by decide) a)
  km := by rw [hk]; exact h.km
  nd := h.nd
  nn := h.nn
  ln := h.ln
  has := h.has
  row := by
   rw [hp]
   refine owns_chg h.row hc (fun j hj e => ?_)
   rcases hs _ e with a | a
   ·rw [a] at hj; exact owns_ne h.row h.en.blk (by decide) hj
   ·exact rows_ne h.out h.row (by decide) a hj
  out := ho
  got := by
   rw [hg]
   refine owns_chg h.got hc (fun j hj e => ?_)
   rcases hs _ e with a | a
   ·rw [a] at hj; exact owns_ne h.got h.en.blk (by decide) hj
   ·exact h.out_got a hj
  un := fun p hp' => owns_chg (h.un p hp') hc (fun j hj e => by
   rcases hs _ e with a | a
   ·rw [a] at hj; exact owns_ne (h.un p hp') h.en.blk (by decide) hj
   ·exact h.out_un hp' hj a)
  wa := fun p hp' => owns_chg (h.wa p hp') hc (fun j hj e => by
   rcases hs _ e with a | a
   ·rw [a] at hj; exact owns_ne (h.wa p hp') h.en.blk (by decide) hj
   ·exact h.out_wa hp' hj a)
  ans := ha.chg hc (fun j hj e => by
   rcases hs _ e with a | a
   ·rw [a] at hj; exact ha.ne h.en.blk (by decide) hj
   ·exact rows_ne2 h.out ha (by decide) a hj)
  anb := fun a ha' => owns_chg (h.anb a (haa a ha')) hc (fun j hj e => by
   rcases hs _ e with b | b
   ·rw [b] at hj; exact owns_ne (h.anb a (haa a ha')) h.en.blk (by decide) hj
   ·exact h.out_an (haa a ha') hj b)
  res := hr.chg hc (fun j hj e => by
   rcases hs _ e with a | a
   ·rw [a] at hj; exact hr.ne h.en.blk (by decide) hj
   ·exact rows_ne2 h.out hr (by decide) a hj)
  ap := h.apart (fun _ => 0) m' g.K A' (fun j hj => (hfr j hj).imp_right fun a => ⟨a, rfl⟩) (fun j hj => Or.inl (by rw [← hg]; exact hj)) (fun p hp' j hj => Or.inl ⟨p, hp', rfl, hj⟩) (fun p hp' j hj => Or.inl ⟨p, hp', rfl, hj⟩) (fun a ha' j hj => Or.inl ⟨a, haa a ha', hj⟩) }
 chg := hc.mono fun j _ e => by
  rcases hs _ e with a | a
  ·exact Or.inl a
  ·exact Or.inr (Or.inr (Or.inl a))
 grow := fun j hj => by
  unfold Foot at hj ⊢
  rcases hj with e | e | e | e | e | e | e | ⟨a, ha', e⟩ | e
  ·simp [e]
  ·simp [e]
  ·rcases hfr j e with a | a
   ·simp [a]
   ·exact Or.inr a
  ·simp only [hg] at e; simp [e]
  ·simp only [hp] at e; simp [e]
  ·simp [hab j e]
  ·simp [hrb j e]
  ·exact Or.inl (Or.inr (Or.inr (Or.inr (Or.inr (Or.inr (Or.inr (Or.inr (Or.inl ⟨a, haa a ha', e⟩))))))))
  ·exact Or.inl (Or.inr (Or.inr (Or.inr (Or.inr (Or.inr (Or.inr (Or.inr (Or.inr e))))))))
end
end
section
def nilV (v : Value) : Value := match v with
 | .slice none _ _ => .slice none 0 0
 | _ => .tuple #[]
def EndM.bare (m : EndM) : EndM := { m with known := .slice none 0 0, opn := .slice none 0 0, got := .slice none 0 0, hlen := 0, hkind := 0, hflags := 0, hstream := 0, out := .slice none 0 0, answers := nilV m.answers, resets := nilV m.resets }
def StM.bare (s : StM) : StM := { s with unread := .slice none 0 0, waiting := .slice none 0 0 }
def GSt.bare (s : GSt) : GSt := ⟨0, s.st.bare, s.un, s.wa⟩
def Ans.bare (a : Ans) : Ans := { a with bv := .slice none 0 0 }
def GEnd.bare (g : GEnd) : GEnd := ⟨g.m.bare, g.K.map GSt.bare, g.L, g.out, g.got, g.ans.map Ans.bare, g.res⟩
def updN (n : Int) (f : GSt → GSt) (K : List GSt) : List GSt := K.map fun s => if s.st.number = n then f s else s
theorem atN_bare (K : List GSt) (n : Int) : atN (K.map GSt.bare) n = (atN K n).bare := by
 unfold atN
 induction K with
 | nil => rfl
 | cons s r ih =>
  rw [List.map_cons, List.find?_cons, List.find?_cons]
  show ((match s.st.number == n with | true => some s.bare | false => _).getD noSt) = _
  cases s.st.number == n
  ·exact ih
  ·rfl
theorem updN_bare (n : Int) (f : GSt → GSt) (hf : ∀ s, (f s).bare = f s.bare) (K : List GSt) : (updN n f K).map GSt.bare = updN n f (K.map GSt.bare) := by
 unfold updN
 rw [List.map_map, List.map_map]
 apply List.map_congr_left
 intro s _
 show (if s.st.number = n then f s else s).bare = if s.st.number = n then f s.bare else s.bare
 split
 ·exact hf s
 ·rfl
theorem updN_const {n : Int} {f : GSt → GSt} {K : List GSt} (hn : (K.map fun s => s.st.number).Nodup) {s : GSt} (hs : s ∈ K) (he : s.st.number = n) : updN n (fun _ => f s) K = updN n f K := by
 unfold updN
 apply List.map_congr_left
 intro x hx
 by_cases e : x.st.number = n
 ·rw [if_pos e, if_pos e, inj_nd (fun s : GSt => s.st.number) hn hs hx (by simp only [he, e])]
 ·rw [if_neg e, if_neg e]
def firstDueN (m : EndM) (K : List GSt) : List Int → Option Int
 | [] => none
 | n :: r => if m.dueS (atN K n).st then some n else firstDueN m K r
theorem firstDue_openS (m : EndM) (K : List GSt) : ∀ L : List Int, firstDue m (openS K L) = (firstDueN m K L).map fun n => (atN K n).str
 | [] => rfl
 | n :: r => by
  show (if m.dueS (atN K n).st then some (atN K n).str else firstDue m (openS K r)) = _
  rw [firstDue_openS m K r, firstDueN]
  split <;> rfl
theorem firstDueN_mem {m : EndM} {K : List GSt} : ∀ {L : List Int} {n : Int}, firstDueN m K L = some n → n ∈ L
 | [], _, h => by cases h
 | k :: r, n, h => by
  rw [firstDueN] at h
  split at h
  ·injection h with h; rw [h]; exact List.mem_cons_self
  ·exact List.mem_cons_of_mem _ (firstDueN_mem h)
theorem firstDueN_bare (m : EndM) (K : List GSt) : ∀ L : List Int, firstDueN m.bare (K.map GSt.bare) L = firstDueN m K L
 | [] => rfl
 | n :: r => by
  rw [firstDueN, firstDueN, atN_bare, firstDueN_bare m K r]
  rfl
def GSt.granted (s : GSt) : GSt := { s with st := s.st.granted }
def GEnd.oFirst (g : GEnd) : Option GEnd := if g.m.told then none else some { g with m := g.m.setd, out := g.out ++ lay 3 0 0 (four4 g.m.wanted.toNat) }
def GEnd.oAnswer (g : GEnd) : Option GEnd := match g.ans with
 | [] => none
 | a :: r => some { g with ans := r, out := g.out ++ lay a.kind a.flags 0 a.body }
def GEnd.oSettings (g : GEnd) : Option GEnd := if (g.m.waits || g.m.wanted == g.m.made) then none else some { g with m := g.m.setd, out := g.out ++ lay 3 0 0 (four4 g.m.wanted.toNat) }
def GEnd.oPing (g : GEnd) : Option GEnd := if (g.m.under && !g.m.pinged) then some { g with m := g.m.pingd, out := g.out ++ lay 4 0 0 (four4 g.m.pnum) } else none
def GEnd.oCredit (g : GEnd) : Option GEnd := if dueB g.m.owed g.m.receive g.m.batch then some { g with m := g.m.granted, out := g.out ++ lay 6 0 0 (four4 g.m.owed.toNat) } else none
def GEnd.oStream (g : GEnd) : Option GEnd := (firstDueN g.m g.K g.L).map fun n => { g with K := updN n GSt.granted g.K, out := g.out ++ lay 6 0 n (four4 (atN g.K n).st.owed.toNat) }
def GEnd.oReset (g : GEnd) : Option GEnd := match g.res with
 | [] => none
 | n :: r => some { g with res := r, out := g.out ++ lay 2 0 n [0] }
def GEnd.next (g : GEnd) : Option GEnd := g.oFirst.or (g.oAnswer.or (g.oSettings.or (g.oPing.or (g.oCredit.or (g.oStream.or g.oReset)))))
theorem or_map {α β : Type} (f : α → β) (a b : Option α) : (a.or b).map f = (a.map f).or (b.map f) := by cases a <;> rfl
theorem next_bare (g : GEnd) : g.next.map GEnd.bare = g.bare.next := by
 have h1 : g.oFirst.map GEnd.bare = g.bare.oFirst := by
  unfold GEnd.oFirst
  rw [show g.bare.m.told = g.m.told from rfl]
  cases g.m.told <;> rfl
 have h2 : g.oAnswer.map GEnd.bare = g.bare.oAnswer := by
  unfold GEnd.oAnswer
  rw [show g.bare.ans = g.ans.map Ans.bare from rfl]
  cases g.ans <;> rfl
 have h3 : g.oSettings.map GEnd.bare = g.bare.oSettings := by
  unfold GEnd.oSettings
  rw [show (g.bare.m.waits || g.bare.m.wanted == g.bare.m.made) = (g.m.waits || g.m.wanted == g.m.made) from rfl]
  cases (g.m.waits || g.m.wanted == g.m.made) <;> rfl
 have h4 : g.oPing.map GEnd.bare = g.bare.oPing := by
  unfold GEnd.oPing
  rw [show (g.bare.m.under && !g.bare.m.pinged) = (g.m.under && !g.m.pinged) from rfl]
  cases (g.m.under && !g.m.pinged) <;> rfl
 have h5 : g.oCredit.map GEnd.bare = g.bare.oCredit := by
  unfold GEnd.oCredit
  rw [show dueB g.bare.m.owed g.bare.m.receive g.bare.m.batch = dueB g.m.owed g.m.receive g.m.batch from rfl]
  cases dueB g.m.owed g.m.receive g.m.batch <;> rfl
 have h6 : g.oStream.map GEnd.bare = g.bare.oStream := by
  unfold GEnd.oStream
  rw [show firstDueN g.bare.m g.bare.K g.bare.L = firstDueN g.m g.K g.L from firstDueN_bare _ _ _]
  cases firstDueN g.m g.K g.L with
  | none => rfl
  | some n =>
   simp only [Option.map_some]
   unfold GEnd.bare
   simp only [atN_bare, updN_bare n GSt.granted (fun s => rfl)]
   rfl
 have h7 : g.oReset.map GEnd.bare = g.bare.oReset := by
  unfold GEnd.oReset
  rw [show g.bare.res = g.res from rfl]
  cases g.res <;> rfl
 unfold GEnd.next
 simp only [or_map, h1, h2, h3, h4, h5, h6, h7]
structure FineB (g : GEnd) : Prop where
 greets : g.m.greets = false
 wanted : 0 ≤ g.m.wanted ∧ g.m.wanted ≤ 1000
 owed : 0 ≤ g.m.owed ∧ g.m.owed ≤ 4294967295
 receive : -1099511627776 ≤ g.m.receive ∧ g.m.receive + g.m.owed ≤ 1099511627776
 pnum : g.m.pnum < 4294967296
 own : -1099511627776 ≤ g.m.own ∧ g.m.own ≤ 1099511627776
 other : -1099511627776 ≤ g.m.other ∧ g.m.other ≤ 1099511627776
 ans : ∀ a ∈ g.ans, 0 ≤ a.kind ∧ a.kind ≤ 255 ∧ 0 ≤ a.flags ∧ a.flags ≤ 255 ∧ a.body.length ≤ 64
 res : ∀ n ∈ g.res, 0 ≤ n ∧ n ≤ 32767
 st : ∀ s ∈ g.K, (-1099511627776 ≤ s.st.receive ∧ s.st.receive + s.st.owed ≤ 1099511627776) ∧ (0 ≤ s.st.owed ∧ s.st.owed ≤ 4294967295) ∧ (0 ≤ s.st.number ∧ s.st.number ≤ 32767) ∧ (-1099511627776 ≤ s.st.send ∧ s.st.send ≤ 1099511627776)
 few : g.L.length ≤ 1048576
structure Fine (g : GEnd) : Prop where
 greets : g.m.greets = false
 wanted : 0 ≤ g.m.wanted ∧ g.m.wanted ≤ 1000
 owed : 0 ≤ g.m.owed ∧ g.m.owed ≤ 4294967295
 receive : -1099511627776 ≤ g.m.receive ∧ g.m.receive + g.m.owed ≤ 1099511627776
 pnum : g.m.pnum < 4294967296
 own : -1099511627776 ≤ g.m.own ∧ g.m.own ≤ 1099511627776
 other : -1099511627776 ≤ g.m.other ∧ g.m.other ≤ 1099511627776
 ans : ∀ a ∈ g.ans, 0 ≤ a.kind ∧ a.kind ≤ 255 ∧ 0 ≤ a.flags ∧ a.flags ≤ 255 ∧ a.body.length ≤ 64
 res : ∀ n ∈ g.res, 0 ≤ n ∧ n ≤ 32767
 st : ∀ s ∈ g.K, (-1099511627776 ≤ s.st.receive ∧ s.st.receive + s.st.owed ≤ 1099511627776) ∧ (0 ≤ s.st.owed ∧ s.st.owed ≤ 4294967295) ∧ (0 ≤ s.st.number ∧ s.st.number ≤ 32767) ∧ (-1099511627776 ≤ s.st.send ∧ s.st.send ≤ 1099511627776) ∧ s.st.announced = true ∧ g.m.hasD s.st s.wa.length = false
 few : g.L.length ≤ 1048576
theorem Fine.toB {g : GEnd} (h : Fine g) : FineB g where
 greets := h.greets
 wanted := h.wanted
 owed := h.owed
 receive := h.receive
 pnum := h.pnum
 own := h.own
 other := h.other
 ans := h.ans
 res := h.res
 st := fun s hs => ⟨(h.st s hs).1, (h.st s hs).2.1, (h.st s hs).2.2.1, (h.st s hs).2.2.2.1⟩
 few := h.few
theorem Fine.bare {g : GEnd} (h : Fine g) : Fine g.bare where
 greets := h.greets
 wanted := h.wanted
 owed := h.owed
 receive := h.receive
 pnum := h.pnum
 own := h.own
 other := h.other
 ans := fun a ha => by obtain ⟨b, hb, rfl⟩ := List.mem_map.1 ha; exact h.ans b hb
 res := h.res
 st := fun s hs => by obtain ⟨b, hb, rfl⟩ := List.mem_map.1 hs; exact h.st b hb
 few := h.few
theorem Fine.of_bare {g : GEnd} (h : Fine g.bare) : Fine g where
 greets := h.greets
 wanted := h.wanted
 owed := h.owed
 receive := h.receive
 pnum := h.pnum
 own := h.own
 other := h.other
 ans := fun a ha => h.ans a.bare (List.mem_map.2 ⟨a, ha, rfl⟩)
 res := h.res
 st := fun s hs => h.st s.bare (List.mem_map.2 ⟨s, hs, rfl⟩)
 few := h.few
theorem or_some {α : Type} {a b : Option α} {q : α} (h : a.or b = some q) : a = some q ∨ b = some q := by
 cases a with
 | none => exact Or.inr (by simpa using h)
 | some x => exact Or.inl (by simpa using h)
theorem Fine.next {g q : GEnd} (h : Fine g) (hn : g.next = some q) : Fine q := by
 rcases or_some hn with hn | hn
 ·unfold GEnd.oFirst at hn
  split at hn
  ·cases hn
  ·injection hn with hn; subst hn
   exact ⟨h.greets, h.wanted, h.owed, h.receive, h.pnum, h.own, h.other, h.ans, h.res, h.st, h.few⟩
 rcases or_some hn with hn | hn
 ·unfold GEnd.oAnswer at hn
  split at hn
  ·cases hn
  ·rename_i a r ha
   injection hn with hn; subst hn
   exact ⟨h.greets, h.wanted, h.owed, h.receive, h.pnum, h.own, h.other, fun b hb => h.ans b (by rw [ha]; exact List.mem_cons_of_mem _ hb), h.res, h.st, h.few⟩
 rcases or_some hn with hn | hn
 ·unfold GEnd.oSettings at hn
  split at hn
  ·cases hn
  ·injection hn with hn; subst hn
   exact ⟨h.greets, h.wanted, h.owed, h.receive, h.pnum, h.own, h.other, h.ans, h.res, h.st, h.few⟩
 rcases or_some hn with hn | hn
 ·unfold GEnd.oPing at hn
  split at hn
  ·injection hn with hn; subst hn
   exact ⟨h.greets, h.wanted, h.owed, h.receive, h.pnum, h.own, h.other, h.ans, h.res, h.st, h.few⟩
  ·cases hn
 rcases or_some hn with hn | hn
 ·unfold GEnd.oCredit at hn
  split at hn
  ·injection hn with hn; subst hn
   have h1 := h.owed; have h2 := h.receive
   exact ⟨h.greets, h.wanted, ⟨by show (0 : Int) ≤ 0; omega, by show (0 : Int) ≤ _; omega⟩, ⟨by show _ ≤ g.m.receive + g.m.owed; omega, by show g.m.receive + g.m.owed + 0 ≤ _; omega⟩, h.pnum, h.own, h.other, h.ans, h.res, h.st, h.few⟩
  ·cases hn
 rcases or_some hn with hn | hn
 ·unfold GEnd.oStream at hn
  cases hd : firstDueN g.m g.K g.L with
  | none => rw [hd] at hn; cases hn
  | some n =>
   rw [hd, Option.map_some] at hn
   injection hn with hn; subst hn
   refine ⟨h.greets, h.wanted, h.owed, h.receive, h.pnum, h.own, h.other, h.ans, h.res, ?_, h.few⟩
   intro s hs
   obtain ⟨b, hb, rfl⟩ := List.mem_map.1 hs
   have hq := h.st b hb
   by_cases e : b.st.number = n
   ·simp only [e, if_true]
    obtain ⟨q1, q2, q3, q4, q5, q6⟩ := hq
    exact ⟨⟨by show _ ≤ b.st.receive + b.st.owed; omega, by show b.st.receive + b.st.owed + 0 ≤ _; omega⟩, ⟨by show (0 : Int) ≤ 0; omega, by show (0 : Int) ≤ _; omega⟩, q3, q4, q5, q6⟩
   ·simp only [e, if_false]
    exact hq
 ·unfold GEnd.oReset at hn
  split at hn
  ·cases hn
  ·rename_i n r hr
   injection hn with hn; subst hn
   exact ⟨h.greets, h.wanted, h.owed, h.receive, h.pnum, h.own, h.other, h.ans, fun b hb => h.res b (by rw [hr]; exact List.mem_cons_of_mem _ hb), h.st, h.few⟩
end
section
section
variable {w w' : World} {eb mb : Nat} {g : GEnd}
theorem Inv.put {m' : EndM} {new : List UInt8} {v : Value} (h : Inv w eb mb g) (h1 : m'.known = g.m.known) (h2 : m'.opn = g.m.opn) (h3 : m'.got = g.m.got) (h4 : m'.out = g.m.out) (h5 : m'.answers = g.m.answers) (h6 : m'.resets = g.m.resets) (hp : Put w w' eb m' g.out new v) :
  Next w w' eb mb g { g with m := { m' with out := v }, out := g.out ++ new } := by
 have hc := hp.chg
 rw [h4] at hc
 exact h.onEnd (S := fun j => j = eb ∨ g.m.out.ownBlock = some j) hc (fun j e => e) hp.b h1 h2 h3 hp.row (fun j hj => by have := hp.fresh j hj; rw [h4] at this; exact this) (by rw [show ({ m' with out := v } : EndM).answers = m'.answers from rfl, h5]; exact h.ans) (fun a ha => ha) (fun j hj => by rw [← h5]; exact hj) (by rw [show ({ m' with out := v } : EndM).resets = m'.resets from rfl, h6]; exact h.res) (fun j hj => by rw [← h6]; exact hj)
theorem upd_nums {n : Int} {f : GSt → GSt} {K : List GSt} (hf : ∀ s ∈ K, s.st.number = n → (f s).st.number = n) : ((updN n f K).map fun s => s.st.number) = K.map fun s => s.st.number := by
 unfold updN
 rw [List.map_map]
 apply List.map_congr_left
 intro s hs
 show (if s.st.number = n then f s else s).st.number = _
 split
 ·rename_i e; rw [hf s hs e, e]
 ·rfl
theorem upd_sbs {n : Int} {f : GSt → GSt} {K : List GSt} (hf : ∀ s ∈ K, s.st.number = n → (f s).sb = s.sb) : (updN n f K).map GSt.sb = K.map GSt.sb := by
 unfold updN
 rw [List.map_map]
 apply List.map_congr_left
 intro s hs
 show (if s.st.number = n then f s else s).sb = _
 split
 ·rename_i e; exact hf s hs e
 ·rfl
theorem mem_upd {n : Int} {f : GSt → GSt} {K : List GSt} {x : GSt} : x ∈ updN n f K ↔ ∃ s ∈ K, (if s.st.number = n then f s else s) = x := List.mem_map
theorem atN_upd {n : Int} {f : GSt → GSt} {K : List GSt} (hn : (K.map fun s => s.st.number).Nodup) (hf : ∀ s ∈ K, s.st.number = n → (f s).st.number = n) {x : GSt} (hx : x ∈ K) : atN (updN n f K) x.st.number = if x.st.number = n then f x else x := by
 have h1 : ((updN n f K).map fun s => s.st.number).Nodup := by rw [upd_nums hf]; exact hn
 have h2 := atN_mem h1 (mem_upd.2 ⟨x, hx, rfl⟩)
 have h3 : (if x.st.number = n then f x else x).st.number = x.st.number := by
  split
  ·rename_i e; rw [hf x hx e, e]
  ·rfl
 rw [h3] at h2
 exact h2
theorem Inv.onSt {S : Nat → Prop} {m' : EndM} {s s' : GSt} {L' : List Int} {o' : List UInt8} (tg : Nat) (h : Inv w eb mb g) (hs : s ∈ g.K) (hc : Chg S w w') (hS : ∀ j, S j → j = eb ∨ j = s.sb ∨ g.m.opn.ownBlock = some j ∨ g.m.out.ownBlock = some j ∨ s.st.unread.ownBlock = some j ∨ s.st.waiting.ownBlock = some j)
  (hen : EnB w' eb m') (hst : StB w' s.sb s'.st) (hsb : s'.sb = s.sb) (hnum : s'.st.number = s.st.number) (hk : m'.known = g.m.known) (hgot : m'.got = g.m.got) (hans : m'.answers = g.m.answers) (hres : m'.resets = g.m.resets)
  (hrow : w'.ownsRow 0 124 1 m'.opn L'.length (opnCells (openS g.K L'))) (hrb : ∀ j, m'.opn.ownBlock = some j → g.m.opn.ownBlock = some j ∨ w.heap.size ≤ j) (hL : L'.Sublist g.L)
  (ho : w'.ownsRow 0 5 1 m'.out o'.length (o'.map B)) (hob : ∀ j, m'.out.ownBlock = some j → g.m.out.ownBlock = some j ∨ (w.heap.size ≤ j ∧ tg = 0))
  (hu : w'.ownsRow 0 5 1 s'.st.unread s'.un.length (s'.un.map B)) (hub : ∀ j, s'.st.unread.ownBlock = some j → s.st.unread.ownBlock = some j ∨ (w.heap.size ≤ j ∧ tg = 3 + 2 * s.sb))
  (hw : w'.ownsRow 0 5 1 s'.st.waiting s'.wa.length (s'.wa.map B)) (hwb : ∀ j, s'.st.waiting.ownBlock = some j → s.st.waiting.ownBlock = some j ∨ (w.heap.size ≤ j ∧ tg = 4 + 2 * s.sb)) :
  Next w w' eb mb g { g with m := m', K := updN s.st.number (fun _ => s') g.K, L := L', out := o' } := by
 have heq : ∀ x ∈ g.K, x.st.number = s.st.number → x = s := fun x hx e => by rw [← atN_mem h.nn hx, e, atN_mem h.nn hs]
 have hf : ∀ x ∈ g.K, x.st.number = s.st.number → ((fun _ => s') x : GSt).st.number = s.st.number := fun x hx e => hnum
 have hfb : ∀ x ∈ g.K, x.st.number = s.st.number → ((fun _ => s') x : GSt).sb = x.sb := fun x hx e => by rw [heq x hx e]; exact hsb
 have hx : ∀ x ∈ g.K, x.st.number ≠ s.st.number → x.sb ≠ s.sb := fun x hx e e' => e (by rw [h.same hx hs e'])
 have hmem : ∀ y ∈ updN s.st.number (fun _ => s') g.K, y = s' ∨ (y ∈ g.K ∧ y.sb ≠ s.sb) := fun y hy => by
  obtain ⟨x, hxk, e⟩ := mem_upd.1 hy
  by_cases e2 : x.st.number = s.st.number
  ·rw [if_pos e2] at e; exact Or.inl e.symm
  ·rw [if_neg e2] at e; subst e; exact Or.inr ⟨hxk, hx x hxk e2⟩
 have neb : ∀ j, ¬ S j ∨ S j := fun j => (Classical.em (S j)).symm
 refine ⟨⟨hen, ⟨?_, ?_⟩, by rw [hk]; exact h.km, by rw [upd_sbs hfb]; exact h.nd, by rw [upd_nums hf]; exact h.nn, h.ln.sublist hL, ?_, ?_, ho, ?_, ?_, ?_, ?_, ?_, ?_, ?_⟩, ?_, ?_⟩
 ·obtain ⟨es, clock, hb, he, hbn⟩ := h.kn.blk
  refine ⟨es, clock, ?_, ?_, hbn⟩
  ·rw [hc.block mb h.kn.lt (fun e => ?_)]
   ·exact hb
   ·rcases hS _ e with a | a | a | a | a | a
    ·exact h.eb_mb a
    ·exact h.st_mb hs a
    ·exact owns_mb h.kn h.row a
    ·exact owns_mb h.kn h.out a
    ·exact owns_mb h.kn (h.un s hs) a
    ·exact owns_mb h.kn (h.wa s hs) a
  ·rw [he, List.map_map, List.map_map]
   unfold updN
   rw [List.map_map]
   apply List.map_congr_left
   intro x hxk
   show knownE x.str = knownE (if x.st.number = s.st.number then s' else x).str
   split
   ·rename_i e
    rw [heq x hxk e]
    unfold knownE GSt.str
    simp only [hsb, hnum]
   ·rfl
 ·intro p hp
  obtain ⟨y, hy, rfl⟩ := List.mem_map.1 hp
  rcases hmem y hy with rfl | ⟨hyk, hyne⟩
  ·show StB w' y.sb y.st
   rw [hsb]; exact hst
  ·refine (h.st hyk).chg hc (fun e => ?_)
   rcases hS _ e with a | a | a | a | a | a
   ·exact h.st_eb hyk a
   ·exact hyne a
   ·exact owns_ne h.row (h.st hyk).blk (by decide) a
   ·exact owns_ne h.out (h.st hyk).blk (by decide) a
   ·exact owns_ne (h.un s hs) (h.st hyk).blk (by decide) a
   ·exact owns_ne (h.wa s hs) (h.st hyk).blk (by decide) a
 ·intro n hn
  obtain ⟨x, hxk, e⟩ := h.has n (hL.subset hn)
  refine ⟨_, mem_upd.2 ⟨x, hxk, rfl⟩, ?_⟩
  split
  ·rename_i e2; rw [hnum, ← e2, e]
  ·exact e
 ·have e : opnCells (openS (updN s.st.number (fun _ => s') g.K) L') = opnCells (openS g.K L') := by
   unfold opnCells openS
   rw [List.map_map, List.map_map]
   apply List.map_congr_left
   intro n hn
   obtain ⟨x, hxk, e⟩ := h.has n (hL.subset hn)
   subst e
   show Value.pointer (some ⟨(atN (updN s.st.number (fun _ => s') g.K) x.st.number).sb, 0, none⟩) = Value.pointer (some ⟨(atN g.K x.st.number).sb, 0, none⟩)
   rw [atN_upd h.nn hf hxk, atN_mem h.nn hxk]
   split
   ·rename_i e2; rw [heq x hxk e2, hsb]
   ·rfl
  show w'.ownsRow 0 124 1 m'.opn L'.length (opnCells (openS (updN s.st.number (fun _ => s') g.K) L'))
  rw [e]
  exact hrow
 ·show w'.ownsRow 0 5 1 m'.got _ _
  rw [hgot]
  refine owns_chg h.got hc (fun j hj e => ?_)
  rcases hS _ e with a | a | a | a | a | a
  ·rw [a] at hj; exact owns_ne h.got h.en.blk (by decide) hj
  ·rw [a] at hj; exact owns_ne h.got (h.st hs).blk (by decide) hj
  ·exact rows_ne h.got h.row (by decide) hj a
  ·exact h.out_got a hj
  ·exact h.got_un hs a hj
  ·exact h.got_wa hs a hj
 ·intro y hy
  rcases hmem y hy with rfl | ⟨hyk, hyne⟩
  ·exact hu
  ·refine owns_chg (h.un y hyk) hc (fun j hj e => ?_)
   rcases hS _ e with a | a | a | a | a | a
   ·rw [a] at hj; exact owns_ne (h.un y hyk) h.en.blk (by decide) hj
   ·rw [a] at hj; exact owns_ne (h.un y hyk) (h.st hs).blk (by decide) hj
   ·exact rows_ne (h.un y hyk) h.row (by decide) hj a
   ·exact h.out_un hyk hj a
   ·exact h.un_un hs hyk (fun e => hyne e.symm) a hj
   ·exact h.un_wa hyk hs hj a
 ·intro y hy
  rcases hmem y hy with rfl | ⟨hyk, hyne⟩
  ·exact hw
  ·refine owns_chg (h.wa y hyk) hc (fun j hj e => ?_)
   rcases hS _ e with a | a | a | a | a | a
   ·rw [a] at hj; exact owns_ne (h.wa y hyk) h.en.blk (by decide) hj
   ·rw [a] at hj; exact owns_ne (h.wa y hyk) (h.st hs).blk (by decide) hj
   ·exact rows_ne (h.wa y hyk) h.row (by decide) hj a
   ·exact h.out_wa hyk hj a
   ·exact h.un_wa hs hyk a hj
   ·exact h.wa_wa hs hyk (fun e => hyne e.symm) a hj
 ·show RowAt w' _ _ m'.answers _ _
  rw [hans]
  refine h.ans.chg hc (fun j hj e => ?_)
  rcases hS _ e with a | a | a | a | a | a
  ·rw [a] at hj; exact h.ans.ne h.en.blk (by decide) hj
  ·rw [a] at hj; exact h.ans.ne (h.st hs).blk (by decide) hj
  ·exact rows_ne2 h.row h.ans (by decide) a hj
  ·exact rows_ne2 h.out h.ans (by decide) a hj
  ·exact rows_ne2 (h.un s hs) h.ans (by decide) a hj
  ·exact rows_ne2 (h.wa s hs) h.ans (by decide) a hj
 ·intro b hb
  refine owns_chg (h.anb b hb) hc (fun j hj e => ?_)
  rcases hS _ e with a | a | a | a | a | a
  ·rw [a] at hj; exact owns_ne (h.anb b hb) h.en.blk (by decide) hj
  ·rw [a] at hj; exact owns_ne (h.anb b hb) (h.st hs).blk (by decide) hj
  ·exact rows_ne (h.anb b hb) h.row (by decide) hj a
  ·exact h.out_an hb hj a
  ·exact h.un_an hb hj hs a
  ·exact h.wa_an hb hj hs a
 ·show RowAt w' _ _ m'.resets _ _
  rw [hres]
  refine h.res.chg hc (fun j hj e => ?_)
  rcases hS _ e with a | a | a | a | a | a
  ·rw [a] at hj; exact h.res.ne h.en.blk (by decide) hj
  ·rw [a] at hj; exact h.res.ne (h.st hs).blk (by decide) hj
  ·exact rows_ne2 h.row h.res (by decide) a hj
  ·exact rows_ne2 h.out h.res (by decide) a hj
  ·exact rows_ne2 (h.un s hs) h.res (by decide) a hj
  ·exact rows_ne2 (h.wa s hs) h.res (by decide) a hj
 ·refine h.apart (fun _ => tg) m' _ g.ans hob (fun j hj => Or.inl (by rw [← hgot]; exact hj)) ?_ ?_ (fun a ha j hj => Or.inl ⟨a, ha, hj⟩)
  ·intro y hy j hj
   rcases hmem y hy with rfl | ⟨hyk, hyne⟩
   ·rcases hub j hj with a | ⟨a, b⟩
    ·exact Or.inl ⟨s, hs, hsb.symm, a⟩
    ·exact Or.inr ⟨a, by rw [hsb]; exact b⟩
   ·exact Or.inl ⟨y, hyk, rfl, hj⟩
  ·intro y hy j hj
   rcases hmem y hy with rfl | ⟨hyk, hyne⟩
   ·rcases hwb j hj with a | ⟨a, b⟩
    ·exact Or.inl ⟨s, hs, hsb.symm, a⟩
    ·exact Or.inr ⟨a, by rw [hsb]; exact b⟩
   ·exact Or.inl ⟨y, hyk, rfl, hj⟩
 ·refine hc.mono fun j _ e => ?_
  rcases hS _ e with a | a | a | a | a | a
  ·exact Or.inl a
  ·rw [a]; exact h.foot_st hs
  ·unfold Foot; simp [a]
  ·unfold Foot; simp [a]
  ·exact foot_un hs a
  ·exact foot_wa hs a
 ·intro j hj
  rcases hj with e | e | e | e | e | e | e | e | ⟨y, hy, e⟩
  ·exact Or.inl (Or.inl e)
  ·exact Or.inl (Or.inr (Or.inl e))
  ·rcases hob j e with a | a
   ·exact Or.inl (by unfold Foot; simp [a])
   ·exact Or.inr a.1
  ·simp only [hgot] at e; exact Or.inl (by unfold Foot; simp [e])
  ·rcases hrb j e with a | a
   ·exact Or.inl (by unfold Foot; simp [a])
   ·exact Or.inr a
  ·simp only [hans] at e; exact Or.inl (by unfold Foot; simp [e])
  ·simp only [hres] at e; exact Or.inl (by unfold Foot; simp [e])
  ·exact Or.inl (Or.inr (Or.inr (Or.inr (Or.inr (Or.inr (Or.inr (Or.inr (Or.inl e))))))))
  ·rcases hmem y hy with rfl | ⟨hyk, hyne⟩
   ·rcases e with e | e | e
    ·rw [hsb] at e; rw [e]; exact Or.inl (h.foot_st hs)
    ·rcases hub j e with a | a
     ·exact Or.inl (foot_un hs a)
     ·exact Or.inr a.1
    ·rcases hwb j e with a | a
     ·exact Or.inl (foot_wa hs a)
     ·exact Or.inr a.1
   ·exact Or.inl (Or.inr (Or.inr (Or.inr (Or.inr (Or.inr (Or.inr (Or.inr (Or.inr ⟨y, hyk, e⟩))))))))
end
end
section
theorem KnownS.add {w : World} {mb : Nat} {K : List Str} (h : KnownS w mb K) (n : Int) (sb : Nat) (hn : findK K n = none) : ∃ w1, (Instr.mapUpdate 78 (.map (some mb)) (.int .i64 n) (.pointer (some ⟨sb, 0, none⟩))).run Tryz.prog w = .ok () w1 ∧ Chg (fun j => j = mb) w w1 ∧ w1.heap.size = w.heap.size ∧ ∃ es clock, w1.heap[mb]? = some (.map es clock) ∧ es.toList.map (fun e => (e.key, e.val)) = K.map knownE ++ [(.int .i64 n, .pointer (some ⟨sb, 0, none⟩))] ∧ ((∀ e ∈ es.toList, e.born < clock) ∧ (es.toList.map fun e => e.born).Nodup) := by
 obtain ⟨es, clock, hb, he, hs⟩ := h.blk
 obtain ⟨r, hr, hv⟩ := find_now K n es.toList 0 he
 have hr0 : r = none := by
  rw [hn] at hv
  cases r with
  | none => rfl
  | some q => simp at hv
 subst hr0
 have hck : (Instr.checkKey false 10000 3 (.int .i64 n)).run Tryz.prog w = .ok () w := MapKept.run_checkKey (d := .int .i64) (k := .int .i64 n) Tryz.underlying3 (show IntKind.i64 = IntKind.i64 from rfl) _ _
 have hfk : (Instr.findKey 3 (.int .i64 n) es.toList).run Tryz.prog w = .ok none w := MapKept.run_findKey (d := .int .i64) Tryz.underlying3 hr
 have hsz := (Array.getElem?_eq_some_iff.1 hb).1
 refine ⟨{ w with heap := w.heap.setIfInBounds mb (.map (es.push { key := .int .i64 n, val := .pointer (some ⟨sb, 0, none⟩), born := clock }) (clock + 1)) }, ?_, ?_, ?_, _, _, (MapKept.heap_set hb).1, ?_, ?_⟩
 ·simp [Instr.mapUpdate, run_underlying Tryz.underlying78, MapKept.run_getObj_map hb, hck, hfk, MapKept.run_setObj_map _ hb, Result.andThen]
 ·exact ⟨rfl, rfl, rfl, by simp, fun k _ hk => (MapKept.heap_set hb).2 k hk⟩
 ·simp
 ·rw [Array.toList_push, List.map_append, he]
  rfl
 ·refine ⟨?_, ?_⟩
  ·intro e hm
   rw [Array.toList_push] at hm
   rcases List.mem_append.1 hm with h1 | h1
   ·exact Nat.lt_succ_of_lt (hs.1 e h1)
   ·have : e = _ := List.mem_singleton.1 h1
    rw [this]
    exact Nat.lt_succ_self _
  ·rw [Array.toList_push, List.map_append]
   refine List.nodup_append.2 ⟨hs.2, by simp, ?_⟩
   intro a ha b hb e
   obtain ⟨x, hx, rfl⟩ := List.mem_map.1 ha
   have h1 := hs.1 x hx
   have h2 : b = clock := by simpa using hb
   omega
theorem Tryz.info124 : (Tryz.prog.info? 124).map (fun i => (i.zero, i.size, i.bytes)) = some (some (.pointer none), 1, 8) := by kernel_rfl
structure AddS (w w' : World) (eb mb : Nat) (m : EndM) (K L : List Str) (sb : Nat) (st : StM) (v : Value) : Prop where
 en : EnB w' eb { m with opn := v }
 kn : KnownS w' mb (K ++ [(sb, st)])
 row : w'.ownsRow 0 124 1 v (insS (sb, st) L).length (opnCells (insS (sb, st) L))
 chg : Chg (fun j => j = eb ∨ j = mb ∨ m.opn.ownBlock = some j) w w'
 fresh : ∀ j, v.ownBlock = some j → m.opn.ownBlock = some j ∨ w.heap.size ≤ j
set_option maxRecDepth 100000 in
set_option maxHeartbeats 1600000 in
theorem sadd_any (eb mb sb : Nat) (m : EndM) (K L : List Str) (st : StM) (w : World) (h : EnB w eb m) (hm : m.known = .map (some mb)) (hK : KnownS w mb K) (ho : OpenS w m.opn L) (hs : StB w sb st) (hn : findK K st.number = none) (hup : Rise (L.map fun p => p.2.number)) (hL : L.length ≤ 11) :
  Calls Tryz.prog 62 #[.pointer (some ⟨eb, 22, none⟩), .pointer (some ⟨sb, 0, none⟩)] w fun e w' => e = .returned (.tuple #[]) ∧ ∃ v, AddS w w' eb mb m K L sb st v := by
 obtain ⟨i0, hi, hz0, hz1, hz2⟩ := info_parts Tryz.info124
 obtain ⟨so, co, hso⟩ := slice_len ho.row
 have c22 := h.c22
 rw [hm] at c22
 have c23 := h.c23
 rw [hso] at c23
 have s3 := hs.c3
 have hd : Below w.heap.size w w.drew := ⟨rfl, rfl, rfl, Nat.le_refl _, fun _ _ => rfl⟩
 obtain ⟨w1, hmu, hc1, hz1', es, clock, hb1, he1, hbn1⟩ := (hK.below hd).add st.number sb hn
 have hlt := h.lt
 have hme : mb ≠ eb := by
  obtain ⟨es', clock', hb', -⟩ := hK.blk
  intro e
  rw [e, h.blk] at hb'
  cases hb'
 have hms : mb ≠ sb := by
  obtain ⟨es', clock', hb', -⟩ := hK.blk
  intro e
  rw [e, hs.blk] at hb'
  cases hb'
 have hc1' : Chg (fun j => j = mb) w w1 := (Chg.of_below hd).trans (hc1.mono fun j _ e => Or.inr e)
 have hen1 : EnB w1 eb m := h.chg hc1' (fun e => hme e.symm)
 have hrow1 : w1.ownsRow 0 124 1 m.opn L.length (opnCells L) := owns_chg ho.row hc1' (fun j hj e => by
  obtain ⟨es', clock', hb', -⟩ := hK.blk
  subst e
  rcases ho.row.2 with ⟨h1, -⟩ | ⟨g, cap, cur, h1, h2, h3, -⟩
  ·rw [h1] at hj; simp [Value.ownBlock] at hj
  ·rw [h1] at hj; simp [Value.ownBlock] at hj; rw [hj, hb'] at h3; cases h3)
 have d23 : w1.cell? ⟨eb, 23, none⟩ = some (.slice so L.length co) := by rw [hen1.c23, hso]
 have hz1w : w1.heap.size = w.heap.size := hz1'
 have HMU := hmu
 -- the row with one more, then the sort
 have HEND : Hid (∀ (v' : Value) (w2 : World), w2.ownsRow 0 124 1 v' (L.length + 1) (opnCells L ++ [.pointer (some ⟨sb, 0, none⟩)]) → (w1.alloc (.cells #[.pointer (some ⟨sb, 0, none⟩)] 124)).grownBy w2 m.opn.ownBlock → (v'.ownBlock = m.opn.ownBlock ∨ v'.ownBlock = some (w1.heap.size + 1)) → Calls Tryz.prog 78 #[v', .func (.func 79) #[] #[]] (w2.setCell ⟨eb, 23, none⟩ v') fun e w' => e = .returned (.tuple #[]) ∧ ∃ v, AddS w w' eb mb m K L sb st v) := fun v' w2 hown hg hfr => by
  have hba : Below w1.heap.size w1 (w1.alloc (.cells #[.pointer (some ⟨sb, 0, none⟩)] 124)) := (Below.refl _ _).alloc (Nat.le_refl _) _
  have hcg : Chg (fun j => m.opn.ownBlock = some j) w1 w2 := (Chg.of_below hba).trans ((Chg.of_grown hg (fun j hj => hj)).mono fun j _ e => Or.inr e)
  have hc2 : Chg (fun j => j = eb ∨ j = mb ∨ m.opn.ownBlock = some j) w w2 := (hc1'.mono fun j _ e => Or.inr (Or.inl e)).trans (hcg.mono fun j _ e => Or.inr (Or.inr (Or.inr e)))
  have hset : Chg (fun j => j = eb) w2 (w2.setCell ⟨eb, 23, none⟩ v') := chg_set (Chg.refl _ _) rfl
  have hc3 : Chg (fun j => j = eb ∨ j = mb ∨ m.opn.ownBlock = some j) w (w2.setCell ⟨eb, 23, none⟩ v') := hc2.trans (hset.mono fun j _ e => Or.inr (Or.inl e))
  have hne : ∀ p : Nat, ∀ s : StM, StB w p s → ¬ (p = eb ∨ p = mb ∨ m.opn.ownBlock = some p) := fun p s hp e => by
   rcases e with e | e | e
   ·exact block_ne hp.blk h.blk (by decide) e
   ·obtain ⟨es', clock', hb', -⟩ := hK.blk
    have hbk := hp.blk
    rw [e, hb'] at hbk
    cases hbk
   ·exact owns_ne ho.row hp.blk (by decide) e
  have hsts : ∀ p ∈ K ++ [(sb, st)], StB (w2.setCell ⟨eb, 23, none⟩ v') p.1 p.2 := fun p hp => by
   rcases List.mem_append.1 hp with hp | hp
   ·exact (hK.st p hp).chg hc3 (hne _ _ (hK.st p hp))
   ·rw [List.mem_singleton.1 hp]; exact hs.chg hc3 (hne _ _ hs)
  have hstl : ∀ p ∈ L ++ [(sb, st)], StB (w2.setCell ⟨eb, 23, none⟩ v') p.1 p.2 := fun p hp => by
   rcases List.mem_append.1 hp with hp | hp
   ·exact (ho.st p hp).chg hc3 (hne _ _ (ho.st p hp))
   ·rw [List.mem_singleton.1 hp]; exact hs.chg hc3 (hne _ _ hs)
  have hen2 : EnB w2 eb m := hen1.chg hcg (fun e => owns_ne hrow1 hen1.blk (by decide) e)
  have hown3 : (w2.setCell ⟨eb, 23, none⟩ v').ownsRow 0 124 1 v' (L ++ [(sb, st)]).length (opnCells (L ++ [(sb, st)])) := by
   have := owns_chg hown hset (fun j hj e => by rw [e] at hj; exact owns_ne hown hen2.blk (by decide) hj)
   rw [List.length_append]
   unfold opnCells at this ⊢
   rw [List.map_append]
   exact this
  have hkb : ∃ es clock, (w2.setCell ⟨eb, 23, none⟩ v').heap[mb]? = some (.map es clock) ∧ es.toList.map (fun e => (e.key, e.val)) = (K ++ [(sb, st)]).map knownE ∧ ((∀ e ∈ es.toList, e.born < clock) ∧ (es.toList.map fun e => e.born).Nodup) := by
   refine ⟨es, clock, ?_, ?_, hbn1⟩
   ·rw [hset.block mb (by have := hcg.size; have := hK.lt; omega) hme, hcg.block mb (by have := hK.lt; omega) (fun e => by
     rcases hrow1.2 with ⟨h1, -⟩ | ⟨g, cap, cur, h1, h2, h3, -⟩
     ·rw [h1] at e; simp [Value.ownBlock] at e
     ·rw [h1] at e; simp [Value.ownBlock] at e; rw [e, hb1] at h3; cases h3)]
    exact hb1
   ·rw [he1, List.map_append]; rfl
  refine (sortFunc_put v' L (sb, st) _ ⟨hown3, hstl⟩ (fun i j hj hij => by
   have := rise_at hup (i := i) (j := j) hij (by rw [List.length_map]; exact hj)
   simpa using this) hL).mono ?_
  rintro e w' ⟨rfl, hb, ho'⟩
  have hb' : ∀ {p : Nat} {cs : Array Value} {t : TypeId} {f : Nat × Nat}, (w2.setCell ⟨eb, 23, none⟩ v').heap[p]? = some (.cells cs t f) → 124 ≠ t → ¬ v'.ownBlock = some p := fun hp hne => owns_ne hown3 hp hne
  refine ⟨rfl, v', ⟨(EnB.of (blk_set hen2.blk) rfl : EnB _ eb { m with opn := v' }).chg hb (hb' (blk_set hen2.blk) (by decide)), (KnownS.mk hkb hsts).chg hb (fun e => ?_) (fun p hp => hb' (hsts p hp).blk (by decide)), ho'.row, hc3.trans (hb.mono fun j _ e => ?_), fun j hj => ?_⟩⟩
  ·rcases hown3.2 with ⟨h1, -⟩ | ⟨g, cap, cur, h1, h2, h3, -⟩
   ·rw [h1] at e; simp [Value.ownBlock] at e
   ·obtain ⟨es', clock', hb'', -⟩ := hkb
    rw [h1] at e; simp [Value.ownBlock] at e; rw [e, hb''] at h3; cases h3
  ·rcases hfr with a | a
   ·rw [a] at e; exact Or.inr (Or.inr (Or.inr e))
   ·rw [a] at e; simp at e; exact Or.inl (by omega)
  ·rcases hfr with e | e
   ·rw [e] at hj; exact Or.inl hj
   ·rw [e] at hj; simp at hj; exact Or.inr (by omega)
 have HROW := hide hrow1
 have HEN := hide hen1
 have HSO := hide hso
 have HZW := hide hz1w
 have f23 := hen1.fr 23
 have hlt1 : eb < w1.heap.size := hen1.lt
 clear hm h hK ho hs hn hup hc1 hb1 he1 hbn1 hc1' hrow1 hen1 hz1' hso hz1w
 go_enter Tryz.func62, Tryz.ntmps62
 go_upto_region 0 with fail
 go_cut [] (fun wx => wx = w1)
 case first =>
  go_region_law (fail)
  all_goals (go_wp2_with fail; go_meet; rfl)
 case rest =>
  rw [hcut]
  clear hcut
  clear hmu HMU c22 c23 s3 hd
  go_wp2_with (at_builtin; refine wpList_app _ rfl (.tmp 17) (.tmp 19) 79 rfl 124 i0 (.pointer none) 1 8 Tryz.underlying79 hi hz0 hz1 hz2 rfl (by decide) (.slice so L.length co) L.length (opnCells L) rfl ?o1 _ 1 [.pointer (some ⟨sb, 0, none⟩)] rfl rfl ?o2 ?o3 ?o4 ?o5 ?_)
  case o1 => rw [← HSO.out]; exact owns_chg HROW.out (Chg.of_below (S := fun _ => False) ((Below.refl _ _).alloc (Nat.le_refl _) _)) (fun _ _ => id)
  case o2 => exact lies_one (one_alloc _ _ _)
  case o3 => intro u hu; rw [List.mem_singleton.1 hu]; rfl
  case o4 => unfold maxLen; omega
  case o5 => omega
  intro v' w2 hown hg hfr
  obtain ⟨s2, c2, hv2⟩ := slice_len hown
  subst hv2
  have HE := hide (HEND.out _ w2 hown (by rw [HSO.out]; exact hg) (by rw [HSO.out]; rcases hfr with e | e; exact Or.inl e; exact Or.inr (by rw [e])))
  have e23 : w2.cell? ⟨eb, 23, none⟩ = some (.slice so L.length co) := by
   have hba : Below w1.heap.size w1 (w1.alloc (.cells #[.pointer (some ⟨sb, 0, none⟩)] 124)) := (Below.refl _ _).alloc (Nat.le_refl _) _
   have hcg : Chg (fun j => m.opn.ownBlock = some j) w1 w2 := (Chg.of_below hba).trans ((Chg.of_grown hg (fun j hj => by rw [HSO.out]; exact hj)).mono fun j _ e => Or.inr e)
   rw [hcg.cell (p := ⟨eb, 23, none⟩) hlt1 (fun e => owns_ne HROW.out HEN.out.blk (by decide) e)]
   exact d23
  have g23 : w2.frozen? ⟨eb, 23, none⟩ = false := by
   have hba : Below w1.heap.size w1 (w1.alloc (.cells #[.pointer (some ⟨sb, 0, none⟩)] 124)) := (Below.refl _ _).alloc (Nat.le_refl _) _
   have hcg : Chg (fun j => m.opn.ownBlock = some j) w1 w2 := (Chg.of_below hba).trans ((Chg.of_grown hg (fun j hj => by rw [HSO.out]; exact hj)).mono fun j _ e => Or.inr e)
   rw [hcg.frozen (p := ⟨eb, 23, none⟩) hlt1 (fun e => owns_ne HROW.out HEN.out.blk (by decide) e)]
   exact f23
  clear hown hg hfr HEND
  go_wp2_with fail
  refine HE.out.mono ?_
  rintro e w' ⟨rfl, hx⟩
  have HX := hide hx
  clear hx
  go_wp2
  exact bodyPost_end (results_none rfl _ _ _) rfl ⟨rfl, HX.out⟩
end
section
theorem has4_bits {f : Int} (h0 : 0 ≤ f) (h1 : f < 256) : (bits BinOp.and IntKind.i64 f 4 != 0) = hasB f 4 := by
 obtain ⟨n, rfl⟩ : ∃ n : Nat, f = n := ⟨f.toNat, by omega⟩
 have hn : n < 256 := by omega
 have key : ∀ m : Fin 256, (bits BinOp.and IntKind.i64 (m.val : Int) 4 != 0) = hasB (m.val : Int) 4 := by decide +kernel
 exact key ⟨n, hn⟩
set_option maxHeartbeats 400000 in
theorem has4_any (k f s : Int) (bv : Value) (w : World) (h0 : 0 ≤ f) (h1 : f < 256) :
  Calls Tryz.prog 98 #[.agg #[.int .i64 k, .int .i64 f, .int .i64 s, bv], .int .i64 4] w fun e w' => e = .returned (.bool (hasB f 4)) ∧ Below w.heap.size w w' := by
 have HH : Hid ((bits BinOp.and IntKind.i64 f 4 != 0) = hasB f 4) := has4_bits h0 h1
 go_enter Tryz.func98, Tryz.ntmps98
 go_wp2
 go_ret
 exact ⟨ret_bool HH.out, (Below.refl _ _).alloc (Nat.le_refl _) _⟩
theorem Inv.find {w : World} {eb mb : Nat} {g : GEnd} (h : Inv w eb mb g) {s : GSt} (hs : s ∈ g.K) : findK (g.K.map GSt.str) s.st.number = some s.str := by
 rw [findK_str, find_nd (fun s : GSt => s.st.number) h.nn hs]
 rfl
set_option maxRecDepth 100000 in
set_option maxHeartbeats 400000 in
theorem goesOn_no (t : TypeId) (x : Value) (w : World) (ht : t = 162 ∨ t = 165 ∨ t = 170 ∨ t = 173 ∨ t = 176 ∨ t = 178 ∨ t = 179 ∨ t = 181) :
  Calls Tryz.prog 127 #[.iface t x] w fun e w' => e = .returned (.int .i64 0) ∧ Below w.heap.size w w' := by
 have hta : ∀ (x : Value) (w : World), (Instr.typeAssert (.iface t x) 140 167 true).run Tryz.prog w = .ok (.tuple #[.agg #[.int .i64 0, .int .i64 0, .int .i64 0, .slice none 0 0, .slice none 0 0], .bool false]) w := by
  rcases ht with rfl | rfl | rfl | rfl | rfl | rfl | rfl | rfl <;> exact fun _ _ => by kernel_rfl
 clear ht
 go_enter Tryz.func127, Tryz.ntmps127
 go_wp2
 go_ret
 exact ⟨rfl, (Below.refl _ _).alloc (Nat.le_refl _) _⟩
set_option maxRecDepth 100000 in
set_option maxHeartbeats 400000 in
theorem opensTalk_set (k f s : Int) (sv : Option Addr) (n cb : Nat) (nv : Int) (w : World) (h0 : 0 ≤ f) (h1 : f < 256) :
  Calls Tryz.prog 126 #[.iface 173 (.agg #[.int .i64 k, .int .i64 f, .int .i64 s, .slice sv n cb, .int .i64 nv])] w fun e w' => e = .returned (.bool (!hasB f 1)) ∧ Below w.heap.size w w' := by
 have hta : ∀ (x : Value) (w : World), (Instr.typeAssert (.iface 173 x) 140 173 true).run Tryz.prog w = .ok (.tuple #[x, .bool true]) w := fun _ _ => by kernel_rfl
 have HH : Hid (∀ w, Calls Tryz.prog 98 #[.agg #[.int .i64 k, .int .i64 f, .int .i64 s, .slice sv n cb], .int .i64 1] w fun e w' => e = .returned (.bool (hasB f 1)) ∧ Below w.heap.size w w') := fun w => has_any k f s 1 _ w h0 h1 (Or.inl rfl)
 generalize hasB f 1 = hb at *
 go_enter Tryz.func126, Tryz.ntmps126
 go_wp2_with fail
 refine (HH.out _).mono ?_
 rintro e w' ⟨rfl, hb⟩
 have HB := hide hb
 clear hb
 go_wp2
 go_ret
 exact ⟨rfl, ((Below.refl _ _).alloc (Nat.le_refl _) _).trans (HB.out.mono (by simp))⟩
end
section
def StM.fresh (n : Int) (b : Bool) : StM := ⟨0, 0, 0, n, .slice none 0 0, false, false, true, false, b, 0, .slice none 0 0, .slice none 0 0⟩
theorem Inv.added {w0 w w' : World} {eb mb : Nat} {g0 g : GEnd} {sb : Nat} {n : Int} {st : StM} {v : Value} (h0 : Next w0 w eb mb g0 g) (hsb : w0.heap.size ≤ sb) (hs : StB w sb st) (hnum : st.number = n) (hun : st.unread = .slice none 0 0) (hwa : st.waiting = .slice none 0 0) (hnf : ¬ Foot eb mb g sb) (hn : ∀ x ∈ g.K, x.st.number ≠ n) (ha : AddS w w' eb mb g.m (g.K.map GSt.str) (openS g.K g.L) sb st v) :
  Next w0 w' eb mb g0 { g with m := { g.m with opn := v }, K := g.K ++ [⟨sb, st, [], []⟩], L := insL n g.L } := by
 have h := h0.inv
 have hln : n ∉ g.L := fun hm => by
  obtain ⟨s, hs, e⟩ := h.has n hm
  exact hn s hs e
 have hnil : ∀ w' : World, w'.ownsRow 0 5 1 (.slice none 0 0) ([] : List UInt8).length (([] : List UInt8).map B) := fun w' => World.ownsRow_nil _ _ _ _
 have hc := ha.chg
 have hmemK : ∀ x, x ∈ g.K ++ [(⟨sb, st, [], []⟩ : GSt)] → x ∈ g.K ∨ x = ⟨sb, st, [], []⟩ := fun x hx => by
  rcases List.mem_append.1 hx with a | a
  ·exact Or.inl a
  ·exact Or.inr (List.mem_singleton.1 a)
 have hu8 : ∀ {k : Nat} {v' : Value} {xs : List Value}, w.ownsRow 0 5 1 v' k xs → w'.ownsRow 0 5 1 v' k xs := fun hr => owns_chg hr hc (fun j hj e => by
  rcases e with e | e | e
  ·rw [e] at hj; exact owns_ne hr h.en.blk (by decide) hj
  ·rw [e] at hj; exact owns_mb h.kn hr hj
  ·exact rows_ne hr h.row (by decide) hj e)
 have hat : ∀ k ∈ g.L, atN (g.K ++ [(⟨sb, st, [], []⟩ : GSt)]) k = atN g.K k := fun k hk => by
  obtain ⟨s, hs', e⟩ := h.has k hk
  unfold atN
  rw [List.find?_append]
  have := find_nd (fun s : GSt => s.st.number) h.nn hs'
  simp only [e] at this
  rw [this]
  rfl
 have hatn : atN (g.K ++ [(⟨sb, st, [], []⟩ : GSt)]) n = ⟨sb, st, [], []⟩ := by
  unfold atN
  rw [List.find?_append]
  have : g.K.find? (fun s => s.st.number == n) = none := List.find?_eq_none.2 fun x hx => by simpa using hn x hx
  rw [this]
  simp [hnum]
 have hop : openS (g.K ++ [(⟨sb, st, [], []⟩ : GSt)]) (insL n g.L) = insS (sb, st) (openS g.K g.L) := by
  have hgen : ∀ l : List Int, (∀ k ∈ l, k ∈ g.L) → openS (g.K ++ [(⟨sb, st, [], []⟩ : GSt)]) (insL n l) = insS (sb, st) (openS g.K l) := by
   intro l
   induction l with
   | nil =>
    intro _
    show [(atN _ n).str] = [(sb, st)]
    rw [hatn]; rfl
   | cons x r ih =>
    intro hm
    have hx := hm x List.mem_cons_self
    have hr := ih fun k hk => hm k (List.mem_cons_of_mem _ hk)
    have hrest : ∀ l : List Int, (∀ k ∈ l, k ∈ g.L) → openS (g.K ++ [(⟨sb, st, [], []⟩ : GSt)]) l = openS g.K l := fun l hl => List.map_congr_left fun k hk => by rw [hat k (hl k hk)]
    have hxn : (atN g.K x).str.2.number = x := (h.at hx).2
    show openS _ (if n < x then n :: x :: r else x :: insL n r) = (if st.number < (atN g.K x).str.2.number then (sb, st) :: (atN g.K x).str :: openS g.K r else (atN g.K x).str :: insS (sb, st) (openS g.K r))
    rw [hxn, hnum]
    by_cases hlt : n < x
    ·rw [if_pos hlt, if_pos hlt]
     show (atN _ n).str :: openS _ (x :: r) = _
     rw [hatn, hrest (x :: r) hm]
     rfl
    ·rw [if_neg hlt, if_neg hlt]
     show (atN _ x).str :: openS _ (insL n r) = _
     rw [hr, hat x hx]
  exact hgen g.L fun _ hk => hk
 refine ⟨⟨ha.en, ?_, h.km, ?_, ?_, ?_, ?_, ?_, hu8 h.out, hu8 h.got, ?_, ?_, ?_, fun a hm => hu8 (h.anb a hm), ?_, ?_⟩, ?_, ?_⟩
 ·have := ha.kn
  rw [show ([(sb, st)] : List Str) = [(⟨sb, st, [], []⟩ : GSt)].map GSt.str from rfl, ← List.map_append] at this
  exact this
 ·show ((g.K ++ [_]).map GSt.sb).Nodup
  rw [List.map_append, List.nodup_append]
  refine ⟨h.nd, by simp, ?_⟩
  intro a ha' b' hb' e
  obtain ⟨x, hx, rfl⟩ := List.mem_map.1 ha'
  simp at hb'
  rw [hb'] at e
  exact hnf (by rw [← e]; exact h.foot_st hx)
 ·show ((g.K ++ [_]).map fun s : GSt => s.st.number).Nodup
  rw [List.map_append, List.nodup_append]
  refine ⟨h.nn, by simp, ?_⟩
  intro a ha' b' hb' e
  obtain ⟨x, hx, rfl⟩ := List.mem_map.1 ha'
  simp [hnum] at hb'
  rw [hb'] at e
  exact hn x hx e
 ·exact insL_nodup h.ln hln
 ·intro k hk
  rcases insL_mem.1 hk with a | a
  ·rw [a]
   exact ⟨_, List.mem_append_right _ (List.mem_singleton.2 rfl), hnum⟩
  ·obtain ⟨s, hs', e⟩ := h.has k a
   exact ⟨s, List.mem_append_left _ hs', e⟩
 ·have := ha.row
  rw [← hop] at this
  show w'.ownsRow 0 124 1 v (insL n g.L).length (opnCells (openS (g.K ++ [_]) (insL n g.L)))
  rw [openS_length] at this
  exact this
 ·intro x hx
  rcases hmemK x hx with a | a
  ·exact hu8 (h.un x a)
  ·subst a; show World.ownsRow _ _ _ _ st.unread _ _; rw [hun]; exact hnil _
 ·intro x hx
  rcases hmemK x hx with a | a
  ·exact hu8 (h.wa x a)
  ·subst a; show World.ownsRow _ _ _ _ st.waiting _ _; rw [hwa]; exact hnil _
 ·refine h.ans.chg hc (fun j hj e => ?_)
  rcases e with e | e | e
  ·rw [e] at hj; exact h.ans.ne h.en.blk (by decide) hj
  ·rw [e] at hj; exact rowAt_mb h.kn h.ans hj
  ·exact rows_ne2 h.row h.ans (by decide) e hj
 ·refine h.res.chg hc (fun j hj e => ?_)
  rcases e with e | e | e
  ·rw [e] at hj; exact h.res.ne h.en.blk (by decide) hj
  ·rw [e] at hj; exact rowAt_mb h.kn h.res hj
  ·exact rows_ne2 h.row h.res (by decide) e hj
 ·refine h.apart (fun _ => 0) _ _ g.ans (fun j hj => Or.inl hj) (fun j hj => Or.inl hj) ?_ ?_ (fun a ha j hj => Or.inl ⟨a, ha, hj⟩)
  ·intro x hx j hj
   rcases hmemK x hx with a | a
   ·exact Or.inl ⟨x, a, rfl, hj⟩
   ·subst a; rw [show (GSt.mk sb st [] []).st.unread = _ from hun] at hj; simp [Value.ownBlock] at hj
  ·intro x hx j hj
   rcases hmemK x hx with a | a
   ·exact Or.inl ⟨x, a, rfl, hj⟩
   ·subst a; rw [show (GSt.mk sb st [] []).st.waiting = _ from hwa] at hj; simp [Value.ownBlock] at hj
 ·refine h0.chg.trans (hc.mono fun j _ e => ?_)
  have : Foot eb mb g j := by
   rcases e with e | e | e
   ·exact Or.inl e
   ·exact Or.inr (Or.inl e)
   ·unfold Foot; simp [e]
  exact (h0.grow j this).symm
 ·intro j hj
  have key : Foot eb mb g j ∨ w0.heap.size ≤ j ∨ w.heap.size ≤ j := by
   rcases hj with e | e | e | e | e | e | e | e | ⟨y, hy, e⟩
   ·exact Or.inl (Or.inl e)
   ·exact Or.inl (Or.inr (Or.inl e))
   ·exact Or.inl (by unfold Foot; simp [show g.m.out.ownBlock = some j from e])
   ·exact Or.inl (by unfold Foot; simp [show g.m.got.ownBlock = some j from e])
   ·rcases ha.fresh j e with a | a
    ·exact Or.inl (by unfold Foot; simp [a])
    ·exact Or.inr (Or.inr a)
   ·exact Or.inl (by unfold Foot; simp [show g.m.answers.ownBlock = some j from e])
   ·exact Or.inl (by unfold Foot; simp [show g.m.resets.ownBlock = some j from e])
   ·exact Or.inl (Or.inr (Or.inr (Or.inr (Or.inr (Or.inr (Or.inr (Or.inr (Or.inl e))))))))
   ·rcases hmemK y hy with a | a
    ·exact Or.inl (Or.inr (Or.inr (Or.inr (Or.inr (Or.inr (Or.inr (Or.inr (Or.inr ⟨y, a, e⟩))))))))
    ·subst a
     rcases e with e | e | e
     ·exact Or.inr (Or.inl (by rw [e]; exact hsb))
     ·rw [show (GSt.mk sb st [] []).st.unread = _ from hun] at e; simp [Value.ownBlock] at e
     ·rw [show (GSt.mk sb st [] []).st.waiting = _ from hwa] at e; simp [Value.ownBlock] at e
  rcases key with a | a | a
  ·exact h0.grow j a
  ·exact Or.inr a
  ·exact Or.inr (Nat.le_trans h0.chg.size a)
end
end Go.Proofs.YtdccldbefdfppaaGreatDoor
