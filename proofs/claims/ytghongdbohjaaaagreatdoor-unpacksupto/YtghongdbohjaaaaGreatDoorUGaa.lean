import Derived.Test.YtghongdbohjaaaaGreatDoorRows
import Derived.WalkKit
import Derived.WalkSpells
import Derived.WalkLawsBesides
import Derived.Laws.AppendOwnNone
import Derived.BigQuiet
import Derived.BigRegion
import Derived.Deep.QuietTactic
import Derived.Deep.Slices
import Derived.Lib.AppendStr
import Derived.JoinedCond
import Derived.Laws.IdiomStrings
import Derived.Laws.BytesArg
import Derived.Laws.CopyOwn
import Derived.Lib.BufferWrite
import Derived.Deep.RegionLaw
set_option linter.unusedVariables false
set_option linter.unusedSimpArgs false
/-
  General facts: rows that are owned, what a call may change, bytes in memory, append.
-/
namespace Go.Proofs.YtghongdbohjaaaaGreatDoor
set_option linter.unusedVariables false
set_option linter.unusedSimpArgs false
open Go.RowKit

theorem getD_lt {α : Type} (l : List α) (i : Nat) (d : α) (h : i < l.length) : l.getD i d = l[i] := by simp [List.getD, h]

theorem hide {p : Prop} (h : p) : Hid p := h

/-- A byte in a cell. -/
abbrev B (c : UInt8) : Value := .int .u8 (c.toNat : Int)

/-- Of the blocks that were there those outside S are as they were. -/
structure Chg (S : Nat → Prop) (w w' : World) : Prop where
  os : w'.os = w.os
  tape : w'.tape = w.tape
  output : w'.output = w.output
  size : w.heap.size ≤ w'.heap.size
  block : ∀ k, k < w.heap.size → ¬ S k → w'.heap[k]? = w.heap[k]?

theorem Chg.refl (S : Nat → Prop) (w : World) : Chg S w w := ⟨rfl, rfl, rfl, Nat.le_refl _, fun _ _ _ => rfl⟩
theorem Chg.mono {S T : Nat → Prop} {w w' : World} (h : Chg S w w') (hs : ∀ k, k < w.heap.size → S k → T k) : Chg T w w' :=
  ⟨h.os, h.tape, h.output, h.size, fun k hk ht => h.block k hk fun s => ht (hs k hk s)⟩
theorem Chg.trans {S : Nat → Prop} {a b c : World} (h : Chg S a b) (k : Chg (fun i => a.heap.size ≤ i ∨ S i) b c) : Chg S a c :=
  ⟨k.os.trans h.os, k.tape.trans h.tape, k.output.trans h.output, Nat.le_trans h.size k.size,
    fun i hi hs => (k.block i (Nat.lt_of_lt_of_le hi h.size) (by rintro (x | x); · omega
                                                                 · exact hs x)).trans (h.block i hi hs)⟩
theorem Chg.of_below {S : Nat → Prop} {w w' : World} (h : Below w.heap.size w w') : Chg S w w' := ⟨h.os, h.tape, h.output, h.size, fun k hk _ => h.block k hk⟩
theorem Chg.below {w w' : World} (h : Chg (fun _ => False) w w') : Below w.heap.size w w' := ⟨h.os, h.tape, h.output, h.size, fun k hk => h.block k hk id⟩
theorem Chg.of_grown {S : Nat → Prop} {w w' : World} {row : Option Nat} (h : w.grownBy w' row) (hs : ∀ k, row = some k → S k) : Chg S w w' :=
  ⟨h.os, h.tape, h.output, h.size, fun k hk hn => h.block k hk fun e => hn (hs k e.symm)⟩
theorem Chg.setCell {S : Nat → Prop} {a w : World} (h : Chg S a w) {p : Addr} (hp : a.heap.size ≤ p.block ∨ S p.block) (u : Value) : Chg S a (w.setCell p u) :=
  h.trans ⟨rfl, rfl, rfl, by simp [World.setCell], fun k _ hn => Below.heap_setCell _ _ _ _ (fun e => hn (by rw [e]; exact hp))⟩
theorem Chg.alloc {S : Nat → Prop} {a w : World} (h : Chg S a w) (o : Obj) : Chg S a (w.alloc o) :=
  h.trans ⟨rfl, rfl, rfl, by simp, fun k hk _ => Below.heap_alloc _ _ _ hk⟩
theorem Chg.drew {S : Nat → Prop} {a w : World} (h : Chg S a w) : Chg S a w.drew := ⟨h.os, h.tape, h.output, h.size, h.block⟩
theorem Chg.drewN {S : Nat → Prop} {a w : World} (h : Chg S a w) (n : Nat) : Chg S a (w.drewN n) := h.trans ⟨rfl, rfl, rfl, Nat.le_refl _, fun _ _ _ => rfl⟩
/-- Behind a change that touches none of S: a step that is 'Below' the later world. -/
theorem Chg.then_below {S : Nat → Prop} {a b c : World} (h : Chg S a b) (k : Below b.heap.size b c) : Chg S a c := h.trans (Chg.of_below k)

theorem Chg.cell {S : Nat → Prop} {w w' : World} (h : Chg S w w') {p : Addr} (hp : p.block < w.heap.size) (hs : ¬ S p.block) : w'.cell? p = w.cell? p := World.cell?_of_block (w := w) (h.block p.block hp hs)
theorem Chg.frozen {S : Nat → Prop} {w w' : World} (h : Chg S w w') {p : Addr} (hp : p.block < w.heap.size) (hs : ¬ S p.block) : w'.frozen? p = w.frozen? p := World.frozen?_of_block (w := w) (h.block p.block hp hs)

/-- What is owned stays owned where its block is not touched. -/
theorem owns_chg {S : Nat → Prop} {w w' : World} {base e size n : Nat} {v : Value} {xs : List Value} (h : w.ownsRow base e size v n xs) (hc : Chg S w w') (hs : ∀ k, v.ownBlock = some k → ¬ S k) : w'.ownsRow base e size v n xs := by
  refine ⟨h.1, ?_⟩
  rcases h.2 with hn | ⟨g, cap, cur, rfl, hb, hgg, rest⟩
  · exact .inl hn
  · refine .inr ⟨g, cap, cur, rfl, hb, ?_, rest⟩
    rw [hc.block g (Array.getElem?_eq_some_iff.1 hgg).1 (hs g rfl)]
    exact hgg
theorem owns_base {w : World} {base base' e size n : Nat} {v : Value} {xs : List Value} (h : w.ownsRow base e size v n xs) (hb : ∀ k, v.ownBlock = some k → base' ≤ k) : w.ownsRow base' e size v n xs := by
  refine ⟨h.1, ?_⟩
  rcases h.2 with hn | ⟨g, cap, cur, rfl, _, rest⟩
  · exact .inl hn
  · exact .inr ⟨g, cap, cur, rfl, hb g rfl, rest⟩
theorem owns_lt {w : World} {base e size n : Nat} {v : Value} {xs : List Value} (h : w.ownsRow base e size v n xs) {k : Nat} (hk : v.ownBlock = some k) : k < w.heap.size := (h.lt k hk).2
/-- A row of one element type is no block of another. -/
theorem owns_ne {w : World} {base e e' size n : Nat} {v : Value} {xs : List Value} {b : Nat} {cs : Array Value} {fr : Nat × Nat} (h : w.ownsRow base e size v n xs) (hb : w.heap[b]? = some (.cells cs e' fr)) (hne : e ≠ e') : v.ownBlock ≠ some b := by
  intro hk
  rcases h.2 with ⟨rfl, _⟩ | ⟨g, cap, cur, rfl, _, hgg, _⟩
  · simp [Value.ownBlock] at hk
  · simp [Value.ownBlock] at hk
    subst hk
    rw [hgg] at hb
    simp at hb
    exact hne hb.2.1

theorem block_setCell {w : World} {b i : Nat} {cs : Array Value} {t : TypeId} {fr : Nat × Nat} {u : Value} (h : w.heap[b]? = some (.cells cs t fr)) : (w.setCell ⟨b, i, none⟩ u).heap[b]? = some (.cells (cs.setIfInBounds i u) t fr) := by
  simp only [World.setCell, Array.getElem?_modify, ↓reduceIte, h, Option.map_some]
  rfl

theorem take_bytes (l : List UInt8) (c : UInt8) : (l ++ [c]).map B = l.map B ++ [B c] := by simp
theorem rows_ne {w : World} {b b' e e' s s' n n' : Nat} {v v' : Value} {xs xs' : List Value} (h : w.ownsRow b e s v n xs) (h' : w.ownsRow b' e' s' v' n' xs') (hne : e ≠ e') {k : Nat} (hk : v.ownBlock = some k) : v'.ownBlock ≠ some k := by
  rcases h.2 with ⟨rfl, _⟩ | ⟨g, cap, cur, rfl, _, hgg, _⟩
  · simp [Value.ownBlock] at hk
  · simp [Value.ownBlock] at hk
    subst hk
    exact owns_ne h' hgg (fun e => hne e.symm)

theorem drop_cons {l : List UInt8} {k : Nat} (h : k < l.length) : l.drop k = l.getD k 0 :: l.drop (k + 1) := by
  rw [getD_lt _ _ _ h]; exact List.drop_eq_getElem_cons h

/-- What is appended: nil, or cells that lie one behind the other. -/
def Lies (w : World) (x : Value) (m : Nat) (news : List Value) : Prop :=
  (x = .slice none 0 0 ∧ m = 0 ∧ news = []) ∨ ∃ ad c, x = .slice (some ad) m c ∧ ∀ j u, news[j]? = some u → w.cell? (ad.add j) = some u

theorem run_app {P : Program} (w : World) (t ty e : TypeId) (i : TypeInfo) (z : Value) (size bytes : Nat) (ht : P.underlying t = some (.slice e)) (hi : P.info? e = some i) (hz : i.zero = some z)
    (hsize : i.size = size) (hby : i.bytes = bytes) (hzs : z.cells.size = size) (hsz : 0 < size)
    (v : Value) (n : Nat) (xs : List Value) (hown : w.ownsRow 0 e size v n xs)
    (x : Value) (m : Nat) (news : List Value) (hl : news.length = m * size) (hnews : Lies w x m news) (h1 : ∀ u ∈ news, u.oneCell' = true)
    (h63 : n + m ≤ maxLen) (hbytes : (n + m) * bytes ≤ 140737488355328) :
    ∃ v' w', (Builtin.append_ #[t, t] ty #[v, x]).run P w = .ok v' w' ∧ w'.ownsRow 0 e size v' (n + m) (xs ++ news) ∧ w.grownBy w' v.ownBlock ∧
      (v'.ownBlock = v.ownBlock ∨ v'.ownBlock = some w.heap.size) := by
  have hsmall : n + m ≤ 9223372036854775807 := by simp only [maxLen] at h63; omega
  rcases hnews with ⟨rfl, rfl, rfl⟩ | ⟨ad, c, rfl, hcells⟩
  · refine ⟨v, w, run_append_owned_none (P := P) (w := w) 0 t ty e i size ht hi v n xs hown, by simpa using hown, ⟨rfl, rfl, rfl, Nat.le_refl _, fun _ _ _ => rfl⟩, Or.inl rfl⟩
  · obtain ⟨v', w', hr, h2, h3, h4⟩ := run_append_own (P := P) w 0 t ty e i z size bytes ht hi hz hsize hby hzs hsz v n xs hown ad m c news hl hcells h1 h63 hbytes (Nat.zero_le _)
    refine ⟨v', w', hr, h2, h3, ?_⟩
    subst hsize
    subst hby
    rcases hown.2 with ⟨rfl, rfl⟩ | ⟨g, cap, cur, rfl, hbg, hg, hnc, hcm, hcs, htake⟩
    · by_cases hm : m = 0
      · exact Or.inl (by rw [h4.2 ⟨rfl, hm⟩])
      · have h := run_append_nil (P := P) w t ty e i z ht hi hz ad m c news hl hcells (by omega) (by omega) (by have hb := hbytes; simp only [Nat.zero_add] at hb; omega)
        rw [h] at hr
        simp only [Result.ok.injEq] at hr
        exact Or.inr (by rw [← hr.1]; rfl)
    · by_cases hroom : n + m ≤ cap
      · have hfit : n * i.size + news.length ≤ cur.size := by rw [hl, hcs, ← Nat.add_mul]; exact Nat.mul_le_mul_right _ hroom
        have h := run_append_room (P := P) w t ty e i ht hi g n cap cur hg ad m c news hl hcells h1 hroom hfit
        rw [h] at hr
        simp only [Result.ok.injEq] at hr
        exact Or.inl (by rw [← hr.1]; rfl)
      · have holds : ∀ j u, xs[j]? = some u → w.cell? ((⟨g, 0, none⟩ : Addr).add j) = some u := hown.cells (g := g) rfl
        have h := run_append_grow (P := P) w t ty e i z ht hi hz ⟨g, 0, none⟩ n cap xs hown.1 holds ad m c news hl hcells (by omega) (by omega) (growslice_fits (by omega) hbytes)
        rw [h] at hr
        simp only [Result.ok.injEq] at hr
        exact Or.inr (by rw [← hr.1]; rfl)

/-- As a law for the walk. -/
theorem wpList_app {P : Program} (w : World) {ops : Array Oper} {rest : List Oper} {o : Oper} {a : Act} {Q : Exit → Act → World → Prop} (hgd : o.guard = none) (s y : Operand) (t : TypeId)
    (ho : o.op = .call { callee := .builtin .append, args := #[s, y], argTypes := #[t, t] })
    (e : TypeId) (i : TypeInfo) (z : Value) (size bytes : Nat) (ht : P.underlying t = some (.slice e)) (hi : P.info? e = some i) (hz : i.zero = some z)
    (hsize : i.size = size) (hby : i.bytes = bytes) (hzs : z.cells.size = size) (hsz : 0 < size)
    (v : Value) (n : Nat) (xs : List Value) (hs : a.eval s = v) (hown : w.ownsRow 0 e size v n xs)
    (x : Value) (m : Nat) (news : List Value) (hx : a.eval y = x) (hl : news.length = m * size) (hnews : Lies w x m news) (h1 : ∀ u ∈ news, u.oneCell' = true)
    (h63 : n + m ≤ maxLen) (hbytes : (n + m) * bytes ≤ 140737488355328)
    (h : ∀ v' w', w'.ownsRow 0 e size v' (n + m) (xs ++ news) → w.grownBy w' v.ownBlock → (v'.ownBlock = v.ownBlock ∨ v'.ownBlock = some w.heap.size) → wpList P ops Q rest (a.put o.dst v') w') : wpList P ops Q (o :: rest) a w := by
  refine wpList_plain hgd fun K hK => ?_
  obtain ⟨v', w', hr, h2, h3, h4⟩ := run_app (P := P) w t o.type e i z size bytes ht hi hz hsize hby hzs hsz v n xs hown x m news hl hnews h1 h63 hbytes
  unfold Oper.wp execOp
  simp only [ho, resolve, invoke, builtin, Sem.run_bind, Sem.run_pure, Result.andThen_ok, List.map_toArray, List.map_cons, List.map_nil, hs, hx, hr]
  exact hK _ _ (h v' w' h2 h3 h4)

/-- One new cell. -/
theorem lies_one {w : World} {b : Nat} {u : Value} (h : w.cell? ⟨b, 0, none⟩ = some u) : Lies w (.slice (some ⟨b, 0, none⟩) 1 1) 1 [u] :=
  Or.inr ⟨_, _, rfl, fun j x hj => by
    match j, hj with
    | 0, hj => simp at hj; subst hj; simpa [Addr.add] using h⟩
theorem Tryz.info5 : (Tryz.prog.info? 5).map (fun i => (i.zero, i.size, i.bytes)) = some (some (.int .u8 0), 1, 1) := by kernel_rfl

theorem bytes_one (l : List UInt8) : ∀ u ∈ l.map B, u.oneCell' = true := by
  intro u hu
  obtain ⟨x, _, rfl⟩ := List.mem_map.1 hu
  rfl

theorem slice_of_owns {w : World} {b e s n : Nat} {v : Value} {xs : List Value} (h : w.ownsRow b e s v n xs) : ∃ sa m c, v = .slice sa m c := by
  rcases h.2 with ⟨rfl, _⟩ | ⟨g, cap, cur, rfl, _⟩
  · exact ⟨_, _, _, rfl⟩
  · exact ⟨_, _, _, rfl⟩

/-- A value that reads as these bytes. -/
def BytesIn (w : World) (bv : Value) (l : List UInt8) : Prop :=
  (bv = .slice none 0 0 ∧ l = []) ∨ ∃ bb off cap, bv = .slice (some ⟨bb, off, none⟩) l.length cap ∧ bb < w.heap.size ∧ l.length ≤ cap ∧ ∀ i, i < l.length → w.cell? ⟨bb, off + i, none⟩ = some (.int .u8 (l.getD i 0).toNat)

theorem bytesIn_of_owns {w : World} {b n : Nat} {v : Value} {l : List UInt8} (h : w.ownsRow b 5 1 v n (l.map B)) (hn : n = l.length) : BytesIn w v l := by
  subst hn
  rcases h.2 with ⟨rfl, h0⟩ | ⟨g, cap, cur, rfl, _, hgg, hle, _⟩
  · exact Or.inl ⟨rfl, List.eq_nil_of_length_eq_zero h0⟩
  · refine Or.inr ⟨g, 0, cap, rfl, (Array.getElem?_eq_some_iff.1 hgg).1, hle, fun i hi => ?_⟩
    have := h.cells (g := g) rfl i (B (l.getD i 0)) (by simp [List.getD, hi])
    rw [Nat.zero_add, ← this]
    congr 1
    unfold Addr.add; split <;> simp_all

theorem BytesIn.chg {S : Nat → Prop} {w w' : World} {bv : Value} {l : List UInt8} (h : BytesIn w bv l) (hc : Chg S w w') (hs : ∀ k, bv.ownBlock = some k → ¬ S k) : BytesIn w' bv l := by
  rcases h with h | ⟨bb, off, cap, rfl, h1, h2, h3⟩
  · exact Or.inl h
  · exact Or.inr ⟨bb, off, cap, rfl, Nat.lt_of_lt_of_le h1 hc.size, h2, fun i hi => (hc.cell (p := ⟨bb, off + i, none⟩) h1 (hs bb rfl)).trans (h3 i hi)⟩

/-- .. or an empty slice without room, of whose address nothing is known. -/
def BytesA (w : World) (bv : Value) (l : List UInt8) : Prop := BytesIn w bv l ∨ ∃ ad, bv = .slice (some ad) 0 0 ∧ l = []

theorem BytesA.chg {w w' : World} {bv : Value} {l : List UInt8} (h : BytesA w bv l) (hc : Chg (fun _ => False) w w') : BytesA w' bv l := by
  rcases h with h | h
  · exact Or.inl (h.chg hc (fun _ _ => id))
  · exact Or.inr h
theorem bytesA_len {w : World} {bv : Value} {l : List UInt8} (h : BytesA w bv l) : ∃ sa cap, bv = .slice sa l.length cap := by
  rcases h with (⟨rfl, rfl⟩ | ⟨bb, off, cap, rfl, _⟩) | ⟨ad, rfl, rfl⟩
  · exact ⟨_, _, rfl⟩
  · exact ⟨_, _, rfl⟩
  · exact ⟨_, _, rfl⟩

theorem BytesIn.lt {w : World} {bv : Value} {l : List UInt8} (h : BytesIn w bv l) {k : Nat} (hk : bv.ownBlock = some k) : k < w.heap.size := by
  rcases h with ⟨rfl, _⟩ | ⟨bb, off, cap, rfl, h1, _⟩
  · simp [Value.ownBlock] at hk
  · simp [Value.ownBlock] at hk; omega

theorem lies_of_bytesIn {w : World} {x : Value} {l : List UInt8} (h : BytesIn w x l) : Lies w x l.length (l.map B) := by
  rcases h with ⟨rfl, rfl⟩ | ⟨bb, off, cap, rfl, h1, h2, h3⟩
  · exact Or.inl ⟨rfl, rfl, rfl⟩
  · refine Or.inr ⟨_, _, rfl, fun j u hu => ?_⟩
    have hj : j < l.length := by
      have := (List.getElem?_eq_some_iff.1 hu).1
      simpa using this
    have e : (⟨bb, off, none⟩ : Addr).add j = ⟨bb, off + j, none⟩ := by unfold Addr.add; split <;> simp_all
    rw [e, h3 j hj, ← hu]
    simp [List.getD, hj]

theorem slice_len {w : World} {b e s n : Nat} {v : Value} {xs : List Value} (h : w.ownsRow b e s v n xs) : ∃ sv cv, v = .slice sv n cv := by
  rcases h.2 with ⟨rfl, rfl⟩ | ⟨g, cap, cur, rfl, _⟩
  · exact ⟨_, _, rfl⟩
  · exact ⟨_, _, rfl⟩
theorem slice_some {w : World} {b e s n cv : Nat} {sv : Option Addr} {xs : List Value} (h : w.ownsRow b e s (.slice sv n cv) n xs) (hn : 0 < n) : ∃ g, sv = some ⟨g, 0, none⟩ ∧ n ≤ cv := by
  rcases h.2 with ⟨h0, rfl⟩ | ⟨g, cap, cur, h0, _, _, hle, _⟩
  · omega
  · simp only [Value.slice.injEq, true_and] at h0
    obtain ⟨rfl, rfl⟩ := h0
    exact ⟨g, rfl, hle⟩

theorem ret_bool {a b : Bool} (h : a = b) : Ending.returned (.bool a) = .returned (.bool b) := by rw [h]

end Go.Proofs.YtghongdbohjaaaaGreatDoor
/-
  Frames, without the program: what a head and a body may be, how bytes are read. Plain lists and numbers; nothing of the translation is imported.
-/
namespace Go.Proofs.YtghongdbohjaaaaGreatDoor

def sFits (k s : Int) : Bool := if k = 0 ∨ k = 1 ∨ k = 2 ∨ k = 7 then s != 0 else if k = 3 ∨ k = 4 ∨ k = 5 then s == 0 else true
def hasB (f b : Int) : Bool := decide (f / b % 2 = 1)
def lFits (l k f : Int) : Bool := if k = 2 ∨ k = 5 then l == 1 else if k = 3 then (if hasB f 1 then l == 0 else l == 4) else if k = 4 ∨ k = 6 then l == 4 else true
/-- The fault of a head: 0 is none. -/
def headCode (l k f s : Int) : Int := if 32767 < s ∨ sFits k s = false then 9 else if 64 < l ∨ lFits l k f = false then 10 else 0

theorem headCode_cases (l k f s : Int) : headCode l k f s = 0 ∨ headCode l k f s = 9 ∨ headCode l k f s = 10 := by
  unfold headCode; split <;> (try split) <;> simp

theorem headCode_zero {l k f s : Int} (h : headCode l k f s = 0) : s ≤ 32767 ∧ sFits k s = true ∧ l ≤ 64 ∧ lFits l k f = true := by
  unfold headCode at h
  by_cases a : 32767 < s ∨ sFits k s = false
  · rw [if_pos a] at h; omega
  · rw [if_neg a] at h
    by_cases b : 64 < l ∨ lFits l k f = false
    · rw [if_pos b] at h; omega
    · refine ⟨by omega, by simpa using fun e => a (Or.inr e), by omega, by simpa using fun e => b (Or.inr e)⟩
theorem len_four {l k f s : Int} (h : headCode l k f s = 0) (hk : (k = 3 ∧ hasB f 1 = false) ∨ k = 6) : l = 4 := by
  have hl := (headCode_zero h).2.2.2
  rcases hk with ⟨rfl, hb⟩ | rfl
  · simpa [lFits, hb] using hl
  · simpa [lFits] using hl

def be2 (a b : UInt8) : Int := 256 * (a.toNat : Int) + (b.toNat : Int)
def be4 (a b c d : UInt8) : Int := 16777216 * (a.toNat : Int) + 65536 * (b.toNat : Int) + 256 * (c.toNat : Int) + (d.toNat : Int)

/-- The number in the first four bytes. -/
def num4 : List UInt8 → Int
  | a :: b :: c :: d :: _ => be4 a b c d
  | _ => 0

structure Hd where
  length : Int
  kind : Int
  flags : Int
  stream : Int

def hdOf : List UInt8 → Hd
  | a :: b :: c :: d :: e :: f :: _ => ⟨be2 a b, c.toNat, d.toNat, be2 e f⟩
  | _ => ⟨0, 0, 0, 0⟩

def Hd.code (h : Hd) : Int := headCode h.length h.kind h.flags h.stream

/-- The fault of a padded body: 0 is none. -/
def padCode : List UInt8 → Int
  | [] => 9
  | p :: r => if r.length < p.toNat then 9 else if ((p :: r).drop (r.length + 1 - p.toNat)).all (· == 0) then 0 else 9

def nCode (v least : Int) : Int := if v < least ∨ 2147483647 < v then 9 else 0
def numCode (body : List UInt8) (least : Int) : Int := nCode (num4 body) least

def bodyCode (k f : Int) (body : List UInt8) : Int :=
  if k = 0 then (if hasB f 8 then padCode body else 0)
  else if k = 3 then (if hasB f 1 then 0 else numCode body 0)
  else if k = 6 then numCode body 1 else 0

theorem padCode_cases (b : List UInt8) : padCode b = 0 ∨ padCode b = 9 := by
  cases b with
  | nil => simp [padCode]
  | cons p r =>
    simp only [padCode]
    by_cases h : r.length < p.toNat
    · simp [h]
    · rw [if_neg h]; split
      · exact Or.inl rfl
      · exact Or.inr rfl
theorem numCode_cases (b : List UInt8) (n : Int) : numCode b n = 0 ∨ numCode b n = 9 := by unfold numCode nCode; split <;> simp
theorem bodyCode_cases (k f : Int) (b : List UInt8) : bodyCode k f b = 0 ∨ bodyCode k f b = 9 := by
  unfold bodyCode
  split
  · split
    · exact padCode_cases b
    · simp
  · split
    · split
      · simp
      · exact numCode_cases b 0
    · split
      · exact numCode_cases b 1
      · simp

/-- A frame that was told. -/
structure Fr where
  kind : Int
  flags : Int
  stream : Int
  body : List UInt8

/-- What one byte more does: what is gathered, the frame that ends, the fault. -/
abbrev Out := Sum (Sum (List UInt8) Fr) Int
abbrev Out.more (got : List UInt8) : Out := .inl (.inl got)
abbrev Out.frame (f : Fr) : Out := .inl (.inr f)
abbrev Out.fault (code : Int) : Out := .inr code

def step (got : List UInt8) (c : UInt8) : Out :=
  let g := got ++ [c]
  let h := hdOf g
  if g.length = 6 ∧ h.code ≠ 0 then .fault h.code
  else if g.length < 6 ∨ (g.length : Int) < 6 + h.length then .more g
  else if bodyCode h.kind h.flags (g.drop 6) ≠ 0 then .fault (bodyCode h.kind h.flags (g.drop 6))
  else .frame ⟨h.kind, h.flags, h.stream, g.drop 6⟩

/-- What a reader may have gathered. -/
def Got (g : List UInt8) : Prop := 6 ≤ g.length → (hdOf g).code = 0 ∧ (g.length : Int) < 6 + (hdOf g).length

/-- A reader: what is gathered, the fault (0: none). -/
structure Rd where
  got : List UInt8
  code : Int

/-- Bytes that are fed: the frames, the reader behind them. -/
def feed (got : List UInt8) : List UInt8 → List Fr × Rd
  | [] => ([], ⟨got, 0⟩)
  | c :: r => match step got c with
    | .inl (.inl g) => feed g r
    | .inl (.inr f) => let x := feed [] r; (f :: x.1, x.2)
    | .inr code => ([], ⟨[], code⟩)

def Rd.feed (r : Rd) (l : List UInt8) : List Fr × Rd := if r.code = 0 then Go.Proofs.YtghongdbohjaaaaGreatDoor.feed r.got l else ([], r)

/-- A number in a byte. -/
def ofI (x : Int) : UInt8 := UInt8.ofNat x.toNat
theorem ofI_toNat {x : Int} (h0 : 0 ≤ x) (h1 : x ≤ 255) : ((ofI x).toNat : Int) = x := by
  unfold ofI
  rw [UInt8.toNat_ofNat']
  omega

/-- The bytes of a frame. -/
def lay (k f s : Int) (body : List UInt8) : List UInt8 := [ofI ((body.length : Int) / 256), ofI (body.length : Int), ofI k, ofI f, ofI (s / 256), ofI (s % 256)] ++ body

end Go.Proofs.YtghongdbohjaaaaGreatDoor
/-
  What memory holds: rows of bytes, a reader's block; what a call may change.
-/
namespace Go.Proofs.YtghongdbohjaaaaGreatDoor
open Go.RowKit

/-- A reader's block: what is gathered, the head, the fault. -/
def RdB (w : World) (rb : Nat) (gv : Value) (L K F S c : Int) : Prop :=
  w.heap[rb]? = some (.cells #[gv, .int .i64 L, .int .i64 K, .int .i64 F, .int .i64 S, .int .i64 c] 163 (0, 0))

theorem RdB.lt {w : World} {rb : Nat} {gv : Value} {L K F S c : Int} (h : RdB w rb gv L K F S c) : rb < w.heap.size := (Array.getElem?_eq_some_iff.1 h).1
theorem RdB.cells {w : World} {rb : Nat} {gv : Value} {L K F S c : Int} (h : RdB w rb gv L K F S c) :
    w.cell? ⟨rb, 0, none⟩ = some gv ∧ w.cell? ⟨rb, 1, none⟩ = some (.int .i64 L) ∧ w.cell? ⟨rb, 2, none⟩ = some (.int .i64 K) ∧ w.cell? ⟨rb, 3, none⟩ = some (.int .i64 F) ∧
    w.cell? ⟨rb, 4, none⟩ = some (.int .i64 S) ∧ w.cell? ⟨rb, 5, none⟩ = some (.int .i64 c) := by
  unfold RdB at h
  refine ⟨?_, ?_, ?_, ?_, ?_, ?_⟩ <;> rw [cell_of_row w rb _ _ _ _ h] <;> rfl
theorem RdB.free {w : World} {rb : Nat} {gv : Value} {L K F S c : Int} (h : RdB w rb gv L K F S c) (o : Nat) : w.frozen? ⟨rb, o, none⟩ = false := by
  unfold RdB at h
  simp [World.frozen?, h]
theorem RdB.chg {T : Nat → Prop} {w w' : World} {rb : Nat} {gv : Value} {L K F S c : Int} (h : RdB w rb gv L K F S c) (hc : Chg T w w') (hs : ¬ T rb) : RdB w' rb gv L K F S c := by
  unfold RdB at h ⊢
  rw [hc.block rb (Array.getElem?_eq_some_iff.1 h).1 hs]; exact h
theorem RdB.set0 {w : World} {rb : Nat} {gv : Value} {L K F S c : Int} (h : RdB w rb gv L K F S c) (u : Value) : RdB (w.setCell ⟨rb, 0, none⟩ u) rb u L K F S c := by
  have := block_setCell (i := 0) (u := u) h
  exact this
theorem RdB.set14 {w : World} {rb : Nat} {gv : Value} {L K F S c : Int} (h : RdB w rb gv L K F S c) (l k f s : Int) :
    RdB ((((w.setCell ⟨rb, 1, none⟩ (.int .i64 l)).setCell ⟨rb, 2, none⟩ (.int .i64 k)).setCell ⟨rb, 3, none⟩ (.int .i64 f)).setCell ⟨rb, 4, none⟩ (.int .i64 s)) rb gv l k f s c := by
  have h1 := block_setCell (i := 1) (u := .int .i64 l) h
  have h2 := block_setCell (i := 2) (u := .int .i64 k) h1
  have h3 := block_setCell (i := 3) (u := .int .i64 f) h2
  have h4 := block_setCell (i := 4) (u := .int .i64 s) h3
  exact h4

end Go.Proofs.YtghongdbohjaaaaGreatDoor
/-
  append onto a row of the program's own, whatever is appended: the row stays, or a new block is made.
-/
namespace Go.Proofs.YtghongdbohjaaaaGreatDoor
open Go.RowKit

end Go.Proofs.YtghongdbohjaaaaGreatDoor
/-
  sluicelaw: pick, num, markByte, sameBytes, marked.
-/
namespace Go.Proofs.YtghongdbohjaaaaGreatDoor
open Go.RowKit

def I64 (n : Int) : Prop := -9223372036854775808 ≤ n ∧ n ≤ 9223372036854775807

theorem pick_neg {c n : Int} (hc : c < 0) (hn : 0 < n) : 0 ≤ -(c + 1).tmod n ∧ -(c + 1).tmod n < n := by
  have e : -(c + 1).tmod n = (-(c + 1)) % n := by
    rw [← Int.neg_tmod]
    exact Int.tmod_eq_emod_of_nonneg (by omega)
  rw [e]
  exact ⟨Int.emod_nonneg _ (by omega), Int.emod_lt_of_pos _ hn⟩

/-- What pick answers. -/
def pkI (c n : Int) : Int := if c < 0 then -(c + 1).tmod n else c % n
theorem pkI_bounds (c : Int) {n : Int} (hn : 0 < n) : 0 ≤ pkI c n ∧ pkI c n < n := by
  unfold pkI
  split
  · exact pick_neg (by assumption) hn
  · exact ⟨Int.emod_nonneg _ (by omega), Int.emod_lt_of_pos _ hn⟩

set_option maxRecDepth 100000 in
set_option maxHeartbeats 400000 in
theorem lpick_fun (c n : Int) (w : World) (hn : 0 < n) (hc : I64 c) :
    Calls Tryz.prog 20 #[.int .i64 c, .int .i64 n] w fun e w' => e = .returned (.int .i64 (pkI c n)) ∧ w' = w := by
  obtain ⟨hc1, hc2⟩ := hc
  have hnz : ¬ n = 0 := by omega
  by_cases hneg : c < 0
  · have e : pkI c n = -(c + 1).tmod n := by unfold pkI; rw [if_pos hneg]
    rw [e]
    clear e
    go_enter Tryz.func20, Tryz.ntmps20
    go_wp2
    go_ret
    exact ⟨rfl, rfl⟩
  · have e : pkI c n = c % n := by unfold pkI; rw [if_neg hneg]
    rw [e]
    clear e
    go_enter Tryz.func20, Tryz.ntmps20
    go_wp2
    go_ret
    exact ⟨rfl, rfl⟩

set_option maxRecDepth 100000 in
set_option maxHeartbeats 400000 in
theorem num_any (c : Int) (w : World) : Calls Tryz.prog 25 #[.int .i64 c] w fun e w' => e = .returned (.int .i64 c) ∧ w' = w := by
  go_enter Tryz.func25, Tryz.ntmps25
  go_wp2
  go_ret
  exact ⟨rfl, rfl⟩

/-- The mark of the n-th list at place i. -/
def mk (n i : Nat) : UInt8 := if i % 2 = 0 then UInt8.ofNat (1 + n % 251) else UInt8.ofNat (1 + n / 251 % 251)

theorem mk_even {n i : Nat} (h : i % 2 = 0) : ((mk n i).toNat : Int) = 1 + (n : Int) % 251 := by
  unfold mk; rw [if_pos h, UInt8.toNat_ofNat']; omega
theorem mk_odd {n i : Nat} (h : ¬ i % 2 = 0) : ((mk n i).toNat : Int) = 1 + (n : Int) / 251 % 251 := by
  unfold mk; rw [if_neg h, UInt8.toNat_ofNat']; omega

set_option maxRecDepth 100000 in
set_option maxHeartbeats 400000 in
theorem markByte_any (n i : Nat) (w : World) (hn : n ≤ 1099511627776) (hi : i ≤ 1099511627776) :
    Calls Tryz.prog 63 #[.int .i64 n, .int .i64 i] w fun e w' => e = .returned (B (mk n i)) ∧ w' = w := by
  by_cases h : i % 2 = 0
  · have e := mk_even (n := n) h
    have h' : (i : Int) % 2 = 0 := by omega
    unfold B
    rw [e]
    clear e h
    go_enter Tryz.func63, Tryz.ntmps63
    go_wp2
    go_ret
    exact ⟨rfl, rfl⟩
  · have e := mk_odd (n := n) h
    have h' : (i : Int) % 2 = 1 := by omega
    unfold B
    rw [e]
    clear e h
    go_enter Tryz.func63, Tryz.ntmps63
    go_wp2
    go_ret
    exact ⟨rfl, rfl⟩

theorem conv_bytes {w : World} {bv : Value} {l : List UInt8} (h : BytesIn w bv l) : (convert 54 9 bv).run Tryz.prog w = .ok (.string ⟨l.toArray⟩) w := by
  rcases h with ⟨rfl, rfl⟩ | ⟨bb, off, cap, rfl, h1, h2, h3⟩
  · exact run_convert_bytes_nil w 54 5 Tryz.underlying54 Tryz.underlying5 0 0 9 Tryz.underlying9
  · refine run_convert_bytes_back w 54 9 5 ⟨bb, off, none⟩ cap l Tryz.underlying54 Tryz.underlying5 Tryz.underlying9 (fun j hj => ?_)
    have e : (⟨bb, off, none⟩ : Addr).add j = ⟨bb, off + j, none⟩ := by unfold Addr.add; split <;> simp_all
    rw [e, h3 j hj, getD_lt _ _ _ hj]
theorem conv_bytesA {w : World} {bv : Value} {l : List UInt8} (h : BytesA w bv l) : (convert 54 9 bv).run Tryz.prog w = .ok (.string ⟨l.toArray⟩) w := by
  rcases h with h | ⟨ad, rfl, rfl⟩
  · exact conv_bytes h
  · exact run_convert_bytes_back w 54 9 5 ad 0 [] Tryz.underlying54 Tryz.underlying5 Tryz.underlying9 (fun j hj => absurd hj (by simp))

set_option maxRecDepth 100000 in
set_option maxHeartbeats 800000 in
theorem sameBytes_true (va vb : Value) (l : List UInt8) (w : World) (ha : BytesIn w va l) (hb : BytesIn w vb l) :
    Calls Tryz.prog 24 #[va, vb] w fun e w' => e = .returned (.bool true) ∧ w' = w := by
  have h1 := conv_bytes ha
  have h2 := conv_bytes hb
  obtain ⟨sa, na, ca, rfl⟩ : ∃ sa na ca, va = .slice sa na ca := by rcases ha with ⟨rfl, _⟩ | ⟨_, _, _, rfl, _⟩ <;> exact ⟨_, _, _, rfl⟩
  obtain ⟨sb, nb, cb, rfl⟩ : ∃ sa na ca, vb = .slice sa na ca := by rcases hb with ⟨rfl, _⟩ | ⟨_, _, _, rfl, _⟩ <;> exact ⟨_, _, _, rfl⟩
  clear ha hb
  go_enter Tryz.func24, Tryz.ntmps24
  go_wp2
  go_ret
  exact ⟨rfl, rfl⟩

theorem bel_drewN {b n : Nat} {w w' : World} (h : Below b w w') : Below b w (w'.drewN n) := ⟨h.os, h.tape, h.output, h.size, h.block⟩

/-- The marks of the n-th list. -/
def marks (n at_ : Nat) : List UInt8 := (List.range at_).map (mk n)
theorem marks_length (n a : Nat) : (marks n a).length = a := by simp [marks]
theorem marks_succ (n a : Nat) : marks n (a + 1) = marks n a ++ [mk n a] := by simp [marks, List.range_succ]
theorem marks_get {n a i : Nat} (h : i < a) : (marks n a).getD i 0 = mk n i := by simp [marks, List.getD, h]

set_option maxRecDepth 100000 in
set_option maxHeartbeats 1600000 in
theorem marked_true (v : Value) (n a : Nat) (w : World) (h : BytesIn w v (marks n a)) (hn : n ≤ 1099511627776) (ha : a ≤ 1099511627776) :
    Calls Tryz.prog 15 #[v, .int .i64 n] w fun e w' => e = .returned (.bool true) ∧ Below w.heap.size w w' := by
  obtain ⟨sa, cap, rfl⟩ : ∃ sa cap, v = .slice sa a cap := by
    rcases h with ⟨rfl, h0⟩ | ⟨bb, off, cap, rfl, _⟩
    · have := congrArg List.length h0
      rw [marks_length] at this
      simp at this; subst this; exact ⟨_, _, rfl⟩
    · rw [marks_length]; exact ⟨_, _, rfl⟩
  have H := hide h
  clear h
  go_enter Tryz.func15, Tryz.ntmps15
  go_wp2
  go_loopw [5] (fun i wr => ∃ k : Nat, k ≤ a ∧ i = .int .i64 k ∧ Below w.heap.size w wr) (fun i _ => a - (intOf i).toNat)
  case atStart => exact ⟨0, Nat.zero_le _, rfl, Below.refl _ _⟩
  case round =>
    obtain ⟨k, hk, rfl, hbel⟩ := hrel
    by_cases hlt : k < a
    · rcases H.out with ⟨_, h0⟩ | ⟨bb, off, cap', he, hbb, hca, hcell⟩
      · have := congrArg List.length h0
        rw [marks_length] at this
        simp at this; omega
      · simp only [Value.slice.injEq] at he
        obtain ⟨rfl, -, rfl⟩ := he
        have hc := hcell k (by rw [marks_length]; exact hlt)
        rw [marks_get hlt] at hc
        have hc' := (hbel.cell (p := ⟨bb, off + k, none⟩) hbb).trans hc
        clear hcell hc H
        go_wp2
        go_quiet ((go_at_call 63; refine Calls.quiet_of_same (markByte_any n k _ (by omega) (by omega))))
        go_wp2
        go_roundw
        case rel => exact ⟨k + 1, by omega, by go_num, bel_drewN hbel⟩
        case measure => simp [intOf]; omega
    · go_wp2
      go_ret
      exact ⟨rfl, hbel⟩
end Go.Proofs.YtghongdbohjaaaaGreatDoor
/-
  sluicelaw: lentBytes, wholeBytes.
-/
namespace Go.Proofs.YtghongdbohjaaaaGreatDoor
open Go.RowKit

theorem set_next {α : Type} {A L : List α} {i : Nat} (x : α) (hA : A.length = i) (hi : i < L.length) : (A ++ L.drop i).set i x = (A ++ [x]) ++ L.drop (i + 1) := by
  subst hA
  rw [List.set_append_right _ _ (Nat.le_refl _), Nat.sub_self, List.drop_eq_getElem_cons hi, List.set_cons_zero]
  simp

theorem row_set {w : World} {g i : Nat} {xs : List Value} {t : TypeId} {fr : Nat × Nat} {u : Value} (h : w.heap[g]? = some (.cells xs.toArray t fr)) : (w.setCell ⟨g, i, none⟩ u).heap[g]? = some (.cells (xs.set i u).toArray t fr) := by
  have := block_setCell (i := i) (u := u) h
  simpa using this
theorem row_cell {w : World} {g i : Nat} {xs : List Value} {t : TypeId} {fr : Nat × Nat} (h : w.heap[g]? = some (.cells xs.toArray t fr)) : w.cell? ⟨g, i, none⟩ = xs[i]? := by
  rw [cell_of_row w g _ _ _ _ h]; simp
theorem row_free {w : World} {g i : Nat} {xs : List Value} {t : TypeId} (h : w.heap[g]? = some (.cells xs.toArray t (0, 0))) : w.frozen? ⟨g, i, none⟩ = false := by simp [World.frozen?, h]

theorem wpList_copy_str {P : Program} {w : World} {ops : Array Oper} {rest : List Oper} {o : Oper} {a : Act} {Q : Exit → Act → World → Prop} (hgd : o.guard = none) (d s : Operand) (dT sT : TypeId)
    (ho : o.op = .call { callee := .builtin .copy, args := #[d, s], argTypes := #[dT, sT] }) (elem : TypeId) (hu : P.underlying dT = some (.slice elem)) (hsz : (P.info? elem).map (·.size) = some 1)
    (g dLen dCap : Nat) (str : ByteArray) (hd : a.eval d = .slice (some ⟨g, 0, none⟩) dLen dCap) (hs : a.eval s = .string str)
    (cur : List Value) (t : TypeId) (hg : w.heap[g]? = some (.cells cur.toArray t (0, 0))) (hle : str.size ≤ dLen) (hfit : str.size ≤ cur.length) (b : Nat) (w0 : World) (hb : Below b w0 w) (hbg : b ≤ g)
    (h : ∀ w', Hid (w'.heap[g]? = some (.cells (str.data.toList.map B ++ cur.drop str.size).toArray t (0, 0))) → Below b w0 w' → wpList P ops Q rest (a.put o.dst (goInt str.size)) w') :
    wpList P ops Q (o :: rest) a w := by
  refine wpList_plain hgd fun K hK => ?_
  have hr := Lib.run_copy_row_string (P := P) w dT sT o.type elem g 0 dLen dCap str cur.toArray t hu hsz hg hle (by simpa using hfit)
  unfold Oper.wp execOp
  simp only [ho, resolve, invoke, builtin, Sem.run_bind, Sem.run_pure, Result.andThen_ok, List.map_toArray, List.map_cons, List.map_nil, hd, hs, hr]
  refine hK _ _ (h _ ?_ (below_setRow hb hbg _))
  show _ = _
  rw [setRow_heap w g _ _ t _ hg]
  simp [Lib.byteCells]

/-- What is lent: the bytes, and four more of the caller's behind them. -/
def lentL (l : List UInt8) : List Value := l.map B ++ List.replicate 4 (.int .u8 77)
theorem lentL_length (l : List UInt8) : (lentL l).length = l.length + 4 := by simp [lentL]

theorem made_list {w : World} {b g n : Nat} (h : w.ownsRow b 5 1 (.slice (some ⟨g, 0, none⟩) n n) n (madeCells #[Value.int .u8 0] n).toList) :
    w.heap[g]? = some (.cells (List.replicate n (Value.int .u8 0)).toArray 5 (0, 0)) := by
  rcases h.2 with ⟨h0, _⟩ | ⟨g', cap, cur, h0, _, hgg, hle, hmx, hs, ht⟩
  · cases h0
  · simp only [Value.slice.injEq, Option.some.injEq, Addr.mk.injEq, and_true, true_and] at h0
    obtain ⟨rfl, rfl⟩ := h0
    rw [hgg]
    have e1 : cur.toList.take (n * 1) = cur.toList := by rw [List.take_of_length_le]; simp; omega
    rw [e1] at ht
    have e2 : cur = (List.replicate n (Value.int .u8 0)).toArray := by
      apply Array.toList_inj.1
      rw [ht]
      simp only [madeCells]
      rw [List.eq_replicate_iff]
      refine ⟨by simp, fun x hx => ?_⟩
      simp at hx
      obtain ⟨a, _, rfl⟩ := hx
      simp [Nat.mod_one]
    rw [e2]

/-- The loop of lentBytes. -/
def lentK (l : List UInt8) (k : Nat) : List Value := (l.map B ++ List.replicate k (.int .u8 77)) ++ (l.map B ++ List.replicate 4 (Value.int .u8 0)).drop (l.length + k)

theorem lentK_zero (l : List UInt8) : lentK l 0 = l.map B ++ (List.replicate (l.length + 4) (Value.int .u8 0)).drop l.length := by
  unfold lentK
  rw [List.drop_append]
  simp
theorem lentK_four (l : List UInt8) : lentK l 4 = lentL l := by
  unfold lentK lentL
  rw [List.drop_of_length_le (by simp)]
  simp
theorem lentK_succ (l : List UInt8) {k : Nat} (h : k < 4) : (lentK l k).set (l.length + k) (.int .u8 77) = lentK l (k + 1) := by
  unfold lentK
  rw [set_next _ (by simp) (by simp; omega)]
  simp only [List.append_assoc, List.replicate_succ', Nat.add_assoc]
theorem lentK_length (l : List UInt8) {k : Nat} (h : k ≤ 4) : (lentK l k).length = l.length + 4 := by
  unfold lentK
  simp; omega

set_option maxRecDepth 100000 in
set_option maxHeartbeats 1600000 in
theorem lent_any (l : List UInt8) (w : World) (hl : l.length ≤ 4294967296) :
    Calls Tryz.prog 21 #[.string ⟨l.toArray⟩] w fun e w' => e = .returned (.slice (some ⟨w.heap.size, 0, none⟩) l.length (l.length + 4)) ∧ w'.heap[w.heap.size]? = some (.cells (lentL l).toArray 5 (0, 0)) ∧ Below w.heap.size w w' := by
  obtain ⟨i0, hi, hz0, hz1, hz2⟩ := info_parts Tryz.info5
  have hsz : (Tryz.prog.info? 5).map (·.size) = some 1 := by rw [hi]; simp [hz1]
  have hstr : (ByteArray.mk l.toArray).size = l.length := by simp [ByteArray.size]
  obtain ⟨str, hs⟩ : ∃ str, str = ByteArray.mk l.toArray := ⟨_, rfl⟩
  have hdl : str.data.toList = l := by rw [hs]
  rw [← hs] at hstr ⊢
  clear hs
  go_enter Tryz.func21, Tryz.ntmps21
  go_wp2_with (at_make; refine wpList_make_full _ rfl _ _ 54 rfl w.heap.size 5 i0 (.int .u8 0) 1 Tryz.underlying54 hi hz0 hz1 _ _ _ _ (l.length + 4) rfl rfl ?m1 ?m2 ?m3 ?m4 ?m5 ?_)
  case m1 => go_num
  case m2 => go_num
  case m3 => rw [hz2]; omega
  case m4 => unfold maxLen; omega
  case m5 => simp
  intro w1 hown1 hg1
  have hbel1 : Below w.heap.size w w1 := (Below.refl _ _).grown hg1 (Nat.le_refl _) (fun k h => by cases h)
  have hh := made_list hown1
  have HDL := hide hdl
  have HST := hide hstr
  clear hown1 hg1 hdl hstr
  go_wp2_with (refine wpList_copy_str rfl (.tmp 11) (.tmp 12) 54 9 rfl 5 Tryz.underlying54 hsz w.heap.size (l.length + 4) (l.length + 4) str rfl rfl (List.replicate (l.length + 4) (.int .u8 0)) 5 hh ?c1 ?c2 w.heap.size w hbel1 (Nat.le_refl _) ?_)
  case c1 => rw [HST.out]; omega
  case c2 => rw [HST.out]; simp
  intro w2 HG2 hB2
  have hg2 := HG2.out
  rw [HDL.out, HST.out] at hg2
  have HG := hide hg2
  clear hh hbel1 HG2 hg2
  go_wp2
  go_loopw [5] (fun i wr => ∃ k : Nat, k ≤ 4 ∧ i = .int .i64 ((l.length : Int) + (k : Int)) ∧ Below w.heap.size w wr ∧ wr.heap[w.heap.size]? = some (.cells (lentK l k).toArray 5 (0, 0))) (fun i _ => l.length + 4 - (intOf i).toNat)
  case atStart => exact ⟨0, Nat.zero_le _, by simp, hB2, by rw [lentK_zero, List.drop_replicate]; exact HG.out⟩
  case round =>
    obtain ⟨k, hk, rfl, hbel, hrow⟩ := hrel
    by_cases hlt : k < 4
    · obtain ⟨cv, hc⟩ : ∃ cv, wr.cell? ⟨w.heap.size, l.length + k, none⟩ = some cv := ⟨_, by rw [row_cell hrow, List.getElem?_eq_getElem (by rw [lentK_length l hk]; omega)]⟩
      have hfz := row_free (i := l.length + k) hrow
      have HR := hide (row_set (i := l.length + k) (u := .int .u8 77) hrow)
      clear hrow
      go_wp2
      go_roundw
      case rel => exact ⟨k + 1, by omega, by go_num, hbel.setCell (Nat.le_refl _) _, by rw [← lentK_succ l hlt]; exact HR.out⟩
      case measure => simp [intOf]; omega
    · have hk4 : k = 4 := by omega
      subst hk4
      rw [lentK_four] at hrow
      have HR := hide hrow
      clear hrow
      go_wp2
      go_ret
      exact ⟨rfl, HR.out, hbel⟩

/-- The loop of wholeBytes. -/
def wholeK (l : List UInt8) (k : Nat) : List Value := List.replicate k (.int .u8 200) ++ (lentL l).drop k
theorem wholeK_succ (l : List UInt8) {k : Nat} (h : k < l.length + 4) : (wholeK l k).set k (.int .u8 200) = wholeK l (k + 1) := by
  unfold wholeK
  rw [set_next _ (by simp) (by rw [lentL_length]; exact h), List.replicate_succ']
theorem wholeK_length (l : List UInt8) {k : Nat} (h : k ≤ l.length + 4) : (wholeK l k).length = l.length + 4 := by
  unfold wholeK
  simp [lentL_length]; omega
theorem wholeK_get (l : List UInt8) {k : Nat} (h : k < l.length + 4) (hl : l.length ≤ k) : (wholeK l k)[k]? = some (.int .u8 77) := by
  unfold wholeK
  rw [List.getElem?_append_right (by simp)]
  simp only [List.length_replicate, Nat.sub_self, List.getElem?_drop, Nat.add_zero]
  unfold lentL
  rw [List.getElem?_append_right (by simpa using hl), List.getElem?_replicate, if_pos (by rw [List.length_map]; omega)]

theorem lent_bytes {w : World} {g : Nat} {l : List UInt8} (h : w.heap[g]? = some (.cells (lentL l).toArray 5 (0, 0))) {c : Nat} (hc : l.length ≤ c) : BytesIn w (.slice (some ⟨g, 0, none⟩) l.length c) l := by
  refine Or.inr ⟨g, 0, c, rfl, lt_of_block h, hc, fun i hi => ?_⟩
  rw [Nat.zero_add, row_cell h]
  unfold lentL
  rw [List.getElem?_append_left (by simpa using hi)]
  simp [List.getD, hi]

set_option maxRecDepth 100000 in
set_option maxHeartbeats 1600000 in
theorem wholeBytes_any (g : Nat) (l : List UInt8) (w : World) (hl : l.length ≤ 4294967296) (h : w.heap[g]? = some (.cells (lentL l).toArray 5 (0, 0))) :
    Calls Tryz.prog 27 #[.slice (some ⟨g, 0, none⟩) l.length (l.length + 4), .string ⟨l.toArray⟩] w fun e w' => e = .returned (.bool true) ∧ Chg (fun k => k = g) w w' := by
  have hcv := conv_bytes (lent_bytes h (c := l.length + 4) (by omega))
  have hstr : (ByteArray.mk l.toArray).size = l.length := by simp [ByteArray.size]
  obtain ⟨str, hs⟩ : ∃ str, str = ByteArray.mk l.toArray := ⟨_, rfl⟩
  rw [← hs] at hstr hcv ⊢
  have HH := hide h
  clear hs h
  go_enter Tryz.func27, Tryz.ntmps27
  go_wp2
  go_loopw [7, 8] (fun ok i wr => ∃ k : Nat, k ≤ l.length + 4 ∧ ok = .bool true ∧ i = .int .i64 k ∧ Chg (fun k => k = g) w wr ∧ wr.heap[g]? = some (.cells (wholeK l k).toArray 5 (0, 0))) (fun _ i _ => l.length + 4 - (intOf i).toNat)
  case atStart => exact ⟨0, Nat.zero_le _, rfl, rfl, Chg.refl _ _, HH.out⟩
  case round =>
    obtain ⟨k, hk, rfl, rfl, hch, hrow⟩ := hrel
    by_cases hlt : k < l.length + 4
    · obtain ⟨cv, hc0⟩ : ∃ cv, wr.cell? ⟨g, k, none⟩ = some cv := ⟨_, by rw [row_cell hrow, List.getElem?_eq_getElem (by rw [wholeK_length l hk]; exact hlt)]⟩
      have hfz := row_free (i := k) hrow
      have HR := hide (row_set (i := k) (u := .int .u8 200) hrow)
      by_cases hin : k < l.length
      · clear hrow
        go_wp2
        go_roundw
        case rel => exact ⟨k + 1, by omega, rfl, by go_num, hch.setCell (Or.inr rfl) _, by rw [← wholeK_succ l hlt]; exact HR.out⟩
        case measure => simp [intOf]; omega
      · have hc : wr.cell? ⟨g, k, none⟩ = some (.int .u8 77) := by rw [row_cell hrow]; exact wholeK_get l hlt (by omega)
        clear hrow hc0
        go_wp2
        go_roundw
        case rel => exact ⟨k + 1, by omega, rfl, by go_num, hch.setCell (Or.inr rfl) _, by rw [← wholeK_succ l hlt]; exact HR.out⟩
        case measure => simp [intOf]; omega
    · clear hrow
      go_wp2
      go_ret
      exact ⟨rfl, hch⟩
end Go.Proofs.YtghongdbohjaaaaGreatDoor
/-
  append onto a row, and what becomes of those that share its block.
-/
namespace Go.Proofs.YtghongdbohjaaaaGreatDoor
open Go.RowKit

theorem kept_block {w1 w2 : World} {base e size n b t : Nat} {v : Value} {xs : List Value} {cs : Array Value} {fr : Nat × Nat} (hown : w1.ownsRow base e size v n xs) (hg : w1.grownBy w2 v.ownBlock) (hb : w1.heap[b]? = some (.cells cs t fr)) (hne : e ≠ t) : w2.heap[b]? = some (.cells cs t fr) := by
  rw [hg.block b (lt_of_block hb) (fun e => owns_ne hown hb hne e.symm)]; exact hb
theorem one_alloc (w : World) (u : Value) (t : TypeId) : (w.alloc (.cells #[u] t)).cell? ⟨w.heap.size, 0, none⟩ = some u := by
  rw [cell_of_row _ _ _ _ _ _ (heap_alloc_new w _)]; rfl
theorem alloc_block {w : World} {b t : Nat} {cs : Array Value} {fr : Nat × Nat} (hb : w.heap[b]? = some (.cells cs t fr)) (o : Obj) : (w.alloc o).heap[b]? = some (.cells cs t fr) := by
  rw [Below.heap_alloc _ _ _ (lt_of_block hb)]; exact hb


/-- What an append has made of a row: there was room, or a new block. -/
def Appd (w w' : World) (v v' : Value) (n m : Nat) : Prop :=
  (∃ g cap, v = .slice (some ⟨g, 0, none⟩) n cap ∧ n + m ≤ cap ∧ v' = .slice (some ⟨g, 0, none⟩) (n + m) cap) ∨
  (v'.ownBlock = some w.heap.size ∧ (∀ g cap, v = .slice (some ⟨g, 0, none⟩) n cap → cap < n + m) ∧ Chg (fun _ => False) w w')

theorem Appd.block {w w' : World} {v v' : Value} {n m : Nat} (h : Appd w w' v v' n m) : v'.ownBlock = v.ownBlock ∨ v'.ownBlock = some w.heap.size := by
  rcases h with ⟨g, cap, rfl, _, rfl⟩ | ⟨h, _⟩
  · exact Or.inl rfl
  · exact Or.inr h
theorem Appd.room {w w' : World} {v v' : Value} {n m g cap : Nat} (h : Appd w w' v v' n m) (hv : v = .slice (some ⟨g, 0, none⟩) n cap) (hr : n + m ≤ cap) : v' = .slice (some ⟨g, 0, none⟩) (n + m) cap := by
  rcases h with ⟨g', cap', hv', _, rfl⟩ | ⟨_, h, _⟩
  · rw [hv] at hv'
    simp only [Value.slice.injEq, Option.some.injEq, Addr.mk.injEq, and_true, true_and] at hv'
    obtain ⟨rfl, rfl⟩ := hv'
    rfl
  · have := h g cap hv; omega

theorem run_app_full {P : Program} (w : World) (t ty e : TypeId) (i : TypeInfo) (z : Value) (size bytes : Nat) (ht : P.underlying t = some (.slice e)) (hi : P.info? e = some i) (hz : i.zero = some z)
    (hsize : i.size = size) (hby : i.bytes = bytes) (hzs : z.cells.size = size) (hsz : 0 < size)
    (v : Value) (n : Nat) (xs : List Value) (hown : w.ownsRow 0 e size v n xs)
    (ad : Addr) (m c : Nat) (news : List Value) (hm : 0 < m) (hl : news.length = m * size) (hcells : ∀ j u, news[j]? = some u → w.cell? (ad.add j) = some u) (h1 : ∀ u ∈ news, u.oneCell' = true)
    (h63 : n + m ≤ maxLen) (hbytes : (n + m) * bytes ≤ 140737488355328) :
    ∃ v' w', (Builtin.append_ #[t, t] ty #[v, .slice (some ad) m c]).run P w = .ok v' w' ∧ w'.ownsRow 0 e size v' (n + m) (xs ++ news) ∧ w.grownBy w' v.ownBlock ∧ Appd w w' v v' n m := by
  have hsmall : n + m ≤ 9223372036854775807 := by simp only [maxLen] at h63; omega
  obtain ⟨v', w', hr, h2, h3, _⟩ := run_append_own (P := P) w 0 t ty e i z size bytes ht hi hz hsize hby hzs hsz v n xs hown ad m c news hl hcells h1 h63 hbytes (Nat.zero_le _)
  refine ⟨v', w', hr, h2, h3, ?_⟩
  subst hsize
  subst hby
  rcases hown.2 with ⟨rfl, rfl⟩ | ⟨g, cap, cur, rfl, hbg, hg, hnc, hcm, hcs, htake⟩
  · have h := run_append_nil (P := P) w t ty e i z ht hi hz ad m c news hl hcells (by omega) (by omega) (by have hb := hbytes; simp only [Nat.zero_add] at hb; omega)
    rw [h] at hr
    simp only [Result.ok.injEq] at hr
    refine Or.inr ⟨by rw [← hr.1]; rfl, fun g cap he => (by cases he), ?_⟩
    rw [← hr.2]
    exact (Chg.refl _ _).drew.alloc _
  · by_cases hroom : n + m ≤ cap
    · have hfit : n * i.size + news.length ≤ cur.size := by rw [hl, hcs, ← Nat.add_mul]; exact Nat.mul_le_mul_right _ hroom
      have h := run_append_room (P := P) w t ty e i ht hi g n cap cur hg ad m c news hl hcells h1 hroom hfit
      rw [h] at hr
      simp only [Result.ok.injEq] at hr
      exact Or.inl ⟨g, cap, rfl, hroom, hr.1.symm⟩
    · have holds : ∀ j u, xs[j]? = some u → w.cell? ((⟨g, 0, none⟩ : Addr).add j) = some u := hown.cells (g := g) rfl
      have h := run_append_grow (P := P) w t ty e i z ht hi hz ⟨g, 0, none⟩ n cap xs hown.1 holds ad m c news hl hcells (by omega) (by omega) (growslice_fits (by omega) hbytes)
      rw [h] at hr
      simp only [Result.ok.injEq] at hr
      refine Or.inr ⟨by rw [← hr.1]; rfl, fun g' cap' he => ?_, ?_⟩
      · simp only [Value.slice.injEq, Option.some.injEq, Addr.mk.injEq, and_true, true_and] at he
        omega
      · rw [← hr.2]
        exact (Chg.refl _ _).drew.alloc _

theorem wpList_app_full {P : Program} (w : World) {ops : Array Oper} {rest : List Oper} {o : Oper} {a : Act} {Q : Exit → Act → World → Prop} (hgd : o.guard = none) (s y : Operand) (t : TypeId)
    (ho : o.op = .call { callee := .builtin .append, args := #[s, y], argTypes := #[t, t] })
    (e : TypeId) (i : TypeInfo) (z : Value) (size bytes : Nat) (ht : P.underlying t = some (.slice e)) (hi : P.info? e = some i) (hz : i.zero = some z)
    (hsize : i.size = size) (hby : i.bytes = bytes) (hzs : z.cells.size = size) (hsz : 0 < size)
    (v : Value) (n : Nat) (xs : List Value) (hs : a.eval s = v) (hown : w.ownsRow 0 e size v n xs)
    (ad : Addr) (m c : Nat) (news : List Value) (hx : a.eval y = .slice (some ad) m c) (hm : 0 < m) (hl : news.length = m * size) (hcells : ∀ j u, news[j]? = some u → w.cell? (ad.add j) = some u) (h1 : ∀ u ∈ news, u.oneCell' = true)
    (h63 : n + m ≤ maxLen) (hbytes : (n + m) * bytes ≤ 140737488355328)
    (h : ∀ v' w', w'.ownsRow 0 e size v' (n + m) (xs ++ news) → w.grownBy w' v.ownBlock → Appd w w' v v' n m → wpList P ops Q rest (a.put o.dst v') w') : wpList P ops Q (o :: rest) a w := by
  refine wpList_plain hgd fun K hK => ?_
  obtain ⟨v', w', hr, h2, h3, h4⟩ := run_app_full (P := P) w t o.type e i z size bytes ht hi hz hsize hby hzs hsz v n xs hown ad m c news hm hl hcells h1 h63 hbytes
  unfold Oper.wp execOp
  simp only [ho, resolve, invoke, builtin, Sem.run_bind, Sem.run_pure, Result.andThen_ok, List.map_toArray, List.map_cons, List.map_nil, hs, hx, hr]
  exact hK _ _ (h v' w' h2 h3 h4)

/-- .. in a region that draws its order. -/
theorem step_app_full {P : Program} {ops : Array Oper} {o : Oper} {a : Act} {w : World} {K : Act → World → Prop} {Q : Exit → Act → World → Prop} {E : Prop} (hgd : o.guard = none) (s y : Operand) (t : TypeId)
    (ho : o.op = .call { callee := .builtin .append, args := #[s, y], argTypes := #[t, t] })
    (e : TypeId) (i : TypeInfo) (z : Value) (size bytes : Nat) (ht : P.underlying t = some (.slice e)) (hi : P.info? e = some i) (hz : i.zero = some z)
    (hsize : i.size = size) (hby : i.bytes = bytes) (hzs : z.cells.size = size) (hsz : 0 < size)
    (v : Value) (n : Nat) (xs : List Value) (hs : a.eval s = v) (hown : w.ownsRow 0 e size v n xs)
    (ad : Addr) (m c : Nat) (news : List Value) (hx : a.eval y = .slice (some ad) m c) (hm : 0 < m) (hl : news.length = m * size) (hcells : ∀ j u, news[j]? = some u → w.cell? (ad.add j) = some u) (h1 : ∀ u ∈ news, u.oneCell' = true)
    (h63 : n + m ≤ maxLen) (hbytes : (n + m) * bytes ≤ 140737488355328)
    (hK : ∀ v' w', w'.ownsRow 0 e size v' (n + m) (xs ++ news) → w.grownBy w' v.ownBlock → Appd w w' v v' n m → K (a.put o.dst v') w') :
    if Region.wanted o (yielded ops a.tmps) = true then Oper.wp P o a w K Q else E := by
  have hw : Region.wanted o (yielded ops a.tmps) = true := by simp [Region.wanted, hgd]
  rw [if_pos hw]
  obtain ⟨v', w', hr, h2, h3, h4⟩ := run_app_full (P := P) w t o.type e i z size bytes ht hi hz hsize hby hzs hsz v n xs hown ad m c news hm hl hcells h1 h63 hbytes
  unfold Oper.wp
  simp [execOp, ho, resolve, invoke, builtin, hs, hx, hr, Result.andThen]
  exact hK v' w' h2 h3 h4

theorem owns_pre {w : World} {base e size g n cap k : Nat} {xs : List Value} (h : w.ownsRow base e size (.slice (some ⟨g, 0, none⟩) n cap) n xs) (hk : k ≤ n) : w.ownsRow base e size (.slice (some ⟨g, 0, none⟩) k cap) k (xs.take (k * size)) := by
  have hks : k * size ≤ n * size := Nat.mul_le_mul_right _ hk
  refine ⟨by rw [List.length_take, h.1]; omega, ?_⟩
  rcases h.2 with ⟨h0, _⟩ | ⟨g', cap', cur, h0, hb, hgg, hle, hmx, hs, ht⟩
  · cases h0
  · simp only [Value.slice.injEq, Option.some.injEq, Addr.mk.injEq, and_true, true_and] at h0
    obtain ⟨rfl, rfl⟩ := h0
    refine Or.inr ⟨g, cap, cur, rfl, hb, hgg, by omega, hmx, hs, ?_⟩
    rw [← ht, List.take_take]
    congr 1
    omega

/-- What was there ahead of an append, and may share its block. -/
theorem app_pre {w w' : World} {e size n m k : Nat} {v v' v0 : Value} {xs news ys : List Value} (hown' : w'.ownsRow 0 e size v' (n + m) (xs ++ news)) (happ : Appd w w' v v' n m) (h0 : w.ownsRow 0 e size v0 k ys)
    (hpre : ∀ g cap, v = .slice (some ⟨g, 0, none⟩) n cap → n + m ≤ cap → v0 = .slice (some ⟨g, 0, none⟩) k cap ∧ k ≤ n + m ∧ ys = (xs ++ news).take (k * size)) : w'.ownsRow 0 e size v0 k ys := by
  rcases happ with ⟨g, cap, hv, hr, rfl⟩ | ⟨_, _, hc⟩
  · obtain ⟨rfl, hk, rfl⟩ := hpre g cap hv hr
    exact owns_pre hown' hk
  · exact owns_chg h0 hc (fun _ _ => id)

theorem lies_row {w : World} {xs : List Value} {t : TypeId} : ∀ j u, xs[j]? = some u → (w.alloc (.cells xs.toArray t)).cell? ((⟨w.heap.size, 0, none⟩ : Addr).add j) = some u := by
  intro j u hu
  have hh := heap_alloc_new w (.cells xs.toArray t)
  have e : (⟨w.heap.size, 0, none⟩ : Addr).add j = ⟨w.heap.size, j, none⟩ := by unfold Addr.add; split <;> simp_all
  rw [e, row_cell hh]
  exact hu

theorem owns_set {w : World} {base g n cap : Nat} {l : List UInt8} (h : w.ownsRow base 5 1 (.slice (some ⟨g, 0, none⟩) n cap) n (l.map B)) (j : Nat) (c : UInt8) :
    (w.setCell ⟨g, j, none⟩ (B c)).ownsRow base 5 1 (.slice (some ⟨g, 0, none⟩) n cap) n ((l.set j c).map B) := by
  have := h.stored j (B c)
  rw [List.map_set]
  exact this.1
theorem owns_cell {w : World} {base g n cap : Nat} {l : List UInt8} (h : w.ownsRow base 5 1 (.slice (some ⟨g, 0, none⟩) n cap) n (l.map B)) {j : Nat} (hj : j < n) : w.cell? ⟨g, j, none⟩ = some (.int .u8 (l.getD j 0).toNat) := by
  have hl : l.length = n := by have := h.1; simpa using this
  rw [h.cellAt j (by omega)]
  simp [List.getD, hl, hj]
theorem owns_free {w : World} {base e size g n cap : Nat} {xs : List Value} (h : w.ownsRow base e size (.slice (some ⟨g, 0, none⟩) n cap) n xs) (j : Nat) : w.frozen? ⟨g, j, none⟩ = false := by
  rcases h.2 with ⟨h0, _⟩ | ⟨g', cap', cur, h0, hb, hgg, _⟩
  · cases h0
  · simp only [Value.slice.injEq, Option.some.injEq, Addr.mk.injEq, and_true] at h0
    obtain ⟨rfl, _⟩ := h0
    simp [World.frozen?, hgg]
end Go.Proofs.YtghongdbohjaaaaGreatDoor
/-
  (*sluicelaw.Books).keepBytes.
-/
namespace Go.Proofs.YtghongdbohjaaaaGreatDoor
open Go.RowKit

/-- A list of bytes that was kept, and the three that were appended to it. -/
structure RecB where
  l : Value
  a : Value
  b : Value
  c : Value
  n : Nat
  len : Nat

def recCells : List RecB → List Value
  | [] => []
  | r :: t => r.l :: r.a :: r.b :: r.c :: .int .i64 r.n :: recCells t
theorem recCells_length (rs : List RecB) : (recCells rs).length = rs.length * 5 := by
  induction rs with
  | nil => rfl
  | cons p r ih => simp [recCells, ih]; omega
theorem recCells_append (a b : List RecB) : recCells (a ++ b) = recCells a ++ recCells b := by
  induction a with
  | nil => rfl
  | cons p r ih => simp [recCells, ih]

/-- Each of the four reads as the caller has written it. -/
structure FamB (w : World) (r : RecB) : Prop where
  l : w.ownsRow 0 5 1 r.l r.len ((marks r.n r.len).map B)
  a : w.ownsRow 0 5 1 r.a (r.len + 1) ((marks r.n (r.len + 1)).map B)
  b : w.ownsRow 0 5 1 r.b (r.len + 2) ((marks r.n (r.len + 2)).map B)
  c : w.ownsRow 0 5 1 r.c (r.len + 3) ((marks r.n (r.len + 3)).map B)

theorem FamB.chg {S : Nat → Prop} {w w' : World} {r : RecB} (h : FamB w r) (hc : Chg S w w') (hs : ∀ v ∈ [r.l, r.a, r.b, r.c], ∀ k, v.ownBlock = some k → ¬ S k) : FamB w' r :=
  ⟨owns_chg h.l hc (hs _ (by simp)), owns_chg h.a hc (hs _ (by simp)), owns_chg h.b hc (hs _ (by simp)), owns_chg h.c hc (hs _ (by simp))⟩

theorem Tryz.info65 : (Tryz.prog.info? 65).map (fun i => (i.zero, i.size, i.bytes)) = some (some (.agg #[.slice none 0 0, .slice none 0 0, .slice none 0 0, .slice none 0 0, .int .i64 0]), 5, 104) := by kernel_rfl

theorem lists_block {w : World} {b : Nat} {v0 v1 v2 v3 v4 : Value} {t : TypeId} (h : w.heap[b]? = some (.cells #[v0, v1, v2, v3, v4] t (0, 0))) :
    w.cell? ⟨b, 0, none⟩ = some v0 ∧ w.cell? ⟨b, 1, none⟩ = some v1 ∧ w.cell? ⟨b, 2, none⟩ = some v2 ∧ w.cell? ⟨b, 3, none⟩ = some v3 ∧ w.cell? ⟨b, 4, none⟩ = some v4 ∧ ∀ o, w.frozen? ⟨b, o, none⟩ = false := by
  refine ⟨?_, ?_, ?_, ?_, ?_, fun o => by simp [World.frozen?, h]⟩ <;> rw [cell_of_row w b _ _ _ _ h] <;> rfl

/-- The loop of keepBytes. -/
def markK (n k : Nat) (xs : List UInt8) : List UInt8 := marks n k ++ xs.drop k
theorem markK_succ {n k : Nat} {xs : List UInt8} (h : k < xs.length) : (markK n k xs).set k (mk n k) = markK n (k + 1) xs := by
  unfold markK
  rw [set_next _ (marks_length n k) h, marks_succ]
theorem markK_all {n : Nat} {xs : List UInt8} : markK n xs.length xs = marks n xs.length := by simp [markK]

theorem keep_step {S : Nat → Prop} {w wX w1 : World} {xb len m : Nat} {X : Array Value} {v va : Value} {xs news : List Value} {o : Obj} (hx : wX.heap[xb]? = some (.cells X 65 (0, 0))) (hxb : w.heap.size ≤ xb) (hch : Chg S w wX) (hS : ∀ j, v.ownBlock = some j → w.heap.size ≤ j ∨ S j) (hl : wX.ownsRow 0 5 1 v len xs)
    (hown1 : w1.ownsRow 0 5 1 va (len + m) (xs ++ news)) (hg1 : (wX.alloc o).grownBy w1 v.ownBlock) (happ : Appd (wX.alloc o) w1 v va len m) (i : Nat) :
    (w1.setCell ⟨xb, i, none⟩ va).heap[xb]? = some (.cells (X.setIfInBounds i va) 65 (0, 0)) ∧ Chg S w (w1.setCell ⟨xb, i, none⟩ va) ∧ (w1.setCell ⟨xb, i, none⟩ va).ownsRow 0 5 1 v len xs ∧
      (w1.setCell ⟨xb, i, none⟩ va).ownsRow 0 5 1 va (len + m) (xs ++ news) ∧
      (∀ v0 k ys, wX.ownsRow 0 5 1 v0 k ys → (∀ g cap, v = .slice (some ⟨g, 0, none⟩) len cap → len + m ≤ cap → v0 = .slice (some ⟨g, 0, none⟩) k cap ∧ k ≤ len + m ∧ ys = (xs ++ news).take (k * 1)) → (w1.setCell ⟨xb, i, none⟩ va).ownsRow 0 5 1 v0 k ys) ∧
      (∀ j, va.ownBlock = some j → v.ownBlock = some j ∨ w.heap.size ≤ j) := by
  have hx1 : w1.heap[xb]? = some (.cells X 65 (0, 0)) := kept_block (hl.alloc o) hg1 (alloc_block hx o) (by decide)
  have hc1 : Chg S w w1 := (hch.alloc o).trans (Chg.of_grown hg1 (fun j hj => (hS j hj)))
  have hset : Chg (fun j => j = xb) w1 (w1.setCell ⟨xb, i, none⟩ va) := (Chg.refl (fun j => j = xb) w1).setCell (p := ⟨xb, i, none⟩) (Or.inr rfl) _
  have keep : ∀ v0 k ys, w1.ownsRow 0 5 1 v0 k ys → (w1.setCell ⟨xb, i, none⟩ va).ownsRow 0 5 1 v0 k ys := fun v0 k ys h => owns_chg h hset (fun j hj e => by subst e; exact owns_ne h hx1 (by decide) hj)
  refine ⟨block_setCell hx1, hc1.setCell (p := ⟨xb, i, none⟩) (Or.inl hxb) _, keep _ _ _ (app_pre hown1 happ (hl.alloc o) (fun g cap hv hr => ⟨hv, by omega, ?_⟩)), keep _ _ _ hown1, fun v0 k ys h hp => keep _ _ _ (app_pre hown1 happ (h.alloc o) hp), fun j hj => ?_⟩
  · rw [← hl.1, List.take_left]
  · rcases happ.block with e | e
    · rw [e] at hj; exact Or.inl hj
    · rw [e] at hj; simp at hj
      have := hch.size
      exact Or.inr (by omega)

/-- The end of keepBytes. -/
def KeptB (w w' : World) (b : Nat) (cs : Array Value) (kv v : Value) (recs : List RecB) (len : Nat) : Prop :=
  ∃ kv' r, w'.heap[b]? = some (.cells (cs.setIfInBounds 9 kv') 46 (0, 0)) ∧ w'.ownsRow 0 65 5 kv' (recs ++ [r]).length (recCells (recs ++ [r])) ∧ r.l = v ∧ r.n = recs.length ∧ r.len = len ∧ FamB w' r ∧
    (∀ u ∈ [r.l, r.a, r.b, r.c], ∀ j, u.ownBlock = some j → v.ownBlock = some j ∨ w.heap.size ≤ j) ∧ Chg (fun j => j = b ∨ kv.ownBlock = some j ∨ v.ownBlock = some j) w w' ∧ (∀ j, kv'.ownBlock = some j → kv.ownBlock = some j ∨ w.heap.size ≤ j)

theorem keptB_end {w w6 w7 : World} {b base len : Nat} {cs : Array Value} {kv kv' v va vb vc : Value} {recs : List RecB} {xs : List UInt8} {X : List Value} {o : Obj} (hV : w.ownsRow base 5 1 v xs.length (xs.map B)) (hB : w.heap[b]? = some (.cells cs 46 (0, 0))) (hR : w.ownsRow 0 65 5 kv recs.length (recCells recs))
    (hch6 : Chg (fun j => v.ownBlock = some j) w w6) (hfam : FamB w6 ⟨v, va, vb, vc, recs.length, len⟩) (hba : ∀ j, va.ownBlock = some j → v.ownBlock = some j ∨ w.heap.size ≤ j) (hbb : ∀ j, vb.ownBlock = some j → v.ownBlock = some j ∨ w.heap.size ≤ j) (hbc : ∀ j, vc.ownBlock = some j → v.ownBlock = some j ∨ w.heap.size ≤ j)
    (hX : X = [v, va, vb, vc, .int .i64 recs.length]) (hown7 : w7.ownsRow 0 65 5 kv' (recs.length + 1) (recCells recs ++ X)) (hg7 : (w6.alloc o).drew.grownBy w7 kv.ownBlock) (happ7 : Appd (w6.alloc o).drew w7 kv kv' recs.length 1) (hb7 : w7.heap[b]? = some (.cells cs 46 (0, 0))) :
    KeptB w (w7.setCell ⟨b, 9, none⟩ kv') b cs kv v recs len := by
  have hr6 := owns_chg hR hch6 (fun j hj e => rows_ne hR hV (by decide) hj e)
  have hb6 : w6.heap[b]? = some (.cells cs 46 (0, 0)) := by
    rw [hch6.block b (lt_of_block hB) (owns_ne hV hB (by decide))]; exact hB
  have hc7 : Chg (fun j => kv.ownBlock = some j) w6 w7 := (((Chg.refl _ w6).alloc o).drew).trans (Chg.of_grown hg7 (fun j hj => Or.inr hj))
  have hset : Chg (fun j => j = b) w7 (w7.setCell ⟨b, 9, none⟩ kv') := (Chg.refl (fun j => j = b) w7).setCell (p := ⟨b, 9, none⟩) (Or.inr rfl) _
  have hc8 : Chg (fun j => j = b ∨ kv.ownBlock = some j) w6 (w7.setCell ⟨b, 9, none⟩ kv') := (hc7.mono (fun j _ hj => Or.inr hj)).trans (hset.mono (fun j _ hj => Or.inr (Or.inl hj)))
  have sep : ∀ u k ys, w6.ownsRow 0 5 1 u k ys → ∀ j, u.ownBlock = some j → ¬ (j = b ∨ kv.ownBlock = some j) := by
    rintro u k ys h j hj (rfl | e)
    · exact owns_ne h hb6 (by decide) hj
    · exact rows_ne hr6 h (by decide) e hj
  refine ⟨kv', ⟨v, va, vb, vc, recs.length, len⟩, block_setCell hb7, ?_, rfl, rfl, rfl, ?_, ?_, ?_, ?_⟩
  · rw [List.length_append, recCells_append]
    refine owns_chg (w := w7) ?_ hset (fun j hj e => by subst e; exact owns_ne hown7 hb7 (by decide) hj)
    rw [hX] at hown7
    exact hown7
  · exact ⟨owns_chg hfam.l hc8 (sep _ _ _ hfam.l), owns_chg hfam.a hc8 (sep _ _ _ hfam.a), owns_chg hfam.b hc8 (sep _ _ _ hfam.b), owns_chg hfam.c hc8 (sep _ _ _ hfam.c)⟩
  · intro u hu j hj
    simp at hu
    rcases hu with rfl | rfl | rfl | rfl
    · exact Or.inl hj
    · exact hba j hj
    · exact hbb j hj
    · exact hbc j hj
  · refine (hch6.mono (fun j _ hj => Or.inr (Or.inr hj))).trans (hc8.mono ?_)
    rintro j _ (e | e)
    · exact Or.inr (Or.inl e)
    · exact Or.inr (Or.inr (Or.inl e))
  · intro j hj
    rcases happ7.block with e | e
    · rw [e] at hj; exact Or.inl hj
    · rw [e] at hj; simp at hj
      have := hch6.size
      exact Or.inr (by omega)

theorem markByte_int (n : Nat) (x : Int) (w : World) (hn : n ≤ 1099511627776) (h0 : 0 ≤ x) (h1 : x ≤ 1099511627776) :
    Calls Tryz.prog 63 #[.int .i64 n, .int .i64 x] w fun e w' => e = .returned (B (mk n x.toNat)) ∧ w' = w := by
  have h := markByte_any n x.toNat w hn (by omega)
  have e : ((x.toNat : Nat) : Int) = x := by omega
  rw [e] at h
  exact h

theorem take_pre {M A R : List Value} {n k : Nat} (hM : M.length = n * 1) (hA : A.length = k) : (M ++ (A ++ R)).take ((n + k) * 1) = M ++ A := by
  rw [← List.append_assoc, List.take_left' (by simp; omega)]

theorem marks_two (n a : Nat) : marks n (a + 2) = marks n a ++ [mk n a, mk n (a + 1)] := by
  rw [marks_succ, marks_succ]; simp
theorem marks_three (n a : Nat) : marks n (a + 3) = marks n a ++ [mk n a, mk n (a + 1), mk n (a + 2)] := by
  rw [marks_succ, marks_succ, marks_succ]; simp

set_option maxRecDepth 100000 in
set_option maxHeartbeats 6400000 in
theorem keepBytes_any (b : Nat) (cs : Array Value) (kv v : Value) (recs : List RecB) (xs : List UInt8) (base : Nat) (w : World) (hb : w.heap[b]? = some (.cells cs 46 (0, 0))) (hkv : cs[9]? = some kv)
    (hrow : w.ownsRow 0 65 5 kv recs.length (recCells recs)) (hv : w.ownsRow base 5 1 v xs.length (xs.map B)) (hn : recs.length ≤ 67108864) (hx : xs.length ≤ 4294967296) :
    Calls Tryz.prog 26 #[.pointer (some ⟨b, 9, none⟩), v] w fun e w' => e = .returned (.tuple #[]) ∧ KeptB w w' b cs kv v recs xs.length := by
  obtain ⟨i0, hi, hz0, hz1, hz2⟩ := info_parts Tryz.info5
  obtain ⟨j0, ji, jz0, jz1, jz2⟩ := info_parts Tryz.info65
  obtain ⟨sv, cv, rfl⟩ := slice_len hv
  obtain ⟨sk, ck, rfl⟩ := slice_len hrow
  have hc9 : w.cell? ⟨b, 9, none⟩ = some (.slice sk recs.length ck) := by rw [cell_of_row w b _ _ _ _ hb]; exact hkv
  have HV := hide hv
  have HB := hide hb
  have HR := hide hrow
  clear hv hb hrow
  go_enter Tryz.func26, Tryz.ntmps26
  go_wp2
  go_loopw [6] (fun i wr => ∃ k : Nat, k ≤ xs.length ∧ i = .int .i64 k ∧ Chg (fun j => (Value.slice sv xs.length cv).ownBlock = some j) w wr ∧ wr.ownsRow base 5 1 (.slice sv xs.length cv) xs.length ((markK recs.length k xs).map B)) (fun i _ => xs.length - (intOf i).toNat)
  case atStart => exact ⟨0, Nat.zero_le _, rfl, Chg.refl _ _, by simpa [markK, marks] using HV.out⟩
  case round =>
    obtain ⟨k, hk, rfl, hch, hown⟩ := hrel
    by_cases hlt : k < xs.length
    · obtain ⟨g, hg, hcv⟩ := slice_some hown (by omega)
      subst hg
      have hcl := owns_cell hown (j := k) hlt
      have hfz := owns_free hown k
      have HS := hide (owns_set hown k (mk recs.length k))
      clear hown
      go_wp2_with (go_at_call 63; refine (markByte_any _ _ _ (by omega) (by omega)).mono ?_; rintro e w' ⟨rfl, hw'⟩; subst hw')
      go_roundw
      case rel => exact ⟨k + 1, by omega, by go_num, hch.setCell (p := ⟨g, k, none⟩) (Or.inr rfl) _, by rw [← markK_succ hlt]; exact HS.out⟩
      case measure => simp [intOf]; omega
    · have hke : k = xs.length := by omega
      subst hke
      rw [markK_all] at hown
      clear hlt hk
      obtain ⟨M0, hM0⟩ : ∃ M, M = (marks recs.length xs.length).map B := ⟨_, rfl⟩
      have hbw : wr.heap[b]? = some (.cells cs 46 (0, 0)) := by
        rw [hch.block b (lt_of_block HB.out) (owns_ne HV.out HB.out (by decide))]; exact HB.out
      have hown0 := owns_base hown (base' := 0) (fun _ _ => Nat.zero_le _)
      rw [← hM0] at hown0
      have HM0 := hide hM0
      have HBW := hide hbw
      have HCH := hide hch
      clear hch hbw hc9 hown hM0
      go_wp2_with (first | (go_at_call 63; refine (markByte_any _ _ _ (by omega) (by omega)).mono ?_; rintro e w' ⟨rfl, hw'⟩; rw [hw']; clear hw' w') | (at_builtin; refine wpList_app_full _ rfl (.tmp 29) (.tmp 33) 54 rfl 5 i0 (.int .u8 0) 1 1 Tryz.underlying54 hi hz0 hz1 hz2 rfl (by decide) _ _ _ rfl ((hown0.alloc _).alloc _) ⟨wr.heap.size + 1, 0, none⟩ 1 1 [B (mk recs.length xs.length)] rfl (by decide) rfl ?c0 ?c1 ?c2 ?c3 ?_))
      case c0 =>
        have := lies_row (w := wr.alloc (.cells #[.slice sv xs.length cv, .slice none 0 0, .slice none 0 0, .slice none 0 0, .int .i64 recs.length] 65)) (xs := [B (mk recs.length xs.length)]) (t := 5)
        simpa using this
      case c1 => exact bytes_one [mk recs.length xs.length]
      case c2 => unfold maxLen; omega
      case c3 => omega
      intro va w1 hown1 hg1 happ1
      have hsz0 := HCH.out.size
      obtain ⟨hx2, hch2, hl2, ha2, -, hba⟩ := keep_step (heap_alloc_new wr _) hsz0 (HCH.out.alloc _) (fun j hj => Or.inr hj) (hown0.alloc _) hown1 hg1 happ1 1
      have hra : ∀ g cap, Value.slice sv xs.length cv = .slice (some ⟨g, 0, none⟩) xs.length cap → xs.length + 1 ≤ cap → va = .slice (some ⟨g, 0, none⟩) (xs.length + 1) cap := fun g cap e h => happ1.room e h
      obtain ⟨sa, ca, rfl⟩ := slice_len hown1
      have hxw1 : w1.heap[wr.heap.size]? = some (.cells #[.slice sv xs.length cv, .slice none 0 0, .slice none 0 0, .slice none 0 0, .int .i64 recs.length] 65 (0, 0)) := kept_block ((hown0.alloc _).alloc _) hg1 (alloc_block (heap_alloc_new wr _) _) (by decide)
      obtain ⟨y0, y1, y2, y3, y4, yf⟩ := lists_block hxw1
      have yf1 := yf 1
      obtain ⟨w2, hw2⟩ : ∃ w2, w1.setCell ⟨wr.heap.size, 1, none⟩ (.slice sa (xs.length + 1) ca) = w2 := ⟨_, rfl⟩
      rw [hw2] at hx2 hch2 hl2 ha2
      have HX2 := hide hx2
      have HC2 := hide hch2
      have HA2 := hide ha2
      have HRA := hide hra
      have HBA := hide hba
      clear hx2 hch2 ha2 hra hba hown1 hg1 happ1 hown0 hxw1 yf
      go_wp2_with (first | (go_at_call 63; refine (markByte_int recs.length _ _ (by omega) (by omega) (by omega)).mono ?_; rintro e w' ⟨rfl, hw'⟩; rw [hw']; clear hw' w') | (at_builtin; refine wpList_app_full _ rfl (.tmp 36) (.tmp 44) 54 rfl 5 i0 (.int .u8 0) 1 1 Tryz.underlying54 hi hz0 hz1 hz2 rfl (by decide) _ _ _ rfl (hl2.alloc _) ⟨w2.heap.size, 0, none⟩ 2 2 [B (mk recs.length (xs.length : Int).toNat), B (mk recs.length ((xs.length : Int) + 1).toNat)] rfl (by decide) rfl ?d0 ?d1 ?d2 ?d3 ?_))
      case d0 => exact lies_row
      case d1 => exact bytes_one [mk recs.length (xs.length : Int).toNat, mk recs.length ((xs.length : Int) + 1).toNat]
      case d2 => unfold maxLen; omega
      case d3 => omega
      intro vb w3 hown3 hg3 happ3
      have hxb : w.heap.size ≤ wr.heap.size := HCH.out.size
      obtain ⟨hx4, hch4, hl4, hb4, hk4, hbb⟩ := keep_step HX2.out hxb HC2.out (fun j hj => Or.inr hj) hl2 hown3 hg3 happ3 2
      have ha4 := hk4 _ _ _ HA2.out (fun g cap e h => ⟨HRA.out g cap e (by omega), by omega, (take_pre (A := [_]) (R := [_]) hl2.1 rfl).symm⟩)
      have hrb : ∀ g cap, Value.slice sv xs.length cv = .slice (some ⟨g, 0, none⟩) xs.length cap → xs.length + 2 ≤ cap → vb = .slice (some ⟨g, 0, none⟩) (xs.length + 2) cap := fun g cap e h => happ3.room e h
      obtain ⟨sb, cb, rfl⟩ := slice_len hown3
      have hxw3 := kept_block (hl2.alloc _) hg3 (alloc_block HX2.out _) (by decide)
      obtain ⟨z0, z1, z2, z3, z4, zf⟩ := lists_block hxw3
      have zf2 := zf 2
      obtain ⟨w4, hw4⟩ : ∃ w4, w3.setCell ⟨wr.heap.size, 2, none⟩ (.slice sb (xs.length + 2) cb) = w4 := ⟨_, rfl⟩
      rw [hw4] at hx4 hch4 hl4 hb4 ha4
      have HX4 := hide hx4
      have HC4 := hide hch4
      have HA4 := hide ha4
      have HB4 := hide hb4
      have HRB := hide hrb
      have HBB := hide hbb
      clear hx4 hch4 ha4 hb4 hrb hbb hown3 hg3 happ3 hl2 hxw3 zf hk4 HX2 HC2 HA2 hw2 y0 y1 y2 y3 y4 yf1
      go_wp2_with (first | (go_at_call 63; refine (markByte_int recs.length _ _ (by omega) (by omega) (by omega)).mono ?_; rintro e w' ⟨rfl, hw'⟩; rw [hw']; clear hw' w') | (at_builtin; refine wpList_app_full _ rfl (.tmp 47) (.tmp 59) 54 rfl 5 i0 (.int .u8 0) 1 1 Tryz.underlying54 hi hz0 hz1 hz2 rfl (by decide) _ _ _ rfl (hl4.alloc _) ⟨w4.heap.size, 0, none⟩ 3 3 [B (mk recs.length (xs.length : Int).toNat), B (mk recs.length ((xs.length : Int) + 1).toNat), B (mk recs.length ((xs.length : Int) + 2).toNat)] rfl (by decide) rfl ?e0 ?e1 ?e2 ?e3 ?_))
      case e0 => exact lies_row
      case e1 => exact bytes_one [mk recs.length (xs.length : Int).toNat, mk recs.length ((xs.length : Int) + 1).toNat, mk recs.length ((xs.length : Int) + 2).toNat]
      case e2 => unfold maxLen; omega
      case e3 => omega
      intro vc w5 hown5 hg5 happ5
      obtain ⟨hx6, hch6, hl6, hc6, hk6, hbc⟩ := keep_step HX4.out hxb HC4.out (fun j hj => Or.inr hj) hl4 hown5 hg5 happ5 3
      have ha6 := hk6 _ _ _ HA4.out (fun g cap e h => ⟨HRA.out g cap e (by omega), by omega, (take_pre (A := [_]) (R := [_, _]) hl4.1 rfl).symm⟩)
      have hb6 := hk6 _ _ _ HB4.out (fun g cap e h => ⟨HRB.out g cap e (by omega), by omega, (take_pre (A := [_, _]) (R := [_]) hl4.1 rfl).symm⟩)
      obtain ⟨sc, cc, rfl⟩ := slice_len hown5
      have hxw5 := kept_block (hl4.alloc _) hg5 (alloc_block HX4.out _) (by decide)
      obtain ⟨p0, p1, p2, p3, p4, pf⟩ := lists_block hxw5
      have pf3 := pf 3
      obtain ⟨w6, hw6⟩ : ∃ w6, w5.setCell ⟨wr.heap.size, 3, none⟩ (.slice sc (xs.length + 3) cc) = w6 := ⟨_, rfl⟩
      rw [hw6] at hx6 hch6 hl6 hc6 ha6 hb6
      have HX6 := hide hx6
      have HC6 := hide hch6
      have HA6 := hide ha6
      have HB6 := hide hb6
      have HC6' := hide hc6
      have HL6 := hide hl6
      have HBC := hide hbc
      obtain ⟨q0, q1, q2, q3, q4, qf⟩ := lists_block hx6
      have hb6w : w6.heap[b]? = some (.cells cs 46 (0, 0)) := by
        rw [hch6.block b (lt_of_block HB.out) (owns_ne HV.out HB.out (by decide))]; exact HB.out
      have hrow6 := owns_chg HR.out hch6 (fun j hj e => rows_ne HR.out HV.out (by decide) hj e)
      have hc9 : w6.cell? ⟨b, 9, none⟩ = some (.slice sk recs.length ck) := by rw [cell_of_row w6 b _ _ _ _ hb6w]; exact hkv
      have hf9 : w6.frozen? ⟨b, 9, none⟩ = false := by simp [World.frozen?, hb6w]
      have HB6w := hide hb6w
      clear hx6 hch6 ha6 hb6 hc6 hl6 hbc hown5 hg5 happ5 hl4 hxw5 pf hk6 HX4 HC4 HA4 HB4 hw4 z0 z1 z2 z3 z4 zf2 qf hb6w
      have hbx : b ≠ wr.heap.size := by have := lt_of_block HB.out; omega
      have HONE : Hid (∀ u ∈ [Value.slice sv xs.length cv, .slice sa (xs.length + 1) ca, .slice sb (xs.length + 2) cb, .slice sc (xs.length + 3) cc, .int .i64 recs.length], u.oneCell' = true) := by
        intro u hu
        simp at hu
        rcases hu with rfl | rfl | rfl | rfl | rfl <;> rfl
      have HN1 : Hid (recs.length + 1 ≤ maxLen) := by show _ ≤ _; unfold maxLen; omega
      have HN2 : Hid ((recs.length + 1) * 104 ≤ 140737488355328) := by show _ ≤ _; omega
      obtain ⟨X, hX⟩ : ∃ X, X = [Value.slice sv xs.length cv, .slice sa (xs.length + 1) ca, .slice sb (xs.length + 2) cb, .slice sc (xs.length + 3) cc, .int .i64 recs.length] := ⟨_, rfl⟩
      have HOWN : Hid ((w6.alloc (.cells #[.slice sv xs.length cv, .slice sa (xs.length + 1) ca, .slice sb (xs.length + 2) cb, .slice sc (xs.length + 3) cc, .int .i64 recs.length] 65)).drew.ownsRow 0 65 5 (.slice sk recs.length ck) recs.length (recCells recs)) := hrow6.alloc _
      have HCEL : Hid (∀ j u, X[j]? = some u → (w6.alloc (.cells #[.slice sv xs.length cv, .slice sa (xs.length + 1) ca, .slice sb (xs.length + 2) cb, .slice sc (xs.length + 3) cc, .int .i64 recs.length] 65)).drew.cell? ((⟨w6.heap.size, 0, none⟩ : Addr).add j) = some u) := by
        subst hX
        exact fun j u hu => lies_row j u hu
      have HBA6 : Hid ((w6.alloc (.cells #[.slice sv xs.length cv, .slice sa (xs.length + 1) ca, .slice sb (xs.length + 2) cb, .slice sc (xs.length + 3) cc, .int .i64 recs.length] 65)).drew.heap[b]? = some (.cells cs 46 (0, 0))) := alloc_block HB6w.out _
      rw [← hX] at HONE
      have HXL : Hid (X.length = 1 * 5) := by rw [hX]; rfl
      have HX := hide hX
      clear hX
      have c9a : (w6.alloc (.cells #[.slice sv xs.length cv, .slice sa (xs.length + 1) ca, .slice sb (xs.length + 2) cb, .slice sc (xs.length + 3) cc, .int .i64 recs.length] 65)).cell? ⟨b, 9, none⟩ = some (.slice sk recs.length ck) := by
        rw [cell_of_row _ b _ _ _ _ (alloc_block HB6w.out _)]; exact hkv
      go_wp2
      go_region_law (refine step_app_full rfl (.tmp 66) (.tmp 68) 38 rfl 65 j0 (.agg #[.slice none 0 0, .slice none 0 0, .slice none 0 0, .slice none 0 0, .int .i64 0]) 5 104 Tryz.underlying38 ji jz0 jz1 jz2 rfl (by decide) (.slice sk recs.length ck) recs.length (recCells recs) (by simp [Act.eval]) HOWN.out ⟨w6.heap.size, 0, none⟩ 1 1 X (by simp [Act.eval]) (by decide) HXL.out HCEL.out HONE.out HN1.out HN2.out ?_; intro kv' w7 hown7 hg7 happ7; obtain ⟨sk', ck', hkv'⟩ := slice_len hown7; subst hkv'; have hb7 := kept_block HOWN.out hg7 HBA6.out (by decide); have c7 : w7.cell? ⟨b, 9, none⟩ = some (.slice sk recs.length ck) := (by rw [cell_of_row w7 b _ _ _ _ hb7]; exact hkv); have f7 : w7.frozen? ⟨b, 9, none⟩ = false := (by simp [World.frozen?, hb7]))
      all_goals go_wp2
      all_goals refine bodyPost_end (results_none rfl _ _ _) rfl ⟨rfl, ?_⟩
      all_goals refine keptB_end HV.out HB.out HR.out HC6.out ⟨?_, ?_, ?_, ?_⟩ HBA.out HBB.out HBC.out HX.out hown7 hg7 happ7 hb7
      all_goals first
        | (have h := HL6.out; rw [HM0.out] at h; exact h)
        | (have h := HA6.out; rw [HM0.out] at h; show World.ownsRow _ _ _ _ _ _ ((marks recs.length (xs.length + 1)).map B); rw [marks_succ, List.map_append]; exact h)
        | (have h := HB6.out; rw [HM0.out] at h; show World.ownsRow _ _ _ _ _ _ ((marks recs.length (xs.length + 2)).map B); rw [marks_two, List.map_append]; exact h)
        | (have h := HC6'.out; rw [HM0.out] at h; show World.ownsRow _ _ _ _ _ _ ((marks recs.length (xs.length + 3)).map B); rw [marks_three, List.map_append]; exact h)
end Go.Proofs.YtghongdbohjaaaaGreatDoor
/-
  sluicelaw.allFrames.
-/
namespace Go.Proofs.YtghongdbohjaaaaGreatDoor
open Go.RowKit

/-- Frames that are all the mark. -/
def fillF (m : Int) : Nat → List Value
  | 0 => []
  | k + 1 => .int .i64 m :: .int .i64 m :: .int .i64 m :: .slice none 0 0 :: fillF m k
theorem fillF_length (m : Int) (k : Nat) : (fillF m k).length = k * 4 := by
  induction k with
  | zero => rfl
  | succ k ih => simp [fillF, ih]; omega
theorem fillF_get (m : Int) {n k : Nat} (h : k < n) : (fillF m n)[k * 4]? = some (.int .i64 m) ∧ (fillF m n)[k * 4 + 1]? = some (.int .i64 m) ∧ (fillF m n)[k * 4 + 2]? = some (.int .i64 m) ∧ (fillF m n)[k * 4 + 3]? = some (.slice none 0 0) := by
  induction n generalizing k with
  | zero => omega
  | succ n ih =>
    cases k with
    | zero => simp [fillF]
    | succ k =>
      have := ih (k := k) (by omega)
      rw [Nat.succ_mul]
      simpa [fillF, Nat.add_assoc] using this
theorem fillF_add (m : Int) (a b : Nat) : fillF m (a + b) = fillF m a ++ fillF m b := by
  induction a with
  | zero => simp [fillF]
  | succ a ih => rw [Nat.succ_add]; simp [fillF, ih]

set_option maxRecDepth 100000 in
set_option maxHeartbeats 1600000 in
theorem allFrames_true (v : Value) (m : Int) (n : Nat) (w : World) (h : w.ownsRow 0 56 4 v n (fillF m n)) (hn : n ≤ 4294967296) :
    Calls Tryz.prog 18 #[v, .int .i64 m] w fun e w' => e = .returned (.bool true) ∧ w' = w := by
  obtain ⟨sv, cv, rfl⟩ := slice_len h
  have H := hide h
  clear h
  go_enter Tryz.func18, Tryz.ntmps18
  go_wp2
  go_loop [5] (fun i => ∃ k : Nat, k ≤ n ∧ i = .int .i64 k) (fun i => n - (intOf i).toNat)
  case atStart => exact ⟨0, Nat.zero_le _, rfl⟩
  case round =>
    obtain ⟨k, hk, rfl⟩ := hrel
    by_cases hlt : k < n
    · obtain ⟨g, hg, hcv⟩ := slice_some H.out (by omega)
      subst hg
      obtain ⟨e0, e1, e2, e3⟩ := fillF_get m hlt
      have c0 : w.cell? ⟨g, k * 4, none⟩ = some (.int .i64 m) := by rw [H.out.cellAt _ (by omega)]; exact e0
      have c1 : w.cell? ⟨g, k * 4 + 1, none⟩ = some (.int .i64 m) := by rw [H.out.cellAt _ (by omega)]; exact e1
      have c2 : w.cell? ⟨g, k * 4 + 2, none⟩ = some (.int .i64 m) := by rw [H.out.cellAt _ (by omega)]; exact e2
      have c3 : w.cell? ⟨g, k * 4 + 3, none⟩ = some (.slice none 0 0) := by rw [H.out.cellAt _ (by omega)]; exact e3
      clear e0 e1 e2 e3 H
      go_wp2
      go_round
      case rel => exact ⟨k + 1, by omega, by go_num⟩
      case measure => simp [intOf]; omega
    · go_wp2
      go_ret
      exact ⟨rfl, rfl⟩
end Go.Proofs.YtghongdbohjaaaaGreatDoor
