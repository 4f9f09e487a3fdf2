import Derived.Test.YtlhlmgfblbpdpaaGreatDoorRows
import Derived.WalkKit
import Derived.WalkSpells
import Derived.WalkLawsBesides
import Derived.Laws.AppendOwnNone
import Derived.BigQuiet
import Derived.BigRegion
import Derived.Deep.QuietTactic
import Derived.Lib.Strings
import Derived.Lib.Walk
import Derived.Lib.Bytealg
import Derived.Laws.BitsAllLaws
set_option linter.unusedVariables false
set_option linter.unusedSimpArgs false
/-
  General facts: rows that are owned, what a call may change, bytes in memory, append.
-/
namespace Go.Proofs.YtlhlmgfblbpdpaaGreatDoor
set_option linter.unusedVariables false
set_option linter.unusedSimpArgs false
open Go.RowKit

theorem getD_lt {α : Type} (l : List α) (i : Nat) (d : α) (h : i < l.length) : l.getD i d = l[i] := by simp [List.getD, h]

theorem hide {p : Prop} (h : p) : Hid p := h

/-- A byte in a cell. -/
abbrev B (c : UInt8) : Value := .int .u8 (c.toNat : Int)

/-- Of the blocks that were there those outside S are as they were. -/
structure Chg (S : Nat → Prop) (w w' : World) : Prop where
  os : w'.os = w.os
  tape : w'.tape = w.tape
  output : w'.output = w.output
  size : w.heap.size ≤ w'.heap.size
  block : ∀ k, k < w.heap.size → ¬ S k → w'.heap[k]? = w.heap[k]?

theorem Chg.refl (S : Nat → Prop) (w : World) : Chg S w w := ⟨rfl, rfl, rfl, Nat.le_refl _, fun _ _ _ => rfl⟩
theorem Chg.mono {S T : Nat → Prop} {w w' : World} (h : Chg S w w') (hs : ∀ k, k < w.heap.size → S k → T k) : Chg T w w' :=
  ⟨h.os, h.tape, h.output, h.size, fun k hk ht => h.block k hk fun s => ht (hs k hk s)⟩
theorem Chg.trans {S : Nat → Prop} {a b c : World} (h : Chg S a b) (k : Chg (fun i => a.heap.size ≤ i ∨ S i) b c) : Chg S a c :=
  ⟨k.os.trans h.os, k.tape.trans h.tape, k.output.trans h.output, Nat.le_trans h.size k.size,
    fun i hi hs => (k.block i (Nat.lt_of_lt_of_le hi h.size) (by rintro (x | x); · omega
                                                                 · exact hs x)).trans (h.block i hi hs)⟩
theorem Chg.of_below {S : Nat → Prop} {w w' : World} (h : Below w.heap.size w w') : Chg S w w' := ⟨h.os, h.tape, h.output, h.size, fun k hk _ => h.block k hk⟩
theorem Chg.below {w w' : World} (h : Chg (fun _ => False) w w') : Below w.heap.size w w' := ⟨h.os, h.tape, h.output, h.size, fun k hk => h.block k hk id⟩
theorem Chg.of_grown {S : Nat → Prop} {w w' : World} {row : Option Nat} (h : w.grownBy w' row) (hs : ∀ k, row = some k → S k) : Chg S w w' :=
  ⟨h.os, h.tape, h.output, h.size, fun k hk hn => h.block k hk fun e => hn (hs k e.symm)⟩
theorem Chg.setCell {S : Nat → Prop} {a w : World} (h : Chg S a w) {p : Addr} (hp : a.heap.size ≤ p.block ∨ S p.block) (u : Value) : Chg S a (w.setCell p u) :=
  h.trans ⟨rfl, rfl, rfl, by simp [World.setCell], fun k _ hn => Below.heap_setCell _ _ _ _ (fun e => hn (by rw [e]; exact hp))⟩
theorem Chg.alloc {S : Nat → Prop} {a w : World} (h : Chg S a w) (o : Obj) : Chg S a (w.alloc o) :=
  h.trans ⟨rfl, rfl, rfl, by simp, fun k hk _ => Below.heap_alloc _ _ _ hk⟩
theorem Chg.drew {S : Nat → Prop} {a w : World} (h : Chg S a w) : Chg S a w.drew := ⟨h.os, h.tape, h.output, h.size, h.block⟩
theorem Chg.drewN {S : Nat → Prop} {a w : World} (h : Chg S a w) (n : Nat) : Chg S a (w.drewN n) := h.trans ⟨rfl, rfl, rfl, Nat.le_refl _, fun _ _ _ => rfl⟩
/-- Behind a change that touches none of S: a step that is 'Below' the later world. -/
theorem Chg.then_below {S : Nat → Prop} {a b c : World} (h : Chg S a b) (k : Below b.heap.size b c) : Chg S a c := h.trans (Chg.of_below k)

theorem Chg.cell {S : Nat → Prop} {w w' : World} (h : Chg S w w') {p : Addr} (hp : p.block < w.heap.size) (hs : ¬ S p.block) : w'.cell? p = w.cell? p := World.cell?_of_block (w := w) (h.block p.block hp hs)
theorem Chg.frozen {S : Nat → Prop} {w w' : World} (h : Chg S w w') {p : Addr} (hp : p.block < w.heap.size) (hs : ¬ S p.block) : w'.frozen? p = w.frozen? p := World.frozen?_of_block (w := w) (h.block p.block hp hs)

/-- What is owned stays owned where its block is not touched. -/
theorem owns_chg {S : Nat → Prop} {w w' : World} {base e size n : Nat} {v : Value} {xs : List Value} (h : w.ownsRow base e size v n xs) (hc : Chg S w w') (hs : ∀ k, v.ownBlock = some k → ¬ S k) : w'.ownsRow base e size v n xs := by
  refine ⟨h.1, ?_⟩
  rcases h.2 with hn | ⟨g, cap, cur, rfl, hb, hgg, rest⟩
  · exact .inl hn
  · refine .inr ⟨g, cap, cur, rfl, hb, ?_, rest⟩
    rw [hc.block g (Array.getElem?_eq_some_iff.1 hgg).1 (hs g rfl)]
    exact hgg
theorem owns_base {w : World} {base base' e size n : Nat} {v : Value} {xs : List Value} (h : w.ownsRow base e size v n xs) (hb : ∀ k, v.ownBlock = some k → base' ≤ k) : w.ownsRow base' e size v n xs := by
  refine ⟨h.1, ?_⟩
  rcases h.2 with hn | ⟨g, cap, cur, rfl, _, rest⟩
  · exact .inl hn
  · exact .inr ⟨g, cap, cur, rfl, hb g rfl, rest⟩
theorem owns_lt {w : World} {base e size n : Nat} {v : Value} {xs : List Value} (h : w.ownsRow base e size v n xs) {k : Nat} (hk : v.ownBlock = some k) : k < w.heap.size := (h.lt k hk).2
/-- A row of one element type is no block of another. -/
theorem owns_ne {w : World} {base e e' size n : Nat} {v : Value} {xs : List Value} {b : Nat} {cs : Array Value} {fr : Nat × Nat} (h : w.ownsRow base e size v n xs) (hb : w.heap[b]? = some (.cells cs e' fr)) (hne : e ≠ e') : v.ownBlock ≠ some b := by
  intro hk
  rcases h.2 with ⟨rfl, _⟩ | ⟨g, cap, cur, rfl, _, hgg, _⟩
  · simp [Value.ownBlock] at hk
  · simp [Value.ownBlock] at hk
    subst hk
    rw [hgg] at hb
    simp at hb
    exact hne hb.2.1

theorem block_setCell {w : World} {b i : Nat} {cs : Array Value} {t : TypeId} {fr : Nat × Nat} {u : Value} (h : w.heap[b]? = some (.cells cs t fr)) : (w.setCell ⟨b, i, none⟩ u).heap[b]? = some (.cells (cs.setIfInBounds i u) t fr) := by
  simp only [World.setCell, Array.getElem?_modify, ↓reduceIte, h, Option.map_some]
  rfl

theorem rows_ne {w : World} {b b' e e' s s' n n' : Nat} {v v' : Value} {xs xs' : List Value} (h : w.ownsRow b e s v n xs) (h' : w.ownsRow b' e' s' v' n' xs') (hne : e ≠ e') {k : Nat} (hk : v.ownBlock = some k) : v'.ownBlock ≠ some k := by
  rcases h.2 with ⟨rfl, _⟩ | ⟨g, cap, cur, rfl, _, hgg, _⟩
  · simp [Value.ownBlock] at hk
  · simp [Value.ownBlock] at hk
    subst hk
    exact owns_ne h' hgg (fun e => hne e.symm)

theorem drop_cons {l : List UInt8} {k : Nat} (h : k < l.length) : l.drop k = l.getD k 0 :: l.drop (k + 1) := by
  rw [getD_lt _ _ _ h]; exact List.drop_eq_getElem_cons h

/-- What is appended: nil, or cells that lie one behind the other. -/
def Lies (w : World) (x : Value) (m : Nat) (news : List Value) : Prop :=
  (x = .slice none 0 0 ∧ m = 0 ∧ news = []) ∨ ∃ ad c, x = .slice (some ad) m c ∧ ∀ j u, news[j]? = some u → w.cell? (ad.add j) = some u

theorem run_app {P : Program} (w : World) (t ty e : TypeId) (i : TypeInfo) (z : Value) (size bytes : Nat) (ht : P.underlying t = some (.slice e)) (hi : P.info? e = some i) (hz : i.zero = some z)
    (hsize : i.size = size) (hby : i.bytes = bytes) (hzs : z.cells.size = size) (hsz : 0 < size)
    (v : Value) (n : Nat) (xs : List Value) (hown : w.ownsRow 0 e size v n xs)
    (x : Value) (m : Nat) (news : List Value) (hl : news.length = m * size) (hnews : Lies w x m news) (h1 : ∀ u ∈ news, u.oneCell' = true)
    (h63 : n + m ≤ maxLen) (hbytes : (n + m) * bytes ≤ 140737488355328) :
    ∃ v' w', (Builtin.append_ #[t, t] ty #[v, x]).run P w = .ok v' w' ∧ w'.ownsRow 0 e size v' (n + m) (xs ++ news) ∧ w.grownBy w' v.ownBlock ∧
      (v'.ownBlock = v.ownBlock ∨ v'.ownBlock = some w.heap.size) := by
  have hsmall : n + m ≤ 9223372036854775807 := by simp only [maxLen] at h63; omega
  rcases hnews with ⟨rfl, rfl, rfl⟩ | ⟨ad, c, rfl, hcells⟩
  · refine ⟨v, w, run_append_owned_none (P := P) (w := w) 0 t ty e i size ht hi v n xs hown, by simpa using hown, ⟨rfl, rfl, rfl, Nat.le_refl _, fun _ _ _ => rfl⟩, Or.inl rfl⟩
  · obtain ⟨v', w', hr, h2, h3, h4⟩ := run_append_own (P := P) w 0 t ty e i z size bytes ht hi hz hsize hby hzs hsz v n xs hown ad m c news hl hcells h1 h63 hbytes (Nat.zero_le _)
    refine ⟨v', w', hr, h2, h3, ?_⟩
    subst hsize
    subst hby
    rcases hown.2 with ⟨rfl, rfl⟩ | ⟨g, cap, cur, rfl, hbg, hg, hnc, hcm, hcs, htake⟩
    · by_cases hm : m = 0
      · exact Or.inl (by rw [h4.2 ⟨rfl, hm⟩])
      · have h := run_append_nil (P := P) w t ty e i z ht hi hz ad m c news hl hcells (by omega) (by omega) (by have hb := hbytes; simp only [Nat.zero_add] at hb; omega)
        rw [h] at hr
        simp only [Result.ok.injEq] at hr
        exact Or.inr (by rw [← hr.1]; rfl)
    · by_cases hroom : n + m ≤ cap
      · have hfit : n * i.size + news.length ≤ cur.size := by rw [hl, hcs, ← Nat.add_mul]; exact Nat.mul_le_mul_right _ hroom
        have h := run_append_room (P := P) w t ty e i ht hi g n cap cur hg ad m c news hl hcells h1 hroom hfit
        rw [h] at hr
        simp only [Result.ok.injEq] at hr
        exact Or.inl (by rw [← hr.1]; rfl)
      · have holds : ∀ j u, xs[j]? = some u → w.cell? ((⟨g, 0, none⟩ : Addr).add j) = some u := hown.cells (g := g) rfl
        have h := run_append_grow (P := P) w t ty e i z ht hi hz ⟨g, 0, none⟩ n cap xs hown.1 holds ad m c news hl hcells (by omega) (by omega) (growslice_fits (by omega) hbytes)
        rw [h] at hr
        simp only [Result.ok.injEq] at hr
        exact Or.inr (by rw [← hr.1]; rfl)

/-- As a law for the walk. -/
theorem wpList_app {P : Program} (w : World) {ops : Array Oper} {rest : List Oper} {o : Oper} {a : Act} {Q : Exit → Act → World → Prop} (hgd : o.guard = none) (s y : Operand) (t : TypeId)
    (ho : o.op = .call { callee := .builtin .append, args := #[s, y], argTypes := #[t, t] })
    (e : TypeId) (i : TypeInfo) (z : Value) (size bytes : Nat) (ht : P.underlying t = some (.slice e)) (hi : P.info? e = some i) (hz : i.zero = some z)
    (hsize : i.size = size) (hby : i.bytes = bytes) (hzs : z.cells.size = size) (hsz : 0 < size)
    (v : Value) (n : Nat) (xs : List Value) (hs : a.eval s = v) (hown : w.ownsRow 0 e size v n xs)
    (x : Value) (m : Nat) (news : List Value) (hx : a.eval y = x) (hl : news.length = m * size) (hnews : Lies w x m news) (h1 : ∀ u ∈ news, u.oneCell' = true)
    (h63 : n + m ≤ maxLen) (hbytes : (n + m) * bytes ≤ 140737488355328)
    (h : ∀ v' w', w'.ownsRow 0 e size v' (n + m) (xs ++ news) → w.grownBy w' v.ownBlock → (v'.ownBlock = v.ownBlock ∨ v'.ownBlock = some w.heap.size) → wpList P ops Q rest (a.put o.dst v') w') : wpList P ops Q (o :: rest) a w := by
  refine wpList_plain hgd fun K hK => ?_
  obtain ⟨v', w', hr, h2, h3, h4⟩ := run_app (P := P) w t o.type e i z size bytes ht hi hz hsize hby hzs hsz v n xs hown x m news hl hnews h1 h63 hbytes
  unfold Oper.wp execOp
  simp only [ho, resolve, invoke, builtin, Sem.run_bind, Sem.run_pure, Result.andThen_ok, List.map_toArray, List.map_cons, List.map_nil, hs, hx, hr]
  exact hK _ _ (h v' w' h2 h3 h4)

/-- One new cell. -/
theorem lies_one {w : World} {b : Nat} {u : Value} (h : w.cell? ⟨b, 0, none⟩ = some u) : Lies w (.slice (some ⟨b, 0, none⟩) 1 1) 1 [u] :=
  Or.inr ⟨_, _, rfl, fun j x hj => by
    match j, hj with
    | 0, hj => simp at hj; subst hj; simpa [Addr.add] using h⟩
theorem Tryz.info5 : (Tryz.prog.info? 5).map (fun i => (i.zero, i.size, i.bytes)) = some (some (.int .u8 0), 1, 1) := by kernel_rfl

theorem bytes_one (l : List UInt8) : ∀ u ∈ l.map B, u.oneCell' = true := by
  intro u hu
  obtain ⟨x, _, rfl⟩ := List.mem_map.1 hu
  rfl

/-- A value that reads as these bytes. -/
def BytesIn (w : World) (bv : Value) (l : List UInt8) : Prop :=
  (bv = .slice none 0 0 ∧ l = []) ∨ ∃ bb off cap, bv = .slice (some ⟨bb, off, none⟩) l.length cap ∧ bb < w.heap.size ∧ l.length ≤ cap ∧ ∀ i, i < l.length → w.cell? ⟨bb, off + i, none⟩ = some (.int .u8 (l.getD i 0).toNat)

theorem bytesIn_of_owns {w : World} {b n : Nat} {v : Value} {l : List UInt8} (h : w.ownsRow b 5 1 v n (l.map B)) (hn : n = l.length) : BytesIn w v l := by
  subst hn
  rcases h.2 with ⟨rfl, h0⟩ | ⟨g, cap, cur, rfl, _, hgg, hle, _⟩
  · exact Or.inl ⟨rfl, List.eq_nil_of_length_eq_zero h0⟩
  · refine Or.inr ⟨g, 0, cap, rfl, (Array.getElem?_eq_some_iff.1 hgg).1, hle, fun i hi => ?_⟩
    have := h.cells (g := g) rfl i (B (l.getD i 0)) (by simp [List.getD, hi])
    rw [Nat.zero_add, ← this]
    congr 1
    unfold Addr.add; split <;> simp_all

theorem BytesIn.chg {S : Nat → Prop} {w w' : World} {bv : Value} {l : List UInt8} (h : BytesIn w bv l) (hc : Chg S w w') (hs : ∀ k, bv.ownBlock = some k → ¬ S k) : BytesIn w' bv l := by
  rcases h with h | ⟨bb, off, cap, rfl, h1, h2, h3⟩
  · exact Or.inl h
  · exact Or.inr ⟨bb, off, cap, rfl, Nat.lt_of_lt_of_le h1 hc.size, h2, fun i hi => (hc.cell (p := ⟨bb, off + i, none⟩) h1 (hs bb rfl)).trans (h3 i hi)⟩

/-- .. or an empty slice without room, of whose address nothing is known. -/
def BytesA (w : World) (bv : Value) (l : List UInt8) : Prop := BytesIn w bv l ∨ ∃ ad, bv = .slice (some ad) 0 0 ∧ l = []

theorem BytesA.chg {w w' : World} {bv : Value} {l : List UInt8} (h : BytesA w bv l) (hc : Chg (fun _ => False) w w') : BytesA w' bv l := by
  rcases h with h | h
  · exact Or.inl (h.chg hc (fun _ _ => id))
  · exact Or.inr h
theorem BytesIn.lt {w : World} {bv : Value} {l : List UInt8} (h : BytesIn w bv l) {k : Nat} (hk : bv.ownBlock = some k) : k < w.heap.size := by
  rcases h with ⟨rfl, _⟩ | ⟨bb, off, cap, rfl, h1, _⟩
  · simp [Value.ownBlock] at hk
  · simp [Value.ownBlock] at hk; omega

theorem lies_of_bytesIn {w : World} {x : Value} {l : List UInt8} (h : BytesIn w x l) : Lies w x l.length (l.map B) := by
  rcases h with ⟨rfl, rfl⟩ | ⟨bb, off, cap, rfl, h1, h2, h3⟩
  · exact Or.inl ⟨rfl, rfl, rfl⟩
  · refine Or.inr ⟨_, _, rfl, fun j u hu => ?_⟩
    have hj : j < l.length := by
      have := (List.getElem?_eq_some_iff.1 hu).1
      simpa using this
    have e : (⟨bb, off, none⟩ : Addr).add j = ⟨bb, off + j, none⟩ := by unfold Addr.add; split <;> simp_all
    rw [e, h3 j hj, ← hu]
    simp [List.getD, hj]

theorem slice_len {w : World} {b e s n : Nat} {v : Value} {xs : List Value} (h : w.ownsRow b e s v n xs) : ∃ sv cv, v = .slice sv n cv := by
  rcases h.2 with ⟨rfl, rfl⟩ | ⟨g, cap, cur, rfl, _⟩
  · exact ⟨_, _, rfl⟩
  · exact ⟨_, _, rfl⟩
theorem slice_some {w : World} {b e s n cv : Nat} {sv : Option Addr} {xs : List Value} (h : w.ownsRow b e s (.slice sv n cv) n xs) (hn : 0 < n) : ∃ g, sv = some ⟨g, 0, none⟩ ∧ n ≤ cv := by
  rcases h.2 with ⟨h0, rfl⟩ | ⟨g, cap, cur, h0, _, _, hle, _⟩
  · omega
  · simp only [Value.slice.injEq, true_and] at h0
    obtain ⟨rfl, rfl⟩ := h0
    exact ⟨g, rfl, hle⟩

theorem ret_bool {a b : Bool} (h : a = b) : Ending.returned (.bool a) = .returned (.bool b) := by rw [h]

end Go.Proofs.YtlhlmgfblbpdpaaGreatDoor
/-
  Blocks as the program makes them, without the program: bytes, tables as queues. Nothing of the translation is imported.
-/
namespace Go.Proofs.YtlhlmgfblbpdpaaGreatDoor
set_option linter.unusedVariables false
set_option linter.unusedSimpArgs false

/-- A pair of texts. -/
structure HP where
  n : ByteArray
  v : ByteArray
def tk (h : HP) : Nat := h.n.size + h.v.size + 8
/-- The least number of this very pair. -/
def pnF (l : List HP) (h : HP) : Option Nat := l.findIdx? (fun x => decide (x.n.toList = h.n.toList ∧ x.v.toList = h.v.toList))

/-- A number in k bits, the highest first. -/
def natBits : Nat → Nat → List Bool
  | 0, _ => []
  | k + 1, v => natBits k (v / 2) ++ [v % 2 == 1]
def valB (l : List Bool) : Nat := l.foldl (fun v b => 2 * v + b.toNat) 0
/-- The place of a byte in a text. -/
def pl (l : List UInt8) (c : UInt8) : Option Nat := l.findIdx? (fun x => x == c)
def oft : List UInt8 := [101, 116, 97, 111, 105, 110, 115, 114]
def sel : List UInt8 := [98, 99, 100, 102, 103, 104, 107, 108, 109, 112, 117, 119, 121, 45, 47, 46]
/-- The bits of a byte. -/
def codeB (c : UInt8) : List Bool := match pl oft c with
  | some k => [false] ++ natBits 3 k
  | none => match pl sel c with
    | some k => [true, false] ++ natBits 4 k
    | none => [true, true] ++ natBits 8 c.toNat
/-- The bytes of bits, eight by eight. -/
def bytesB (l : List Bool) : List UInt8 := (List.range (l.length / 8)).map fun i => UInt8.ofNat (valB ((l.drop (8 * i)).take 8))
def rawB (t : List UInt8) : List Bool := t.flatMap codeB
/-- What the bits of a text are filled with. -/
def padN (n : Nat) : Nat := (8 - n % 8) % 8
/-- Packed bits. -/
def packB (t : List UInt8) : List Bool := rawB t ++ List.replicate (padN (rawB t).length) true
/-- Bytes of a count behind its first. -/
def tail7F : Nat → Nat → List UInt8
  | 0, n => [UInt8.ofNat n]
  | k + 1, n => if 127 < n then UInt8.ofNat (128 + n % 128) :: tail7F k (n / 128) else [UInt8.ofNat n]
def tail7 (n : Nat) : List UInt8 := tail7F n n
theorem tail7F_eq : ∀ (k j n : Nat), n ≤ k → n ≤ j → tail7F k n = tail7F j n
  | 0, 0, _, _, _ => rfl
  | 0, j + 1, n, h, _ => by
    have e : n = 0 := by omega
    subst e
    rfl
  | k + 1, 0, n, _, h => by
    have e : n = 0 := by omega
    subst e
    rfl
  | k + 1, j + 1, n, h1, h2 => by
    unfold tail7F
    by_cases h : 127 < n
    · rw [if_pos h, if_pos h, tail7F_eq k j (n / 128) (by omega) (by omega)]
    · rw [if_neg h, if_neg h]
/-- A count in k bits, behind the first bits f. -/
def cnt (f k n : Nat) : List UInt8 := if n < 2 ^ k - 1 then [UInt8.ofNat (f + n)] else UInt8.ofNat (f + (2 ^ k - 1)) :: tail7 (n - (2 ^ k - 1))

/-- A table, the oldest pair first. -/
def szT (l : List HP) : Nat := (l.map tk).sum
theorem szT_cons (h : HP) (r : List HP) : szT (h :: r) = tk h + szT r := by simp [szT]
theorem szT_len (l : List HP) : 8 * l.length ≤ szT l := by
  induction l with
  | nil => simp [szT]
  | cons h r ih => rw [szT_cons]; simp [tk]; omega
/-- The pairs that have numbers for ever. -/
def hp (n v : List UInt8) : HP := ⟨⟨n.toArray⟩, ⟨v.toArray⟩⟩
def fixed8 : List HP := [hp [112, 97, 116, 104] [47], hp [112, 97, 116, 104] [47, 105, 110, 100, 101, 120], hp [118, 101, 114, 98] [103, 101, 116], hp [118, 101, 114, 98] [112, 117, 116],
  hp [107, 105, 110, 100] [116, 101, 120, 116], hp [107, 105, 110, 100] [98, 121, 116, 101, 115], hp [104, 111, 115, 116] [], hp [108, 101, 110, 103, 116, 104] [48]]
def numd (l : List HP) : List HP := fixed8 ++ l.reverse
/-- .. as a number: 0 is none. -/
def pnN (l : List HP) (h : HP) : Nat := match pnF l h with
  | some i => i + 1
  | none => 0
end Go.Proofs.YtlhlmgfblbpdpaaGreatDoor
/-
  A list, packed, without the program; how long a block is.
-/
namespace Go.Proofs.YtlhlmgfblbpdpaaGreatDoor
set_option linter.unusedVariables false
set_option linter.unusedSimpArgs false

/-- A text. -/
def txt (t : List UInt8) : List UInt8 := if (bytesB (packB t)).length < t.length then cnt 128 7 (bytesB (packB t)).length ++ bytesB (packB t) else cnt 0 7 t.length ++ t
/-- A packer: the limit, the table, the limits that wait. -/
structure Pk where
  lim : Nat
  tab : List HP
  wait : List Nat
/-- What waits behind a Resize. -/
def Pk.resize (p : Pk) (n : Nat) : Pk :=
  { p with wait := if (match p.wait with | [] => n | x :: _ => min x n) < n then [(match p.wait with | [] => n | x :: _ => min x n), n] else [n] }

/-- Is the pair there? -/
def There (l : List HP) (h : HP) : Prop := pnN (numd l) h ≠ 0
theorem there_iff (l : List HP) (h : HP) : There l h ↔ ∃ x ∈ numd l, x.n.toList = h.n.toList ∧ x.v.toList = h.v.toList := by
  unfold There pnN pnF
  constructor
  · intro a
    split at a
    · next i hi =>
      obtain ⟨q, hx, _⟩ := List.findIdx?_eq_some_iff_getElem.1 hi
      exact ⟨_, List.getElem_mem q, by simpa using hx⟩
    · omega
  · rintro ⟨x, hx, hq⟩
    split
    · omega
    · next hi =>
      have := List.findIdx?_eq_none_iff.1 hi x hx
      simp [hq] at this
theorem There.more {l : List HP} {h : HP} (a : There l h) (b : List HP) : There (l ++ b) h := by
  obtain ⟨x, hx, e⟩ := (there_iff l h).1 a
  refine (there_iff _ h).2 ⟨x, ?_, e⟩
  unfold numd at hx ⊢
  simp only [List.reverse_append, List.mem_append] at hx ⊢
  exact hx.imp_right Or.inr
end Go.Proofs.YtlhlmgfblbpdpaaGreatDoor
/-
  Blocks, read, without the program; what was packed comes back.
-/
namespace Go.Proofs.YtlhlmgfblbpdpaaGreatDoor
set_option linter.unusedVariables false
set_option linter.unusedSimpArgs false

/-- What follows a count's first byte: f bytes at most. -/
def rdMore : Nat → Nat → Nat → List UInt8 → Option (Nat × List UInt8)
  | 0, _, _, _ => none
  | _ + 1, _, _, [] => none
  | f + 1, i, n, c :: r => if c.toNat = 0 ∧ 0 < i then none else if c.toNat < 128 then some (n + c.toNat % 128 * 2 ^ (7 * i), r) else rdMore f (i + 1) (n + c.toNat % 128 * 2 ^ (7 * i)) r
def rdCnt (k : Nat) (c : UInt8) (r : List UInt8) : Option (Nat × List UInt8) := if c.toNat % 2 ^ k < 2 ^ k - 1 then some (c.toNat % 2 ^ k, r) else rdMore 3 0 (c.toNat % 2 ^ k) r

end Go.Proofs.YtlhlmgfblbpdpaaGreatDoor
/-
  Package blocks: LimitFits, room, breaksPair, most, begins, codeOf; strings.IndexByte.
-/
namespace Go.Proofs.YtlhlmgfblbpdpaaGreatDoor
set_option linter.unusedVariables false
set_option linter.unusedSimpArgs false
open Go.RowKit

/-- A form: its first bits, and in how many bits its count begins. -/
abbrev fm (f k : Nat) : Value := .agg #[.int .u8 (f : Int), .int .i64 (k : Int)]
set_option maxRecDepth 100000 in
set_option maxHeartbeats 1600000 in
theorem most_any (f k : Nat) (w : World) (hk : k = 4 ∨ k = 5 ∨ k = 6 ∨ k = 7) :
    Calls Tryz.prog 142 #[fm f k] w fun e w' => e = .returned (.int .i64 ((2 ^ k - 1 : Nat) : Int)) ∧ Below w.heap.size w w' := by
  rcases hk with rfl | rfl | rfl | rfl
  all_goals go_enter Tryz.func142, Tryz.ntmps142
  all_goals go_wp2
  all_goals go_ret
  all_goals exact ⟨by rfl, (Below.refl _ _).alloc (Nat.le_refl _) _⟩

end Go.Proofs.YtlhlmgfblbpdpaaGreatDoor
/-
  Package blocks: bitWriter's put and fill, packBits.
-/
namespace Go.Proofs.YtlhlmgfblbpdpaaGreatDoor
set_option linter.unusedVariables false
set_option linter.unusedSimpArgs false
open Go.RowKit

end Go.Proofs.YtlhlmgfblbpdpaaGreatDoor
