import Derived.Test.YtdccldbefdfppaaGreatDoorRows
import Derived.WalkKit
import Derived.WalkSpells
import Derived.WalkLawsBesides
import Derived.Laws.AppendOwnNone
import Derived.BigQuiet
import Derived.BigRegion
import Derived.Deep.QuietTactic
import Derived.Lib.Strings
import Derived.Lib.Walk
import Derived.Lib.Bytealg
import Derived.Laws.BitsAllLaws
import Derived.Deep.RegionWith
import Derived.Deep.DeepCutAuto
import Derived.Deep.RegionHeld3
import Derived.Deep.RegionLaw
set_option linter.unusedVariables false
set_option linter.unusedSimpArgs false
namespace Go.Proofs.YtdccldbefdfppaaGreatDoor
section
open Go.RowKit
theorem getD_lt {α : Type} (l : List α) (i : Nat) (d : α) (h : i < l.length) : l.getD i d = l[i] := by simp [List.getD, h]
theorem hide {p : Prop} (h : p) : Hid p := h
abbrev B (c : UInt8) : Value := .int .u8 (c.toNat : Int)
structure Chg (S : Nat → Prop) (w w' : World) : Prop where
 os : w'.os = w.os
 tape : w'.tape = w.tape
 output : w'.output = w.output
 size : w.heap.size ≤ w'.heap.size
 block : ∀ k, k < w.heap.size → ¬ S k → w'.heap[k]? = w.heap[k]?
theorem Chg.refl (S : Nat → Prop) (w : World) : Chg S w w := ⟨rfl, rfl, rfl, Nat.le_refl _, fun _ _ _ => rfl⟩
theorem Chg.mono {S T : Nat → Prop} {w w' : World} (h : Chg S w w') (hs : ∀ k, k < w.heap.size → S k → T k) : Chg T w w' :=
 ⟨h.os, h.tape, h.output, h.size, fun k hk ht => h.block k hk fun s => ht (hs k hk s)⟩
theorem Chg.trans {S : Nat → Prop} {a b c : World} (h : Chg S a b) (k : Chg (fun i => a.heap.size ≤ i ∨ S i) b c) : Chg S a c :=
  ⟨k.os.trans h.os, k.tape.trans h.tape, k.output.trans h.output, Nat.le_trans h.size k.size,
    fun i hi hs => (k.block i (Nat.lt_of_lt_of_le hi h.size) (by rintro (x | x); · omega
                                                                 · exact hs x)).trans (h.block i hi hs)⟩
theorem Chg.of_below {S : Nat → Prop} {w w' : World} (h : Below w.heap.size w w') : Chg S w w' := ⟨h.os, h.tape, h.output, h.size, fun k hk _ => h.block k hk⟩
theorem Chg.of_grown {S : Nat → Prop} {w w' : World} {row : Option Nat} (h : w.grownBy w' row) (hs : ∀ k, row = some k → S k) : Chg S w w' :=
 ⟨h.os, h.tape, h.output, h.size, fun k hk hn => h.block k hk fun e => hn (hs k e.symm)⟩
theorem Chg.setCell {S : Nat → Prop} {a w : World} (h : Chg S a w) {p : Addr} (hp : a.heap.size ≤ p.block ∨ S p.block) (u : Value) : Chg S a (w.setCell p u) :=
 h.trans ⟨rfl, rfl, rfl, by simp [World.setCell], fun k _ hn => Below.heap_setCell _ _ _ _ (fun e => hn (by rw [e]; exact hp))⟩
theorem Chg.alloc {S : Nat → Prop} {a w : World} (h : Chg S a w) (o : Obj) : Chg S a (w.alloc o) :=
 h.trans ⟨rfl, rfl, rfl, by simp, fun k hk _ => Below.heap_alloc _ _ _ hk⟩
theorem Chg.drew {S : Nat → Prop} {a w : World} (h : Chg S a w) : Chg S a w.drew := ⟨h.os, h.tape, h.output, h.size, h.block⟩
theorem Chg.drewN {S : Nat → Prop} {a w : World} (h : Chg S a w) (n : Nat) : Chg S a (w.drewN n) := h.trans ⟨rfl, rfl, rfl, Nat.le_refl _, fun _ _ _ => rfl⟩
theorem Chg.then_below {S : Nat → Prop} {a b c : World} (h : Chg S a b) (k : Below b.heap.size b c) : Chg S a c := h.trans (Chg.of_below k)
theorem Chg.cell {S : Nat → Prop} {w w' : World} (h : Chg S w w') {p : Addr} (hp : p.block < w.heap.size) (hs : ¬ S p.block) : w'.cell? p = w.cell? p := World.cell?_of_block (w := w) (h.block p.block hp hs)
theorem Chg.frozen {S : Nat → Prop} {w w' : World} (h : Chg S w w') {p : Addr} (hp : p.block < w.heap.size) (hs : ¬ S p.block) : w'.frozen? p = w.frozen? p := World.frozen?_of_block (w := w) (h.block p.block hp hs)
theorem owns_chg {S : Nat → Prop} {w w' : World} {base e size n : Nat} {v : Value} {xs : List Value} (h : w.ownsRow base e size v n xs) (hc : Chg S w w') (hs : ∀ k, v.ownBlock = some k → ¬ S k) : w'.ownsRow base e size v n xs := by
 refine ⟨h.1, ?_⟩
 rcases h.2 with hn | ⟨g, cap, cur, rfl, hb, hgg, rest⟩
 ·exact .inl hn
 ·refine .inr ⟨g, cap, cur, rfl, hb, ?_, rest⟩
  rw [hc.block g (Array.getElem?_eq_some_iff.1 hgg).1 (hs g rfl)]
  exact hgg
theorem owns_base {w : World} {base base' e size n : Nat} {v : Value} {xs : List Value} (h : w.ownsRow base e size v n xs) (hb : ∀ k, v.ownBlock = some k → base' ≤ k) : w.ownsRow base' e size v n xs := by
 refine ⟨h.1, ?_⟩
 rcases h.2 with hn | ⟨g, cap, cur, rfl, _, rest⟩
 ·exact .inl hn
 ·exact .inr ⟨g, cap, cur, rfl, hb g rfl, rest⟩
theorem owns_lt {w : World} {base e size n : Nat} {v : Value} {xs : List Value} (h : w.ownsRow base e size v n xs) {k : Nat} (hk : v.ownBlock = some k) : k < w.heap.size := (h.lt k hk).2
theorem owns_ne {w : World} {base e e' size n : Nat} {v : Value} {xs : List Value} {b : Nat} {cs : Array Value} {fr : Nat × Nat} (h : w.ownsRow base e size v n xs) (hb : w.heap[b]? = some (.cells cs e' fr)) (hne : e ≠ e') : v.ownBlock ≠ some b := by
 intro hk
 rcases h.2 with ⟨rfl, _⟩ | ⟨g, cap, cur, rfl, _, hgg, _⟩
 ·simp [Value.ownBlock] at hk
 ·simp [Value.ownBlock] at hk
  subst hk
  rw [hgg] at hb
  simp at hb
  exact hne hb.2.1
theorem block_setCell {w : World} {b i : Nat} {cs : Array Value} {t : TypeId} {fr : Nat × Nat} {u : Value} (h : w.heap[b]? = some (.cells cs t fr)) : (w.setCell ⟨b, i, none⟩ u).heap[b]? = some (.cells (cs.setIfInBounds i u) t fr) := by
 simp only [World.setCell, Array.getElem?_modify, ↓reduceIte, h, Option.map_some]
 rfl
theorem rows_ne {w : World} {b b' e e' s s' n n' : Nat} {v v' : Value} {xs xs' : List Value} (h : w.ownsRow b e s v n xs) (h' : w.ownsRow b' e' s' v' n' xs') (hne : e ≠ e') {k : Nat} (hk : v.ownBlock = some k) : v'.ownBlock ≠ some k := by
 rcases h.2 with ⟨rfl, _⟩ | ⟨g, cap, cur, rfl, _, hgg, _⟩
 ·simp [Value.ownBlock] at hk
 ·simp [Value.ownBlock] at hk
  subst hk
  exact owns_ne h' hgg (fun e => hne e.symm)
theorem drop_cons {l : List UInt8} {k : Nat} (h : k < l.length) : l.drop k = l.getD k 0 :: l.drop (k + 1) := by
 rw [getD_lt _ _ _ h]; exact List.drop_eq_getElem_cons h
def Lies (w : World) (x : Value) (m : Nat) (news : List Value) : Prop :=
 (x = .slice none 0 0 ∧ m = 0 ∧ news = []) ∨ ∃ ad c, x = .slice (some ad) m c ∧ ∀ j u, news[j]? = some u → w.cell? (ad.add j) = some u
theorem run_app {P : Program} (w : World) (t ty e : TypeId) (i : TypeInfo) (z : Value) (size bytes : Nat) (ht : P.underlying t = some (.slice e)) (hi : P.info? e = some i) (hz : i.zero = some z)
  (hsize : i.size = size) (hby : i.bytes = bytes) (hzs : z.cells.size = size) (hsz : 0 < size)
  (v : Value) (n : Nat) (xs : List Value) (hown : w.ownsRow 0 e size v n xs)
  (x : Value) (m : Nat) (news : List Value) (hl : news.length = m * size) (hnews : Lies w x m news) (h1 : ∀ u ∈ news, u.oneCell' = true)
  (h63 : n + m ≤ maxLen) (hbytes : (n + m) * bytes ≤ 140737488355328) :
  ∃ v' w', (Builtin.append_ #[t, t] ty #[v, x]).run P w = .ok v' w' ∧ w'.ownsRow 0 e size v' (n + m) (xs ++ news) ∧ w.grownBy w' v.ownBlock ∧
   (v'.ownBlock = v.ownBlock ∨ v'.ownBlock = some w.heap.size) := by
 have hsmall : n + m ≤ 9223372036854775807 := by simp only [maxLen] at h63; omega
 rcases hnews with ⟨rfl, rfl, rfl⟩ | ⟨ad, c, rfl, hcells⟩
 ·refine ⟨v, w, run_append_owned_none (P := P) (w := w) 0 t ty e i size ht hi v n xs hown, by simpa using hown, ⟨rfl, rfl, rfl, Nat.le_refl _, fun _ _ _ => rfl⟩, Or.inl rfl⟩
 ·obtain ⟨v', w', hr, h2, h3, h4⟩ := run_append_own (P := P) w 0 t ty e i z size bytes ht hi hz hsize hby hzs hsz v n xs hown ad m c news hl hcells h1 h63 hbytes (Nat.zero_le _)
  refine ⟨v', w', hr, h2, h3, ?_⟩
  subst hsize
  subst hby
  rcases hown.2 with ⟨rfl, rfl⟩ | ⟨g, cap, cur, rfl, hbg, hg, hnc, hcm, hcs, htake⟩
  ·by_cases hm : m = 0
   ·exact Or.inl (by rw [h4.2 ⟨rfl, hm⟩])
   ·have h := run_append_nil (P := P) w t ty e i z ht hi hz ad m c news hl hcells (by omega) (by omega) (by have hb := hbytes; simp only [Nat.zero_add] at hb; omega)
    rw [h] at hr
    simp only [Result.ok.injEq] at hr
    exact Or.inr (by rw [← hr.1]; rfl)
  ·by_cases hroom : n + m ≤ cap
   ·have hfit : n * i.size + news.length ≤ cur.size := by rw [hl, hcs, ← Nat.add_mul]; exact Nat.mul_le_mul_right _ hroom
    have h := run_append_room (P := P) w t ty e i ht hi g n cap cur hg ad m c news hl hcells h1 hroom hfit
    rw [h] at hr
    simp only [Result.ok.injEq] at hr
    exact Or.inl (by rw [← hr.1]; rfl)
   ·have holds : ∀ j u, xs[j]? = some u → w.cell? ((⟨g, 0, none⟩ : Addr).add j) = some u := hown.cells (g := g) rfl
    have h := run_append_grow (P := P) w t ty e i z ht hi hz ⟨g, 0, none⟩ n cap xs hown.1 holds ad m c news hl hcells (by omega) (by omega) (growslice_fits (by omega) hbytes)
    rw [h] at hr
    simp only [Result.ok.injEq] at hr
    exact Or.inr (by rw [← hr.1]; rfl)
theorem wpList_app {P : Program} (w : World) {ops : Array Oper} {rest : List Oper} {o : Oper} {a : Act} {Q : Exit → Act → World → Prop} (hgd : o.guard = none) (s y : Operand) (t : TypeId)
  (ho : o.op = .call { callee := .builtin .append, args := #[s, y], argTypes := #[t, t] })
  (e : TypeId) (i : TypeInfo) (z : Value) (size bytes : Nat) (ht : P.underlying t = some (.slice e)) (hi : P.info? e = some i) (hz : i.zero = some z)
  (hsize : i.size = size) (hby : i.bytes = bytes) (hzs : z.cells.size = size) (hsz : 0 < size)
  (v : Value) (n : Nat) (xs : List Value) (hs : a.eval s = v) (hown : w.ownsRow 0 e size v n xs)
  (x : Value) (m : Nat) (news : List Value) (hx : a.eval y = x) (hl : news.length = m * size) (hnews : Lies w x m news) (h1 : ∀ u ∈ news, u.oneCell' = true)
  (h63 : n + m ≤ maxLen) (hbytes : (n + m) * bytes ≤ 140737488355328)
  (h : ∀ v' w', w'.ownsRow 0 e size v' (n + m) (xs ++ news) → w.grownBy w' v.ownBlock → (v'.ownBlock = v.ownBlock ∨ v'.ownBlock = some w.heap.size) → wpList P ops Q rest (a.put o.dst v') w') : wpList P ops Q (o :: rest) a w := by
 refine wpList_plain hgd fun K hK => ?_
 obtain ⟨v', w', hr, h2, h3, h4⟩ := run_app (P := P) w t o.type e i z size bytes ht hi hz hsize hby hzs hsz v n xs hown x m news hl hnews h1 h63 hbytes
 unfold Oper.wp execOp
 simp only [ho, resolve, invoke, builtin, Sem.run_bind, Sem.run_pure, Result.andThen_ok, List.map_toArray, List.map_cons, List.map_nil, hs, hx, hr]
 exact hK _ _ (h v' w' h2 h3 h4)
theorem lies_one {w : World} {b : Nat} {u : Value} (h : w.cell? ⟨b, 0, none⟩ = some u) : Lies w (.slice (some ⟨b, 0, none⟩) 1 1) 1 [u] :=
 Or.inr ⟨_, _, rfl, fun j x hj => by
  match j, hj with
  | 0, hj => simp at hj; subst hj; simpa [Addr.add] using h⟩
theorem Tryz.info5 : (Tryz.prog.info? 5).map (fun i => (i.zero, i.size, i.bytes)) = some (some (.int .u8 0), 1, 1) := by kernel_rfl
theorem bytes_one (l : List UInt8) : ∀ u ∈ l.map B, u.oneCell' = true := by
 intro u hu
 obtain ⟨x, _, rfl⟩ := List.mem_map.1 hu
 rfl
theorem slice_of_owns {w : World} {b e s n : Nat} {v : Value} {xs : List Value} (h : w.ownsRow b e s v n xs) : ∃ sa m c, v = .slice sa m c := by
 rcases h.2 with ⟨rfl, _⟩ | ⟨g, cap, cur, rfl, _⟩
 ·exact ⟨_, _, _, rfl⟩
 ·exact ⟨_, _, _, rfl⟩
def BytesIn (w : World) (bv : Value) (l : List UInt8) : Prop :=
 (bv = .slice none 0 0 ∧ l = []) ∨ ∃ bb off cap, bv = .slice (some ⟨bb, off, none⟩) l.length cap ∧ bb < w.heap.size ∧ l.length ≤ cap ∧ ∀ i, i < l.length → w.cell? ⟨bb, off + i, none⟩ = some (.int .u8 (l.getD i 0).toNat)
theorem bytesIn_of_owns {w : World} {b n : Nat} {v : Value} {l : List UInt8} (h : w.ownsRow b 5 1 v n (l.map B)) (hn : n = l.length) : BytesIn w v l := by
 subst hn
 rcases h.2 with ⟨rfl, h0⟩ | ⟨g, cap, cur, rfl, _, hgg, hle, _⟩
 ·exact Or.inl ⟨rfl, List.eq_nil_of_length_eq_zero h0⟩
 ·refine Or.inr ⟨g, 0, cap, rfl, (Array.getElem?_eq_some_iff.1 hgg).1, hle, fun i hi => ?_⟩
  have := h.cells (g := g) rfl i (B (l.getD i 0)) (by simp [List.getD, hi])
  rw [Nat.zero_add, ← this]
  congr 1
  unfold Addr.add; split <;> simp_all
theorem BytesIn.chg {S : Nat → Prop} {w w' : World} {bv : Value} {l : List UInt8} (h : BytesIn w bv l) (hc : Chg S w w') (hs : ∀ k, bv.ownBlock = some k → ¬ S k) : BytesIn w' bv l := by
 rcases h with h | ⟨bb, off, cap, rfl, h1, h2, h3⟩
 ·exact Or.inl h
 ·exact Or.inr ⟨bb, off, cap, rfl, Nat.lt_of_lt_of_le h1 hc.size, h2, fun i hi => (hc.cell (p := ⟨bb, off + i, none⟩) h1 (hs bb rfl)).trans (h3 i hi)⟩
def BytesA (w : World) (bv : Value) (l : List UInt8) : Prop := BytesIn w bv l ∨ ∃ ad, bv = .slice (some ad) 0 0 ∧ l = []
theorem BytesA.chg {w w' : World} {bv : Value} {l : List UInt8} (h : BytesA w bv l) (hc : Chg (fun _ => False) w w') : BytesA w' bv l := by
 rcases h with h | h
 ·exact Or.inl (h.chg hc (fun _ _ => id))
 ·exact Or.inr h
theorem bytesA_len {w : World} {bv : Value} {l : List UInt8} (h : BytesA w bv l) : ∃ sa cap, bv = .slice sa l.length cap := by
 rcases h with (⟨rfl, rfl⟩ | ⟨bb, off, cap, rfl, _⟩) | ⟨ad, rfl, rfl⟩
 ·exact ⟨_, _, rfl⟩
 ·exact ⟨_, _, rfl⟩
 ·exact ⟨_, _, rfl⟩
theorem BytesIn.lt {w : World} {bv : Value} {l : List UInt8} (h : BytesIn w bv l) {k : Nat} (hk : bv.ownBlock = some k) : k < w.heap.size := by
 rcases h with ⟨rfl, _⟩ | ⟨bb, off, cap, rfl, h1, _⟩
 ·simp [Value.ownBlock] at hk
 ·simp [Value.ownBlock] at hk; omega
theorem lies_of_bytesIn {w : World} {x : Value} {l : List UInt8} (h : BytesIn w x l) : Lies w x l.length (l.map B) := by
 rcases h with ⟨rfl, rfl⟩ | ⟨bb, off, cap, rfl, h1, h2, h3⟩
 ·exact Or.inl ⟨rfl, rfl, rfl⟩
 ·refine Or.inr ⟨_, _, rfl, fun j u hu => ?_⟩
  have hj : j < l.length := by
   have := (List.getElem?_eq_some_iff.1 hu).1
   simpa using this
  have e : (⟨bb, off, none⟩ : Addr).add j = ⟨bb, off + j, none⟩ := by unfold Addr.add; split <;> simp_all
  rw [e, h3 j hj, ← hu]
  simp [List.getD, hj]
theorem slice_len {w : World} {b e s n : Nat} {v : Value} {xs : List Value} (h : w.ownsRow b e s v n xs) : ∃ sv cv, v = .slice sv n cv := by
 rcases h.2 with ⟨rfl, rfl⟩ | ⟨g, cap, cur, rfl, _⟩
 ·exact ⟨_, _, rfl⟩
 ·exact ⟨_, _, rfl⟩
theorem slice_some {w : World} {b e s n cv : Nat} {sv : Option Addr} {xs : List Value} (h : w.ownsRow b e s (.slice sv n cv) n xs) (hn : 0 < n) : ∃ g, sv = some ⟨g, 0, none⟩ ∧ n ≤ cv := by
 rcases h.2 with ⟨h0, rfl⟩ | ⟨g, cap, cur, h0, _, _, hle, _⟩
 ·omega
 ·simp only [Value.slice.injEq, true_and] at h0
  obtain ⟨rfl, rfl⟩ := h0
  exact ⟨g, rfl, hle⟩
theorem ret_bool {a b : Bool} (h : a = b) : Ending.returned (.bool a) = .returned (.bool b) := by rw [h]
end
section
structure HP where
 n : ByteArray
 v : ByteArray
def tk (h : HP) : Nat := h.n.size + h.v.size + 8
def pnF (l : List HP) (h : HP) : Option Nat := l.findIdx? (fun x => decide (x.n.toList = h.n.toList ∧ x.v.toList = h.v.toList))
def natBits : Nat → Nat → List Bool
 | 0, _ => []
 | k + 1, v => natBits k (v / 2) ++ [v % 2 == 1]
theorem natBits_length (k v : Nat) : (natBits k v).length = k := by
 induction k generalizing v with
 | zero => rfl
 | succ k ih => simp [natBits, ih]
theorem natBits_high (k v : Nat) : natBits (k + 1) v = (v / 2 ^ k % 2 == 1) :: natBits k v := by
 induction k generalizing v with
 | zero => simp [natBits]
 | succ k ih =>
  have e : v / 2 / 2 ^ k = v / 2 ^ (k + 1) := by rw [Nat.div_div_eq_div_mul, Nat.pow_succ, Nat.mul_comm]
  have h1 : natBits (k + 1 + 1) v = natBits (k + 1) (v / 2) ++ [v % 2 == 1] := rfl
  have h2 : natBits (k + 1) v = natBits k (v / 2) ++ [v % 2 == 1] := rfl
  rw [h1, ih, h2, e]
  rfl
def valB (l : List Bool) : Nat := l.foldl (fun v b => 2 * v + b.toNat) 0
theorem valB_next (l : List Bool) (b : Bool) : valB (l ++ [b]) = 2 * valB l + b.toNat := by simp [valB]
theorem foldB_lt (l : List Bool) (v : Nat) : l.foldl (fun v b => 2 * v + b.toNat) v < (v + 1) * 2 ^ l.length := by
 induction l generalizing v with
 | nil => simp
 | cons b r ih =>
  have h := ih (2 * v + b.toNat)
  simp only [List.foldl_cons, List.length_cons]
  have hb : b.toNat ≤ 1 := by cases b <;> simp
  have h2 : (2 * v + b.toNat + 1) * 2 ^ r.length ≤ (v + 1) * 2 ^ (r.length + 1) := by
   rw [Nat.pow_succ, Nat.mul_comm (2 ^ r.length) 2, ← Nat.mul_assoc]
   exact Nat.mul_le_mul_right _ (by omega)
  omega
theorem valB_lt (l : List Bool) : valB l < 2 ^ l.length := by
 have := foldB_lt l 0
 simpa [valB] using this
def pl (l : List UInt8) (c : UInt8) : Option Nat := l.findIdx? (fun x => x == c)
def oft : List UInt8 := [101, 116, 97, 111, 105, 110, 115, 114]
def sel : List UInt8 := [98, 99, 100, 102, 103, 104, 107, 108, 109, 112, 117, 119, 121, 45, 47, 46]
def codeB (c : UInt8) : List Bool := match pl oft c with
 | some k => [false] ++ natBits 3 k
 | none => match pl sel c with
  | some k => [true, false] ++ natBits 4 k
  | none => [true, true] ++ natBits 8 c.toNat
theorem pl_lt {l : List UInt8} {c : UInt8} {k : Nat} (h : pl l c = some k) : k < l.length := (List.findIdx?_eq_some_iff_getElem.1 h).1
def bytesB (l : List Bool) : List UInt8 := (List.range (l.length / 8)).map fun i => UInt8.ofNat (valB ((l.drop (8 * i)).take 8))
def bitsB (l : List UInt8) : List Bool := l.flatMap fun c => natBits 8 c.toNat
theorem bitsB_length (l : List UInt8) : (bitsB l).length = 8 * l.length := by
 induction l with
 | nil => rfl
 | cons c r ih =>
  simp only [bitsB, List.flatMap_cons, List.length_append, natBits_length, List.length_cons] at ih ⊢
  omega
def prB (h : HP) : Bool := !h.n.toList.isEmpty && decide (h.n.size ≤ 40) && decide (h.v.size ≤ 40)
def listB (hs : List HP) : Bool := decide (hs.length ≤ 8) && hs.all prB
def szT (l : List HP) : Nat := (l.map tk).sum
theorem szT_cons (h : HP) (r : List HP) : szT (h :: r) = tk h + szT r := by simp [szT]
theorem szT_append (a b : List HP) : szT (a ++ b) = szT a + szT b := by simp [szT]
theorem szT_len (l : List HP) : 8 * l.length ≤ szT l := by
 induction l with
 | nil => simp [szT]
 | cons h r ih => rw [szT_cons]; simp [tk]; omega
def goneN : List HP → Int → Nat
 | [], _ => 0
 | h :: r, most => if most < (szT (h :: r) : Int) then goneN r most + 1 else 0
def shr (l : List HP) (most : Int) : List HP := l.drop (goneN l most)
def addT (l : List HP) (lim : Nat) (h : HP) : List HP := if tk h ≤ lim then shr l ((lim : Int) - tk h) ++ [h] else shr l ((lim : Int) - tk h)
theorem goneN_fits {l : List HP} {most : Int} (h : (szT l : Int) ≤ most) : goneN l most = 0 := by
 cases l with
 | nil => rfl
 | cons x r => simp only [goneN]; rw [if_neg (by omega)]
theorem shr_size (l : List HP) (most : Int) (h0 : 0 ≤ most) : (szT (shr l most) : Int) ≤ most := by
 unfold shr
 induction l with
 | nil => simpa [goneN, szT] using h0
 | cons x r ih =>
  simp only [goneN]
  split
  ·simpa using ih
  ·simp only [List.drop_zero]; omega
theorem goneN_all (l : List HP) (most : Int) (h : most < 0) : goneN l most = l.length := by
 induction l with
 | nil => rfl
 | cons x r ih => simp only [goneN, ih, List.length_cons]; rw [if_pos (by omega)]
def hp (n v : List UInt8) : HP := ⟨⟨n.toArray⟩, ⟨v.toArray⟩⟩
def fixed8 : List HP := [hp [112, 97, 116, 104] [47], hp [112, 97, 116, 104] [47, 105, 110, 100, 101, 120], hp [118, 101, 114, 98] [103, 101, 116], hp [118, 101, 114, 98] [112, 117, 116],
 hp [107, 105, 110, 100] [116, 101, 120, 116], hp [107, 105, 110, 100] [98, 121, 116, 101, 115], hp [104, 111, 115, 116] [], hp [108, 101, 110, 103, 116, 104] [48]]
def numd (l : List HP) : List HP := fixed8 ++ l.reverse
theorem numd_length (l : List HP) : (numd l).length = 8 + l.length := by simp [numd, fixed8]; omega
def pnN (l : List HP) (h : HP) : Nat := match pnF l h with
 | some i => i + 1
 | none => 0
end
section
def There (l : List HP) (h : HP) : Prop := pnN (numd l) h ≠ 0
end
section
theorem u8_ofNat {n : Nat} (h : n < 256) : (UInt8.ofNat n).toNat = n := by rw [UInt8.toNat_ofNat']; omega
def rdMore : Nat → Nat → Nat → List UInt8 → Option (Nat × List UInt8)
 | 0, _, _, _ => none
 | _ + 1, _, _, [] => none
 | f + 1, i, n, c :: r => if c.toNat = 0 ∧ 0 < i then none else if c.toNat < 128 then some (n + c.toNat % 128 * 2 ^ (7 * i), r) else rdMore f (i + 1) (n + c.toNat % 128 * 2 ^ (7 * i)) r
def rdCnt (k : Nat) (c : UInt8) (r : List UInt8) : Option (Nat × List UInt8) := if c.toNat % 2 ^ k < 2 ^ k - 1 then some (c.toNat % 2 ^ k, r) else rdMore 3 0 (c.toNat % 2 ^ k) r
def decB (bs : List Bool) : Option (UInt8 × List Bool) :=
 if bs.length < 1 then none
 else if valB (bs.take 1) = 0 then (if bs.length < 4 then none else some (oft.getD (valB ((bs.drop 1).take 3)) 0, bs.drop 4))
 else if bs.length < 2 then none
 else if valB ((bs.drop 1).take 1) = 0 then (if bs.length < 6 then none else some (sel.getD (valB ((bs.drop 2).take 4)) 0, bs.drop 6))
 else if bs.length < 10 then none
 else if (codeB (UInt8.ofNat (valB ((bs.drop 2).take 8)))).length < 10 then none else some (UInt8.ofNat (valB ((bs.drop 2).take 8)), bs.drop 10)
theorem decB_shorter {bs : List Bool} {c : UInt8} {r : List Bool} (h : decB bs = some (c, r)) : r.length < bs.length := by
 unfold decB at h
 split at h
 ·cases h
 ·split at h
  ·split at h
   ·cases h
   ·simp at h; rw [← h.2, List.length_drop]; omega
  ·split at h
   ·cases h
   ·split at h
    ·split at h
     ·cases h
     ·simp at h; rw [← h.2, List.length_drop]; omega
    ·split at h
     ·cases h
     ·split at h
      ·cases h
      ·simp at h; rw [← h.2, List.length_drop]; omega
def fillB (bs : List Bool) : Bool := decide (bs.length < 8) && decide (valB bs + 1 = 2 ^ bs.length)
def unpF : Nat → List Bool → Option (List UInt8)
  | 0, bs => if fillB bs then some [] else none
  | k + 1, bs => if fillB bs then some [] else (decB bs).bind fun x => (unpF k x.2).map (x.1 :: ·)
def unpB (bs : List Bool) : Option (List UInt8) := unpF bs.length bs
theorem unpF_eq : ∀ (k j : Nat) (bs : List Bool), bs.length ≤ k → bs.length ≤ j → unpF k bs = unpF j bs
  | 0, 0, _, _, _ => rfl
  | 0, j + 1, bs, h, _ => by
    have e : bs = [] := List.length_eq_zero_iff.1 (by omega)
    subst e
    rfl
  | k + 1, 0, bs, _, h => by
    have e : bs = [] := List.length_eq_zero_iff.1 (by omega)
    subst e
    rfl
  | k + 1, j + 1, bs, h1, h2 => by
    unfold unpF
    by_cases hf : fillB bs = true
    · rw [if_pos hf, if_pos hf]
    · rw [if_neg hf, if_neg hf]
      cases hd : decB bs with
      | none => rfl
      | some x =>
        have := decB_shorter (c := x.1) (r := x.2) hd
        show (unpF k x.2).map _ = (unpF j x.2).map _
        rw [unpF_eq k j x.2 (by omega) (by omega)]
theorem unpB_fill {bs : List Bool} (h : fillB bs = true) : unpB bs = some [] := by
  unfold unpB
  cases bs.length with
  | zero => rw [unpF, if_pos h]
  | succ k => rw [unpF, if_pos h]
theorem unpB_none {bs : List Bool} (h : fillB bs = false) (hd : decB bs = none) : unpB bs = none := by
  have h' : ¬ fillB bs = true := by simp [h]
  unfold unpB
  cases bs.length with
  | zero => rw [unpF, if_neg h']
  | succ k =>
    rw [unpF, if_neg h', hd]
    rfl
theorem unpB_next {bs : List Bool} {c : UInt8} {r : List Bool} (h : fillB bs = false) (hd : decB bs = some (c, r)) : unpB bs = (unpB r).map (c :: ·) := by
  have h' : ¬ fillB bs = true := by simp [h]
  have hs := decB_shorter hd
  unfold unpB
  cases hl : bs.length with
  | zero => omega
  | succ k =>
    rw [unpF, if_neg h', hd, unpF_eq r.length k r (Nat.le_refl _) (by omega)]
    rfl
theorem natBits_add (k x y : Nat) : natBits k (x * 2 ^ k + y) = natBits k y := by
 induction k generalizing x y with
 | zero => rfl
 | succ k ihk =>
  have h2 : (x * 2 ^ (k + 1) + y) / 2 = x * 2 ^ k + y / 2 := by rw [Nat.pow_succ, ← Nat.mul_assoc]; omega
  have h3 : (x * 2 ^ (k + 1) + y) % 2 = y % 2 := by rw [Nat.pow_succ, ← Nat.mul_assoc]; omega
  simp only [natBits]
  rw [h2, h3, ihk]
end
section
open Go.RowKit
set_option maxRecDepth 100000 in
set_option maxHeartbeats 1600000 in
theorem room_any (h : HP) (w : World) (hn : h.n.size ≤ 1099511627776) (hv : h.v.size ≤ 1099511627776) :
  Calls Tryz.prog 193 #[.agg #[.string h.n, .string h.v]] w fun e w' => e = .returned (.int .i64 (tk h)) ∧ Below w.heap.size w w' := by
 obtain ⟨n, v⟩ := h
 simp only at hn hv
 go_enter Tryz.func193, Tryz.ntmps193
 go_wp2
 go_ret
 exact ⟨by simp [tk], (Below.refl _ _).alloc (Nat.le_refl _) _⟩
set_option maxRecDepth 100000 in
set_option maxHeartbeats 1600000 in
theorem breaksPair_any (h : HP) (w : World) (hn : h.n.size ≤ 281474976710656) (hv : h.v.size ≤ 281474976710656) :
  Calls Tryz.prog 75 #[.agg #[.string h.n, .string h.v]] w fun e w' => e = .returned (.bool (!prB h)) ∧ Below w.heap.size w w' := by
 obtain ⟨n, v⟩ := h
 simp only at hn hv
 have hpr : prB ⟨n, v⟩ = (!n.toList.isEmpty && decide (n.size ≤ 40) && decide (v.size ≤ 40)) := rfl
 have HPR := hide hpr
 clear hpr
 cases he : n.toList.isEmpty with
 | true =>
  go_enter Tryz.func75, Tryz.ntmps75
  go_wp2
  all_goals go_ret
  all_goals refine ⟨ret_bool ?_, (Below.refl _ _).alloc (Nat.le_refl _) _⟩
  all_goals (rw [HPR.out, he]; rfl)
 | false =>
  by_cases h1 : n.size ≤ 40
  ·by_cases h2 : v.size ≤ 40
   ·go_enter Tryz.func75, Tryz.ntmps75
    go_wp2
    all_goals go_ret
    all_goals refine ⟨ret_bool ?_, (Below.refl _ _).alloc (Nat.le_refl _) _⟩
    all_goals (rw [HPR.out, he]; simp [h1, h2]; try omega)
   ·go_enter Tryz.func75, Tryz.ntmps75
    go_wp2
    all_goals go_ret
    all_goals refine ⟨ret_bool ?_, (Below.refl _ _).alloc (Nat.le_refl _) _⟩
    all_goals (rw [HPR.out, he]; simp [h1, h2]; try omega)
  ·go_enter Tryz.func75, Tryz.ntmps75
   go_wp2
   all_goals go_ret
   all_goals refine ⟨ret_bool ?_, (Below.refl _ _).alloc (Nat.le_refl _) _⟩
   all_goals (rw [HPR.out, he]; simp [h1]; try omega)
abbrev fm (f k : Nat) : Value := .agg #[.int .u8 (f : Int), .int .i64 (k : Int)]
set_option maxRecDepth 100000 in
set_option maxHeartbeats 1600000 in
theorem most_any (f k : Nat) (w : World) (hk : k = 4 ∨ k = 5 ∨ k = 6 ∨ k = 7) :
  Calls Tryz.prog 190 #[fm f k] w fun e w' => e = .returned (.int .i64 ((2 ^ k - 1 : Nat) : Int)) ∧ Below w.heap.size w w' := by
 rcases hk with rfl | rfl | rfl | rfl
 all_goals go_enter Tryz.func190, Tryz.ntmps190
 all_goals go_wp2
 all_goals go_ret
 all_goals exact ⟨by rfl, (Below.refl _ _).alloc (Nat.le_refl _) _⟩
set_option maxRecDepth 100000 in
set_option maxHeartbeats 1600000 in
theorem slIndexByte_any (s : ByteArray) (c : Int) (w : World) :
  Calls Tryz.prog 215 #[.string s, .int .u8 c] w fun e w' => e = .returned (.int .i64 (Lib.indexByte s.data.toList c.toNat.toUInt8)) ∧ w' = w := by
 go_enter Tryz.func215, Tryz.ntmps215
 go_wp2
 rw [run_callFunc_extern Tryz.func216 (by kernel_rfl) (by kernel_rfl) (by kernel_rfl) (e := Extern.BytealgIndexByte.indexByte) (by kernel_rfl), Lib.run_indexByteString]
 simp only [Result.andThen]
 rw [Oper.upon_value]
 go_wp2
 go_ret
 exact ⟨rfl, rfl⟩
set_option maxRecDepth 100000 in
set_option maxHeartbeats 1600000 in
theorem indexByte_any (s : ByteArray) (c : Int) (w : World) :
  Calls Tryz.prog 214 #[.string s, .int .u8 c] w fun e w' => e = .returned (.int .i64 (Lib.indexByte s.data.toList c.toNat.toUInt8)) ∧ w' = w := by
 go_enter Tryz.func214, Tryz.ntmps214
 go_wp2_with (go_at_call 215; refine (slIndexByte_any _ _ _).mono ?_; rintro e w' ⟨rfl, rfl⟩)
 go_ret
 exact ⟨rfl, rfl⟩
theorem lib_index (l : List UInt8) (c : UInt8) : Lib.indexByte l c = match pl l c with
  | some k => (k : Int)
  | none => -1 := by
 induction l with
 | nil => rfl
 | cons b r ih =>
  unfold pl at ih ⊢
  rw [Lib.indexByte, List.findIdx?_cons]
  by_cases hb : (b == c) = true
  ·simp [hb]
  ·have hb' : (b == c) = false := by simpa using hb
   rw [hb', ih]
   simp only [Bool.false_eq_true, if_false]
   cases r.findIdx? (fun x => x == c) with
   | none => simp
   | some k =>
    simp only [Option.map_some]
    have : (((k : Int)) == -1) = false := by rw [beq_eq_false_iff_ne]; omega
    rw [this]
    simp
theorem oft_index (c : UInt8) (w : World) : Calls Tryz.prog 214 #[.string ⟨#[101, 116, 97, 111, 105, 110, 115, 114]⟩, .int .u8 c.toNat] w fun e w' => e = .returned (.int .i64 (match pl oft c with
  | some k => (k : Int)
  | none => -1)) ∧ w' = w := by
 have h := indexByte_any ⟨#[101, 116, 97, 111, 105, 110, 115, 114]⟩ c.toNat w
 have e : (Lib.indexByte (ByteArray.mk #[101, 116, 97, 111, 105, 110, 115, 114]).data.toList ((c.toNat : Int)).toNat.toUInt8) = Lib.indexByte oft c := by
  congr 1
  simp
 rw [e, lib_index] at h
 exact h
theorem sel_index (c : UInt8) (w : World) : Calls Tryz.prog 214 #[.string ⟨#[98, 99, 100, 102, 103, 104, 107, 108, 109, 112, 117, 119, 121, 45, 47, 46]⟩, .int .u8 c.toNat] w fun e w' => e = .returned (.int .i64 (match pl sel c with
  | some k => (k : Int)
  | none => -1)) ∧ w' = w := by
 have h := indexByte_any ⟨#[98, 99, 100, 102, 103, 104, 107, 108, 109, 112, 117, 119, 121, 45, 47, 46]⟩ c.toNat w
 have e : (Lib.indexByte (ByteArray.mk #[98, 99, 100, 102, 103, 104, 107, 108, 109, 112, 117, 119, 121, 45, 47, 46]).data.toList ((c.toNat : Int)).toNat.toUInt8) = Lib.indexByte sel c := by
  congr 1
  simp
 rw [e, lib_index] at h
 exact h
def codeN (c : UInt8) : Nat × Nat := match pl oft c with
 | some k => (k, 4)
 | none => match pl sel c with
  | some k => (32 + k, 6)
  | none => (768 + c.toNat, 10)
theorem codeN_bits (c : UInt8) : codeB c = natBits (codeN c).2 (codeN c).1 ∧ (codeN c).1 < 2 ^ (codeN c).2 ∧ (codeN c).2 ≤ 10 := by
 rcases h1 : pl oft c with _ | k
 ·rcases h2 : pl sel c with _ | k
  ·have e1 : codeB c = [true, true] ++ natBits 8 c.toNat := by unfold codeB; rw [h1]; simp only [h2]
   have e2 : codeN c = (768 + c.toNat, 10) := by unfold codeN; rw [h1]; simp only [h2]
   have hlt := c.toNat_lt
   rw [e1, e2]
   refine ⟨?_, by show 768 + c.toNat < 2 ^ 10; omega, by show 10 ≤ 10; omega⟩
   show _ = natBits (9 + 1) (768 + c.toNat)
   rw [natBits_high 9, natBits_high 8]
   have h1 : (768 + c.toNat) / 2 ^ 9 % 2 = 1 := by omega
   have h2 : (768 + c.toNat) / 2 ^ 8 % 2 = 1 := by omega
   have h3 : natBits 8 (768 + c.toNat) = natBits 8 c.toNat := natBits_add 8 3 c.toNat
   rw [h1, h2, h3]
   rfl
  ·have e1 : codeB c = [true, false] ++ natBits 4 k := by unfold codeB; rw [h1]; simp only [h2]
   have e2 : codeN c = (32 + k, 6) := by unfold codeN; rw [h1]; simp only [h2]
   have hlt : k < 16 := pl_lt h2
   rw [e1, e2]
   refine ⟨?_, by show 32 + k < 2 ^ 6; omega, by show 6 ≤ 10; omega⟩
   show _ = natBits (5 + 1) (32 + k)
   rw [natBits_high 5, natBits_high 4]
   have h1 : (32 + k) / 2 ^ 5 % 2 = 1 := by omega
   have h2 : (32 + k) / 2 ^ 4 % 2 = 0 := by omega
   have h3 : natBits 4 (32 + k) = natBits 4 k := natBits_add 4 2 k
   rw [h1, h2, h3]
   rfl
 ·have e1 : codeB c = [false] ++ natBits 3 k := by unfold codeB; rw [h1]
  have e2 : codeN c = (k, 4) := by unfold codeN; rw [h1]
  have hlt : k < 8 := pl_lt h1
  rw [e1, e2]
  refine ⟨?_, by show k < 2 ^ 4; omega, by show 4 ≤ 10; omega⟩
  show _ = natBits (3 + 1) k
  rw [natBits_high 3 k]
  have : k / 2 ^ 3 % 2 = 0 := by omega
  rw [this]
  rfl
set_option maxRecDepth 100000 in
set_option maxHeartbeats 1600000 in
theorem bcodeOf_any (c : UInt8) (w : World) :
  Calls Tryz.prog 210 #[.int .u8 c.toNat] w fun e w' => e = .returned (.tuple #[.int .u32 (codeN c).1, .int .i64 (codeN c).2]) ∧ w' = w := by
 have H1 := hide (oft_index c)
 have H2 := hide (sel_index c)
 have hcl : c.toNat ≤ 255 := Nat.le_of_lt_succ c.toNat_lt
 rcases h1 : pl oft c with _ | k
 ·rcases h2 : pl sel c with _ | k
  ·have HN : Hid (codeN c = (768 + c.toNat, 10)) := by show codeN c = _; unfold codeN; rw [h1]; simp only [h2]
   rw [h1] at H1
   rw [h2] at H2
   simp only at H1 H2
   clear h1 h2
   have hor : bits .or .u32 768 (c.toNat : Int) = ((768 + c.toNat : Nat) : Int) := by
    have h3 : ∀ j : Fin 256, 768 ||| j.val = 768 + j.val := by decide
    rw [← h3 ⟨c.toNat, c.toNat_lt⟩]
    exact u32_or_nat 768 c.toNat (by omega) (by omega)
   have HO := hide hor
   clear hor
   generalize c.toNat = x at *
   go_enter Tryz.func210, Tryz.ntmps210
   go_wp2_with (first | (go_at_call 214; refine (H1.out _).mono ?_; rintro e w' ⟨rfl, rfl⟩) | (go_at_call 214; refine (H2.out _).mono ?_; rintro e w' ⟨rfl, rfl⟩))
   rw [HN.out]
   refine bodyPost_ret (v := .tuple #[.int .u32 ((768 + x : Nat)), .int .i64 10]) ?_ rfl ⟨rfl, rfl⟩
   simp [results, Tryz.results210, go_sem, HO.out]
  ·have HN : Hid (codeN c = (32 + k, 6)) := by show codeN c = _; unfold codeN; rw [h1]; simp only [h2]
   have hk : k < 16 := pl_lt h2
   have hor : bits .or .u32 32 (k : Int) = ((32 + k : Nat) : Int) := by
    have h3 : ∀ j : Fin 16, 32 ||| j.val = 32 + j.val := by decide
    rw [← h3 ⟨k, hk⟩]
    exact u32_or_nat 32 k (by omega) (by omega)
   have HO := hide hor
   clear hor
   rw [h1] at H1
   rw [h2] at H2
   simp only at H1 H2
   clear h1 h2
   generalize c.toNat = x at *
   go_enter Tryz.func210, Tryz.ntmps210
   go_wp2_with (first | (go_at_call 214; refine (H1.out _).mono ?_; rintro e w' ⟨rfl, rfl⟩) | (go_at_call 214; refine (H2.out _).mono ?_; rintro e w' ⟨rfl, rfl⟩))
   rw [HN.out]
   refine bodyPost_ret (v := .tuple #[.int .u32 ((32 + k : Nat)), .int .i64 6]) ?_ rfl ⟨rfl, rfl⟩
   simp [results, Tryz.results210, go_sem, HO.out]
 ·have HN : Hid (codeN c = (k, 4)) := by show codeN c = _; unfold codeN; rw [h1]
  have hk : k < 8 := pl_lt h1
  rw [h1] at H1
  simp only at H1
  clear h1
  generalize c.toNat = x at *
  go_enter Tryz.func210, Tryz.ntmps210
  go_wp2_with (first | (go_at_call 214; refine (H1.out _).mono ?_; rintro e w' ⟨rfl, rfl⟩) | (go_at_call 214; refine (H2.out _).mono ?_; rintro e w' ⟨rfl, rfl⟩))
  rw [HN.out]
  refine bodyPost_ret (v := .tuple #[.int .u32 (k : Nat), .int .i64 4]) ?_ rfl ⟨rfl, rfl⟩
  simp [results, Tryz.results210, go_sem]
end
section
open Go.RowKit
end
section
open Go.RowKit
def BwB (w : World) (wb : Nat) (gv : Value) (L N : Nat) : Prop := w.heap[wb]? = some (.cells #[gv, .int .u32 (L : Int), .int .i64 (N : Int)] 280 (0, 0))
theorem BwB.cells {w : World} {wb : Nat} {gv : Value} {L N : Nat} (h : BwB w wb gv L N) : w.cell? ⟨wb, 0, none⟩ = some gv ∧ w.cell? ⟨wb, 1, none⟩ = some (.int .u32 (L : Int)) ∧ w.cell? ⟨wb, 2, none⟩ = some (.int .i64 (N : Int)) := by
 unfold BwB at h
 refine ⟨?_, ?_, ?_⟩ <;> rw [cell_of_row w wb _ _ _ _ h] <;> rfl
theorem BwB.lt {w : World} {wb : Nat} {gv : Value} {L N : Nat} (h : BwB w wb gv L N) : wb < w.heap.size := lt_of_block h
theorem step_app {P : Program} {ops : Array Oper} {o : Oper} {a : Act} {w : World} {K : Act → World → Prop} {Q : Exit → Act → World → Prop} {E : Prop} (hgd : o.guard = none) (s y : Operand) (t : TypeId)
  (ho : o.op = .call { callee := .builtin .append, args := #[s, y], argTypes := #[t, t] })
  (e : TypeId) (i : TypeInfo) (z : Value) (size bytes : Nat) (ht : P.underlying t = some (.slice e)) (hi : P.info? e = some i) (hz : i.zero = some z)
  (hsize : i.size = size) (hby : i.bytes = bytes) (hzs : z.cells.size = size) (hsz : 0 < size)
  (v : Value) (n : Nat) (xs : List Value) (hs : a.eval s = v) (hown : w.ownsRow 0 e size v n xs)
  (x : Value) (m : Nat) (news : List Value) (hx : a.eval y = x) (hl : news.length = m * size) (hnews : Lies w x m news) (h1 : ∀ u ∈ news, u.oneCell' = true)
  (h63 : n + m ≤ maxLen) (hbytes : (n + m) * bytes ≤ 140737488355328)
  (hK : ∀ v' w', w'.ownsRow 0 e size v' (n + m) (xs ++ news) → w.grownBy w' v.ownBlock → (v'.ownBlock = v.ownBlock ∨ v'.ownBlock = some w.heap.size) → K (a.put o.dst v') w') :
  if Region.wanted o (yielded ops a.tmps) = true then Oper.wp P o a w K Q else E := by
 have hw : Region.wanted o (yielded ops a.tmps) = true := by simp [Region.wanted, hgd]
 rw [if_pos hw]
 obtain ⟨v', w', hr, h2, h3, h4⟩ := run_app (P := P) w t o.type e i z size bytes ht hi hz hsize hby hzs hsz v n xs hown x m news hl hnews h1 h63 hbytes
 unfold Oper.wp
 simp [execOp, ho, resolve, invoke, builtin, hs, hx, hr, Result.andThen]
 exact hK v' w' h2 h3 h4
theorem BwB.chg {S : Nat → Prop} {w w' : World} {wb : Nat} {gv : Value} {L N : Nat} (h : BwB w wb gv L N) (hc : Chg S w w') (hs : ¬ S wb) : BwB w' wb gv L N := by
 unfold BwB at h ⊢
 rw [hc.block wb (lt_of_block h) hs]; exact h
def BwS (w : World) (wb : Nat) (gv : Value) (bs : List Bool) : Prop :=
 ∃ L N, BwB w wb gv L N ∧ L < 4294967296 ∧ N = bs.length % 8 ∧ L % 2 ^ N = valB (bs.drop (8 * (bs.length / 8))) ∧ w.ownsRow 0 5 1 gv (bs.length / 8) ((bytesB bs).map B)
end
section
open Go.RowKit
theorem step_call {P : Program} {ops : Array Oper} {o : Oper} {a : Act} {w : World} {K : Act → World → Prop} {Q : Exit → Act → World → Prop} {E : Prop} (hgd : o.guard = none) (f : Nat) (fn : Func) (hfn : P.funcs[f]? = some fn) (hnm : (fn.name == "runtime.NumGoroutine") = false) (hbd : fn.body.isNone = false) (xs : List Operand) (ts : Array TypeId)
  (ho : o.op = .call { callee := .value (.func f), args := xs.toArray, argTypes := ts }) (vs : List Value) (hvs : xs.map a.eval = vs) {R : Ending → World → Prop} (hc : Calls P f vs.toArray w R)
  (hK : ∀ e w', R e w' → ∃ v, e = .returned v ∧ K (a.put o.dst v) w') :
  if Region.wanted o (yielded ops a.tmps) = true then Oper.wp P o a w K Q else E := by
 have hw : Region.wanted o (yielded ops a.tmps) = true := by simp [Region.wanted, hgd]
 rw [if_pos hw]
 unfold Oper.wp
 have he : (callFunc f vs.toArray).run P w = .ok (.enter f vs.toArray) w := by
  unfold callFunc
  simp only [Sem.run_bind, run_program, Result.andThen_ok, hfn, hnm, hbd, Bool.false_eq_true, if_false, Sem.run_pure]
 have hx : (execOp a.eval o).run P w = .ok (.enter f vs.toArray) w := by
  simp [execOp, ho, resolve, invoke, hvs, Act.eval, Deferred.ofValue, he]
 rw [hx, Oper.upon_enter]
 refine hc.mono ?_
 intro e w' hr
 obtain ⟨v, rfl, hk⟩ := hK e w' hr
 exact hk
theorem step_gone {P : Program} {ops : Array Oper} {o : Oper} {a : Act} {w : World} {K : Act → World → Prop} {Q : Exit → Act → World → Prop} {E : Prop} (hgd : o.guard = none) (f : Nat) (fn : Func) (hfn : P.funcs[f]? = some fn) (hnm : (fn.name == "runtime.NumGoroutine") = false) (hbd : fn.body.isNone = false) (xs : List Operand) (ts : Array TypeId)
  (ho : o.op = .call { callee := .value (.func f), args := xs.toArray, argTypes := ts }) (vs : List Value) (hvs : xs.map a.eval = vs) {R : Ending → World → Prop} (hc : Calls P f vs.toArray w R)
  (hK : ∀ e w', R e w' → ∃ ps, e = .panicked ps ∧ Q (.panic ps) a w') (v : Value) (hv : False → K (a.put o.dst v) w) :
  if Region.wanted o (yielded ops a.tmps) = true then Oper.wp P o a w K Q else E := by
 have hw : Region.wanted o (yielded ops a.tmps) = true := by simp [Region.wanted, hgd]
 rw [if_pos hw]
 unfold Oper.wp
 have he : (callFunc f vs.toArray).run P w = .ok (.enter f vs.toArray) w := by
  unfold callFunc
  simp only [Sem.run_bind, run_program, Result.andThen_ok, hfn, hnm, hbd, Bool.false_eq_true, if_false, Sem.run_pure]
 have hx : (execOp a.eval o).run P w = .ok (.enter f vs.toArray) w := by
  simp [execOp, ho, resolve, invoke, hvs, Act.eval, Deferred.ofValue, he]
 rw [hx, Oper.upon_enter]
 refine hc.mono ?_
 intro e w' hr
 obtain ⟨v, rfl, hk⟩ := hK e w' hr
 exact hk
theorem step_never {P : Program} {ops : Array Oper} {o : Oper} {a : Act} {w : World} {K : Act → World → Prop} {Q : Exit → Act → World → Prop} {E : Prop} (hf : False) (v : Value) (hv : K (a.put o.dst v) w) : if Region.wanted o (yielded ops a.tmps) = true then Oper.wp P o a w K Q else E := hf.elim
theorem step_appd {P : Program} {ops : Array Oper} {o : Oper} {a : Act} {w : World} {K : Act → World → Prop} {Q : Exit → Act → World → Prop} {E : Prop} (hgd : o.guard = none) (s y : Operand) (t : TypeId)
  (ho : o.op = .call { callee := .builtin .append, args := #[s, y], argTypes := #[t, t] })
  (e : TypeId) (i : TypeInfo) (z : Value) (size bytes : Nat) (ht : P.underlying t = some (.slice e)) (hi : P.info? e = some i) (hz : i.zero = some z)
  (hsize : i.size = size) (hby : i.bytes = bytes) (hzs : z.cells.size = size) (hsz : 0 < size)
  (v : Value) (n : Nat) (xs : List Value) (hs : a.eval s = v) (hown : w.ownsRow 0 e size v n xs)
  (x : Value) (m : Nat) (news : List Value) (hx : a.eval y = x) (hl : news.length = m * size) (hnews : Lies w x m news) (h1 : ∀ u ∈ news, u.oneCell' = true)
  (h63 : n + m ≤ maxLen) (hbytes : (n + m) * bytes ≤ 140737488355328)
  (hK : ∀ v' w', w'.ownsRow 0 e size v' (n + m) (xs ++ news) → w.grownBy w' v.ownBlock → (v'.ownBlock = v.ownBlock ∨ v'.ownBlock = some w.heap.size) → K (a.put o.dst v') w') :
  if Region.wanted o (yielded ops a.tmps) = true then Oper.wp P o a w K Q else E := by
 have hw : Region.wanted o (yielded ops a.tmps) = true := by simp [Region.wanted, hgd]
 rw [if_pos hw]
 obtain ⟨v', w', hr, h2, h3, h4⟩ := run_app (P := P) w t o.type e i z size bytes ht hi hz hsize hby hzs hsz v n xs hown x m news hl hnews h1 h63 hbytes
 unfold Oper.wp
 simp [execOp, ho, resolve, invoke, builtin, hs, hx, hr, Result.andThen]
 exact hK v' w' h2 h3 h4
end
end Go.Proofs.YtdccldbefdfppaaGreatDoor
