import Derived.Test.YtiphkngfbpdeoaaGreatDoorRows
import Derived.WalkKit
import Derived.WalkSpells
import Derived.WalkLawsBesides
import Derived.Laws.AppendOwnNone
import Derived.BigQuiet
import Derived.BigRegion
import Derived.Deep.QuietTactic
import Derived.Lib.Strings
import Derived.Lib.Walk
import Derived.Lib.Bytealg
import Derived.Laws.BitsAllLaws
import Derived.Deep.RegionWith
import Derived.Deep.DeepCutAuto
import Derived.Deep.RegionHeld3
import Derived.Deep.RegionLaw
set_option linter.unusedVariables false
set_option linter.unusedSimpArgs false
namespace Go.Proofs.YtiphkngfbpdeoaaGreatDoor
set_option linter.unusedVariables false
set_option linter.unusedSimpArgs false
open Go.RowKit
theorem getD_lt {α : Type} (l : List α) (i : Nat) (d : α) (h : i < l.length) : l.getD i d = l[i] := by simp [List.getD, h]
theorem hide {p : Prop} (h : p) : Hid p := h
abbrev B (c : UInt8) : Value := .int .u8 (c.toNat : Int)
structure Chg (S : Nat → Prop) (w w' : World) : Prop where
  os : w'.os = w.os
  tape : w'.tape = w.tape
  output : w'.output = w.output
  size : w.heap.size ≤ w'.heap.size
  block : ∀ k, k < w.heap.size → ¬ S k → w'.heap[k]? = w.heap[k]?
theorem Chg.refl (S : Nat → Prop) (w : World) : Chg S w w := ⟨rfl, rfl, rfl, Nat.le_refl _, fun _ _ _ => rfl⟩
theorem Chg.mono {S T : Nat → Prop} {w w' : World} (h : Chg S w w') (hs : ∀ k, k < w.heap.size → S k → T k) : Chg T w w' :=
  ⟨h.os, h.tape, h.output, h.size, fun k hk ht => h.block k hk fun s => ht (hs k hk s)⟩
theorem Chg.trans {S : Nat → Prop} {a b c : World} (h : Chg S a b) (k : Chg (fun i => a.heap.size ≤ i ∨ S i) b c) : Chg S a c :=
  ⟨k.os.trans h.os, k.tape.trans h.tape, k.output.trans h.output, Nat.le_trans h.size k.size,
    fun i hi hs => (k.block i (Nat.lt_of_lt_of_le hi h.size) (by rintro (x | x); · omega
                                                                 · exact hs x)).trans (h.block i hi hs)⟩
theorem Chg.of_below {S : Nat → Prop} {w w' : World} (h : Below w.heap.size w w') : Chg S w w' := ⟨h.os, h.tape, h.output, h.size, fun k hk _ => h.block k hk⟩
theorem Chg.below {w w' : World} (h : Chg (fun _ => False) w w') : Below w.heap.size w w' := ⟨h.os, h.tape, h.output, h.size, fun k hk => h.block k hk id⟩
theorem Chg.of_grown {S : Nat → Prop} {w w' : World} {row : Option Nat} (h : w.grownBy w' row) (hs : ∀ k, row = some k → S k) : Chg S w w' :=
  ⟨h.os, h.tape, h.output, h.size, fun k hk hn => h.block k hk fun e => hn (hs k e.symm)⟩
theorem Chg.setCell {S : Nat → Prop} {a w : World} (h : Chg S a w) {p : Addr} (hp : a.heap.size ≤ p.block ∨ S p.block) (u : Value) : Chg S a (w.setCell p u) :=
  h.trans ⟨rfl, rfl, rfl, by simp [World.setCell], fun k _ hn => Below.heap_setCell _ _ _ _ (fun e => hn (by rw [e]; exact hp))⟩
theorem Chg.alloc {S : Nat → Prop} {a w : World} (h : Chg S a w) (o : Obj) : Chg S a (w.alloc o) :=
  h.trans ⟨rfl, rfl, rfl, by simp, fun k hk _ => Below.heap_alloc _ _ _ hk⟩
theorem Chg.drew {S : Nat → Prop} {a w : World} (h : Chg S a w) : Chg S a w.drew := ⟨h.os, h.tape, h.output, h.size, h.block⟩
theorem Chg.drewN {S : Nat → Prop} {a w : World} (h : Chg S a w) (n : Nat) : Chg S a (w.drewN n) := h.trans ⟨rfl, rfl, rfl, Nat.le_refl _, fun _ _ _ => rfl⟩
theorem Chg.then_below {S : Nat → Prop} {a b c : World} (h : Chg S a b) (k : Below b.heap.size b c) : Chg S a c := h.trans (Chg.of_below k)
theorem Chg.cell {S : Nat → Prop} {w w' : World} (h : Chg S w w') {p : Addr} (hp : p.block < w.heap.size) (hs : ¬ S p.block) : w'.cell? p = w.cell? p := World.cell?_of_block (w := w) (h.block p.block hp hs)
theorem Chg.frozen {S : Nat → Prop} {w w' : World} (h : Chg S w w') {p : Addr} (hp : p.block < w.heap.size) (hs : ¬ S p.block) : w'.frozen? p = w.frozen? p := World.frozen?_of_block (w := w) (h.block p.block hp hs)
theorem owns_chg {S : Nat → Prop} {w w' : World} {base e size n : Nat} {v : Value} {xs : List Value} (h : w.ownsRow base e size v n xs) (hc : Chg S w w') (hs : ∀ k, v.ownBlock = some k → ¬ S k) : w'.ownsRow base e size v n xs := by
  refine ⟨h.1, ?_⟩
  rcases h.2 with hn | ⟨g, cap, cur, rfl, hb, hgg, rest⟩
  · exact .inl hn
  · refine .inr ⟨g, cap, cur, rfl, hb, ?_, rest⟩
    rw [hc.block g (Array.getElem?_eq_some_iff.1 hgg).1 (hs g rfl)]
    exact hgg
theorem owns_base {w : World} {base base' e size n : Nat} {v : Value} {xs : List Value} (h : w.ownsRow base e size v n xs) (hb : ∀ k, v.ownBlock = some k → base' ≤ k) : w.ownsRow base' e size v n xs := by
  refine ⟨h.1, ?_⟩
  rcases h.2 with hn | ⟨g, cap, cur, rfl, _, rest⟩
  · exact .inl hn
  · exact .inr ⟨g, cap, cur, rfl, hb g rfl, rest⟩
theorem owns_lt {w : World} {base e size n : Nat} {v : Value} {xs : List Value} (h : w.ownsRow base e size v n xs) {k : Nat} (hk : v.ownBlock = some k) : k < w.heap.size := (h.lt k hk).2
theorem owns_ne {w : World} {base e e' size n : Nat} {v : Value} {xs : List Value} {b : Nat} {cs : Array Value} {fr : Nat × Nat} (h : w.ownsRow base e size v n xs) (hb : w.heap[b]? = some (.cells cs e' fr)) (hne : e ≠ e') : v.ownBlock ≠ some b := by
  intro hk
  rcases h.2 with ⟨rfl, _⟩ | ⟨g, cap, cur, rfl, _, hgg, _⟩
  · simp [Value.ownBlock] at hk
  · simp [Value.ownBlock] at hk
    subst hk
    rw [hgg] at hb
    simp at hb
    exact hne hb.2.1
theorem block_setCell {w : World} {b i : Nat} {cs : Array Value} {t : TypeId} {fr : Nat × Nat} {u : Value} (h : w.heap[b]? = some (.cells cs t fr)) : (w.setCell ⟨b, i, none⟩ u).heap[b]? = some (.cells (cs.setIfInBounds i u) t fr) := by
  simp only [World.setCell, Array.getElem?_modify, ↓reduceIte, h, Option.map_some]
  rfl
theorem take_bytes (l : List UInt8) (c : UInt8) : (l ++ [c]).map B = l.map B ++ [B c] := by simp
theorem rows_ne {w : World} {b b' e e' s s' n n' : Nat} {v v' : Value} {xs xs' : List Value} (h : w.ownsRow b e s v n xs) (h' : w.ownsRow b' e' s' v' n' xs') (hne : e ≠ e') {k : Nat} (hk : v.ownBlock = some k) : v'.ownBlock ≠ some k := by
  rcases h.2 with ⟨rfl, _⟩ | ⟨g, cap, cur, rfl, _, hgg, _⟩
  · simp [Value.ownBlock] at hk
  · simp [Value.ownBlock] at hk
    subst hk
    exact owns_ne h' hgg (fun e => hne e.symm)
theorem drop_cons {l : List UInt8} {k : Nat} (h : k < l.length) : l.drop k = l.getD k 0 :: l.drop (k + 1) := by
  rw [getD_lt _ _ _ h]; exact List.drop_eq_getElem_cons h
def Lies (w : World) (x : Value) (m : Nat) (news : List Value) : Prop :=
  (x = .slice none 0 0 ∧ m = 0 ∧ news = []) ∨ ∃ ad c, x = .slice (some ad) m c ∧ ∀ j u, news[j]? = some u → w.cell? (ad.add j) = some u
theorem run_app {P : Program} (w : World) (t ty e : TypeId) (i : TypeInfo) (z : Value) (size bytes : Nat) (ht : P.underlying t = some (.slice e)) (hi : P.info? e = some i) (hz : i.zero = some z)
    (hsize : i.size = size) (hby : i.bytes = bytes) (hzs : z.cells.size = size) (hsz : 0 < size)
    (v : Value) (n : Nat) (xs : List Value) (hown : w.ownsRow 0 e size v n xs)
    (x : Value) (m : Nat) (news : List Value) (hl : news.length = m * size) (hnews : Lies w x m news) (h1 : ∀ u ∈ news, u.oneCell' = true)
    (h63 : n + m ≤ maxLen) (hbytes : (n + m) * bytes ≤ 140737488355328) :
    ∃ v' w', (Builtin.append_ #[t, t] ty #[v, x]).run P w = .ok v' w' ∧ w'.ownsRow 0 e size v' (n + m) (xs ++ news) ∧ w.grownBy w' v.ownBlock ∧
      (v'.ownBlock = v.ownBlock ∨ v'.ownBlock = some w.heap.size) := by
  have hsmall : n + m ≤ 9223372036854775807 := by simp only [maxLen] at h63; omega
  rcases hnews with ⟨rfl, rfl, rfl⟩ | ⟨ad, c, rfl, hcells⟩
  · refine ⟨v, w, run_append_owned_none (P := P) (w := w) 0 t ty e i size ht hi v n xs hown, by simpa using hown, ⟨rfl, rfl, rfl, Nat.le_refl _, fun _ _ _ => rfl⟩, Or.inl rfl⟩
  · obtain ⟨v', w', hr, h2, h3, h4⟩ := run_append_own (P := P) w 0 t ty e i z size bytes ht hi hz hsize hby hzs hsz v n xs hown ad m c news hl hcells h1 h63 hbytes (Nat.zero_le _)
    refine ⟨v', w', hr, h2, h3, ?_⟩
    subst hsize
    subst hby
    rcases hown.2 with ⟨rfl, rfl⟩ | ⟨g, cap, cur, rfl, hbg, hg, hnc, hcm, hcs, htake⟩
    · by_cases hm : m = 0
      · exact Or.inl (by rw [h4.2 ⟨rfl, hm⟩])
      · have h := run_append_nil (P := P) w t ty e i z ht hi hz ad m c news hl hcells (by omega) (by omega) (by have hb := hbytes; simp only [Nat.zero_add] at hb; omega)
        rw [h] at hr
        simp only [Result.ok.injEq] at hr
        exact Or.inr (by rw [← hr.1]; rfl)
    · by_cases hroom : n + m ≤ cap
      · have hfit : n * i.size + news.length ≤ cur.size := by rw [hl, hcs, ← Nat.add_mul]; exact Nat.mul_le_mul_right _ hroom
        have h := run_append_room (P := P) w t ty e i ht hi g n cap cur hg ad m c news hl hcells h1 hroom hfit
        rw [h] at hr
        simp only [Result.ok.injEq] at hr
        exact Or.inl (by rw [← hr.1]; rfl)
      · have holds : ∀ j u, xs[j]? = some u → w.cell? ((⟨g, 0, none⟩ : Addr).add j) = some u := hown.cells (g := g) rfl
        have h := run_append_grow (P := P) w t ty e i z ht hi hz ⟨g, 0, none⟩ n cap xs hown.1 holds ad m c news hl hcells (by omega) (by omega) (growslice_fits (by omega) hbytes)
        rw [h] at hr
        simp only [Result.ok.injEq] at hr
        exact Or.inr (by rw [← hr.1]; rfl)
theorem wpList_app {P : Program} (w : World) {ops : Array Oper} {rest : List Oper} {o : Oper} {a : Act} {Q : Exit → Act → World → Prop} (hgd : o.guard = none) (s y : Operand) (t : TypeId)
    (ho : o.op = .call { callee := .builtin .append, args := #[s, y], argTypes := #[t, t] })
    (e : TypeId) (i : TypeInfo) (z : Value) (size bytes : Nat) (ht : P.underlying t = some (.slice e)) (hi : P.info? e = some i) (hz : i.zero = some z)
    (hsize : i.size = size) (hby : i.bytes = bytes) (hzs : z.cells.size = size) (hsz : 0 < size)
    (v : Value) (n : Nat) (xs : List Value) (hs : a.eval s = v) (hown : w.ownsRow 0 e size v n xs)
    (x : Value) (m : Nat) (news : List Value) (hx : a.eval y = x) (hl : news.length = m * size) (hnews : Lies w x m news) (h1 : ∀ u ∈ news, u.oneCell' = true)
    (h63 : n + m ≤ maxLen) (hbytes : (n + m) * bytes ≤ 140737488355328)
    (h : ∀ v' w', w'.ownsRow 0 e size v' (n + m) (xs ++ news) → w.grownBy w' v.ownBlock → (v'.ownBlock = v.ownBlock ∨ v'.ownBlock = some w.heap.size) → wpList P ops Q rest (a.put o.dst v') w') : wpList P ops Q (o :: rest) a w := by
  refine wpList_plain hgd fun K hK => ?_
  obtain ⟨v', w', hr, h2, h3, h4⟩ := run_app (P := P) w t o.type e i z size bytes ht hi hz hsize hby hzs hsz v n xs hown x m news hl hnews h1 h63 hbytes
  unfold Oper.wp execOp
  simp only [ho, resolve, invoke, builtin, Sem.run_bind, Sem.run_pure, Result.andThen_ok, List.map_toArray, List.map_cons, List.map_nil, hs, hx, hr]
  exact hK _ _ (h v' w' h2 h3 h4)
theorem lies_one {w : World} {b : Nat} {u : Value} (h : w.cell? ⟨b, 0, none⟩ = some u) : Lies w (.slice (some ⟨b, 0, none⟩) 1 1) 1 [u] :=
  Or.inr ⟨_, _, rfl, fun j x hj => by
    match j, hj with
    | 0, hj => simp at hj; subst hj; simpa [Addr.add] using h⟩
theorem Tryz.info5 : (Tryz.prog.info? 5).map (fun i => (i.zero, i.size, i.bytes)) = some (some (.int .u8 0), 1, 1) := by kernel_rfl
theorem bytes_one (l : List UInt8) : ∀ u ∈ l.map B, u.oneCell' = true := by
  intro u hu
  obtain ⟨x, _, rfl⟩ := List.mem_map.1 hu
  rfl
theorem slice_of_owns {w : World} {b e s n : Nat} {v : Value} {xs : List Value} (h : w.ownsRow b e s v n xs) : ∃ sa m c, v = .slice sa m c := by
  rcases h.2 with ⟨rfl, _⟩ | ⟨g, cap, cur, rfl, _⟩
  · exact ⟨_, _, _, rfl⟩
  · exact ⟨_, _, _, rfl⟩
def BytesIn (w : World) (bv : Value) (l : List UInt8) : Prop :=
  (bv = .slice none 0 0 ∧ l = []) ∨ ∃ bb off cap, bv = .slice (some ⟨bb, off, none⟩) l.length cap ∧ bb < w.heap.size ∧ l.length ≤ cap ∧ ∀ i, i < l.length → w.cell? ⟨bb, off + i, none⟩ = some (.int .u8 (l.getD i 0).toNat)
theorem bytesIn_of_owns {w : World} {b n : Nat} {v : Value} {l : List UInt8} (h : w.ownsRow b 5 1 v n (l.map B)) (hn : n = l.length) : BytesIn w v l := by
  subst hn
  rcases h.2 with ⟨rfl, h0⟩ | ⟨g, cap, cur, rfl, _, hgg, hle, _⟩
  · exact Or.inl ⟨rfl, List.eq_nil_of_length_eq_zero h0⟩
  · refine Or.inr ⟨g, 0, cap, rfl, (Array.getElem?_eq_some_iff.1 hgg).1, hle, fun i hi => ?_⟩
    have := h.cells (g := g) rfl i (B (l.getD i 0)) (by simp [List.getD, hi])
    rw [Nat.zero_add, ← this]
    congr 1
    unfold Addr.add; split <;> simp_all
theorem BytesIn.chg {S : Nat → Prop} {w w' : World} {bv : Value} {l : List UInt8} (h : BytesIn w bv l) (hc : Chg S w w') (hs : ∀ k, bv.ownBlock = some k → ¬ S k) : BytesIn w' bv l := by
  rcases h with h | ⟨bb, off, cap, rfl, h1, h2, h3⟩
  · exact Or.inl h
  · exact Or.inr ⟨bb, off, cap, rfl, Nat.lt_of_lt_of_le h1 hc.size, h2, fun i hi => (hc.cell (p := ⟨bb, off + i, none⟩) h1 (hs bb rfl)).trans (h3 i hi)⟩
def BytesA (w : World) (bv : Value) (l : List UInt8) : Prop := BytesIn w bv l ∨ ∃ ad, bv = .slice (some ad) 0 0 ∧ l = []
theorem BytesA.chg {w w' : World} {bv : Value} {l : List UInt8} (h : BytesA w bv l) (hc : Chg (fun _ => False) w w') : BytesA w' bv l := by
  rcases h with h | h
  · exact Or.inl (h.chg hc (fun _ _ => id))
  · exact Or.inr h
theorem bytesA_len {w : World} {bv : Value} {l : List UInt8} (h : BytesA w bv l) : ∃ sa cap, bv = .slice sa l.length cap := by
  rcases h with (⟨rfl, rfl⟩ | ⟨bb, off, cap, rfl, _⟩) | ⟨ad, rfl, rfl⟩
  · exact ⟨_, _, rfl⟩
  · exact ⟨_, _, rfl⟩
  · exact ⟨_, _, rfl⟩
theorem BytesIn.lt {w : World} {bv : Value} {l : List UInt8} (h : BytesIn w bv l) {k : Nat} (hk : bv.ownBlock = some k) : k < w.heap.size := by
  rcases h with ⟨rfl, _⟩ | ⟨bb, off, cap, rfl, h1, _⟩
  · simp [Value.ownBlock] at hk
  · simp [Value.ownBlock] at hk; omega
theorem lies_of_bytesIn {w : World} {x : Value} {l : List UInt8} (h : BytesIn w x l) : Lies w x l.length (l.map B) := by
  rcases h with ⟨rfl, rfl⟩ | ⟨bb, off, cap, rfl, h1, h2, h3⟩
  · exact Or.inl ⟨rfl, rfl, rfl⟩
  · refine Or.inr ⟨_, _, rfl, fun j u hu => ?_⟩
    have hj : j < l.length := by
      have := (List.getElem?_eq_some_iff.1 hu).1
      simpa using this
    have e : (⟨bb, off, none⟩ : Addr).add j = ⟨bb, off + j, none⟩ := by unfold Addr.add; split <;> simp_all
    rw [e, h3 j hj, ← hu]
    simp [List.getD, hj]
theorem slice_len {w : World} {b e s n : Nat} {v : Value} {xs : List Value} (h : w.ownsRow b e s v n xs) : ∃ sv cv, v = .slice sv n cv := by
  rcases h.2 with ⟨rfl, rfl⟩ | ⟨g, cap, cur, rfl, _⟩
  · exact ⟨_, _, rfl⟩
  · exact ⟨_, _, rfl⟩
theorem slice_some {w : World} {b e s n cv : Nat} {sv : Option Addr} {xs : List Value} (h : w.ownsRow b e s (.slice sv n cv) n xs) (hn : 0 < n) : ∃ g, sv = some ⟨g, 0, none⟩ ∧ n ≤ cv := by
  rcases h.2 with ⟨h0, rfl⟩ | ⟨g, cap, cur, h0, _, _, hle, _⟩
  · omega
  · simp only [Value.slice.injEq, true_and] at h0
    obtain ⟨rfl, rfl⟩ := h0
    exact ⟨g, rfl, hle⟩
theorem ret_bool {a b : Bool} (h : a = b) : Ending.returned (.bool a) = .returned (.bool b) := by rw [h]
end Go.Proofs.YtiphkngfbpdeoaaGreatDoor
namespace Go.Proofs.YtiphkngfbpdeoaaGreatDoor
set_option linter.unusedVariables false
set_option linter.unusedSimpArgs false
structure HP where
  n : ByteArray
  v : ByteArray
def tk (h : HP) : Nat := h.n.size + h.v.size + 8
def hpEq (x h : HP) : Bool := decide (x.n.toList = h.n.toList ∧ x.v.toList = h.v.toList)
def pnF (l : List HP) (h : HP) : Option Nat := l.findIdx? (fun x => decide (x.n.toList = h.n.toList ∧ x.v.toList = h.v.toList))
def natBits : Nat → Nat → List Bool
  | 0, _ => []
  | k + 1, v => natBits k (v / 2) ++ [v % 2 == 1]
theorem natBits_length (k v : Nat) : (natBits k v).length = k := by
  induction k generalizing v with
  | zero => rfl
  | succ k ih => simp [natBits, ih]
theorem natBits_high (k v : Nat) : natBits (k + 1) v = (v / 2 ^ k % 2 == 1) :: natBits k v := by
  induction k generalizing v with
  | zero => simp [natBits]
  | succ k ih =>
    have e : v / 2 / 2 ^ k = v / 2 ^ (k + 1) := by rw [Nat.div_div_eq_div_mul, Nat.pow_succ, Nat.mul_comm]
    have h1 : natBits (k + 1 + 1) v = natBits (k + 1) (v / 2) ++ [v % 2 == 1] := rfl
    have h2 : natBits (k + 1) v = natBits k (v / 2) ++ [v % 2 == 1] := rfl
    rw [h1, ih, h2, e]
    rfl
def valB (l : List Bool) : Nat := l.foldl (fun v b => 2 * v + b.toNat) 0
theorem valB_next (l : List Bool) (b : Bool) : valB (l ++ [b]) = 2 * valB l + b.toNat := by simp [valB]
theorem foldB_lt (l : List Bool) (v : Nat) : l.foldl (fun v b => 2 * v + b.toNat) v < (v + 1) * 2 ^ l.length := by
  induction l generalizing v with
  | nil => simp
  | cons b r ih =>
    have h := ih (2 * v + b.toNat)
    simp only [List.foldl_cons, List.length_cons]
    have hb : b.toNat ≤ 1 := by cases b <;> simp
    have h2 : (2 * v + b.toNat + 1) * 2 ^ r.length ≤ (v + 1) * 2 ^ (r.length + 1) := by
      rw [Nat.pow_succ, Nat.mul_comm (2 ^ r.length) 2, ← Nat.mul_assoc]
      exact Nat.mul_le_mul_right _ (by omega)
    omega
theorem valB_lt (l : List Bool) : valB l < 2 ^ l.length := by
  have := foldB_lt l 0
  simpa [valB] using this
def pl (l : List UInt8) (c : UInt8) : Option Nat := l.findIdx? (fun x => x == c)
def oft : List UInt8 := [101, 116, 97, 111, 105, 110, 115, 114]
def sel : List UInt8 := [98, 99, 100, 102, 103, 104, 107, 108, 109, 112, 117, 119, 121, 45, 47, 46]
def codeB (c : UInt8) : List Bool := match pl oft c with
  | some k => [false] ++ natBits 3 k
  | none => match pl sel c with
    | some k => [true, false] ++ natBits 4 k
    | none => [true, true] ++ natBits 8 c.toNat
theorem pl_lt {l : List UInt8} {c : UInt8} {k : Nat} (h : pl l c = some k) : k < l.length := (List.findIdx?_eq_some_iff_getElem.1 h).1
theorem codeB_length (c : UInt8) : (codeB c).length ≤ 10 := by
  unfold codeB
  split
  · simp [natBits_length]
  · split <;> simp [natBits_length]
def bytesB (l : List Bool) : List UInt8 := (List.range (l.length / 8)).map fun i => UInt8.ofNat (valB ((l.drop (8 * i)).take 8))
theorem bytesB_length (l : List Bool) : (bytesB l).length = l.length / 8 := by simp [bytesB]
def rawB (t : List UInt8) : List Bool := t.flatMap codeB
def padN (n : Nat) : Nat := (8 - n % 8) % 8
def packB (t : List UInt8) : List Bool := rawB t ++ List.replicate (padN (rawB t).length) true
theorem rawB_length (t : List UInt8) : (rawB t).length ≤ 10 * t.length := by
  induction t with
  | nil => simp [rawB]
  | cons c r ih =>
    have h1 := codeB_length c
    simp only [rawB, List.flatMap_cons, List.length_append, List.length_cons] at ih ⊢
    omega
theorem rawB_next {t : List UInt8} {k : Nat} (h : k < t.length) : rawB (t.take (k + 1)) = rawB (t.take k) ++ codeB t[k] := by
  rw [List.take_succ_eq_append_getElem h]
  unfold rawB
  rw [List.flatMap_append, List.flatMap_cons, List.flatMap_nil, List.append_nil]
def bitsB (l : List UInt8) : List Bool := l.flatMap fun c => natBits 8 c.toNat
theorem bitsB_length (l : List UInt8) : (bitsB l).length = 8 * l.length := by
  induction l with
  | nil => rfl
  | cons c r ih =>
    simp only [bitsB, List.flatMap_cons, List.length_append, natBits_length, List.length_cons] at ih ⊢
    omega
theorem bitsB_next {l : List UInt8} {k : Nat} (h : k < l.length) : bitsB (l.take (k + 1)) = bitsB (l.take k) ++ natBits 8 l[k].toNat := by
  rw [List.take_succ_eq_append_getElem h]
  unfold bitsB
  rw [List.flatMap_append, List.flatMap_cons, List.flatMap_nil, List.append_nil]
def prB (h : HP) : Bool := !h.n.toList.isEmpty && decide (h.n.size ≤ 40) && decide (h.v.size ≤ 40)
def listB (hs : List HP) : Bool := decide (hs.length ≤ 8) && hs.all prB
def tail7F : Nat → Nat → List UInt8
  | 0, n => [UInt8.ofNat n]
  | k + 1, n => if 127 < n then UInt8.ofNat (128 + n % 128) :: tail7F k (n / 128) else [UInt8.ofNat n]
def tail7 (n : Nat) : List UInt8 := tail7F n n
theorem tail7F_eq : ∀ (k j n : Nat), n ≤ k → n ≤ j → tail7F k n = tail7F j n
  | 0, 0, _, _, _ => rfl
  | 0, j + 1, n, h, _ => by
    have e : n = 0 := by omega
    subst e
    rfl
  | k + 1, 0, n, _, h => by
    have e : n = 0 := by omega
    subst e
    rfl
  | k + 1, j + 1, n, h1, h2 => by
    unfold tail7F
    by_cases h : 127 < n
    · rw [if_pos h, if_pos h, tail7F_eq k j (n / 128) (by omega) (by omega)]
    · rw [if_neg h, if_neg h]
theorem tail7_more {n : Nat} (h : 127 < n) : tail7 n = UInt8.ofNat (128 + n % 128) :: tail7 (n / 128) := by
  obtain ⟨k, e⟩ : ∃ k, n = k + 1 := ⟨n - 1, by omega⟩
  subst e
  show tail7F (k + 1) (k + 1) = _
  rw [tail7F, if_pos h, tail7F_eq k ((k + 1) / 128) ((k + 1) / 128) (by omega) (Nat.le_refl _)]
  rfl
theorem tail7_last {n : Nat} (h : ¬ 127 < n) : tail7 n = [UInt8.ofNat n] := by
  unfold tail7
  cases n with
  | zero => rfl
  | succ k => rw [tail7F, if_neg h]
def cnt (f k n : Nat) : List UInt8 := if n < 2 ^ k - 1 then [UInt8.ofNat (f + n)] else UInt8.ofNat (f + (2 ^ k - 1)) :: tail7 (n - (2 ^ k - 1))
def szT (l : List HP) : Nat := (l.map tk).sum
theorem szT_cons (h : HP) (r : List HP) : szT (h :: r) = tk h + szT r := by simp [szT]
theorem szT_append (a b : List HP) : szT (a ++ b) = szT a + szT b := by simp [szT]
theorem szT_len (l : List HP) : 8 * l.length ≤ szT l := by
  induction l with
  | nil => simp [szT]
  | cons h r ih => rw [szT_cons]; simp [tk]; omega
def goneN : List HP → Int → Nat
  | [], _ => 0
  | h :: r, most => if most < (szT (h :: r) : Int) then goneN r most + 1 else 0
theorem goneN_le (l : List HP) (most : Int) : goneN l most ≤ l.length := by
  induction l with
  | nil => simp [goneN]
  | cons h r ih => simp only [goneN]; split <;> simp <;> omega
def shr (l : List HP) (most : Int) : List HP := l.drop (goneN l most)
def addT (l : List HP) (lim : Nat) (h : HP) : List HP := if tk h ≤ lim then shr l ((lim : Int) - tk h) ++ [h] else shr l ((lim : Int) - tk h)
theorem goneN_fits {l : List HP} {most : Int} (h : (szT l : Int) ≤ most) : goneN l most = 0 := by
  cases l with
  | nil => rfl
  | cons x r => simp only [goneN]; rw [if_neg (by omega)]
theorem shr_fits {l : List HP} {most : Int} (h : (szT l : Int) ≤ most) : shr l most = l := by unfold shr; rw [goneN_fits h]; rfl
theorem shr_size (l : List HP) (most : Int) (h0 : 0 ≤ most) : (szT (shr l most) : Int) ≤ most := by
  unfold shr
  induction l with
  | nil => simpa [goneN, szT] using h0
  | cons x r ih =>
    simp only [goneN]
    split
    · simpa using ih
    · simp only [List.drop_zero]; omega
theorem addT_size (l : List HP) (lim : Nat) (h : HP) (hl : szT l ≤ lim) : szT (addT l lim h) ≤ lim := by
  unfold addT
  split
  · next ht =>
    have := shr_size l ((lim : Int) - tk h) (by omega)
    rw [szT_append, szT_cons]
    simp [szT] at this ⊢
    omega
  · next ht =>
    have h1 : szT (shr l ((lim : Int) - tk h)) ≤ szT l := by
      unfold shr
      generalize goneN l ((lim : Int) - tk h) = k
      have h2 := congrArg szT (List.take_append_drop k l)
      rw [szT_append] at h2
      omega
    omega
theorem goneN_all (l : List HP) (most : Int) (h : most < 0) : goneN l most = l.length := by
  induction l with
  | nil => rfl
  | cons x r ih => simp only [goneN, ih, List.length_cons]; rw [if_pos (by omega)]
def hp (n v : List UInt8) : HP := ⟨⟨n.toArray⟩, ⟨v.toArray⟩⟩
def fixed8 : List HP := [hp [112, 97, 116, 104] [47], hp [112, 97, 116, 104] [47, 105, 110, 100, 101, 120], hp [118, 101, 114, 98] [103, 101, 116], hp [118, 101, 114, 98] [112, 117, 116],
  hp [107, 105, 110, 100] [116, 101, 120, 116], hp [107, 105, 110, 100] [98, 121, 116, 101, 115], hp [104, 111, 115, 116] [], hp [108, 101, 110, 103, 116, 104] [48]]
def numd (l : List HP) : List HP := fixed8 ++ l.reverse
theorem numd_length (l : List HP) : (numd l).length = 8 + l.length := by simp [numd, fixed8]; omega
def nmF (l : List HP) (n : ByteArray) : Nat := match l.findIdx? (fun x => x.n.toList == n.toList) with
  | some i => i + 1
  | none => 0
theorem nmF_le (l : List HP) (n : ByteArray) : nmF l n ≤ l.length := by
  unfold nmF
  split
  · next i hi => have := (List.findIdx?_eq_some_iff_getElem.1 hi).1; omega
  · omega
def pnN (l : List HP) (h : HP) : Nat := match pnF l h with
  | some i => i + 1
  | none => 0
end Go.Proofs.YtiphkngfbpdeoaaGreatDoor
namespace Go.Proofs.YtiphkngfbpdeoaaGreatDoor
set_option linter.unusedVariables false
set_option linter.unusedSimpArgs false
def txt (t : List UInt8) : List UInt8 := if (bytesB (packB t)).length < t.length then cnt 128 7 (bytesB (packB t)).length ++ bytesB (packB t) else cnt 0 7 t.length ++ t
def txs (l : List HP) (f k : Nat) (h : HP) : List UInt8 := cnt f k (nmF (numd l) h.n) ++ ((if nmF (numd l) h.n = 0 then txt h.n.data.toList else []) ++ txt h.v.data.toList)
def pairK (l : List HP) (lim : Nat) (h : HP) : List UInt8 × List HP :=
  if pnN (numd l) h = 0 then (if lim < tk h then (txs l 0 4 h, l) else (txs l 64 6 h, addT l lim h)) else (cnt 128 7 (pnN (numd l) h), l)
def pairsK : List HP → List HP → Nat → List UInt8 × List HP
  | [], l, _ => ([], l)
  | h :: r, l, lim => ((pairK l lim h).1 ++ (pairsK r (pairK l lim h).2 lim).1, (pairsK r (pairK l lim h).2 lim).2)
theorem pairsK_next {hs : List HP} {k : Nat} (h : k < hs.length) (l : List HP) (lim : Nat) :
    pairsK (hs.take (k + 1)) l lim = ((pairsK (hs.take k) l lim).1 ++ (pairK (pairsK (hs.take k) l lim).2 lim hs[k]).1, (pairK (pairsK (hs.take k) l lim).2 lim hs[k]).2) := by
  rw [List.take_succ_eq_append_getElem h]
  generalize hs.take k = a
  generalize hs[k] = x
  induction a generalizing l with
  | nil => simp [pairsK]
  | cons y r ih => simp only [List.cons_append, pairsK, ih, List.append_assoc]
structure Pk where
  lim : Nat
  tab : List HP
  wait : List Nat
def limsK : List Nat → Nat → List HP → List UInt8 × Nat × List HP
  | [], lim, l => ([], lim, l)
  | x :: r, _, l => (cnt 32 5 x ++ (limsK r x (shr l x)).1, (limsK r x (shr l x)).2)
theorem limsK_next {ls : List Nat} {k : Nat} (h : k < ls.length) (lim : Nat) (l : List HP) :
    limsK (ls.take (k + 1)) lim l = ((limsK (ls.take k) lim l).1 ++ cnt 32 5 ls[k], ls[k], shr (limsK (ls.take k) lim l).2.2 ls[k]) := by
  rw [List.take_succ_eq_append_getElem h]
  generalize ls.take k = a
  generalize ls[k] = x
  induction a generalizing lim l with
  | nil => simp [limsK]
  | cons y r ih => simp only [List.cons_append, limsK, ih, List.append_assoc]
def Pk.pack (p : Pk) (hs : List HP) : List UInt8 × Pk :=
  let a := limsK p.wait p.lim p.tab
  let b := pairsK hs a.2.2 a.2.1
  (a.1 ++ b.1, ⟨a.2.1, b.2, []⟩)
def Pk.resize (p : Pk) (n : Nat) : Pk :=
  { p with wait := if (match p.wait with | [] => n | x :: _ => min x n) < n then [(match p.wait with | [] => n | x :: _ => min x n), n] else [n] }
def okH (h : HP) : Prop := 1 ≤ h.n.size ∧ h.n.size ≤ 40 ∧ h.v.size ≤ 40
theorem ba_len' (b : ByteArray) : b.data.toList.length = b.size := rfl
theorem cnt_one {f k n : Nat} (h : n < 2 ^ k - 1) : (cnt f k n).length = 1 := by unfold cnt; rw [if_pos h]; rfl
theorem cnt_pos (f k n : Nat) : 1 ≤ (cnt f k n).length := by unfold cnt; split <;> simp
theorem txt_len {t : List UInt8} (h : t.length ≤ 40) : 1 ≤ (txt t).length ∧ (txt t).length ≤ 1 + t.length := by
  unfold txt
  split
  · next hp =>
    rw [List.length_append, cnt_one (by omega)]
    omega
  · rw [List.length_append, cnt_one (by omega)]; omega
theorem txs_len {l : List HP} {f k : Nat} {h : HP} (hl : 8 + l.length < 2 ^ k - 1) (hh : okH h) : 1 ≤ (txs l f k h).length ∧ (txs l f k h).length ≤ 3 + h.n.size + h.v.size := by
  have h1 := nmF_le (numd l) h.n
  rw [numd_length] at h1
  have h2 := txt_len (t := h.n.data.toList) (by rw [ba_len']; exact hh.2.1)
  have h3 := txt_len (t := h.v.data.toList) (by rw [ba_len']; exact hh.2.2)
  rw [ba_len'] at h2 h3
  unfold txs
  simp only [List.length_append]
  rw [cnt_one (by omega)]
  split
  · omega
  · simp; omega
theorem pnN_le (l : List HP) (h : HP) : pnN l h ≤ l.length := by
  unfold pnN
  split
  · next i hi => have := (List.findIdx?_eq_some_iff_getElem.1 hi).1; omega
  · omega
theorem addT_length (l : List HP) (lim : Nat) (h : HP) : (addT l lim h).length ≤ l.length + 1 := by
  unfold addT shr
  split <;> simp <;> omega
theorem pairK_len {l : List HP} {h : HP} (hl : l.length ≤ 50) (hh : okH h) : 1 ≤ (pairK l 256 h).1.length ∧ (pairK l 256 h).1.length ≤ 3 + h.n.size + h.v.size ∧ (pairK l 256 h).2.length ≤ l.length + 1 := by
  obtain ⟨h1, h2, h3⟩ := hh
  unfold pairK
  split
  · rw [if_neg (by unfold tk; omega)]
    obtain ⟨a, b⟩ := txs_len (l := l) (f := 64) (k := 6) (by omega) ⟨h1, h2, h3⟩
    exact ⟨a, b, addT_length _ _ _⟩
  · have := pnN_le (numd l) h
    rw [numd_length] at this
    have h9 : (cnt 128 7 (pnN (numd l) h), l).2.length ≤ l.length + 1 := Nat.le_succ _
    have h8 := cnt_one (f := 128) (k := 7) (n := pnN (numd l) h) (by omega)
    exact ⟨by show 1 ≤ (cnt 128 7 (pnN (numd l) h)).length; omega, by show (cnt 128 7 (pnN (numd l) h)).length ≤ _; omega, h9⟩
def mostK (hs : List HP) : Nat := (hs.map fun h => 3 + h.n.size + h.v.size).sum
theorem pairsK_len {hs : List HP} {l : List HP} (hl : l.length + hs.length ≤ 50) (hh : ∀ h ∈ hs, okH h) : hs.length ≤ (pairsK hs l 256).1.length ∧ (pairsK hs l 256).1.length ≤ mostK hs := by
  induction hs generalizing l with
  | nil => simp [pairsK, mostK]
  | cons h r ih =>
    simp only [List.length_cons] at hl
    obtain ⟨a, b, c⟩ := pairK_len (l := l) (by omega) (hh h (by simp))
    obtain ⟨d, e⟩ := ih (l := (pairK l 256 h).2) (by omega) (fun x hx => hh x (by simp [hx]))
    simp only [pairsK, List.length_append, List.length_cons, mostK, List.map_cons, List.sum_cons] at e ⊢
    omega
def There (l : List HP) (h : HP) : Prop := pnN (numd l) h ≠ 0
theorem there_iff (l : List HP) (h : HP) : There l h ↔ ∃ x ∈ numd l, x.n.toList = h.n.toList ∧ x.v.toList = h.v.toList := by
  unfold There pnN pnF
  constructor
  · intro a
    split at a
    · next i hi =>
      obtain ⟨q, hx, _⟩ := List.findIdx?_eq_some_iff_getElem.1 hi
      exact ⟨_, List.getElem_mem q, by simpa using hx⟩
    · omega
  · rintro ⟨x, hx, hq⟩
    split
    · omega
    · next hi =>
      have := List.findIdx?_eq_none_iff.1 hi x hx
      simp [hq] at this
theorem There.more {l : List HP} {h : HP} (a : There l h) (b : List HP) : There (l ++ b) h := by
  obtain ⟨x, hx, e⟩ := (there_iff l h).1 a
  refine (there_iff _ h).2 ⟨x, ?_, e⟩
  unfold numd at hx ⊢
  simp only [List.reverse_append, List.mem_append] at hx ⊢
  exact hx.imp_right Or.inr
theorem pairK_there {l : List HP} {h : HP} (hf : szT l + tk h ≤ 256) : ∃ b, (pairK l 256 h).2 = l ++ b ∧ szT (l ++ b) ≤ szT l + tk h ∧ There (l ++ b) h := by
  unfold pairK
  split
  · rw [if_neg (by omega)]
    refine ⟨[h], ?_, by rw [szT_append, szT_cons]; simp [szT], ?_⟩
    · show addT l 256 h = _
      unfold addT
      rw [if_pos (by omega), shr_fits (by omega)]
    · exact (there_iff _ h).2 ⟨h, by simp [numd], rfl, rfl⟩
  · next hne => exact ⟨[], by simp, by simp, by simpa [There] using hne⟩
theorem pairsK_there {hs : List HP} {l : List HP} (hf : szT l + (hs.map tk).sum ≤ 256) : ∃ b, (pairsK hs l 256).2 = l ++ b ∧ ∀ h ∈ hs, There (l ++ b) h := by
  induction hs generalizing l with
  | nil => exact ⟨[], by simp [pairsK], by simp⟩
  | cons h r ih =>
    simp only [List.map_cons, List.sum_cons] at hf
    obtain ⟨b, e1, e2, e3⟩ := pairK_there (l := l) (h := h) (by omega)
    obtain ⟨c, f1, f2⟩ := ih (l := l ++ b) (by omega)
    refine ⟨b ++ c, by simp only [pairsK]; rw [e1, f1, List.append_assoc], fun x hx => ?_⟩
    rw [← List.append_assoc]
    rcases List.mem_cons.1 hx with rfl | hx
    · exact e3.more c
    · exact f2 x hx
theorem pairsK_again {hs : List HP} {l : List HP} (hl : l.length ≤ 50) (hh : ∀ h ∈ hs, There l h) : (pairsK hs l 256).1.length = hs.length ∧ (pairsK hs l 256).2 = l := by
  induction hs with
  | nil => simp [pairsK]
  | cons h r ih =>
    obtain ⟨a, b⟩ := ih (fun x hx => hh x (by simp [hx]))
    have ht := hh h (by simp)
    have hk : pairK l 256 h = (cnt 128 7 (pnN (numd l) h), l) := by unfold pairK; rw [if_neg ht]
    have hn := pnN_le (numd l) h
    rw [numd_length] at hn
    simp only [pairsK, hk, List.length_append, List.length_cons]
    rw [cnt_one (by omega)]
    exact ⟨by omega, b⟩
theorem pairsK_table {hs : List HP} {l : List HP} (h : szT l ≤ 256) : szT (pairsK hs l 256).2 ≤ 256 := by
  induction hs generalizing l with
  | nil => exact h
  | cons x r ih =>
    simp only [pairsK]
    refine ih ?_
    unfold pairK
    split
    · split
      · exact h
      · exact addT_size _ _ _ h
    · exact h
end Go.Proofs.YtiphkngfbpdeoaaGreatDoor
namespace Go.Proofs.YtiphkngfbpdeoaaGreatDoor
set_option linter.unusedVariables false
set_option linter.unusedSimpArgs false
theorem u8_ofNat {n : Nat} (h : n < 256) : (UInt8.ofNat n).toNat = n := by rw [UInt8.toNat_ofNat']; omega
def rdMore : Nat → Nat → Nat → List UInt8 → Option (Nat × List UInt8)
  | 0, _, _, _ => none
  | _ + 1, _, _, [] => none
  | f + 1, i, n, c :: r => if c.toNat = 0 ∧ 0 < i then none else if c.toNat < 128 then some (n + c.toNat % 128 * 2 ^ (7 * i), r) else rdMore f (i + 1) (n + c.toNat % 128 * 2 ^ (7 * i)) r
def rdCnt (k : Nat) (c : UInt8) (r : List UInt8) : Option (Nat × List UInt8) := if c.toNat % 2 ^ k < 2 ^ k - 1 then some (c.toNat % 2 ^ k, r) else rdMore 3 0 (c.toNat % 2 ^ k) r
theorem rdMore_tail (f : Nat) : ∀ (i m x : Nat) (r : List UInt8), x < 2 ^ (7 * (f + 1)) → (0 < i → x ≠ 0) → rdMore (f + 1) i m (tail7 x ++ r) = some (m + x * 2 ^ (7 * i), r) := by
  induction f with
  | zero =>
    intro i m x r hx hi
    have hx' : x < 128 := by simpa using hx
    rw [tail7_last (by omega)]
    simp only [List.cons_append, List.nil_append, rdMore]
    rw [u8_ofNat (by omega), if_neg (by rintro ⟨a, b⟩; exact hi b a), if_pos hx', Nat.mod_eq_of_lt hx']
  | succ f ih =>
    intro i m x r hx hi
    by_cases h : 127 < x
    · rw [tail7_more h]
      simp only [List.cons_append, rdMore]
      rw [u8_ofNat (by omega), if_neg (by omega), if_neg (by omega)]
      have e7 : 7 * (f + 1 + 1) = 7 * (f + 1) + 7 := by omega
      rw [e7, Nat.pow_add] at hx
      have hx2 : x / 128 < 2 ^ (7 * (f + 1)) := by
        rw [Nat.div_lt_iff_lt_mul (by omega)]
        simpa using hx
      rw [ih (i + 1) _ (x / 128) r hx2 (fun _ => by omega)]
      have e1 : (128 + x % 128) % 128 = x % 128 := by omega
      have e2 : 7 * (i + 1) = 7 * i + 7 := by omega
      have e3 : x = x % 128 + x / 128 * 128 := by omega
      rw [e1, e2, Nat.pow_add]
      congr 2
      generalize 2 ^ (7 * i) = P
      have e4 : x / 128 * (P * 2 ^ 7) = x / 128 * 128 * P := by rw [Nat.mul_comm P, ← Nat.mul_assoc]
      rw [e4]
      conv => rhs; rw [e3, Nat.add_mul]
      omega
    · rw [tail7_last h]
      simp only [List.cons_append, List.nil_append, rdMore]
      rw [u8_ofNat (by omega), if_neg (by rintro ⟨a, b⟩; exact hi b a), if_pos (by omega), Nat.mod_eq_of_lt (by omega)]
theorem rdCnt_cnt {f k n : Nat} {r : List UInt8} (hf : f + 2 ^ k ≤ 256) (hz : f % 2 ^ k = 0) (hn : n < 2097152) : ∃ c q, cnt f k n = c :: q ∧ f ≤ c.toNat ∧ c.toNat < f + 2 ^ k ∧ rdCnt k c (q ++ r) = some (n, r) := by
  have hp : 0 < 2 ^ k := Nat.two_pow_pos k
  unfold cnt
  by_cases h : n < 2 ^ k - 1
  · rw [if_pos h]
    refine ⟨_, [], rfl, ?_, ?_, ?_⟩
    · rw [u8_ofNat (by omega)]; omega
    · rw [u8_ofNat (by omega)]; omega
    · unfold rdCnt
      rw [u8_ofNat (by omega)]
      have e : (f + n) % 2 ^ k = n := by rw [Nat.add_mod, hz, Nat.zero_add, Nat.mod_mod, Nat.mod_eq_of_lt (by omega)]
      rw [e, if_pos h]
      rfl
  · rw [if_neg h]
    refine ⟨_, _, rfl, ?_, ?_, ?_⟩
    · rw [u8_ofNat (by omega)]; omega
    · rw [u8_ofNat (by omega)]; omega
    · unfold rdCnt
      rw [u8_ofNat (by omega)]
      have e : (f + (2 ^ k - 1)) % 2 ^ k = 2 ^ k - 1 := by rw [Nat.add_mod, hz, Nat.zero_add, Nat.mod_mod, Nat.mod_eq_of_lt (by omega)]
      rw [e, if_neg (by omega)]
      rw [rdMore_tail 2 0 _ _ r (by omega) (by omega)]
      congr 2
      simp
      omega
theorem valB_natBits (k v : Nat) : valB (natBits k v) = v % 2 ^ k := by
  induction k generalizing v with
  | zero => simp [natBits, valB, Nat.mod_one]
  | succ k ih =>
    simp only [natBits]
    rw [valB_next, ih, Nat.pow_succ]
    have h1 : (v % 2 == 1).toNat = v % 2 := by
      rcases Nat.mod_two_eq_zero_or_one v with h | h <;> simp [h]
    rw [h1, Nat.mul_comm (2 ^ k) 2, Nat.mod_mul]
    omega
def decB (bs : List Bool) : Option (UInt8 × List Bool) :=
  if bs.length < 1 then none
  else if valB (bs.take 1) = 0 then (if bs.length < 4 then none else some (oft.getD (valB ((bs.drop 1).take 3)) 0, bs.drop 4))
  else if bs.length < 2 then none
  else if valB ((bs.drop 1).take 1) = 0 then (if bs.length < 6 then none else some (sel.getD (valB ((bs.drop 2).take 4)) 0, bs.drop 6))
  else if bs.length < 10 then none
  else if (codeB (UInt8.ofNat (valB ((bs.drop 2).take 8)))).length < 10 then none else some (UInt8.ofNat (valB ((bs.drop 2).take 8)), bs.drop 10)
theorem pl_get {l : List UInt8} {c : UInt8} {k : Nat} (h : pl l c = some k) : l.getD k 0 = c := by
  obtain ⟨h1, h2, _⟩ := List.findIdx?_eq_some_iff_getElem.1 h
  simp [List.getD, h1] at h2 ⊢
  exact h2
theorem decB_code (c : UInt8) (r : List Bool) : decB (codeB c ++ r) = some (c, r) := by
  unfold codeB
  split
  · next k hk =>
    have hlt := pl_lt hk
    have hlt' : k < 8 := hlt
    obtain ⟨b, hb⟩ : ∃ b, b = natBits 3 k := ⟨_, rfl⟩
    have hbl : b.length = 3 := by rw [hb, natBits_length]
    have hbv : valB b = k := by rw [hb, valB_natBits]; omega
    rw [← hb]
    unfold decB
    have e1 : ([false] ++ b ++ r).length = 4 + r.length := by simp [hbl]; omega
    rw [e1, if_neg (by omega), if_pos (by simp [valB]), if_neg (by omega)]
    have e2 : (([false] ++ b ++ r).drop 1).take 3 = b := by simp [← hbl]
    have e3 : ([false] ++ b ++ r).drop 4 = r := by
      have : 4 = ([false] ++ b).length := by simp [hbl]
      rw [this, List.drop_left]
    rw [e2, e3, hbv, pl_get hk]
  · next hno =>
    split
    · next k hk =>
      have hlt := pl_lt hk
      have hlt' : k < 16 := hlt
      obtain ⟨b, hb⟩ : ∃ b, b = natBits 4 k := ⟨_, rfl⟩
      have hbl : b.length = 4 := by rw [hb, natBits_length]
      have hbv : valB b = k := by rw [hb, valB_natBits]; omega
      rw [← hb]
      unfold decB
      have e1 : ([true, false] ++ b ++ r).length = 6 + r.length := by simp [hbl]; omega
      rw [e1, if_neg (by omega), if_neg (by simp [valB]), if_neg (by omega), if_pos (by simp [valB]), if_neg (by omega)]
      have e2 : (([true, false] ++ b ++ r).drop 2).take 4 = b := by simp [← hbl]
      have e3 : ([true, false] ++ b ++ r).drop 6 = r := by
        have : 6 = ([true, false] ++ b).length := by simp [hbl]
        rw [this, List.drop_left]
      rw [e2, e3, hbv, pl_get hk]
    · next hno2 =>
      obtain ⟨b, hb⟩ : ∃ b, b = natBits 8 c.toNat := ⟨_, rfl⟩
      have hbl : b.length = 8 := by rw [hb, natBits_length]
      have hc := c.toNat_lt
      have hbv : valB b = c.toNat := by rw [hb, valB_natBits]; omega
      have hcb : (codeB c).length = 10 := by unfold codeB; rw [hno]; simp only [hno2]; simp [natBits_length]
      rw [← hb]
      unfold decB
      have e1 : ([true, true] ++ b ++ r).length = 10 + r.length := by simp [hbl]; omega
      rw [e1, if_neg (by omega), if_neg (by simp [valB]), if_neg (by omega), if_neg (by simp [valB]), if_neg (by omega)]
      have e2 : (([true, true] ++ b ++ r).drop 2).take 8 = b := by simp [← hbl]
      have e3 : ([true, true] ++ b ++ r).drop 10 = r := by
        have : 10 = ([true, true] ++ b).length := by simp [hbl]
        rw [this, List.drop_left]
      have e4 : UInt8.ofNat c.toNat = c := by simp
      rw [e2, e3, hbv, e4, if_neg (by omega)]
theorem decB_shorter {bs : List Bool} {c : UInt8} {r : List Bool} (h : decB bs = some (c, r)) : r.length < bs.length := by
  unfold decB at h
  split at h
  · cases h
  · split at h
    · split at h
      · cases h
      · simp at h; rw [← h.2, List.length_drop]; omega
    · split at h
      · cases h
      · split at h
        · split at h
          · cases h
          · simp at h; rw [← h.2, List.length_drop]; omega
        · split at h
          · cases h
          · split at h
            · cases h
            · simp at h; rw [← h.2, List.length_drop]; omega
def fillB (bs : List Bool) : Bool := decide (bs.length < 8) && decide (valB bs + 1 = 2 ^ bs.length)
def unpF : Nat → List Bool → Option (List UInt8)
  | 0, bs => if fillB bs then some [] else none
  | k + 1, bs => if fillB bs then some [] else (decB bs).bind fun x => (unpF k x.2).map (x.1 :: ·)
def unpB (bs : List Bool) : Option (List UInt8) := unpF bs.length bs
theorem unpF_eq : ∀ (k j : Nat) (bs : List Bool), bs.length ≤ k → bs.length ≤ j → unpF k bs = unpF j bs
  | 0, 0, _, _, _ => rfl
  | 0, j + 1, bs, h, _ => by
    have e : bs = [] := List.length_eq_zero_iff.1 (by omega)
    subst e
    rfl
  | k + 1, 0, bs, _, h => by
    have e : bs = [] := List.length_eq_zero_iff.1 (by omega)
    subst e
    rfl
  | k + 1, j + 1, bs, h1, h2 => by
    unfold unpF
    by_cases hf : fillB bs = true
    · rw [if_pos hf, if_pos hf]
    · rw [if_neg hf, if_neg hf]
      cases hd : decB bs with
      | none => rfl
      | some x =>
        have := decB_shorter (c := x.1) (r := x.2) hd
        show (unpF k x.2).map _ = (unpF j x.2).map _
        rw [unpF_eq k j x.2 (by omega) (by omega)]
theorem unpB_fill {bs : List Bool} (h : fillB bs = true) : unpB bs = some [] := by
  unfold unpB
  cases bs.length with
  | zero => rw [unpF, if_pos h]
  | succ k => rw [unpF, if_pos h]
theorem unpB_none {bs : List Bool} (h : fillB bs = false) (hd : decB bs = none) : unpB bs = none := by
  have h' : ¬ fillB bs = true := by simp [h]
  unfold unpB
  cases bs.length with
  | zero => rw [unpF, if_neg h']
  | succ k =>
    rw [unpF, if_neg h', hd]
    rfl
theorem unpB_next {bs : List Bool} {c : UInt8} {r : List Bool} (h : fillB bs = false) (hd : decB bs = some (c, r)) : unpB bs = (unpB r).map (c :: ·) := by
  have h' : ¬ fillB bs = true := by simp [h]
  have hs := decB_shorter hd
  unfold unpB
  cases hl : bs.length with
  | zero => omega
  | succ k =>
    rw [unpF, if_neg h', hd, unpF_eq r.length k r (Nat.le_refl _) (by omega)]
    rfl
theorem foldB_mono (l : List Bool) (v : Nat) : l.foldl (fun v b => 2 * v + b.toNat) v = v * 2 ^ l.length + valB l := by
  induction l generalizing v with
  | nil => simp [valB]
  | cons b r ih =>
    simp only [List.foldl_cons, List.length_cons, valB]
    rw [ih, ih (2 * 0 + b.toNat), Nat.pow_succ]
    have : (2 * v + b.toNat) * 2 ^ r.length = v * (2 ^ r.length * 2) + b.toNat * 2 ^ r.length := by
      rw [Nat.add_mul, Nat.mul_comm 2 v, Nat.mul_assoc, Nat.mul_comm 2 (2 ^ r.length)]
    simp only [Nat.mul_zero, Nat.zero_add]
    omega
theorem valB_append (a b : List Bool) : valB (a ++ b) = valB a * 2 ^ b.length + valB b := by
  unfold valB
  rw [List.foldl_append]
  exact foldB_mono b _
theorem valB_cons (b : Bool) (r : List Bool) : valB (b :: r) = b.toNat * 2 ^ r.length + valB r := by
  have := valB_append [b] r
  simpa [valB] using this
theorem fillB_false {a b : List Bool} (h : valB a + 1 < 2 ^ a.length) : fillB (a ++ b) = false := by
  unfold fillB
  rw [Bool.and_eq_false_iff]
  right
  rw [decide_eq_false_iff_not, valB_append, List.length_append, Nat.pow_add]
  intro e
  have h1 := valB_lt b
  have h2 : (valB a + 1 + 1) * 2 ^ b.length ≤ 2 ^ a.length * 2 ^ b.length := Nat.mul_le_mul_right _ h
  rw [Nat.add_mul, Nat.add_mul] at h2
  omega
theorem fillB_ones (n : Nat) (h : n < 8) : fillB (List.replicate n true) = true := by
  have : ∀ m, m < 8 → fillB (List.replicate m true) = true := by decide
  exact this n h
theorem fillB_code (c : UInt8) (r : List Bool) : fillB (codeB c ++ r) = false := by
  have hc : 8 ≤ (codeB c).length ∨ valB (codeB c) + 1 < 2 ^ (codeB c).length := by
    unfold codeB
    split
    · next k hk =>
      right
      have hlt : k < 8 := pl_lt hk
      rw [valB_append, valB_natBits, List.length_append, natBits_length]
      simp [valB]
      omega
    · split
      · next k hk =>
        right
        have hlt : k < 16 := pl_lt hk
        rw [valB_append, valB_natBits, List.length_append, natBits_length]
        simp [valB]
        omega
      · left; simp [natBits_length]
  rcases hc with h | h
  · unfold fillB
    rw [Bool.and_eq_false_iff]
    left
    rw [decide_eq_false_iff_not, List.length_append]
    omega
  · exact fillB_false h
theorem unpB_raw (t : List UInt8) (n : Nat) (h : n < 8) : unpB (rawB t ++ List.replicate n true) = some t := by
  induction t with
  | nil => exact unpB_fill (fillB_ones n h)
  | cons c r ih =>
    have e : rawB (c :: r) ++ List.replicate n true = codeB c ++ (rawB r ++ List.replicate n true) := by simp [rawB]
    rw [e, unpB_next (fillB_code _ _) (decB_code _ _), ih]
    rfl
theorem padN_lt (n : Nat) : padN n < 8 := by unfold padN; omega
theorem unpB_pack (t : List UInt8) : unpB (packB t) = some t := unpB_raw t _ (padN_lt _)
theorem packB_eight (t : List UInt8) : (packB t).length % 8 = 0 := by
  unfold packB padN
  rw [List.length_append, List.length_replicate]
  omega
theorem natBits_add (k x y : Nat) : natBits k (x * 2 ^ k + y) = natBits k y := by
  induction k generalizing x y with
  | zero => rfl
  | succ k ihk =>
    have h2 : (x * 2 ^ (k + 1) + y) / 2 = x * 2 ^ k + y / 2 := by rw [Nat.pow_succ, ← Nat.mul_assoc]; omega
    have h3 : (x * 2 ^ (k + 1) + y) % 2 = y % 2 := by rw [Nat.pow_succ, ← Nat.mul_assoc]; omega
    simp only [natBits]
    rw [h2, h3, ihk]
theorem natBits_valB (l : List Bool) : natBits l.length (valB l) = l := by
  induction l with
  | nil => rfl
  | cons b r ih =>
    have hr := valB_lt r
    have hp : 0 < 2 ^ r.length := Nat.two_pow_pos _
    rw [List.length_cons, natBits_high, valB_cons]
    have e1 : (b.toNat * 2 ^ r.length + valB r) / 2 ^ r.length = b.toNat := by
      rw [Nat.mul_comm, Nat.mul_add_div hp, Nat.div_eq_of_lt hr]; omega
    rw [e1, natBits_add, ih]
    cases b <;> rfl
theorem bitsB_append (a b : List UInt8) : bitsB (a ++ b) = bitsB a ++ bitsB b := by simp [bitsB]
theorem bytesB_cons8 (a r : List Bool) (h : a.length = 8) : bytesB (a ++ r) = UInt8.ofNat (valB a) :: bytesB r := by
  unfold bytesB
  have e : (a ++ r).length / 8 = r.length / 8 + 1 := by rw [List.length_append, h]; omega
  rw [e, List.range_succ_eq_map, List.map_cons, List.map_map]
  congr 1
  · simp [← h]
  · apply List.map_congr_left
    intro i _
    show UInt8.ofNat (valB (((a ++ r).drop (8 * (i + 1))).take 8)) = _
    have e2 : 8 * (i + 1) = a.length + 8 * i := by omega
    rw [e2, List.drop_append, List.drop_of_length_le (by omega)]
    simp
theorem bitsB_bytesB (l : List Bool) (h : l.length % 8 = 0) : bitsB (bytesB l) = l := by
  generalize hn : l.length = n at h
  induction n using Nat.strongRecOn generalizing l with
  | ind n ih =>
    by_cases h0 : n = 0
    · subst h0
      rw [List.eq_nil_of_length_eq_zero hn]
      rfl
    · have h8 : 8 ≤ n := by omega
      have e := List.take_append_drop 8 l
      have hl : (l.take 8).length = 8 := by rw [List.length_take]; omega
      rw [← e, bytesB_cons8 _ _ hl]
      have h3 := ih (n - 8) (by omega) (l.drop 8) (by rw [List.length_drop]; omega) (by omega)
      have h4 : bitsB (UInt8.ofNat (valB (l.take 8)) :: bytesB (l.drop 8)) = natBits 8 (UInt8.ofNat (valB (l.take 8))).toNat ++ bitsB (bytesB (l.drop 8)) := by simp [bitsB]
      have hv := valB_lt (l.take 8)
      rw [hl] at hv
      have h5 := natBits_valB (l.take 8)
      rw [hl] at h5
      rw [h4, u8_ofNat (by simpa using hv), h5, h3]
end Go.Proofs.YtiphkngfbpdeoaaGreatDoor
namespace Go.Proofs.YtiphkngfbpdeoaaGreatDoor
set_option linter.unusedVariables false
set_option linter.unusedSimpArgs false
open Go.RowKit
def limB (n : Int) : Bool := decide (0 ≤ n) && decide (n ≤ 256)
set_option maxRecDepth 100000 in
set_option maxHeartbeats 1600000 in
theorem room_any (h : HP) (w : World) (hn : h.n.size ≤ 1099511627776) (hv : h.v.size ≤ 1099511627776) :
    Calls Tryz.prog 195 #[.agg #[.string h.n, .string h.v]] w fun e w' => e = .returned (.int .i64 (tk h)) ∧ Below w.heap.size w w' := by
  obtain ⟨n, v⟩ := h
  simp only at hn hv
  go_enter Tryz.func195, Tryz.ntmps195
  go_wp2
  go_ret
  exact ⟨by simp [tk], (Below.refl _ _).alloc (Nat.le_refl _) _⟩
set_option maxRecDepth 100000 in
set_option maxHeartbeats 1600000 in
theorem breaksPair_any (h : HP) (w : World) (hn : h.n.size ≤ 281474976710656) (hv : h.v.size ≤ 281474976710656) :
    Calls Tryz.prog 99 #[.agg #[.string h.n, .string h.v]] w fun e w' => e = .returned (.bool (!prB h)) ∧ Below w.heap.size w w' := by
  obtain ⟨n, v⟩ := h
  simp only at hn hv
  have hpr : prB ⟨n, v⟩ = (!n.toList.isEmpty && decide (n.size ≤ 40) && decide (v.size ≤ 40)) := rfl
  have HPR := hide hpr
  clear hpr
  cases he : n.toList.isEmpty with
  | true =>
    go_enter Tryz.func99, Tryz.ntmps99
    go_wp2
    all_goals go_ret
    all_goals refine ⟨ret_bool ?_, (Below.refl _ _).alloc (Nat.le_refl _) _⟩
    all_goals (rw [HPR.out, he]; rfl)
  | false =>
    by_cases h1 : n.size ≤ 40
    · by_cases h2 : v.size ≤ 40
      · go_enter Tryz.func99, Tryz.ntmps99
        go_wp2
        all_goals go_ret
        all_goals refine ⟨ret_bool ?_, (Below.refl _ _).alloc (Nat.le_refl _) _⟩
        all_goals (rw [HPR.out, he]; simp [h1, h2]; try omega)
      · go_enter Tryz.func99, Tryz.ntmps99
        go_wp2
        all_goals go_ret
        all_goals refine ⟨ret_bool ?_, (Below.refl _ _).alloc (Nat.le_refl _) _⟩
        all_goals (rw [HPR.out, he]; simp [h1, h2]; try omega)
    · go_enter Tryz.func99, Tryz.ntmps99
      go_wp2
      all_goals go_ret
      all_goals refine ⟨ret_bool ?_, (Below.refl _ _).alloc (Nat.le_refl _) _⟩
      all_goals (rw [HPR.out, he]; simp [h1]; try omega)
abbrev fm (f k : Nat) : Value := .agg #[.int .u8 (f : Int), .int .i64 (k : Int)]
set_option maxRecDepth 100000 in
set_option maxHeartbeats 1600000 in
theorem most_any (f k : Nat) (w : World) (hk : k = 4 ∨ k = 5 ∨ k = 6 ∨ k = 7) :
    Calls Tryz.prog 190 #[fm f k] w fun e w' => e = .returned (.int .i64 ((2 ^ k - 1 : Nat) : Int)) ∧ Below w.heap.size w w' := by
  rcases hk with rfl | rfl | rfl | rfl
  all_goals go_enter Tryz.func190, Tryz.ntmps190
  all_goals go_wp2
  all_goals go_ret
  all_goals exact ⟨by rfl, (Below.refl _ _).alloc (Nat.le_refl _) _⟩
set_option maxRecDepth 100000 in
set_option maxHeartbeats 1600000 in
theorem slIndexByte_any (s : ByteArray) (c : Int) (w : World) :
    Calls Tryz.prog 216 #[.string s, .int .u8 c] w fun e w' => e = .returned (.int .i64 (Lib.indexByte s.data.toList c.toNat.toUInt8)) ∧ w' = w := by
  go_enter Tryz.func216, Tryz.ntmps216
  go_wp2
  rw [run_callFunc_extern Tryz.func217 (by kernel_rfl) (by kernel_rfl) (by kernel_rfl) (e := Extern.BytealgIndexByte.indexByte) (by kernel_rfl), Lib.run_indexByteString]
  simp only [Result.andThen]
  rw [Oper.upon_value]
  go_wp2
  go_ret
  exact ⟨rfl, rfl⟩
set_option maxRecDepth 100000 in
set_option maxHeartbeats 1600000 in
theorem indexByte_any (s : ByteArray) (c : Int) (w : World) :
    Calls Tryz.prog 215 #[.string s, .int .u8 c] w fun e w' => e = .returned (.int .i64 (Lib.indexByte s.data.toList c.toNat.toUInt8)) ∧ w' = w := by
  go_enter Tryz.func215, Tryz.ntmps215
  go_wp2_with (go_at_call 216; refine (slIndexByte_any _ _ _).mono ?_; rintro e w' ⟨rfl, rfl⟩)
  go_ret
  exact ⟨rfl, rfl⟩
theorem lib_index (l : List UInt8) (c : UInt8) : Lib.indexByte l c = match pl l c with
    | some k => (k : Int)
    | none => -1 := by
  induction l with
  | nil => rfl
  | cons b r ih =>
    unfold pl at ih ⊢
    rw [Lib.indexByte, List.findIdx?_cons]
    by_cases hb : (b == c) = true
    · simp [hb]
    · have hb' : (b == c) = false := by simpa using hb
      rw [hb', ih]
      simp only [Bool.false_eq_true, if_false]
      cases r.findIdx? (fun x => x == c) with
      | none => simp
      | some k =>
        simp only [Option.map_some]
        have : (((k : Int)) == -1) = false := by rw [beq_eq_false_iff_ne]; omega
        rw [this]
        simp
theorem oft_index (c : UInt8) (w : World) : Calls Tryz.prog 215 #[.string ⟨#[101, 116, 97, 111, 105, 110, 115, 114]⟩, .int .u8 c.toNat] w fun e w' => e = .returned (.int .i64 (match pl oft c with
    | some k => (k : Int)
    | none => -1)) ∧ w' = w := by
  have h := indexByte_any ⟨#[101, 116, 97, 111, 105, 110, 115, 114]⟩ c.toNat w
  have e : (Lib.indexByte (ByteArray.mk #[101, 116, 97, 111, 105, 110, 115, 114]).data.toList ((c.toNat : Int)).toNat.toUInt8) = Lib.indexByte oft c := by
    congr 1
    simp
  rw [e, lib_index] at h
  exact h
theorem sel_index (c : UInt8) (w : World) : Calls Tryz.prog 215 #[.string ⟨#[98, 99, 100, 102, 103, 104, 107, 108, 109, 112, 117, 119, 121, 45, 47, 46]⟩, .int .u8 c.toNat] w fun e w' => e = .returned (.int .i64 (match pl sel c with
    | some k => (k : Int)
    | none => -1)) ∧ w' = w := by
  have h := indexByte_any ⟨#[98, 99, 100, 102, 103, 104, 107, 108, 109, 112, 117, 119, 121, 45, 47, 46]⟩ c.toNat w
  have e : (Lib.indexByte (ByteArray.mk #[98, 99, 100, 102, 103, 104, 107, 108, 109, 112, 117, 119, 121, 45, 47, 46]).data.toList ((c.toNat : Int)).toNat.toUInt8) = Lib.indexByte sel c := by
    congr 1
    simp
  rw [e, lib_index] at h
  exact h
def codeN (c : UInt8) : Nat × Nat := match pl oft c with
  | some k => (k, 4)
  | none => match pl sel c with
    | some k => (32 + k, 6)
    | none => (768 + c.toNat, 10)
theorem codeN_bits (c : UInt8) : codeB c = natBits (codeN c).2 (codeN c).1 ∧ (codeN c).1 < 2 ^ (codeN c).2 ∧ (codeN c).2 ≤ 10 := by
  rcases h1 : pl oft c with _ | k
  · rcases h2 : pl sel c with _ | k
    · have e1 : codeB c = [true, true] ++ natBits 8 c.toNat := by unfold codeB; rw [h1]; simp only [h2]
      have e2 : codeN c = (768 + c.toNat, 10) := by unfold codeN; rw [h1]; simp only [h2]
      have hlt := c.toNat_lt
      rw [e1, e2]
      refine ⟨?_, by show 768 + c.toNat < 2 ^ 10; omega, by show 10 ≤ 10; omega⟩
      show _ = natBits (9 + 1) (768 + c.toNat)
      rw [natBits_high 9, natBits_high 8]
      have h1 : (768 + c.toNat) / 2 ^ 9 % 2 = 1 := by omega
      have h2 : (768 + c.toNat) / 2 ^ 8 % 2 = 1 := by omega
      have h3 : natBits 8 (768 + c.toNat) = natBits 8 c.toNat := natBits_add 8 3 c.toNat
      rw [h1, h2, h3]
      rfl
    · have e1 : codeB c = [true, false] ++ natBits 4 k := by unfold codeB; rw [h1]; simp only [h2]
      have e2 : codeN c = (32 + k, 6) := by unfold codeN; rw [h1]; simp only [h2]
      have hlt : k < 16 := pl_lt h2
      rw [e1, e2]
      refine ⟨?_, by show 32 + k < 2 ^ 6; omega, by show 6 ≤ 10; omega⟩
      show _ = natBits (5 + 1) (32 + k)
      rw [natBits_high 5, natBits_high 4]
      have h1 : (32 + k) / 2 ^ 5 % 2 = 1 := by omega
      have h2 : (32 + k) / 2 ^ 4 % 2 = 0 := by omega
      have h3 : natBits 4 (32 + k) = natBits 4 k := natBits_add 4 2 k
      rw [h1, h2, h3]
      rfl
  · have e1 : codeB c = [false] ++ natBits 3 k := by unfold codeB; rw [h1]
    have e2 : codeN c = (k, 4) := by unfold codeN; rw [h1]
    have hlt : k < 8 := pl_lt h1
    rw [e1, e2]
    refine ⟨?_, by show k < 2 ^ 4; omega, by show 4 ≤ 10; omega⟩
    show _ = natBits (3 + 1) k
    rw [natBits_high 3 k]
    have : k / 2 ^ 3 % 2 = 0 := by omega
    rw [this]
    rfl
set_option maxRecDepth 100000 in
set_option maxHeartbeats 1600000 in
theorem bcodeOf_any (c : UInt8) (w : World) :
    Calls Tryz.prog 212 #[.int .u8 c.toNat] w fun e w' => e = .returned (.tuple #[.int .u32 (codeN c).1, .int .i64 (codeN c).2]) ∧ w' = w := by
  have H1 := hide (oft_index c)
  have H2 := hide (sel_index c)
  have hcl : c.toNat ≤ 255 := Nat.le_of_lt_succ c.toNat_lt
  rcases h1 : pl oft c with _ | k
  · rcases h2 : pl sel c with _ | k
    · have HN : Hid (codeN c = (768 + c.toNat, 10)) := by show codeN c = _; unfold codeN; rw [h1]; simp only [h2]
      rw [h1] at H1
      rw [h2] at H2
      simp only at H1 H2
      clear h1 h2
      have hor : bits .or .u32 768 (c.toNat : Int) = ((768 + c.toNat : Nat) : Int) := by
        have h3 : ∀ j : Fin 256, 768 ||| j.val = 768 + j.val := by decide
        rw [← h3 ⟨c.toNat, c.toNat_lt⟩]
        exact u32_or_nat 768 c.toNat (by omega) (by omega)
      have HO := hide hor
      clear hor
      generalize c.toNat = x at *
      go_enter Tryz.func212, Tryz.ntmps212
      go_wp2_with (first | (go_at_call 215; refine (H1.out _).mono ?_; rintro e w' ⟨rfl, rfl⟩) | (go_at_call 215; refine (H2.out _).mono ?_; rintro e w' ⟨rfl, rfl⟩))
      rw [HN.out]
      refine bodyPost_ret (v := .tuple #[.int .u32 ((768 + x : Nat)), .int .i64 10]) ?_ rfl ⟨rfl, rfl⟩
      simp [results, Tryz.results212, go_sem, HO.out]
    · have HN : Hid (codeN c = (32 + k, 6)) := by show codeN c = _; unfold codeN; rw [h1]; simp only [h2]
      have hk : k < 16 := pl_lt h2
      have hor : bits .or .u32 32 (k : Int) = ((32 + k : Nat) : Int) := by
        have h3 : ∀ j : Fin 16, 32 ||| j.val = 32 + j.val := by decide
        rw [← h3 ⟨k, hk⟩]
        exact u32_or_nat 32 k (by omega) (by omega)
      have HO := hide hor
      clear hor
      rw [h1] at H1
      rw [h2] at H2
      simp only at H1 H2
      clear h1 h2
      generalize c.toNat = x at *
      go_enter Tryz.func212, Tryz.ntmps212
      go_wp2_with (first | (go_at_call 215; refine (H1.out _).mono ?_; rintro e w' ⟨rfl, rfl⟩) | (go_at_call 215; refine (H2.out _).mono ?_; rintro e w' ⟨rfl, rfl⟩))
      rw [HN.out]
      refine bodyPost_ret (v := .tuple #[.int .u32 ((32 + k : Nat)), .int .i64 6]) ?_ rfl ⟨rfl, rfl⟩
      simp [results, Tryz.results212, go_sem, HO.out]
  · have HN : Hid (codeN c = (k, 4)) := by show codeN c = _; unfold codeN; rw [h1]
    have hk : k < 8 := pl_lt h1
    rw [h1] at H1
    simp only at H1
    clear h1
    generalize c.toNat = x at *
    go_enter Tryz.func212, Tryz.ntmps212
    go_wp2_with (first | (go_at_call 215; refine (H1.out _).mono ?_; rintro e w' ⟨rfl, rfl⟩) | (go_at_call 215; refine (H2.out _).mono ?_; rintro e w' ⟨rfl, rfl⟩))
    rw [HN.out]
    refine bodyPost_ret (v := .tuple #[.int .u32 (k : Nat), .int .i64 4]) ?_ rfl ⟨rfl, rfl⟩
    simp [results, Tryz.results212, go_sem]
end Go.Proofs.YtiphkngfbpdeoaaGreatDoor
namespace Go.Proofs.YtiphkngfbpdeoaaGreatDoor
set_option linter.unusedVariables false
set_option linter.unusedSimpArgs false
open Go.RowKit
theorem val_mid (X : List Bool) (LL m : Nat) (hm : m ≤ X.length) (h8 : 8 ≤ m) (h : LL % 2 ^ X.length = valB X) : LL / 2 ^ (m - 8) % 256 = valB ((X.drop (X.length - m)).take 8) := by
  have hX : X = X.take (X.length - m) ++ ((X.drop (X.length - m)).take 8 ++ X.drop (X.length - m + 8)) := by
    have h1 : (X.drop (X.length - m)).drop 8 = X.drop (X.length - m + 8) := by rw [List.drop_drop]
    rw [← h1, List.take_append_drop, List.take_append_drop]
  generalize hA : X.take (X.length - m) = A at hX
  generalize hY : (X.drop (X.length - m)).take 8 = Y at hX
  generalize hZ : X.drop (X.length - m + 8) = Z at hX
  have hYl : Y.length = 8 := by rw [← hY, List.length_take, List.length_drop]; omega
  have hZl : Z.length = m - 8 := by rw [← hZ, List.length_drop]; omega
  have hv : valB X = valB A * 2 ^ (8 + (m - 8)) + (valB Y * 2 ^ (m - 8) + valB Z) := by
    rw [hX, valB_append, valB_append, List.length_append, hYl, hZl]
  have h1 : LL % 2 ^ m = valB Y * 2 ^ (m - 8) + valB Z := by
    have e : LL % 2 ^ m = LL % 2 ^ X.length % 2 ^ m := by
      rw [Nat.mod_mod_of_dvd]
      exact Nat.pow_dvd_pow 2 hm
    have hm2 : 8 + (m - 8) = m := by omega
    rw [e, h, hv, hm2, Nat.mul_comm (valB A), Nat.mul_add_mod]
    apply Nat.mod_eq_of_lt
    have hy := valB_lt Y
    have hz := valB_lt Z
    rw [hYl] at hy
    rw [hZl] at hz
    have hm3 : 2 ^ m = 2 ^ 8 * 2 ^ (m - 8) := by rw [← Nat.pow_add]; congr 1; omega
    rw [hm3]
    have h5 : (valB Y + 1) * 2 ^ (m - 8) ≤ 2 ^ 8 * 2 ^ (m - 8) := Nat.mul_le_mul_right _ hy
    rw [Nat.add_mul] at h5
    omega
  have hz := valB_lt Z
  rw [hZl] at hz
  have hp : 0 < 2 ^ (m - 8) := Nat.two_pow_pos _
  have hm3 : 2 ^ m = 2 ^ (m - 8) * 256 := by
    have : 2 ^ m = 2 ^ (m - 8 + 8) := by congr 1; omega
    rw [this, Nat.pow_add]
  have h6 : LL % 2 ^ m / 2 ^ (m - 8) = LL / 2 ^ (m - 8) % 256 := by rw [hm3, Nat.mod_mul_right_div_self]
  rw [← h6, h1, Nat.mul_comm, Nat.mul_add_div hp, Nat.div_eq_of_lt hz]
  omega
theorem val_more (X : List Bool) (L v n : Nat) (hn : n ≤ 32) (hX : X.length + n ≤ 32) (hv : v < 2 ^ n) (h : L % 2 ^ X.length = valB X) :
    (L * 2 ^ n % 4294967296 ||| v) % 2 ^ (X.length + n) = valB (X ++ natBits n v) ∧ (L * 2 ^ n % 4294967296 ||| v) < 4294967296 := by
  have e1 : L * 2 ^ n % 4294967296 = (L % 2 ^ (32 - n)) * 2 ^ n := by
    have : 4294967296 = 2 ^ (32 - n) * 2 ^ n := by rw [← Nat.pow_add]; have : 32 - n + n = 32 := by omega
                                                   rw [this]
    rw [this, Nat.mul_mod_mul_right]
  have e2 : (L % 2 ^ (32 - n)) * 2 ^ n ||| v = (L % 2 ^ (32 - n)) * 2 ^ n + v := by
    rw [← Nat.shiftLeft_eq, Nat.shiftLeft_add_eq_or_of_lt hv]
  rw [e1, e2]
  have e3 : X.length ≤ 32 - n := by omega
  have e4 : L % 2 ^ (32 - n) % 2 ^ X.length = valB X := by
    rw [Nat.mod_mod_of_dvd, h]
    exact Nat.pow_dvd_pow 2 e3
  have hlt : L % 2 ^ (32 - n) < 2 ^ (32 - n) := Nat.mod_lt _ (Nat.two_pow_pos _)
  generalize L % 2 ^ (32 - n) = M at e4 hlt
  constructor
  · rw [valB_append, natBits_length, valB_natBits, Nat.mod_eq_of_lt hv, ← e4, Nat.pow_add, Nat.mul_comm (2 ^ X.length), Nat.mod_mul]
    rw [Nat.mul_add_mod_self_right, Nat.mod_eq_of_lt hv, Nat.mul_comm M, Nat.mul_add_div (Nat.two_pow_pos n), Nat.div_eq_of_lt hv]
    rw [Nat.add_zero, Nat.mul_comm]
    omega
  · have h5 : (M + 1) * 2 ^ n ≤ 2 ^ (32 - n) * 2 ^ n := Nat.mul_le_mul_right _ hlt
    have h6 : 2 ^ (32 - n) * 2 ^ n = 4294967296 := by rw [← Nat.pow_add]; have : 32 - n + n = 32 := by omega
                                                      rw [this]
    rw [h6, Nat.add_mul] at h5
    omega
end Go.Proofs.YtiphkngfbpdeoaaGreatDoor
namespace Go.Proofs.YtiphkngfbpdeoaaGreatDoor
set_option linter.unusedVariables false
set_option linter.unusedSimpArgs false
open Go.RowKit
def BwB (w : World) (wb : Nat) (gv : Value) (L N : Nat) : Prop := w.heap[wb]? = some (.cells #[gv, .int .u32 (L : Int), .int .i64 (N : Int)] 282 (0, 0))
theorem BwB.cells {w : World} {wb : Nat} {gv : Value} {L N : Nat} (h : BwB w wb gv L N) : w.cell? ⟨wb, 0, none⟩ = some gv ∧ w.cell? ⟨wb, 1, none⟩ = some (.int .u32 (L : Int)) ∧ w.cell? ⟨wb, 2, none⟩ = some (.int .i64 (N : Int)) := by
  unfold BwB at h
  refine ⟨?_, ?_, ?_⟩ <;> rw [cell_of_row w wb _ _ _ _ h] <;> rfl
theorem BwB.free {w : World} {wb : Nat} {gv : Value} {L N : Nat} (h : BwB w wb gv L N) (o : Nat) : w.frozen? ⟨wb, o, none⟩ = false := by
  unfold BwB at h
  simp [World.frozen?, h]
theorem BwB.lt {w : World} {wb : Nat} {gv : Value} {L N : Nat} (h : BwB w wb gv L N) : wb < w.heap.size := lt_of_block h
theorem step_app {P : Program} {ops : Array Oper} {o : Oper} {a : Act} {w : World} {K : Act → World → Prop} {Q : Exit → Act → World → Prop} {E : Prop} (hgd : o.guard = none) (s y : Operand) (t : TypeId)
    (ho : o.op = .call { callee := .builtin .append, args := #[s, y], argTypes := #[t, t] })
    (e : TypeId) (i : TypeInfo) (z : Value) (size bytes : Nat) (ht : P.underlying t = some (.slice e)) (hi : P.info? e = some i) (hz : i.zero = some z)
    (hsize : i.size = size) (hby : i.bytes = bytes) (hzs : z.cells.size = size) (hsz : 0 < size)
    (v : Value) (n : Nat) (xs : List Value) (hs : a.eval s = v) (hown : w.ownsRow 0 e size v n xs)
    (x : Value) (m : Nat) (news : List Value) (hx : a.eval y = x) (hl : news.length = m * size) (hnews : Lies w x m news) (h1 : ∀ u ∈ news, u.oneCell' = true)
    (h63 : n + m ≤ maxLen) (hbytes : (n + m) * bytes ≤ 140737488355328)
    (hK : ∀ v' w', w'.ownsRow 0 e size v' (n + m) (xs ++ news) → w.grownBy w' v.ownBlock → (v'.ownBlock = v.ownBlock ∨ v'.ownBlock = some w.heap.size) → K (a.put o.dst v') w') :
    if Region.wanted o (yielded ops a.tmps) = true then Oper.wp P o a w K Q else E := by
  have hw : Region.wanted o (yielded ops a.tmps) = true := by simp [Region.wanted, hgd]
  rw [if_pos hw]
  obtain ⟨v', w', hr, h2, h3, h4⟩ := run_app (P := P) w t o.type e i z size bytes ht hi hz hsize hby hzs hsz v n xs hown x m news hl hnews h1 h63 hbytes
  unfold Oper.wp
  simp [execOp, ho, resolve, invoke, builtin, hs, hx, hr, Result.andThen]
  exact hK v' w' h2 h3 h4
def TouchB (wb : Nat) (gv : Value) (j : Nat) : Prop := j = wb ∨ gv.ownBlock = some j
theorem BwB.chg {S : Nat → Prop} {w w' : World} {wb : Nat} {gv : Value} {L N : Nat} (h : BwB w wb gv L N) (hc : Chg S w w') (hs : ¬ S wb) : BwB w' wb gv L N := by
  unfold BwB at h ⊢
  rw [hc.block wb (lt_of_block h) hs]; exact h
theorem BwB.set0 {w : World} {wb : Nat} {gv : Value} {L N : Nat} (h : BwB w wb gv L N) (u : Value) : BwB (w.setCell ⟨wb, 0, none⟩ u) wb u L N := block_setCell (i := 0) (u := u) h
theorem BwB.set1 {w : World} {wb : Nat} {gv : Value} {L N : Nat} (h : BwB w wb gv L N) (l : Nat) : BwB (w.setCell ⟨wb, 1, none⟩ (.int .u32 (l : Int))) wb gv l N := block_setCell (i := 1) (u := .int .u32 (l : Int)) h
theorem BwB.set2 {w : World} {wb : Nat} {gv : Value} {L N : Nat} (h : BwB w wb gv L N) (n : Nat) : BwB (w.setCell ⟨wb, 2, none⟩ (.int .i64 (n : Int))) wb gv L n := block_setCell (i := 2) (u := .int .i64 (n : Int)) h
theorem put_round {w wr w2 : World} {wb k m LL : Nat} {gv gv' v' : Value} {l : List UInt8} {c : UInt8} {x : Value} (hb : BwB wr wb gv' LL m) (h8 : 8 ≤ m) (how : wr.ownsRow 0 5 1 gv' k (l.map B)) (hch : Chg (TouchB wb gv) w wr) (hfr : ∀ j, gv'.ownBlock = some j → gv.ownBlock = some j ∨ w.heap.size ≤ j)
    (hx : x = .int .i64 ((m - 8 : Nat) : Int)) {o : Obj} (hown' : w2.ownsRow 0 5 1 v' (k + 1) (l.map B ++ [B c])) (hg : ((wr.setCell ⟨wb, 2, none⟩ x).alloc o).drew.grownBy w2 gv'.ownBlock) (hf : v'.ownBlock = gv'.ownBlock ∨ v'.ownBlock = some ((wr.setCell ⟨wb, 2, none⟩ x).alloc o).drew.heap.size) :
    BwB w2 wb gv' LL (m - 8) ∧ BwB (w2.setCell ⟨wb, 0, none⟩ v') wb v' LL (m - 8) ∧ (w2.setCell ⟨wb, 0, none⟩ v').ownsRow 0 5 1 v' (k + 1) ((l ++ [c]).map B) ∧ Chg (TouchB wb gv) w (w2.setCell ⟨wb, 0, none⟩ v') ∧ (∀ j, v'.ownBlock = some j → gv.ownBlock = some j ∨ w.heap.size ≤ j) := by
  subst hx
  have hne : gv'.ownBlock ≠ some wb := owns_ne how hb (by decide)
  have hc1 : Chg (fun j => j = wb) wr (wr.setCell ⟨wb, 2, none⟩ (.int .i64 ((m - 8 : Nat) : Int))) := (Chg.refl (fun j => j = wb) _).setCell (p := ⟨wb, 2, none⟩) (Or.inr rfl) _
  have hc2 : Chg (fun j => gv'.ownBlock = some j) (wr.setCell ⟨wb, 2, none⟩ (.int .i64 ((m - 8 : Nat) : Int))) w2 := (((Chg.refl _ _).alloc o).drew).trans (Chg.of_grown hg (fun j hj => Or.inr hj))
  have hb1 := hb.set2 (m - 8)
  have hb2 := hb1.chg hc2 hne
  have hv' : ∀ j, v'.ownBlock = some j → gv'.ownBlock = some j ∨ wr.heap.size ≤ j := by
    intro j hj
    rcases hf with e | e
    · rw [e] at hj; exact Or.inl hj
    · rw [e] at hj
      have e2 : ((wr.setCell ⟨wb, 2, none⟩ (.int .i64 ((m - 8 : Nat) : Int))).alloc o).drew.heap.size = wr.heap.size + 1 := by
        show ((wr.setCell ⟨wb, 2, none⟩ (.int .i64 ((m - 8 : Nat) : Int))).alloc o).heap.size = _
        simp [World.setCell]
      rw [e2] at hj
      simp at hj
      exact Or.inr (by omega)
  have hc3 : Chg (fun j => j = wb) w2 (w2.setCell ⟨wb, 0, none⟩ v') := (Chg.refl (fun j => j = wb) _).setCell (p := ⟨wb, 0, none⟩) (Or.inr rfl) _
  have hsz := hch.size
  have hsz1 := hc1.size
  refine ⟨hb2, hb2.set0 v', ?_, ((hch.trans (hc1.mono fun j _ e => Or.inr (Or.inl e))).trans (hc2.mono fun j _ e => ?_)).trans (hc3.mono fun j _ e => Or.inr (Or.inl e)), fun j hj => ?_⟩
  · rw [List.map_append]
    refine owns_chg hown' hc3 (fun j hj e => ?_)
    subst e
    exact owns_ne hown' hb2 (by decide) hj
  · rcases hfr j e with a | a
    · exact Or.inr (Or.inr a)
    · exact Or.inl a
  · rcases hv' j hj with a | a
    · exact hfr j a
    · exact Or.inr (by omega)
def BwS (w : World) (wb : Nat) (gv : Value) (bs : List Bool) : Prop :=
  ∃ L N, BwB w wb gv L N ∧ L < 4294967296 ∧ N = bs.length % 8 ∧ L % 2 ^ N = valB (bs.drop (8 * (bs.length / 8))) ∧ w.ownsRow 0 5 1 gv (bs.length / 8) ((bytesB bs).map B)
def bwN (w : World) (wb : Nat) : Nat := match w.cell? ⟨wb, 2, none⟩ with
  | some (.int _ n) => n.toNat
  | _ => 0
theorem bwN_of {w : World} {wb : Nat} {gv : Value} {L N : Nat} (h : BwB w wb gv L N) : bwN w wb = N := by
  unfold bwN
  rw [h.cells.2.2]
  simp
theorem bytesB_next {l : List Bool} {k : Nat} (h : 8 * k + 8 ≤ l.length) : (bytesB l).take (k + 1) = (bytesB l).take k ++ [UInt8.ofNat (valB ((l.drop (8 * k)).take 8))] := by
  have hk : k < (bytesB l).length := by rw [bytesB_length]; omega
  rw [List.take_succ_eq_append_getElem hk]
  simp [bytesB]
theorem bytesB_more (a b : List Bool) : (bytesB (a ++ b)).take (a.length / 8) = bytesB a := by
  apply List.ext_getElem
  · simp [bytesB_length]; omega
  · intro i h1 h2
    rw [bytesB_length] at h2
    simp only [bytesB, List.getElem_take, List.getElem_map, List.getElem_range]
    congr 2
    rw [List.drop_append_of_le_length (by omega), List.take_append_of_le_length (by rw [List.length_drop]; omega)]
set_option maxRecDepth 100000 in
set_option maxHeartbeats 3200000 in
theorem put_any (wb : Nat) (gv : Value) (L N : Nat) (bs : List Bool) (v n : Nat) (w : World) (h : BwB w wb gv L N) (hL : L < 4294967296) (hN : N = bs.length % 8) (hX : L % 2 ^ N = valB (bs.drop (8 * (bs.length / 8))))
    (hown : w.ownsRow 0 5 1 gv (bs.length / 8) ((bytesB bs).map B)) (hv : v < 2 ^ n) (hn : n ≤ 10) (hlb : bs.length ≤ 1099511627776) :
    Calls Tryz.prog 213 #[.pointer (some ⟨wb, 0, none⟩), .int .u32 v, .int .i64 n] w fun e w' => e = .returned (.tuple #[]) ∧ ∃ gv', BwS w' wb gv' (bs ++ natBits n v) ∧ Chg (TouchB wb gv) w w' ∧ (∀ j, gv'.ownBlock = some j → gv.ownBlock = some j ∨ w.heap.size ≤ j) := by
  obtain ⟨i0, hi, hz0, hz1, hz2⟩ := info_parts Tryz.info5
  obtain ⟨c0, c1, c2⟩ := h.cells
  have f1 := h.free 1
  have f2 := h.free 2
  have hN8 : N < 8 := by omega
  have hv1 : v < 1024 := Nat.lt_of_lt_of_le hv (Nat.le_trans (Nat.pow_le_pow_right (by omega) hn) (by decide))
  have hXl : (bs.drop (8 * (bs.length / 8))).length = N := by rw [List.length_drop]; omega
  obtain ⟨q1, q2⟩ := val_more (bs.drop (8 * (bs.length / 8))) L v n (by omega) (by omega) hv (by rw [hXl]; exact hX)
  have hor : bits .or .u32 ((L : Int) * 2 ^ n % 4294967296) (v : Int) = ((L * 2 ^ n % 4294967296 ||| v : Nat) : Int) := by
    have := u32_or_nat (L * 2 ^ n % 4294967296) v (Nat.mod_lt _ (by decide)) (by omega)
    have e1 : ((L * 2 ^ n : Nat) : Int) = (L : Int) * 2 ^ n := by
      rw [Int.natCast_mul, Int.natCast_pow]
      rfl
    have e : ((L * 2 ^ n % 4294967296 : Nat) : Int) = (L : Int) * 2 ^ n % 4294967296 := by rw [← e1]; omega
    rw [← e]
    exact this
  generalize L * 2 ^ n % 4294967296 ||| v = LL at q1 q2 hor
  have hT : (bs.drop (8 * (bs.length / 8)) ++ natBits n v) = (bs ++ natBits n v).drop (8 * (bs.length / 8)) := by rw [List.drop_append_of_le_length (by omega)]
  rw [hT, hXl] at q1
  have hlen : (bs ++ natBits n v).length = 8 * (bs.length / 8) + N + n := by rw [List.length_append, natBits_length]; omega
  have hmore := bytesB_more bs (natBits n v)
  obtain ⟨bt, hbt⟩ : ∃ bt, bt = bs ++ natBits n v := ⟨_, rfl⟩
  rw [← hbt] at q1 hlen hmore ⊢
  obtain ⟨q, hq⟩ : ∃ q, q = bs.length / 8 := ⟨_, rfl⟩
  rw [← hq] at q1 hlen hmore hown
  rw [← hmore] at hown
  have HQ1 := hide q1
  have HH := hide h
  have HOWN := hide hown
  have HLEN := hide hlen
  have HQ := hide hq
  have HLB : Hid (8 * q + N + n ≤ 1099511627800) := by show _ ≤ _; omega
  clear hT hXl hX hbt hN hv q1 h hown hlen hmore hq
  go_enter Tryz.func213, Tryz.ntmps213
  go_wp2
  go_loopw [] (fun wr => ∃ k gv' m, 8 * k + m = 8 * q + N + n ∧ q ≤ k ∧ BwB wr wb gv' LL m ∧ wr.ownsRow 0 5 1 gv' k (((bytesB bt).take k).map B) ∧ Chg (TouchB wb gv) w wr ∧ (∀ j, gv'.ownBlock = some j → gv.ownBlock = some j ∨ w.heap.size ≤ j)) (fun wr => bwN wr wb)
  case atStart => exact ⟨q, gv, N + n, by omega, Nat.le_refl _, by have h9 := (HH.out.set1 LL).set2 (N + n); rw [show ((N + n : Nat) : Int) = (N : Int) + (n : Int) from by omega] at h9; exact h9, owns_chg HOWN.out (((Chg.refl (fun j => j = wb) w).setCell (p := ⟨wb, 1, none⟩) (Or.inr rfl) _).setCell (p := ⟨wb, 2, none⟩) (Or.inr rfl) _) (fun j hj e => by subst e; exact owns_ne HOWN.out HH.out (by decide) hj), ((Chg.refl _ w).setCell (p := ⟨wb, 1, none⟩) (Or.inr (Or.inl rfl)) _).setCell (p := ⟨wb, 2, none⟩) (Or.inr (Or.inl rfl)) _, fun j hj => Or.inl hj⟩
  case round =>
    obtain ⟨k, gv', m, hm, hqk, hb, how, hch, hfr⟩ := hrel
    obtain ⟨z0, z1, z2⟩ := hb.cells
    have y0 := hb.free 0
    have y1 := hb.free 1
    have y2 := hb.free 2
    by_cases h8 : 8 ≤ m
    · have hm2 : m ≤ 17 := by omega
      have hkb : k ≤ 1099511627776 ∨ True := Or.inr trivial
      have hby : IntKind.u8.wrap ((LL : Int) / 2 ^ ((m : Int) - 8).toNat) = ((UInt8.ofNat (valB ((bt.drop (8 * k)).take 8))).toNat : Int) := by
        have e1 : ((m : Int) - 8).toNat = m - 8 := by omega
        have e2 : ((LL : Int) / 2 ^ (m - 8)) = ((LL / 2 ^ (m - 8) : Nat) : Int) := by rw [Int.natCast_ediv, Int.natCast_pow]; rfl
        have e3 : (bt.drop (8 * q)).length = N + n := by rw [List.length_drop, HLEN.out]; omega
        have e4 := val_mid (bt.drop (8 * q)) LL m (by omega) h8 (by rw [e3]; exact HQ1.out)
        rw [List.drop_drop, e3] at e4
        have e5 : 8 * q + (N + n - m) = 8 * k := by omega
        rw [e5] at e4
        have e6 := Nat.mod_lt (LL / 2 ^ (m - 8)) (show 256 > 0 by decide)
        rw [e1, e2, IntKind.wrap_u8', ← e4, u8_ofNat e6]
        omega
      have HBY := hide hby
      have HM8 : Hid ((m : Int) - 8 = ((m - 8 : Nat) : Int)) := by show _ = _; omega
      have HL8 : Hid (8 * k + 8 ≤ bt.length) := by show _ ≤ _; have := HLEN.out; omega
      have HO : Hid (((wr.setCell ⟨wb, 2, none⟩ (.int .i64 ((m : Int) - 8))).alloc (.cells #[.int .u8 (IntKind.u8.wrap ((LL : Int) / 2 ^ ((m : Int) - 8).toNat))] 5)).drew.ownsRow 0 5 1 gv' k (((bytesB bt).take k).map B)) :=
        (owns_chg how ((Chg.refl (fun j => j = wb) wr).setCell (p := ⟨wb, 2, none⟩) (Or.inr rfl) _) (fun j hj e => by subst e; exact owns_ne how hb (by decide) hj)).alloc _
      have HLI : Hid (Lies ((wr.setCell ⟨wb, 2, none⟩ (.int .i64 ((m : Int) - 8))).alloc (.cells #[.int .u8 (IntKind.u8.wrap ((LL : Int) / 2 ^ ((m : Int) - 8).toNat))] 5)).drew (.slice (some ⟨wr.heap.size, 0, none⟩) 1 1) 1 [.int .u8 (IntKind.u8.wrap ((LL : Int) / 2 ^ ((m : Int) - 8).toNat))]) := by
        refine lies_one ?_
        have hh := heap_alloc_new (wr.setCell ⟨wb, 2, none⟩ (.int .i64 ((m : Int) - 8))) (.cells #[.int .u8 (IntKind.u8.wrap ((LL : Int) / 2 ^ ((m : Int) - 8).toNat))] 5)
        have hs : (wr.setCell ⟨wb, 2, none⟩ (.int .i64 ((m : Int) - 8))).heap.size = wr.heap.size := by simp [World.setCell]
        rw [hs] at hh
        exact cell_of_one hh
      have HN1 : Hid (k + 1 ≤ maxLen) := by show _ ≤ _; unfold maxLen; have := HLB.out; have := HLEN.out; omega
      have HN2 : Hid ((k + 1) * 1 ≤ 140737488355328) := by show _ ≤ _; have := HLB.out; have := HLEN.out; omega
      have HONE : Hid (∀ u ∈ [Value.int .u8 (IntKind.u8.wrap ((LL : Int) / 2 ^ ((m : Int) - 8).toNat))], u.oneCell' = true) := by
        intro u hu
        simp at hu
        subst hu
        rfl
      have z0a : ((wr.setCell ⟨wb, 2, none⟩ (.int .i64 ((m : Int) - 8))).alloc (.cells #[.int .u8 (IntKind.u8.wrap ((LL : Int) / 2 ^ ((m : Int) - 8).toNat))] 5)).cell? ⟨wb, 0, none⟩ = some gv' := by
        have hc9 : Chg (fun _ => False) (wr.setCell ⟨wb, 2, none⟩ (.int .i64 ((m : Int) - 8))) ((wr.setCell ⟨wb, 2, none⟩ (.int .i64 ((m : Int) - 8))).alloc (.cells #[.int .u8 (IntKind.u8.wrap ((LL : Int) / 2 ^ ((m : Int) - 8).toNat))] 5)) := (Chg.refl _ _).alloc _
        have h9 := hb.set2 (m - 8)
        rw [← HM8.out] at h9
        exact (h9.chg hc9 id).cells.1
      have HB' := hide hb
      have HOW := hide how
      have HCH := hide hch
      have HFR := hide hfr
      clear hb how hch hfr hby hkb
      go_wp2
      go_region_law (refine step_app rfl (.tmp 41) (.tmp 52) 38 rfl 5 i0 (.int .u8 0) 1 1 Tryz.underlying38 hi hz0 hz1 hz2 rfl (by decide) gv' k (((bytesB bt).take k).map B) (by simp [Act.eval]) HO.out (.slice (some ⟨wr.heap.size, 0, none⟩) 1 1) 1 [.int .u8 (IntKind.u8.wrap ((LL : Int) / 2 ^ ((m : Int) - 8).toNat))] (by simp [Act.eval]) rfl HLI.out HONE.out HN1.out HN2.out ?_; intro v' w2 hown2 hg2 hf2; rw [HBY.out] at hown2; obtain ⟨sv', cv', hv'⟩ := slice_len hown2; subst hv'; obtain ⟨p1, p2, p3, p4, p5⟩ := put_round HB'.out h8 HOW.out HCH.out HFR.out (by rw [HM8.out]) hown2 hg2 hf2; obtain ⟨d0, -, -⟩ := p1.cells; have d1 := p1.free 0)
      all_goals go_wp2
      all_goals refine ⟨⟨k + 1, _, m - 8, by omega, by omega, p2, ?_, p4, p5⟩, ?_⟩
      all_goals first
        | (rw [bytesB_next HL8.out]; exact p3)
        | (rw [bwN_of p2, bwN_of HB'.out]; omega)
    · have HB' := hide hb
      have HOW := hide how
      have HCH := hide hch
      have HFR := hide hfr
      clear hb how hch hfr
      go_wp2
      have hk : k = bt.length / 8 := by have := HLEN.out; omega
      have hm' : m = bt.length % 8 := by have := HLEN.out; omega
      have hmod : LL % 2 ^ m = valB (bt.drop (8 * (bt.length / 8))) := by
        have e3 : (bt.drop (8 * q)).length = N + n := by rw [List.length_drop, HLEN.out]; omega
        have hX : bt.drop (8 * q) = (bt.drop (8 * q)).take (N + n - m) ++ bt.drop (8 * k) := by
          have : bt.drop (8 * k) = (bt.drop (8 * q)).drop (N + n - m) := by rw [List.drop_drop]; congr 1; omega
          rw [this, List.take_append_drop]
        have hZl : (bt.drop (8 * k)).length = m := by rw [List.length_drop, HLEN.out]; omega
        have h1 := HQ1.out
        have h2 : LL % 2 ^ m = LL % 2 ^ (N + n) % 2 ^ m := by
          rw [Nat.mod_mod_of_dvd]
          exact Nat.pow_dvd_pow 2 (by omega)
        have h3 := valB_lt (bt.drop (8 * k))
        rw [hZl] at h3
        rw [h2, h1, hX, valB_append, hZl, Nat.mul_comm, Nat.mul_add_mod, Nat.mod_eq_of_lt h3, ← hk]
      refine bodyPost_end (results_none rfl _ _ _) rfl ⟨rfl, gv', ⟨LL, m, HB'.out, q2, hm', hmod, ?_⟩, HCH.out, HFR.out⟩
      have h := HOW.out
      rw [List.take_of_length_le (by rw [bytesB_length]; omega)] at h
      rw [← hk]
      exact h
end Go.Proofs.YtiphkngfbpdeoaaGreatDoor
namespace Go.Proofs.YtiphkngfbpdeoaaGreatDoor
set_option linter.unusedVariables false
set_option linter.unusedSimpArgs false
open Go.RowKit
theorem step_call {P : Program} {ops : Array Oper} {o : Oper} {a : Act} {w : World} {K : Act → World → Prop} {Q : Exit → Act → World → Prop} {E : Prop} (hgd : o.guard = none) (f : Nat) (fn : Func) (hfn : P.funcs[f]? = some fn) (hnm : (fn.name == "runtime.NumGoroutine") = false) (hbd : fn.body.isNone = false) (xs : List Operand) (ts : Array TypeId)
    (ho : o.op = .call { callee := .value (.func f), args := xs.toArray, argTypes := ts }) (vs : List Value) (hvs : xs.map a.eval = vs) {R : Ending → World → Prop} (hc : Calls P f vs.toArray w R)
    (hK : ∀ e w', R e w' → ∃ v, e = .returned v ∧ K (a.put o.dst v) w') :
    if Region.wanted o (yielded ops a.tmps) = true then Oper.wp P o a w K Q else E := by
  have hw : Region.wanted o (yielded ops a.tmps) = true := by simp [Region.wanted, hgd]
  rw [if_pos hw]
  unfold Oper.wp
  have he : (callFunc f vs.toArray).run P w = .ok (.enter f vs.toArray) w := by
    unfold callFunc
    simp only [Sem.run_bind, run_program, Result.andThen_ok, hfn, hnm, hbd, Bool.false_eq_true, if_false, Sem.run_pure]
  have hx : (execOp a.eval o).run P w = .ok (.enter f vs.toArray) w := by
    simp [execOp, ho, resolve, invoke, hvs, Act.eval, Deferred.ofValue, he]
  rw [hx, Oper.upon_enter]
  refine hc.mono ?_
  intro e w' hr
  obtain ⟨v, rfl, hk⟩ := hK e w' hr
  exact hk
theorem step_gone {P : Program} {ops : Array Oper} {o : Oper} {a : Act} {w : World} {K : Act → World → Prop} {Q : Exit → Act → World → Prop} {E : Prop} (hgd : o.guard = none) (f : Nat) (fn : Func) (hfn : P.funcs[f]? = some fn) (hnm : (fn.name == "runtime.NumGoroutine") = false) (hbd : fn.body.isNone = false) (xs : List Operand) (ts : Array TypeId)
    (ho : o.op = .call { callee := .value (.func f), args := xs.toArray, argTypes := ts }) (vs : List Value) (hvs : xs.map a.eval = vs) {R : Ending → World → Prop} (hc : Calls P f vs.toArray w R)
    (hK : ∀ e w', R e w' → ∃ ps, e = .panicked ps ∧ Q (.panic ps) a w') (v : Value) (hv : False → K (a.put o.dst v) w) :
    if Region.wanted o (yielded ops a.tmps) = true then Oper.wp P o a w K Q else E := by
  have hw : Region.wanted o (yielded ops a.tmps) = true := by simp [Region.wanted, hgd]
  rw [if_pos hw]
  unfold Oper.wp
  have he : (callFunc f vs.toArray).run P w = .ok (.enter f vs.toArray) w := by
    unfold callFunc
    simp only [Sem.run_bind, run_program, Result.andThen_ok, hfn, hnm, hbd, Bool.false_eq_true, if_false, Sem.run_pure]
  have hx : (execOp a.eval o).run P w = .ok (.enter f vs.toArray) w := by
    simp [execOp, ho, resolve, invoke, hvs, Act.eval, Deferred.ofValue, he]
  rw [hx, Oper.upon_enter]
  refine hc.mono ?_
  intro e w' hr
  obtain ⟨v, rfl, hk⟩ := hK e w' hr
  exact hk
theorem step_never {P : Program} {ops : Array Oper} {o : Oper} {a : Act} {w : World} {K : Act → World → Prop} {Q : Exit → Act → World → Prop} {E : Prop} (hf : False) (v : Value) (hv : K (a.put o.dst v) w) : if Region.wanted o (yielded ops a.tmps) = true then Oper.wp P o a w K Q else E := hf.elim
theorem step_appd {P : Program} {ops : Array Oper} {o : Oper} {a : Act} {w : World} {K : Act → World → Prop} {Q : Exit → Act → World → Prop} {E : Prop} (hgd : o.guard = none) (s y : Operand) (t : TypeId)
    (ho : o.op = .call { callee := .builtin .append, args := #[s, y], argTypes := #[t, t] })
    (e : TypeId) (i : TypeInfo) (z : Value) (size bytes : Nat) (ht : P.underlying t = some (.slice e)) (hi : P.info? e = some i) (hz : i.zero = some z)
    (hsize : i.size = size) (hby : i.bytes = bytes) (hzs : z.cells.size = size) (hsz : 0 < size)
    (v : Value) (n : Nat) (xs : List Value) (hs : a.eval s = v) (hown : w.ownsRow 0 e size v n xs)
    (x : Value) (m : Nat) (news : List Value) (hx : a.eval y = x) (hl : news.length = m * size) (hnews : Lies w x m news) (h1 : ∀ u ∈ news, u.oneCell' = true)
    (h63 : n + m ≤ maxLen) (hbytes : (n + m) * bytes ≤ 140737488355328)
    (hK : ∀ v' w', w'.ownsRow 0 e size v' (n + m) (xs ++ news) → w.grownBy w' v.ownBlock → (v'.ownBlock = v.ownBlock ∨ v'.ownBlock = some w.heap.size) → K (a.put o.dst v') w') :
    if Region.wanted o (yielded ops a.tmps) = true then Oper.wp P o a w K Q else E := by
  have hw : Region.wanted o (yielded ops a.tmps) = true := by simp [Region.wanted, hgd]
  rw [if_pos hw]
  obtain ⟨v', w', hr, h2, h3, h4⟩ := run_app (P := P) w t o.type e i z size bytes ht hi hz hsize hby hzs hsz v n xs hown x m news hl hnews h1 h63 hbytes
  unfold Oper.wp
  simp [execOp, ho, resolve, invoke, builtin, hs, hx, hr, Result.andThen]
  exact hK v' w' h2 h3 h4
end Go.Proofs.YtiphkngfbpdeoaaGreatDoor
