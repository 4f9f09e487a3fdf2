import Derived.Test.YtiphkngfbpdeoaaGreatDoorVGaa
import Derived.Test.YtiphkngfbpdeoaaGreatDoorVGae
import Derived.WalkKit
import Derived.WalkSpells
import Derived.WalkLawsBesides
import Derived.Laws.AppendOwnNone
import Derived.BigQuiet
import Derived.BigRegion
import Derived.Deep.QuietTactic
import Derived.Deep.Slices
import Derived.Lib.AppendStr
import Derived.JoinedCond
import Derived.Laws.IdiomStrings
import Derived.Laws.BytesArg
import Derived.Laws.CopyOwn
import Derived.Lib.BufferWrite
import Derived.Deep.RegionLaw
set_option linter.unusedVariables false
set_option linter.unusedSimpArgs false
namespace Go.Proofs.YtiphkngfbpdeoaaGreatDoor
def sFits (k s : Int) : Bool := if k = 0 ∨ k = 1 ∨ k = 2 ∨ k = 7 then s != 0 else if k = 3 ∨ k = 4 ∨ k = 5 then s == 0 else true
def hasB (f b : Int) : Bool := decide (f / b % 2 = 1)
def lFits (l k f : Int) : Bool := if k = 2 ∨ k = 5 then l == 1 else if k = 3 then (if hasB f 1 then l == 0 else l == 4) else if k = 4 ∨ k = 6 then l == 4 else true
def headCode (l k f s : Int) : Int := if 32767 < s ∨ sFits k s = false then 9 else if 64 < l ∨ lFits l k f = false then 10 else 0
theorem headCode_cases (l k f s : Int) : headCode l k f s = 0 ∨ headCode l k f s = 9 ∨ headCode l k f s = 10 := by
  unfold headCode; split <;> (try split) <;> simp
theorem headCode_zero {l k f s : Int} (h : headCode l k f s = 0) : s ≤ 32767 ∧ sFits k s = true ∧ l ≤ 64 ∧ lFits l k f = true := by
  unfold headCode at h
  by_cases a : 32767 < s ∨ sFits k s = false
  · rw [if_pos a] at h; omega
  · rw [if_neg a] at h
    by_cases b : 64 < l ∨ lFits l k f = false
    · rw [if_pos b] at h; omega
    · refine ⟨by omega, by simpa using fun e => a (Or.inr e), by omega, by simpa using fun e => b (Or.inr e)⟩
theorem len_four {l k f s : Int} (h : headCode l k f s = 0) (hk : (k = 3 ∧ hasB f 1 = false) ∨ k = 6) : l = 4 := by
  have hl := (headCode_zero h).2.2.2
  rcases hk with ⟨rfl, hb⟩ | rfl
  · simpa [lFits, hb] using hl
  · simpa [lFits] using hl
def be2 (a b : UInt8) : Int := 256 * (a.toNat : Int) + (b.toNat : Int)
def be4 (a b c d : UInt8) : Int := 16777216 * (a.toNat : Int) + 65536 * (b.toNat : Int) + 256 * (c.toNat : Int) + (d.toNat : Int)
def num4 : List UInt8 → Int
  | a :: b :: c :: d :: _ => be4 a b c d
  | _ => 0
structure Hd where
  length : Int
  kind : Int
  flags : Int
  stream : Int
def hdOf : List UInt8 → Hd
  | a :: b :: c :: d :: e :: f :: _ => ⟨be2 a b, c.toNat, d.toNat, be2 e f⟩
  | _ => ⟨0, 0, 0, 0⟩
def Hd.code (h : Hd) : Int := headCode h.length h.kind h.flags h.stream
def padCode : List UInt8 → Int
  | [] => 9
  | p :: r => if r.length < p.toNat then 9 else if ((p :: r).drop (r.length + 1 - p.toNat)).all (· == 0) then 0 else 9
def nCode (v least : Int) : Int := if v < least ∨ 2147483647 < v then 9 else 0
def numCode (body : List UInt8) (least : Int) : Int := nCode (num4 body) least
def bodyCode (k f : Int) (body : List UInt8) : Int :=
  if k = 0 then (if hasB f 8 then padCode body else 0)
  else if k = 3 then (if hasB f 1 then 0 else numCode body 0)
  else if k = 6 then numCode body 1 else 0
theorem padCode_cases (b : List UInt8) : padCode b = 0 ∨ padCode b = 9 := by
  cases b with
  | nil => simp [padCode]
  | cons p r =>
    simp only [padCode]
    by_cases h : r.length < p.toNat
    · simp [h]
    · rw [if_neg h]; split
      · exact Or.inl rfl
      · exact Or.inr rfl
theorem numCode_cases (b : List UInt8) (n : Int) : numCode b n = 0 ∨ numCode b n = 9 := by unfold numCode nCode; split <;> simp
theorem bodyCode_cases (k f : Int) (b : List UInt8) : bodyCode k f b = 0 ∨ bodyCode k f b = 9 := by
  unfold bodyCode
  split
  · split
    · exact padCode_cases b
    · simp
  · split
    · split
      · simp
      · exact numCode_cases b 0
    · split
      · exact numCode_cases b 1
      · simp
structure Fr where
  kind : Int
  flags : Int
  stream : Int
  body : List UInt8
abbrev Out := Sum (Sum (List UInt8) Fr) Int
abbrev Out.more (got : List UInt8) : Out := .inl (.inl got)
abbrev Out.frame (f : Fr) : Out := .inl (.inr f)
abbrev Out.fault (code : Int) : Out := .inr code
def step (got : List UInt8) (c : UInt8) : Out :=
  let g := got ++ [c]
  let h := hdOf g
  if g.length = 6 ∧ h.code ≠ 0 then .fault h.code
  else if g.length < 6 ∨ (g.length : Int) < 6 + h.length then .more g
  else if bodyCode h.kind h.flags (g.drop 6) ≠ 0 then .fault (bodyCode h.kind h.flags (g.drop 6))
  else .frame ⟨h.kind, h.flags, h.stream, g.drop 6⟩
def Got (g : List UInt8) : Prop := 6 ≤ g.length → (hdOf g).code = 0 ∧ (g.length : Int) < 6 + (hdOf g).length
structure Rd where
  got : List UInt8
  code : Int
def feed (got : List UInt8) : List UInt8 → List Fr × Rd
  | [] => ([], ⟨got, 0⟩)
  | c :: r => match step got c with
    | .inl (.inl g) => feed g r
    | .inl (.inr f) => let x := feed [] r; (f :: x.1, x.2)
    | .inr code => ([], ⟨[], code⟩)
def Rd.feed (r : Rd) (l : List UInt8) : List Fr × Rd := if r.code = 0 then Go.Proofs.YtiphkngfbpdeoaaGreatDoor.feed r.got l else ([], r)
def ofI (x : Int) : UInt8 := UInt8.ofNat x.toNat
theorem ofI_toNat {x : Int} (h0 : 0 ≤ x) (h1 : x ≤ 255) : ((ofI x).toNat : Int) = x := by
  unfold ofI
  rw [UInt8.toNat_ofNat']
  omega
def lay (k f s : Int) (body : List UInt8) : List UInt8 := [ofI ((body.length : Int) / 256), ofI (body.length : Int), ofI k, ofI f, ofI (s / 256), ofI (s % 256)] ++ body
end Go.Proofs.YtiphkngfbpdeoaaGreatDoor
namespace Go.Proofs.YtiphkngfbpdeoaaGreatDoor
open Go.RowKit
end Go.Proofs.YtiphkngfbpdeoaaGreatDoor
namespace Go.Proofs.YtiphkngfbpdeoaaGreatDoor
open Go.RowKit
end Go.Proofs.YtiphkngfbpdeoaaGreatDoor
namespace Go.Proofs.YtiphkngfbpdeoaaGreatDoor
open Go.RowKit
def I64 (n : Int) : Prop := -9223372036854775808 ≤ n ∧ n ≤ 9223372036854775807
theorem pick_neg {c n : Int} (hc : c < 0) (hn : 0 < n) : 0 ≤ -(c + 1).tmod n ∧ -(c + 1).tmod n < n := by
  have e : -(c + 1).tmod n = (-(c + 1)) % n := by
    rw [← Int.neg_tmod]
    exact Int.tmod_eq_emod_of_nonneg (by omega)
  rw [e]
  exact ⟨Int.emod_nonneg _ (by omega), Int.emod_lt_of_pos _ hn⟩
def pkI (c n : Int) : Int := if c < 0 then -(c + 1).tmod n else c % n
theorem pkI_bounds (c : Int) {n : Int} (hn : 0 < n) : 0 ≤ pkI c n ∧ pkI c n < n := by
  unfold pkI
  split
  · exact pick_neg (by assumption) hn
  · exact ⟨Int.emod_nonneg _ (by omega), Int.emod_lt_of_pos _ hn⟩
def mk (n i : Nat) : UInt8 := if i % 2 = 0 then UInt8.ofNat (1 + n % 251) else UInt8.ofNat (1 + n / 251 % 251)
theorem mk_even {n i : Nat} (h : i % 2 = 0) : ((mk n i).toNat : Int) = 1 + (n : Int) % 251 := by
  unfold mk; rw [if_pos h, UInt8.toNat_ofNat']; omega
theorem mk_odd {n i : Nat} (h : ¬ i % 2 = 0) : ((mk n i).toNat : Int) = 1 + (n : Int) / 251 % 251 := by
  unfold mk; rw [if_neg h, UInt8.toNat_ofNat']; omega
theorem conv_bytes {w : World} {bv : Value} {l : List UInt8} (h : BytesIn w bv l) : (convert 38 9 bv).run Tryz.prog w = .ok (.string ⟨l.toArray⟩) w := by
  rcases h with ⟨rfl, rfl⟩ | ⟨bb, off, cap, rfl, h1, h2, h3⟩
  · exact run_convert_bytes_nil w 38 5 Tryz.underlying38 Tryz.underlying5 0 0 9 Tryz.underlying9
  · refine run_convert_bytes_back w 38 9 5 ⟨bb, off, none⟩ cap l Tryz.underlying38 Tryz.underlying5 Tryz.underlying9 (fun j hj => ?_)
    have e : (⟨bb, off, none⟩ : Addr).add j = ⟨bb, off + j, none⟩ := by unfold Addr.add; split <;> simp_all
    rw [e, h3 j hj, getD_lt _ _ _ hj]
theorem conv_bytesA {w : World} {bv : Value} {l : List UInt8} (h : BytesA w bv l) : (convert 38 9 bv).run Tryz.prog w = .ok (.string ⟨l.toArray⟩) w := by
  rcases h with h | ⟨ad, rfl, rfl⟩
  · exact conv_bytes h
  · exact run_convert_bytes_back w 38 9 5 ad 0 [] Tryz.underlying38 Tryz.underlying5 Tryz.underlying9 (fun j hj => absurd hj (by simp))
theorem bel_drewN {b n : Nat} {w w' : World} (h : Below b w w') : Below b w (w'.drewN n) := ⟨h.os, h.tape, h.output, h.size, h.block⟩
def marks (n at_ : Nat) : List UInt8 := (List.range at_).map (mk n)
theorem marks_length (n a : Nat) : (marks n a).length = a := by simp [marks]
theorem marks_succ (n a : Nat) : marks n (a + 1) = marks n a ++ [mk n a] := by simp [marks, List.range_succ]
theorem marks_get {n a i : Nat} (h : i < a) : (marks n a).getD i 0 = mk n i := by simp [marks, List.getD, h]
end Go.Proofs.YtiphkngfbpdeoaaGreatDoor
namespace Go.Proofs.YtiphkngfbpdeoaaGreatDoor
open Go.RowKit
theorem set_next {α : Type} {A L : List α} {i : Nat} (x : α) (hA : A.length = i) (hi : i < L.length) : (A ++ L.drop i).set i x = (A ++ [x]) ++ L.drop (i + 1) := by
  subst hA
  rw [List.set_append_right _ _ (Nat.le_refl _), Nat.sub_self, List.drop_eq_getElem_cons hi, List.set_cons_zero]
  simp
theorem row_set {w : World} {g i : Nat} {xs : List Value} {t : TypeId} {fr : Nat × Nat} {u : Value} (h : w.heap[g]? = some (.cells xs.toArray t fr)) : (w.setCell ⟨g, i, none⟩ u).heap[g]? = some (.cells (xs.set i u).toArray t fr) := by
  have := block_setCell (i := i) (u := u) h
  simpa using this
theorem row_cell {w : World} {g i : Nat} {xs : List Value} {t : TypeId} {fr : Nat × Nat} (h : w.heap[g]? = some (.cells xs.toArray t fr)) : w.cell? ⟨g, i, none⟩ = xs[i]? := by
  rw [cell_of_row w g _ _ _ _ h]; simp
theorem row_free {w : World} {g i : Nat} {xs : List Value} {t : TypeId} (h : w.heap[g]? = some (.cells xs.toArray t (0, 0))) : w.frozen? ⟨g, i, none⟩ = false := by simp [World.frozen?, h]
theorem wpList_copy_str {P : Program} {w : World} {ops : Array Oper} {rest : List Oper} {o : Oper} {a : Act} {Q : Exit → Act → World → Prop} (hgd : o.guard = none) (d s : Operand) (dT sT : TypeId)
    (ho : o.op = .call { callee := .builtin .copy, args := #[d, s], argTypes := #[dT, sT] }) (elem : TypeId) (hu : P.underlying dT = some (.slice elem)) (hsz : (P.info? elem).map (·.size) = some 1)
    (g dLen dCap : Nat) (str : ByteArray) (hd : a.eval d = .slice (some ⟨g, 0, none⟩) dLen dCap) (hs : a.eval s = .string str)
    (cur : List Value) (t : TypeId) (hg : w.heap[g]? = some (.cells cur.toArray t (0, 0))) (hle : str.size ≤ dLen) (hfit : str.size ≤ cur.length) (b : Nat) (w0 : World) (hb : Below b w0 w) (hbg : b ≤ g)
    (h : ∀ w', Hid (w'.heap[g]? = some (.cells (str.data.toList.map B ++ cur.drop str.size).toArray t (0, 0))) → Below b w0 w' → wpList P ops Q rest (a.put o.dst (goInt str.size)) w') :
    wpList P ops Q (o :: rest) a w := by
  refine wpList_plain hgd fun K hK => ?_
  have hr := Lib.run_copy_row_string (P := P) w dT sT o.type elem g 0 dLen dCap str cur.toArray t hu hsz hg hle (by simpa using hfit)
  unfold Oper.wp execOp
  simp only [ho, resolve, invoke, builtin, Sem.run_bind, Sem.run_pure, Result.andThen_ok, List.map_toArray, List.map_cons, List.map_nil, hd, hs, hr]
  refine hK _ _ (h _ ?_ (below_setRow hb hbg _))
  show _ = _
  rw [setRow_heap w g _ _ t _ hg]
  simp [Lib.byteCells]
def lentL (l : List UInt8) : List Value := l.map B ++ List.replicate 4 (.int .u8 77)
theorem lentL_length (l : List UInt8) : (lentL l).length = l.length + 4 := by simp [lentL]
theorem made_list {w : World} {b g n : Nat} (h : w.ownsRow b 5 1 (.slice (some ⟨g, 0, none⟩) n n) n (madeCells #[Value.int .u8 0] n).toList) :
    w.heap[g]? = some (.cells (List.replicate n (Value.int .u8 0)).toArray 5 (0, 0)) := by
  rcases h.2 with ⟨h0, _⟩ | ⟨g', cap, cur, h0, _, hgg, hle, hmx, hs, ht⟩
  · cases h0
  · simp only [Value.slice.injEq, Option.some.injEq, Addr.mk.injEq, and_true, true_and] at h0
    obtain ⟨rfl, rfl⟩ := h0
    rw [hgg]
    have e1 : cur.toList.take (n * 1) = cur.toList := by rw [List.take_of_length_le]; simp; omega
    rw [e1] at ht
    have e2 : cur = (List.replicate n (Value.int .u8 0)).toArray := by
      apply Array.toList_inj.1
      rw [ht]
      simp only [madeCells]
      rw [List.eq_replicate_iff]
      refine ⟨by simp, fun x hx => ?_⟩
      simp at hx
      obtain ⟨a, _, rfl⟩ := hx
      simp [Nat.mod_one]
    rw [e2]
def lentK (l : List UInt8) (k : Nat) : List Value := (l.map B ++ List.replicate k (.int .u8 77)) ++ (l.map B ++ List.replicate 4 (Value.int .u8 0)).drop (l.length + k)
theorem lentK_zero (l : List UInt8) : lentK l 0 = l.map B ++ (List.replicate (l.length + 4) (Value.int .u8 0)).drop l.length := by
  unfold lentK
  rw [List.drop_append]
  simp
theorem lentK_four (l : List UInt8) : lentK l 4 = lentL l := by
  unfold lentK lentL
  rw [List.drop_of_length_le (by simp)]
  simp
theorem lentK_succ (l : List UInt8) {k : Nat} (h : k < 4) : (lentK l k).set (l.length + k) (.int .u8 77) = lentK l (k + 1) := by
  unfold lentK
  rw [set_next _ (by simp) (by simp; omega)]
  simp only [List.append_assoc, List.replicate_succ', Nat.add_assoc]
theorem lentK_length (l : List UInt8) {k : Nat} (h : k ≤ 4) : (lentK l k).length = l.length + 4 := by
  unfold lentK
  simp; omega
def wholeK (l : List UInt8) (k : Nat) : List Value := List.replicate k (.int .u8 200) ++ (lentL l).drop k
theorem wholeK_succ (l : List UInt8) {k : Nat} (h : k < l.length + 4) : (wholeK l k).set k (.int .u8 200) = wholeK l (k + 1) := by
  unfold wholeK
  rw [set_next _ (by simp) (by rw [lentL_length]; exact h), List.replicate_succ']
theorem wholeK_length (l : List UInt8) {k : Nat} (h : k ≤ l.length + 4) : (wholeK l k).length = l.length + 4 := by
  unfold wholeK
  simp [lentL_length]; omega
theorem wholeK_get (l : List UInt8) {k : Nat} (h : k < l.length + 4) (hl : l.length ≤ k) : (wholeK l k)[k]? = some (.int .u8 77) := by
  unfold wholeK
  rw [List.getElem?_append_right (by simp)]
  simp only [List.length_replicate, Nat.sub_self, List.getElem?_drop, Nat.add_zero]
  unfold lentL
  rw [List.getElem?_append_right (by simpa using hl), List.getElem?_replicate, if_pos (by rw [List.length_map]; omega)]
theorem lent_bytes {w : World} {g : Nat} {l : List UInt8} (h : w.heap[g]? = some (.cells (lentL l).toArray 5 (0, 0))) {c : Nat} (hc : l.length ≤ c) : BytesIn w (.slice (some ⟨g, 0, none⟩) l.length c) l := by
  refine Or.inr ⟨g, 0, c, rfl, lt_of_block h, hc, fun i hi => ?_⟩
  rw [Nat.zero_add, row_cell h]
  unfold lentL
  rw [List.getElem?_append_left (by simpa using hi)]
  simp [List.getD, hi]
end Go.Proofs.YtiphkngfbpdeoaaGreatDoor
namespace Go.Proofs.YtiphkngfbpdeoaaGreatDoor
open Go.RowKit
theorem kept_block {w1 w2 : World} {base e size n b t : Nat} {v : Value} {xs : List Value} {cs : Array Value} {fr : Nat × Nat} (hown : w1.ownsRow base e size v n xs) (hg : w1.grownBy w2 v.ownBlock) (hb : w1.heap[b]? = some (.cells cs t fr)) (hne : e ≠ t) : w2.heap[b]? = some (.cells cs t fr) := by
  rw [hg.block b (lt_of_block hb) (fun e => owns_ne hown hb hne e.symm)]; exact hb
theorem one_alloc (w : World) (u : Value) (t : TypeId) : (w.alloc (.cells #[u] t)).cell? ⟨w.heap.size, 0, none⟩ = some u := by
  rw [cell_of_row _ _ _ _ _ _ (heap_alloc_new w _)]; rfl
theorem alloc_block {w : World} {b t : Nat} {cs : Array Value} {fr : Nat × Nat} (hb : w.heap[b]? = some (.cells cs t fr)) (o : Obj) : (w.alloc o).heap[b]? = some (.cells cs t fr) := by
  rw [Below.heap_alloc _ _ _ (lt_of_block hb)]; exact hb
def Appd (w w' : World) (v v' : Value) (n m : Nat) : Prop :=
  (∃ g cap, v = .slice (some ⟨g, 0, none⟩) n cap ∧ n + m ≤ cap ∧ v' = .slice (some ⟨g, 0, none⟩) (n + m) cap) ∨
  (v'.ownBlock = some w.heap.size ∧ (∀ g cap, v = .slice (some ⟨g, 0, none⟩) n cap → cap < n + m) ∧ Chg (fun _ => False) w w')
theorem Appd.block {w w' : World} {v v' : Value} {n m : Nat} (h : Appd w w' v v' n m) : v'.ownBlock = v.ownBlock ∨ v'.ownBlock = some w.heap.size := by
  rcases h with ⟨g, cap, rfl, _, rfl⟩ | ⟨h, _⟩
  · exact Or.inl rfl
  · exact Or.inr h
theorem Appd.room {w w' : World} {v v' : Value} {n m g cap : Nat} (h : Appd w w' v v' n m) (hv : v = .slice (some ⟨g, 0, none⟩) n cap) (hr : n + m ≤ cap) : v' = .slice (some ⟨g, 0, none⟩) (n + m) cap := by
  rcases h with ⟨g', cap', hv', _, rfl⟩ | ⟨_, h, _⟩
  · rw [hv] at hv'
    simp only [Value.slice.injEq, Option.some.injEq, Addr.mk.injEq, and_true, true_and] at hv'
    obtain ⟨rfl, rfl⟩ := hv'
    rfl
  · have := h g cap hv; omega
theorem run_app_full {P : Program} (w : World) (t ty e : TypeId) (i : TypeInfo) (z : Value) (size bytes : Nat) (ht : P.underlying t = some (.slice e)) (hi : P.info? e = some i) (hz : i.zero = some z)
    (hsize : i.size = size) (hby : i.bytes = bytes) (hzs : z.cells.size = size) (hsz : 0 < size)
    (v : Value) (n : Nat) (xs : List Value) (hown : w.ownsRow 0 e size v n xs)
    (ad : Addr) (m c : Nat) (news : List Value) (hm : 0 < m) (hl : news.length = m * size) (hcells : ∀ j u, news[j]? = some u → w.cell? (ad.add j) = some u) (h1 : ∀ u ∈ news, u.oneCell' = true)
    (h63 : n + m ≤ maxLen) (hbytes : (n + m) * bytes ≤ 140737488355328) :
    ∃ v' w', (Builtin.append_ #[t, t] ty #[v, .slice (some ad) m c]).run P w = .ok v' w' ∧ w'.ownsRow 0 e size v' (n + m) (xs ++ news) ∧ w.grownBy w' v.ownBlock ∧ Appd w w' v v' n m := by
  have hsmall : n + m ≤ 9223372036854775807 := by simp only [maxLen] at h63; omega
  obtain ⟨v', w', hr, h2, h3, _⟩ := run_append_own (P := P) w 0 t ty e i z size bytes ht hi hz hsize hby hzs hsz v n xs hown ad m c news hl hcells h1 h63 hbytes (Nat.zero_le _)
  refine ⟨v', w', hr, h2, h3, ?_⟩
  subst hsize
  subst hby
  rcases hown.2 with ⟨rfl, rfl⟩ | ⟨g, cap, cur, rfl, hbg, hg, hnc, hcm, hcs, htake⟩
  · have h := run_append_nil (P := P) w t ty e i z ht hi hz ad m c news hl hcells (by omega) (by omega) (by have hb := hbytes; simp only [Nat.zero_add] at hb; omega)
    rw [h] at hr
    simp only [Result.ok.injEq] at hr
    refine Or.inr ⟨by rw [← hr.1]; rfl, fun g cap he => (by cases he), ?_⟩
    rw [← hr.2]
    exact (Chg.refl _ _).drew.alloc _
  · by_cases hroom : n + m ≤ cap
    · have hfit : n * i.size + news.length ≤ cur.size := by rw [hl, hcs, ← Nat.add_mul]; exact Nat.mul_le_mul_right _ hroom
      have h := run_append_room (P := P) w t ty e i ht hi g n cap cur hg ad m c news hl hcells h1 hroom hfit
      rw [h] at hr
      simp only [Result.ok.injEq] at hr
      exact Or.inl ⟨g, cap, rfl, hroom, hr.1.symm⟩
    · have holds : ∀ j u, xs[j]? = some u → w.cell? ((⟨g, 0, none⟩ : Addr).add j) = some u := hown.cells (g := g) rfl
      have h := run_append_grow (P := P) w t ty e i z ht hi hz ⟨g, 0, none⟩ n cap xs hown.1 holds ad m c news hl hcells (by omega) (by omega) (growslice_fits (by omega) hbytes)
      rw [h] at hr
      simp only [Result.ok.injEq] at hr
      refine Or.inr ⟨by rw [← hr.1]; rfl, fun g' cap' he => ?_, ?_⟩
      · simp only [Value.slice.injEq, Option.some.injEq, Addr.mk.injEq, and_true, true_and] at he
        omega
      · rw [← hr.2]
        exact (Chg.refl _ _).drew.alloc _
theorem wpList_app_full {P : Program} (w : World) {ops : Array Oper} {rest : List Oper} {o : Oper} {a : Act} {Q : Exit → Act → World → Prop} (hgd : o.guard = none) (s y : Operand) (t : TypeId)
    (ho : o.op = .call { callee := .builtin .append, args := #[s, y], argTypes := #[t, t] })
    (e : TypeId) (i : TypeInfo) (z : Value) (size bytes : Nat) (ht : P.underlying t = some (.slice e)) (hi : P.info? e = some i) (hz : i.zero = some z)
    (hsize : i.size = size) (hby : i.bytes = bytes) (hzs : z.cells.size = size) (hsz : 0 < size)
    (v : Value) (n : Nat) (xs : List Value) (hs : a.eval s = v) (hown : w.ownsRow 0 e size v n xs)
    (ad : Addr) (m c : Nat) (news : List Value) (hx : a.eval y = .slice (some ad) m c) (hm : 0 < m) (hl : news.length = m * size) (hcells : ∀ j u, news[j]? = some u → w.cell? (ad.add j) = some u) (h1 : ∀ u ∈ news, u.oneCell' = true)
    (h63 : n + m ≤ maxLen) (hbytes : (n + m) * bytes ≤ 140737488355328)
    (h : ∀ v' w', w'.ownsRow 0 e size v' (n + m) (xs ++ news) → w.grownBy w' v.ownBlock → Appd w w' v v' n m → wpList P ops Q rest (a.put o.dst v') w') : wpList P ops Q (o :: rest) a w := by
  refine wpList_plain hgd fun K hK => ?_
  obtain ⟨v', w', hr, h2, h3, h4⟩ := run_app_full (P := P) w t o.type e i z size bytes ht hi hz hsize hby hzs hsz v n xs hown ad m c news hm hl hcells h1 h63 hbytes
  unfold Oper.wp execOp
  simp only [ho, resolve, invoke, builtin, Sem.run_bind, Sem.run_pure, Result.andThen_ok, List.map_toArray, List.map_cons, List.map_nil, hs, hx, hr]
  exact hK _ _ (h v' w' h2 h3 h4)
theorem step_app_full {P : Program} {ops : Array Oper} {o : Oper} {a : Act} {w : World} {K : Act → World → Prop} {Q : Exit → Act → World → Prop} {E : Prop} (hgd : o.guard = none) (s y : Operand) (t : TypeId)
    (ho : o.op = .call { callee := .builtin .append, args := #[s, y], argTypes := #[t, t] })
    (e : TypeId) (i : TypeInfo) (z : Value) (size bytes : Nat) (ht : P.underlying t = some (.slice e)) (hi : P.info? e = some i) (hz : i.zero = some z)
    (hsize : i.size = size) (hby : i.bytes = bytes) (hzs : z.cells.size = size) (hsz : 0 < size)
    (v : Value) (n : Nat) (xs : List Value) (hs : a.eval s = v) (hown : w.ownsRow 0 e size v n xs)
    (ad : Addr) (m c : Nat) (news : List Value) (hx : a.eval y = .slice (some ad) m c) (hm : 0 < m) (hl : news.length = m * size) (hcells : ∀ j u, news[j]? = some u → w.cell? (ad.add j) = some u) (h1 : ∀ u ∈ news, u.oneCell' = true)
    (h63 : n + m ≤ maxLen) (hbytes : (n + m) * bytes ≤ 140737488355328)
    (hK : ∀ v' w', w'.ownsRow 0 e size v' (n + m) (xs ++ news) → w.grownBy w' v.ownBlock → Appd w w' v v' n m → K (a.put o.dst v') w') :
    if Region.wanted o (yielded ops a.tmps) = true then Oper.wp P o a w K Q else E := by
  have hw : Region.wanted o (yielded ops a.tmps) = true := by simp [Region.wanted, hgd]
  rw [if_pos hw]
  obtain ⟨v', w', hr, h2, h3, h4⟩ := run_app_full (P := P) w t o.type e i z size bytes ht hi hz hsize hby hzs hsz v n xs hown ad m c news hm hl hcells h1 h63 hbytes
  unfold Oper.wp
  simp [execOp, ho, resolve, invoke, builtin, hs, hx, hr, Result.andThen]
  exact hK v' w' h2 h3 h4
theorem owns_pre {w : World} {base e size g n cap k : Nat} {xs : List Value} (h : w.ownsRow base e size (.slice (some ⟨g, 0, none⟩) n cap) n xs) (hk : k ≤ n) : w.ownsRow base e size (.slice (some ⟨g, 0, none⟩) k cap) k (xs.take (k * size)) := by
  have hks : k * size ≤ n * size := Nat.mul_le_mul_right _ hk
  refine ⟨by rw [List.length_take, h.1]; omega, ?_⟩
  rcases h.2 with ⟨h0, _⟩ | ⟨g', cap', cur, h0, hb, hgg, hle, hmx, hs, ht⟩
  · cases h0
  · simp only [Value.slice.injEq, Option.some.injEq, Addr.mk.injEq, and_true, true_and] at h0
    obtain ⟨rfl, rfl⟩ := h0
    refine Or.inr ⟨g, cap, cur, rfl, hb, hgg, by omega, hmx, hs, ?_⟩
    rw [← ht, List.take_take]
    congr 1
    omega
theorem app_pre {w w' : World} {e size n m k : Nat} {v v' v0 : Value} {xs news ys : List Value} (hown' : w'.ownsRow 0 e size v' (n + m) (xs ++ news)) (happ : Appd w w' v v' n m) (h0 : w.ownsRow 0 e size v0 k ys)
    (hpre : ∀ g cap, v = .slice (some ⟨g, 0, none⟩) n cap → n + m ≤ cap → v0 = .slice (some ⟨g, 0, none⟩) k cap ∧ k ≤ n + m ∧ ys = (xs ++ news).take (k * size)) : w'.ownsRow 0 e size v0 k ys := by
  rcases happ with ⟨g, cap, hv, hr, rfl⟩ | ⟨_, _, hc⟩
  · obtain ⟨rfl, hk, rfl⟩ := hpre g cap hv hr
    exact owns_pre hown' hk
  · exact owns_chg h0 hc (fun _ _ => id)
theorem lies_row {w : World} {xs : List Value} {t : TypeId} : ∀ j u, xs[j]? = some u → (w.alloc (.cells xs.toArray t)).cell? ((⟨w.heap.size, 0, none⟩ : Addr).add j) = some u := by
  intro j u hu
  have hh := heap_alloc_new w (.cells xs.toArray t)
  have e : (⟨w.heap.size, 0, none⟩ : Addr).add j = ⟨w.heap.size, j, none⟩ := by unfold Addr.add; split <;> simp_all
  rw [e, row_cell hh]
  exact hu
theorem owns_set {w : World} {base g n cap : Nat} {l : List UInt8} (h : w.ownsRow base 5 1 (.slice (some ⟨g, 0, none⟩) n cap) n (l.map B)) (j : Nat) (c : UInt8) :
    (w.setCell ⟨g, j, none⟩ (B c)).ownsRow base 5 1 (.slice (some ⟨g, 0, none⟩) n cap) n ((l.set j c).map B) := by
  have := h.stored j (B c)
  rw [List.map_set]
  exact this.1
theorem owns_cell {w : World} {base g n cap : Nat} {l : List UInt8} (h : w.ownsRow base 5 1 (.slice (some ⟨g, 0, none⟩) n cap) n (l.map B)) {j : Nat} (hj : j < n) : w.cell? ⟨g, j, none⟩ = some (.int .u8 (l.getD j 0).toNat) := by
  have hl : l.length = n := by have := h.1; simpa using this
  rw [h.cellAt j (by omega)]
  simp [List.getD, hl, hj]
theorem owns_free {w : World} {base e size g n cap : Nat} {xs : List Value} (h : w.ownsRow base e size (.slice (some ⟨g, 0, none⟩) n cap) n xs) (j : Nat) : w.frozen? ⟨g, j, none⟩ = false := by
  rcases h.2 with ⟨h0, _⟩ | ⟨g', cap', cur, h0, hb, hgg, _⟩
  · cases h0
  · simp only [Value.slice.injEq, Option.some.injEq, Addr.mk.injEq, and_true] at h0
    obtain ⟨rfl, _⟩ := h0
    simp [World.frozen?, hgg]
end Go.Proofs.YtiphkngfbpdeoaaGreatDoor
namespace Go.Proofs.YtiphkngfbpdeoaaGreatDoor
open Go.RowKit
theorem owns_row {w : World} {b g : Nat} {xs : List Value} (h : w.heap[g]? = some (.cells xs.toArray 5 (0, 0))) (hm : xs.length ≤ maxLen) (hb : b ≤ g) : w.ownsRow b 5 1 (.slice (some ⟨g, 0, none⟩) xs.length xs.length) xs.length xs :=
  ⟨by simp, Or.inr ⟨g, xs.length, _, rfl, hb, h, Nat.le_refl _, hm, by simp, by simp⟩⟩
theorem BytesA.cell {w : World} {sa : Option Addr} {n cap : Nat} {l : List UInt8} (h : BytesA w (.slice sa n cap) l) {i : Nat} (hi : i < l.length) :
    ∃ bb off, sa = some ⟨bb, off, none⟩ ∧ bb < w.heap.size ∧ n ≤ cap ∧ w.cell? ⟨bb, off + i, none⟩ = some (.int .u8 (l.getD i 0).toNat) := by
  rcases h with (⟨h0, rfl⟩ | ⟨bb, off, cap', he, h1, h2, h3⟩) | ⟨ad, he, rfl⟩
  · simp at hi
  · simp only [Value.slice.injEq] at he
    obtain ⟨rfl, rfl, rfl⟩ := he
    exact ⟨bb, off, rfl, h1, h2, h3 i hi⟩
  · simp at hi
theorem app_keep {w w1 w2 : World} {base e size n n' : Nat} {v v' : Value} {xs ys : List Value} (hbel : Below base w w1) (hsz : base ≤ w1.heap.size) (hown : w1.ownsRow base e size v n xs) (hown2 : w2.ownsRow 0 e size v' n' ys) (hg : w1.grownBy w2 v.ownBlock)
    (hfr : v'.ownBlock = v.ownBlock ∨ v'.ownBlock = some w1.heap.size) : w2.ownsRow base e size v' n' ys ∧ Below base w w2 :=
  ⟨owns_base hown2 (fun j hj => by
    rcases hfr with e | e
    · rw [e] at hj; exact (hown.lt j hj).1
    · rw [e] at hj; simp at hj; omega), hbel.grown hg hsz (fun j hj => (hown.lt j hj).1)⟩
theorem kept_told' {w w' : World} {b : Nat} {cs : Array Value} {t : TypeId} {fr : Nat × Nat} (h : w.heap[b]? = some (.cells cs t fr)) (hb : Below w.heap.size w w') : w'.heap[b]? = some (.cells cs t fr) := by
  rw [hb.block b (lt_of_block h)]; exact h
theorem kept_told {w w' : World} {b : Nat} {cs : Array Value} {t : TypeId} {fr : Nat × Nat} (h : w.heap[b]? = some (.cells cs t fr)) (hb : Below w.heap.size w w') : w'.heap[b]? = some (.cells cs t fr) := by
  rw [hb.block b (lt_of_block h)]; exact h
end Go.Proofs.YtiphkngfbpdeoaaGreatDoor
namespace Go.Proofs.YtiphkngfbpdeoaaGreatDoor
set_option linter.unusedVariables false
set_option linter.unusedSimpArgs false
open Go.RowKit
theorem chg_set {S : Nat → Prop} {w w' : World} {b i : Nat} {v : Value} (h : Chg S w w') (hs : S b) : Chg S w (w'.setCell ⟨b, i, none⟩ v) := h.setCell (p := ⟨b, i, none⟩) (Or.inr hs) v
theorem chg_drewN {S : Nat → Prop} {w : World} {n : Nat} : Chg S w (w.drewN n) := Chg.of_below (bel_drewN (Below.refl _ _))
theorem blk_set {w : World} {b i : Nat} {cs : Array Value} {t : TypeId} {f : Nat × Nat} {v : Value} (h : w.heap[b]? = some (.cells cs t f)) : (w.setCell ⟨b, i, none⟩ v).heap[b]? = some (.cells (cs.setIfInBounds i v) t f) := block_setCell h
structure EndM where
  first : Bool
  fault : Int
  clock : Int
  batch : Int
  send : Int
  receive : Int
  owed : Int
  wanted : Int
  told : Bool
  made : Int
  waits : Bool
  own : Int
  other : Int
  target : Int
  most : Int
  bestB : Int
  bestT : Int
  pnum : Nat
  under : Bool
  pinged : Bool
  start : Int
  count : Int
  known : Value
  opn : Value
  greeted : Int
  got : Value
  hlen : Int
  hkind : Int
  hflags : Int
  hstream : Int
  begun : Bool
  bstream : Int
  bbytes : Value
  blast : Bool
  newest : Int
  ulim : Int
  usz : Int
  utab : Value
  umost : Int
  greets : Bool
  parted : Bool
  out : Value
  answers : Value
  resets : Value
  next : Int
  lastData : Int
  plim : Int
  psz : Int
  ptab : Value
  pwait : Value
def EndM.cells (m : EndM) : Array Value := #[.bool m.first, .int .i64 m.fault, .int .i64 m.clock, .int .i64 m.batch, .int .i64 m.send, .int .i64 m.receive, .int .i64 m.owed,
  .int .i64 m.wanted, .bool m.told, .int .i64 m.made, .bool m.waits, .int .i64 m.own, .int .i64 m.other, .int .i64 m.target, .int .i64 m.most, .int .i64 m.bestB, .int .i64 m.bestT, .int .u32 m.pnum, .bool m.under, .bool m.pinged, .int .i64 m.start, .int .i64 m.count,
  m.known, m.opn, .int .i64 m.greeted, m.got, .int .i64 m.hlen, .int .i64 m.hkind, .int .i64 m.hflags, .int .i64 m.hstream, .bool m.begun, .int .i64 m.bstream, m.bbytes, .bool m.blast, .int .i64 m.newest, .int .i64 m.ulim, .int .i64 m.usz, m.utab, .int .i64 m.umost,
  .bool m.greets, .bool m.parted, m.out, m.answers, m.resets, .int .i64 m.next, .int .i64 m.lastData, .int .i64 m.plim, .int .i64 m.psz, m.ptab, m.pwait]
structure EnB (w : World) (eb : Nat) (m : EndM) : Prop where
  blk : w.heap[eb]? = some (.cells m.cells 98 (0, 0))
theorem EnB.cell {w : World} {eb : Nat} {m : EndM} (h : EnB w eb m) {i : Nat} {v : Value} (hi : m.cells[i]? = some v) : w.cell? ⟨eb, i, none⟩ = some v := by
  rw [cell_of_row w eb _ _ _ _ h.blk]; exact hi
theorem EnB.fr {w : World} {eb : Nat} {m : EndM} (h : EnB w eb m) (o : Nat) : w.frozen? ⟨eb, o, none⟩ = false := by simp [World.frozen?, h.blk]
theorem EnB.set {w : World} {eb : Nat} {m m' : EndM} (h : EnB w eb m) {i : Nat} {v : Value} (hm : m.cells.setIfInBounds i v = m'.cells) : EnB (w.setCell ⟨eb, i, none⟩ v) eb m' := ⟨by rw [block_setCell h.blk, hm]⟩
theorem EnB.of {w : World} {eb : Nat} {m : EndM} {cs : Array Value} (h : w.heap[eb]? = some (.cells cs 98 (0, 0))) (hc : cs = m.cells) : EnB w eb m := ⟨by rw [h, hc]⟩
theorem EnB.lt {w : World} {eb : Nat} {m : EndM} (h : EnB w eb m) : eb < w.heap.size := lt_of_block h.blk
theorem EnB.below {w w' : World} {eb : Nat} {m : EndM} (h : EnB w eb m) (hb : Below w.heap.size w w') : EnB w' eb m := ⟨kept_told h.blk hb⟩
theorem EnB.chg {S : Nat → Prop} {w w' : World} {eb : Nat} {m : EndM} (h : EnB w eb m) (hc : Chg S w w') (hs : ¬ S eb) : EnB w' eb m := ⟨by rw [hc.block eb h.lt hs]; exact h.blk⟩
theorem EnB.c0 {w : World} {eb : Nat} {m : EndM} (h : EnB w eb m) : w.cell? ⟨eb, 0, none⟩ = some (.bool m.first) := h.cell rfl
theorem EnB.c1 {w : World} {eb : Nat} {m : EndM} (h : EnB w eb m) : w.cell? ⟨eb, 1, none⟩ = some (.int .i64 m.fault) := h.cell rfl
theorem EnB.c2 {w : World} {eb : Nat} {m : EndM} (h : EnB w eb m) : w.cell? ⟨eb, 2, none⟩ = some (.int .i64 m.clock) := h.cell rfl
theorem EnB.c3 {w : World} {eb : Nat} {m : EndM} (h : EnB w eb m) : w.cell? ⟨eb, 3, none⟩ = some (.int .i64 m.batch) := h.cell rfl
theorem EnB.c4 {w : World} {eb : Nat} {m : EndM} (h : EnB w eb m) : w.cell? ⟨eb, 4, none⟩ = some (.int .i64 m.send) := h.cell rfl
theorem EnB.c5 {w : World} {eb : Nat} {m : EndM} (h : EnB w eb m) : w.cell? ⟨eb, 5, none⟩ = some (.int .i64 m.receive) := h.cell rfl
theorem EnB.c6 {w : World} {eb : Nat} {m : EndM} (h : EnB w eb m) : w.cell? ⟨eb, 6, none⟩ = some (.int .i64 m.owed) := h.cell rfl
theorem EnB.c7 {w : World} {eb : Nat} {m : EndM} (h : EnB w eb m) : w.cell? ⟨eb, 7, none⟩ = some (.int .i64 m.wanted) := h.cell rfl
theorem EnB.c8 {w : World} {eb : Nat} {m : EndM} (h : EnB w eb m) : w.cell? ⟨eb, 8, none⟩ = some (.bool m.told) := h.cell rfl
theorem EnB.c9 {w : World} {eb : Nat} {m : EndM} (h : EnB w eb m) : w.cell? ⟨eb, 9, none⟩ = some (.int .i64 m.made) := h.cell rfl
theorem EnB.c10 {w : World} {eb : Nat} {m : EndM} (h : EnB w eb m) : w.cell? ⟨eb, 10, none⟩ = some (.bool m.waits) := h.cell rfl
theorem EnB.c11 {w : World} {eb : Nat} {m : EndM} (h : EnB w eb m) : w.cell? ⟨eb, 11, none⟩ = some (.int .i64 m.own) := h.cell rfl
theorem EnB.c12 {w : World} {eb : Nat} {m : EndM} (h : EnB w eb m) : w.cell? ⟨eb, 12, none⟩ = some (.int .i64 m.other) := h.cell rfl
theorem EnB.c13 {w : World} {eb : Nat} {m : EndM} (h : EnB w eb m) : w.cell? ⟨eb, 13, none⟩ = some (.int .i64 m.target) := h.cell rfl
theorem EnB.c14 {w : World} {eb : Nat} {m : EndM} (h : EnB w eb m) : w.cell? ⟨eb, 14, none⟩ = some (.int .i64 m.most) := h.cell rfl
theorem EnB.c15 {w : World} {eb : Nat} {m : EndM} (h : EnB w eb m) : w.cell? ⟨eb, 15, none⟩ = some (.int .i64 m.bestB) := h.cell rfl
theorem EnB.c16 {w : World} {eb : Nat} {m : EndM} (h : EnB w eb m) : w.cell? ⟨eb, 16, none⟩ = some (.int .i64 m.bestT) := h.cell rfl
theorem EnB.c17 {w : World} {eb : Nat} {m : EndM} (h : EnB w eb m) : w.cell? ⟨eb, 17, none⟩ = some (.int .u32 m.pnum) := h.cell rfl
theorem EnB.c18 {w : World} {eb : Nat} {m : EndM} (h : EnB w eb m) : w.cell? ⟨eb, 18, none⟩ = some (.bool m.under) := h.cell rfl
theorem EnB.c19 {w : World} {eb : Nat} {m : EndM} (h : EnB w eb m) : w.cell? ⟨eb, 19, none⟩ = some (.bool m.pinged) := h.cell rfl
theorem EnB.c20 {w : World} {eb : Nat} {m : EndM} (h : EnB w eb m) : w.cell? ⟨eb, 20, none⟩ = some (.int .i64 m.start) := h.cell rfl
theorem EnB.c21 {w : World} {eb : Nat} {m : EndM} (h : EnB w eb m) : w.cell? ⟨eb, 21, none⟩ = some (.int .i64 m.count) := h.cell rfl
theorem EnB.c22 {w : World} {eb : Nat} {m : EndM} (h : EnB w eb m) : w.cell? ⟨eb, 22, none⟩ = some (m.known) := h.cell rfl
theorem EnB.c23 {w : World} {eb : Nat} {m : EndM} (h : EnB w eb m) : w.cell? ⟨eb, 23, none⟩ = some (m.opn) := h.cell rfl
theorem EnB.c24 {w : World} {eb : Nat} {m : EndM} (h : EnB w eb m) : w.cell? ⟨eb, 24, none⟩ = some (.int .i64 m.greeted) := h.cell rfl
theorem EnB.c25 {w : World} {eb : Nat} {m : EndM} (h : EnB w eb m) : w.cell? ⟨eb, 25, none⟩ = some (m.got) := h.cell rfl
theorem EnB.c26 {w : World} {eb : Nat} {m : EndM} (h : EnB w eb m) : w.cell? ⟨eb, 26, none⟩ = some (.int .i64 m.hlen) := h.cell rfl
theorem EnB.c27 {w : World} {eb : Nat} {m : EndM} (h : EnB w eb m) : w.cell? ⟨eb, 27, none⟩ = some (.int .i64 m.hkind) := h.cell rfl
theorem EnB.c28 {w : World} {eb : Nat} {m : EndM} (h : EnB w eb m) : w.cell? ⟨eb, 28, none⟩ = some (.int .i64 m.hflags) := h.cell rfl
theorem EnB.c29 {w : World} {eb : Nat} {m : EndM} (h : EnB w eb m) : w.cell? ⟨eb, 29, none⟩ = some (.int .i64 m.hstream) := h.cell rfl
theorem EnB.c30 {w : World} {eb : Nat} {m : EndM} (h : EnB w eb m) : w.cell? ⟨eb, 30, none⟩ = some (.bool m.begun) := h.cell rfl
theorem EnB.c31 {w : World} {eb : Nat} {m : EndM} (h : EnB w eb m) : w.cell? ⟨eb, 31, none⟩ = some (.int .i64 m.bstream) := h.cell rfl
theorem EnB.c32 {w : World} {eb : Nat} {m : EndM} (h : EnB w eb m) : w.cell? ⟨eb, 32, none⟩ = some (m.bbytes) := h.cell rfl
theorem EnB.c33 {w : World} {eb : Nat} {m : EndM} (h : EnB w eb m) : w.cell? ⟨eb, 33, none⟩ = some (.bool m.blast) := h.cell rfl
theorem EnB.c34 {w : World} {eb : Nat} {m : EndM} (h : EnB w eb m) : w.cell? ⟨eb, 34, none⟩ = some (.int .i64 m.newest) := h.cell rfl
theorem EnB.c35 {w : World} {eb : Nat} {m : EndM} (h : EnB w eb m) : w.cell? ⟨eb, 35, none⟩ = some (.int .i64 m.ulim) := h.cell rfl
theorem EnB.c36 {w : World} {eb : Nat} {m : EndM} (h : EnB w eb m) : w.cell? ⟨eb, 36, none⟩ = some (.int .i64 m.usz) := h.cell rfl
theorem EnB.c37 {w : World} {eb : Nat} {m : EndM} (h : EnB w eb m) : w.cell? ⟨eb, 37, none⟩ = some (m.utab) := h.cell rfl
theorem EnB.c38 {w : World} {eb : Nat} {m : EndM} (h : EnB w eb m) : w.cell? ⟨eb, 38, none⟩ = some (.int .i64 m.umost) := h.cell rfl
theorem EnB.c39 {w : World} {eb : Nat} {m : EndM} (h : EnB w eb m) : w.cell? ⟨eb, 39, none⟩ = some (.bool m.greets) := h.cell rfl
theorem EnB.c40 {w : World} {eb : Nat} {m : EndM} (h : EnB w eb m) : w.cell? ⟨eb, 40, none⟩ = some (.bool m.parted) := h.cell rfl
theorem EnB.c41 {w : World} {eb : Nat} {m : EndM} (h : EnB w eb m) : w.cell? ⟨eb, 41, none⟩ = some (m.out) := h.cell rfl
theorem EnB.c42 {w : World} {eb : Nat} {m : EndM} (h : EnB w eb m) : w.cell? ⟨eb, 42, none⟩ = some (m.answers) := h.cell rfl
theorem EnB.c43 {w : World} {eb : Nat} {m : EndM} (h : EnB w eb m) : w.cell? ⟨eb, 43, none⟩ = some (m.resets) := h.cell rfl
theorem EnB.c44 {w : World} {eb : Nat} {m : EndM} (h : EnB w eb m) : w.cell? ⟨eb, 44, none⟩ = some (.int .i64 m.next) := h.cell rfl
theorem EnB.c45 {w : World} {eb : Nat} {m : EndM} (h : EnB w eb m) : w.cell? ⟨eb, 45, none⟩ = some (.int .i64 m.lastData) := h.cell rfl
theorem EnB.c46 {w : World} {eb : Nat} {m : EndM} (h : EnB w eb m) : w.cell? ⟨eb, 46, none⟩ = some (.int .i64 m.plim) := h.cell rfl
theorem EnB.c47 {w : World} {eb : Nat} {m : EndM} (h : EnB w eb m) : w.cell? ⟨eb, 47, none⟩ = some (.int .i64 m.psz) := h.cell rfl
theorem EnB.c48 {w : World} {eb : Nat} {m : EndM} (h : EnB w eb m) : w.cell? ⟨eb, 48, none⟩ = some (m.ptab) := h.cell rfl
theorem EnB.c49 {w : World} {eb : Nat} {m : EndM} (h : EnB w eb m) : w.cell? ⟨eb, 49, none⟩ = some (m.pwait) := h.cell rfl
structure StM where
  send : Int
  receive : Int
  owed : Int
  number : Int
  heads : Value
  last : Bool
  shut : Bool
  announced : Bool
  sentAll : Bool
  hasAll : Bool
  reset : Int
  unread : Value
  waiting : Value
def StM.cells (s : StM) : Array Value := #[.int .i64 s.send, .int .i64 s.receive, .int .i64 s.owed, .int .i64 s.number, s.heads, .bool s.last, .bool s.shut, .bool s.announced, .bool s.sentAll, .bool s.hasAll, .int .i64 s.reset, s.unread, s.waiting]
structure StB (w : World) (sb : Nat) (s : StM) : Prop where
  blk : w.heap[sb]? = some (.cells s.cells 121 (0, 0))
theorem StB.cell {w : World} {eb : Nat} {m : StM} (h : StB w eb m) {i : Nat} {v : Value} (hi : m.cells[i]? = some v) : w.cell? ⟨eb, i, none⟩ = some v := by
  rw [cell_of_row w eb _ _ _ _ h.blk]; exact hi
theorem StB.fr {w : World} {eb : Nat} {m : StM} (h : StB w eb m) (o : Nat) : w.frozen? ⟨eb, o, none⟩ = false := by simp [World.frozen?, h.blk]
theorem StB.set {w : World} {eb : Nat} {m m' : StM} (h : StB w eb m) {i : Nat} {v : Value} (hm : m.cells.setIfInBounds i v = m'.cells) : StB (w.setCell ⟨eb, i, none⟩ v) eb m' := ⟨by rw [block_setCell h.blk, hm]⟩
theorem StB.of {w : World} {eb : Nat} {m : StM} {cs : Array Value} (h : w.heap[eb]? = some (.cells cs 121 (0, 0))) (hc : cs = m.cells) : StB w eb m := ⟨by rw [h, hc]⟩
theorem StB.lt {w : World} {eb : Nat} {m : StM} (h : StB w eb m) : eb < w.heap.size := lt_of_block h.blk
theorem StB.below {w w' : World} {eb : Nat} {m : StM} (h : StB w eb m) (hb : Below w.heap.size w w') : StB w' eb m := ⟨kept_told h.blk hb⟩
theorem StB.chg {S : Nat → Prop} {w w' : World} {eb : Nat} {m : StM} (h : StB w eb m) (hc : Chg S w w') (hs : ¬ S eb) : StB w' eb m := ⟨by rw [hc.block eb h.lt hs]; exact h.blk⟩
theorem StB.c0 {w : World} {eb : Nat} {m : StM} (h : StB w eb m) : w.cell? ⟨eb, 0, none⟩ = some (.int .i64 m.send) := h.cell rfl
theorem StB.c1 {w : World} {eb : Nat} {m : StM} (h : StB w eb m) : w.cell? ⟨eb, 1, none⟩ = some (.int .i64 m.receive) := h.cell rfl
theorem StB.c2 {w : World} {eb : Nat} {m : StM} (h : StB w eb m) : w.cell? ⟨eb, 2, none⟩ = some (.int .i64 m.owed) := h.cell rfl
theorem StB.c3 {w : World} {eb : Nat} {m : StM} (h : StB w eb m) : w.cell? ⟨eb, 3, none⟩ = some (.int .i64 m.number) := h.cell rfl
theorem StB.c4 {w : World} {eb : Nat} {m : StM} (h : StB w eb m) : w.cell? ⟨eb, 4, none⟩ = some (m.heads) := h.cell rfl
theorem StB.c5 {w : World} {eb : Nat} {m : StM} (h : StB w eb m) : w.cell? ⟨eb, 5, none⟩ = some (.bool m.last) := h.cell rfl
theorem StB.c6 {w : World} {eb : Nat} {m : StM} (h : StB w eb m) : w.cell? ⟨eb, 6, none⟩ = some (.bool m.shut) := h.cell rfl
theorem StB.c7 {w : World} {eb : Nat} {m : StM} (h : StB w eb m) : w.cell? ⟨eb, 7, none⟩ = some (.bool m.announced) := h.cell rfl
theorem StB.c8 {w : World} {eb : Nat} {m : StM} (h : StB w eb m) : w.cell? ⟨eb, 8, none⟩ = some (.bool m.sentAll) := h.cell rfl
theorem StB.c9 {w : World} {eb : Nat} {m : StM} (h : StB w eb m) : w.cell? ⟨eb, 9, none⟩ = some (.bool m.hasAll) := h.cell rfl
theorem StB.c10 {w : World} {eb : Nat} {m : StM} (h : StB w eb m) : w.cell? ⟨eb, 10, none⟩ = some (.int .i64 m.reset) := h.cell rfl
theorem StB.c11 {w : World} {eb : Nat} {m : StM} (h : StB w eb m) : w.cell? ⟨eb, 11, none⟩ = some (m.unread) := h.cell rfl
theorem StB.c12 {w : World} {eb : Nat} {m : StM} (h : StB w eb m) : w.cell? ⟨eb, 12, none⟩ = some (m.waiting) := h.cell rfl
def StM.closed (s : StM) : Bool := !(s.reset == 0) || (s.sentAll && s.hasAll)
set_option maxHeartbeats 400000 in
theorem isDead_any (eb : Nat) (m : EndM) (w : World) (h : EnB w eb m) : Calls Tryz.prog 46 #[.pointer (some ⟨eb, 0, none⟩)] w fun e w' => e = .returned (.bool (!(m.fault == 0))) ∧ w' = w := by
  have c1 := h.c1
  clear h
  go_enter Tryz.func46, Tryz.ntmps46
  go_wp2
  go_ret
  exact ⟨rfl, rfl⟩
set_option maxHeartbeats 400000 in
theorem isReset_any (sb : Nat) (s : StM) (w : World) (h : StB w sb s) : Calls Tryz.prog 48 #[.pointer (some ⟨sb, 0, none⟩)] w fun e w' => e = .returned (.bool (!(s.reset == 0))) ∧ w' = w := by
  have c10 := h.c10
  clear h
  go_enter Tryz.func48, Tryz.ntmps48
  go_wp2
  go_ret
  exact ⟨rfl, rfl⟩
set_option maxHeartbeats 400000 in
theorem isClosed_any (sb : Nat) (s : StM) (w : World) (h : StB w sb s) : Calls Tryz.prog 63 #[.pointer (some ⟨sb, 0, none⟩)] w fun e w' => e = .returned (.bool s.closed) ∧ w' = w := by
  have c8 := h.c8
  have c9 := h.c9
  have HR := hide (isReset_any sb s w h)
  clear h
  unfold StM.closed
  go_enter Tryz.func63, Tryz.ntmps63
  go_wp2_with fail
  refine HR.out.mono ?_
  rintro e w' ⟨rfl, hw'⟩
  rw [hw']
  clear hw' w'
  cases hr : (s.reset == 0) <;> cases hs : s.sentAll
  all_goals (go_wp2; go_ret; exact ⟨by simp_all, rfl⟩)
set_option maxHeartbeats 400000 in
theorem opens_any (eb : Nat) (m : EndM) (n : Int) (w : World) (h : EnB w eb m) : Calls Tryz.prog 100 #[.pointer (some ⟨eb, 0, none⟩), .int .i64 n] w fun e w' => e = .returned (.bool ((n.tmod 2 == 1) == m.first)) ∧ w' = w := by
  have c0 := h.c0
  clear h
  go_enter Tryz.func100, Tryz.ntmps100
  go_wp2
  go_ret
  exact ⟨rfl, rfl⟩
set_option maxHeartbeats 800000 in
theorem sendWindow_any (eb sb : Nat) (m : EndM) (s : StM) (w : World) (h : EnB w eb m) (hs : StB w sb s) (h1 : -1152921504606846976 ≤ m.other) (h2 : m.other ≤ 1152921504606846976) (h3 : -1152921504606846976 ≤ s.send) (h4 : s.send ≤ 1152921504606846976) : Calls Tryz.prog 128 #[.pointer (some ⟨eb, 0, none⟩), .pointer (some ⟨sb, 0, none⟩)] w fun e w' => e = .returned (.int .i64 (m.other + s.send)) ∧ Below w.heap.size w w' := by
  have c12 := h.c12
  have s0 := hs.c0
  clear h hs
  go_enter Tryz.func128, Tryz.ntmps128
  go_upto_region 1 with fail
  go_quiet (fail)
  go_wp2
  go_ret
  exact ⟨rfl, bel_drewN (Below.refl _ _)⟩
set_option maxHeartbeats 800000 in
theorem receiveWindow_any (eb sb : Nat) (m : EndM) (s : StM) (w : World) (h : EnB w eb m) (hs : StB w sb s) (h1 : -1152921504606846976 ≤ m.own) (h2 : m.own ≤ 1152921504606846976) (h3 : -1152921504606846976 ≤ s.receive) (h4 : s.receive ≤ 1152921504606846976) : Calls Tryz.prog 119 #[.pointer (some ⟨eb, 0, none⟩), .pointer (some ⟨sb, 0, none⟩)] w fun e w' => e = .returned (.int .i64 (m.own + s.receive)) ∧ Below w.heap.size w w' := by
  have c11 := h.c11
  have s1 := hs.c1
  clear h hs
  go_enter Tryz.func119, Tryz.ntmps119
  go_upto_region 1 with fail
  go_quiet (fail)
  go_wp2
  go_ret
  exact ⟨rfl, bel_drewN (Below.refl _ _)⟩
end Go.Proofs.YtiphkngfbpdeoaaGreatDoor
namespace Go.Proofs.YtiphkngfbpdeoaaGreatDoor
set_option linter.unusedVariables false
set_option linter.unusedSimpArgs false
open Go.RowKit
def withinB (n least : Int) : Bool := decide (least ≤ n) && decide (n ≤ 1000)
set_option maxHeartbeats 400000 in
theorem isWithin_any (n least : Int) (w : World) : Calls Tryz.prog 52 #[.int .i64 n, .int .i64 least] w fun e w' => e = .returned (.bool (withinB n least)) ∧ w' = w := by
  unfold withinB
  by_cases h : least ≤ n
  all_goals (go_enter Tryz.func52, Tryz.ntmps52; go_wp2; go_ret; exact ⟨by first | (simp [h]; done) | (simp; omega), rfl⟩)
def dueB (owed window batch : Int) : Bool := decide (1 ≤ owed) && (decide (batch ≤ owed) || decide (window ≤ 0))
set_option maxHeartbeats 400000 in
theorem isDue_any (o v b : Int) (w : World) : Calls Tryz.prog 133 #[.int .i64 o, .int .i64 v, .int .i64 b] w fun e w' => e = .returned (.bool (dueB o v b)) ∧ w' = w := by
  unfold dueB
  by_cases h : 1 ≤ o <;> by_cases h2 : b ≤ o
  all_goals (go_enter Tryz.func133, Tryz.ntmps133; go_wp2; go_ret; exact ⟨by first | (simp [h, h2]; done) | (simp; omega), rfl⟩)
set_option maxHeartbeats 800000 in
theorem grant_any (b o : Nat) (r n : Int) (w : World) (h1 : w.cell? ⟨b, o + 1, none⟩ = some (.int .i64 r)) (h2 : w.cell? ⟨b, o + 2, none⟩ = some (.int .i64 n)) (hf : ∀ i, w.frozen? ⟨b, i, none⟩ = false) (hr1 : -1152921504606846976 ≤ r) (hr2 : r ≤ 1152921504606846976) (hn1 : -1152921504606846976 ≤ n) (hn2 : n ≤ 1152921504606846976) :
    Calls Tryz.prog 151 #[.pointer (some ⟨b, o, none⟩)] w fun e w' => e = .returned (.int .i64 n) ∧ w' = (w.setCell ⟨b, o + 1, none⟩ (.int .i64 (r + n))).setCell ⟨b, o + 2, none⟩ (.int .i64 0) := by
  have f1 := hf (o + 1)
  have f2 := hf (o + 2)
  clear hf
  go_enter Tryz.func151, Tryz.ntmps151
  go_wp2
  go_ret
  exact ⟨rfl, rfl⟩
def EndM.counted (m : EndM) (n : Int) : EndM := if m.under then { m with count := min (m.count + n) 2147483647 } else if 1 ≤ n ∧ m.target < m.most then { m with pnum := (m.pnum + 1) % 4294967296, under := true, pinged := false, start := 0, count := n } else m
set_option maxRecDepth 100000 in
set_option maxHeartbeats 1600000 in
theorem tcount_any (eb : Nat) (m : EndM) (n : Int) (w : World) (h : EnB w eb m) (hc1 : 0 ≤ m.count) (hc2 : m.count ≤ 1152921504606846976) (hn1 : 0 ≤ n) (hn2 : n ≤ 1152921504606846976) :
    Calls Tryz.prog 120 #[.pointer (some ⟨eb, 13, none⟩), .int .i64 n] w fun e w' => e = .returned (.tuple #[]) ∧ EnB w' eb (m.counted n) ∧ Chg (fun j => j = eb) w w' := by
  have c13 := h.c13
  have c14 := h.c14
  have c17 := h.c17
  have c18 := h.c18
  have c19 := h.c19
  have c20 := h.c20
  have c21 := h.c21
  have f17 := h.fr 17
  have f18 := h.fr 18
  have f19 := h.fr 19
  have f20 := h.fr 20
  have f21 := h.fr 21
  have H := hide h
  clear h
  cases hu : m.under with
  | true =>
    rw [hu] at c18
    go_enter Tryz.func120, Tryz.ntmps120
    go_wp2
    refine bodyPost_end (results_none rfl _ _ _) rfl ⟨rfl, EnB.of (blk_set H.out.blk) ?_, by ((repeat (refine chg_set ?_ ?hs; (case hs => first | rfl | assumption | exact Or.inl rfl | exact Or.inr rfl))); first | exact Chg.refl _ _ | exact chg_drewN)⟩
    rw [EndM.counted, if_pos hu]
    rfl
  | false =>
    rw [hu] at c18
    by_cases hn : 1 ≤ n <;> by_cases ht : m.target < m.most
    all_goals (go_enter Tryz.func120, Tryz.ntmps120; go_upto_region 2 with fail; go_quiet (fail); go_wp2)
    · refine bodyPost_end (results_none rfl _ _ _) rfl ⟨rfl, EnB.of (blk_set (blk_set (blk_set (blk_set (blk_set H.out.blk))))) ?_, by ((repeat (refine chg_set ?_ ?hs; (case hs => first | rfl | assumption | exact Or.inl rfl | exact Or.inr rfl))); first | exact Chg.refl _ _ | exact chg_drewN)⟩
      rw [EndM.counted, if_neg (by simp [hu]), if_pos ⟨hn, ht⟩]
      rfl
    all_goals
      refine bodyPost_end (results_none rfl _ _ _) rfl ⟨rfl, ?_, ?_⟩
      · rw [EndM.counted, if_neg (by simp [hu]), if_neg (by omega)]
        exact H.out.below (bel_drewN (Below.refl _ _))
      · exact Chg.of_below (bel_drewN (Below.refl _ _))
end Go.Proofs.YtiphkngfbpdeoaaGreatDoor
namespace Go.Proofs.YtiphkngfbpdeoaaGreatDoor
open Go.RowKit
def endOf (c : Int) : Ending := if c = 0 then .returned (.tuple #[]) else .panicked [{ v := .iface 36 (.int .i64 c), recovered := false }]
theorem hasB_bits {f : Int} (h0 : 0 ≤ f) (h1 : f < 256) {b : Int} (hb : b = 1 ∨ b = 8) : (bits BinOp.and IntKind.i64 f b != 0) = hasB f b := by
  obtain ⟨n, rfl⟩ := Int.eq_ofNat_of_zero_le h0
  have hn : n < 256 := by omega
  have key : ∀ m : Fin 256, (bits BinOp.and IntKind.i64 (m.val : Int) 1 != 0) = hasB (m.val : Int) 1 ∧ (bits BinOp.and IntKind.i64 (m.val : Int) 8 != 0) = hasB (m.val : Int) 8 := by decide +kernel
  rcases hb with rfl | rfl
  · exact (key ⟨n, hn⟩).1
  · exact (key ⟨n, hn⟩).2
set_option maxHeartbeats 400000 in
theorem has_any (k f s b : Int) (bv : Value) (w : World) (h0 : 0 ≤ f) (h1 : f < 256) (hb : b = 1 ∨ b = 8) :
    Calls Tryz.prog 83 #[.agg #[.int .i64 k, .int .i64 f, .int .i64 s, bv], .int .i64 b] w fun e w' => e = .returned (.bool (hasB f b)) ∧ Below w.heap.size w w' := by
  have hh := hasB_bits h0 h1 hb
  have HH : Hid ((bits BinOp.and IntKind.i64 f b != 0) = hasB f b) := hh
  clear hh hb
  go_enter Tryz.func83, Tryz.ntmps83
  go_wp2
  go_ret
  exact ⟨ret_bool HH.out, (Below.refl _ _).alloc (Nat.le_refl _) _⟩
set_option maxHeartbeats 400000 in
theorem streamFits_any (l k f s : Int) (w : World) :
    Calls Tryz.prog 110 #[.agg #[.int .i64 l, .int .i64 k, .int .i64 f, .int .i64 s]] w fun e w' => e = .returned (.bool (sFits k s)) ∧ Below w.heap.size w w' := by
  go_enter Tryz.func110, Tryz.ntmps110
  go_wp2
  all_goals go_ret
  all_goals refine ⟨ret_bool ?_, (Below.refl _ _).alloc (Nat.le_refl _) _⟩
  all_goals simp_all [sFits]
theorem bcell {W w1 : World} {n : Nat} (hb : Below n W w1) : (∀ b o, b < n → w1.cell? ⟨b, o, none⟩ = W.cell? ⟨b, o, none⟩) ∧ (∀ b o, b < n → w1.frozen? ⟨b, o, none⟩ = W.frozen? ⟨b, o, none⟩) :=
  ⟨fun b o h => hb.cell (p := ⟨b, o, none⟩) h, fun b o h => hb.frozen (p := ⟨b, o, none⟩) h⟩
set_option maxHeartbeats 800000 in
theorem lengthFits_any (l k f s : Int) (w : World) (h0 : 0 ≤ f) (h1 : f < 256) :
    Calls Tryz.prog 111 #[.agg #[.int .i64 l, .int .i64 k, .int .i64 f, .int .i64 s]] w fun e w' => e = .returned (.bool (lFits l k f)) ∧ Below w.heap.size w w' := by
  have hh := hasB_bits h0 h1 (b := 1) (Or.inl rfl)
  cases hf : hasB f 1
  all_goals (rw [hf] at hh)
  all_goals (go_enter Tryz.func111, Tryz.ntmps111)
  all_goals go_wp2
  all_goals go_ret
  all_goals refine ⟨ret_bool ?_, ?_⟩
  all_goals first
    | exact (Below.refl _ _).alloc (Nat.le_refl _) _
    | simp_all [lFits]
theorem hc9 {l k f s : Int} (h : 32767 < s ∨ (!sFits k s) = true) : endOf (headCode l k f s) = .panicked [{ v := .iface 36 (.int .i64 9), recovered := false }] := by
  have : headCode l k f s = 9 := by unfold headCode; rw [if_pos (by simpa using h)]
  rw [this]; rfl
theorem hc10 {l k f s : Int} (h : s ≤ 32767 ∧ (!sFits k s) = false) (h2 : 64 < l ∨ (!lFits l k f) = true) : endOf (headCode l k f s) = .panicked [{ v := .iface 36 (.int .i64 10), recovered := false }] := by
  have : headCode l k f s = 10 := by
    unfold headCode
    rw [if_neg (by rintro (a | a); · omega
                   · simp [a] at h), if_pos (by simpa using h2)]
  rw [this]; rfl
theorem hc0 {l k f s : Int} (h : s ≤ 32767 ∧ (!sFits k s) = false) (h2 : l ≤ 64 ∧ (!lFits l k f) = false) : endOf (headCode l k f s) = .returned (.tuple #[]) := by
  have : headCode l k f s = 0 := by
    unfold headCode
    rw [if_neg (by rintro (a | a); · omega
                   · simp [a] at h), if_neg (by rintro (a | a); · omega
                                                · simp [a] at h2)]
  rw [this]; rfl
set_option maxHeartbeats 800000 in
theorem checkHead_any (l k f s : Int) (w : World) (h0 : 0 ≤ f) (h1 : f < 256) :
    Calls Tryz.prog 77 #[.agg #[.int .i64 l, .int .i64 k, .int .i64 f, .int .i64 s]] w fun e w' => e = endOf (headCode l k f s) ∧ Below w.heap.size w w' := by
  go_enter Tryz.func77, Tryz.ntmps77
  go_wp2_with (first | (go_at_call 110; refine (streamFits_any l k f s _).mono ?_; rintro e w' ⟨rfl, hb⟩; obtain ⟨hc, hf⟩ := bcell hb) | (go_at_call 111; refine (lengthFits_any l k f s _ h0 h1).mono ?_; rintro e w'' ⟨rfl, hb'⟩))
  all_goals first
    | (refine bodyPost_end (results_none rfl _ _ _) rfl ⟨?_, ?_⟩)
    | refine ⟨rfl, ?_, ?_⟩
  all_goals first
    | exact (Below.refl _ _).alloc (Nat.le_refl _) _
    | exact ((Below.refl _ _).alloc (Nat.le_refl _) _).trans (hb.mono (by simp))
    | exact (((Below.refl _ _).alloc (Nat.le_refl _) _).trans (hb.mono (by simp))).trans (hb'.mono (by have := hb.size; simp at this; omega))
    | exact (hc9 (by assumption)).symm
    | exact (hc9 (Or.inl (by assumption))).symm
    | exact (hc10 (by assumption) (by assumption)).symm
    | exact (hc10 (by assumption) (Or.inl (by assumption))).symm
    | exact (hc0 (by assumption) (by assumption)).symm
end Go.Proofs.YtiphkngfbpdeoaaGreatDoor
namespace Go.Proofs.YtiphkngfbpdeoaaGreatDoor
open Go.RowKit
theorem wraps_u32 (n : Int) (h0 : 0 ≤ n) (h1 : n < 2 ^ 32) : IntKind.u32.wrap n = n := by rw [IntKind.wrap_u32']; omega
theorem or_be4 (a b c d : UInt8) : bits BinOp.or IntKind.u32 (bits BinOp.or IntKind.u32 (bits BinOp.or IntKind.u32 ((a.toNat : Int) % 4294967296 * 16777216 % 4294967296) ((b.toNat : Int) % 4294967296 * 65536 % 4294967296))
    ((c.toNat : Int) % 4294967296 * 256 % 4294967296)) ((d.toNat : Int) % 4294967296) = be4 a b c d := by
  have ha : a.toNat < 256 := a.toNat_lt
  have hb : b.toNat < 256 := b.toNat_lt
  have hc : c.toNat < 256 := c.toNat_lt
  have hd : d.toNat < 256 := d.toNat_lt
  have e1 : (a.toNat : Int) % 4294967296 * 16777216 % 4294967296 = (a.toNat : Int) * 16777216 := by omega
  have e2 : (b.toNat : Int) % 4294967296 * 65536 % 4294967296 = (b.toNat : Int) * 65536 := by omega
  have e3 : (c.toNat : Int) % 4294967296 * 256 % 4294967296 = (c.toNat : Int) * 256 := by omega
  have e4 : (d.toNat : Int) % 4294967296 = (d.toNat : Int) := by omega
  rw [e1, e2, e3, e4]
  rw [bits_join .u32 32 (by decide) wraps_u32 24 ((a.toNat : Int) * 16777216) ((b.toNat : Int) * 65536) (by omega) (by omega) (by omega) (by omega) (by omega) (by omega)]
  rw [bits_join .u32 32 (by decide) wraps_u32 16 ((a.toNat : Int) * 16777216 + (b.toNat : Int) * 65536) ((c.toNat : Int) * 256) (by omega) (by omega) (by omega) (by omega) (by omega) (by omega)]
  rw [bits_join .u32 32 (by decide) wraps_u32 8 ((a.toNat : Int) * 16777216 + (b.toNat : Int) * 65536 + (c.toNat : Int) * 256) (d.toNat : Int) (by omega) (by omega) (by omega) (by omega) (by omega) (by omega)]
  unfold be4; omega
theorem nc9 {v l : Int} (h : v < l ∨ 2147483647 < v) : endOf (nCode v l) = .panicked [{ v := .iface 36 (.int .i64 9), recovered := false }] := by
  have : nCode v l = 9 := by unfold nCode; rw [if_pos h]
  rw [this]; rfl
theorem nc0 {v l : Int} (h : l ≤ v ∧ v ≤ 2147483647) : endOf (nCode v l) = .returned (.tuple #[]) := by
  have : nCode v l = 0 := by unfold nCode; rw [if_neg (by omega)]
  rw [this]; rfl
def endVal (v : Value) (c : Int) : Ending := if c = 0 then .returned v else .panicked [{ v := .iface 36 (.int .i64 c), recovered := false }]
theorem endVal0 (v : Value) : endVal v 0 = .returned v := rfl
theorem endVal_ne {v : Value} {c : Int} (h : c ≠ 0) : endVal v c = .panicked [{ v := .iface 36 (.int .i64 c), recovered := false }] := by simp [endVal, h]
theorem ev9 {v : Value} {x l : Int} (h : x < l ∨ 2147483647 < x) : endVal v (nCode x l) = .panicked [{ v := .iface 36 (.int .i64 9), recovered := false }] := by
  have : nCode x l = 9 := by unfold nCode; rw [if_pos h]
  rw [this]; rfl
theorem ev0 {v : Value} {x l : Int} (h : l ≤ x ∧ x ≤ 2147483647) : endVal v (nCode x l) = .returned v := by
  have : nCode x l = 0 := by unfold nCode; rw [if_neg (by omega)]
  rw [this]; rfl
set_option maxHeartbeats 800000 in
theorem fnum_any (g off n cap : Nat) (x0 x1 x2 x3 : UInt8) (w : World) (hn : 4 ≤ n)
    (c0 : w.cell? ⟨g, off, none⟩ = some (.int .u8 x0.toNat)) (c1 : w.cell? ⟨g, off + 1, none⟩ = some (.int .u8 x1.toNat)) (c2 : w.cell? ⟨g, off + 2, none⟩ = some (.int .u8 x2.toNat))
    (c3 : w.cell? ⟨g, off + 3, none⟩ = some (.int .u8 x3.toNat)) :
    Calls Tryz.prog 114 #[.slice (some ⟨g, off, none⟩) n cap] w fun e w' => e = .returned (.int .u32 (be4 x0 x1 x2 x3)) ∧ ∃ k, w' = w.drewN k := by
  go_enter Tryz.func114, Tryz.ntmps114
  go_wp2
  go_quiet (fail)
  simp only [or_be4]
  go_wp2
  go_ret
  exact ⟨rfl, _, rfl⟩
theorem be4_bounds (a b c d : UInt8) : 0 ≤ be4 a b c d ∧ be4 a b c d < 4294967296 := by
  have ha : a.toNat < 256 := a.toNat_lt
  have hb : b.toNat < 256 := b.toNat_lt
  have hc : c.toNat < 256 := c.toNat_lt
  have hd : d.toNat < 256 := d.toNat_lt
  unfold be4
  omega
set_option maxHeartbeats 800000 in
theorem numberFrom_any (g off n cap : Nat) (x0 x1 x2 x3 : UInt8) (least : Int) (w : World) (hn : 4 ≤ n)
    (c0 : w.cell? ⟨g, off, none⟩ = some (.int .u8 x0.toNat)) (c1 : w.cell? ⟨g, off + 1, none⟩ = some (.int .u8 x1.toNat)) (c2 : w.cell? ⟨g, off + 2, none⟩ = some (.int .u8 x2.toNat))
    (c3 : w.cell? ⟨g, off + 3, none⟩ = some (.int .u8 x3.toNat)) :
    Calls Tryz.prog 115 #[.int .u32 least, .slice (some ⟨g, off, none⟩) n cap] w fun e w' => e = endVal (.int .i64 (be4 x0 x1 x2 x3)) (nCode (be4 x0 x1 x2 x3) least) ∧ ∃ k, w' = w.drewN k := by
  obtain ⟨b0, b1⟩ := be4_bounds x0 x1 x2 x3
  have HN := hide (fnum_any g off n cap x0 x1 x2 x3 w hn c0 c1 c2 c3)
  clear c0 c1 c2 c3
  generalize be4 x0 x1 x2 x3 = x at *
  by_cases hbad : x < least ∨ 2147483647 < x
  · have HE := hide (ev9 (v := .int .i64 x) hbad)
    by_cases h1 : x < least
    · clear hbad
      go_enter Tryz.func115, Tryz.ntmps115
      go_wp2_with fail
      refine HN.out.mono ?_
      rintro e w1 ⟨rfl, k, rfl⟩
      go_wp2
      exact ⟨rfl, HE.out.symm, _, rfl⟩
    · have h2 : 2147483647 < x := by omega
      clear hbad
      go_enter Tryz.func115, Tryz.ntmps115
      go_wp2_with fail
      refine HN.out.mono ?_
      rintro e w1 ⟨rfl, k, rfl⟩
      go_wp2
      exact ⟨rfl, HE.out.symm, _, rfl⟩
  · have h1 : least ≤ x ∧ x ≤ 2147483647 := by omega
    have HE := hide (ev0 (v := .int .i64 x) h1)
    obtain ⟨h1, h2⟩ := h1
    clear hbad
    go_enter Tryz.func115, Tryz.ntmps115
    go_wp2_with fail
    refine HN.out.mono ?_
    rintro e w1 ⟨rfl, k, rfl⟩
    go_wp2
    go_ret
    exact ⟨HE.out.symm, _, rfl⟩
end Go.Proofs.YtiphkngfbpdeoaaGreatDoor
namespace Go.Proofs.YtiphkngfbpdeoaaGreatDoor
open Go.RowKit
theorem pad_bad {p : UInt8} {r : List UInt8} {k : Nat} (hs : ¬ r.length < p.toNat) (hk : k < p.toNat) (hx : (p :: r).getD (r.length + 1 - p.toNat + k) 0 ≠ 0) :
    endOf (padCode (p :: r)) = .panicked [{ v := .iface 36 (.int .i64 9), recovered := false }] := by
  have : padCode (p :: r) = 9 := by
    simp only [padCode]
    rw [if_neg hs, if_neg]
    intro h
    rw [List.all_eq_true] at h
    have hm : (p :: r).getD (r.length + 1 - p.toNat + k) 0 ∈ (p :: r).drop (r.length + 1 - p.toNat) := by
      rw [getD_lt _ _ _ (by simp; omega)]
      rw [List.mem_drop_iff_getElem]
      exact ⟨k, by simp; omega, rfl⟩
    have := h _ hm
    simp at this
    exact hx (by simpa using this)
  rw [this]; rfl
theorem pad_good {p : UInt8} {r : List UInt8} (hs : ¬ r.length < p.toNat) (hz : ∀ j, j < p.toNat → (p :: r).getD (r.length + 1 - p.toNat + j) 0 = 0) :
    endOf (padCode (p :: r)) = .returned (.tuple #[]) := by
  have : padCode (p :: r) = 0 := by
    simp only [padCode]
    rw [if_neg hs, if_pos]
    rw [List.all_eq_true]
    intro x hx
    rw [List.mem_drop_iff_getElem] at hx
    obtain ⟨j, hj, rfl⟩ := hx
    have h1 := hz j (by simp at hj; omega)
    rw [getD_lt _ _ _ (by simp at hj ⊢; omega)] at h1
    simpa using h1
  rw [this]; rfl
theorem Hbelow {w w1 : World} {g off : Nat} {l : List UInt8} (hb : Below w.heap.size w w1) (hg : g < w.heap.size) (hc : ∀ i, i < l.length → w.cell? ⟨g, off + i, none⟩ = some (.int .u8 (l.getD i 0).toNat)) : ∀ i, i < l.length → w1.cell? ⟨g, off + i, none⟩ = some (.int .u8 (l.getD i 0).toNat) :=
  fun i hi => (hb.cell (p := ⟨g, off + i, none⟩) hg).trans (hc i hi)
theorem four_blk {w : World} {b : Nat} {v0 v1 v2 v3 : Value} {t : TypeId} (h : w.heap[b]? = some (.cells #[v0, v1, v2, v3] t (0, 0))) :
    w.cell? ⟨b, 0, none⟩ = some v0 ∧ w.cell? ⟨b, 1, none⟩ = some v1 ∧ w.cell? ⟨b, 2, none⟩ = some v2 ∧ w.cell? ⟨b, 3, none⟩ = some v3 := by
  refine ⟨?_, ?_, ?_, ?_⟩ <;> rw [cell_of_row w b _ _ _ _ h] <;> rfl
theorem boxed_has (k f s b : Int) (bv : Value) (w : World) (h0 : 0 ≤ f) (h1 : f < 256) (hb : b = 1 ∨ b = 8) {x : Bool} (hx : hasB f b = x) :
    Calls Tryz.prog 83 #[.agg #[.int .i64 k, .int .i64 f, .int .i64 s, bv], .int .i64 b] (w.alloc (.cells #[.int .i64 k, .int .i64 f, .int .i64 s, bv] 153)) fun e w' => e = .returned (.bool x) ∧ Below w.heap.size w w' ∧ w'.heap[w.heap.size]? = some (.cells #[.int .i64 k, .int .i64 f, .int .i64 s, bv] 153 (0, 0)) := by
  have hb0 : Below w.heap.size w (w.alloc (.cells #[.int .i64 k, .int .i64 f, .int .i64 s, bv] 153)) := (Below.refl _ _).alloc (Nat.le_refl _) _
  refine (has_any k f s b bv _ h0 h1 hb).mono ?_
  rintro e w' ⟨rfl, hb1⟩
  refine ⟨by rw [hx], hb0.trans (hb1.mono (by simp)), ?_⟩
  rw [hb1.block _ (by simp)]
  exact heap_alloc_new w _
set_option maxHeartbeats 800000 in
theorem contentOf_bare (k f s : Int) (bv : Value) (w : World) (h0 : 0 ≤ f) (h1 : f < 256) (hf : hasB f 8 = false) :
    Calls Tryz.prog 112 #[.agg #[.int .i64 k, .int .i64 f, .int .i64 s, bv]] w fun e w' => e = .returned bv ∧ Below w.heap.size w w' := by
  have HH := hide (boxed_has k f s 8 bv w h0 h1 (Or.inr rfl) hf)
  clear hf
  go_enter Tryz.func112, Tryz.ntmps112
  go_wp2_with fail
  refine HH.out.mono ?_
  rintro e w1 ⟨rfl, hb1, hr1⟩
  obtain ⟨z0, z1, z2, z3⟩ := four_blk hr1
  go_wp2
  go_ret
  exact ⟨rfl, hb1⟩
set_option maxHeartbeats 800000 in
theorem contentOf_none (k f s : Int) (sa : Option Addr) (cap : Nat) (w : World) (h0 : 0 ≤ f) (h1 : f < 256) (hf : hasB f 8 = true) :
    Calls Tryz.prog 112 #[.agg #[.int .i64 k, .int .i64 f, .int .i64 s, .slice sa 0 cap]] w fun e w' => e = .panicked [{ v := .iface 36 (.int .i64 9), recovered := false }] ∧ Below w.heap.size w w' := by
  have HH := hide (boxed_has k f s 8 (.slice sa 0 cap) w h0 h1 (Or.inr rfl) hf)
  clear hf
  go_enter Tryz.func112, Tryz.ntmps112
  go_wp2_with fail
  refine HH.out.mono ?_
  rintro e w1 ⟨rfl, hb1, hr1⟩
  obtain ⟨z0, z1, z2, z3⟩ := four_blk hr1
  go_wp2
  exact ⟨rfl, rfl, hb1⟩
def Cut (g off cap m : Nat) (cv : Value) : Prop := ∃ o, cv = .slice (some ⟨g, o, none⟩) m (cap - 1) ∧ (0 < m → o = off + 1)
set_option maxRecDepth 100000 in
set_option maxHeartbeats 1600000 in
theorem contentOf_pad (g off cap : Nat) (p : UInt8) (r : List UInt8) (k f s : Int) (w : World) (hl : r.length + 1 ≤ 64) (hcap : r.length + 1 ≤ cap) (h0 : 0 ≤ f) (h1 : f < 256) (hg : g < w.heap.size) (hf : hasB f 8 = true)
    (hc : ∀ i, i < (p :: r).length → w.cell? ⟨g, off + i, none⟩ = some (.int .u8 ((p :: r).getD i 0).toNat)) :
    Calls Tryz.prog 112 #[.agg #[.int .i64 k, .int .i64 f, .int .i64 s, .slice (some ⟨g, off, none⟩) (r.length + 1) cap]] w fun e w' =>
      ((padCode (p :: r) ≠ 0 ∧ e = .panicked [{ v := .iface 36 (.int .i64 9), recovered := false }]) ∨ (padCode (p :: r) = 0 ∧ ∃ cv, e = .returned cv ∧ Cut g off cap (r.length - p.toNat) cv)) ∧ Below w.heap.size w w' := by
  have hp : p.toNat < 256 := p.toNat_lt
  have hw : wrap64 (p.toNat : Int) = (p.toNat : Int) := by unfold wrap64; omega
  have c00 : w.cell? ⟨g, off, none⟩ = some (.int .u8 p.toNat) := by simpa using hc 0 (by simp)
  simp only [List.length_cons] at hc
  have HBAD : Hid (∀ k, ¬ r.length < p.toNat → k < p.toNat → (p :: r).getD (r.length + 1 - p.toNat + k) 0 ≠ 0 → padCode (p :: r) ≠ 0) := fun k a b c e => by
    have := pad_bad a b c
    rw [e] at this; cases this
  have HGOOD : Hid (¬ r.length < p.toNat → (∀ j, j < p.toNat → (p :: r).getD (r.length + 1 - p.toNat + j) 0 = 0) → padCode (p :: r) = 0) := fun a b => by
    have := pad_good a b
    unfold endOf at this
    split at this
    · assumption
    · cases this
  have HSH : Hid (r.length < p.toNat → padCode (p :: r) ≠ 0) := fun h => by simp [padCode, h]
  have HC : Hid (∀ i, i < r.length + 1 → w.cell? ⟨g, off + i, none⟩ = some (.int .u8 ((fun j => (p :: r).getD j 0) i).toNat)) := hc
  obtain ⟨X, hX⟩ : ∃ X : Nat → UInt8, X = fun j => (p :: r).getD j 0 := ⟨_, rfl⟩
  have hXj : ∀ j, (p :: r).getD j 0 = X j := fun j => by rw [hX]
  rw [← hX] at HC
  simp only [hXj] at HBAD HGOOD
  clear hc hX hXj
  generalize padCode (p :: r) = pc at *
  generalize p.toNat = pn at *
  generalize r.length = n at *
  clear p r
  have HH := hide (boxed_has k f s 8 (.slice (some ⟨g, off, none⟩) (n + 1) cap) w h0 h1 (Or.inr rfl) hf)
  clear hf
  go_enter Tryz.func112, Tryz.ntmps112
  go_wp2_with fail
  refine HH.out.mono ?_
  rintro e w1 ⟨rfl, hb1, hr1⟩
  obtain ⟨z0, z1, z2, z3⟩ := four_blk hr1
  have HC1 : Hid (∀ i, i < n + 1 → w1.cell? ⟨g, off + i, none⟩ = some (.int .u8 (X i).toNat)) := fun i hi => (hb1.cell (p := ⟨g, off + i, none⟩) hg).trans (HC.out i hi)
  have c0 : w1.cell? ⟨g, off, none⟩ = some (.int .u8 pn) := (hb1.cell (p := ⟨g, off, none⟩) hg).trans c00
  have HB1 := hide hb1
  clear hb1 hr1 HC HH c00
  by_cases hs : n < pn
  · have HZ := hide (HSH.out hs)
    go_wp2
    exact ⟨rfl, Or.inl ⟨HZ.out, rfl⟩, HB1.out⟩
  · obtain ⟨m, hm⟩ : ∃ m, n = m + pn := ⟨n - pn, by omega⟩
    subst hm
    have hle : pn ≤ m + pn := by omega
    clear hs
    have hsub : ((m : Int) + (pn : Int) + 1 - (pn : Int)) = ((m + 1 : Nat) : Int) := by omega
    by_cases h0 : pn = 0
    · have HZ := hide (HGOOD.out (by omega) (fun j hj => by omega))
      subst h0
      simp only [Nat.add_zero] at *
      clear hsub hw hle hp
      by_cases hm1 : m + 1 = cap
      · by_cases hm0 : m = 0
        · subst hm0
          subst hm1
          go_wp2
          all_goals refine wp_loop_rounds 1 ?_
          all_goals rw [rounds_succ]
          all_goals go_wp2
          all_goals go_ret
          all_goals refine ⟨Or.inr ⟨HZ.out, _, rfl, ?_⟩, HB1.out⟩
          all_goals first | exact ⟨_, rfl, fun _ => rfl⟩ | exact ⟨_, rfl, fun h => absurd h (by simp)⟩
        · subst hm1
          have hc1 : 1 < m + 1 := by omega
          go_wp2
          all_goals refine wp_loop_rounds 1 ?_
          all_goals rw [rounds_succ]
          all_goals go_wp2
          all_goals go_ret
          all_goals refine ⟨Or.inr ⟨HZ.out, _, rfl, ?_⟩, HB1.out⟩
          all_goals first | exact ⟨_, rfl, fun _ => rfl⟩ | exact ⟨_, rfl, fun h => absurd h (by simp)⟩
      · have hc1 : m + 1 < cap := by omega
        go_wp2
        all_goals refine wp_loop_rounds 1 ?_
        all_goals rw [rounds_succ]
        all_goals go_wp2
        all_goals go_ret
        all_goals refine ⟨Or.inr ⟨HZ.out, _, rfl, ?_⟩, HB1.out⟩
        all_goals first | exact ⟨_, rfl, fun _ => rfl⟩ | exact ⟨_, rfl, fun h => absurd h (by simp)⟩
    · have hpos : 0 < pn := by omega
      have hc1 : m + 1 < cap := by omega
      have hc2 : 1 < cap := by omega
      go_wp2
      go_loop [40] (fun i => ∃ k : Nat, k ≤ pn ∧ i = .int .i64 k ∧ ∀ j, j < k → X (m + pn + 1 - pn + j) = 0) (fun i => pn - (intOf i).toNat)
      case atStart => exact ⟨0, Nat.zero_le _, rfl, fun j hj => by omega⟩
      case round =>
        obtain ⟨k, hk, rfl, hz⟩ := hrel
        have HZ := hide hz
        clear hz
        by_cases hlt : k < pn
        · obtain ⟨x, hx⟩ : ∃ x, x = X (m + pn + 1 - pn + k) := ⟨_, rfl⟩
          have hck : w1.cell? ⟨g, off + (m + 1) + k, none⟩ = some (.int .u8 x.toNat) := by
            rw [hx, show m + pn + 1 - pn + k = m + 1 + k from by omega, Nat.add_assoc]
            exact HC1.out _ (by omega)
          have HX := hide hx
          clear hx
          by_cases h0x : x.toNat = 0
          · have hb : ((x.toNat : Int) != 0) = false := by simp [h0x]
            go_wp2
            go_round
            case rel =>
              refine ⟨k + 1, by omega, by go_num, fun j hj => ?_⟩
              by_cases e : j < k
              · exact HZ.out j e
              · have : j = k := by omega
                subst this
                rw [← HX.out]; exact UInt8.toNat_inj.1 h0x
            case measure => simp [intOf]; omega
          · have hb : ((x.toNat : Int) != 0) = true := by simp [h0x]
            have HE := hide (HBAD.out k (by omega) hlt (by rw [← HX.out]; intro e; exact h0x (by rw [e]; rfl)))
            go_wp2
            exact ⟨rfl, Or.inl ⟨HE.out, rfl⟩, HB1.out⟩
        · have HE := hide (HGOOD.out (by omega) (fun j hj => HZ.out j (by omega)))
          go_wp2
          go_ret
          refine ⟨Or.inr ⟨HE.out, _, rfl, ?_⟩, HB1.out⟩
          exact ⟨_, rfl, fun _ => rfl⟩
end Go.Proofs.YtiphkngfbpdeoaaGreatDoor
namespace Go.Proofs.YtiphkngfbpdeoaaGreatDoor
open Go.RowKit
theorem wraps_i64 (n : Int) (h0 : 0 ≤ n) (h1 : n < 2 ^ 63) : IntKind.i64.wrap n = n := by rw [IntKind.wrap_i64]; omega
theorem or_be2 (a b : UInt8) : bits BinOp.or IntKind.i64 (wrap64 ((a.toNat : Int) * 256)) (b.toNat : Int) = be2 a b := by
  have ha : a.toNat < 256 := a.toNat_lt
  have hb : b.toNat < 256 := b.toNat_lt
  have e1 : wrap64 ((a.toNat : Int) * 256) = (a.toNat : Int) * 256 := by unfold wrap64; omega
  rw [e1, bits_join .i64 63 (by decide) wraps_i64 8 ((a.toNat : Int) * 256) (b.toNat : Int) (by omega) (by omega) (by omega) (by omega) (by omega) (by omega)]
  unfold be2; omega
theorem wrap_byte (a : UInt8) : wrap64 (a.toNat : Int) = (a.toNat : Int) := by
  have ha : a.toNat < 256 := a.toNat_lt
  unfold wrap64; omega
set_option maxHeartbeats 800000 in
theorem headOf_any (g off n cap : Nat) (x0 x1 x2 x3 x4 x5 : UInt8) (w : World) (hn : 6 ≤ n)
    (c0 : w.cell? ⟨g, off, none⟩ = some (.int .u8 x0.toNat)) (c1 : w.cell? ⟨g, off + 1, none⟩ = some (.int .u8 x1.toNat)) (c2 : w.cell? ⟨g, off + 2, none⟩ = some (.int .u8 x2.toNat))
    (c3 : w.cell? ⟨g, off + 3, none⟩ = some (.int .u8 x3.toNat)) (c4 : w.cell? ⟨g, off + 4, none⟩ = some (.int .u8 x4.toNat)) (c5 : w.cell? ⟨g, off + 5, none⟩ = some (.int .u8 x5.toNat)) (hg : g < w.heap.size) :
    Calls Tryz.prog 76 #[.slice (some ⟨g, off, none⟩) n cap] w fun e w' => e = .returned (.agg #[.int .i64 (be2 x0 x1), .int .i64 x2.toNat, .int .i64 x3.toNat, .int .i64 (be2 x4 x5)]) ∧ Below w.heap.size w w' := by
  go_enter Tryz.func76, Tryz.ntmps76
  go_wp2
  go_region
  go_wp2
  refine bodyPost_ret (v := .agg #[.int .i64 (be2 x0 x1), .int .i64 x2.toNat, .int .i64 x3.toNat, .int .i64 (be2 x4 x5)]) ?_ rfl ⟨rfl, ((Below.refl _ _).alloc (Nat.le_refl _) _).drew⟩
  simp [results, Tryz.results76, go_sem, or_be2, wrap_byte]
end Go.Proofs.YtiphkngfbpdeoaaGreatDoor
