import Derived.Test.YtlhlmgfblbpdpaaGreatDoorWGaq
import Derived.Test.YtlhlmgfblbpdpaaGreatDoorWGan
import Derived.Test.YtlhlmgfblbpdpaaGreatDoorWGap
import Derived.Deep.RegionWith
import Derived.BigRegion
set_option linter.unusedVariables false
set_option linter.unusedSimpArgs false
/-
  Receive: the law's intake beside the end, without where things lie; what the end makes.
-/
namespace Go.Proofs.YtlhlmgfblbpdpaaGreatDoor
set_option linter.unusedVariables false
set_option linter.unusedSimpArgs false
open Go.RowKit

structure Lane where
  text : List UInt8
  read : Nat
  bodies : Int
  credit : Int
structure Cf where
  i : Int
  c : Int
  b : Int
  k : Int
structure XM where
  cf : Cf
  ln : Nat → Lane
  force : Int
  told : Int
  waits : Bool
  bodies : Int
  credit : Int
  beside : Int
  pn : Option Nat
  asked : Int
  came : Bool
  dead : Bool
  clock : Int
def updL {α : Type} (f : Nat → α) (j : Nat) (a : α) : Nat → α := fun n => if n = j then a else f n
theorem updL_same {α : Type} (f : Nat → α) (j : Nat) (a : α) : updL f j a j = a := by simp [updL]
theorem updL_ne {α : Type} (f : Nat → α) {j n : Nat} (a : α) (h : n ≠ j) : updL f j a n = f n := by simp [updL, h]
/-- What changes of the end's own. -/
structure Dn where
  clock : Int
  receive : Int
  owed : Int
  wanted : Int
  made : Int
  waits : Bool
  own : Int
  target : Int
  bestB : Int
  bestT : Int
  pnum : Nat
  under : Bool
  pinged : Bool
  start : Int
  count : Int
structure Sn where
  receive : Int
  owed : Int
  un : List UInt8
def mD (cf : Cf) (d : Dn) : EndM := { (pOpen cf.i cf.c cf.b cf.k 4).m with clock := d.clock, receive := d.receive, owed := d.owed, wanted := d.wanted, made := d.made, waits := d.waits, own := d.own, target := d.target, bestB := d.bestB, bestT := d.bestT, pnum := d.pnum, under := d.under, pinged := d.pinged, start := d.start, count := d.count }
def stD (n : Int) (s : Sn) : GSt := ⟨0, { StM.fresh n false with receive := s.receive, owed := s.owed }, s.un, []⟩
def kD (s : Nat → Sn) : List GSt := [stD 1 (s 0), stD 3 (s 1), stD 5 (s 2), stD 7 (s 3)]
def gD (cf : Cf) (d : Dn) (s : Nat → Sn) (out : List UInt8) : GEnd := ⟨mD cf d, kD s, [1, 3, 5, 7], out, [], [], []⟩
def nr (j : Nat) : Int := 2 * (j : Int) + 1
theorem stD_nr (n : Int) (s : Sn) : (stD n s).st.number = n := rfl
theorem four_cases {j : Nat} (h : j < 4) : j = 0 ∨ j = 1 ∨ j = 2 ∨ j = 3 := by omega
theorem kD_mem (s : Nat → Sn) {j : Nat} (hj : j < 4) : stD (nr j) (s j) ∈ kD s := by
  rcases four_cases hj with rfl | rfl | rfl | rfl <;> simp [kD, nr]
theorem kD_at (s : Nat → Sn) {j : Nat} (hj : j < 4) : atN (kD s) (nr j) = stD (nr j) (s j) := by
  rcases four_cases hj with rfl | rfl | rfl | rfl <;> simp [atN, kD, nr, stD_nr]
theorem kD_all {s : Nat → Sn} {P : GSt → Prop} (h : ∀ j, j < 4 → P (stD (nr j) (s j))) : ∀ x ∈ kD s, P x := by
  intro x hx
  simp only [kD, List.mem_cons, List.not_mem_nil, or_false] at hx
  rcases hx with rfl | rfl | rfl | rfl
  · exact h 0 (by omega)
  · exact h 1 (by omega)
  · exact h 2 (by omega)
  · exact h 3 (by omega)
theorem kD_upd (s : Nat → Sn) {j : Nat} (hj : j < 4) (f : GSt → GSt) (s' : Sn) (h : f (stD (nr j) (s j)) = stD (nr j) s') : updN (nr j) f (kD s) = kD (updL s j s') := by
  rcases four_cases hj with rfl | rfl | rfl | rfl
  all_goals
    simp only [nr] at h
    simp [updN, kD, nr, stD_nr, updL]
    simpa using h

structure LRel (l : Lane) (s : Sn) : Prop where
  rcv : s.receive = l.credit - l.bodies
  owd : s.owed = l.bodies - (l.text.length - l.read) - l.credit
  owd0 : 0 ≤ s.owed
  un : s.un = l.text.drop l.read
  rd : l.read ≤ l.text.length
  txt : (l.text.length : Int) ≤ l.bodies
  bnd : l.bodies ≤ 1000 + l.credit
  crd : 0 ≤ l.credit
def XM.reads (x : XM) : Int := (x.ln 0).read + (x.ln 1).read + (x.ln 2).read + (x.ln 3).read
def XM.bods (x : XM) : Int := (x.ln 0).bodies + (x.ln 1).bodies + (x.ln 2).bodies + (x.ln 3).bodies
def XM.texts (x : XM) : Int := (x.ln 0).text.length + (x.ln 1).text.length + (x.ln 2).text.length + (x.ln 3).text.length
def Dn.pend (d : Dn) : Bool := d.under && !d.pinged
structure Rel (N : Nat) (x : XM) (d : Dn) (s : Nat → Sn) : Prop where
  cf : CfgOk x.cf.i x.cf.c x.cf.b x.cf.k
  clk : d.clock = x.clock
  clk0 : 0 ≤ x.clock
  clk1 : x.clock ≤ 1000000
  rcv : d.receive = 32 + x.credit - x.bodies
  rcv0 : 0 ≤ d.receive
  owd : d.owed = d.target - 32 + x.reads + x.beside - x.credit
  owd0 : 0 ≤ d.owed
  wnt0 : 0 ≤ d.wanted
  wnt1 : d.wanted ≤ 1000
  tld : d.made = x.told
  tld0 : 0 ≤ x.told
  tld1 : x.told ≤ 1000
  wai : d.waits = x.waits
  own : d.own = x.force
  own0 : 0 ≤ x.force
  own1 : x.force ≤ 1000
  tgt0 : x.cf.c ≤ d.target
  tgt1 : d.target ≤ x.cf.k
  pnm : d.pnum < 4294967296
  png : x.pn = if d.under && d.pinged then some d.pnum else none
  und : d.under = true → x.cf.c < x.cf.k
  cam : x.came = false → d.under = false ∧ d.target = x.cf.c
  ask : x.came = true → x.cf.c = x.cf.k ∨ 0 < x.asked ∨ d.pend = true
  cnt0 : 0 ≤ d.count
  cnt1 : d.count ≤ 2147483647
  stt0 : 0 ≤ d.start
  stt1 : d.start ≤ 1000000
  bsb0 : 0 ≤ d.bestB
  bsb1 : d.bestB ≤ 2147483647
  bst0 : 0 ≤ d.bestT
  bst1 : d.bestT ≤ 2147483647
  sum : x.bodies = x.bods
  bes : x.beside = x.bods - x.texts
  crd : 0 ≤ x.credit
  lns : ∀ j, j < 4 → LRel (x.ln j) (s j)
  ask0 : 0 ≤ x.asked
  ask1 : x.asked + (if d.pend then 1 else 0) ≤ N
  bod1 : x.bodies ≤ 64 * N

section
variable {N : Nat} {x : XM} {d : Dn} {s : Nat → Sn} {out : List UInt8}
theorem Rel.texts (h : Rel N x d s) : x.reads ≤ x.texts ∧ x.texts ≤ x.bods ∧ 0 ≤ x.reads := by
  have a0 := h.lns 0 (by omega)
  have a1 := h.lns 1 (by omega)
  have a2 := h.lns 2 (by omega)
  have a3 := h.lns 3 (by omega)
  have := a0.rd; have := a1.rd; have := a2.rd; have := a3.rd
  have := a0.txt; have := a1.txt; have := a2.txt; have := a3.txt
  unfold XM.reads XM.texts XM.bods
  omega
theorem Rel.owd1 (h : Rel N x d s) : d.owed ≤ 1000 ∧ d.receive ≤ 1000 ∧ x.credit ≤ 64 * N + 1000 := by
  have := h.texts; have := h.owd; have := h.rcv; have := h.rcv0; have := h.sum; have := h.bes; have := h.tgt1; have := h.cf.k1; have := h.owd0; have := h.bod1
  omega
theorem LRel.owd1 {l : Lane} {s : Sn} (h : LRel l s) : s.owed ≤ 1000 ∧ -1000 ≤ s.receive ∧ s.receive ≤ 0 ∧ s.un.length ≤ 1000 ∧ 0 ≤ l.bodies := by
  have := h.owd; have := h.rd; have := h.bnd; have := h.owd0; have := h.rcv; have := h.txt
  have : s.un.length = l.text.length - l.read := by rw [h.un, List.length_drop]
  omega
theorem Rel.bodj (h : Rel N x d s) {j : Nat} (hj : j < 4) : (x.ln j).bodies ≤ 64 * N := by
  have a0 := (h.lns 0 (by omega)).owd1
  have a1 := (h.lns 1 (by omega)).owd1
  have a2 := (h.lns 2 (by omega)).owd1
  have a3 := (h.lns 3 (by omega)).owd1
  have := h.sum; have := h.bod1
  unfold XM.bods at *
  rcases four_cases hj with rfl | rfl | rfl | rfl <;> omega
theorem Rel.fine (h : Rel N x d s) : Fine (gD x.cf d s out) where
  greets := rfl
  wanted := ⟨h.wnt0, h.wnt1⟩
  owed := by have := h.owd1; have := h.owd0; show 0 ≤ d.owed ∧ d.owed ≤ 4294967295; omega
  receive := by have := h.owd1; have := h.rcv0; show -1099511627776 ≤ d.receive ∧ d.receive + d.owed ≤ 1099511627776; omega
  pnum := h.pnm
  own := by have := h.own; have := h.own0; have := h.own1; show -1099511627776 ≤ d.own ∧ d.own ≤ 1099511627776; omega
  other := by show -1099511627776 ≤ (0 : Int) ∧ (0 : Int) ≤ 1099511627776; decide
  ans := fun a ha => by cases ha
  res := fun n hn => by cases hn
  st := by
    refine kD_all fun j hj => ?_
    have hl := (h.lns j hj).owd1
    have hl0 := (h.lns j hj).owd0
    refine ⟨?_, ?_, ?_, ?_, rfl, rfl⟩
    · show -1099511627776 ≤ (s j).receive ∧ (s j).receive + (s j).owed ≤ 1099511627776; omega
    · show 0 ≤ (s j).owed ∧ (s j).owed ≤ 4294967295; omega
    · show 0 ≤ nr j ∧ nr j ≤ 32767; unfold nr; omega
    · show -1099511627776 ≤ (0 : Int) ∧ (0 : Int) ≤ 1099511627776; decide
  few := by show (4 : Nat) ≤ 1048576; decide

/-- A frame that the end made, as the law hears it. -/
def Tells (x : XM) (z1 : Fr) (z2 : XM) : Prop := ∀ Z : Fr → XM → Prop, (∀ (n : Nat) (hn : n ≤ 4294967295) (hw : x.waits = false), Z ⟨3, 0, 0, four4 n⟩ { x with told := n, waits := true }) → (∀ (n : Nat) (hn : n ≤ 4294967295) (hp : x.pn = none) (hc : x.cf.c < x.cf.k), Z ⟨4, 0, 0, four4 n⟩ { x with asked := x.asked + 1, pn := some n }) → (∀ (n : Nat) (hn : n ≤ 4294967295), Z ⟨6, 0, 0, four4 n⟩ { x with credit := x.credit + n }) → (∀ (j n : Nat) (hj : j < 4) (hn : n ≤ 4294967295), Z ⟨6, 0, nr j, four4 n⟩ { x with ln := updL x.ln j { x.ln j with credit := (x.ln j).credit + n } }) → Z z1 z2
theorem Tells.settings {x : XM} (n : Nat) (hn : n ≤ 4294967295) (hw : x.waits = false) : Tells x ⟨3, 0, 0, four4 n⟩ { x with told := n, waits := true } := fun Z zk1 zk2 zk3 zk4 => zk1 n hn hw
theorem Tells.ping {x : XM} (n : Nat) (hn : n ≤ 4294967295) (hp : x.pn = none) (hc : x.cf.c < x.cf.k) : Tells x ⟨4, 0, 0, four4 n⟩ { x with asked := x.asked + 1, pn := some n } := fun Z zk1 zk2 zk3 zk4 => zk2 n hn hp hc
theorem Tells.credit {x : XM} (n : Nat) (hn : n ≤ 4294967295) : Tells x ⟨6, 0, 0, four4 n⟩ { x with credit := x.credit + n } := fun Z zk1 zk2 zk3 zk4 => zk3 n hn
theorem Tells.lane {x : XM} (j n : Nat) (hj : j < 4) (hn : n ≤ 4294967295) : Tells x ⟨6, 0, nr j, four4 n⟩ { x with ln := updL x.ln j { x.ln j with credit := (x.ln j).credit + n } } := fun Z zk1 zk2 zk3 zk4 => zk4 j n hj hn
theorem Tells.ind {x : XM} {motive : ∀ (z1 : Fr) (z2 : XM), Tells x z1 z2 → Prop} (settings : ∀ (n : Nat) (hn : n ≤ 4294967295) (hw : x.waits = false), motive ⟨3, 0, 0, four4 n⟩ { x with told := n, waits := true } (@Tells.settings x n hn hw)) (ping : ∀ (n : Nat) (hn : n ≤ 4294967295) (hp : x.pn = none) (hc : x.cf.c < x.cf.k), motive ⟨4, 0, 0, four4 n⟩ { x with asked := x.asked + 1, pn := some n } (@Tells.ping x n hn hp hc)) (credit : ∀ (n : Nat) (hn : n ≤ 4294967295), motive ⟨6, 0, 0, four4 n⟩ { x with credit := x.credit + n } (@Tells.credit x n hn)) (lane : ∀ (j n : Nat) (hj : j < 4) (hn : n ≤ 4294967295), motive ⟨6, 0, nr j, four4 n⟩ { x with ln := updL x.ln j { x.ln j with credit := (x.ln j).credit + n } } (@Tells.lane x j n hj hn)) {z1 : Fr} {z2 : XM} (zt : Tells x z1 z2) : motive z1 z2 zt := (zt (fun z1 z2 => ∃ zt : Tells x z1 z2, motive z1 z2 zt) (fun n hn hw => ⟨_, @settings n hn hw⟩) (fun n hn hp hc => ⟨_, @ping n hn hp hc⟩) (fun n hn => ⟨_, @credit n hn⟩) (fun j n hj hn => ⟨_, @lane j n hj hn⟩)).elim fun _ zx => zx
theorem Tells.cf {x x' : XM} {f : Fr} (h : Tells x f x') : x'.cf = x.cf ∧ f.body.length = 4 ∧ FrFits f := by
  cases h using Tells.ind with
  | settings n hn hw => exact ⟨rfl, rfl, by constructor <;> simp [four4]⟩
  | ping n hn hp hc => exact ⟨rfl, rfl, by constructor <;> simp [four4]⟩
  | credit n hn => exact ⟨rfl, rfl, by constructor <;> simp [four4]⟩
  | lane j n hj hn => exact ⟨rfl, rfl, by constructor <;> simp [four4, nr] <;> omega⟩

def Dn.mu (d : Dn) (s : Nat → Sn) : Nat := (if (d.waits || d.wanted == d.made) then 0 else 1) + (if d.pend then 1 else 0) + (if 1 ≤ d.owed then 1 else 0) + (if 1 ≤ (s 0).owed then 1 else 0) + (if 1 ≤ (s 1).owed then 1 else 0) + (if 1 ≤ (s 2).owed then 1 else 0) + (if 1 ≤ (s 3).owed then 1 else 0)
theorem Dn.mu_le (d : Dn) (s : Nat → Sn) : d.mu s ≤ 7 := by unfold Dn.mu; repeat' split
                                                            all_goals omega
/-- Nothing is due. -/
structure Quiet (b : Int) (d : Dn) (s : Nat → Sn) : Prop where
  set : (d.waits || d.wanted == d.made) = true
  ping : d.pend = false
  owe : dueB d.owed d.receive b = false
  st : ∀ j, j < 4 → dueB (s j).owed (d.own + (s j).receive) b = false
theorem dueD (cf : Cf) (d : Dn) (s : Nat → Sn) (j : Nat) : (mD cf d).dueS (stD (nr j) (s j)).st = dueB (s j).owed (d.own + (s j).receive) cf.b := rfl
theorem first_D (cf : Cf) (d : Dn) (s : Nat → Sn) : (firstDueN (mD cf d) (kD s) [1, 3, 5, 7] = none ∧ ∀ j, j < 4 → dueB (s j).owed (d.own + (s j).receive) cf.b = false) ∨ ∃ j, j < 4 ∧ firstDueN (mD cf d) (kD s) [1, 3, 5, 7] = some (nr j) ∧ dueB (s j).owed (d.own + (s j).receive) cf.b = true := by
  have e0 := kD_at s (j := 0) (by omega)
  have e1 := kD_at s (j := 1) (by omega)
  have e2 := kD_at s (j := 2) (by omega)
  have e3 := kD_at s (j := 3) (by omega)
  have f0 := dueD cf d s 0
  have f1 := dueD cf d s 1
  have f2 := dueD cf d s 2
  have f3 := dueD cf d s 3
  simp only [show nr 0 = 1 from rfl, show nr 1 = 3 from rfl, show nr 2 = 5 from rfl, show nr 3 = 7 from rfl] at e0 e1 e2 e3 f0 f1 f2 f3
  simp only [firstDueN, e0, e1, e2, e3, f0, f1, f2, f3]
  cases h0 : dueB (s 0).owed (d.own + (s 0).receive) cf.b with
  | true => exact Or.inr ⟨0, by omega, by simp [nr], h0⟩
  | false =>
    cases h1 : dueB (s 1).owed (d.own + (s 1).receive) cf.b with
    | true => exact Or.inr ⟨1, by omega, by simp [nr], h1⟩
    | false =>
      cases h2 : dueB (s 2).owed (d.own + (s 2).receive) cf.b with
      | true => exact Or.inr ⟨2, by omega, by simp [nr], h2⟩
      | false =>
        cases h3 : dueB (s 3).owed (d.own + (s 3).receive) cf.b with
        | true => exact Or.inr ⟨3, by omega, by simp [nr], h3⟩
        | false =>
          refine Or.inl ⟨by simp, fun j hj => ?_⟩
          rcases four_cases hj with rfl | rfl | rfl | rfl <;> assumption
theorem next_gD (cf : Cf) (d : Dn) (s : Nat → Sn) (out : List UInt8) : (gD cf d s out).next = (gD cf d s out).oSettings.or ((gD cf d s out).oPing.or ((gD cf d s out).oCredit.or ((gD cf d s out).oStream.or none))) := rfl
theorem due_pos {o w b : Int} (h : dueB o w b = true) : 1 ≤ o := by
  unfold dueB at h
  simp at h
  exact h.1
end
end Go.Proofs.YtlhlmgfblbpdpaaGreatDoor
/-
  Receive: all that the end has to make.
-/
namespace Go.Proofs.YtlhlmgfblbpdpaaGreatDoor
set_option linter.unusedVariables false
set_option linter.unusedSimpArgs false
open Go.RowKit

section
variable {N : Nat} {x : XM} {d : Dn} {s : Nat → Sn} {out : List UInt8}
theorem no_set (h : (d.waits || d.wanted == d.made) = true) (cf : Cf) : (gD cf d s out).oSettings = none := by
  unfold GEnd.oSettings
  rw [if_pos (show ((gD cf d s out).m.waits || (gD cf d s out).m.wanted == (gD cf d s out).m.made) = true from h)]
theorem no_pingD (h : d.pend = false) (cf : Cf) : (gD cf d s out).oPing = none := by
  unfold GEnd.oPing
  rw [if_neg (by rw [show ((gD cf d s out).m.under && !(gD cf d s out).m.pinged) = d.pend from rfl, h]; decide)]
theorem no_credD (cf : Cf) (h : dueB d.owed d.receive cf.b = false) : (gD cf d s out).oCredit = none := by
  unfold GEnd.oCredit
  rw [if_neg (by rw [show dueB (gD cf d s out).m.owed (gD cf d s out).m.receive (gD cf d s out).m.batch = dueB d.owed d.receive cf.b from rfl, h]; decide)]
theorem no_streamD (cf : Cf) (h : firstDueN (mD cf d) (kD s) [1, 3, 5, 7] = none) : (gD cf d s out).oStream = none := by
  unfold GEnd.oStream
  rw [show firstDueN (gD cf d s out).m (gD cf d s out).K (gD cf d s out).L = none from h]
  rfl
/-- The tuner goes on as it was. -/
structure SameT (d d' : Dn) : Prop where
  target : d'.target = d.target
  bestB : d'.bestB = d.bestB
  bestT : d'.bestT = d.bestT
  count : d'.count = d.count
  under : d'.under = d.under
  clock : d'.clock = d.clock
  start : d'.start = d.start ∨ d'.start = d.clock
theorem SameT.refl (d : Dn) : SameT d d := ⟨rfl, rfl, rfl, rfl, rfl, rfl, Or.inl rfl⟩
theorem SameT.trans {d d1 d2 : Dn} (h : SameT d d1) (h2 : SameT d1 d2) : SameT d d2 := by
  refine ⟨h2.target.trans h.target, h2.bestB.trans h.bestB, h2.bestT.trans h.bestT, h2.count.trans h.count, h2.under.trans h.under, h2.clock.trans h.clock, ?_⟩
  rcases h2.start with e | e
  · rw [e]; exact h.start
  · right; rw [e]; exact h.clock
theorem Rel.step (h : Rel N x d s) (out : List UInt8) : ((gD x.cf d s out).next = none ∧ Quiet x.cf.b d s) ∨ ∃ f x' d' s', (gD x.cf d s out).next = some (gD x'.cf d' s' (out ++ lay f.kind f.flags f.stream f.body)) ∧ Tells x f x' ∧ Rel N x' d' s' ∧ d'.mu s' < d.mu s ∧ SameT d d' := by
  rw [next_gD]
  by_cases h1 : (d.waits || d.wanted == d.made) = true
  case neg =>
    right
    have hw : d.waits = false := by cases hh : d.waits <;> simp_all
    have hwn : ((d.wanted.toNat : Nat) : Int) = d.wanted := Int.toNat_of_nonneg h.wnt0
    have ht := Tells.settings (x := x) d.wanted.toNat (by have := h.wnt1; omega) (by rw [← h.wai]; exact hw)
    rw [hwn] at ht
    refine ⟨_, _, { d with made := d.wanted, waits := true }, s, ?_, ht, ?_, ?_, ⟨rfl, rfl, rfl, rfl, rfl, rfl, Or.inl rfl⟩⟩
    · unfold GEnd.oSettings
      rw [if_neg (show ¬ ((gD x.cf d s out).m.waits || (gD x.cf d s out).m.wanted == (gD x.cf d s out).m.made) = true from h1)]
      rfl
    · exact { h with tld := rfl, tld0 := h.wnt0, tld1 := h.wnt1, wai := rfl }
    · unfold Dn.mu
      rw [if_neg h1]
      have e : ({ d with made := d.wanted, waits := true } : Dn).pend = d.pend := rfl
      simp only [Bool.true_or, if_true, e]
      omega
  rw [no_set h1]
  cases h2 : d.pend with
  | true =>
    right
    have hu : d.under = true := by unfold Dn.pend at h2; simp at h2; exact h2.1
    have hpg : d.pinged = false := by unfold Dn.pend at h2; simp at h2; exact h2.2
    have hpn : x.pn = none := by rw [h.png, hpg]; simp
    refine ⟨_, _, { d with pinged := true, start := d.clock }, s, ?_, Tells.ping d.pnum (by have := h.pnm; omega) hpn (h.und hu), ?_, ?_, ⟨rfl, rfl, rfl, rfl, rfl, rfl, Or.inr rfl⟩⟩
    · unfold GEnd.oPing
      rw [if_pos (show ((gD x.cf d s out).m.under && !(gD x.cf d s out).m.pinged) = true from h2)]
      rfl
    · have hk := h.ask1
      rw [if_pos h2] at hk
      have h0 := h.ask0
      have hc1 := h.clk; have hc2 := h.clk0; have hc3 := h.clk1
      exact { h with
        png := by simp [hu]
        ask := fun _ => Or.inr (Or.inl (by show 0 < x.asked + 1; omega))
        stt0 := by show 0 ≤ d.clock; omega
        stt1 := by show d.clock ≤ _; omega
        ask0 := by show 0 ≤ x.asked + 1; omega
        ask1 := by simp [Dn.pend]; omega }
    · unfold Dn.mu
      rw [if_pos h2]
      simp [Dn.pend]
  | false =>
  rw [no_pingD h2]
  cases h3 : dueB d.owed d.receive x.cf.b with
  | true =>
    right
    have ho := due_pos h3
    have hwn : ((d.owed.toNat : Nat) : Int) = d.owed := Int.toNat_of_nonneg h.owd0
    have ht := Tells.credit (x := x) d.owed.toNat (by have := h.owd1; omega)
    rw [hwn] at ht
    have e1 := h.rcv; have e2 := h.owd; have e3 := h.rcv0; have e4 := h.crd
    refine ⟨_, _, { d with receive := d.receive + d.owed, owed := 0 }, s, ?_, ht, ?_, ?_, ⟨rfl, rfl, rfl, rfl, rfl, rfl, Or.inl rfl⟩⟩
    · unfold GEnd.oCredit
      rw [if_pos (show dueB (gD x.cf d s out).m.owed (gD x.cf d s out).m.receive (gD x.cf d s out).m.batch = true from h3)]
      rfl
    · exact { h with
        rcv := by show d.receive + d.owed = 32 + (x.credit + d.owed) - x.bodies; omega
        rcv0 := by show 0 ≤ d.receive + d.owed; omega
        owd := by show 0 = d.target - 32 + x.reads + x.beside - (x.credit + d.owed); omega
        owd0 := Int.le_refl _
        crd := by show 0 ≤ x.credit + d.owed; omega }
    · unfold Dn.mu
      rw [if_pos ho]
      simp [Dn.pend]
  | false =>
  rw [no_credD _ h3]
  rcases first_D x.cf d s with ⟨h4, h5⟩ | ⟨j, hj, h4, h5⟩
  · left
    rw [no_streamD _ h4]
    exact ⟨rfl, h1, h2, h3, h5⟩
  · right
    have ho := due_pos h5
    have hl := h.lns j hj
    have hwn : (((s j).owed.toNat : Nat) : Int) = (s j).owed := Int.toNat_of_nonneg hl.owd0
    have ht := Tells.lane (x := x) j (s j).owed.toNat hj (by have := hl.owd1; omega)
    rw [hwn] at ht
    refine ⟨_, _, d, updL s j { s j with receive := (s j).receive + (s j).owed, owed := 0 }, ?_, ht, ?_, ?_, SameT.refl d⟩
    · unfold GEnd.oStream
      rw [show firstDueN (gD x.cf d s out).m (gD x.cf d s out).K (gD x.cf d s out).L = some (nr j) from h4]
      simp only [Option.map_some, Option.none_or, Option.some_or]
      rw [show (gD x.cf d s out).K = kD s from rfl, kD_at s hj, kD_upd s hj GSt.granted { s j with receive := (s j).receive + (s j).owed, owed := 0 } rfl]
      rfl
    · have hr : ∀ n, ((updL x.ln j { x.ln j with credit := (x.ln j).credit + (s j).owed }) n).read = (x.ln n).read ∧ ((updL x.ln j { x.ln j with credit := (x.ln j).credit + (s j).owed }) n).bodies = (x.ln n).bodies ∧ ((updL x.ln j { x.ln j with credit := (x.ln j).credit + (s j).owed }) n).text = (x.ln n).text := fun n => by
        unfold updL
        by_cases e : n = j
        · subst e; simp
        · simp [e]
      exact { h with
        owd := by have := h.owd; simp only [XM.reads, (hr _).1] at this ⊢; exact this
        sum := by have := h.sum; simp only [XM.bods, (hr _).2.1] at this ⊢; exact this
        bes := by have := h.bes; simp only [XM.bods, XM.texts, (hr _).2.1, (hr _).2.2] at this ⊢; exact this
        lns := fun n hn => by
          by_cases e : n = j
          · subst e
            show LRel (updL x.ln n _ n) (updL s n _ n)
            rw [updL_same, updL_same]
            have q1 := hl.rcv; have q2 := hl.owd; have q3 := hl.bnd; have q4 := hl.crd
            exact { hl with
              rcv := by show (s n).receive + (s n).owed = (x.ln n).credit + (s n).owed - (x.ln n).bodies; omega
              owd := by show 0 = (x.ln n).bodies - ((x.ln n).text.length - (x.ln n).read) - ((x.ln n).credit + (s n).owed); omega
              owd0 := Int.le_refl _
              bnd := by show (x.ln n).bodies ≤ 1000 + ((x.ln n).credit + (s n).owed); omega
              crd := by show 0 ≤ (x.ln n).credit + (s n).owed; omega }
          · show LRel (updL x.ln j _ n) (updL s j _ n)
            rw [updL_ne _ _ e, updL_ne _ _ e]
            exact h.lns n hn }
    · unfold Dn.mu
      rcases four_cases hj with rfl | rfl | rfl | rfl
      all_goals
        simp only [updL]
        simp [ho]

/-- The frames one behind the other. -/
def TellsL (N : Nat) (z1 : XM) (z2 : List Fr) (z3 : XM) : Prop := ∀ Z : XM → List Fr → XM → Prop, (∀ (x : XM), Z x [] x) → (∀ (x y z : XM) (f : Fr) (fs : List Fr) (x1 : (∃ d s, Rel N x d s)) (x2 : Tells x f y) (x3 : Z y fs z), Z x (f :: fs) z) → Z z1 z2 z3
theorem TellsL.nil {N : Nat} {x : XM} : TellsL N x [] x := fun Z zk1 zk2 => zk1 x
theorem TellsL.cons {N : Nat} {x y z : XM} {f : Fr} {fs : List Fr} (x1 : (∃ d s, Rel N x d s)) (x2 : Tells x f y) (x3 : TellsL N y fs z) : TellsL N x (f :: fs) z := fun Z zk1 zk2 => zk2 x y z f fs x1 x2 (x3 Z zk1 zk2)
theorem TellsL.ind {N : Nat} {motive : ∀ (z1 : XM) (z2 : List Fr) (z3 : XM), TellsL N z1 z2 z3 → Prop} (nil : ∀ {x : XM}, motive x [] x (@TellsL.nil N x)) (cons : ∀ {x y z : XM} {f : Fr} {fs : List Fr} (x1 : (∃ d s, Rel N x d s)) (x2 : Tells x f y) (x3 : TellsL N y fs z) (ih : motive y fs z x3), motive x (f :: fs) z (@TellsL.cons N x y z f fs x1 x2 x3)) {z1 : XM} {z2 : List Fr} {z3 : XM} (zt : TellsL N z1 z2 z3) : motive z1 z2 z3 zt := (zt (fun z1 z2 z3 => ∃ zt : TellsL N z1 z2 z3, motive z1 z2 z3 zt) (fun x => ⟨_, @nil x⟩) (fun x y z f fs x1 x2 zy => zy.elim fun x3 zx => ⟨_, @cons x y z f fs x1 x2 x3 zx⟩)).elim fun _ zx => zx
theorem TellsL.cf {x y : XM} {fs : List Fr} (h : TellsL N x fs y) : y.cf = x.cf ∧ ∀ f ∈ fs, f.body.length = 4 ∧ FrFits f := by
  induction h using TellsL.ind with
  | nil => exact ⟨rfl, fun f hf => by cases hf⟩
  | cons _ h1 _ ih =>
    refine ⟨ih.1.trans h1.cf.1, fun f hf => ?_⟩
    rcases List.mem_cons.1 hf with rfl | hf
    · exact h1.cf.2
    · exact ih.2 f hf
theorem layFs_cons (f : Fr) (fs : List Fr) : layFs (f :: fs) = lay f.kind f.flags f.stream f.body ++ layFs fs := by simp [layFs]
theorem Rel.runs : ∀ (n : Nat) {x : XM} {d : Dn} {s : Nat → Sn} (out : List UInt8), d.mu s ≤ n → out.length + 10 * n ≤ 100 → Rel N x d s → ∃ fs x' d' s', Runs 1099511627776 (gD x.cf d s out) (gD x.cf d' s' (out ++ layFs fs)) ∧ TellsL N x fs x' ∧ Rel N x' d' s' ∧ Quiet x.cf.b d' s' ∧ fs.length ≤ n ∧ SameT d d' := by
  intro n
  induction n with
  | zero =>
    intro x d s out hm ho h
    rcases h.step out with ⟨h1, h2⟩ | ⟨f, x', d', s', h1, h2, h3, h4, h5⟩
    · exact ⟨[], x, d, s, by rw [show layFs [] = [] from rfl, List.append_nil]; exact .none h1, .nil, h, h2, Nat.le_refl _, SameT.refl d⟩
    · omega
  | succ n ih =>
    intro x d s out hm ho h
    rcases h.step out with ⟨h1, h2⟩ | ⟨f, x', d', s', h1, h2, h3, h4, h5⟩
    · exact ⟨[], x, d, s, by rw [show layFs [] = [] from rfl, List.append_nil]; exact .none h1, .nil, h, h2, Nat.zero_le _, SameT.refl d⟩
    · obtain ⟨e1, e2, e3⟩ := h2.cf
      have hlen : (out ++ lay f.kind f.flags f.stream f.body).length = out.length + 10 := by rw [List.length_append, lay_len, e2]
      obtain ⟨fs, x2, d2, s2, r1, r2, r3, r4, r5, r6⟩ := ih (out ++ lay f.kind f.flags f.stream f.body) (by omega) (by omega) h3
      refine ⟨f :: fs, x2, d2, s2, ?_, .cons ⟨d, s, h⟩ h2 r2, r3, by rw [← e1]; exact r4, by simp; omega, h5.trans r6⟩
      rw [layFs_cons, ← List.append_assoc]
      rw [e1] at h1 r1
      refine .step ?_ h1 r1
      show (out.length : Int) < _
      omega
theorem Rel.take (h : Rel N x d s) : ∃ fs x' d' s', Runs 1099511627776 (gD x.cf d s []) (gD x.cf d' s' (layFs fs)) ∧ TellsL N x fs x' ∧ Rel N x' d' s' ∧ Quiet x.cf.b d' s' ∧ fs.length ≤ 7 ∧ SameT d d' := h.runs 7 [] (d.mu_le s) (by simp)
end
end Go.Proofs.YtlhlmgfblbpdpaaGreatDoor
/-
  Package ends: Data for which there is no room, padded or not.
-/
namespace Go.Proofs.YtlhlmgfblbpdpaaGreatDoor
set_option linter.unusedVariables false
set_option linter.unusedSimpArgs false
open Go.RowKit

set_option maxRecDepth 100000 in
set_option maxHeartbeats 800000 in
theorem comeData_flow1 (eb mb : Nat) (g : GEnd) (s : GSt) (f : Int) (sv : Option Addr) (len cb : Nat) (sc : Option Addr) (cl cc : Nat) (w : World) (h : Inv w eb mb g) (hs : s ∈ g.K) (ha : s.st.announced = true) (hh : s.st.hasAll = false) (hr : s.st.reset = 0) (hl : 1 ≤ (len : Int) ∧ g.m.receive < (len : Int)) :
    Calls Tryz.prog 73 #[.pointer (some ⟨eb, 0, none⟩), dataP f s.st.number sv len cb sc cl cc] w fun e w' => e = .panicked [{ v := .iface 41 (.int .i64 12), recovered := false }] ∧ Below w.heap.size w w' := by
  have hbA : Below w.heap.size w (w.alloc (.cells #[.int .i64 0, .int .i64 f, .int .i64 s.st.number, .slice sv len cb, .slice sc cl cc] 136)) := (Below.refl _ _).alloc (Nat.le_refl _) _
  have hA := h.below hbA
  have han := announced_any eb mb g.m _ s.st.number _ hA.en h.km hA.kn
  rw [hA.find hs] at han
  simp only [GSt.str, ha, if_true] at han
  have HAN := hide han
  have k9 := (hA.st hs).c9
  rw [hh] at k9
  have k10 := (hA.st hs).c10
  rw [hr] at k10
  have c5 := hA.en.c5
  have HB := hide hbA
  obtain ⟨l1, l2⟩ := hl
  clear h hA han hbA
  unfold dataP
  go_enter Tryz.func73, Tryz.ntmps73
  go_wp2_with fail
  refine HAN.out.mono ?_
  rintro e w' ⟨hw', rfl⟩
  rw [hw']
  clear hw' w'
  go_wp2
  exact ⟨rfl, rfl, HB.out⟩
set_option maxRecDepth 100000 in
set_option maxHeartbeats 800000 in
/-- There is room in all, but none on the stream. -/
theorem comeData_flow2 (eb mb : Nat) (g : GEnd) (s : GSt) (f : Int) (sv : Option Addr) (len cb : Nat) (sc : Option Addr) (cl cc : Nat) (w : World) (h : Inv w eb mb g) (hs : s ∈ g.K) (ha : s.st.announced = true) (hh : s.st.hasAll = false) (hr : s.st.reset = 0) (hl : 1 ≤ (len : Int) ∧ (len : Int) ≤ g.m.receive ∧ g.m.own + s.st.receive < (len : Int)) (b4 : -1099511627776 ≤ g.m.own ∧ g.m.own ≤ 1099511627776) (b5 : -1099511627776 ≤ s.st.receive ∧ s.st.receive ≤ 1099511627776) :
    Calls Tryz.prog 73 #[.pointer (some ⟨eb, 0, none⟩), dataP f s.st.number sv len cb sc cl cc] w fun e w' => e = .panicked [{ v := .iface 41 (.int .i64 12), recovered := false }] ∧ Below w.heap.size w w' := by
  have hbA : Below w.heap.size w (w.alloc (.cells #[.int .i64 0, .int .i64 f, .int .i64 s.st.number, .slice sv len cb, .slice sc cl cc] 136)) := (Below.refl _ _).alloc (Nat.le_refl _) _
  have hA := h.below hbA
  have han := announced_any eb mb g.m _ s.st.number _ hA.en h.km hA.kn
  rw [hA.find hs] at han
  simp only [GSt.str, ha, if_true] at han
  have hir := isReset_any s.sb s.st _ (hA.st hs)
  rw [show (!(s.st.reset == 0)) = false from by rw [hr]; rfl] at hir
  have HAN := hide han
  have HIR := hide hir
  have HRW := hide (receiveWindow_any eb s.sb g.m s.st _ hA.en (hA.st hs) (by omega) (by omega) (by omega) (by omega))
  have k9 := (hA.st hs).c9
  rw [hh] at k9
  have k10 := (hA.st hs).c10
  rw [hr] at k10
  have c5 := hA.en.c5
  have HB := hide hbA
  obtain ⟨l1, l2, l3⟩ := hl
  have hge : ((1 : Int) ≤ (len : Int)) = True := eq_true (by omega)
  have hgt : ((g.m.receive : Int) < (len : Int)) = False := eq_false (by omega)
  have hgt2 : (g.m.own + s.st.receive < (len : Int)) = True := eq_true (by omega)
  clear h hA han hir hbA l1 l2 l3
  unfold dataP
  go_enter Tryz.func73, Tryz.ntmps73
  go_wp2_with fail
  refine HAN.out.mono ?_
  rintro e w' ⟨hw', rfl⟩
  rw [hw']
  clear hw' w'
  go_wp2_with fail
  refine HIR.out.mono ?_
  rintro e w' ⟨rfl, hw'⟩
  rw [hw']
  clear hw' w'
  go_wp2_with fail
  refine HRW.out.mono ?_
  rintro e wB ⟨rfl, hbB⟩
  have HBB : Hid (Below w.heap.size w wB) := HB.out.trans (hbB.mono HB.out.size)
  clear hbB
  go_wp2
  exact ⟨rfl, rfl, HBB.out⟩
/-- No room. -/
theorem comeData_flowP (eb mb : Nat) (g : GEnd) (s : GSt) (f : Int) (sv : Option Addr) (len cb : Nat) (sc : Option Addr) (cl cc : Nat) (w : World) (h : Inv w eb mb g) (hs : s ∈ g.K) (ha : s.st.announced = true) (hh : s.st.hasAll = false) (hr : s.st.reset = 0) (h1 : 1 ≤ (len : Int)) (hl : g.m.receive < (len : Int) ∨ g.m.own + s.st.receive < (len : Int)) (b4 : -1099511627776 ≤ g.m.own ∧ g.m.own ≤ 1099511627776) (b5 : -1099511627776 ≤ s.st.receive ∧ s.st.receive ≤ 1099511627776) :
    Calls Tryz.prog 73 #[.pointer (some ⟨eb, 0, none⟩), dataP f s.st.number sv len cb sc cl cc] w fun e w' => e = .panicked [{ v := .iface 41 (.int .i64 12), recovered := false }] ∧ Below w.heap.size w w' := by
  by_cases hc : g.m.receive < (len : Int)
  · exact comeData_flow1 eb mb g s f sv len cb sc cl cc w h hs ha hh hr ⟨h1, hc⟩
  · exact comeData_flow2 eb mb g s f sv len cb sc cl cc w h hs ha hh hr ⟨h1, by omega, by omega⟩ b4 b5
section
variable (eb mb : Nat) (g : GEnd) (w : World) (R S : World → Prop) (code : Int)
set_option maxRecDepth 100000 in
set_option maxHeartbeats 800000 in
theorem come2_dataP (f n : Int) (sv : Option Addr) (len cb : Nat) (sc : Option Addr) (cl cc : Nat) (h : Inv w eb mb g) (hb : g.m.bstream = 0) (hbg : g.m.begun = true) (hc : ∀ w1 g1, Ahead w w1 eb mb g g1 → Calls Tryz.prog 73 #[.pointer (some ⟨eb, 0, none⟩), .agg #[.int .i64 0, .int .i64 f, .int .i64 n, .slice sv len cb, .slice sc cl cc]] w1 fun e w' => (e = .returned (.tuple #[]) ∧ R w') ∨ (e = .panicked [{ v := .iface 41 (.int .i64 code), recovered := false }] ∧ S w')) :
    Calls Tryz.prog 55 #[.pointer (some ⟨eb, 0, none⟩), .iface 136 (.agg #[.int .i64 0, .int .i64 f, .int .i64 n, .slice sv len cb, .slice sc cl cc])] w fun e w' => (e = .returned (.tuple #[]) ∧ R w') ∨ (e = .panicked [{ v := .iface 41 (.int .i64 code), recovered := false }] ∧ S w') := by
  have hta : ∀ (x : Value) (w : World), (Instr.typeAssert (.iface 136 x) 124 136 true).run Tryz.prog w = .ok (.tuple #[x, .bool true]) w := fun _ _ => by kernel_rfl
  have HT := hide (checkTurn_ok eb g.m 136 (.agg #[.int .i64 0, .int .i64 f, .int .i64 n, .slice sv len cb, .slice sc cl cc]) w h.en (by simp) hb (Or.inl hbg))
  have HC : Hid (∀ w0 o, Below w.heap.size w w0 → Calls Tryz.prog 73 #[.pointer (some ⟨eb, 0, none⟩), .agg #[.int .i64 0, .int .i64 f, .int .i64 n, .slice sv len cb, .slice sc cl cc]] ((w0.setCell ⟨eb, 30, none⟩ (.bool true)).alloc o) fun e w' => (e = .returned (.tuple #[]) ∧ R w') ∨ (e = .panicked [{ v := .iface 41 (.int .i64 code), recovered := false }] ∧ S w')) := fun w0 o hb0 => by
    obtain ⟨g1, h1, h2⟩ := (h.below hb0).begins
    exact hc _ g1 (ahead_of hb0 h1 h2 ((Below.refl _ _).alloc (Nat.le_refl _) _))
  have HE : Hid (∀ w0, Below w.heap.size w w0 → w0.cell? ⟨eb, 30, none⟩ = some (.bool g.m.begun) ∧ w0.frozen? ⟨eb, 30, none⟩ = false ∧ eb < w0.heap.size) := fun w0 hb0 => ⟨(h.below hb0).en.c30, (h.below hb0).en.fr 30, (h.below hb0).en.lt⟩
  clear h hb hbg hc
  go_enter Tryz.func55, Tryz.ntmps55
  go_wp2_with fail
  refine HT.out.mono ?_
  rintro e w0 ⟨rfl, hb0⟩
  obtain ⟨k30, f30, hlt⟩ := HE.out w0 hb0
  have HB0 := hide hb0
  clear hb0
  go_wp2_with fail
  refine (HC.out w0 _ HB0.out).mono ?_
  rintro e w' (⟨rfl, hx⟩ | ⟨rfl, hx⟩)
  · have HX := hide hx
    clear hx
    go_wp2
    exact bodyPost_end (results_none rfl _ _ _) rfl (Or.inl ⟨rfl, HX.out⟩)
  · have HX := hide hx
    clear hx
    go_wp2
    exact ⟨rfl, Or.inr ⟨rfl, HX.out⟩⟩
end
end Go.Proofs.YtlhlmgfblbpdpaaGreatDoor
/-
  Package ends: Die.
-/
namespace Go.Proofs.YtlhlmgfblbpdpaaGreatDoor
set_option linter.unusedVariables false
set_option linter.unusedSimpArgs false
open Go.RowKit

def EndM.died (m : EndM) (code : Int) : EndM := { m with fault := code, greeted := 0, got := .slice none 0 0, hlen := 0, hkind := 0, hflags := 0, hstream := 0, begun := false, bstream := 0, bbytes := .slice none 0 0, blast := false, newest := 0, ulim := 0, usz := 0, utab := .slice none 0 0, umost := 0, parted := false, answers := .slice none 0 0, resets := .slice none 0 0, next := 0, lastData := 0, plim := 0, psz := 0, ptab := .slice none 0 0, pwait := .slice none 0 0 }
def GSt.mute (s : GSt) : GSt := { s with st := { s.st with waiting := .slice none 0 0 }, wa := [] }
def muteN (l : List Int) (K : List GSt) : List GSt := K.map fun s => if s.st.number ∈ l then s.mute else s
/-- An end that died. -/
def GEnd.died (g : GEnd) (code : Int) : GEnd := ⟨g.m.died code, muteN g.L g.K, g.L, g.out, [], [], []⟩
theorem muteN_nil (K : List GSt) : muteN [] K = K := by unfold muteN; simp
theorem muteN_step (l : List Int) (n : Int) (K : List GSt) : updN n GSt.mute (muteN l K) = muteN (l ++ [n]) K := by
  unfold updN muteN
  rw [List.map_map]
  apply List.map_congr_left
  intro s _
  have e : s.mute.st.number = s.st.number := rfl
  simp only [Function.comp, List.mem_append, List.mem_singleton]
  by_cases h1 : s.st.number ∈ l
  · simp only [h1, if_true, true_or, e]
    split <;> rfl
  · simp only [h1, if_false, false_or]
theorem owns_nil8 (w : World) (e : TypeId) : w.ownsRow 0 e 1 (.slice none 0 0) 0 [] := ⟨rfl, .inl ⟨rfl, rfl⟩⟩
theorem rowAt_nil (w : World) (e : TypeId) (size : Nat) : RowAt w e size (.slice none 0 0) 0 [] := ⟨by simp, .inl ⟨rfl, rfl⟩⟩
section
variable {w w' : World} {eb mb : Nat} {g : GEnd}
/-- Where an end gave up: only its own cells, what the reader had and what is not its own have changed since it was whole. -/
structure GaveE (W w : World) (eb mb : Nat) (g0 g : GEnd) (wI : World) (m0 : EndM) (code : Int) : Prop where
  nx : Next W wI eb mb g0 g
  en : EnB w eb m0
  same : m0.died code = g.m.died code
  chg : Chg (fun j => j = eb ∨ g.m.got.ownBlock = some j ∨ (W.heap.size ≤ j ∧ ¬ Foot eb mb g j)) wI w
  few : g.L.length ≤ 1048576
/-- The end's own cells, behind the fault. -/
theorem Next.onDie {W : World} {g0 : GEnd} {code : Int} (hn : Next W w eb mb g0 g) (hc : Chg (fun j => j = eb ∨ g.m.got.ownBlock = some j ∨ (W.heap.size ≤ j ∧ ¬ Foot eb mb g j)) w w') (hen : EnB w' eb (g.m.died code)) : Next W w' eb mb g0 { g with m := g.m.died code, got := [], ans := [], res := [] } := by
  have h := hn.inv
  refine ⟨⟨hen, h.kn.chg hc (fun e => ?_) (fun p hp e => ?_), h.km, h.nd, h.nn, h.ln, h.has, ?_, ?_, owns_nil8 _ _, fun p hp => ?_, fun p hp => ?_, rowAt_nil _ _ _, fun a ha => (by cases ha), rowAt_nil _ _ _, ?_⟩, hn.chg.trans (hc.mono fun j _ e => ?_), fun j hj => hn.grow j ?_⟩
  · rcases e with a | a | a
    · exact h.eb_mb a
    · exact owns_mb h.kn h.got a
    · exact a.2 (Or.inr (Or.inl rfl))
  · obtain ⟨q, hq, rfl⟩ := List.mem_map.1 hp
    rcases e with a | a | a
    · exact h.st_eb hq a
    · exact owns_ne h.got (h.st hq).blk (by decide) a
    · exact a.2 (h.foot_st hq)
  · refine owns_chg h.row hc (fun j hj e => ?_)
    rcases e with a | a | a
    · rw [a] at hj; exact owns_ne h.row h.en.blk (by decide) hj
    · exact rows_ne h.got h.row (by decide) a hj
    · exact a.2 (Or.inr (Or.inr (Or.inr (Or.inr (Or.inl hj)))))
  · refine owns_chg h.out hc (fun j hj e => ?_)
    rcases e with a | a | a
    · rw [a] at hj; exact owns_ne h.out h.en.blk (by decide) hj
    · exact h.out_got hj a
    · exact a.2 (Or.inr (Or.inr (Or.inl hj)))
  · refine owns_chg (h.un p hp) hc (fun j hj e => ?_)
    rcases e with a | a | a
    · rw [a] at hj; exact owns_ne (h.un p hp) h.en.blk (by decide) hj
    · exact h.got_un hp hj a
    · exact a.2 (foot_un (g := g) hp hj)
  · refine owns_chg (h.wa p hp) hc (fun j hj e => ?_)
    rcases e with a | a | a
    · rw [a] at hj; exact owns_ne (h.wa p hp) h.en.blk (by decide) hj
    · exact h.got_wa hp hj a
    · exact a.2 (foot_wa (g := g) hp hj)
  · exact h.apart (fun _ => 0) (g.m.died code) g.K [] (fun j hj => Or.inl hj) (fun j hj => by cases hj) (fun p hp' j hj => Or.inl ⟨p, hp', rfl, hj⟩) (fun p hp' j hj => Or.inl ⟨p, hp', rfl, hj⟩) (fun a ha' j hj => by cases ha')
  · rcases e with a | a | a
    · rcases hn.grow j (Or.inl a) with b | b
      · exact Or.inr b
      · exact Or.inl b
    · rcases hn.grow j (Or.inr (Or.inr (Or.inr (Or.inl a)))) with b | b
      · exact Or.inr b
      · exact Or.inl b
    · exact Or.inl a.1
  · unfold Foot at hj ⊢
    rcases hj with e | e | e | e | e | e | e | ⟨a, ha', e⟩ | e
    · simp [e]
    · simp [e]
    · exact Or.inr (Or.inr (Or.inl e))
    · cases e
    · exact Or.inr (Or.inr (Or.inr (Or.inr (Or.inl e))))
    · cases e
    · cases e
    · cases ha'
    · exact Or.inr (Or.inr (Or.inr (Or.inr (Or.inr (Or.inr (Or.inr (Or.inr e)))))))
/-- One of its streams keeps nothing to send. -/
theorem Inv.onMute {s : GSt} (h : Inv w eb mb g) (hs : s ∈ g.K) : Next w (w.setCell ⟨s.sb, 12, none⟩ (.slice none 0 0)) eb mb g { g with K := updN s.st.number GSt.mute g.K } := by
  have hc : Chg (fun j => j = s.sb) w (w.setCell ⟨s.sb, 12, none⟩ (.slice none 0 0)) := chg_set (Chg.refl _ _) rfl
  have keep : ∀ {k : Nat} {v' : Value} {xs : List Value} {ty : TypeId}, w.ownsRow 0 ty 1 v' k xs → (∀ j, v'.ownBlock = some j → j ≠ s.sb) → (w.setCell ⟨s.sb, 12, none⟩ (.slice none 0 0)).ownsRow 0 ty 1 v' k xs := fun hr hj => owns_chg hr hc (fun j hjj e => hj j hjj e)
  have hn := h.onSt (S := fun j => j = s.sb) (m' := g.m) (s := s) (s' := s.mute) (L' := g.L) (o' := g.out) 0 hs hc (fun j e => Or.inr (Or.inl e)) (h.en.chg hc (fun e => h.st_eb hs e.symm)) (StB.of (blk_set (h.st hs).blk) rfl) rfl rfl rfl rfl rfl rfl
    (keep h.row (fun j hj e => by rw [e] at hj; exact owns_ne h.row (h.st hs).blk (by decide) hj)) (fun j hj => Or.inl hj) (List.Sublist.refl _)
    (keep h.out (fun j hj e => by rw [e] at hj; exact owns_ne h.out (h.st hs).blk (by decide) hj)) (fun j hj => Or.inl hj)
    (keep (h.un s hs) (fun j hj e => by rw [e] at hj; exact owns_ne (h.un s hs) (h.st hs).blk (by decide) hj)) (fun j hj => Or.inl hj)
    (owns_nil8 _ _) (fun j hj => by cases hj)
  rw [updN_const (f := GSt.mute) h.nn hs rfl] at hn
  exact hn
end
theorem foot_died {eb mb : Nat} {g : GEnd} {code : Int} {j : Nat} (h : Foot eb mb { g with m := g.m.died code, got := [], ans := [], res := [] } j) : Foot eb mb g j := by
  unfold Foot at h ⊢
  rcases h with e | e | e | e | e | e | e | ⟨a, ha', e⟩ | e
  · simp [e]
  · simp [e]
  · exact Or.inr (Or.inr (Or.inl e))
  · cases e
  · exact Or.inr (Or.inr (Or.inr (Or.inr (Or.inl e))))
  · cases e
  · cases e
  · cases ha'
  · exact Or.inr (Or.inr (Or.inr (Or.inr (Or.inr (Or.inr (Or.inr (Or.inr e)))))))
theorem foot_mute {eb mb : Nat} {g : GEnd} {n : Int} {j : Nat} (h : Foot eb mb { g with K := updN n GSt.mute g.K } j) : Foot eb mb g j := by
  unfold Foot at h ⊢
  rcases h with e | e | e | e | e | e | e | e | ⟨p, hp, e⟩
  · exact Or.inl e
  · exact Or.inr (Or.inl e)
  · exact Or.inr (Or.inr (Or.inl e))
  · exact Or.inr (Or.inr (Or.inr (Or.inl e)))
  · exact Or.inr (Or.inr (Or.inr (Or.inr (Or.inl e))))
  · exact Or.inr (Or.inr (Or.inr (Or.inr (Or.inr (Or.inl e)))))
  · exact Or.inr (Or.inr (Or.inr (Or.inr (Or.inr (Or.inr (Or.inl e))))))
  · exact Or.inr (Or.inr (Or.inr (Or.inr (Or.inr (Or.inr (Or.inr (Or.inl e)))))))
  · refine Or.inr (Or.inr (Or.inr (Or.inr (Or.inr (Or.inr (Or.inr (Or.inr ?_)))))))
    obtain ⟨s, hs, rfl⟩ := List.mem_map.1 hp
    refine ⟨s, hs, ?_⟩
    split at e
    · rcases e with e | e | e
      · exact Or.inl e
      · exact Or.inr (Or.inl e)
      · cases e
    · exact e
/-- What the end still makes, cell by cell. -/
def GoingC (w : World) (eb : Nat) (m : EndM) : Prop := eb < w.heap.size ∧ w.cell? ⟨eb, 39, none⟩ = some (.bool m.greets) ∧ w.frozen? ⟨eb, 39, none⟩ = false ∧ w.cell? ⟨eb, 40, none⟩ = some (.bool m.parted) ∧ w.frozen? ⟨eb, 40, none⟩ = false ∧ w.cell? ⟨eb, 41, none⟩ = some (m.out) ∧ w.frozen? ⟨eb, 41, none⟩ = false ∧ w.cell? ⟨eb, 42, none⟩ = some (m.answers) ∧ w.frozen? ⟨eb, 42, none⟩ = false ∧ w.cell? ⟨eb, 43, none⟩ = some (m.resets) ∧ w.frozen? ⟨eb, 43, none⟩ = false ∧ w.cell? ⟨eb, 44, none⟩ = some (.int .i64 m.next) ∧ w.frozen? ⟨eb, 44, none⟩ = false ∧ w.cell? ⟨eb, 45, none⟩ = some (.int .i64 m.lastData) ∧ w.frozen? ⟨eb, 45, none⟩ = false ∧ w.cell? ⟨eb, 46, none⟩ = some (.int .i64 m.plim) ∧ w.frozen? ⟨eb, 46, none⟩ = false ∧ w.cell? ⟨eb, 47, none⟩ = some (.int .i64 m.psz) ∧ w.frozen? ⟨eb, 47, none⟩ = false ∧ w.cell? ⟨eb, 48, none⟩ = some (m.ptab) ∧ w.frozen? ⟨eb, 48, none⟩ = false ∧ w.cell? ⟨eb, 49, none⟩ = some (m.pwait) ∧ w.frozen? ⟨eb, 49, none⟩ = false
theorem EnB.going {w : World} {eb : Nat} {m : EndM} (h : EnB w eb m) : GoingC w eb m := ⟨h.lt, h.c39, h.fr 39, h.c40, h.fr 40, h.c41, h.fr 41, h.c42, h.fr 42, h.c43, h.fr 43, h.c44, h.fr 44, h.c45, h.fr 45, h.c46, h.fr 46, h.c47, h.fr 47, h.c48, h.fr 48, h.c49, h.fr 49⟩
def EndM.deaf (m : EndM) (code : Int) : EndM := { m with fault := code, greeted := 0, got := .slice none 0 0, hlen := 0, hkind := 0, hflags := 0, hstream := 0, begun := false, bstream := 0, bbytes := .slice none 0 0, blast := false, newest := 0, ulim := 0, usz := 0, utab := .slice none 0 0, umost := 0 }
theorem deaf_en {w : World} {eb : Nat} {m0 : EndM} (code : Int) (h : EnB w eb m0) : EnB ((((((((((((((((w.setCell ⟨eb, 1, none⟩ (.int .i64 code)).setCell ⟨eb, 24, none⟩ (.int .i64 0)).setCell ⟨eb, 25, none⟩ (.slice none 0 0)).setCell ⟨eb, 26, none⟩ (.int .i64 0)).setCell ⟨eb, 27, none⟩ (.int .i64 0)).setCell ⟨eb, 28, none⟩ (.int .i64 0)).setCell ⟨eb, 29, none⟩ (.int .i64 0)).setCell ⟨eb, 30, none⟩ (.bool false)).setCell ⟨eb, 31, none⟩ (.int .i64 0)).setCell ⟨eb, 32, none⟩ (.slice none 0 0)).setCell ⟨eb, 33, none⟩ (.bool false)).setCell ⟨eb, 34, none⟩ (.int .i64 0)).setCell ⟨eb, 35, none⟩ (.int .i64 0)).setCell ⟨eb, 36, none⟩ (.int .i64 0)).setCell ⟨eb, 37, none⟩ (.slice none 0 0)).setCell ⟨eb, 38, none⟩ (.int .i64 0)) eb (m0.deaf code) ∧ Chg (fun j => j = eb) w ((((((((((((((((w.setCell ⟨eb, 1, none⟩ (.int .i64 code)).setCell ⟨eb, 24, none⟩ (.int .i64 0)).setCell ⟨eb, 25, none⟩ (.slice none 0 0)).setCell ⟨eb, 26, none⟩ (.int .i64 0)).setCell ⟨eb, 27, none⟩ (.int .i64 0)).setCell ⟨eb, 28, none⟩ (.int .i64 0)).setCell ⟨eb, 29, none⟩ (.int .i64 0)).setCell ⟨eb, 30, none⟩ (.bool false)).setCell ⟨eb, 31, none⟩ (.int .i64 0)).setCell ⟨eb, 32, none⟩ (.slice none 0 0)).setCell ⟨eb, 33, none⟩ (.bool false)).setCell ⟨eb, 34, none⟩ (.int .i64 0)).setCell ⟨eb, 35, none⟩ (.int .i64 0)).setCell ⟨eb, 36, none⟩ (.int .i64 0)).setCell ⟨eb, 37, none⟩ (.slice none 0 0)).setCell ⟨eb, 38, none⟩ (.int .i64 0)) := by
  refine ⟨EnB.of (cs := _) (blk_set (blk_set (blk_set (blk_set (blk_set (blk_set (blk_set (blk_set (blk_set (blk_set (blk_set (blk_set (blk_set (blk_set (blk_set (blk_set h.blk)))))))))))))))) (by simp [EndM.cells, EndM.deaf]), ?_⟩
  exact (chg_set (chg_set (chg_set (chg_set (chg_set (chg_set (chg_set (chg_set (chg_set (chg_set (chg_set (chg_set (chg_set (chg_set (chg_set (chg_set (Chg.refl _ _) rfl) rfl) rfl) rfl) rfl) rfl) rfl) rfl) rfl) rfl) rfl) rfl) rfl) rfl) rfl) rfl)
theorem EnB.drewE {w : World} {eb : Nat} {m : EndM} (h : EnB w eb m) : EnB w.drew eb m := ⟨h.blk⟩
theorem dumb_en {wB : World} {eb : Nat} {m0 : EndM} (code : Int) (h : EnB wB eb (m0.deaf code)) : EnB ((((((((((((wB).setCell ⟨eb, 39, none⟩ (.bool m0.greets)).setCell ⟨eb, 40, none⟩ (.bool false)).setCell ⟨eb, 41, none⟩ (m0.out)).setCell ⟨eb, 42, none⟩ (.slice none 0 0)).setCell ⟨eb, 43, none⟩ (.slice none 0 0)).setCell ⟨eb, 44, none⟩ (.int .i64 0)).setCell ⟨eb, 45, none⟩ (.int .i64 0)).setCell ⟨eb, 46, none⟩ (.int .i64 0)).setCell ⟨eb, 47, none⟩ (.int .i64 0)).setCell ⟨eb, 48, none⟩ (.slice none 0 0)).setCell ⟨eb, 49, none⟩ (.slice none 0 0)) eb (m0.died code) ∧ Chg (fun j => j = eb) wB ((((((((((((wB).setCell ⟨eb, 39, none⟩ (.bool m0.greets)).setCell ⟨eb, 40, none⟩ (.bool false)).setCell ⟨eb, 41, none⟩ (m0.out)).setCell ⟨eb, 42, none⟩ (.slice none 0 0)).setCell ⟨eb, 43, none⟩ (.slice none 0 0)).setCell ⟨eb, 44, none⟩ (.int .i64 0)).setCell ⟨eb, 45, none⟩ (.int .i64 0)).setCell ⟨eb, 46, none⟩ (.int .i64 0)).setCell ⟨eb, 47, none⟩ (.int .i64 0)).setCell ⟨eb, 48, none⟩ (.slice none 0 0)).setCell ⟨eb, 49, none⟩ (.slice none 0 0)) := by
  refine ⟨EnB.of (cs := _) (blk_set (blk_set (blk_set (blk_set (blk_set (blk_set (blk_set (blk_set (blk_set (blk_set (blk_set h.blk))))))))))) (by simp [EndM.cells, EndM.deaf, EndM.died]), ?_⟩
  exact (chg_set (chg_set (chg_set (chg_set (chg_set (chg_set (chg_set (chg_set (chg_set (chg_set (chg_set (Chg.refl _ _) rfl) rfl) rfl) rfl) rfl) rfl) rfl) rfl) rfl) rfl) rfl)
theorem died_en {wB : World} {eb : Nat} {m0 : EndM} (code : Int) (h : EnB wB eb (m0.deaf code)) : EnB ((((((((((((wB).setCell ⟨eb, 39, none⟩ (.bool m0.greets)).setCell ⟨eb, 40, none⟩ (.bool false)).setCell ⟨eb, 41, none⟩ (m0.out)).setCell ⟨eb, 42, none⟩ (.slice none 0 0)).setCell ⟨eb, 43, none⟩ (.slice none 0 0)).setCell ⟨eb, 44, none⟩ (.int .i64 0)).setCell ⟨eb, 45, none⟩ (.int .i64 0)).setCell ⟨eb, 46, none⟩ (.int .i64 0)).setCell ⟨eb, 47, none⟩ (.int .i64 0)).setCell ⟨eb, 48, none⟩ (.slice none 0 0)).setCell ⟨eb, 49, none⟩ (.slice none 0 0)).drew eb (m0.died code) ∧ Chg (fun j => j = eb) wB ((((((((((((wB).setCell ⟨eb, 39, none⟩ (.bool m0.greets)).setCell ⟨eb, 40, none⟩ (.bool false)).setCell ⟨eb, 41, none⟩ (m0.out)).setCell ⟨eb, 42, none⟩ (.slice none 0 0)).setCell ⟨eb, 43, none⟩ (.slice none 0 0)).setCell ⟨eb, 44, none⟩ (.int .i64 0)).setCell ⟨eb, 45, none⟩ (.int .i64 0)).setCell ⟨eb, 46, none⟩ (.int .i64 0)).setCell ⟨eb, 47, none⟩ (.int .i64 0)).setCell ⟨eb, 48, none⟩ (.slice none 0 0)).setCell ⟨eb, 49, none⟩ (.slice none 0 0)).drew := ⟨EnB.drewE (dumb_en code h).1, (dumb_en code h).2.drew⟩
set_option maxRecDepth 100000 in
set_option maxHeartbeats 1600000 in
theorem eDie_any (W : World) (eb mb : Nat) (g0 g : GEnd) (wI : World) (m0 : EndM) (code : Int) (w : World) (h : GaveE W w eb mb g0 g wI m0 code) :
    Calls Tryz.prog 23 #[.pointer (some ⟨eb, 0, none⟩), .int .i64 code] w fun e w' => e = .returned (.tuple #[]) ∧ (∃ g', g'.bare = g.bare.died code ∧ RdOk g' ∧ Next W w' eb mb g0 g') ∧ Chg (fun j => Foot eb mb g j) w w' := by
  have c1 := h.en.c1
  have f1 := h.en.fr 1
  have c24 := h.en.c24
  have f24 := h.en.fr 24
  have c25 := h.en.c25
  have f25 := h.en.fr 25
  have c26 := h.en.c26
  have f26 := h.en.fr 26
  have c27 := h.en.c27
  have f27 := h.en.fr 27
  have c28 := h.en.c28
  have f28 := h.en.fr 28
  have c29 := h.en.c29
  have f29 := h.en.fr 29
  have c30 := h.en.c30
  have f30 := h.en.fr 30
  have c31 := h.en.c31
  have f31 := h.en.fr 31
  have c32 := h.en.c32
  have f32 := h.en.fr 32
  have c33 := h.en.c33
  have f33 := h.en.fr 33
  have c34 := h.en.c34
  have f34 := h.en.fr 34
  have c35 := h.en.c35
  have f35 := h.en.fr 35
  have c36 := h.en.c36
  have f36 := h.en.fr 36
  have c37 := h.en.c37
  have f37 := h.en.fr 37
  have c38 := h.en.c38
  have f38 := h.en.fr 38
  have hlt := h.en.lt
  obtain ⟨hen1, hch1⟩ := deaf_en code h.en
  have HE1 := hide hen1
  have HC1 := hide hch1
  have H := hide h
  clear h hen1 hch1
  go_enter Tryz.func23, Tryz.ntmps23
  go_upto_region 2 with fail
  generalize (((((((((((((((w.setCell ⟨eb, 1, none⟩ (.int .i64 code)).setCell ⟨eb, 24, none⟩ (.int .i64 0)).setCell ⟨eb, 25, none⟩ (.slice none 0 0)).setCell ⟨eb, 26, none⟩ (.int .i64 0)).setCell ⟨eb, 27, none⟩ (.int .i64 0)).setCell ⟨eb, 28, none⟩ (.int .i64 0)).setCell ⟨eb, 29, none⟩ (.int .i64 0)).setCell ⟨eb, 30, none⟩ (.bool false)).setCell ⟨eb, 31, none⟩ (.int .i64 0)).setCell ⟨eb, 32, none⟩ (.slice none 0 0)).setCell ⟨eb, 33, none⟩ (.bool false)).setCell ⟨eb, 34, none⟩ (.int .i64 0)).setCell ⟨eb, 35, none⟩ (.int .i64 0)).setCell ⟨eb, 36, none⟩ (.int .i64 0)).setCell ⟨eb, 37, none⟩ (.slice none 0 0)).setCell ⟨eb, 38, none⟩ (.int .i64 0) = wB at *
  clear c1 f1 c24 f24 c25 f25 c26 f26 c27 f27 c28 f28 c29 f29 c30 f30 c31 f31 c32 f32 c33 f33 c34 f34 c35 f35 c36 f36 c37 f37 c38 f38
  obtain ⟨hen2, hch2⟩ := died_en code HE1.out
  have HE2 := hide hen2
  have HC2 := hide hch2
  have HG : Hid (GoingC wB.drew eb m0) := EnB.going (m := m0.deaf code) ⟨HE1.out.blk⟩
  clear hen2 hch2
  have hltB := HE1.out.lt
  obtain ⟨so, co, hso⟩ : ∃ so co, m0.out = .slice so g.out.length co := by
    obtain ⟨so, co, e⟩ := slice_len H.out.nx.inv.out
    have e2 : (m0.died code).out = (g.m.died code).out := by rw [H.out.same]
    exact ⟨so, co, Eq.trans e2 e⟩
  unfold GoingC at HG
  have c39 : wB.cell? ⟨eb, 39, none⟩ = some (.bool m0.greets) := HE1.out.c39
  have f39 := HE1.out.fr 39
  have c40 : wB.cell? ⟨eb, 40, none⟩ = some (.bool m0.parted) := HE1.out.c40
  have f40 := HE1.out.fr 40
  have c41 : wB.cell? ⟨eb, 41, none⟩ = some (m0.out) := HE1.out.c41
  have f41 := HE1.out.fr 41
  have c42 : wB.cell? ⟨eb, 42, none⟩ = some (m0.answers) := HE1.out.c42
  have f42 := HE1.out.fr 42
  have c43 : wB.cell? ⟨eb, 43, none⟩ = some (m0.resets) := HE1.out.c43
  have f43 := HE1.out.fr 43
  have c44 : wB.cell? ⟨eb, 44, none⟩ = some (.int .i64 m0.next) := HE1.out.c44
  have f44 := HE1.out.fr 44
  have c45 : wB.cell? ⟨eb, 45, none⟩ = some (.int .i64 m0.lastData) := HE1.out.c45
  have f45 := HE1.out.fr 45
  have c46 : wB.cell? ⟨eb, 46, none⟩ = some (.int .i64 m0.plim) := HE1.out.c46
  have f46 := HE1.out.fr 46
  have c47 : wB.cell? ⟨eb, 47, none⟩ = some (.int .i64 m0.psz) := HE1.out.c47
  have f47 := HE1.out.fr 47
  have c48 : wB.cell? ⟨eb, 48, none⟩ = some (m0.ptab) := HE1.out.c48
  have f48 := HE1.out.fr 48
  have c49 : wB.cell? ⟨eb, 49, none⟩ = some (m0.pwait) := HE1.out.c49
  have f49 := HE1.out.fr 49
  rw [hso] at HG HE2 HC2
  rw [hso] at c41
  have HK1 : Hid (wB.drew.cell? ⟨eb, 39, none⟩ = some (.bool m0.greets) ∧ wB.drew.cell? ⟨eb, 41, none⟩ = some (.slice so g.out.length co)) := ⟨c39, c41⟩
  have HK2 := hide (show _ ∧ _ from ⟨HE2.out.c39, HE2.out.c41⟩)
  rw [show (m0.died code).greets = m0.greets from rfl, show (m0.died code).out = m0.out from rfl, hso] at HK2
  go_region_held3 (fun wx => wx.cell? ⟨eb, 39, none⟩ = some (.bool m0.greets) ∧ wx.cell? ⟨eb, 41, none⟩ = some (.slice so g.out.length co)) (first | with_reducible exact HK1.out | with_reducible exact HK2.out) (fail)
  generalize ((((((((((((wB).setCell ⟨eb, 39, none⟩ (.bool m0.greets)).setCell ⟨eb, 40, none⟩ (.bool false)).setCell ⟨eb, 41, none⟩ (.slice so g.out.length co)).setCell ⟨eb, 42, none⟩ (.slice none 0 0)).setCell ⟨eb, 43, none⟩ (.slice none 0 0)).setCell ⟨eb, 44, none⟩ (.int .i64 0)).setCell ⟨eb, 45, none⟩ (.int .i64 0)).setCell ⟨eb, 46, none⟩ (.int .i64 0)).setCell ⟨eb, 47, none⟩ (.int .i64 0)).setCell ⟨eb, 48, none⟩ (.slice none 0 0)).setCell ⟨eb, 49, none⟩ (.slice none 0 0)).drew = wD at *
  clear c39 f39 c40 f40 c41 f41 c42 f42 c43 f43 c44 f44 c45 f45 c46 f46 c47 f47 c48 f48 c49 f49 HK1 HK2 HG hltB hlt
  have hn1 : Next W wD eb mb g0 { g with m := g.m.died code, got := [], ans := [], res := [] } := by
    refine H.out.nx.onDie (H.out.chg.trans ((HC1.out.trans (HC2.out.mono fun j _ e => Or.inr e)).mono fun j _ e => Or.inr (Or.inl e))) ?_
    rw [← H.out.same]
    exact HE2.out
  have HL : Hid (g.L.length ≤ 1048576) := H.out.few
  have HCW : Hid (Chg (fun j => Foot eb mb g j) w wD) := (HC1.out.trans (HC2.out.mono fun j _ e => Or.inr e)).mono fun j _ e => Or.inl e
  clear HE2 HC2 HC1 HE1 H hso
  obtain ⟨g1, hg1⟩ : ∃ g1 : GEnd, g1 = { g with m := g.m.died code, got := [], ans := [], res := [] } := ⟨_, rfl⟩
  rw [← hg1] at hn1
  have hb1 : ({ g1.bare with K := muteN g1.L g1.bare.K } : GEnd) = g.bare.died code := by
    rw [hg1]
    rfl
  have HG1 : Hid (g1.got = []) := by rw [hg1]; rfl
  have HFG : Hid (∀ j, Foot eb mb g1 j → Foot eb mb g j) := fun j hj => by rw [hg1] at hj; exact foot_died hj
  have hL1 : g1.L.length ≤ 1048576 := by rw [hg1]; exact HL.out
  have HB1 := hide hb1
  clear hg1 hb1 HL
  obtain ⟨sp, cp, hop⟩ := slice_len hn1.inv.row
  have c23 := hn1.inv.en.c23
  rw [hop] at c23
  have HN1 := hide hn1
  have HOP := hide hop
  clear hn1 hop
  go_wp2
  go_loopw [34] (fun i wr => ∃ (k : Nat) (wv : World) (c : GEnd), wv = wr ∧ i = .int .i64 (k : Int) ∧ k ≤ g1.L.length ∧ Next W wv eb mb g0 c ∧ c.m.opn = g1.m.opn ∧ c.L = g1.L ∧ c.got = [] ∧ c.bare = { g1.bare with K := muteN (g1.L.take k) g1.bare.K } ∧ Chg (fun j => Foot eb mb g j) w wv ∧ ∀ j, Foot eb mb c j → Foot eb mb g j) (fun i _ => g1.L.length - (intOf i).toNat)
  case atStart => exact ⟨0, _, g1, rfl, rfl, Nat.zero_le _, HN1.out, rfl, rfl, HG1.out, by rw [List.take_zero, muteN_nil], HCW.out, HFG.out⟩
  case round =>
    obtain ⟨k, wv, c, hwv, rfl, hk, hnx, hco, hcL, hcg, hcb, hcw, hfg⟩ := hrel
    subst hwv
    by_cases hlk : k < g1.L.length
    · have hkc : k < c.L.length := by rw [hcL]; exact hlk
      obtain ⟨gr, cr, e1, e2, e3⟩ := hnx.inv.open.at (k := k) (by rw [openS_length]; exact hkc)
      rw [hco, HOP.out, openS_length, hcL] at e1
      simp only [Value.slice.injEq, true_and] at e1
      obtain ⟨rfl, rfl⟩ := e1
      rw [openS_length, hcL] at e3
      have hLk : c.L[k] = g1.L[k] := by simp only [hcL]
      obtain ⟨hm, hmn⟩ := hnx.inv.at (n := c.L[k]) (List.getElem_mem hkc)
      have e4 : ((openS c.K c.L)[k]'(by rw [openS_length]; exact hkc)).1 = (atN c.K c.L[k]).sb := by simp [openS, GSt.str]
      rw [e4] at e2
      have hst := hnx.inv.st hm
      have hmu := hnx.inv.onMute hm
      have k12 := hst.c12
      have q12 := hst.fr 12
      have hslt := hst.lt
      have HNX := hide (hnx.trans hmu)
      have HREL : Hid (({ c with K := updN (atN c.K c.L[k]).st.number GSt.mute c.K } : GEnd).bare = { g1.bare with K := muteN (g1.L.take (k + 1)) g1.bare.K }) := by
        have e5 : ({ c with K := updN (atN c.K c.L[k]).st.number GSt.mute c.K } : GEnd).bare = { c.bare with K := updN (atN c.K c.L[k]).st.number GSt.mute c.bare.K } := by
          unfold GEnd.bare
          simp only [GEnd.mk.injEq, true_and, and_true]
          exact updN_bare _ GSt.mute (fun s => rfl) _
        rw [e5, hcb, hmn, hLk]
        simp only [GEnd.mk.injEq, true_and, and_true]
        rw [muteN_step, List.take_add_one, List.getElem?_eq_getElem hlk]
        rfl
      have HCW2 : Hid (Chg (fun j => Foot eb mb g j) w (wv.setCell ⟨(atN c.K c.L[k]).sb, 12, none⟩ (.slice none 0 0))) := chg_set hcw (hfg _ (hnx.inv.foot_st hm))
      have HFG2 : Hid (∀ j, Foot eb mb { c with K := updN (atN c.K c.L[k]).st.number GSt.mute c.K } j → Foot eb mb g j) := fun j hj => hfg j (foot_mute hj)
      have HCO := hide hco
      have HCL := hide hcL
      have HCG := hide hcg
      generalize (atN c.K c.L[k]).sb = sb at *
      clear hnx hco hcL hcg hcb hst hmu hm hmn e4 hcw hfg
      go_wp2
      all_goals go_roundw
      case rel => exact ⟨k + 1, _, _, rfl, by go_num, by omega, HNX.out, HCO.out, HCL.out, HCG.out, HREL.out, HCW2.out, HFG2.out⟩
      case measure => simp [intOf]; omega
    · have hke : k = g1.L.length := by omega
      rw [hke, List.take_of_length_le (Nat.le_refl _), HB1.out] at hcb
      have HEND : Hid ((∃ g', g'.bare = g.bare.died code ∧ RdOk g' ∧ Next W wv eb mb g0 g') ∧ Chg (fun j => Foot eb mb g j) w wv) := ⟨⟨c, hcb, RdOk.nil hcg, hnx⟩, hcw⟩
      clear hnx hco hcL hcg hcb hke hcw hfg
      go_wp2
      exact bodyPost_end (results_none rfl _ _ _) rfl ⟨rfl, HEND.out⟩
end Go.Proofs.YtlhlmgfblbpdpaaGreatDoor
/-
  Package ends: frames that are a fault, kind by kind: Headers, Credit, Continue.
-/
namespace Go.Proofs.YtlhlmgfblbpdpaaGreatDoor
set_option linter.unusedVariables false
set_option linter.unusedSimpArgs false
open Go.RowKit

set_option maxRecDepth 100000 in
set_option maxHeartbeats 1600000 in
/-- Headers of a stream that is not newer than all that came. -/
theorem comeHeaders_p (eb mb : Nat) (g : GEnd) (f n : Int) (sv : Option Addr) (len cb : Nat) (w : World) (h : Inv w eb mb g) (hop : g.m.opensN n = false) (hnw : n ≤ g.m.newest) :
    Calls Tryz.prog 74 #[.pointer (some ⟨eb, 0, none⟩), .agg #[.int .i64 1, .int .i64 f, .int .i64 n, .slice sv len cb, .slice sv len cb]] w fun e w' => e = .panicked [{ v := .iface 41 (.int .i64 11), recovered := false }] ∧ Below w.heap.size w w' := by
  have hbA : Below w.heap.size w (w.alloc (.cells #[.int .i64 1, .int .i64 f, .int .i64 n, .slice sv len cb, .slice sv len cb] 139)) := (Below.refl _ _).alloc (Nat.le_refl _) _
  have hnew := heap_alloc_new w (.cells #[.int .i64 1, .int .i64 f, .int .i64 n, .slice sv len cb, .slice sv len cb] 139)
  obtain ⟨wA, hwA⟩ : ∃ wA, wA = w.alloc (.cells #[.int .i64 1, .int .i64 f, .int .i64 n, .slice sv len cb, .slice sv len cb] 139) := ⟨_, rfl⟩
  rw [← hwA] at hbA hnew
  have hA := h.below hbA
  have HOPN : Hid (Calls Tryz.prog 101 #[.pointer (some ⟨eb, 0, none⟩), .int .i64 n] wA.drew fun e w' => e = .returned (.bool false) ∧ w' = wA.drew) := by
    have := opens_any eb g.m n wA.drew (EnB.drewE hA.en)
    rw [show ((n.tmod 2 == 1) == g.m.first) = false from hop] at this
    exact this
  have z2 : wA.cell? ⟨w.heap.size, 2, none⟩ = some (.int .i64 n) := by rw [cell_of_row _ _ _ _ _ _ hnew]; rfl
  have z34 := hA.en.c34
  have hltb : w.heap.size < wA.heap.size := lt_of_block hnew
  have HWA := hide hwA
  have HEND : Hid (Below w.heap.size w wA.drew) := hbA.drew
  clear h hA hbA hnew hop
  go_enter Tryz.func74, Tryz.ntmps74
  go_upto_region 1 with fail
  rw [← HWA.out]
  clear hwA
  first
    | (go_region_with (first | (go_at_call 101; refine HOPN.out.mono ?_; rintro e w' ⟨rfl, hw'⟩; rw [hw']; clear hw' w')))
    | fail
  all_goals go_wp2
  all_goals exact ⟨rfl, rfl, HEND.out⟩
set_option maxRecDepth 100000 in
set_option maxHeartbeats 1600000 in
/-- Credit that makes the connection's window too great. -/
theorem comeCredit_p (eb : Nat) (m : EndM) (f nv : Int) (sv : Option Addr) (len cb : Nat) (w : World) (h : EnB w eb m) (h1 : 2147483647 < m.send + nv) (h2 : m.send ≤ 1099511627776) (h3 : nv ≤ 1099511627776) :
    Calls Tryz.prog 80 #[.pointer (some ⟨eb, 0, none⟩), .agg #[.int .i64 6, .int .i64 f, .int .i64 0, .slice sv len cb, .int .i64 nv]] w fun e w' => e = .panicked [{ v := .iface 41 (.int .i64 12), recovered := false }] ∧ Below w.heap.size w w' := by
  have hbA : Below w.heap.size w (w.alloc (.cells #[.int .i64 6, .int .i64 f, .int .i64 0, .slice sv len cb, .int .i64 nv] 154)) := (Below.refl _ _).alloc (Nat.le_refl _) _
  have hnew := heap_alloc_new w (.cells #[.int .i64 6, .int .i64 f, .int .i64 0, .slice sv len cb, .int .i64 nv] 154)
  obtain ⟨wA, hwA⟩ : ∃ wA, wA = w.alloc (.cells #[.int .i64 6, .int .i64 f, .int .i64 0, .slice sv len cb, .int .i64 nv] 154) := ⟨_, rfl⟩
  rw [← hwA] at hbA hnew
  have hA := h.below hbA
  have z2 : wA.cell? ⟨w.heap.size, 2, none⟩ = some (.int .i64 0) := by rw [cell_of_row _ _ _ _ _ _ hnew]; rfl
  have z4 : wA.cell? ⟨w.heap.size, 4, none⟩ = some (.int .i64 nv) := by rw [cell_of_row _ _ _ _ _ _ hnew]; rfl
  have c4 := hA.c4
  have hwr : IntKind.i64.wrap (m.send + nv) = m.send + nv := by rw [IntKind.wrap_i64]; omega
  have HC : Hid (Calls Tryz.prog 108 #[.int .i64 (m.send + nv)] wA.drew fun e w' => e = .panicked [{ v := .iface 41 (.int .i64 12), recovered := false }] ∧ Below w.heap.size w w') := (checkWindow_p (m.send + nv) wA.drew h1).mono fun e w' hx => ⟨hx.1, by rw [hx.2]; exact hbA.drew⟩
  have hltb : w.heap.size < wA.heap.size := lt_of_block hnew
  have HWA := hide hwA
  clear h hA hbA hnew h1 h2 h3
  go_enter Tryz.func80, Tryz.ntmps80
  go_upto_region 2 with fail
  rw [← HWA.out]
  clear hwA
  go_region_law (refine step_gone rfl 108 Tryz.f108 Tryz.func108 (by kernel_rfl) rfl [.tmp 17] #[3] rfl [.int .i64 (m.send + nv)] (by simp [Act.eval, Act.put]) HC.out (fun e w3 he => ⟨_, he.1, rfl, rfl, he.2⟩) (.tuple #[]) ?_; intro hf; have HFL : Hid False := hf; clear hf)
  all_goals exact HFL.out.elim
end Go.Proofs.YtlhlmgfblbpdpaaGreatDoor
/-
  Package ends: Continue where no block is open; answers that wait.
-/
namespace Go.Proofs.YtlhlmgfblbpdpaaGreatDoor
set_option linter.unusedVariables false
set_option linter.unusedSimpArgs false
open Go.RowKit

set_option maxRecDepth 100000 in
set_option maxHeartbeats 400000 in
theorem goesOn_yes (k f n : Int) (sv : Option Addr) (len cb : Nat) (w : World) :
    Calls Tryz.prog 97 #[.iface 141 (.agg #[.int .i64 k, .int .i64 f, .int .i64 n, .slice sv len cb, .slice sv len cb])] w fun e w' => e = .returned (.int .i64 n) ∧ Below w.heap.size w w' := by
  have hta : ∀ (x : Value) (w : World), (Instr.typeAssert (.iface 141 x) 124 141 true).run Tryz.prog w = .ok (.tuple #[x, .bool true]) w := fun _ _ => by kernel_rfl
  go_enter Tryz.func97, Tryz.ntmps97
  go_wp2
  go_ret
  exact ⟨rfl, (Below.refl _ _).alloc (Nat.le_refl _) _⟩
set_option maxRecDepth 100000 in
set_option maxHeartbeats 800000 in
theorem checkTurn_p (eb : Nat) (m : EndM) (k f n : Int) (sv : Option Addr) (len cb : Nat) (w : World) (h : EnB w eb m) (hb : m.bstream = 0) (hbg : m.begun = true) (hn : n ≠ 0) :
    Calls Tryz.prog 72 #[.pointer (some ⟨eb, 0, none⟩), .iface 141 (.agg #[.int .i64 k, .int .i64 f, .int .i64 n, .slice sv len cb, .slice sv len cb])] w fun e w' => e = .panicked [{ v := .iface 41 (.int .i64 11), recovered := false }] ∧ Below w.heap.size w w' := by
  have c30 := h.c30
  rw [hbg] at c30
  have HG : Hid (∀ w, Calls Tryz.prog 97 #[.iface 141 (.agg #[.int .i64 k, .int .i64 f, .int .i64 n, .slice sv len cb, .slice sv len cb])] w fun e w' => e = .returned (.int .i64 n) ∧ Below w.heap.size w w') := fun w => goesOn_yes k f n sv len cb w
  have HR : Hid (∀ w1, Below w.heap.size w w1 → w1.cell? ⟨eb, 31, none⟩ = some (.int .i64 0)) := fun w1 hb1 => by rw [(h.below hb1).c31, hb]
  clear h hb hbg
  go_enter Tryz.func72, Tryz.ntmps72
  go_upto_region 2 with fail
  have k31 := HR.out w (Below.refl _ _)
  go_cut [24] (fun s24 wx => s24 = .bool true ∧ Below w.heap.size w wx)
  case first =>
    go_region_held3 (fun w' => w'.cell? ⟨eb, 31, none⟩ = some (.int .i64 0)) (go_keep)
      (first | (go_at_call 97; refine (HG.out w.drew).mono ?_; rintro e w1 ⟨rfl, hb1⟩; have hB1 : Below w.heap.size w w1 := ⟨hb1.os, hb1.tape, hb1.output, hb1.size, hb1.block⟩; have t31 := HR.out w1 hB1))
    all_goals (go_wp2_with fail; go_meet; exact ⟨by simp [hn], hB1⟩)
  case rest =>
    obtain ⟨rfl, hbx⟩ := hcut
    have HX := hide hbx
    clear hbx
    go_wp2
    exact ⟨rfl, rfl, HX.out⟩
set_option maxRecDepth 100000 in
set_option maxHeartbeats 800000 in
theorem come_continue_p (eb : Nat) (m : EndM) (k f n : Int) (sv : Option Addr) (len cb : Nat) (w : World) (h : EnB w eb m) (hb : m.bstream = 0) (hbg : m.begun = true) (hn : n ≠ 0) :
    Calls Tryz.prog 55 #[.pointer (some ⟨eb, 0, none⟩), .iface 141 (.agg #[.int .i64 k, .int .i64 f, .int .i64 n, .slice sv len cb, .slice sv len cb])] w fun e w' => e = .panicked [{ v := .iface 41 (.int .i64 11), recovered := false }] ∧ Below w.heap.size w w' := by
  have HT := hide (checkTurn_p eb m k f n sv len cb w h hb hbg hn)
  clear h
  go_enter Tryz.func55, Tryz.ntmps55
  go_wp2_with fail
  refine HT.out.mono ?_
  rintro e w0 ⟨rfl, hb0⟩
  have HX := hide hb0
  clear hb0
  go_wp2
  exact ⟨rfl, rfl, HX.out⟩
set_option maxRecDepth 100000 in
set_option maxHeartbeats 800000 in
/-- Too many answers wait. -/
theorem answer_p (eb mb : Nat) (g : GEnd) (x0 x1 x2 : Int) (bv : Value) (w : World) (h : Inv w eb mb g) (hn : 8 ≤ g.ans.length) :
    Calls Tryz.prog 109 #[.pointer (some ⟨eb, 0, none⟩), .agg #[.int .i64 x0, .int .i64 x1, .int .i64 x2, bv]] w fun e w' => e = .panicked [{ v := .iface 41 (.int .i64 14), recovered := false }] ∧ Below w.heap.size w w' := by
  have c42 := h.en.c42
  obtain ⟨sa, ca, hv⟩ := h.ans.len
  rw [hv] at c42
  have hlt := h.en.lt
  have hle : (8 : Int) ≤ (g.ans.length : Int) := by omega
  clear h
  go_enter Tryz.func109, Tryz.ntmps109
  go_wp2
  exact ⟨rfl, rfl, (Below.refl _ _).alloc (Nat.le_refl _) _⟩
set_option maxRecDepth 100000 in
set_option maxHeartbeats 800000 in
/-- A Ping too many. -/
theorem comePing_p (eb mb : Nat) (g : GEnd) (f nv : Int) (sv : Option Addr) (len cb : Nat) (w : World) (h : Inv w eb mb g) (hf : 0 ≤ f ∧ f ≤ 255) (hak : hasB f 1 = false) (hn : 8 ≤ g.ans.length) :
    Calls Tryz.prog 79 #[.pointer (some ⟨eb, 0, none⟩), .agg #[.int .i64 4, .int .i64 f, .int .i64 0, .slice sv len cb, .int .u32 nv]] w fun e w' => e = .panicked [{ v := .iface 41 (.int .i64 14), recovered := false }] ∧ Below w.heap.size w w' := by
  have hbA : Below w.heap.size w (w.alloc (.cells #[.int .i64 4, .int .i64 f, .int .i64 0, .slice sv len cb, .int .u32 nv] 151)) := (Below.refl _ _).alloc (Nat.le_refl _) _
  have hnew := heap_alloc_new w (.cells #[.int .i64 4, .int .i64 f, .int .i64 0, .slice sv len cb, .int .u32 nv] 151)
  have HH : Hid (∀ w, Calls Tryz.prog 76 #[.agg #[.int .i64 4, .int .i64 f, .int .i64 0, .slice sv len cb], .int .i64 1] w fun e w' => e = .returned (.bool false) ∧ Below w.heap.size w w') := fun w => by
    have := has_any 4 f 0 1 (.slice sv len cb) w hf.1 (by omega) (Or.inl rfl)
    rw [hak] at this
    exact this
  have HA : Hid (∀ w1, Below w.heap.size w w1 → Calls Tryz.prog 109 #[.pointer (some ⟨eb, 0, none⟩), .agg #[.int .i64 4, .int .i64 1, .int .i64 0, .slice sv len cb]] w1 fun e w' => e = .panicked [{ v := .iface 41 (.int .i64 14), recovered := false }] ∧ Below w.heap.size w w') := fun w1 hb1 => by
    refine (answer_p eb mb g 4 1 0 (.slice sv len cb) w1 (h.below hb1) hn).mono ?_
    rintro e w' ⟨rfl, hb2⟩
    exact ⟨rfl, hb1.trans (hb2.mono hb1.size)⟩
  have HB := hide hbA
  have HC3 : Hid (∀ w1, Below (w.alloc (.cells #[.int .i64 4, .int .i64 f, .int .i64 0, .slice sv len cb, .int .u32 nv] 151)).heap.size (w.alloc (.cells #[.int .i64 4, .int .i64 f, .int .i64 0, .slice sv len cb, .int .u32 nv] 151)) w1 → w1.cell? ⟨w.heap.size, 3, none⟩ = some (.slice sv len cb)) := fun w1 hb1 => by
    rw [cell_of_row _ _ _ _ _ _ (kept_told hnew hb1)]
    rfl
  clear h hf hak hn hbA hnew
  go_enter Tryz.func79, Tryz.ntmps79
  go_wp2_with fail
  refine (HH.out _).mono ?_
  rintro e w1 ⟨rfl, hb1⟩
  have k3 := HC3.out w1 hb1
  have HB1 : Hid (Below w.heap.size w w1) := HB.out.trans (hb1.mono HB.out.size)
  clear hb1
  go_wp2_with fail
  refine (HA.out w1 HB1.out).mono ?_
  rintro e w2 ⟨rfl, hx⟩
  have HX := hide hx
  clear hx
  go_wp2
  exact ⟨rfl, rfl, HX.out⟩
end Go.Proofs.YtlhlmgfblbpdpaaGreatDoor
