import Derived.Test.YtdccldbefdfppaaGreatDoorPFxTakeA
import Derived.Test.YtdccldbefdfppaaGreatDoorPGas
import Derived.Test.YtdccldbefdfppaaGreatDoorPGar
import Derived.Test.YtdccldbefdfppaaGreatDoorPGae
import Derived.Test.YtdccldbefdfppaaGreatDoorPGao
import Derived.Test.YtdccldbefdfppaaGreatDoorPGap
import Derived.BigRegion
import Derived.BigQuiet
import Derived.Deep.QuietTactic
set_option linter.unusedVariables false
set_option linter.unusedSimpArgs false
namespace Go.Proofs.YtdccldbefdfppaaGreatDoor
open Go.RowKit
section
theorem countP_less {α : Type} {p p' : α → Bool} : ∀ {L : List α}, (∀ x ∈ L, p' x = true → p x = true) → (∃ x ∈ L, p x = true ∧ p' x = false) → L.countP p' < L.countP p
 | [], _, h => by obtain ⟨x, hx, -⟩ := h; cases hx
 | y :: r, h, hx => by
  rw [List.countP_cons, List.countP_cons]
  have hr : r.countP p' ≤ r.countP p := List.countP_mono_left fun x hx' => h x (List.mem_cons_of_mem _ hx')
  by_cases hy : p y = true ∧ p' y = false
  ·rw [hy.1, hy.2]; simp; omega
  ·have h2 : ∃ x ∈ r, p x = true ∧ p' x = false := by
    obtain ⟨x, hx1, hx2⟩ := hx
    rcases List.mem_cons.1 hx1 with e | e
    ·subst e; exact absurd hx2 hy
    ·exact ⟨x, e, hx2⟩
   have := countP_less (fun x hx' => h x (List.mem_cons_of_mem _ hx')) h2
   have h3 : (if p' y = true then 1 else 0) ≤ (if p y = true then 1 else 0) := by
    by_cases e : p' y = true
    ·rw [if_pos e, if_pos (h y List.mem_cons_self e)]; exact Nat.le_refl _
    ·rw [if_neg e]; exact Nat.zero_le _
   omega
theorem firstDueN_due {m : EndM} {K : List GSt} : ∀ {L : List Int} {n : Int}, firstDueN m K L = some n → m.dueS (atN K n).st = true
 | [], _, h => by cases h
 | k :: r, n, h => by
  rw [firstDueN] at h
  split at h
  ·rename_i hd
   injection h with h; rw [← h]; exact hd
  ·exact firstDueN_due h
structure Tidy (g : GEnd) : Prop where
 nn : (g.K.map fun s => s.st.number).Nodup
 cls : ∀ n ∈ g.L, ∃ s ∈ g.K, s.st.number = n
def muA (g : GEnd) : Nat := if g.m.fault ≠ 0 then (if g.m.parted then 0 else 1) else (if g.m.told then 0 else 1) + g.ans.length + (if g.m.waits then 0 else 1) + (if (g.m.under && !g.m.pinged) then 1 else 0) + (if 1 ≤ g.m.owed then 1 else 0) + g.L.countP (fun n => decide (1 ≤ (atN g.K n).st.owed)) + g.res.length
theorem atN_in {K : List GSt} (hn : (K.map fun s => s.st.number).Nodup) {s : GSt} (hs : s ∈ K) : atN K s.st.number = s := atN_mem hn hs
theorem nextA_less {g q : GEnd} (ht : Tidy g) (hn : g.nextA = some q) : muA q < muA g ∧ Tidy q ∧ SameX g q := by
 unfold GEnd.nextA at hn
 split at hn
 ·rename_i hd
  unfold GEnd.oGoawayG at hn
  split at hn
  ·cases hn
  ·rename_i hp
   injection hn with hn; subst hn
   refine ⟨?_, ⟨ht.nn, ht.cls⟩, ⟨rfl, rfl, rfl, rfl, rfl, fun s hs => ⟨s, hs, rfl, rfl⟩⟩⟩
   have h1 : muA g = 1 := by
    unfold muA
    rw [if_pos hd]
    have : g.m.parted = false := by cases e : g.m.parted <;> simp_all
    rw [this]; rfl
   have h2 : ∀ o, muA { g with m := { g.m.greeted_ with parted := true }, out := o } = 0 := fun o => by
    unfold muA
    rw [if_pos (show ({ g.m.greeted_ with parted := true } : EndM).fault ≠ 0 from hd)]
    rfl
   rw [h1, h2]; omega
 ·rename_i hd
  have hd : g.m.fault = 0 := Decidable.not_not.1 hd
  have hmu : ∀ q : GEnd, q.m.fault = 0 → muA q = (if q.m.told then 0 else 1) + q.ans.length + (if q.m.waits then 0 else 1) + (if (q.m.under && !q.m.pinged) then 1 else 0) + (if 1 ≤ q.m.owed then 1 else 0) + q.L.countP (fun n => decide (1 ≤ (atN q.K n).st.owed)) + q.res.length := fun q hq => by unfold muA; rw [if_neg (by rw [hq]; simp)]
  rcases or_some hn with hn | hn
  ·unfold GEnd.oFirstG at hn
   split at hn
   ·cases hn
   ·rename_i hto
    injection hn with hn; subst hn
    refine ⟨?_, ⟨ht.nn, ht.cls⟩, ⟨rfl, rfl, rfl, rfl, rfl, fun s hs => ⟨s, hs, rfl, rfl⟩⟩⟩
    refine Nat.lt_of_lt_of_eq (Nat.lt_of_le_of_lt (Nat.le_of_eq (hmu _ hd)) ?_) (hmu g hd).symm
    show (0 + g.ans.length + 0 + (if (g.m.under && !g.m.pinged) then 1 else 0) + (if 1 ≤ g.m.owed then 1 else 0) + g.L.countP (fun n => decide (1 ≤ (atN g.K n).st.owed)) + g.res.length : Nat) < _
    rw [if_neg hto]
    omega
  rcases or_some hn with hn | hn
  ·unfold GEnd.oAnswer at hn
   split at hn
   ·cases hn
   ·rename_i a r ha
    injection hn with hn; subst hn
    refine ⟨?_, ⟨ht.nn, ht.cls⟩, ⟨rfl, rfl, rfl, rfl, rfl, fun s hs => ⟨s, hs, rfl, rfl⟩⟩⟩
    refine Nat.lt_of_lt_of_eq (Nat.lt_of_le_of_lt (Nat.le_of_eq (hmu _ hd)) ?_) (hmu g hd).symm
    rw [ha]
    simp only [List.length_cons]
    omega
  rcases or_some hn with hn | hn
  ·unfold GEnd.oSettings at hn
   split at hn
   ·cases hn
   ·rename_i hw
    injection hn with hn; subst hn
    refine ⟨?_, ⟨ht.nn, ht.cls⟩, ⟨rfl, rfl, rfl, rfl, rfl, fun s hs => ⟨s, hs, rfl, rfl⟩⟩⟩
    refine Nat.lt_of_lt_of_eq (Nat.lt_of_le_of_lt (Nat.le_of_eq (hmu _ hd)) ?_) (hmu g hd).symm
    have hw2 : g.m.waits = false := by cases e : g.m.waits <;> simp_all
    show (0 + g.ans.length + 0 + (if (g.m.under && !g.m.pinged) then 1 else 0) + (if 1 ≤ g.m.owed then 1 else 0) + g.L.countP (fun n => decide (1 ≤ (atN g.K n).st.owed)) + g.res.length : Nat) < _
    rw [hw2]
    simp only [Bool.false_eq_true, if_false]
    omega
  rcases or_some hn with hn | hn
  ·unfold GEnd.oPing at hn
   split at hn
   ·rename_i hp
    injection hn with hn; subst hn
    refine ⟨?_, ⟨ht.nn, ht.cls⟩, ⟨rfl, rfl, rfl, rfl, rfl, fun s hs => ⟨s, hs, rfl, rfl⟩⟩⟩
    refine Nat.lt_of_lt_of_eq (Nat.lt_of_le_of_lt (Nat.le_of_eq (hmu _ hd)) ?_) (hmu g hd).symm
    rw [if_pos hp]
    have e : (({ g.m with pinged := true, start := g.m.clock } : EndM).under && !({ g.m with pinged := true, start := g.m.clock } : EndM).pinged) = false := by simp
    show ((if g.m.told then 0 else 1) + g.ans.length + (if g.m.waits then 0 else 1) + (if (({ g.m with pinged := true, start := g.m.clock } : EndM).under && !({ g.m with pinged := true, start := g.m.clock } : EndM).pinged) then 1 else 0) + (if 1 ≤ g.m.owed then 1 else 0) + g.L.countP (fun n => decide (1 ≤ (atN g.K n).st.owed)) + g.res.length : Nat) < _
    rw [e]
    simp only [Bool.false_eq_true, if_false]
    omega
   ·cases hn
  rcases or_some hn with hn | hn
  ·unfold GEnd.oCredit at hn
   split at hn
   ·rename_i hp
    injection hn with hn; subst hn
    refine ⟨?_, ⟨ht.nn, ht.cls⟩, ⟨rfl, rfl, rfl, rfl, rfl, fun s hs => ⟨s, hs, rfl, rfl⟩⟩⟩
    have h1 : 1 ≤ g.m.owed := by
     unfold dueB at hp
     simp at hp
     exact hp.1
    refine Nat.lt_of_lt_of_eq (Nat.lt_of_le_of_lt (Nat.le_of_eq (hmu _ hd)) ?_) (hmu g hd).symm
    rw [if_pos h1]
    show ((if g.m.told then 0 else 1) + g.ans.length + (if g.m.waits then 0 else 1) + (if (g.m.under && !g.m.pinged) then 1 else 0) + 0 + g.L.countP (fun n => decide (1 ≤ (atN g.K n).st.owed)) + g.res.length : Nat) < _
    omega
   ·cases hn
  rcases or_some hn with hn | hn
  ·unfold GEnd.oStream at hn
   cases hx : firstDueN g.m g.K g.L with
   | none => rw [hx] at hn; cases hn
   | some n =>
    rw [hx, Option.map_some] at hn
    injection hn with hn; subst hn
    have hm := firstDueN_mem hx
    have hdue := firstDueN_due hx
    have h1 : 1 ≤ (atN g.K n).st.owed := by
     unfold EndM.dueS dueB at hdue
     simp at hdue
     exact hdue.2.1
    have hat : ∀ k ∈ g.L, atN (updN n GSt.granted g.K) k = if k = n then (atN g.K k).granted else atN g.K k := fun k hk => by
     obtain ⟨s, hs, rfl⟩ := ht.cls k hk
     rw [atN_upd (f := GSt.granted) ht.nn (fun s hs e => e) hs, atN_in ht.nn hs]
    refine ⟨?_, ⟨?_, fun k hk => ?_⟩, SameX.upd (fun s => ⟨rfl, rfl⟩) rfl rfl rfl rfl rfl⟩
    ·refine Nat.lt_of_lt_of_eq (Nat.lt_of_le_of_lt (Nat.le_of_eq (hmu _ hd)) ?_) (hmu g hd).symm
     have hc : g.L.countP (fun k => decide (1 ≤ (atN (updN n GSt.granted g.K) k).st.owed)) < g.L.countP (fun k => decide (1 ≤ (atN g.K k).st.owed)) := by
      refine countP_less (fun k hk e => ?_) ⟨n, hm, by simpa using h1, ?_⟩
      ·rw [hat k hk] at e
       split at e
       ·have e : decide (1 ≤ (0 : Int)) = true := e
        simp at e
       ·exact e
      ·rw [hat n hm, if_pos rfl]
       show decide (1 ≤ (0 : Int)) = false
       simp
     show ((if g.m.told then 0 else 1) + g.ans.length + (if g.m.waits then 0 else 1) + (if (g.m.under && !g.m.pinged) then 1 else 0) + (if 1 ≤ g.m.owed then 1 else 0) + g.L.countP (fun k => decide (1 ≤ (atN (updN n GSt.granted g.K) k).st.owed)) + g.res.length : Nat) < _
     omega
    ·show ((updN n GSt.granted g.K).map fun s => s.st.number).Nodup
     rw [updN_num (f := GSt.granted) (fun s => rfl)]; exact ht.nn
    ·obtain ⟨s, hs, e⟩ := ht.cls k hk
     exact ⟨_, List.mem_map.2 ⟨s, hs, rfl⟩, by split <;> exact e⟩
  ·unfold GEnd.oReset at hn
   split at hn
   ·cases hn
   ·rename_i k r hr
    injection hn with hn; subst hn
    refine ⟨?_, ⟨ht.nn, ht.cls⟩, ⟨rfl, rfl, rfl, rfl, rfl, fun s hs => ⟨s, hs, rfl, rfl⟩⟩⟩
    refine Nat.lt_of_lt_of_eq (Nat.lt_of_le_of_lt (Nat.le_of_eq (hmu _ hd)) ?_) (hmu g hd).symm
    rw [hr]
    simp only [List.length_cons]
    omega
theorem SameX.trans {g q p : GEnd} (h : SameX g q) (h2 : SameX q p) : SameX g p := by
 refine ⟨h2.ulim.trans h.ulim, h2.usz.trans h.usz, h2.utab.trans h.utab, h2.umost.trans h.umost, h2.bbytes.trans h.bbytes, fun s hs => ?_⟩
 obtain ⟨t, ht, e1, e2⟩ := h2.heads s hs
 obtain ⟨u, hu, e3, e4⟩ := h.heads t ht
 exact ⟨u, hu, e3.trans e1, e4.trans e2⟩
theorem runsA_ex (n : Int) : ∀ (k : Nat) (g : GEnd), FineA g → Tidy g → muA g ≤ k → ∃ p, RunsA n g p ∧ p.out.length ≤ g.out.length + 77 * k
 | k, g, hf, ht, hk => by
  by_cases hl : n ≤ g.out.length
  ·exact ⟨g, .stop hl, by omega⟩
  cases hn : g.nextA with
  | none => exact ⟨g, .none hn, by omega⟩
  | some q =>
   obtain ⟨h1, h2, -⟩ := nextA_less ht hn
   obtain ⟨h3, h4, h5, -⟩ := nextA_some hn hf
   match k, hk with
   | 0, hk => omega
   | k + 1, hk =>
    obtain ⟨p, hp, hpl⟩ := runsA_ex n k q h3 h2 (by omega)
    exact ⟨p, .step (by omega) hn hp, by omega⟩
theorem RunsA.sameX {n : Int} {g p : GEnd} (h : RunsA n g p) (ht : Tidy g) : SameX g p := by
 induction h using RunsA.ind with
 | stop _ => exact SameX.refl _
 | none _ => exact SameX.refl _
 | step _ h1 _ ih =>
  obtain ⟨-, h2, h3⟩ := nextA_less ht h1
  exact h3.trans (ih h2)
theorem RunsA.det {n : Int} {g p p' : GEnd} (h : RunsA n g p) (h' : RunsA n g p') : p = p' := by
 induction h using RunsA.ind generalizing p' with
 | stop h1 =>
  cases h' using RunsA.ind with
  | stop _ => rfl
  | none _ => rfl
  | step h2 _ _ => omega
 | none h1 =>
  cases h' using RunsA.ind with
  | stop _ => rfl
  | none _ => rfl
  | step _ h2 _ => rw [h1] at h2; cases h2
 | step h1 h2 _ ih =>
  cases h' using RunsA.ind with
  | stop h3 => omega
  | none h3 => rw [h3] at h2; cases h2
  | step _ h3 h4 =>
   rw [h2] at h3
   injection h3 with h3
   subst h3
   exact ih h4
theorem atN_crude (K : List GSt) (n : Int) : atN (K.map GSt.crude) n = if (K.find? fun s => s.st.number == n).isSome then (atN K n).crude else noSt := by
 unfold atN
 induction K with
 | nil => rfl
 | cons s r ih =>
  rw [List.map_cons, List.find?_cons, List.find?_cons]
  show ((match s.st.number == n with | true => some s.crude | false => _).getD noSt) = _
  cases s.st.number == n
  ·exact ih
  ·rfl
theorem atN_crude_st (K : List GSt) (n : Int) : (atN (K.map GSt.crude) n).st.owed = (atN K n).st.owed ∧ (atN (K.map GSt.crude) n).st.hasAll = (atN K n).st.hasAll ∧ (atN (K.map GSt.crude) n).st.receive = (atN K n).st.receive := by
 rw [atN_crude]
 split
 ·exact ⟨rfl, rfl, rfl⟩
 ·rename_i h
  unfold atN
  have : (K.find? fun s => s.st.number == n) = none := by simpa using h
  rw [this]
  exact ⟨rfl, rfl, rfl⟩
theorem firstDueN_crude (m : EndM) (K : List GSt) : ∀ L : List Int, firstDueN m.crude (K.map GSt.crude) L = firstDueN m K L
 | [] => rfl
 | n :: r => by
  obtain ⟨e1, e2, e3⟩ := atN_crude_st K n
  rw [firstDueN, firstDueN, firstDueN_crude m K r]
  unfold EndM.dueS
  rw [e1, e2, e3]
  rfl
theorem nextA_crude (g : GEnd) : g.nextA.map GEnd.crude = g.crude.nextA := by
 rw [crude_eq]
 unfold GEnd.nextA
 show _ = if g.m.fault ≠ 0 then _ else _
 split
 ·unfold GEnd.oGoawayG
  show _ = if g.m.fault = 7 ∨ g.m.parted = true then _ else _
  split
  ·rfl
  ·show some (GEnd.crude _) = _
   rw [crude_eq]
   rfl
 ·have h1 : g.oFirstG.map GEnd.crude = (⟨g.m.crude, g.K.map GSt.crude, g.L, g.out, g.got, g.ans.map Ans.bare, g.res⟩ : GEnd).oFirstG := by
   unfold GEnd.oFirstG
   show _ = if g.m.told = true then _ else _
   cases g.m.told
   ·show some (GEnd.crude _) = _
    rw [crude_eq]; rfl
   ·rfl
  have h2 : g.oAnswer.map GEnd.crude = (⟨g.m.crude, g.K.map GSt.crude, g.L, g.out, g.got, g.ans.map Ans.bare, g.res⟩ : GEnd).oAnswer := by
   unfold GEnd.oAnswer
   simp only
   cases g.ans with
   | nil => rfl
   | cons a r =>
    show some (GEnd.crude _) = _
    rw [crude_eq]; rfl
  have h3 : g.oSettings.map GEnd.crude = (⟨g.m.crude, g.K.map GSt.crude, g.L, g.out, g.got, g.ans.map Ans.bare, g.res⟩ : GEnd).oSettings := by
   unfold GEnd.oSettings
   show _ = if (g.m.waits || g.m.wanted == g.m.made) = true then _ else _
   cases (g.m.waits || g.m.wanted == g.m.made)
   ·show some (GEnd.crude _) = _
    rw [crude_eq]; rfl
   ·rfl
  have h4 : g.oPing.map GEnd.crude = (⟨g.m.crude, g.K.map GSt.crude, g.L, g.out, g.got, g.ans.map Ans.bare, g.res⟩ : GEnd).oPing := by
   unfold GEnd.oPing
   show _ = if (g.m.under && !g.m.pinged) = true then _ else _
   cases (g.m.under && !g.m.pinged)
   ·rfl
   ·show some (GEnd.crude _) = _
    rw [crude_eq]; rfl
  have h5 : g.oCredit.map GEnd.crude = (⟨g.m.crude, g.K.map GSt.crude, g.L, g.out, g.got, g.ans.map Ans.bare, g.res⟩ : GEnd).oCredit := by
   unfold GEnd.oCredit
   show _ = if dueB g.m.owed g.m.receive g.m.batch = true then _ else _
   cases dueB g.m.owed g.m.receive g.m.batch
   ·rfl
   ·show some (GEnd.crude _) = _
    rw [crude_eq]; rfl
  have h6 : g.oStream.map GEnd.crude = (⟨g.m.crude, g.K.map GSt.crude, g.L, g.out, g.got, g.ans.map Ans.bare, g.res⟩ : GEnd).oStream := by
   unfold GEnd.oStream
   show _ = (firstDueN g.m.crude (g.K.map GSt.crude) g.L).map _
   rw [firstDueN_crude]
   cases firstDueN g.m g.K g.L with
   | none => rfl
   | some n =>
    simp only [Option.map_some]
    rw [crude_eq]
    simp only
    rw [updN_map (h := GSt.crude) (f := GSt.granted) (fun s => rfl) n (fun s => rfl), (atN_crude_st g.K n).1]
  have h7 : g.oReset.map GEnd.crude = (⟨g.m.crude, g.K.map GSt.crude, g.L, g.out, g.got, g.ans.map Ans.bare, g.res⟩ : GEnd).oReset := by
   unfold GEnd.oReset
   simp only
   cases g.res with
   | nil => rfl
   | cons n r =>
    show some (GEnd.crude _) = _
    rw [crude_eq]
  simp only [or_map, h1, h2, h3, h4, h5, h6, h7]
theorem RunsA.crude {n : Int} {g p : GEnd} (h : RunsA n g p) : RunsA n g.crude p.crude := by
 induction h using RunsA.ind with
 | stop h1 => exact .stop h1
 | none h1 => exact .none (by rw [← nextA_crude, h1]; rfl)
 | step h1 h2 _ ih => exact .step h1 (by rw [← nextA_crude, h2]; rfl) ih
theorem Tidy.bare {g : GEnd} (h : Tidy g) : Tidy g.bare := by
 refine ⟨?_, fun n hn => ?_⟩
 ·show ((g.K.map GSt.bare).map fun s => s.st.number).Nodup
  rw [List.map_map]; exact h.nn
 ·obtain ⟨s, hs, e⟩ := h.cls n hn
  exact ⟨s.bare, List.mem_map.2 ⟨s, hs, rfl⟩, e⟩
theorem SameX.bare (g : GEnd) : SameX g g.bare := ⟨rfl, rfl, rfl, rfl, rfl, fun s hs => by
 obtain ⟨t, ht, rfl⟩ := List.mem_map.1 hs
 exact ⟨t, ht, rfl, rfl⟩⟩
theorem crude_bare (g : GEnd) : g.bare.crude = g.crude := by unfold GEnd.crude; rw [bare_bare]
theorem x_takeX (eb mb : Nat) (X : GX) (n : Int) (k : Nat) (w : World) (h : InvX w eb mb X) (hf : FineA X.g) (ht : Tidy X.g) (hk : muA X.g ≤ k) (hl : X.g.out.length + 77 * k ≤ 1073741824) :
  Calls Tryz.prog 19 #[.pointer (some ⟨eb, 0, none⟩), .int .i64 n] w fun e w' => ∃ p s, RunsA n X.g.crude p ∧ e = .returned (.slice s (cutN n p.out.length) (cutN n p.out.length)) ∧ BytesIn w' (.slice s (cutN n p.out.length) (cutN n p.out.length)) (p.out.take (cutN n p.out.length)) ∧ (∀ j, (Value.slice s (cutN n p.out.length) (cutN n p.out.length)).ownBlock = some j → FootX eb mb X j ∨ w.heap.size ≤ j) ∧ ∃ X', X'.bare = X.bare.to { p with out := p.out.drop (cutN n p.out.length) } ∧ NextX w w' eb mb X X' := by
 have hmb : muA X.g.bare = muA X.g := by
  have e1 : ∀ n, (atN (X.g.K.map GSt.bare) n).st.owed = (atN X.g.K n).st.owed := fun n => by rw [atN_bare]; rfl
  unfold muA
  show (if X.g.m.fault ≠ 0 then _ else (if X.g.m.told then 0 else 1) + (X.g.ans.map Ans.bare).length + (if X.g.m.waits then 0 else 1) + (if (X.g.m.under && !X.g.m.pinged) then 1 else 0) + (if 1 ≤ X.g.m.owed then 1 else 0) + X.g.L.countP (fun n => decide (1 ≤ (atN (X.g.K.map GSt.bare) n).st.owed)) + X.g.res.length) = _
  rw [List.length_map]
  simp only [e1]
  rfl
 obtain ⟨p, hr, hpl⟩ := runsA_ex n k X.g.bare (FineA.of_bare (bare_bare X.g).symm hf) ht.bare (by rw [hmb]; exact hk)
 have hpl : p.out.length ≤ X.g.out.length + 77 * k := hpl
 refine (x_takeA eb mb X.g p n w h.inv hf hr (by omega)).mono ?_
 rintro e w' ⟨⟨s, h1, h2, h3⟩, g', h4, h5⟩
 have hs : SameX X.g ({ p with out := p.out.drop (cutN n p.out.length) } : GEnd) := by
  have := (SameX.bare X.g).trans (hr.sameX ht.bare)
  exact ⟨this.ulim, this.usz, this.utab, this.umost, this.bbytes, this.heads⟩
 have hb : g'.bare = ({ p with out := p.out.drop (cutN n p.out.length) } : GEnd).bare := by
  rw [← h4, bare_bare]
 have hcr := hr.crude
 rw [crude_bare] at hcr
 refine ⟨p.crude, s, hcr, h1, h2, fun j hj => (h3 j hj).imp_left Or.inl, X.to g', ?_, h.next h5 (hs.of_bare hb)⟩
 unfold GX.bare GX.to
 simp only
 rw [crude_of_bare hb]
 rfl
end
section
set_option maxRecDepth 100000 in
set_option maxHeartbeats 800000 in
theorem sameHeads_same (a b : Value) (hs : List HP) (w : World) (ha : HsIn w a hs) (hb : HsIn w b hs) (hl : hs.length ≤ 1048576) :
  Calls Tryz.prog 38 #[a, b] w fun e w' => e = .returned (.bool true) ∧ Below w.heap.size w w' := by
 obtain ⟨sa, ca, hav⟩ := ha.len
 obtain ⟨sb, cb, hbv⟩ := hb.len
 subst hav
 subst hbv
 have HA := hide ha
 have HB := hide hb
 clear ha hb
 go_enter Tryz.func38, Tryz.ntmps38
 go_wp2
 go_loopw [5] (fun i wr => ∃ k : Nat, i = .int .i64 (k : Int) ∧ k ≤ hs.length ∧ Below w.heap.size w wr) (fun i _ => hs.length - (intOf i).toNat)
 case atStart => exact ⟨0, rfl, Nat.zero_le _, Below.refl _ _⟩
 case round =>
  obtain ⟨k, rfl, hk, hbel⟩ := hrel
  by_cases hlt : k < hs.length
  ·have ha := HA.out.chg (Chg.of_below (S := fun _ => False) hbel) (fun _ _ => id)
   have hb := HB.out.chg (Chg.of_below (S := fun _ => False) hbel) (fun _ _ => id)
   rcases ha with ⟨_, h0⟩ | ⟨ba, oa, ca', hva, _, ha⟩
   ·rw [h0] at hlt; simp at hlt
   rcases hb with ⟨_, h0⟩ | ⟨bb, ob, cb', hvb, _, hb⟩
   ·rw [h0] at hlt; simp at hlt
   simp only [Value.slice.injEq] at hva hvb
   obtain ⟨rfl, _, rfl⟩ := hva
   obtain ⟨rfl, _, rfl⟩ := hvb
   obtain ⟨a0, a1⟩ := ha k hlt
   obtain ⟨b0, b1⟩ := hb k hlt
   generalize hs[k] = x at a0 a1 b0 b1
   obtain ⟨xn, xv⟩ := x
   simp only at a0 a1 b0 b1
   have HBE := hide hbel
   clear ha hb hbel
   go_wp2
   go_quiet (fail)
   all_goals go_wp2
   all_goals go_roundw
   case rel => exact ⟨k + 1, by go_num, by omega, HBE.out.os, HBE.out.tape, HBE.out.output, HBE.out.size, HBE.out.block⟩
   case measure => simp [intOf]; omega
  ·have HBE := hide hbel
   have hke : k = hs.length := by omega
   clear hbel
   go_wp2
   go_ret
   exact ⟨rfl, HBE.out⟩
theorem owns_mt (w : World) : (w.alloc (.cells #[] 130)).ownsRow 0 130 2 (.slice (some ⟨w.heap.size, 0, none⟩) 0 0) 0 [] := ⟨by simp, .inr ⟨w.heap.size, 0, #[], rfl, Nat.zero_le _, heap_alloc_new w _, Nat.le_refl _, by decide, rfl, rfl⟩⟩
theorem lies_own {w : World} {b e s n : Nat} {v : Value} {xs : List Value} (h : w.ownsRow b e s v n xs) : Lies w v n xs := by
 have hr := h
 rcases h.2 with ⟨rfl, h0⟩ | ⟨g, cap, cur, rfl, _, hgg, hle, _⟩
 ·refine Or.inl ⟨rfl, h0, ?_⟩
  have := h.1
  rw [h0, Nat.zero_mul] at this
  exact List.eq_nil_of_length_eq_zero this
 ·refine Or.inr ⟨⟨g, 0, none⟩, cap, rfl, fun j u hj => ?_⟩
  have hj2 : j < n * s := by rw [← h.1]; exact (List.getElem?_eq_some_iff.1 hj).1
  have := h.cellAt j hj2
  rw [← hj]
  have e : (⟨g, 0, none⟩ : Addr).add j = ⟨g, j, none⟩ := by unfold Addr.add; split <;> simp_all
  rw [e]
  exact this
theorem one_hp (hs : List HP) : ∀ u ∈ hpCells hs, u.oneCell' = true := by
 induction hs with
 | nil => intro u hu; cases hu
 | cons h r ih =>
  intro u hu
  rcases List.mem_cons.1 hu with e | e
  ·subst e; rfl
  rcases List.mem_cons.1 e with e | e
  ·subst e; rfl
  ·exact ih u e
set_option maxRecDepth 100000 in
set_option maxHeartbeats 800000 in
theorem hClone_any (v : Value) (hs : List HP) (w : World) (h : w.ownsRow 0 130 2 v hs.length (hpCells hs)) (hl : hs.length ≤ 1048576) :
  Calls Tryz.prog 72 #[v] w fun e w' => ∃ v', e = .returned v' ∧ HsIn w' v' hs ∧ (∀ j, v'.ownBlock = some j → w.heap.size ≤ j) ∧ Below w.heap.size w w' := by
 obtain ⟨i0, hi, hz0, hz1, hz2⟩ := info_parts Tryz.info130
 have hbA : Below w.heap.size w (w.alloc (.cells #[] 130)) := (Below.refl _ _).alloc (Nat.le_refl _) _
 have hA : (w.alloc (.cells #[] 130)).ownsRow 0 130 2 v hs.length (hpCells hs) := owns_chg h (Chg.of_below (S := fun _ => False) hbA) (fun _ _ => id)
 have HA := hide hA
 have HBA := hide hbA
 rcases h.2 with ⟨rfl, h0⟩ | ⟨bb, cap, hc2, h1, h2⟩
 ·have hnil : ∀ w : World, (binOp BinOp.eql 88 (.slice none 0 0) (.slice none 0 0)).run Tryz.prog w = .ok (.bool true) w := fun _ => by kernel_rfl
  have H0 := hide h0
  clear h h0 hA hbA
  go_enter Tryz.func72, Tryz.ntmps72
  go_wp2
  go_ret
  exact ⟨.slice none 0 0, rfl, Or.inl ⟨rfl, List.eq_nil_of_length_eq_zero H0.out⟩, (fun j hj => by cases hj), Below.refl _ _⟩
 ·subst h1
  have hnil : ∀ (a : Addr) (n c : Nat) (w : World), (binOp BinOp.eql 88 (.slice (some a) n c) (.slice none 0 0)).run Tryz.prog w = .ok (.bool false) w := fun _ _ _ _ => by kernel_rfl
  clear h h2 hA hbA
  go_enter Tryz.func72, Tryz.ntmps72
  go_wp2_with (at_builtin; refine wpList_app _ rfl (.tmp 5) (.tmp 6) 88 rfl 130 i0 (.agg #[.string ⟨#[]⟩, .string ⟨#[]⟩]) 2 32 Tryz.underlying88 hi hz0 hz1 hz2 rfl (by decide) _ 0 [] rfl (owns_mt w) _ hs.length (hpCells hs) rfl (hpCells_length hs) (lies_own HA.out) (one_hp hs) ?c3 ?c4 ?_)
  case c3 => unfold maxLen; omega
  case c4 => omega
  intro v3 w3 ho3 hg3 hf3
  have ho3 : w3.ownsRow 0 130 2 v3 hs.length (hpCells hs) := ho3
  have hb3 : Below w.heap.size w w3 := below_of_chg HBA.out (Chg.of_grown (S := fun j => j = w.heap.size) hg3 (fun k hk => by simp [Value.ownBlock] at hk; exact hk.symm)) (fun j hj => by omega)
  have HEND : Hid (HsIn w3 v3 hs ∧ (∀ j, v3.ownBlock = some j → w.heap.size ≤ j) ∧ Below w.heap.size w w3) := by
   refine ⟨hsIn_of_owns ho3, fun j hj => ?_, hb3⟩
   have hz := HBA.out.size
   rcases hf3 with e | e
   ·rw [e] at hj; simp [Value.ownBlock] at hj; omega
   ·rw [e] at hj; simp at hj; omega
  clear ho3 hg3 hf3 hb3
  go_wp2
  go_ret
  exact ⟨v3, rfl, HEND.out⟩
set_option maxRecDepth 100000 in
set_option maxHeartbeats 800000 in
theorem eHeads_any (eb mb : Nat) (m : EndM) (K : List Str) (s : Int) (p : Str) (hs : List HP) (w : World) (h : EnB w eb m) (hm : m.known = .map (some mb)) (hK : KnownS w mb K) (hf : findK K s = some p) (hh : w.ownsRow 0 130 2 p.2.heads hs.length (hpCells hs)) (hl : hs.length ≤ 1048576) :
  Calls Tryz.prog 57 #[.pointer (some ⟨eb, 0, none⟩), .int .i64 s] w fun e w' => ∃ v', e = .returned (.tuple #[v', .int .i64 0]) ∧ HsIn w' v' hs ∧ (∀ j, v'.ownBlock = some j → w.heap.size ≤ j) ∧ Below w.heap.size w w' := by
 have c22 := h.c22
 rw [hm] at c22
 have hlk := hK.lookup s
 rw [hf] at hlk
 simp only [Option.map_some, ptrO] at hlk
 have k4 := (hK.st p (findK_mem hf).1).c4
 have HC := hide (hClone_any p.2.heads hs w hh hl)
 obtain ⟨hv, hvv⟩ : ∃ hv, p.2.heads = hv := ⟨_, rfl⟩
 obtain ⟨so, co, hsl⟩ := slice_len hh
 obtain ⟨pb, st⟩ := p
 simp only at hlk k4 HC hsl
 rw [hsl] at k4 HC
 clear h hm hK hf hh hvv hsl
 go_enter Tryz.func57, Tryz.ntmps57
 go_wp2_with fail
 refine HC.out.mono ?_
 rintro e w' ⟨v', rfl, hx⟩
 have HX := hide hx
 clear hx
 go_wp2
 refine bodyPost_ret (v := .tuple #[v', .int .i64 0]) ?_ rfl ⟨v', rfl, HX.out⟩
 simp [results, Tryz.results57, go_sem]
set_option maxRecDepth 100000 in
set_option maxHeartbeats 400000 in
theorem xHeads_any (eb mb : Nat) (m : EndM) (K : List Str) (s : Int) (p : Str) (hs : List HP) (w : World) (h : EnB w eb m) (hm : m.known = .map (some mb)) (hK : KnownS w mb K) (hf : findK K s = some p) (hh : w.ownsRow 0 130 2 p.2.heads hs.length (hpCells hs)) (hl : hs.length ≤ 1048576) :
  Calls Tryz.prog 37 #[.pointer (some ⟨eb, 0, none⟩), .int .i64 s] w fun e w' => ∃ v', e = .returned (.tuple #[v', .int .i64 0]) ∧ HsIn w' v' hs ∧ (∀ j, v'.ownBlock = some j → w.heap.size ≤ j) ∧ Below w.heap.size w w' := by
 have HC := hide (eHeads_any eb mb m K s p hs w h hm hK hf hh hl)
 clear h hm hK hf hh
 go_enter Tryz.func37, Tryz.ntmps37
 go_wp2_with fail
 refine HC.out.mono ?_
 rintro e w' ⟨v', rfl, hx⟩
 have HX := hide hx
 clear hx
 go_wp2
 refine bodyPost_ret (v := .tuple #[v', .int .i64 0]) ?_ rfl ⟨v', rfl, HX.out⟩
 simp [results, Tryz.results37, go_sem]
end
section
set_option maxRecDepth 100000 in
set_option maxHeartbeats 800000 in
theorem eWindows_conn (eb : Nat) (m : EndM) (w : World) (h : EnB w eb m) :
  Calls Tryz.prog 46 #[.pointer (some ⟨eb, 0, none⟩), .int .i64 0] w fun e w' => e = .returned (.tuple #[.int .i64 m.send, .int .i64 m.receive, .int .i64 0]) ∧ Below w.heap.size w w' := by
 have c4 := h.c4
 have c5 := h.c5
 clear h
 go_enter Tryz.func46, Tryz.ntmps46
 go_upto_region 2 with fail
 go_region_held3 (fun w' => w'.cell? ⟨eb, 4, none⟩ = some (.int .i64 m.send) ∧ w'.cell? ⟨eb, 5, none⟩ = some (.int .i64 m.receive)) (exact ⟨c4, c5⟩) (fail)
 all_goals go_wp2
 all_goals refine bodyPost_ret (v := .tuple #[.int .i64 m.send, .int .i64 m.receive, .int .i64 0]) ?_ rfl ⟨rfl, Below.drew (Below.refl _ _)⟩
 all_goals simp [results, Tryz.results46, go_sem]
set_option maxRecDepth 100000 in
set_option maxHeartbeats 800000 in
theorem eWindows_st (eb mb : Nat) (m : EndM) (K : List Str) (s : Int) (p : Str) (w : World) (h : EnB w eb m) (hm : m.known = .map (some mb)) (hK : KnownS w mb K) (hf : findK K s = some p) (h0 : s ≠ 0) (b1 : -1099511627776 ≤ m.own ∧ m.own ≤ 1099511627776) (b2 : -1099511627776 ≤ p.2.receive ∧ p.2.receive ≤ 1099511627776) (b3 : -1099511627776 ≤ m.other ∧ m.other ≤ 1099511627776) (b4 : -1099511627776 ≤ p.2.send ∧ p.2.send ≤ 1099511627776) :
  Calls Tryz.prog 46 #[.pointer (some ⟨eb, 0, none⟩), .int .i64 s] w fun e w' => e = .returned (.tuple #[.int .i64 (m.other + p.2.send), .int .i64 (m.own + p.2.receive), .int .i64 0]) ∧ Below w.heap.size w w' := by
 have c22 := h.c22
 rw [hm] at c22
 have hlk := hK.lookup s
 rw [hf] at hlk
 simp only [Option.map_some, ptrO] at hlk
 have hst := hK.st p (findK_mem hf).1
 have HS : Hid (∀ wx, Below w.heap.size w wx → Calls Tryz.prog 66 #[.pointer (some ⟨eb, 0, none⟩), .pointer (some ⟨p.1, 0, none⟩)] wx fun e w' => e = .returned (.int .i64 (m.other + p.2.send)) ∧ Below wx.heap.size wx w') := fun wx hb => sendWindow_any eb p.1 m p.2 wx (h.below hb) (hst.below hb) (by omega) (by omega) (by omega) (by omega)
 have HR : Hid (∀ wx, Below w.heap.size w wx → Calls Tryz.prog 67 #[.pointer (some ⟨eb, 0, none⟩), .pointer (some ⟨p.1, 0, none⟩)] wx fun e w' => e = .returned (.int .i64 (m.own + p.2.receive)) ∧ Below wx.heap.size wx w') := fun wx hb => receiveWindow_any eb p.1 m p.2 wx (h.below hb) (hst.below hb) (by omega) (by omega) (by omega) (by omega)
 obtain ⟨pb, st⟩ := p
 simp only at hlk HS HR
 have hs0 : (s == 0) = false := by simp [h0]
 clear h hm hK hf hst b1 b2 b3 b4
 go_enter Tryz.func46, Tryz.ntmps46
 go_wp2_with fail
 refine (HS.out _ (Below.refl _ _)).mono ?_
 rintro e w1 ⟨rfl, hb1⟩
 have HB1 := hide hb1
 clear hb1
 go_wp2_with fail
 refine (HR.out w1 HB1.out).mono ?_
 rintro e w2 ⟨rfl, hb2⟩
 have HB2 := hide (HB1.out.trans (hb2.mono HB1.out.size))
 clear hb2
 go_wp2
 refine bodyPost_ret (v := .tuple #[.int .i64 (m.other + st.send), .int .i64 (m.own + st.receive), .int .i64 0]) ?_ rfl ⟨rfl, HB2.out⟩
 simp [results, Tryz.results46, go_sem]
set_option maxHeartbeats 400000 in
theorem xWindows_of (eb : Nat) (n a b : Int) (w : World) (h : Calls Tryz.prog 46 #[.pointer (some ⟨eb, 0, none⟩), .int .i64 n] w fun e w' => e = .returned (.tuple #[.int .i64 a, .int .i64 b, .int .i64 0]) ∧ Below w.heap.size w w') :
  Calls Tryz.prog 25 #[.pointer (some ⟨eb, 0, none⟩), .int .i64 n] w fun e w' => e = .returned (.tuple #[.int .i64 a, .int .i64 b, .int .i64 0]) ∧ Below w.heap.size w w' := by
 have HC := hide h
 clear h
 go_enter Tryz.func25, Tryz.ntmps25
 go_wp2_with fail
 refine HC.out.mono ?_
 rintro e w' ⟨rfl, h⟩
 have H := hide h
 clear h
 go_wp2
 refine bodyPost_ret (v := .tuple #[.int .i64 a, .int .i64 b, .int .i64 0]) ?_ rfl ⟨rfl, H.out⟩
 simp [results, Tryz.results25, go_sem]
set_option maxRecDepth 100000 in
set_option maxHeartbeats 800000 in
theorem eRead_dead (eb mb : Nat) (m : EndM) (K : List Str) (s n : Int) (p : Str) (ua : Option Addr) (uc : Nat) (w : World) (h : EnB w eb m) (hd : m.fault ≠ 0) (hm : m.known = .map (some mb)) (hK : KnownS w mb K) (hn : 0 ≤ n) (hf : findK K s = some p) (hr : p.2.reset = 0) (hh : p.2.hasAll = false) (hu : p.2.unread = .slice ua 0 uc) :
  Calls Tryz.prog 58 #[.pointer (some ⟨eb, 0, none⟩), .int .i64 s, .int .i64 n] w fun e w' => e = .returned (.tuple #[.slice none 0 0, .bool false, .int .i64 7]) ∧ w' = w := by
 have c22 := h.c22
 rw [hm] at c22
 have hlk := hK.lookup s
 rw [hf] at hlk
 simp only [Option.map_some, ptrO] at hlk
 have hst := hK.st p (findK_mem hf).1
 have hR := isReset_any p.1 p.2 w hst
 rw [show (!(p.2.reset == 0)) = false from by rw [hr]; rfl] at hR
 have hdd := isDead_any eb m w h
 rw [show (!(m.fault == 0)) = true from by simp [hd]] at hdd
 have HD := hide hdd
 have HR := hide hR
 have k9 := hst.c9
 rw [hh] at k9
 have k11 := hst.c11
 rw [hu] at k11
 obtain ⟨pb, st⟩ := p
 simp only at hlk HR k9 k11
 clear h hd hm hK hf hr hR hst hh hu hdd
 go_enter Tryz.func58, Tryz.ntmps58
 go_wp2_with fail
 refine HR.out.mono ?_
 rintro e w' ⟨rfl, hw'⟩
 rw [hw']
 clear hw' w'
 go_wp2_with fail
 refine HD.out.mono ?_
 rintro e w' ⟨rfl, hw'⟩
 rw [hw']
 clear hw' w'
 go_wp2
 refine bodyPost_ret (v := .tuple #[.slice none 0 0, .bool false, .int .i64 7]) ?_ rfl ⟨rfl, rfl⟩
 simp [results, Tryz.results58, go_sem]
set_option maxRecDepth 100000 in
set_option maxHeartbeats 800000 in
theorem eOpen_dead (eb : Nat) (m : EndM) (lv : Value) (b : Bool) (w : World) (h : EnB w eb m) (hd : m.fault ≠ 0) :
  Calls Tryz.prog 40 #[.pointer (some ⟨eb, 0, none⟩), lv, .bool b] w fun e w' => e = .returned (.tuple #[.int .i64 0, .int .i64 7]) ∧ w' = w := by
 have hdd := isDead_any eb m w h
 rw [show (!(m.fault == 0)) = true from by simp [hd]] at hdd
 have HD := hide hdd
 clear h hdd
 go_enter Tryz.func40, Tryz.ntmps40
 go_wp2_with fail
 refine HD.out.mono ?_
 rintro e w' ⟨rfl, hw'⟩
 rw [hw']
 clear hw' w'
 go_wp2
 refine bodyPost_ret (v := .tuple #[.int .i64 0, .int .i64 7]) ?_ rfl ⟨rfl, rfl⟩
 simp [results, Tryz.results40, go_sem]
set_option maxRecDepth 100000 in
set_option maxHeartbeats 800000 in
theorem xOpen_dead (eb : Nat) (m : EndM) (lv : Value) (b : Bool) (w : World) (h : EnB w eb m) (hd : m.fault ≠ 0) :
  Calls Tryz.prog 18 #[.pointer (some ⟨eb, 0, none⟩), lv, .bool b] w fun e w' => e = .returned (.tuple #[.int .i64 0, .int .i64 7]) ∧ w' = w := by
 have HC := hide (eOpen_dead eb m lv b w h hd)
 clear h hd
 go_enter Tryz.func18, Tryz.ntmps18
 go_wp2_with fail
 refine HC.out.mono ?_
 rintro e w' ⟨rfl, hw'⟩
 rw [hw']
 clear hw' w'
 go_wp2
 refine bodyPost_ret (v := .tuple #[.int .i64 0, .int .i64 7]) ?_ rfl ⟨rfl, rfl⟩
 simp [results, Tryz.results18, go_sem]
end
end Go.Proofs.YtdccldbefdfppaaGreatDoor
