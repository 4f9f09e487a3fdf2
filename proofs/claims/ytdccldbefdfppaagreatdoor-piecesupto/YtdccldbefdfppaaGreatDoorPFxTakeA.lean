import Derived.Test.YtdccldbefdfppaaGreatDoorPGax
set_option linter.unusedVariables false
set_option linter.unusedSimpArgs false
namespace Go.Proofs.YtdccldbefdfppaaGreatDoor
open Go.RowKit
def GEnd.pre (g : GEnd) : List UInt8 := if g.m.greets then greetB else []
def GEnd.oFirstG (g : GEnd) : Option GEnd := if g.m.told then none else some { g with m := g.m.setd.greeted_, out := g.out ++ (g.pre ++ lay 3 0 0 (four4 g.m.wanted.toNat)) }
def GEnd.oGoawayG (g : GEnd) : Option GEnd := if g.m.fault = 7 ∨ g.m.parted = true then none else some { g with m := { g.m.greeted_ with parted := true }, out := g.out ++ (g.pre ++ lay 5 0 0 [UInt8.ofNat g.m.fault.toNat]) }
def GEnd.nextA (g : GEnd) : Option GEnd := if g.m.fault ≠ 0 then g.oGoawayG else g.oFirstG.or (g.oAnswer.or (g.oSettings.or (g.oPing.or (g.oCredit.or (g.oStream.or g.oReset)))))
def GEnd.hello (g : GEnd) : GEnd := { g with m := g.m.greeted_ }
structure FineA (g : GEnd) : Prop where
 fault : 0 ≤ g.m.fault ∧ g.m.fault ≤ 255
 told : g.m.fault = 0 → g.m.greets = true → g.m.told = false
 fine : g.m.fault = 0 → Fine g.hello
theorem greeted_same {m : EndM} (h : m.greets = false) : m.greeted_ = m := by
 cases m
 simp only at h
 subst h
 rfl
theorem hello_same {g : GEnd} (h : g.m.greets = false) : g.hello = g := by
 unfold GEnd.hello
 rw [greeted_same h]
theorem nextA_bare (g : GEnd) : g.nextA.map GEnd.bare = g.bare.nextA := by
 unfold GEnd.nextA
 rw [show g.bare.m.fault = g.m.fault from rfl]
 split
 ·unfold GEnd.oGoawayG
  rw [show g.bare.m.fault = g.m.fault from rfl, show g.bare.m.parted = g.m.parted from rfl]
  split <;> rfl
 ·have hn := next_bare g
  unfold GEnd.next at hn
  cases ht : g.m.told with
  | false =>
   have e1 : g.oFirstG = some { g with m := g.m.setd.greeted_, out := g.out ++ (g.pre ++ lay 3 0 0 (four4 g.m.wanted.toNat)) } := by unfold GEnd.oFirstG; rw [ht]; rfl
   have e2 : g.bare.oFirstG = some { g.bare with m := g.bare.m.setd.greeted_, out := g.bare.out ++ (g.bare.pre ++ lay 3 0 0 (four4 g.bare.m.wanted.toNat)) } := by unfold GEnd.oFirstG; rw [show g.bare.m.told = g.m.told from rfl, ht]; rfl
   rw [e1, e2]
   rfl
  | true =>
   have e1 : g.oFirstG = none := by unfold GEnd.oFirstG; rw [ht]; rfl
   have e2 : g.bare.oFirstG = none := by unfold GEnd.oFirstG; rw [show g.bare.m.told = g.m.told from rfl, ht]; rfl
   have e3 : g.oFirst = none := by unfold GEnd.oFirst; rw [ht]; rfl
   have e4 : g.bare.oFirst = none := by unfold GEnd.oFirst; rw [show g.bare.m.told = g.m.told from rfl, ht]; rfl
   rw [e3, e4] at hn
   rw [e1, e2]
   exact hn
theorem FineA.of_bare {g g' : GEnd} (e : g.bare = g'.bare) (h : FineA g) : FineA g' := by
 have em : g.m.bare = g'.m.bare := congrArg GEnd.m e
 have e1 : g.m.fault = g'.m.fault := by have := congrArg EndM.fault em; exact this
 have e2 : g.m.greets = g'.m.greets := by have := congrArg EndM.greets em; exact this
 have e3 : g.m.told = g'.m.told := by have := congrArg EndM.told em; exact this
 refine ⟨by rw [← e1]; exact h.fault, fun a b => by rw [← e3]; exact h.told (e1.trans a) (e2.trans b), fun a => ?_⟩
 refine Fine.of_bare ?_
 have e4 : g'.hello.bare = g.hello.bare := by
  have a1 : g'.hello.bare = { g'.bare with m := g'.bare.m.greeted_ } := rfl
  have a2 : g.hello.bare = { g.bare with m := g.bare.m.greeted_ } := rfl
  rw [a1, a2, e]
 rw [e4]
 exact (h.fine (e1.trans a)).bare
theorem bare_bare (g : GEnd) : g.bare.bare = g.bare := by
 unfold GEnd.bare
 simp only [List.map_map, GEnd.mk.injEq, true_and, and_true]
 refine ⟨?_, ?_, ?_⟩
 ·unfold EndM.bare
  simp only [nilV_nilV]
 ·exact List.map_congr_left fun s _ => rfl
 ·exact List.map_congr_left fun s _ => rfl
section
variable {w : World} {eb mb : Nat} {g : GEnd}
set_option maxRecDepth 100000 in
set_option maxHeartbeats 800000 in
theorem makeFirstG (n : Nat) (m : EndM) (l : List UInt8) (h : EnB w eb m) (hg : m.greets = true) (ht : m.told = false) (hw : m.wanted = (n : Int)) (hn : n ≤ 1000) (hrow : w.ownsRow 0 5 1 m.out l.length (l.map B)) (hl : l.length ≤ 1073741824) :
  Calls Tryz.prog 82 #[.pointer (some ⟨eb, 0, none⟩)] w fun e w' => MadeB w w' eb m m.setd.greeted_ l (greetB ++ lay 3 0 0 (four4 n)) true e := by
 have c8 := h.c8
 have HP := hide (putSettingsG eb m n l w h hg hw hn hrow hl)
 clear h hg hw hrow
 rw [ht] at c8
 go_enter Tryz.func82, Tryz.ntmps82
 go_wp2_with fail
 refine HP.out.mono ?_
 rintro e w' ⟨rfl, hv⟩
 have HV := hide hv
 clear hv
 go_wp2
 go_ret
 exact ⟨rfl, HV.out⟩
theorem i_makeFirstG (h : Inv w eb mb g) (hf : FineA g) (hlive : g.m.fault = 0) (ht : g.m.told = false) (hl : g.out.length ≤ 1073741824) : Calls Tryz.prog 82 #[.pointer (some ⟨eb, 0, none⟩)] w fun e w' => MadeO w w' eb mb g g.oFirstG e := by
 have hfi := hf.fine hlive
 have hw : 0 ≤ g.m.wanted ∧ g.m.wanted ≤ 1000 := hfi.wanted
 obtain ⟨n, hn⟩ : ∃ n : Nat, g.m.wanted = n := ⟨g.m.wanted.toNat, by omega⟩
 cases hg : g.m.greets with
 | true =>
  refine (makeFirstG n g.m g.out h.en hg ht hn (by omega) h.out hl).mono ?_
  intro e w' hm
  refine hm.made h rfl rfl rfl rfl rfl rfl ?_
  unfold GEnd.oFirstG GEnd.pre
  rw [four4_toNat hn, hg, ht]
  rfl
 | false =>
  rw [hello_same hg] at hfi
  have e : g.oFirstG = g.oFirst := by
   unfold GEnd.oFirstG GEnd.oFirst GEnd.pre
   rw [hg, show g.m.setd.greeted_ = g.m.setd from greeted_same (m := g.m.setd) hg]
   rfl
  rw [e]
  exact i_makeFirst h hfi.toB hl
set_option maxRecDepth 100000 in
set_option maxHeartbeats 800000 in
theorem i_makeNextF (h : Inv w eb mb g) (hf : FineA g) (hlive : g.m.fault = 0) (ht : g.m.told = false) (hl : g.out.length ≤ 1073741824) :
  Calls Tryz.prog 63 #[.pointer (some ⟨eb, 0, none⟩)] w fun e w' => MadeO w w' eb mb g g.oFirstG e := by
 have HD := hide (isDead_any eb g.m w h.en)
 have hb : (g.m.fault == 0) = true := by simp [hlive]
 rw [hb] at HD
 have H1 := i_makeFirstG h hf hlive ht hl
 obtain ⟨q, hq⟩ : ∃ q, g.oFirstG = some q := by unfold GEnd.oFirstG; rw [ht]; exact ⟨_, rfl⟩
 rw [hq] at H1 ⊢
 have H1 := hide H1
 clear h hf hl hlive hb ht hq
 go_enter Tryz.func63, Tryz.ntmps63
 go_wp2_with fail
 refine HD.out.mono ?_
 rintro e w1 ⟨rfl, hw1⟩
 rw [hw1]
 clear hw1 w1
 go_wp2_with fail
 refine H1.out.mono ?_
 rintro e w1 ⟨rfl, hx⟩
 have HX := hide hx
 clear hx
 go_wp2
 go_ret
 exact ⟨rfl, HX.out⟩
end
set_option maxRecDepth 100000 in
set_option maxHeartbeats 1600000 in
theorem i_makeGoawayG (eb mb : Nat) (g : GEnd) (w : World) (h : Inv w eb mb g) (hf : 0 ≤ g.m.fault ∧ g.m.fault ≤ 255) (hl : g.out.length ≤ 1073741824) :
  Calls Tryz.prog 81 #[.pointer (some ⟨eb, 0, none⟩)] w fun e w' => MadeO w w' eb mb g g.oGoawayG e := by
 have c1 := h.en.c1
 have c40 := h.en.c40
 have f40 := h.en.fr 40
 have hlt := h.en.lt
 by_cases h7 : g.m.fault = 7
 ·have e : g.oGoawayG = none := by unfold GEnd.oGoawayG; rw [if_pos (Or.inl h7)]
  rw [e]
  rw [h7] at c1
  clear h e
  go_enter Tryz.func81, Tryz.ntmps81
  go_wp2
  go_ret
  exact ⟨rfl, Below.refl _ _⟩
 ·cases hp : g.m.parted with
  | true =>
   have e : g.oGoawayG = none := by unfold GEnd.oGoawayG; rw [if_pos (Or.inr hp)]
   rw [e]
   rw [hp] at c40
   have h7' : (g.m.fault == 7) = false := by simp [h7]
   clear h e
   go_enter Tryz.func81, Tryz.ntmps81
   go_wp2
   go_ret
   exact ⟨rfl, Below.refl _ _⟩
  | false =>
   have e : g.oGoawayG = some { g with m := { g.m.greeted_ with parted := true }, out := g.out ++ (g.pre ++ lay 5 0 0 [UInt8.ofNat g.m.fault.toNat]) } := by unfold GEnd.oGoawayG; rw [if_neg (by rw [hp]; simp [h7])]
   rw [e]
   rw [hp] at c40
   have h7' : (g.m.fault == 7) = false := by simp [h7]
   have hwr : IntKind.u8.wrap g.m.fault = g.m.fault := by rw [IntKind.wrap_u8]; omega
   have hset : Chg (fun j => j = eb) w (w.setCell ⟨eb, 40, none⟩ (.bool true)) := chg_set (Chg.refl _ _) rfl
   have hen1 : EnB (w.setCell ⟨eb, 40, none⟩ (.bool true)) eb { g.m with parted := true } := EnB.of (blk_set h.en.blk) rfl
   have hb2 : Below (w.setCell ⟨eb, 40, none⟩ (.bool true)).heap.size (w.setCell ⟨eb, 40, none⟩ (.bool true)) ((w.setCell ⟨eb, 40, none⟩ (.bool true)).alloc (.cells #[.int .u8 g.m.fault] 5)) := (Below.refl _ _).alloc (Nat.le_refl _) _
   have hszs : (w.setCell ⟨eb, 40, none⟩ (.bool true)).heap.size = w.heap.size := by simp
   have hrow1 : ((w.setCell ⟨eb, 40, none⟩ (.bool true)).alloc (.cells #[.int .u8 g.m.fault] 5)).ownsRow 0 5 1 g.m.out g.out.length (g.out.map B) := by
    refine owns_chg (owns_chg h.out hset (fun j hj e => by rw [e] at hj; exact owns_ne h.out h.en.blk (by decide) hj)) (Chg.of_below (S := fun _ => False) hb2) (fun _ _ => id)
   have hby : BytesIn ((w.setCell ⟨eb, 40, none⟩ (.bool true)).alloc (.cells #[.int .u8 g.m.fault] 5)) (.slice (some ⟨w.heap.size, 0, none⟩) 1 1) [UInt8.ofNat g.m.fault.toNat] := by
    have hn := heap_alloc_new (w.setCell ⟨eb, 40, none⟩ (.bool true)) (.cells #[.int .u8 g.m.fault] 5)
    rw [hszs] at hn
    refine Or.inr ⟨w.heap.size, 0, 1, rfl, lt_of_block hn, Nat.le_refl _, fun i hi => ?_⟩
    have hi0 : i = 0 := by simp at hi; omega
    subst hi0
    rw [cell_of_row _ _ _ _ _ _ hn]
    have e3 : ((UInt8.ofNat g.m.fault.toNat).toNat : Int) = g.m.fault := by rw [UInt8.toNat_ofNat']; omega
    show some (Value.int .u8 g.m.fault) = some (Value.int .u8 ((UInt8.ofNat g.m.fault.toNat).toNat : Int))
    rw [e3]
   have HP : Hid (Calls Tryz.prog 111 #[.pointer (some ⟨eb, 0, none⟩), .agg #[.int .i64 5, .int .i64 0, .int .i64 0, .slice (some ⟨w.heap.size, 0, none⟩) 1 1]] ((w.setCell ⟨eb, 40, none⟩ (.bool true)).alloc (.cells #[.int .u8 g.m.fault] 5)) fun e w' => e = .returned (.tuple #[]) ∧ ∃ v, Put ((w.setCell ⟨eb, 40, none⟩ (.bool true)).alloc (.cells #[.int .u8 g.m.fault] 5)) w' eb { g.m.greeted_ with parted := true } g.out (g.pre ++ lay 5 0 0 [UInt8.ofNat g.m.fault.toNat]) v) := by
    cases hg : g.m.greets with
    | false =>
     have e1 : ({ g.m.greeted_ with parted := true } : EndM) = { g.m with parted := true } := by rw [greeted_same hg]
     rw [e1, show g.pre = [] from by unfold GEnd.pre; rw [hg]; rfl, List.nil_append]
     exact en_put eb { g.m with parted := true } g.out 5 0 0 (some ⟨w.heap.size, 0, none⟩) [UInt8.ofNat g.m.fault.toNat] 1 _ (hen1.below hb2) hg hrow1 hl (by omega) (by omega) (by omega) (by omega) (by omega) (by omega) (by simp) hby
    | true =>
     rw [show g.pre = greetB from by unfold GEnd.pre; rw [hg]; rfl]
     refine en_putG eb { g.m with parted := true } g.out 5 0 0 (some ⟨w.heap.size, 0, none⟩) [UInt8.ofNat g.m.fault.toNat] 1 _ (hen1.below hb2) hg hrow1 hl (by omega) (by omega) (by omega) (by omega) (by omega) (by omega) (by simp) hby (fun j hj => ?_)
     simp [Value.ownBlock] at hj
     subst hj
     refine ⟨by omega, fun e => ?_⟩
     have := owns_lt h.out e
     omega
   have HEND : Hid (∀ w' v, Put ((w.setCell ⟨eb, 40, none⟩ (.bool true)).alloc (.cells #[.int .u8 g.m.fault] 5)) w' eb { g.m.greeted_ with parted := true } g.out (g.pre ++ lay 5 0 0 [UInt8.ofNat g.m.fault.toNat]) v → ∃ g', g'.bare = ({ g with m := { g.m.greeted_ with parted := true }, out := g.out ++ (g.pre ++ lay 5 0 0 [UInt8.ofNat g.m.fault.toNat]) } : GEnd).bare ∧ Next w w' eb mb g g') := fun w' v hput => by
    refine ⟨{ g with m := { g.m.greeted_ with parted := true, out := v }, out := g.out ++ (g.pre ++ lay 5 0 0 [UInt8.ofNat g.m.fault.toNat]) }, rfl, ?_⟩
    refine h.put (m' := { g.m.greeted_ with parted := true }) rfl rfl rfl rfl rfl rfl ⟨hput.b, hput.row, ?_, fun j hj => ?_⟩
    ·exact ((hset.mono fun j _ e => Or.inl e).then_below hb2).trans (hput.chg.mono fun j _ e => Or.inr e)
    ·rcases hput.fresh j hj with a | a
     ·exact Or.inl a
     ·refine Or.inr ?_
      have := hb2.size
      omega
   clear h e hset hen1 hb2 hrow1 hby
   generalize g.pre = gp at *
   generalize g.m.fault = code at *
   go_enter Tryz.func81, Tryz.ntmps81
   go_wp2_with fail
   refine HP.out.mono ?_
   rintro e w' ⟨rfl, v, hput⟩
   have HX := hide (HEND.out w' v hput)
   clear hput
   go_wp2
   go_ret
   exact ⟨rfl, HX.out⟩
set_option maxRecDepth 100000 in
set_option maxHeartbeats 800000 in
theorem i_makeNextDG (eb mb : Nat) (g : GEnd) (w : World) (h : Inv w eb mb g) (hd : g.m.fault ≠ 0) (hf : 0 ≤ g.m.fault ∧ g.m.fault ≤ 255) (hl : g.out.length ≤ 1073741824) :
  Calls Tryz.prog 63 #[.pointer (some ⟨eb, 0, none⟩)] w fun e w' => MadeO w w' eb mb g g.oGoawayG e := by
 have hdd := isDead_any eb g.m w h.en
 rw [show (!(g.m.fault == 0)) = true from by simp [hd]] at hdd
 have HD := hide hdd
 have HG := hide (i_makeGoawayG eb mb g w h hf hl)
 clear h hdd
 generalize g.oGoawayG = og at *
 go_enter Tryz.func63, Tryz.ntmps63
 go_wp2_with fail
 refine HD.out.mono ?_
 rintro e w' ⟨rfl, hw'⟩
 rw [hw']
 clear hw' w'
 go_wp2_with fail
 refine HG.out.mono ?_
 intro e w1 hm
 cases og with
 | none =>
  obtain ⟨rfl, hb⟩ := hm
  have HB := hide hb
  clear hb
  go_wp2
  go_ret
  exact ⟨rfl, HB.out⟩
 | some q =>
  obtain ⟨rfl, hx⟩ := hm
  have HX := hide hx
  clear hx
  go_wp2
  go_ret
  exact ⟨rfl, HX.out⟩
theorem i_makeNextA (eb mb : Nat) (g : GEnd) (w : World) (h : Inv w eb mb g) (hf : FineA g) (hl : g.out.length ≤ 1073741824) :
  Calls Tryz.prog 63 #[.pointer (some ⟨eb, 0, none⟩)] w fun e w' => MadeO w w' eb mb g g.nextA e := by
 unfold GEnd.nextA
 by_cases hd : g.m.fault = 0
 ·rw [if_neg (by rw [hd]; simp)]
  cases ht : g.m.told with
  | false =>
   obtain ⟨q, hq⟩ : ∃ q, g.oFirstG = some q := by unfold GEnd.oFirstG; rw [ht]; exact ⟨_, rfl⟩
   have := i_makeNextF h hf hd ht hl
   rw [hq] at this ⊢
   exact this
  | true =>
   have hg : g.m.greets = false := by
    cases e : g.m.greets with
    | false => rfl
    | true => have := hf.told hd e; rw [ht] at this; cases this
   have hfi := hf.fine hd
   rw [hello_same hg] at hfi
   have e1 : g.oFirstG = none := by unfold GEnd.oFirstG; rw [ht]; rfl
   have e2 : g.oFirst = none := by unfold GEnd.oFirst; rw [ht]; rfl
   have hn : g.next = g.oFirstG.or (g.oAnswer.or (g.oSettings.or (g.oPing.or (g.oCredit.or (g.oStream.or g.oReset))))) := by unfold GEnd.next; rw [e1, e2]
   rw [← hn]
   exact i_makeNext eb mb g w h hfi hl hd
 ·rw [if_pos hd]
  exact i_makeNextDG eb mb g w h hd hf.fault hl
theorem nextA_some {g q : GEnd} (hn : g.nextA = some q) (hf : FineA g) : FineA q ∧ g.out.length < q.out.length ∧ q.out.length ≤ g.out.length + 77 ∧ q.m.fault = g.m.fault := by
 have hlay : ∀ k f s b, b.length ≤ 64 → (lay k f s b).length ≤ 70 ∧ 6 ≤ (lay k f s b).length := fun k f s b hb => by rw [lay_length]; omega
 have hpre : g.pre.length ≤ 7 := by unfold GEnd.pre; split <;> simp [greetB]
 unfold GEnd.nextA at hn
 split at hn
 ·rename_i hd
  unfold GEnd.oGoawayG at hn
  split at hn
  ·cases hn
  ·injection hn with hn; subst hn
   have h1 := hlay 5 0 0 [UInt8.ofNat g.m.fault.toNat] (by simp)
   refine ⟨⟨hf.fault, fun e => absurd e hd, fun e => absurd e hd⟩, ?_, ?_, rfl⟩
   ·show _ < (g.out ++ (g.pre ++ lay 5 0 0 [UInt8.ofNat g.m.fault.toNat])).length
    rw [List.length_append, List.length_append]; omega
   ·show (g.out ++ (g.pre ++ lay 5 0 0 [UInt8.ofNat g.m.fault.toNat])).length ≤ _
    rw [List.length_append, List.length_append]; omega
 ·rename_i hd
  have hd : g.m.fault = 0 := Decidable.not_not.1 hd
  have hfi := hf.fine hd
  cases ht : g.m.told with
  | false =>
   have e1 : g.oFirstG = some { g with m := g.m.setd.greeted_, out := g.out ++ (g.pre ++ lay 3 0 0 (four4 g.m.wanted.toNat)) } := by unfold GEnd.oFirstG; rw [ht]; rfl
   rw [e1] at hn
   injection hn with hn; subst hn
   have h1 := hlay 3 0 0 (four4 g.m.wanted.toNat) (by simp [four4])
   refine ⟨⟨hf.fault, fun _ e => (by cases e), fun _ => ⟨hfi.greets, hfi.wanted, hfi.owed, hfi.receive, hfi.pnum, hfi.own, hfi.other, hfi.ans, hfi.res, hfi.st, hfi.few⟩⟩, ?_, ?_, rfl⟩
   ·show _ < (g.out ++ (g.pre ++ lay 3 0 0 (four4 g.m.wanted.toNat))).length
    rw [List.length_append, List.length_append]; omega
   ·show (g.out ++ (g.pre ++ lay 3 0 0 (four4 g.m.wanted.toNat))).length ≤ _
    rw [List.length_append, List.length_append]; omega
  | true =>
   have hg : g.m.greets = false := by
    cases e : g.m.greets with
    | false => rfl
    | true => have := hf.told hd e; rw [ht] at this; cases this
   rw [hello_same hg] at hfi
   have e1 : g.oFirstG = none := by unfold GEnd.oFirstG; rw [ht]; rfl
   have e2 : g.oFirst = none := by unfold GEnd.oFirst; rw [ht]; rfl
   have hn2 : g.next = some q := by unfold GEnd.next; rw [e2]; rw [e1] at hn; exact hn
   have hfq := hfi.next hn2
   have hof := next_fault hn2
   refine ⟨⟨by rw [hof]; exact hf.fault, fun _ e => ?_, fun _ => ?_⟩, next_out hn2, ?_, hof⟩
   ·have := hfq.greets; rw [e] at this; cases this
   ·rw [hello_same hfq.greets]; exact hfq
   ·have hap : ∀ k f s b, b.length ≤ 64 → (g.out ++ lay k f s b).length ≤ g.out.length + 77 := fun k f s b hb => by rw [List.length_append]; have := hlay k f s b hb; omega
    rw [e1] at hn
    have hn : (g.oAnswer.or (g.oSettings.or (g.oPing.or (g.oCredit.or (g.oStream.or g.oReset))))) = some q := hn
    rcases or_some hn with hn | hn
    ·unfold GEnd.oAnswer at hn
     split at hn
     ·cases hn
     ·rename_i a r ha
      injection hn with hn; subst hn
      exact hap _ _ _ _ (hfi.ans a (by rw [ha]; exact List.mem_cons_self)).2.2.2.2
    rcases or_some hn with hn | hn
    ·unfold GEnd.oSettings at hn
     split at hn
     ·cases hn
     ·injection hn with hn; subst hn; exact hap _ _ _ _ (by simp [four4])
    rcases or_some hn with hn | hn
    ·unfold GEnd.oPing at hn
     split at hn
     ·injection hn with hn; subst hn; exact hap _ _ _ _ (by simp [four4])
     ·cases hn
    rcases or_some hn with hn | hn
    ·unfold GEnd.oCredit at hn
     split at hn
     ·injection hn with hn; subst hn; exact hap _ _ _ _ (by simp [four4])
     ·cases hn
    rcases or_some hn with hn | hn
    ·unfold GEnd.oStream at hn
     cases hx : firstDueN g.m g.K g.L with
     | none => rw [hx] at hn; cases hn
     | some n => rw [hx, Option.map_some] at hn; injection hn with hn; subst hn; exact hap _ _ _ _ (by simp [four4])
    ·unfold GEnd.oReset at hn
     split at hn
     ·cases hn
     ·injection hn with hn; subst hn; exact hap _ _ _ _ (by simp)
def RunsA (n : Int) (z1 : GEnd) (z2 : GEnd) : Prop := ∀ Z : GEnd → GEnd → Prop, (∀ (g : GEnd) (x1 : n ≤ g.out.length), Z g g) → (∀ (g : GEnd) (x1 : g.nextA = Option.none), Z g g) → (∀ (g q p : GEnd) (x1 : (g.out.length : Int) < n) (x2 : g.nextA = some q) (x3 : Z q p), Z g p) → Z z1 z2
theorem RunsA.stop {n : Int} {g : GEnd} (x1 : n ≤ g.out.length) : RunsA n g g := fun Z zk1 zk2 zk3 => zk1 g x1
theorem RunsA.none {n : Int} {g : GEnd} (x1 : g.nextA = Option.none) : RunsA n g g := fun Z zk1 zk2 zk3 => zk2 g x1
theorem RunsA.step {n : Int} {g q p : GEnd} (x1 : (g.out.length : Int) < n) (x2 : g.nextA = some q) (x3 : RunsA n q p) : RunsA n g p := fun Z zk1 zk2 zk3 => zk3 g q p x1 x2 (x3 Z zk1 zk2 zk3)
theorem RunsA.ind {n : Int} {motive : ∀ (z1 : GEnd) (z2 : GEnd), RunsA n z1 z2 → Prop} (stop : ∀ {g : GEnd} (x1 : n ≤ g.out.length), motive g g (@RunsA.stop n g x1)) (none : ∀ {g : GEnd} (x1 : g.nextA = Option.none), motive g g (@RunsA.none n g x1)) (step : ∀ {g q p : GEnd} (x1 : (g.out.length : Int) < n) (x2 : g.nextA = some q) (x3 : RunsA n q p) (ih : motive q p x3), motive g p (@RunsA.step n g q p x1 x2 x3)) {z1 : GEnd} {z2 : GEnd} (zt : RunsA n z1 z2) : motive z1 z2 zt := (zt (fun z1 z2 => ∃ zt : RunsA n z1 z2, motive z1 z2 zt) (fun g x1 => ⟨_, @stop g x1⟩) (fun g x1 => ⟨_, @none g x1⟩) (fun g q p x1 x2 zy => zy.elim fun x3 zx => ⟨_, @step g q p x1 x2 x3 zx⟩)).elim fun _ zx => zx
theorem RunsA.le {n : Int} {g p : GEnd} (h : RunsA n g p) (hf : FineA g) : g.out.length ≤ p.out.length := by
 induction h using RunsA.ind with
 | stop _ => exact Nat.le_refl _
 | none _ => exact Nat.le_refl _
 | step _ h1 _ ih => have := nextA_some h1 hf; have := ih this.1; omega
structure TakenA (w w' : World) (eb mb : Nat) (g p : GEnd) (n : Int) (e : Ending) : Prop where
 eq : ∃ s, e = .returned (.slice s (cutN n p.out.length) (cutN n p.out.length)) ∧ BytesIn w' (.slice s (cutN n p.out.length) (cutN n p.out.length)) (p.out.take (cutN n p.out.length)) ∧ ∀ j, (Value.slice s (cutN n p.out.length) (cutN n p.out.length)).ownBlock = some j → Foot eb mb g j ∨ w.heap.size ≤ j
 next : ∃ g', g'.bare = { p with out := p.out.drop (cutN n p.out.length) } ∧ Next w w' eb mb g g'
theorem takenA_of {w w1 w' : World} {eb mb : Nat} {g c : GEnd} {n : Int} {v' : Value} {e : Ending} (hn : Next w w1 eb mb g c) (hc : CutOff w1 w' eb 41 c.m.out v' c.out (cutN n c.out.length) e) : TakenA w w' eb mb g c.bare n e := by
 obtain ⟨⟨s, he, hby, hap⟩, w2, hw2, hb2, hrow⟩ := hc
 refine ⟨⟨s, he, hby, fun j hj => hn.grow j (Or.inr (Or.inr (Or.inl (hap j hj))))⟩, ?_⟩
 subst hw2
 have hi := hn.inv.below hb2
 have hset : Chg (fun j => j = eb) w2 (w2.setCell ⟨eb, 41, none⟩ v') := chg_set (Chg.refl _ _) rfl
 have hr0 : w2.ownsRow 0 5 1 v' (c.out.drop (cutN n c.out.length)).length ((c.out.drop (cutN n c.out.length)).map B) := by
  rw [List.length_drop]
  exact owns_base hrow (fun _ _ => Nat.zero_le _)
 have hcc : Chg (fun j => j = eb) w1 (w2.setCell ⟨eb, 41, none⟩ v') := (Chg.of_below hb2).trans (hset.mono fun j _ e => Or.inr e)
 have hn2 := hn.inv.onEnd (S := fun j => j = eb) (w' := w2.setCell ⟨eb, 41, none⟩ v') (m' := { c.m with out := v' }) (A' := c.ans) (R' := c.res) (o' := c.out.drop (cutN n c.out.length)) hcc (fun j e => Or.inl e) (EnB.of (blk_set hi.en.blk) rfl) rfl rfl rfl
  (owns_chg hr0 hset (fun j hj e => by rw [e] at hj; exact owns_ne hr0 hi.en.blk (by decide) hj)) (fun j hj => Or.inr (hrow.lt j hj).1) hn.inv.ans (fun _ h => h) (fun _ h => h) hn.inv.res (fun _ h => h)
 refine ⟨_, ?_, hn.trans hn2⟩
 rfl
set_option maxRecDepth 100000 in
set_option maxHeartbeats 1600000 in
theorem i_takeA (eb mb : Nat) (g p : GEnd) (n : Int) (w : World) (h : Inv w eb mb g) (hf : FineA g) (hr : RunsA n g.bare p) (hl : p.out.length ≤ 1073741824) :
  Calls Tryz.prog 41 #[.pointer (some ⟨eb, 0, none⟩), .int .i64 n] w fun e w' => TakenA w w' eb mb g p n e := by
 have H := hide h
 have HF := hide hf
 have HR := hide hr
 have hle0 := hr.le (FineA.of_bare (g := g) (g' := g.bare) (bare_bare g).symm hf)
 have HLE0 := hide hle0
 clear h hf hr hle0
 go_enter Tryz.func41, Tryz.ntmps41
 go_wp2
 go_loopw [5] (fun i wr => ∃ (wv : World) (c : GEnd) (mo : Bool), wv = wr ∧ i = .bool mo ∧ Next w wv eb mb g c ∧ FineA c ∧ c.out.length ≤ p.out.length ∧ (if mo then RunsA n c.bare p else c.bare = p)) (fun i wr => (p.out.length - madeLen wr eb) * 2 + oneIf i)
 case atStart => exact ⟨_, g, true, rfl, rfl, Next.refl H.out, HF.out, HLE0.out, HR.out⟩
 case round =>
  obtain ⟨wv, c, mo, hwv, rfl, hnx, hfi, hle, hmo⟩ := hrel
  subst hwv
  have c41 := hnx.inv.en.c41
  obtain ⟨sa, ca, hsl⟩ := slice_len hnx.inv.out
  rw [hsl] at c41
  have hml := hnx.inv.madeLen
  have HNX := hide hnx
  have HFI := hide hfi
  have HML := hide hml
  have HSL := hide hsl
  have HMO := hide hmo
  clear hnx hfi hml hsl hmo
  have HCUT : Hid (c.bare = p → ∀ wx, wx = wv → Calls Tryz.prog 64 #[.pointer (some ⟨eb, 41, none⟩), .int .i64 n] wx fun e w' => TakenA w w' eb mb g p n e) := fun hcp wx hwx => by
   subst hwx
   have hlo : c.out.length ≤ 1073741824 := by omega
   refine (ecut_any eb 41 c.m.out c.out n _ HNX.out.inv.en.c41 (HNX.out.inv.en.fr 41) HNX.out.inv.en.lt HNX.out.inv.out (fun e => owns_ne HNX.out.inv.out HNX.out.inv.en.blk (by decide) e) hlo).mono ?_
   rintro e w' ⟨v', hc⟩
   have := takenA_of HNX.out hc
   rw [hcp] at this
   exact this
  cases mo with
  | false =>
   have hcp := HMO.out
   simp only [Bool.false_eq_true, if_false] at hcp
   have HC := hide (HCUT.out hcp _ rfl)
   clear hcp HCUT
   go_wp2_with fail
   refine HC.out.mono ?_
   intro e w' ht
   obtain ⟨s, he, -⟩ := ht.eq
   have HT := hide ht
   clear ht
   subst he
   go_wp2
   go_ret
   exact HT.out
  | true =>
   have hru := HMO.out
   simp only [if_true] at hru
   have HRU := hide hru
   clear hru HMO
   by_cases hlt : (c.out.length : Int) < n
   ·have hlo : c.out.length ≤ 1073741824 := by omega
    have hmk := i_makeNextA eb mb c wv HNX.out.inv HFI.out hlo
    have HMK := hide hmk
    clear hmk HCUT
    go_wp2_with fail
    refine HMK.out.mono ?_
    intro e w1 hm
    have hnb := nextA_bare c
    cases hcn : c.nextA with
    | none =>
     rw [hcn] at hm hnb
     obtain ⟨rfl, hb⟩ := hm
     have hcp : c.bare = p := by
      cases HRU.out using RunsA.ind with
      | stop h1 => rfl
      | none h1 => rfl
      | step h1 h2 h3 => rw [← hnb] at h2; cases h2
     have hml1 : madeLen w1 eb = c.out.length := (HNX.out.then_below hb).inv.madeLen
     have HB := hide hb
     have HCP := hide hcp
     clear hb hcp hnb hcn
     go_wp2
     all_goals go_roundw
     case rel => exact ⟨_, c, false, rfl, rfl, HNX.out.then_below HB.out, HFI.out, hle, by simpa using HCP.out⟩
     case measure => rw [hml1, HML.out]; simp [oneIf]
    | some q =>
     rw [hcn] at hm hnb
     obtain ⟨rfl, g', hg', hn'⟩ := hm
     obtain ⟨hq, hlt', -, -⟩ := nextA_some hcn HFI.out
     have hgo : g'.out = q.out := by have := congrArg GEnd.out hg'; exact this
     have hfi' : FineA g' := FineA.of_bare hg'.symm hq
     have hru' : RunsA n g'.bare p := by
      rw [hg']
      simp only [Option.map_some] at hnb
      cases HRU.out using RunsA.ind with
      | stop h1 => exact absurd (show n ≤ (c.out.length : Int) from h1) (by omega)
      | none h1 => rw [← hnb] at h1; cases h1
      | step h1 h2 h3 =>
       rw [← hnb] at h2
       injection h2 with h2
       rw [h2]
       exact h3
     have hml1 : madeLen w1 eb = g'.out.length := hn'.inv.madeLen
     have hle' := hru'.le (FineA.of_bare (g := g') (g' := g'.bare) (bare_bare g').symm hfi')
     rw [show g'.bare.out = g'.out from rfl] at hle'
     rw [hgo] at hml1 hle'
     have HN' := hide hn'
     have HFI' := hide hfi'
     have HRU' := hide hru'
     have HGO := hide hgo
     clear hn' hfi' hru' hnb hcn hq hg' hgo
     go_wp2
     all_goals go_roundw
     case rel => exact ⟨_, g', true, rfl, rfl, HNX.out.trans HN'.out, HFI'.out, by rw [HGO.out]; exact hle', by simpa using HRU'.out⟩
     case measure => rw [hml1, HML.out]; simp [oneIf]; omega
   ·have hcp : c.bare = p := by
     cases HRU.out using RunsA.ind with
     | stop h1 => rfl
     | none h1 => rfl
     | step h1 h2 h3 => exact absurd (show (c.out.length : Int) < n from h1) hlt
    have HC := hide (HCUT.out hcp _ rfl)
    clear hcp HCUT HRU
    go_wp2_with fail
    refine HC.out.mono ?_
    intro e w' ht
    obtain ⟨s, he, -⟩ := ht.eq
    have HT := hide ht
    clear ht
    subst he
    go_wp2
    go_ret
    exact HT.out
set_option maxHeartbeats 400000 in
theorem x_takeA (eb mb : Nat) (g p : GEnd) (n : Int) (w : World) (h : Inv w eb mb g) (hf : FineA g) (hr : RunsA n g.bare p) (hl : p.out.length ≤ 1073741824) :
  Calls Tryz.prog 19 #[.pointer (some ⟨eb, 0, none⟩), .int .i64 n] w fun e w' => TakenA w w' eb mb g p n e := by
 have HC := hide (i_takeA eb mb g p n w h hf hr hl)
 clear h hf hr hl
 go_enter Tryz.func19, Tryz.ntmps19
 go_wp2_with fail
 refine HC.out.mono ?_
 intro e w' ht
 obtain ⟨s, he, -⟩ := ht.eq
 have HT := hide ht
 clear ht
 subst he
 go_wp2
 go_ret
 exact HT.out
end Go.Proofs.YtdccldbefdfppaaGreatDoor
