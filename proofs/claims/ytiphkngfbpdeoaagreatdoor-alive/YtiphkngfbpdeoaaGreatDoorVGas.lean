import Derived.Test.YtiphkngfbpdeoaaGreatDoorVGan
import Derived.Test.YtiphkngfbpdeoaaGreatDoorVGar
import Derived.Lib.SlBytesConst
set_option linter.unusedVariables false
set_option linter.unusedSimpArgs false
namespace Go.Proofs.YtiphkngfbpdeoaaGreatDoor
set_option linter.unusedVariables false
set_option linter.unusedSimpArgs false
open Go.RowKit
theorem run_app_grow (w : World) (t ty : TypeId) (i : TypeInfo) (ht : Tryz.prog.underlying t = some (.slice 5)) (hi : Tryz.prog.info? 5 = some i) (hz : i.zero = some (.int .u8 0)) (hs : i.size = 1) (hby : i.bytes = 1)
    (b : Addr) (n cap : Nat) (xs : List Value) (hl : xs.length = n) (holds : ∀ j v, xs[j]? = some v → w.cell? (b.add j) = some v)
    (a : Addr) (m c : Nat) (news : List Value) (hm : news.length = m) (hnews : ∀ j v, news[j]? = some v → w.cell? (a.add j) = some v) (hg : cap < n + m) (h63 : n + m ≤ 1073741824) :
    ∃ v' w', (Builtin.append_ #[t, t] ty #[.slice (some b) n cap, .slice (some a) m c]).run Tryz.prog w = .ok v' w' ∧ w'.ownsRow w.heap.size 5 1 v' (n + m) (xs ++ news) ∧ Below w.heap.size w w' := by
  have h := run_append_grow (P := Tryz.prog) (w := w) t ty 5 i (.int .u8 0) ht hi hz b n cap xs (by rw [hs, hl, Nat.mul_one]) holds a m c news (by rw [hs, hm, Nat.mul_one]) hnews hg (by omega) (growslice_fits (by omega) (by rw [hby]; omega))
  refine ⟨_, _, h, ?_, ?_⟩
  · have hge := grownCap_ge w (n + m) cap 5
    have hcm : grownCap w (n + m) cap 5 ≤ maxLen := grownCap_le_maxLen w (n + m) cap 5 (by unfold maxLen; omega)
    have hlen : (xs ++ news).length = (n + m) * 1 := by rw [List.length_append, hl, hm, Nat.mul_one]
    refine ⟨hlen, .inr ⟨w.heap.size, _, _, rfl, Nat.le_refl _, heap_alloc_new w.drew _, hge, hcm, ?_, ?_⟩⟩
    · simp only [Array.size_append, List.size_toArray, size_zeroCells, hl, hm]
      show n + m + (grownCap w (n + m) cap 5 - (n + m)) * 1 = _
      omega
    · simp only [Array.toList_append, List.append_assoc]
      rw [← List.append_assoc, ← hlen]
      exact List.take_left
  · have := (Below.refl w.heap.size w).alloc (Nat.le_refl _) (.cells (xs.toArray ++ news.toArray ++ Builtin.zeroCells (Value.int .u8 0).cells (grownCap w (n + m) cap 5 - (n + m))) 5)
    exact ⟨this.os, this.tape, this.output, this.size, this.block⟩
theorem wpList_grow (w : World) {ops : Array Oper} {rest : List Oper} {o : Oper} {a : Act} {Q : Exit → Act → World → Prop} (hgd : o.guard = none) (s y : Operand) (t : TypeId)
    (ho : o.op = .call { callee := .builtin .append, args := #[s, y], argTypes := #[t, t] })
    (i : TypeInfo) (ht : Tryz.prog.underlying t = some (.slice 5)) (hi : Tryz.prog.info? 5 = some i) (hz : i.zero = some (.int .u8 0)) (hs : i.size = 1) (hby : i.bytes = 1)
    (b : Addr) (n cap : Nat) (xs : List Value) (hl : xs.length = n) (hsv : a.eval s = .slice (some b) n cap) (holds : ∀ j v, xs[j]? = some v → w.cell? (b.add j) = some v)
    (ad : Addr) (m c : Nat) (news : List Value) (hm : news.length = m) (hyv : a.eval y = .slice (some ad) m c) (hnews : ∀ j v, news[j]? = some v → w.cell? (ad.add j) = some v) (hg : cap < n + m) (h63 : n + m ≤ 1073741824)
    (hK : ∀ v' w', w'.ownsRow w.heap.size 5 1 v' (n + m) (xs ++ news) → Below w.heap.size w w' → wpList Tryz.prog ops Q rest (a.put o.dst v') w') :
    wpList Tryz.prog ops Q (o :: rest) a w := by
  obtain ⟨v', w', hr, h2, h3⟩ := run_app_grow w t o.type i ht hi hz hs hby b n cap xs hl holds ad m c news hm hnews hg h63
  refine wpList_plain hgd fun K hK' => ?_
  unfold Oper.wp
  simp [execOp, ho, resolve, invoke, builtin, hsv, hyv, hr, Result.andThen]
  exact hK' _ _ (hK v' w' h2 h3)
end Go.Proofs.YtiphkngfbpdeoaaGreatDoor
namespace Go.Proofs.YtiphkngfbpdeoaaGreatDoor
set_option linter.unusedVariables false
set_option linter.unusedSimpArgs false
open Go.RowKit
def EndM.new (i c b k : Int) (mb : Nat) : EndM := ⟨false, 0, 0, b, 32, 32, c - 32, i, false, 0, false, 32, 32, c, k, 0, 1, 0, false, false, 0, 0, .map (some mb), .slice none 0 0, 0, .slice none 0 0, 0, 0, 0, 0, false, 0, .slice none 0 0, false, 0, 128, 0, .slice none 0 0, 128, false, false, .slice none 0 0, .slice none 0 0, .slice none 0 0, 2, 0, 128, 0, .slice none 0 0, .slice none 0 0⟩
def pNew (i c b k : Int) : GEnd := ⟨(EndM.new i c b k 0).bare, [], [], [], [], [], []⟩
def pHeard (i c b k : Int) : GEnd := { pNew i c b k with m := { (pNew i c b k).m with greeted := 7, begun := true, other := 0, answers := .tuple #[] }, ans := [⟨3, 1, [], .slice none 0 0⟩] }
def pSaid (i c b k : Int) : GEnd := { pNew i c b k with m := { (pNew i c b k).m.setd with greeted := 7, begun := true, other := 0, answers := .tuple #[] } }
theorem right_of {k f s : Int} {body : List UInt8} (h : Right k f s body) : Right k f s body := h
theorem feed_heard (i c b k : Int) : FeedR (pNew i c b k) (greetB ++ lay 3 0 0 (four4 0)) (pHeard i c b k) := by
  refine (feedR_greet rfl rfl).app ?_
  refine feedR_lay ?_ rfl rfl rfl ?_
  · constructor <;> decide
  · have h0 : num4 (four4 0) = 0 := by decide
    have := Come.settings (p := { pNew i c b k with m := { (pNew i c b k).m with greeted := 7 } }) 0 (four4 0) ⟨by omega, by omega⟩ (by decide) rfl rfl rfl rfl
    rw [h0] at this
    exact this
end Go.Proofs.YtiphkngfbpdeoaaGreatDoor
