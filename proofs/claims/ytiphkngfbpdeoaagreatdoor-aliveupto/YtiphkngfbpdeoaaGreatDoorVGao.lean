import Derived.Test.YtiphkngfbpdeoaaGreatDoorVGam
import Derived.Test.YtiphkngfbpdeoaaGreatDoorVGan
import Derived.Test.YtiphkngfbpdeoaaGreatDoorVGak
import Derived.Test.YtiphkngfbpdeoaaGreatDoorVGad
import Derived.Deep.RegionWith
import Derived.BigRegion
set_option linter.unusedVariables false
set_option linter.unusedSimpArgs false
namespace Go.Proofs.YtiphkngfbpdeoaaGreatDoor
set_option linter.unusedVariables false
set_option linter.unusedSimpArgs false
open Go.RowKit
def EndM.died (m : EndM) (code : Int) : EndM := { m with fault := code, greeted := 0, got := .slice none 0 0, hlen := 0, hkind := 0, hflags := 0, hstream := 0, begun := false, bstream := 0, bbytes := .slice none 0 0, blast := false, newest := 0, ulim := 0, usz := 0, utab := .slice none 0 0, umost := 0, parted := false, answers := .slice none 0 0, resets := .slice none 0 0, next := 0, lastData := 0, plim := 0, psz := 0, ptab := .slice none 0 0, pwait := .slice none 0 0 }
def GSt.mute (s : GSt) : GSt := { s with st := { s.st with waiting := .slice none 0 0 }, wa := [] }
def muteN (l : List Int) (K : List GSt) : List GSt := K.map fun s => if s.st.number ∈ l then s.mute else s
def GEnd.died (g : GEnd) (code : Int) : GEnd := ⟨g.m.died code, muteN g.L g.K, g.L, g.out, [], [], []⟩
theorem muteN_nil (K : List GSt) : muteN [] K = K := by unfold muteN; simp
theorem muteN_step (l : List Int) (n : Int) (K : List GSt) : updN n GSt.mute (muteN l K) = muteN (l ++ [n]) K := by
  unfold updN muteN
  rw [List.map_map]
  apply List.map_congr_left
  intro s _
  have e : s.mute.st.number = s.st.number := rfl
  simp only [Function.comp, List.mem_append, List.mem_singleton]
  by_cases h1 : s.st.number ∈ l
  · simp only [h1, if_true, true_or, e]
    split <;> rfl
  · simp only [h1, if_false, false_or]
theorem muteN_bare (l : List Int) (K : List GSt) : (muteN l K).map GSt.bare = muteN l (K.map GSt.bare) := by
  unfold muteN
  rw [List.map_map, List.map_map]
  apply List.map_congr_left
  intro s _
  show (if s.st.number ∈ l then s.mute else s).bare = if s.bare.st.number ∈ l then s.bare.mute else s.bare
  have e : s.bare.st.number = s.st.number := rfl
  rw [e]
  split <;> rfl
theorem died_bare (g : GEnd) (code : Int) : (g.died code).bare = g.bare.died code := by
  unfold GEnd.died GEnd.bare
  simp only [GEnd.mk.injEq, true_and, and_true]
  exact ⟨rfl, muteN_bare _ _, rfl⟩
theorem owns_nil8 (w : World) (e : TypeId) : w.ownsRow 0 e 1 (.slice none 0 0) 0 [] := ⟨rfl, .inl ⟨rfl, rfl⟩⟩
theorem rowAt_nil (w : World) (e : TypeId) (size : Nat) : RowAt w e size (.slice none 0 0) 0 [] := ⟨by simp, .inl ⟨rfl, rfl⟩⟩
section
variable {w w' : World} {eb mb : Nat} {g : GEnd}
structure GaveE (W w : World) (eb mb : Nat) (g0 g : GEnd) (wI : World) (m0 : EndM) (code : Int) : Prop where
  nx : Next W wI eb mb g0 g
  en : EnB w eb m0
  same : m0.died code = g.m.died code
  chg : Chg (fun j => j = eb ∨ g.m.got.ownBlock = some j ∨ (W.heap.size ≤ j ∧ ¬ Foot eb mb g j)) wI w
  few : g.L.length ≤ 1048576
theorem Next.onDie {W : World} {g0 : GEnd} {code : Int} (hn : Next W w eb mb g0 g) (hc : Chg (fun j => j = eb ∨ g.m.got.ownBlock = some j ∨ (W.heap.size ≤ j ∧ ¬ Foot eb mb g j)) w w') (hen : EnB w' eb (g.m.died code)) : Next W w' eb mb g0 { g with m := g.m.died code, got := [], ans := [], res := [] } := by
  have h := hn.inv
  refine ⟨⟨hen, h.kn.chg hc (fun e => ?_) (fun p hp e => ?_), h.km, h.nd, h.nn, h.ln, h.has, ?_, ?_, owns_nil8 _ _, fun p hp => ?_, fun p hp => ?_, rowAt_nil _ _ _, fun a ha => (by cases ha), rowAt_nil _ _ _, ?_⟩, hn.chg.trans (hc.mono fun j _ e => ?_), fun j hj => hn.grow j ?_⟩
  · rcases e with a | a | a
    · exact h.eb_mb a
    · exact owns_mb h.kn h.got a
    · exact a.2 (Or.inr (Or.inl rfl))
  · obtain ⟨q, hq, rfl⟩ := List.mem_map.1 hp
    rcases e with a | a | a
    · exact h.st_eb hq a
    · exact owns_ne h.got (h.st hq).blk (by decide) a
    · exact a.2 (h.foot_st hq)
  · refine owns_chg h.row hc (fun j hj e => ?_)
    rcases e with a | a | a
    · rw [a] at hj; exact owns_ne h.row h.en.blk (by decide) hj
    · exact rows_ne h.got h.row (by decide) a hj
    · exact a.2 (Or.inr (Or.inr (Or.inr (Or.inr (Or.inl hj)))))
  · refine owns_chg h.out hc (fun j hj e => ?_)
    rcases e with a | a | a
    · rw [a] at hj; exact owns_ne h.out h.en.blk (by decide) hj
    · exact h.out_got hj a
    · exact a.2 (Or.inr (Or.inr (Or.inl hj)))
  · refine owns_chg (h.un p hp) hc (fun j hj e => ?_)
    rcases e with a | a | a
    · rw [a] at hj; exact owns_ne (h.un p hp) h.en.blk (by decide) hj
    · exact h.got_un hp hj a
    · exact a.2 (foot_un (g := g) hp hj)
  · refine owns_chg (h.wa p hp) hc (fun j hj e => ?_)
    rcases e with a | a | a
    · rw [a] at hj; exact owns_ne (h.wa p hp) h.en.blk (by decide) hj
    · exact h.got_wa hp hj a
    · exact a.2 (foot_wa (g := g) hp hj)
  · exact h.apart (fun _ => 0) (g.m.died code) g.K [] (fun j hj => Or.inl hj) (fun j hj => by cases hj) (fun p hp' j hj => Or.inl ⟨p, hp', rfl, hj⟩) (fun p hp' j hj => Or.inl ⟨p, hp', rfl, hj⟩) (fun a ha' j hj => by cases ha')
  · rcases e with a | a | a
    · rcases hn.grow j (Or.inl a) with b | b
      · exact Or.inr b
      · exact Or.inl b
    · rcases hn.grow j (Or.inr (Or.inr (Or.inr (Or.inl a)))) with b | b
      · exact Or.inr b
      · exact Or.inl b
    · exact Or.inl a.1
  · unfold Foot at hj ⊢
    rcases hj with e | e | e | e | e | e | e | ⟨a, ha', e⟩ | e
    · simp [e]
    · simp [e]
    · exact Or.inr (Or.inr (Or.inl e))
    · cases e
    · exact Or.inr (Or.inr (Or.inr (Or.inr (Or.inl e))))
    · cases e
    · cases e
    · cases ha'
    · exact Or.inr (Or.inr (Or.inr (Or.inr (Or.inr (Or.inr (Or.inr (Or.inr e)))))))
theorem Inv.onMute {s : GSt} (h : Inv w eb mb g) (hs : s ∈ g.K) : Next w (w.setCell ⟨s.sb, 12, none⟩ (.slice none 0 0)) eb mb g { g with K := updN s.st.number GSt.mute g.K } := by
  have hc : Chg (fun j => j = s.sb) w (w.setCell ⟨s.sb, 12, none⟩ (.slice none 0 0)) := chg_set (Chg.refl _ _) rfl
  have keep : ∀ {k : Nat} {v' : Value} {xs : List Value} {ty : TypeId}, w.ownsRow 0 ty 1 v' k xs → (∀ j, v'.ownBlock = some j → j ≠ s.sb) → (w.setCell ⟨s.sb, 12, none⟩ (.slice none 0 0)).ownsRow 0 ty 1 v' k xs := fun hr hj => owns_chg hr hc (fun j hjj e => hj j hjj e)
  have hn := h.onSt (S := fun j => j = s.sb) (m' := g.m) (s := s) (s' := s.mute) (L' := g.L) (o' := g.out) 0 hs hc (fun j e => Or.inr (Or.inl e)) (h.en.chg hc (fun e => h.st_eb hs e.symm)) (StB.of (blk_set (h.st hs).blk) rfl) rfl rfl rfl rfl rfl rfl
    (keep h.row (fun j hj e => by rw [e] at hj; exact owns_ne h.row (h.st hs).blk (by decide) hj)) (fun j hj => Or.inl hj) (List.Sublist.refl _)
    (keep h.out (fun j hj e => by rw [e] at hj; exact owns_ne h.out (h.st hs).blk (by decide) hj)) (fun j hj => Or.inl hj)
    (keep (h.un s hs) (fun j hj e => by rw [e] at hj; exact owns_ne (h.un s hs) (h.st hs).blk (by decide) hj)) (fun j hj => Or.inl hj)
    (owns_nil8 _ _) (fun j hj => by cases hj)
  rw [updN_const (f := GSt.mute) h.nn hs rfl] at hn
  exact hn
end
theorem foot_died {eb mb : Nat} {g : GEnd} {code : Int} {j : Nat} (h : Foot eb mb { g with m := g.m.died code, got := [], ans := [], res := [] } j) : Foot eb mb g j := by
  unfold Foot at h ⊢
  rcases h with e | e | e | e | e | e | e | ⟨a, ha', e⟩ | e
  · simp [e]
  · simp [e]
  · exact Or.inr (Or.inr (Or.inl e))
  · cases e
  · exact Or.inr (Or.inr (Or.inr (Or.inr (Or.inl e))))
  · cases e
  · cases e
  · cases ha'
  · exact Or.inr (Or.inr (Or.inr (Or.inr (Or.inr (Or.inr (Or.inr (Or.inr e)))))))
theorem foot_mute {eb mb : Nat} {g : GEnd} {n : Int} {j : Nat} (h : Foot eb mb { g with K := updN n GSt.mute g.K } j) : Foot eb mb g j := by
  unfold Foot at h ⊢
  rcases h with e | e | e | e | e | e | e | e | ⟨p, hp, e⟩
  · exact Or.inl e
  · exact Or.inr (Or.inl e)
  · exact Or.inr (Or.inr (Or.inl e))
  · exact Or.inr (Or.inr (Or.inr (Or.inl e)))
  · exact Or.inr (Or.inr (Or.inr (Or.inr (Or.inl e))))
  · exact Or.inr (Or.inr (Or.inr (Or.inr (Or.inr (Or.inl e)))))
  · exact Or.inr (Or.inr (Or.inr (Or.inr (Or.inr (Or.inr (Or.inl e))))))
  · exact Or.inr (Or.inr (Or.inr (Or.inr (Or.inr (Or.inr (Or.inr (Or.inl e)))))))
  · refine Or.inr (Or.inr (Or.inr (Or.inr (Or.inr (Or.inr (Or.inr (Or.inr ?_)))))))
    obtain ⟨s, hs, rfl⟩ := List.mem_map.1 hp
    refine ⟨s, hs, ?_⟩
    split at e
    · rcases e with e | e | e
      · exact Or.inl e
      · exact Or.inr (Or.inl e)
      · cases e
    · exact e
def GoingC (w : World) (eb : Nat) (m : EndM) : Prop := eb < w.heap.size ∧ w.cell? ⟨eb, 39, none⟩ = some (.bool m.greets) ∧ w.frozen? ⟨eb, 39, none⟩ = false ∧ w.cell? ⟨eb, 40, none⟩ = some (.bool m.parted) ∧ w.frozen? ⟨eb, 40, none⟩ = false ∧ w.cell? ⟨eb, 41, none⟩ = some (m.out) ∧ w.frozen? ⟨eb, 41, none⟩ = false ∧ w.cell? ⟨eb, 42, none⟩ = some (m.answers) ∧ w.frozen? ⟨eb, 42, none⟩ = false ∧ w.cell? ⟨eb, 43, none⟩ = some (m.resets) ∧ w.frozen? ⟨eb, 43, none⟩ = false ∧ w.cell? ⟨eb, 44, none⟩ = some (.int .i64 m.next) ∧ w.frozen? ⟨eb, 44, none⟩ = false ∧ w.cell? ⟨eb, 45, none⟩ = some (.int .i64 m.lastData) ∧ w.frozen? ⟨eb, 45, none⟩ = false ∧ w.cell? ⟨eb, 46, none⟩ = some (.int .i64 m.plim) ∧ w.frozen? ⟨eb, 46, none⟩ = false ∧ w.cell? ⟨eb, 47, none⟩ = some (.int .i64 m.psz) ∧ w.frozen? ⟨eb, 47, none⟩ = false ∧ w.cell? ⟨eb, 48, none⟩ = some (m.ptab) ∧ w.frozen? ⟨eb, 48, none⟩ = false ∧ w.cell? ⟨eb, 49, none⟩ = some (m.pwait) ∧ w.frozen? ⟨eb, 49, none⟩ = false
theorem EnB.going {w : World} {eb : Nat} {m : EndM} (h : EnB w eb m) : GoingC w eb m := ⟨h.lt, h.c39, h.fr 39, h.c40, h.fr 40, h.c41, h.fr 41, h.c42, h.fr 42, h.c43, h.fr 43, h.c44, h.fr 44, h.c45, h.fr 45, h.c46, h.fr 46, h.c47, h.fr 47, h.c48, h.fr 48, h.c49, h.fr 49⟩
def EndM.deaf (m : EndM) (code : Int) : EndM := { m with fault := code, greeted := 0, got := .slice none 0 0, hlen := 0, hkind := 0, hflags := 0, hstream := 0, begun := false, bstream := 0, bbytes := .slice none 0 0, blast := false, newest := 0, ulim := 0, usz := 0, utab := .slice none 0 0, umost := 0 }
theorem deaf_en {w : World} {eb : Nat} {m0 : EndM} (code : Int) (h : EnB w eb m0) : EnB ((((((((((((((((w.setCell ⟨eb, 1, none⟩ (.int .i64 code)).setCell ⟨eb, 24, none⟩ (.int .i64 0)).setCell ⟨eb, 25, none⟩ (.slice none 0 0)).setCell ⟨eb, 26, none⟩ (.int .i64 0)).setCell ⟨eb, 27, none⟩ (.int .i64 0)).setCell ⟨eb, 28, none⟩ (.int .i64 0)).setCell ⟨eb, 29, none⟩ (.int .i64 0)).setCell ⟨eb, 30, none⟩ (.bool false)).setCell ⟨eb, 31, none⟩ (.int .i64 0)).setCell ⟨eb, 32, none⟩ (.slice none 0 0)).setCell ⟨eb, 33, none⟩ (.bool false)).setCell ⟨eb, 34, none⟩ (.int .i64 0)).setCell ⟨eb, 35, none⟩ (.int .i64 0)).setCell ⟨eb, 36, none⟩ (.int .i64 0)).setCell ⟨eb, 37, none⟩ (.slice none 0 0)).setCell ⟨eb, 38, none⟩ (.int .i64 0)) eb (m0.deaf code) ∧ Chg (fun j => j = eb) w ((((((((((((((((w.setCell ⟨eb, 1, none⟩ (.int .i64 code)).setCell ⟨eb, 24, none⟩ (.int .i64 0)).setCell ⟨eb, 25, none⟩ (.slice none 0 0)).setCell ⟨eb, 26, none⟩ (.int .i64 0)).setCell ⟨eb, 27, none⟩ (.int .i64 0)).setCell ⟨eb, 28, none⟩ (.int .i64 0)).setCell ⟨eb, 29, none⟩ (.int .i64 0)).setCell ⟨eb, 30, none⟩ (.bool false)).setCell ⟨eb, 31, none⟩ (.int .i64 0)).setCell ⟨eb, 32, none⟩ (.slice none 0 0)).setCell ⟨eb, 33, none⟩ (.bool false)).setCell ⟨eb, 34, none⟩ (.int .i64 0)).setCell ⟨eb, 35, none⟩ (.int .i64 0)).setCell ⟨eb, 36, none⟩ (.int .i64 0)).setCell ⟨eb, 37, none⟩ (.slice none 0 0)).setCell ⟨eb, 38, none⟩ (.int .i64 0)) := by
  refine ⟨EnB.of (cs := _) (blk_set (blk_set (blk_set (blk_set (blk_set (blk_set (blk_set (blk_set (blk_set (blk_set (blk_set (blk_set (blk_set (blk_set (blk_set (blk_set h.blk)))))))))))))))) (by simp [EndM.cells, EndM.deaf]), ?_⟩
  exact (chg_set (chg_set (chg_set (chg_set (chg_set (chg_set (chg_set (chg_set (chg_set (chg_set (chg_set (chg_set (chg_set (chg_set (chg_set (chg_set (Chg.refl _ _) rfl) rfl) rfl) rfl) rfl) rfl) rfl) rfl) rfl) rfl) rfl) rfl) rfl) rfl) rfl) rfl)
theorem EnB.drewE {w : World} {eb : Nat} {m : EndM} (h : EnB w eb m) : EnB w.drew eb m := ⟨h.blk⟩
theorem dumb_en {wB : World} {eb : Nat} {m0 : EndM} (code : Int) (h : EnB wB eb (m0.deaf code)) : EnB ((((((((((((wB).setCell ⟨eb, 39, none⟩ (.bool m0.greets)).setCell ⟨eb, 40, none⟩ (.bool false)).setCell ⟨eb, 41, none⟩ (m0.out)).setCell ⟨eb, 42, none⟩ (.slice none 0 0)).setCell ⟨eb, 43, none⟩ (.slice none 0 0)).setCell ⟨eb, 44, none⟩ (.int .i64 0)).setCell ⟨eb, 45, none⟩ (.int .i64 0)).setCell ⟨eb, 46, none⟩ (.int .i64 0)).setCell ⟨eb, 47, none⟩ (.int .i64 0)).setCell ⟨eb, 48, none⟩ (.slice none 0 0)).setCell ⟨eb, 49, none⟩ (.slice none 0 0)) eb (m0.died code) ∧ Chg (fun j => j = eb) wB ((((((((((((wB).setCell ⟨eb, 39, none⟩ (.bool m0.greets)).setCell ⟨eb, 40, none⟩ (.bool false)).setCell ⟨eb, 41, none⟩ (m0.out)).setCell ⟨eb, 42, none⟩ (.slice none 0 0)).setCell ⟨eb, 43, none⟩ (.slice none 0 0)).setCell ⟨eb, 44, none⟩ (.int .i64 0)).setCell ⟨eb, 45, none⟩ (.int .i64 0)).setCell ⟨eb, 46, none⟩ (.int .i64 0)).setCell ⟨eb, 47, none⟩ (.int .i64 0)).setCell ⟨eb, 48, none⟩ (.slice none 0 0)).setCell ⟨eb, 49, none⟩ (.slice none 0 0)) := by
  refine ⟨EnB.of (cs := _) (blk_set (blk_set (blk_set (blk_set (blk_set (blk_set (blk_set (blk_set (blk_set (blk_set (blk_set h.blk))))))))))) (by simp [EndM.cells, EndM.deaf, EndM.died]), ?_⟩
  exact (chg_set (chg_set (chg_set (chg_set (chg_set (chg_set (chg_set (chg_set (chg_set (chg_set (chg_set (Chg.refl _ _) rfl) rfl) rfl) rfl) rfl) rfl) rfl) rfl) rfl) rfl) rfl)
theorem died_en {wB : World} {eb : Nat} {m0 : EndM} (code : Int) (h : EnB wB eb (m0.deaf code)) : EnB ((((((((((((wB).setCell ⟨eb, 39, none⟩ (.bool m0.greets)).setCell ⟨eb, 40, none⟩ (.bool false)).setCell ⟨eb, 41, none⟩ (m0.out)).setCell ⟨eb, 42, none⟩ (.slice none 0 0)).setCell ⟨eb, 43, none⟩ (.slice none 0 0)).setCell ⟨eb, 44, none⟩ (.int .i64 0)).setCell ⟨eb, 45, none⟩ (.int .i64 0)).setCell ⟨eb, 46, none⟩ (.int .i64 0)).setCell ⟨eb, 47, none⟩ (.int .i64 0)).setCell ⟨eb, 48, none⟩ (.slice none 0 0)).setCell ⟨eb, 49, none⟩ (.slice none 0 0)).drew eb (m0.died code) ∧ Chg (fun j => j = eb) wB ((((((((((((wB).setCell ⟨eb, 39, none⟩ (.bool m0.greets)).setCell ⟨eb, 40, none⟩ (.bool false)).setCell ⟨eb, 41, none⟩ (m0.out)).setCell ⟨eb, 42, none⟩ (.slice none 0 0)).setCell ⟨eb, 43, none⟩ (.slice none 0 0)).setCell ⟨eb, 44, none⟩ (.int .i64 0)).setCell ⟨eb, 45, none⟩ (.int .i64 0)).setCell ⟨eb, 46, none⟩ (.int .i64 0)).setCell ⟨eb, 47, none⟩ (.int .i64 0)).setCell ⟨eb, 48, none⟩ (.slice none 0 0)).setCell ⟨eb, 49, none⟩ (.slice none 0 0)).drew := ⟨EnB.drewE (dumb_en code h).1, (dumb_en code h).2.drew⟩
set_option maxRecDepth 100000 in
set_option maxHeartbeats 1600000 in
theorem eDie_any (W : World) (eb mb : Nat) (g0 g : GEnd) (wI : World) (m0 : EndM) (code : Int) (w : World) (h : GaveE W w eb mb g0 g wI m0 code) :
    Calls Tryz.prog 25 #[.pointer (some ⟨eb, 0, none⟩), .int .i64 code] w fun e w' => e = .returned (.tuple #[]) ∧ (∃ g', g'.bare = g.bare.died code ∧ RdOk g' ∧ Next W w' eb mb g0 g') ∧ Chg (fun j => Foot eb mb g j) w w' := by
  have c1 := h.en.c1
  have f1 := h.en.fr 1
  have c24 := h.en.c24
  have f24 := h.en.fr 24
  have c25 := h.en.c25
  have f25 := h.en.fr 25
  have c26 := h.en.c26
  have f26 := h.en.fr 26
  have c27 := h.en.c27
  have f27 := h.en.fr 27
  have c28 := h.en.c28
  have f28 := h.en.fr 28
  have c29 := h.en.c29
  have f29 := h.en.fr 29
  have c30 := h.en.c30
  have f30 := h.en.fr 30
  have c31 := h.en.c31
  have f31 := h.en.fr 31
  have c32 := h.en.c32
  have f32 := h.en.fr 32
  have c33 := h.en.c33
  have f33 := h.en.fr 33
  have c34 := h.en.c34
  have f34 := h.en.fr 34
  have c35 := h.en.c35
  have f35 := h.en.fr 35
  have c36 := h.en.c36
  have f36 := h.en.fr 36
  have c37 := h.en.c37
  have f37 := h.en.fr 37
  have c38 := h.en.c38
  have f38 := h.en.fr 38
  have hlt := h.en.lt
  obtain ⟨hen1, hch1⟩ := deaf_en code h.en
  have HE1 := hide hen1
  have HC1 := hide hch1
  have H := hide h
  clear h hen1 hch1
  go_enter Tryz.func25, Tryz.ntmps25
  go_upto_region 2 with fail
  generalize (((((((((((((((w.setCell ⟨eb, 1, none⟩ (.int .i64 code)).setCell ⟨eb, 24, none⟩ (.int .i64 0)).setCell ⟨eb, 25, none⟩ (.slice none 0 0)).setCell ⟨eb, 26, none⟩ (.int .i64 0)).setCell ⟨eb, 27, none⟩ (.int .i64 0)).setCell ⟨eb, 28, none⟩ (.int .i64 0)).setCell ⟨eb, 29, none⟩ (.int .i64 0)).setCell ⟨eb, 30, none⟩ (.bool false)).setCell ⟨eb, 31, none⟩ (.int .i64 0)).setCell ⟨eb, 32, none⟩ (.slice none 0 0)).setCell ⟨eb, 33, none⟩ (.bool false)).setCell ⟨eb, 34, none⟩ (.int .i64 0)).setCell ⟨eb, 35, none⟩ (.int .i64 0)).setCell ⟨eb, 36, none⟩ (.int .i64 0)).setCell ⟨eb, 37, none⟩ (.slice none 0 0)).setCell ⟨eb, 38, none⟩ (.int .i64 0) = wB at *
  clear c1 f1 c24 f24 c25 f25 c26 f26 c27 f27 c28 f28 c29 f29 c30 f30 c31 f31 c32 f32 c33 f33 c34 f34 c35 f35 c36 f36 c37 f37 c38 f38
  obtain ⟨hen2, hch2⟩ := died_en code HE1.out
  have HE2 := hide hen2
  have HC2 := hide hch2
  have HG : Hid (GoingC wB.drew eb m0) := EnB.going (m := m0.deaf code) ⟨HE1.out.blk⟩
  clear hen2 hch2
  have hltB := HE1.out.lt
  obtain ⟨so, co, hso⟩ : ∃ so co, m0.out = .slice so g.out.length co := by
    obtain ⟨so, co, e⟩ := slice_len H.out.nx.inv.out
    have e2 : (m0.died code).out = (g.m.died code).out := by rw [H.out.same]
    exact ⟨so, co, Eq.trans e2 e⟩
  unfold GoingC at HG
  have c39 : wB.cell? ⟨eb, 39, none⟩ = some (.bool m0.greets) := HE1.out.c39
  have f39 := HE1.out.fr 39
  have c40 : wB.cell? ⟨eb, 40, none⟩ = some (.bool m0.parted) := HE1.out.c40
  have f40 := HE1.out.fr 40
  have c41 : wB.cell? ⟨eb, 41, none⟩ = some (m0.out) := HE1.out.c41
  have f41 := HE1.out.fr 41
  have c42 : wB.cell? ⟨eb, 42, none⟩ = some (m0.answers) := HE1.out.c42
  have f42 := HE1.out.fr 42
  have c43 : wB.cell? ⟨eb, 43, none⟩ = some (m0.resets) := HE1.out.c43
  have f43 := HE1.out.fr 43
  have c44 : wB.cell? ⟨eb, 44, none⟩ = some (.int .i64 m0.next) := HE1.out.c44
  have f44 := HE1.out.fr 44
  have c45 : wB.cell? ⟨eb, 45, none⟩ = some (.int .i64 m0.lastData) := HE1.out.c45
  have f45 := HE1.out.fr 45
  have c46 : wB.cell? ⟨eb, 46, none⟩ = some (.int .i64 m0.plim) := HE1.out.c46
  have f46 := HE1.out.fr 46
  have c47 : wB.cell? ⟨eb, 47, none⟩ = some (.int .i64 m0.psz) := HE1.out.c47
  have f47 := HE1.out.fr 47
  have c48 : wB.cell? ⟨eb, 48, none⟩ = some (m0.ptab) := HE1.out.c48
  have f48 := HE1.out.fr 48
  have c49 : wB.cell? ⟨eb, 49, none⟩ = some (m0.pwait) := HE1.out.c49
  have f49 := HE1.out.fr 49
  rw [hso] at HG HE2 HC2
  rw [hso] at c41
  have HK1 : Hid (wB.drew.cell? ⟨eb, 39, none⟩ = some (.bool m0.greets) ∧ wB.drew.cell? ⟨eb, 41, none⟩ = some (.slice so g.out.length co)) := ⟨c39, c41⟩
  have HK2 := hide (show _ ∧ _ from ⟨HE2.out.c39, HE2.out.c41⟩)
  rw [show (m0.died code).greets = m0.greets from rfl, show (m0.died code).out = m0.out from rfl, hso] at HK2
  go_region_held3 (fun wx => wx.cell? ⟨eb, 39, none⟩ = some (.bool m0.greets) ∧ wx.cell? ⟨eb, 41, none⟩ = some (.slice so g.out.length co)) (first | with_reducible exact HK1.out | with_reducible exact HK2.out) (fail)
  generalize ((((((((((((wB).setCell ⟨eb, 39, none⟩ (.bool m0.greets)).setCell ⟨eb, 40, none⟩ (.bool false)).setCell ⟨eb, 41, none⟩ (.slice so g.out.length co)).setCell ⟨eb, 42, none⟩ (.slice none 0 0)).setCell ⟨eb, 43, none⟩ (.slice none 0 0)).setCell ⟨eb, 44, none⟩ (.int .i64 0)).setCell ⟨eb, 45, none⟩ (.int .i64 0)).setCell ⟨eb, 46, none⟩ (.int .i64 0)).setCell ⟨eb, 47, none⟩ (.int .i64 0)).setCell ⟨eb, 48, none⟩ (.slice none 0 0)).setCell ⟨eb, 49, none⟩ (.slice none 0 0)).drew = wD at *
  clear c39 f39 c40 f40 c41 f41 c42 f42 c43 f43 c44 f44 c45 f45 c46 f46 c47 f47 c48 f48 c49 f49 HK1 HK2 HG hltB hlt
  have hn1 : Next W wD eb mb g0 { g with m := g.m.died code, got := [], ans := [], res := [] } := by
    refine H.out.nx.onDie (H.out.chg.trans ((HC1.out.trans (HC2.out.mono fun j _ e => Or.inr e)).mono fun j _ e => Or.inr (Or.inl e))) ?_
    rw [← H.out.same]
    exact HE2.out
  have HL : Hid (g.L.length ≤ 1048576) := H.out.few
  have HCW : Hid (Chg (fun j => Foot eb mb g j) w wD) := (HC1.out.trans (HC2.out.mono fun j _ e => Or.inr e)).mono fun j _ e => Or.inl e
  clear HE2 HC2 HC1 HE1 H hso
  obtain ⟨g1, hg1⟩ : ∃ g1 : GEnd, g1 = { g with m := g.m.died code, got := [], ans := [], res := [] } := ⟨_, rfl⟩
  rw [← hg1] at hn1
  have hb1 : ({ g1.bare with K := muteN g1.L g1.bare.K } : GEnd) = g.bare.died code := by
    rw [hg1]
    rfl
  have HG1 : Hid (g1.got = []) := by rw [hg1]; rfl
  have HFG : Hid (∀ j, Foot eb mb g1 j → Foot eb mb g j) := fun j hj => by rw [hg1] at hj; exact foot_died hj
  have hL1 : g1.L.length ≤ 1048576 := by rw [hg1]; exact HL.out
  have HB1 := hide hb1
  clear hg1 hb1 HL
  obtain ⟨sp, cp, hop⟩ := slice_len hn1.inv.row
  have c23 := hn1.inv.en.c23
  rw [hop] at c23
  have HN1 := hide hn1
  have HOP := hide hop
  clear hn1 hop
  go_wp2
  go_loopw [34] (fun i wr => ∃ (k : Nat) (wv : World) (c : GEnd), wv = wr ∧ i = .int .i64 (k : Int) ∧ k ≤ g1.L.length ∧ Next W wv eb mb g0 c ∧ c.m.opn = g1.m.opn ∧ c.L = g1.L ∧ c.got = [] ∧ c.bare = { g1.bare with K := muteN (g1.L.take k) g1.bare.K } ∧ Chg (fun j => Foot eb mb g j) w wv ∧ ∀ j, Foot eb mb c j → Foot eb mb g j) (fun i _ => g1.L.length - (intOf i).toNat)
  case atStart => exact ⟨0, _, g1, rfl, rfl, Nat.zero_le _, HN1.out, rfl, rfl, HG1.out, by rw [List.take_zero, muteN_nil], HCW.out, HFG.out⟩
  case round =>
    obtain ⟨k, wv, c, hwv, rfl, hk, hnx, hco, hcL, hcg, hcb, hcw, hfg⟩ := hrel
    subst hwv
    by_cases hlk : k < g1.L.length
    · have hkc : k < c.L.length := by rw [hcL]; exact hlk
      obtain ⟨gr, cr, e1, e2, e3⟩ := hnx.inv.open.at (k := k) (by rw [openS_length]; exact hkc)
      rw [hco, HOP.out, openS_length, hcL] at e1
      simp only [Value.slice.injEq, true_and] at e1
      obtain ⟨rfl, rfl⟩ := e1
      rw [openS_length, hcL] at e3
      have hLk : c.L[k] = g1.L[k] := by simp only [hcL]
      obtain ⟨hm, hmn⟩ := hnx.inv.at (n := c.L[k]) (List.getElem_mem hkc)
      have e4 : ((openS c.K c.L)[k]'(by rw [openS_length]; exact hkc)).1 = (atN c.K c.L[k]).sb := by simp [openS, GSt.str]
      rw [e4] at e2
      have hst := hnx.inv.st hm
      have hmu := hnx.inv.onMute hm
      have k12 := hst.c12
      have q12 := hst.fr 12
      have hslt := hst.lt
      have HNX := hide (hnx.trans hmu)
      have HREL : Hid (({ c with K := updN (atN c.K c.L[k]).st.number GSt.mute c.K } : GEnd).bare = { g1.bare with K := muteN (g1.L.take (k + 1)) g1.bare.K }) := by
        have e5 : ({ c with K := updN (atN c.K c.L[k]).st.number GSt.mute c.K } : GEnd).bare = { c.bare with K := updN (atN c.K c.L[k]).st.number GSt.mute c.bare.K } := by
          unfold GEnd.bare
          simp only [GEnd.mk.injEq, true_and, and_true]
          exact updN_bare _ GSt.mute (fun s => rfl) _
        rw [e5, hcb, hmn, hLk]
        simp only [GEnd.mk.injEq, true_and, and_true]
        rw [muteN_step, List.take_add_one, List.getElem?_eq_getElem hlk]
        rfl
      have HCW2 : Hid (Chg (fun j => Foot eb mb g j) w (wv.setCell ⟨(atN c.K c.L[k]).sb, 12, none⟩ (.slice none 0 0))) := chg_set hcw (hfg _ (hnx.inv.foot_st hm))
      have HFG2 : Hid (∀ j, Foot eb mb { c with K := updN (atN c.K c.L[k]).st.number GSt.mute c.K } j → Foot eb mb g j) := fun j hj => hfg j (foot_mute hj)
      have HCO := hide hco
      have HCL := hide hcL
      have HCG := hide hcg
      generalize (atN c.K c.L[k]).sb = sb at *
      clear hnx hco hcL hcg hcb hst hmu hm hmn e4 hcw hfg
      go_wp2
      all_goals go_roundw
      case rel => exact ⟨k + 1, _, _, rfl, by go_num, by omega, HNX.out, HCO.out, HCL.out, HCG.out, HREL.out, HCW2.out, HFG2.out⟩
      case measure => simp [intOf]; omega
    · have hke : k = g1.L.length := by omega
      rw [hke, List.take_of_length_le (Nat.le_refl _), HB1.out] at hcb
      have HEND : Hid ((∃ g', g'.bare = g.bare.died code ∧ RdOk g' ∧ Next W wv eb mb g0 g') ∧ Chg (fun j => Foot eb mb g j) w wv) := ⟨⟨c, hcb, RdOk.nil hcg, hnx⟩, hcw⟩
      clear hnx hco hcL hcg hcb hke hcw hfg
      go_wp2
      exact bodyPost_end (results_none rfl _ _ _) rfl ⟨rfl, HEND.out⟩
end Go.Proofs.YtiphkngfbpdeoaaGreatDoor
namespace Go.Proofs.YtiphkngfbpdeoaaGreatDoor
set_option linter.unusedVariables false
set_option linter.unusedSimpArgs false
open Go.RowKit
set_option maxHeartbeats 400000 in
theorem comeAck_p (eb : Nat) (m : EndM) (w : World) (h : EnB w eb m) (hw : m.waits = false) :
    Calls Tryz.prog 124 #[.pointer (some ⟨eb, 0, none⟩)] w fun e w' => e = .panicked [{ v := .iface 36 (.int .i64 11), recovered := false }] ∧ w' = w := by
  have c10 := h.c10
  rw [hw] at c10
  clear h
  go_enter Tryz.func124, Tryz.ntmps124
  go_wp2
  exact ⟨rfl, rfl, rfl⟩
set_option maxRecDepth 100000 in
set_option maxHeartbeats 800000 in
theorem comeSettings_p (eb : Nat) (m : EndM) (f n nv : Int) (sv : Option Addr) (len cb : Nat) (w : World) (h : EnB w eb m) (hw : m.waits = false) (hf : 0 ≤ f ∧ f ≤ 255) (hak : hasB f 1 = true) :
    Calls Tryz.prog 85 #[.pointer (some ⟨eb, 0, none⟩), .agg #[.int .i64 3, .int .i64 f, .int .i64 n, .slice sv len cb, .int .i64 nv]] w fun e w' => e = .panicked [{ v := .iface 36 (.int .i64 11), recovered := false }] ∧ Below w.heap.size w w' := by
  have hbA : Below w.heap.size w (w.alloc (.cells #[.int .i64 3, .int .i64 f, .int .i64 n, .slice sv len cb, .int .i64 nv] 167)) := (Below.refl _ _).alloc (Nat.le_refl _) _
  have HH : Hid (∀ w, Calls Tryz.prog 83 #[.agg #[.int .i64 3, .int .i64 f, .int .i64 n, .slice sv len cb], .int .i64 1] w fun e w' => e = .returned (.bool true) ∧ Below w.heap.size w w') := fun w => by
    have := has_any 3 f n 1 (.slice sv len cb) w hf.1 (by omega) (Or.inl rfl)
    rw [hak] at this
    exact this
  have HA : Hid (∀ w', Below w.heap.size w w' → Calls Tryz.prog 124 #[.pointer (some ⟨eb, 0, none⟩)] w' fun e w'' => e = .panicked [{ v := .iface 36 (.int .i64 11), recovered := false }] ∧ w'' = w') := fun w' hb => comeAck_p eb m w' (h.below hb) hw
  have HB := hide hbA
  clear h hw hf hak hbA
  go_enter Tryz.func85, Tryz.ntmps85
  go_wp2_with fail
  refine (HH.out _).mono ?_
  rintro e w1 ⟨rfl, hb1⟩
  have hb : Below w.heap.size w w1 := HB.out.trans (hb1.mono HB.out.size)
  have HB1 := hide hb
  clear hb1 hb
  go_wp2_with fail
  refine (HA.out w1 HB1.out).mono ?_
  rintro e w2 ⟨rfl, hw2⟩
  rw [hw2]
  clear hw2 w2
  go_wp2
  exact ⟨rfl, rfl, HB1.out⟩
set_option maxRecDepth 100000 in
set_option maxHeartbeats 800000 in
theorem comeData_none (eb mb : Nat) (g : GEnd) (f n : Int) (sv : Option Addr) (len cb : Nat) (w : World) (h : Inv w eb mb g) (hn : ∀ s ∈ g.K, s.st.number ≠ n) :
    Calls Tryz.prog 80 #[.pointer (some ⟨eb, 0, none⟩), dataV f n sv len cb] w fun e w' => e = .panicked [{ v := .iface 36 (.int .i64 11), recovered := false }] ∧ Below w.heap.size w w' := by
  have hbA : Below w.heap.size w (w.alloc (.cells #[.int .i64 0, .int .i64 f, .int .i64 n, .slice sv len cb, .slice sv len cb] 155)) := (Below.refl _ _).alloc (Nat.le_refl _) _
  have hA := h.below hbA
  have han := announced_any eb mb g.m _ n _ hA.en h.km hA.kn
  have hfi : findK (g.K.map GSt.str) n = none := by
    unfold findK
    rw [List.find?_eq_none]
    intro x hx
    obtain ⟨s, hs, rfl⟩ := List.mem_map.1 hx
    simpa [GSt.str] using hn s hs
  rw [hfi] at han
  have HAN := hide han
  have HB := hide hbA
  clear h hA han hbA
  unfold dataV
  go_enter Tryz.func80, Tryz.ntmps80
  go_wp2_with fail
  refine HAN.out.mono ?_
  rintro e w' ⟨hw', rfl⟩
  rw [hw']
  clear hw' w'
  go_wp2
  exact ⟨rfl, rfl, HB.out⟩
set_option maxRecDepth 100000 in
set_option maxHeartbeats 800000 in
theorem comeData_flow (eb mb : Nat) (g : GEnd) (s : GSt) (f : Int) (sv : Option Addr) (len cb : Nat) (w : World) (h : Inv w eb mb g) (hs : s ∈ g.K) (ha : s.st.announced = true) (hh : s.st.hasAll = false) (hr : s.st.reset = 0) (hl : 1 ≤ (len : Int) ∧ g.m.receive < (len : Int)) :
    Calls Tryz.prog 80 #[.pointer (some ⟨eb, 0, none⟩), dataV f s.st.number sv len cb] w fun e w' => e = .panicked [{ v := .iface 36 (.int .i64 12), recovered := false }] ∧ Below w.heap.size w w' := by
  have hbA : Below w.heap.size w (w.alloc (.cells #[.int .i64 0, .int .i64 f, .int .i64 s.st.number, .slice sv len cb, .slice sv len cb] 155)) := (Below.refl _ _).alloc (Nat.le_refl _) _
  have hA := h.below hbA
  have han := announced_any eb mb g.m _ s.st.number _ hA.en h.km hA.kn
  rw [hA.find hs] at han
  simp only [GSt.str, ha, if_true] at han
  have HAN := hide han
  have k9 := (hA.st hs).c9
  rw [hh] at k9
  have k10 := (hA.st hs).c10
  rw [hr] at k10
  have c5 := hA.en.c5
  have HB := hide hbA
  obtain ⟨l1, l2⟩ := hl
  clear h hA han hbA
  unfold dataV
  go_enter Tryz.func80, Tryz.ntmps80
  go_wp2_with fail
  refine HAN.out.mono ?_
  rintro e w' ⟨hw', rfl⟩
  rw [hw']
  clear hw' w'
  go_wp2
  exact ⟨rfl, rfl, HB.out⟩
set_option maxHeartbeats 400000 in
theorem checkWindow_p (n : Int) (w : World) (h : 2147483647 < n) :
    Calls Tryz.prog 125 #[.int .i64 n] w fun e w' => e = .panicked [{ v := .iface 36 (.int .i64 12), recovered := false }] ∧ w' = w := by
  go_enter Tryz.func125, Tryz.ntmps125
  go_wp2
  exact ⟨rfl, rfl, rfl⟩
end Go.Proofs.YtiphkngfbpdeoaaGreatDoor
namespace Go.Proofs.YtiphkngfbpdeoaaGreatDoor
set_option linter.unusedVariables false
set_option linter.unusedSimpArgs false
open Go.RowKit
set_option maxRecDepth 100000 in
set_option maxHeartbeats 1600000 in
theorem comeHeaders_p (eb mb : Nat) (g : GEnd) (f n : Int) (sv : Option Addr) (len cb : Nat) (w : World) (h : Inv w eb mb g) (hop : g.m.opensN n = false) (hnw : n ≤ g.m.newest) :
    Calls Tryz.prog 81 #[.pointer (some ⟨eb, 0, none⟩), .agg #[.int .i64 1, .int .i64 f, .int .i64 n, .slice sv len cb, .slice sv len cb]] w fun e w' => e = .panicked [{ v := .iface 36 (.int .i64 11), recovered := false }] ∧ Below w.heap.size w w' := by
  have hbA : Below w.heap.size w (w.alloc (.cells #[.int .i64 1, .int .i64 f, .int .i64 n, .slice sv len cb, .slice sv len cb] 158)) := (Below.refl _ _).alloc (Nat.le_refl _) _
  have hnew := heap_alloc_new w (.cells #[.int .i64 1, .int .i64 f, .int .i64 n, .slice sv len cb, .slice sv len cb] 158)
  obtain ⟨wA, hwA⟩ : ∃ wA, wA = w.alloc (.cells #[.int .i64 1, .int .i64 f, .int .i64 n, .slice sv len cb, .slice sv len cb] 158) := ⟨_, rfl⟩
  rw [← hwA] at hbA hnew
  have hA := h.below hbA
  have HOPN : Hid (Calls Tryz.prog 100 #[.pointer (some ⟨eb, 0, none⟩), .int .i64 n] wA.drew fun e w' => e = .returned (.bool false) ∧ w' = wA.drew) := by
    have := opens_any eb g.m n wA.drew (EnB.drewE hA.en)
    rw [show ((n.tmod 2 == 1) == g.m.first) = false from hop] at this
    exact this
  have z2 : wA.cell? ⟨w.heap.size, 2, none⟩ = some (.int .i64 n) := by rw [cell_of_row _ _ _ _ _ _ hnew]; rfl
  have z34 := hA.en.c34
  have hltb : w.heap.size < wA.heap.size := lt_of_block hnew
  have HWA := hide hwA
  have HEND : Hid (Below w.heap.size w wA.drew) := hbA.drew
  clear h hA hbA hnew hop
  go_enter Tryz.func81, Tryz.ntmps81
  go_upto_region 1 with fail
  rw [← HWA.out]
  clear hwA
  first
    | (go_region_with (first | (go_at_call 100; refine HOPN.out.mono ?_; rintro e w' ⟨rfl, hw'⟩; rw [hw']; clear hw' w')))
    | fail
  all_goals go_wp2
  all_goals exact ⟨rfl, rfl, HEND.out⟩
set_option maxRecDepth 100000 in
set_option maxHeartbeats 1600000 in
theorem comeCredit_p (eb : Nat) (m : EndM) (f nv : Int) (sv : Option Addr) (len cb : Nat) (w : World) (h : EnB w eb m) (h1 : 2147483647 < m.send + nv) (h2 : m.send ≤ 1099511627776) (h3 : nv ≤ 1099511627776) :
    Calls Tryz.prog 87 #[.pointer (some ⟨eb, 0, none⟩), .agg #[.int .i64 6, .int .i64 f, .int .i64 0, .slice sv len cb, .int .i64 nv]] w fun e w' => e = .panicked [{ v := .iface 36 (.int .i64 12), recovered := false }] ∧ Below w.heap.size w w' := by
  have hbA : Below w.heap.size w (w.alloc (.cells #[.int .i64 6, .int .i64 f, .int .i64 0, .slice sv len cb, .int .i64 nv] 173)) := (Below.refl _ _).alloc (Nat.le_refl _) _
  have hnew := heap_alloc_new w (.cells #[.int .i64 6, .int .i64 f, .int .i64 0, .slice sv len cb, .int .i64 nv] 173)
  obtain ⟨wA, hwA⟩ : ∃ wA, wA = w.alloc (.cells #[.int .i64 6, .int .i64 f, .int .i64 0, .slice sv len cb, .int .i64 nv] 173) := ⟨_, rfl⟩
  rw [← hwA] at hbA hnew
  have hA := h.below hbA
  have z2 : wA.cell? ⟨w.heap.size, 2, none⟩ = some (.int .i64 0) := by rw [cell_of_row _ _ _ _ _ _ hnew]; rfl
  have z4 : wA.cell? ⟨w.heap.size, 4, none⟩ = some (.int .i64 nv) := by rw [cell_of_row _ _ _ _ _ _ hnew]; rfl
  have c4 := hA.c4
  have hwr : IntKind.i64.wrap (m.send + nv) = m.send + nv := by rw [IntKind.wrap_i64]; omega
  have HC : Hid (Calls Tryz.prog 125 #[.int .i64 (m.send + nv)] wA.drew fun e w' => e = .panicked [{ v := .iface 36 (.int .i64 12), recovered := false }] ∧ Below w.heap.size w w') := (checkWindow_p (m.send + nv) wA.drew h1).mono fun e w' hx => ⟨hx.1, by rw [hx.2]; exact hbA.drew⟩
  have hltb : w.heap.size < wA.heap.size := lt_of_block hnew
  have HWA := hide hwA
  clear h hA hbA hnew h1 h2 h3
  go_enter Tryz.func87, Tryz.ntmps87
  go_upto_region 2 with fail
  rw [← HWA.out]
  clear hwA
  go_region_law (refine step_gone rfl 125 Tryz.f125 Tryz.func125 (by kernel_rfl) rfl [.tmp 17] #[3] rfl [.int .i64 (m.send + nv)] (by simp [Act.eval, Act.put]) HC.out (fun e w3 he => ⟨_, he.1, rfl, rfl, he.2⟩) (.tuple #[]) ?_; intro hf; have HFL : Hid False := hf; clear hf)
  all_goals exact HFL.out.elim
end Go.Proofs.YtiphkngfbpdeoaaGreatDoor
namespace Go.Proofs.YtiphkngfbpdeoaaGreatDoor
set_option linter.unusedVariables false
set_option linter.unusedSimpArgs false
open Go.RowKit
set_option maxRecDepth 100000 in
set_option maxHeartbeats 400000 in
theorem goesOn_yes (k f n : Int) (sv : Option Addr) (len cb : Nat) (w : World) :
    Calls Tryz.prog 117 #[.iface 160 (.agg #[.int .i64 k, .int .i64 f, .int .i64 n, .slice sv len cb, .slice sv len cb])] w fun e w' => e = .returned (.int .i64 n) ∧ Below w.heap.size w w' := by
  have hta : ∀ (x : Value) (w : World), (Instr.typeAssert (.iface 160 x) 135 160 true).run Tryz.prog w = .ok (.tuple #[x, .bool true]) w := fun _ _ => by kernel_rfl
  go_enter Tryz.func117, Tryz.ntmps117
  go_wp2
  go_ret
  exact ⟨rfl, (Below.refl _ _).alloc (Nat.le_refl _) _⟩
set_option maxRecDepth 100000 in
set_option maxHeartbeats 800000 in
theorem checkTurn_p (eb : Nat) (m : EndM) (k f n : Int) (sv : Option Addr) (len cb : Nat) (w : World) (h : EnB w eb m) (hb : m.bstream = 0) (hbg : m.begun = true) (hn : n ≠ 0) :
    Calls Tryz.prog 79 #[.pointer (some ⟨eb, 0, none⟩), .iface 160 (.agg #[.int .i64 k, .int .i64 f, .int .i64 n, .slice sv len cb, .slice sv len cb])] w fun e w' => e = .panicked [{ v := .iface 36 (.int .i64 11), recovered := false }] ∧ Below w.heap.size w w' := by
  have c30 := h.c30
  rw [hbg] at c30
  have HG : Hid (∀ w, Calls Tryz.prog 117 #[.iface 160 (.agg #[.int .i64 k, .int .i64 f, .int .i64 n, .slice sv len cb, .slice sv len cb])] w fun e w' => e = .returned (.int .i64 n) ∧ Below w.heap.size w w') := fun w => goesOn_yes k f n sv len cb w
  have HR : Hid (∀ w1, Below w.heap.size w w1 → w1.cell? ⟨eb, 31, none⟩ = some (.int .i64 0)) := fun w1 hb1 => by rw [(h.below hb1).c31, hb]
  clear h hb hbg
  go_enter Tryz.func79, Tryz.ntmps79
  go_upto_region 2 with fail
  have k31 := HR.out w (Below.refl _ _)
  go_cut [24] (fun s24 wx => s24 = .bool true ∧ Below w.heap.size w wx)
  case first =>
    go_region_held3 (fun w' => w'.cell? ⟨eb, 31, none⟩ = some (.int .i64 0)) (go_keep)
      (first | (go_at_call 117; refine (HG.out w.drew).mono ?_; rintro e w1 ⟨rfl, hb1⟩; have hB1 : Below w.heap.size w w1 := ⟨hb1.os, hb1.tape, hb1.output, hb1.size, hb1.block⟩; have t31 := HR.out w1 hB1))
    all_goals (go_wp2_with fail; go_meet; exact ⟨by simp [hn], hB1⟩)
  case rest =>
    obtain ⟨rfl, hbx⟩ := hcut
    have HX := hide hbx
    clear hbx
    go_wp2
    exact ⟨rfl, rfl, HX.out⟩
set_option maxRecDepth 100000 in
set_option maxHeartbeats 800000 in
theorem come_continue_p (eb : Nat) (m : EndM) (k f n : Int) (sv : Option Addr) (len cb : Nat) (w : World) (h : EnB w eb m) (hb : m.bstream = 0) (hbg : m.begun = true) (hn : n ≠ 0) :
    Calls Tryz.prog 66 #[.pointer (some ⟨eb, 0, none⟩), .iface 160 (.agg #[.int .i64 k, .int .i64 f, .int .i64 n, .slice sv len cb, .slice sv len cb])] w fun e w' => e = .panicked [{ v := .iface 36 (.int .i64 11), recovered := false }] ∧ Below w.heap.size w w' := by
  have HT := hide (checkTurn_p eb m k f n sv len cb w h hb hbg hn)
  clear h
  go_enter Tryz.func66, Tryz.ntmps66
  go_wp2_with fail
  refine HT.out.mono ?_
  rintro e w0 ⟨rfl, hb0⟩
  have HX := hide hb0
  clear hb0
  go_wp2
  exact ⟨rfl, rfl, HX.out⟩
set_option maxRecDepth 100000 in
set_option maxHeartbeats 800000 in
theorem answer_p (eb mb : Nat) (g : GEnd) (x0 x1 x2 : Int) (bv : Value) (w : World) (h : Inv w eb mb g) (hn : 8 ≤ g.ans.length) :
    Calls Tryz.prog 126 #[.pointer (some ⟨eb, 0, none⟩), .agg #[.int .i64 x0, .int .i64 x1, .int .i64 x2, bv]] w fun e w' => e = .panicked [{ v := .iface 36 (.int .i64 14), recovered := false }] ∧ Below w.heap.size w w' := by
  have c42 := h.en.c42
  obtain ⟨sa, ca, hv⟩ := h.ans.len
  rw [hv] at c42
  have hlt := h.en.lt
  have hle : (8 : Int) ≤ (g.ans.length : Int) := by omega
  clear h
  go_enter Tryz.func126, Tryz.ntmps126
  go_wp2
  exact ⟨rfl, rfl, (Below.refl _ _).alloc (Nat.le_refl _) _⟩
set_option maxRecDepth 100000 in
set_option maxHeartbeats 800000 in
theorem comePing_p (eb mb : Nat) (g : GEnd) (f nv : Int) (sv : Option Addr) (len cb : Nat) (w : World) (h : Inv w eb mb g) (hf : 0 ≤ f ∧ f ≤ 255) (hak : hasB f 1 = false) (hn : 8 ≤ g.ans.length) :
    Calls Tryz.prog 86 #[.pointer (some ⟨eb, 0, none⟩), .agg #[.int .i64 4, .int .i64 f, .int .i64 0, .slice sv len cb, .int .u32 nv]] w fun e w' => e = .panicked [{ v := .iface 36 (.int .i64 14), recovered := false }] ∧ Below w.heap.size w w' := by
  have hbA : Below w.heap.size w (w.alloc (.cells #[.int .i64 4, .int .i64 f, .int .i64 0, .slice sv len cb, .int .u32 nv] 170)) := (Below.refl _ _).alloc (Nat.le_refl _) _
  have hnew := heap_alloc_new w (.cells #[.int .i64 4, .int .i64 f, .int .i64 0, .slice sv len cb, .int .u32 nv] 170)
  have HH : Hid (∀ w, Calls Tryz.prog 83 #[.agg #[.int .i64 4, .int .i64 f, .int .i64 0, .slice sv len cb], .int .i64 1] w fun e w' => e = .returned (.bool false) ∧ Below w.heap.size w w') := fun w => by
    have := has_any 4 f 0 1 (.slice sv len cb) w hf.1 (by omega) (Or.inl rfl)
    rw [hak] at this
    exact this
  have HA : Hid (∀ w1, Below w.heap.size w w1 → Calls Tryz.prog 126 #[.pointer (some ⟨eb, 0, none⟩), .agg #[.int .i64 4, .int .i64 1, .int .i64 0, .slice sv len cb]] w1 fun e w' => e = .panicked [{ v := .iface 36 (.int .i64 14), recovered := false }] ∧ Below w.heap.size w w') := fun w1 hb1 => by
    refine (answer_p eb mb g 4 1 0 (.slice sv len cb) w1 (h.below hb1) hn).mono ?_
    rintro e w' ⟨rfl, hb2⟩
    exact ⟨rfl, hb1.trans (hb2.mono hb1.size)⟩
  have HB := hide hbA
  have HC3 : Hid (∀ w1, Below (w.alloc (.cells #[.int .i64 4, .int .i64 f, .int .i64 0, .slice sv len cb, .int .u32 nv] 170)).heap.size (w.alloc (.cells #[.int .i64 4, .int .i64 f, .int .i64 0, .slice sv len cb, .int .u32 nv] 170)) w1 → w1.cell? ⟨w.heap.size, 3, none⟩ = some (.slice sv len cb)) := fun w1 hb1 => by
    rw [cell_of_row _ _ _ _ _ _ (kept_told hnew hb1)]
    rfl
  clear h hf hak hn hbA hnew
  go_enter Tryz.func86, Tryz.ntmps86
  go_wp2_with fail
  refine (HH.out _).mono ?_
  rintro e w1 ⟨rfl, hb1⟩
  have k3 := HC3.out w1 hb1
  have HB1 : Hid (Below w.heap.size w w1) := HB.out.trans (hb1.mono HB.out.size)
  clear hb1
  go_wp2_with fail
  refine (HA.out w1 HB1.out).mono ?_
  rintro e w2 ⟨rfl, hx⟩
  have HX := hide hx
  clear hx
  go_wp2
  exact ⟨rfl, rfl, HX.out⟩
end Go.Proofs.YtiphkngfbpdeoaaGreatDoor
namespace Go.Proofs.YtiphkngfbpdeoaaGreatDoor
set_option linter.unusedVariables false
set_option linter.unusedSimpArgs false
open Go.RowKit
set_option maxRecDepth 100000 in
set_option maxHeartbeats 800000 in
theorem takePair_nocount (ub : Nat) (cs : Array Value) (tP : TypeId) (lim : Nat) (tv : Value) (tab : List HP) (sb : Nat) (rv : Value) (c : UInt8) (r : List UInt8) (w : World) (hgl : Gl w) (ht : TbS w ub cs tP lim tv tab) (hs : SrS w sb rv (c :: r)) (hl : (c :: r).length ≤ 134217728) (hsb : 7 ≤ sb)
    (hc : 128 ≤ c.toNat) (hcnt : rdCnt 7 c r = none) :
    Calls Tryz.prog 148 #[.pointer (some ⟨ub, 0, none⟩), .pointer (some ⟨sb, 0, none⟩)] w fun e w' => Gone e ∧ Chg (fun j => j = sb) w w' := by
  have hc8 : c.toNat ≤ 255 := Nat.le_of_lt_succ c.toNat_lt
  have hbA : Below w.heap.size w (w.alloc (.cells #[.string ⟨#[]⟩, .string ⟨#[]⟩] 147)) := (Below.refl _ _).alloc (Nat.le_refl _) _
  have htk := stake_ok sb rv c r _ (hs.below hbA) (by omega)
  have hsl := lt_of_block hs.blk
  have HFB : Hid (∀ wx, Calls Tryz.prog 173 #[fm 128 7, .int .u8 c.toNat] wx fun e w' => e = .returned (.bool true) ∧ Below wx.heap.size wx w') := fun wx => by
    have := fbegins_any 128 7 c wx (by decide)
    rwa [show decide (c.toNat / 2 ^ 7 = 128 / 2 ^ 7) = true from by simp; omega] at this
  have HCN : Hid (∀ rv' wx, SrS wx sb rv' r → Calls Tryz.prog 174 #[.pointer (some ⟨sb, 0, none⟩), .int .u8 c.toNat, fm 128 7] wx fun e w' => Gone e ∧ Chg (fun j => j = sb) wx w') := fun rv' wx hh => by
    refine (takeCount_any sb rv' r c 128 7 wx hh (by decide) (by simp only [List.length_cons] at hl; omega)).mono ?_
    rintro e w' (⟨N, r', rv'', e1, _⟩ | ⟨e1, e2, e3⟩)
    · rw [hcnt] at e1; cases e1
    · exact ⟨e2, e3⟩
  have HTK := hide htk
  have HBA := hide hbA
  have HG := hide hgl
  clear htk hbA hgl ht hs hcnt
  generalize c.toNat = x at *
  go_enter Tryz.func148, Tryz.ntmps148
  go_wp2_with fail
  refine HTK.out.mono ?_
  rintro e w1 ⟨rv1, rfl, hs1⟩
  have hg1 := (HG.out.below HBA.out).sr hs1.chg hsb
  have hs1' : SrTo w w1 sb rv rv1 r := SrTo.before HBA.out hs1
  obtain ⟨g0, g1⟩ := hg1.num
  have HG1 := hide hg1
  have HS1 := hide hs1'
  clear hs1 hs1' hg1
  go_wp2_with fail
  refine (HFB.out _).mono ?_
  rintro e w2 ⟨rfl, hb2⟩
  have hg2 := HG1.out.below hb2
  have hs2 := HS1.out.below hb2
  clear g0 g1
  obtain ⟨g0, g1⟩ := hg2.num
  have HS2 := hide hs2
  clear hb2 hg2 hs2
  have hsd : SrS w2.drew sb rv1 r := HS2.out.st.chg ((Chg.refl (fun _ => False) _).drew) id (fun _ _ => id)
  have hcn := HCN.out rv1 w2.drew hsd
  have HCD := hide hcn
  clear hsd hcn
  go_wp2
  have HEND : Hid (∀ w3, Chg (fun j => j = sb) w2.drew w3 → Chg (fun j => j = sb) w w3) := fun w3 hs3 => HS2.out.chg.trans (Chg.mono (S := fun j => j = sb) ⟨hs3.os, hs3.tape, hs3.output, hs3.size, hs3.block⟩ fun _ _ e => Or.inr e)
  go_region_law (first
    | (refine step_gone rfl 174 Tryz.f174 Tryz.func174 (by kernel_rfl) rfl [.tmp 16, .tmp 17, .tmp 18] #[223, 5, 221] rfl [.pointer (some ⟨sb, 0, none⟩), .int .u8 (x : Int), fm 128 7] (by simp [Act.eval, Act.put, fm]) HCD.out (fun e w3 he => ⟨_, he.1, rfl, rfl, HEND.out w3 he.2⟩) (.int .i64 1) ?_; intro hf; have HF : Hid False := hf; clear hf)
    | (refine step_never HF.out (.agg #[.string ⟨#[]⟩, .string ⟨#[]⟩]) ?_; have k0 : w2.cell? ⟨w.heap.size, 0, none⟩ = some (.string ⟨#[]⟩) := HF.out.elim; have k1 : w2.cell? ⟨w.heap.size, 1, none⟩ = some (.string ⟨#[]⟩) := HF.out.elim; have k2 : w2.frozen? ⟨w.heap.size, 0, none⟩ = false := HF.out.elim; have k3 : w2.frozen? ⟨w.heap.size, 1, none⟩ = false := HF.out.elim))
  all_goals exact HF.out.elim
set_option maxRecDepth 100000 in
set_option maxHeartbeats 800000 in
theorem takePair_nocount_add (ub : Nat) (cs : Array Value) (tP : TypeId) (lim : Nat) (tv : Value) (tab : List HP) (sb : Nat) (rv : Value) (c : UInt8) (r : List UInt8) (w : World) (hgl : Gl w) (ht : TbS w ub cs tP lim tv tab) (hs : SrS w sb rv (c :: r)) (ha : Apart ub sb tv rv) (hl : (c :: r).length ≤ 134217728) (hsb : 7 ≤ sb)
    (hc : 64 ≤ c.toNat) (hc2 : c.toNat < 128) (hcnt : rdCnt 6 c r = none) :
    Calls Tryz.prog 148 #[.pointer (some ⟨ub, 0, none⟩), .pointer (some ⟨sb, 0, none⟩)] w fun e w' => Gone e ∧ Chg (fun j => j = sb) w w' := by
  have hc8 : c.toNat ≤ 255 := Nat.le_of_lt_succ c.toNat_lt
  have hbA : Below w.heap.size w (w.alloc (.cells #[.string ⟨#[]⟩, .string ⟨#[]⟩] 147)) := (Below.refl _ _).alloc (Nat.le_refl _) _
  have hbox := heap_alloc_new w (.cells #[.string ⟨#[]⟩, .string ⟨#[]⟩] 147)
  have htk := stake_ok sb rv c r _ (hs.below hbA) (by omega)
  have hsl := lt_of_block hs.blk
  simp only [List.length_cons] at hl
  have HF7 : Hid (∀ wx, Calls Tryz.prog 173 #[fm 128 7, .int .u8 c.toNat] wx fun e w' => e = .returned (.bool false) ∧ Below wx.heap.size wx w') := fun wx => by
    have := fbegins_any 128 7 c wx (by decide)
    rwa [show decide (c.toNat / 2 ^ 7 = 128 / 2 ^ 7) = false from by simp; omega] at this
  have HF6 : Hid (∀ wx, Calls Tryz.prog 173 #[fm 64 6, .int .u8 c.toNat] wx fun e w' => e = .returned (.bool true) ∧ Below wx.heap.size wx w') := fun wx => by
    have := fbegins_any 64 6 c wx (by decide)
    rwa [show decide (c.toNat / 2 ^ 6 = 64 / 2 ^ 6) = true from by simp; omega] at this
  have HCN : Hid (∀ rv' wx, SrS wx sb rv' r → Calls Tryz.prog 174 #[.pointer (some ⟨sb, 0, none⟩), .int .u8 c.toNat, fm 64 6] wx fun e w' => Gone e ∧ Chg (fun j => j = sb) wx w') := fun rv' wx hh => by
    refine (takeCount_any sb rv' r c 64 6 wx hh (by decide) (by omega)).mono ?_
    rintro e w' (⟨N, r', rv'', e1, _⟩ | ⟨e1, e2, e3⟩)
    · rw [hcnt] at e1; cases e1
    · exact ⟨e2, e3⟩
  clear hcnt
  have HTK := hide htk
  have HBA := hide hbA
  have HBX := hide hbox
  have HG := hide hgl
  have HT := hide ht
  have HA := hide ha
  clear htk hbA hbox hgl ht hs ha
  generalize c.toNat = x at *
  go_enter Tryz.func148, Tryz.ntmps148
  go_wp2_with fail
  refine HTK.out.mono ?_
  rintro e w1 ⟨rv1, rfl, hs1⟩
  have hg1 := (HG.out.below HBA.out).sr hs1.chg hsb
  have hx1 : w1.heap[w.heap.size]? = some (.cells #[.string ⟨#[]⟩, .string ⟨#[]⟩] 147 (0, 0)) := by rw [hs1.chg.block _ (lt_of_block HBX.out) (by omega)]; exact HBX.out
  have hs1' : SrTo w w1 sb rv rv1 r := SrTo.before HBA.out hs1
  obtain ⟨g0, g1⟩ := hg1.num
  have HG1 := hide hg1
  have HX1 := hide hx1
  have HS1 := hide hs1'
  clear hs1 hs1' hg1 hx1
  go_wp2_with fail
  refine (HF7.out _).mono ?_
  rintro e w2 ⟨rfl, hb⟩
  have hg := HG1.out.below hb
  have hx : w2.heap[w.heap.size]? = some (.cells #[.string ⟨#[]⟩, .string ⟨#[]⟩] 147 (0, 0)) := by rw [hb.block _ (lt_of_block HX1.out)]; exact HX1.out
  have hs := HS1.out.below hb
  clear g0 g1
  obtain ⟨g0, g1⟩ := hg.add
  have HG2 := hide hg
  have HX2 := hide hx
  have HS2 := hide hs
  clear hb hg hx hs
  go_wp2_with fail
  refine (HF6.out _).mono ?_
  rintro e w3 ⟨rfl, hb⟩
  have hg := HG2.out.below hb
  have hx : w3.heap[w.heap.size]? = some (.cells #[.string ⟨#[]⟩, .string ⟨#[]⟩] 147 (0, 0)) := by rw [hb.block _ (lt_of_block HX2.out)]; exact HX2.out
  have hs := HS2.out.below hb
  clear g0 g1
  obtain ⟨g0, g1⟩ := hg.add
  have HG3 := hide hg
  have HX3 := hide hx
  have HS3 := hide hs
  clear hb hg hx hs
  go_wp2_with fail
  refine (HCN.out rv1 _ HS3.out.st).mono ?_
  rintro e w9 ⟨he, hc9⟩
  rw [he]
  exact ⟨rfl, rfl, HS3.out.chg.trans (hc9.mono fun _ _ e => Or.inr e)⟩
set_option maxRecDepth 100000 in
set_option maxHeartbeats 800000 in
theorem takePair_notexts_add (ub : Nat) (cs : Array Value) (tP : TypeId) (lim : Nat) (tv : Value) (tab : List HP) (sb : Nat) (rv : Value) (c : UInt8) (r : List UInt8) (w : World) (hgl : Gl w) (ht : TbS w ub cs tP lim tv tab) (hs : SrS w sb rv (c :: r)) (ha : Apart ub sb tv rv) (hl : (c :: r).length ≤ 134217728) (hsb : 7 ≤ sb)
    (n : Nat) (s : List UInt8) (hc : 64 ≤ c.toNat) (hc2 : c.toNat < 128) (hcnt : rdCnt 6 c r = some (n, s)) (hx : rdTxs tab n s = none) :
    Calls Tryz.prog 148 #[.pointer (some ⟨ub, 0, none⟩), .pointer (some ⟨sb, 0, none⟩)] w fun e w' => Gone e ∧ Chg (fun j => j = sb) w w' := by
  have hc8 : c.toNat ≤ 255 := Nat.le_of_lt_succ c.toNat_lt
  have hbA : Below w.heap.size w (w.alloc (.cells #[.string ⟨#[]⟩, .string ⟨#[]⟩] 147)) := (Below.refl _ _).alloc (Nat.le_refl _) _
  have hbox := heap_alloc_new w (.cells #[.string ⟨#[]⟩, .string ⟨#[]⟩] 147)
  have htk := stake_ok sb rv c r _ (hs.below hbA) (by omega)
  have hsl := lt_of_block hs.blk
  simp only [List.length_cons] at hl
  have HF7 : Hid (∀ wx, Calls Tryz.prog 173 #[fm 128 7, .int .u8 c.toNat] wx fun e w' => e = .returned (.bool false) ∧ Below wx.heap.size wx w') := fun wx => by
    have := fbegins_any 128 7 c wx (by decide)
    rwa [show decide (c.toNat / 2 ^ 7 = 128 / 2 ^ 7) = false from by simp; omega] at this
  have HF6 : Hid (∀ wx, Calls Tryz.prog 173 #[fm 64 6, .int .u8 c.toNat] wx fun e w' => e = .returned (.bool true) ∧ Below wx.heap.size wx w') := fun wx => by
    have := fbegins_any 64 6 c wx (by decide)
    rwa [show decide (c.toNat / 2 ^ 6 = 64 / 2 ^ 6) = true from by simp; omega] at this
  have hsq := rdCnt_len hcnt
  have HCN : Hid (∀ rv' wx, SrS wx sb rv' r → Calls Tryz.prog 174 #[.pointer (some ⟨sb, 0, none⟩), .int .u8 c.toNat, fm 64 6] wx fun e w' => ∃ rv'', n ≤ 8388608 ∧ e = .returned (.int .i64 (n : Int)) ∧ SrTo wx w' sb rv' rv'' s) := fun rv' wx hh => by
    refine (takeCount_any sb rv' r c 64 6 wx hh (by decide) (by omega)).mono ?_
    rintro e w' (⟨N, r', rv'', e1, e0, e2, e3⟩ | ⟨e1, _⟩)
    · rw [hcnt] at e1
      simp only [Option.some.injEq, Prod.mk.injEq] at e1
      rw [e1.1, e1.2]
      exact ⟨rv'', e0, e2, e3⟩
    · rw [hcnt] at e1; cases e1
  clear hcnt
  have HTX : Hid (∀ rv' wx, Gl wx → TbS wx ub cs tP lim tv tab → SrS wx sb rv' s → n ≤ 8388608 → Calls Tryz.prog 178 #[.pointer (some ⟨ub, 0, none⟩), .pointer (some ⟨sb, 0, none⟩), .int .i64 n] wx fun e w' => Gone e ∧ Chg (fun j => j = sb) wx w') := fun rv' wx hg hh1 hh hn9 => by
    refine (takeTexts_any ub cs tP lim tv tab sb rv' s n wx hg hh1 hh (by omega) hsb (by omega)).mono ?_
    rintro e w' (⟨h', r', rv'', e1, e2, e3⟩ | ⟨e1, e2, e3⟩)
    · rw [hx] at e1; cases e1
    · exact ⟨e2, e3⟩
  clear hx
  have HTK := hide htk
  have HBA := hide hbA
  have HBX := hide hbox
  have HG := hide hgl
  have HT := hide ht
  have HA := hide ha
  clear htk hbA hbox hgl ht hs ha
  generalize c.toNat = x at *
  go_enter Tryz.func148, Tryz.ntmps148
  go_wp2_with fail
  refine HTK.out.mono ?_
  rintro e w1 ⟨rv1, rfl, hs1⟩
  have hg1 := (HG.out.below HBA.out).sr hs1.chg hsb
  have hx1 : w1.heap[w.heap.size]? = some (.cells #[.string ⟨#[]⟩, .string ⟨#[]⟩] 147 (0, 0)) := by rw [hs1.chg.block _ (lt_of_block HBX.out) (by omega)]; exact HBX.out
  have hs1' : SrTo w w1 sb rv rv1 r := SrTo.before HBA.out hs1
  obtain ⟨g0, g1⟩ := hg1.num
  have HG1 := hide hg1
  have HX1 := hide hx1
  have HS1 := hide hs1'
  clear hs1 hs1' hg1 hx1
  go_wp2_with fail
  refine (HF7.out _).mono ?_
  rintro e w2 ⟨rfl, hb⟩
  have hg := HG1.out.below hb
  have hx : w2.heap[w.heap.size]? = some (.cells #[.string ⟨#[]⟩, .string ⟨#[]⟩] 147 (0, 0)) := by rw [hb.block _ (lt_of_block HX1.out)]; exact HX1.out
  have hs := HS1.out.below hb
  clear g0 g1
  obtain ⟨g0, g1⟩ := hg.add
  have HG2 := hide hg
  have HX2 := hide hx
  have HS2 := hide hs
  clear hb hg hx hs
  go_wp2_with fail
  refine (HF6.out _).mono ?_
  rintro e w3 ⟨rfl, hb⟩
  have hg := HG2.out.below hb
  have hx : w3.heap[w.heap.size]? = some (.cells #[.string ⟨#[]⟩, .string ⟨#[]⟩] 147 (0, 0)) := by rw [hb.block _ (lt_of_block HX2.out)]; exact HX2.out
  have hs := HS2.out.below hb
  clear g0 g1
  obtain ⟨g0, g1⟩ := hg.add
  have HG3 := hide hg
  have HX3 := hide hx
  have HS3 := hide hs
  clear hb hg hx hs
  go_wp2_with fail
  refine (HCN.out rv1 _ HS3.out.st).mono ?_
  rintro e wa ⟨rva, hn9, rfl, hsa⟩
  obtain ⟨hga, hua, hxa⟩ := num_after (w3 := wa) HG3.out HX3.out HS3.out ⟨hsa.st, hsa.chg.drop_drew, hsa.own⟩ hsb hsl HT.out HA.out
  have hta := HTX.out rva wa hga hua.st hua.sr hn9
  have HTT := hide hta
  have HCA := hide (HS3.out.trans hsa).chg
  clear hsa hga hua hxa hta g0 g1
  go_wp2_with fail
  refine HTT.out.mono ?_
  rintro e w9 ⟨he, hc9⟩
  rw [he]
  exact ⟨rfl, rfl, HCA.out.trans (hc9.mono fun _ _ e => Or.inr e)⟩
set_option maxRecDepth 100000 in
set_option maxHeartbeats 800000 in
theorem takePair_nocount_not (ub : Nat) (cs : Array Value) (tP : TypeId) (lim : Nat) (tv : Value) (tab : List HP) (sb : Nat) (rv : Value) (c : UInt8) (r : List UInt8) (w : World) (hgl : Gl w) (ht : TbS w ub cs tP lim tv tab) (hs : SrS w sb rv (c :: r)) (ha : Apart ub sb tv rv) (hl : (c :: r).length ≤ 134217728) (hsb : 7 ≤ sb)
    (hc : c.toNat < 16) (hcnt : rdCnt 4 c r = none) :
    Calls Tryz.prog 148 #[.pointer (some ⟨ub, 0, none⟩), .pointer (some ⟨sb, 0, none⟩)] w fun e w' => Gone e ∧ Chg (fun j => j = sb) w w' := by
  have hc8 : c.toNat ≤ 255 := Nat.le_of_lt_succ c.toNat_lt
  have hbA : Below w.heap.size w (w.alloc (.cells #[.string ⟨#[]⟩, .string ⟨#[]⟩] 147)) := (Below.refl _ _).alloc (Nat.le_refl _) _
  have hbox := heap_alloc_new w (.cells #[.string ⟨#[]⟩, .string ⟨#[]⟩] 147)
  have htk := stake_ok sb rv c r _ (hs.below hbA) (by omega)
  have hsl := lt_of_block hs.blk
  simp only [List.length_cons] at hl
  have HF7 : Hid (∀ wx, Calls Tryz.prog 173 #[fm 128 7, .int .u8 c.toNat] wx fun e w' => e = .returned (.bool false) ∧ Below wx.heap.size wx w') := fun wx => by
    have := fbegins_any 128 7 c wx (by decide)
    rwa [show decide (c.toNat / 2 ^ 7 = 128 / 2 ^ 7) = false from by simp; omega] at this
  have HF6 : Hid (∀ wx, Calls Tryz.prog 173 #[fm 64 6, .int .u8 c.toNat] wx fun e w' => e = .returned (.bool false) ∧ Below wx.heap.size wx w') := fun wx => by
    have := fbegins_any 64 6 c wx (by decide)
    rwa [show decide (c.toNat / 2 ^ 6 = 64 / 2 ^ 6) = false from by simp; omega] at this
  have HF4 : Hid (∀ wx, Calls Tryz.prog 173 #[fm 0 4, .int .u8 c.toNat] wx fun e w' => e = .returned (.bool true) ∧ Below wx.heap.size wx w') := fun wx => by
    have := fbegins_any 0 4 c wx (by decide)
    rwa [show decide (c.toNat / 2 ^ 4 = 0 / 2 ^ 4) = true from by simp; omega] at this
  have HCN : Hid (∀ rv' wx, SrS wx sb rv' r → Calls Tryz.prog 174 #[.pointer (some ⟨sb, 0, none⟩), .int .u8 c.toNat, fm 0 4] wx fun e w' => Gone e ∧ Chg (fun j => j = sb) wx w') := fun rv' wx hh => by
    refine (takeCount_any sb rv' r c 0 4 wx hh (by decide) (by omega)).mono ?_
    rintro e w' (⟨N, r', rv'', e1, _⟩ | ⟨e1, e2, e3⟩)
    · rw [hcnt] at e1; cases e1
    · exact ⟨e2, e3⟩
  clear hcnt
  have HTK := hide htk
  have HBA := hide hbA
  have HBX := hide hbox
  have HG := hide hgl
  have HT := hide ht
  have HA := hide ha
  clear htk hbA hbox hgl ht hs ha
  generalize c.toNat = x at *
  go_enter Tryz.func148, Tryz.ntmps148
  go_wp2_with fail
  refine HTK.out.mono ?_
  rintro e w1 ⟨rv1, rfl, hs1⟩
  have hg1 := (HG.out.below HBA.out).sr hs1.chg hsb
  have hx1 : w1.heap[w.heap.size]? = some (.cells #[.string ⟨#[]⟩, .string ⟨#[]⟩] 147 (0, 0)) := by rw [hs1.chg.block _ (lt_of_block HBX.out) (by omega)]; exact HBX.out
  have hs1' : SrTo w w1 sb rv rv1 r := SrTo.before HBA.out hs1
  obtain ⟨g0, g1⟩ := hg1.num
  have HG1 := hide hg1
  have HX1 := hide hx1
  have HS1 := hide hs1'
  clear hs1 hs1' hg1 hx1
  go_wp2_with fail
  refine (HF7.out _).mono ?_
  rintro e w2 ⟨rfl, hb⟩
  have hg := HG1.out.below hb
  have hx : w2.heap[w.heap.size]? = some (.cells #[.string ⟨#[]⟩, .string ⟨#[]⟩] 147 (0, 0)) := by rw [hb.block _ (lt_of_block HX1.out)]; exact HX1.out
  have hs := HS1.out.below hb
  clear g0 g1
  obtain ⟨g0, g1⟩ := hg.add
  have HG2 := hide hg
  have HX2 := hide hx
  have HS2 := hide hs
  clear hb hg hx hs
  go_wp2_with fail
  refine (HF6.out _).mono ?_
  rintro e w3 ⟨rfl, hb⟩
  have hg := HG2.out.below hb
  have hx : w3.heap[w.heap.size]? = some (.cells #[.string ⟨#[]⟩, .string ⟨#[]⟩] 147 (0, 0)) := by rw [hb.block _ (lt_of_block HX2.out)]; exact HX2.out
  have hs := HS2.out.below hb
  clear g0 g1
  obtain ⟨g0, g1⟩ := hg.nta
  have HG3 := hide hg
  have HX3 := hide hx
  have HS3 := hide hs
  clear hb hg hx hs
  go_wp2_with fail
  refine (HF4.out _).mono ?_
  rintro e w4 ⟨rfl, hb⟩
  have hg := HG3.out.below hb
  have hx : w4.heap[w.heap.size]? = some (.cells #[.string ⟨#[]⟩, .string ⟨#[]⟩] 147 (0, 0)) := by rw [hb.block _ (lt_of_block HX3.out)]; exact HX3.out
  have hs := HS3.out.below hb
  clear g0 g1
  obtain ⟨g0, g1⟩ := hg.nta
  have HG4 := hide hg
  have HX4 := hide hx
  have HS4 := hide hs
  clear hb hg hx hs
  go_wp2_with fail
  refine (HCN.out rv1 _ HS4.out.st).mono ?_
  rintro e w9 ⟨he, hc9⟩
  rw [he]
  exact ⟨rfl, rfl, HS4.out.chg.trans (hc9.mono fun _ _ e => Or.inr e)⟩
set_option maxRecDepth 100000 in
set_option maxHeartbeats 800000 in
theorem takePair_notexts_not (ub : Nat) (cs : Array Value) (tP : TypeId) (lim : Nat) (tv : Value) (tab : List HP) (sb : Nat) (rv : Value) (c : UInt8) (r : List UInt8) (w : World) (hgl : Gl w) (ht : TbS w ub cs tP lim tv tab) (hs : SrS w sb rv (c :: r)) (ha : Apart ub sb tv rv) (hl : (c :: r).length ≤ 134217728) (hsb : 7 ≤ sb)
    (n : Nat) (s : List UInt8) (hc : c.toNat < 16) (hcnt : rdCnt 4 c r = some (n, s)) (hx : rdTxs tab n s = none) :
    Calls Tryz.prog 148 #[.pointer (some ⟨ub, 0, none⟩), .pointer (some ⟨sb, 0, none⟩)] w fun e w' => Gone e ∧ Chg (fun j => j = sb) w w' := by
  have hc8 : c.toNat ≤ 255 := Nat.le_of_lt_succ c.toNat_lt
  have hbA : Below w.heap.size w (w.alloc (.cells #[.string ⟨#[]⟩, .string ⟨#[]⟩] 147)) := (Below.refl _ _).alloc (Nat.le_refl _) _
  have hbox := heap_alloc_new w (.cells #[.string ⟨#[]⟩, .string ⟨#[]⟩] 147)
  have htk := stake_ok sb rv c r _ (hs.below hbA) (by omega)
  have hsl := lt_of_block hs.blk
  simp only [List.length_cons] at hl
  have HF7 : Hid (∀ wx, Calls Tryz.prog 173 #[fm 128 7, .int .u8 c.toNat] wx fun e w' => e = .returned (.bool false) ∧ Below wx.heap.size wx w') := fun wx => by
    have := fbegins_any 128 7 c wx (by decide)
    rwa [show decide (c.toNat / 2 ^ 7 = 128 / 2 ^ 7) = false from by simp; omega] at this
  have HF6 : Hid (∀ wx, Calls Tryz.prog 173 #[fm 64 6, .int .u8 c.toNat] wx fun e w' => e = .returned (.bool false) ∧ Below wx.heap.size wx w') := fun wx => by
    have := fbegins_any 64 6 c wx (by decide)
    rwa [show decide (c.toNat / 2 ^ 6 = 64 / 2 ^ 6) = false from by simp; omega] at this
  have HF4 : Hid (∀ wx, Calls Tryz.prog 173 #[fm 0 4, .int .u8 c.toNat] wx fun e w' => e = .returned (.bool true) ∧ Below wx.heap.size wx w') := fun wx => by
    have := fbegins_any 0 4 c wx (by decide)
    rwa [show decide (c.toNat / 2 ^ 4 = 0 / 2 ^ 4) = true from by simp; omega] at this
  have hsq := rdCnt_len hcnt
  have HCN : Hid (∀ rv' wx, SrS wx sb rv' r → Calls Tryz.prog 174 #[.pointer (some ⟨sb, 0, none⟩), .int .u8 c.toNat, fm 0 4] wx fun e w' => ∃ rv'', n ≤ 8388608 ∧ e = .returned (.int .i64 (n : Int)) ∧ SrTo wx w' sb rv' rv'' s) := fun rv' wx hh => by
    refine (takeCount_any sb rv' r c 0 4 wx hh (by decide) (by omega)).mono ?_
    rintro e w' (⟨N, r', rv'', e1, e0, e2, e3⟩ | ⟨e1, _⟩)
    · rw [hcnt] at e1
      simp only [Option.some.injEq, Prod.mk.injEq] at e1
      rw [e1.1, e1.2]
      exact ⟨rv'', e0, e2, e3⟩
    · rw [hcnt] at e1; cases e1
  clear hcnt
  have HTX : Hid (∀ rv' wx, Gl wx → TbS wx ub cs tP lim tv tab → SrS wx sb rv' s → n ≤ 8388608 → Calls Tryz.prog 178 #[.pointer (some ⟨ub, 0, none⟩), .pointer (some ⟨sb, 0, none⟩), .int .i64 n] wx fun e w' => Gone e ∧ Chg (fun j => j = sb) wx w') := fun rv' wx hg hh1 hh hn9 => by
    refine (takeTexts_any ub cs tP lim tv tab sb rv' s n wx hg hh1 hh (by omega) hsb (by omega)).mono ?_
    rintro e w' (⟨h', r', rv'', e1, e2, e3⟩ | ⟨e1, e2, e3⟩)
    · rw [hx] at e1; cases e1
    · exact ⟨e2, e3⟩
  clear hx
  have HTK := hide htk
  have HBA := hide hbA
  have HBX := hide hbox
  have HG := hide hgl
  have HT := hide ht
  have HA := hide ha
  clear htk hbA hbox hgl ht hs ha
  generalize c.toNat = x at *
  go_enter Tryz.func148, Tryz.ntmps148
  go_wp2_with fail
  refine HTK.out.mono ?_
  rintro e w1 ⟨rv1, rfl, hs1⟩
  have hg1 := (HG.out.below HBA.out).sr hs1.chg hsb
  have hx1 : w1.heap[w.heap.size]? = some (.cells #[.string ⟨#[]⟩, .string ⟨#[]⟩] 147 (0, 0)) := by rw [hs1.chg.block _ (lt_of_block HBX.out) (by omega)]; exact HBX.out
  have hs1' : SrTo w w1 sb rv rv1 r := SrTo.before HBA.out hs1
  obtain ⟨g0, g1⟩ := hg1.num
  have HG1 := hide hg1
  have HX1 := hide hx1
  have HS1 := hide hs1'
  clear hs1 hs1' hg1 hx1
  go_wp2_with fail
  refine (HF7.out _).mono ?_
  rintro e w2 ⟨rfl, hb⟩
  have hg := HG1.out.below hb
  have hx : w2.heap[w.heap.size]? = some (.cells #[.string ⟨#[]⟩, .string ⟨#[]⟩] 147 (0, 0)) := by rw [hb.block _ (lt_of_block HX1.out)]; exact HX1.out
  have hs := HS1.out.below hb
  clear g0 g1
  obtain ⟨g0, g1⟩ := hg.add
  have HG2 := hide hg
  have HX2 := hide hx
  have HS2 := hide hs
  clear hb hg hx hs
  go_wp2_with fail
  refine (HF6.out _).mono ?_
  rintro e w3 ⟨rfl, hb⟩
  have hg := HG2.out.below hb
  have hx : w3.heap[w.heap.size]? = some (.cells #[.string ⟨#[]⟩, .string ⟨#[]⟩] 147 (0, 0)) := by rw [hb.block _ (lt_of_block HX2.out)]; exact HX2.out
  have hs := HS2.out.below hb
  clear g0 g1
  obtain ⟨g0, g1⟩ := hg.nta
  have HG3 := hide hg
  have HX3 := hide hx
  have HS3 := hide hs
  clear hb hg hx hs
  go_wp2_with fail
  refine (HF4.out _).mono ?_
  rintro e w4 ⟨rfl, hb⟩
  have hg := HG3.out.below hb
  have hx : w4.heap[w.heap.size]? = some (.cells #[.string ⟨#[]⟩, .string ⟨#[]⟩] 147 (0, 0)) := by rw [hb.block _ (lt_of_block HX3.out)]; exact HX3.out
  have hs := HS3.out.below hb
  clear g0 g1
  obtain ⟨g0, g1⟩ := hg.nta
  have HG4 := hide hg
  have HX4 := hide hx
  have HS4 := hide hs
  clear hb hg hx hs
  go_wp2_with fail
  refine (HCN.out rv1 _ HS4.out.st).mono ?_
  rintro e wa ⟨rva, hn9, rfl, hsa⟩
  obtain ⟨hga, hua, hxa⟩ := num_after (w3 := wa) HG4.out HX4.out HS4.out ⟨hsa.st, hsa.chg.drop_drew, hsa.own⟩ hsb hsl HT.out HA.out
  have hta := HTX.out rva wa hga hua.st hua.sr hn9
  have HTT := hide hta
  have HCA := hide (HS4.out.trans hsa).chg
  clear hsa hga hua hxa hta g0 g1
  go_wp2_with fail
  refine HTT.out.mono ?_
  rintro e w9 ⟨he, hc9⟩
  rw [he]
  exact ⟨rfl, rfl, HCA.out.trans (hc9.mono fun _ _ e => Or.inr e)⟩
set_option maxRecDepth 100000 in
set_option maxHeartbeats 800000 in
theorem takePair_nobegin (ub : Nat) (cs : Array Value) (tP : TypeId) (lim : Nat) (tv : Value) (tab : List HP) (sb : Nat) (rv : Value) (c : UInt8) (r : List UInt8) (w : World) (hgl : Gl w) (ht : TbS w ub cs tP lim tv tab) (hs : SrS w sb rv (c :: r)) (ha : Apart ub sb tv rv) (hl : (c :: r).length ≤ 134217728) (hsb : 7 ≤ sb)
    (hc : 16 ≤ c.toNat) (hc2 : c.toNat < 64) :
    Calls Tryz.prog 148 #[.pointer (some ⟨ub, 0, none⟩), .pointer (some ⟨sb, 0, none⟩)] w fun e w' => Gone e ∧ Chg (fun j => j = sb) w w' := by
  have hc8 : c.toNat ≤ 255 := Nat.le_of_lt_succ c.toNat_lt
  have hbA : Below w.heap.size w (w.alloc (.cells #[.string ⟨#[]⟩, .string ⟨#[]⟩] 147)) := (Below.refl _ _).alloc (Nat.le_refl _) _
  have hbox := heap_alloc_new w (.cells #[.string ⟨#[]⟩, .string ⟨#[]⟩] 147)
  have htk := stake_ok sb rv c r _ (hs.below hbA) (by omega)
  have hsl := lt_of_block hs.blk
  simp only [List.length_cons] at hl
  have HF7 : Hid (∀ wx, Calls Tryz.prog 173 #[fm 128 7, .int .u8 c.toNat] wx fun e w' => e = .returned (.bool false) ∧ Below wx.heap.size wx w') := fun wx => by
    have := fbegins_any 128 7 c wx (by decide)
    rwa [show decide (c.toNat / 2 ^ 7 = 128 / 2 ^ 7) = false from by simp; omega] at this
  have HF6 : Hid (∀ wx, Calls Tryz.prog 173 #[fm 64 6, .int .u8 c.toNat] wx fun e w' => e = .returned (.bool false) ∧ Below wx.heap.size wx w') := fun wx => by
    have := fbegins_any 64 6 c wx (by decide)
    rwa [show decide (c.toNat / 2 ^ 6 = 64 / 2 ^ 6) = false from by simp; omega] at this
  have HF4 : Hid (∀ wx, Calls Tryz.prog 173 #[fm 0 4, .int .u8 c.toNat] wx fun e w' => e = .returned (.bool false) ∧ Below wx.heap.size wx w') := fun wx => by
    have := fbegins_any 0 4 c wx (by decide)
    rwa [show decide (c.toNat / 2 ^ 4 = 0 / 2 ^ 4) = false from by simp; omega] at this
  have HTK := hide htk
  have HBA := hide hbA
  have HBX := hide hbox
  have HG := hide hgl
  have HT := hide ht
  have HA := hide ha
  clear htk hbA hbox hgl ht hs ha
  generalize c.toNat = x at *
  go_enter Tryz.func148, Tryz.ntmps148
  go_wp2_with fail
  refine HTK.out.mono ?_
  rintro e w1 ⟨rv1, rfl, hs1⟩
  have hg1 := (HG.out.below HBA.out).sr hs1.chg hsb
  have hx1 : w1.heap[w.heap.size]? = some (.cells #[.string ⟨#[]⟩, .string ⟨#[]⟩] 147 (0, 0)) := by rw [hs1.chg.block _ (lt_of_block HBX.out) (by omega)]; exact HBX.out
  have hs1' : SrTo w w1 sb rv rv1 r := SrTo.before HBA.out hs1
  obtain ⟨g0, g1⟩ := hg1.num
  have HG1 := hide hg1
  have HX1 := hide hx1
  have HS1 := hide hs1'
  clear hs1 hs1' hg1 hx1
  go_wp2_with fail
  refine (HF7.out _).mono ?_
  rintro e w2 ⟨rfl, hb⟩
  have hg := HG1.out.below hb
  have hx : w2.heap[w.heap.size]? = some (.cells #[.string ⟨#[]⟩, .string ⟨#[]⟩] 147 (0, 0)) := by rw [hb.block _ (lt_of_block HX1.out)]; exact HX1.out
  have hs := HS1.out.below hb
  clear g0 g1
  obtain ⟨g0, g1⟩ := hg.add
  have HG2 := hide hg
  have HX2 := hide hx
  have HS2 := hide hs
  clear hb hg hx hs
  go_wp2_with fail
  refine (HF6.out _).mono ?_
  rintro e w3 ⟨rfl, hb⟩
  have hg := HG2.out.below hb
  have hx : w3.heap[w.heap.size]? = some (.cells #[.string ⟨#[]⟩, .string ⟨#[]⟩] 147 (0, 0)) := by rw [hb.block _ (lt_of_block HX2.out)]; exact HX2.out
  have hs := HS2.out.below hb
  clear g0 g1
  obtain ⟨g0, g1⟩ := hg.nta
  have HG3 := hide hg
  have HX3 := hide hx
  have HS3 := hide hs
  clear hb hg hx hs
  go_wp2_with fail
  refine (HF4.out _).mono ?_
  rintro e w4 ⟨rfl, hb⟩
  have hg := HG3.out.below hb
  have hx : w4.heap[w.heap.size]? = some (.cells #[.string ⟨#[]⟩, .string ⟨#[]⟩] 147 (0, 0)) := by rw [hb.block _ (lt_of_block HX3.out)]; exact HX3.out
  have hs := HS3.out.below hb
  clear g0 g1
  obtain ⟨g0, g1⟩ := hg.nta
  have HG4 := hide hg
  have HX4 := hide hx
  have HS4 := hide hs
  clear hb hg hx hs
  go_wp2
  exact ⟨rfl, rfl, HS4.out.chg⟩
set_option maxRecDepth 100000 in
set_option maxHeartbeats 800000 in
theorem takePair_nopair (ub : Nat) (cs : Array Value) (tP : TypeId) (lim : Nat) (tv : Value) (tab : List HP) (sb : Nat) (rv : Value) (c : UInt8) (r : List UInt8) (w : World) (hgl : Gl w) (ht : TbS w ub cs tP lim tv tab) (hs : SrS w sb rv (c :: r)) (ha : Apart ub sb tv rv) (hl : (c :: r).length ≤ 134217728) (hsb : 7 ≤ sb)
    (n : Nat) (s : List UInt8) (hc : 128 ≤ c.toNat) (hcnt : rdCnt 7 c r = some (n, s)) (hx : n = 0 ∨ 8 + tab.length < n) :
    Calls Tryz.prog 148 #[.pointer (some ⟨ub, 0, none⟩), .pointer (some ⟨sb, 0, none⟩)] w fun e w' => Gone e ∧ Chg (fun j => j = sb) w w' := by
  have hc8 : c.toNat ≤ 255 := Nat.le_of_lt_succ c.toNat_lt
  have hbA : Below w.heap.size w (w.alloc (.cells #[.string ⟨#[]⟩, .string ⟨#[]⟩] 147)) := (Below.refl _ _).alloc (Nat.le_refl _) _
  have hbox := heap_alloc_new w (.cells #[.string ⟨#[]⟩, .string ⟨#[]⟩] 147)
  have htk := stake_ok sb rv c r _ (hs.below hbA) (by omega)
  have hsl := lt_of_block hs.blk
  simp only [List.length_cons] at hl
  have HF7 : Hid (∀ wx, Calls Tryz.prog 173 #[fm 128 7, .int .u8 c.toNat] wx fun e w' => e = .returned (.bool true) ∧ Below wx.heap.size wx w') := fun wx => by
    have := fbegins_any 128 7 c wx (by decide)
    rwa [show decide (c.toNat / 2 ^ 7 = 128 / 2 ^ 7) = true from by simp; omega] at this
  have hsq := rdCnt_len hcnt
  have HCN : Hid (∀ rv' wx, SrS wx sb rv' r → Calls Tryz.prog 174 #[.pointer (some ⟨sb, 0, none⟩), .int .u8 c.toNat, fm 128 7] wx fun e w' => ∃ rv'', n ≤ 8388608 ∧ e = .returned (.int .i64 (n : Int)) ∧ SrTo wx w' sb rv' rv'' s) := fun rv' wx hh => by
    refine (takeCount_any sb rv' r c 128 7 wx hh (by decide) (by omega)).mono ?_
    rintro e w' (⟨N, r', rv'', e1, e0, e2, e3⟩ | ⟨e1, _⟩)
    · rw [hcnt] at e1
      simp only [Option.some.injEq, Prod.mk.injEq] at e1
      rw [e1.1, e1.2]
      exact ⟨rv'', e0, e2, e3⟩
    · rw [hcnt] at e1; cases e1
  clear hcnt
  have HPB : Hid (∀ wx, TbS wx ub cs tP lim tv tab → n ≤ 8388608 → Calls Tryz.prog 177 #[.pointer (some ⟨ub, 0, none⟩), .int .i64 n] wx fun e w' => Gone e ∧ Below wx.heap.size wx w') := fun wx hh hn9 => pair_bad ub cs tP lim tv tab n wx hh (by omega) hx
  clear hx
  have HTK := hide htk
  have HBA := hide hbA
  have HBX := hide hbox
  have HG := hide hgl
  have HT := hide ht
  have HA := hide ha
  clear htk hbA hbox hgl ht hs ha
  generalize c.toNat = x at *
  go_enter Tryz.func148, Tryz.ntmps148
  go_wp2_with fail
  refine HTK.out.mono ?_
  rintro e w1 ⟨rv1, rfl, hs1⟩
  have hg1 := (HG.out.below HBA.out).sr hs1.chg hsb
  have hx1 : w1.heap[w.heap.size]? = some (.cells #[.string ⟨#[]⟩, .string ⟨#[]⟩] 147 (0, 0)) := by rw [hs1.chg.block _ (lt_of_block HBX.out) (by omega)]; exact HBX.out
  have hs1' : SrTo w w1 sb rv rv1 r := SrTo.before HBA.out hs1
  obtain ⟨g0, g1⟩ := hg1.num
  have HG1 := hide hg1
  have HX1 := hide hx1
  have HS1 := hide hs1'
  clear hs1 hs1' hg1 hx1
  go_wp2_with fail
  refine (HF7.out _).mono ?_
  rintro e w2 ⟨rfl, hb⟩
  have hg := HG1.out.below hb
  have hx : w2.heap[w.heap.size]? = some (.cells #[.string ⟨#[]⟩, .string ⟨#[]⟩] 147 (0, 0)) := by rw [hb.block _ (lt_of_block HX1.out)]; exact HX1.out
  have hs := HS1.out.below hb
  clear g0 g1
  obtain ⟨g0, g1⟩ := hg.num
  have HG2 := hide hg
  have HX2 := hide hx
  have HS2 := hide hs
  clear hb hg hx hs
  have hsd : SrS w2.drew sb rv1 r := HS2.out.st.chg ((Chg.refl (fun _ => False) _).drew) id (fun _ _ => id)
  have hcn := HCN.out rv1 w2.drew hsd
  have HCD := hide hcn
  clear hsd hcn
  go_wp2
  go_region_law (first
    | (refine step_call rfl 174 Tryz.f174 Tryz.func174 (by kernel_rfl) rfl [.tmp 16, .tmp 17, .tmp 18] #[223, 5, 221] rfl [.pointer (some ⟨sb, 0, none⟩), .int .u8 (x : Int), fm 128 7] (by simp [Act.eval, Act.put, fm]) HCD.out ?_; rintro e w3 ⟨rv3, hn9, rfl, hs3⟩; refine ⟨_, rfl, ?_⟩; have HW3 := hide (num_after HG2.out HX2.out HS2.out hs3 hsb hsl HT.out HA.out); have HC3 := hide (HS2.out.chg.trans (Chg.mono (S := fun j => j = sb) ⟨hs3.chg.os, hs3.chg.tape, hs3.chg.output, hs3.chg.size, hs3.chg.block⟩ fun _ _ e => Or.inr e)); clear hs3)
    | (refine step_gone rfl 177 Tryz.f177 Tryz.func177 (by kernel_rfl) rfl [.tmp 15, .tmp 19] #[85, 3] rfl [.pointer (some ⟨ub, 0, none⟩), .int .i64 (n : Int)] (by simp [Act.eval, Act.put]) (HPB.out w3 HW3.out.2.1.st hn9) (fun e w4 he => ⟨_, he.1, rfl, rfl, HC3.out.then_below he.2⟩) (.agg #[.string ⟨#[]⟩, .string ⟨#[]⟩]) ?_; intro hf; have HF : Hid False := hf; clear hf; have k0 : w3.cell? ⟨w.heap.size, 0, none⟩ = some (.string ⟨#[]⟩) := HF.out.elim; have k1 : w3.cell? ⟨w.heap.size, 1, none⟩ = some (.string ⟨#[]⟩) := HF.out.elim; have k2 : w3.frozen? ⟨w.heap.size, 0, none⟩ = false := HF.out.elim; have k3 : w3.frozen? ⟨w.heap.size, 1, none⟩ = false := HF.out.elim))
  all_goals exact HF.out.elim
set_option maxRecDepth 100000 in
set_option maxHeartbeats 400000 in
theorem takePair_empty (ub sb : Nat) (rv : Value) (w : World) (hs : SrS w sb rv []) :
    Calls Tryz.prog 148 #[.pointer (some ⟨ub, 0, none⟩), .pointer (some ⟨sb, 0, none⟩)] w fun e w' => Gone e ∧ Chg (fun j => j = sb) w w' := by
  have hbA : Below w.heap.size w (w.alloc (.cells #[.string ⟨#[]⟩, .string ⟨#[]⟩] 147)) := (Below.refl _ _).alloc (Nat.le_refl _) _
  have HTK := hide (stake_bad sb rv _ (hs.below hbA))
  have HBA := hide hbA
  clear hs hbA
  go_enter Tryz.func148, Tryz.ntmps148
  go_wp2_with fail
  refine HTK.out.mono ?_
  rintro e w1 ⟨rfl, rfl⟩
  exact ⟨rfl, rfl, Chg.of_below HBA.out⟩
theorem takePair_bad (ub : Nat) (cs : Array Value) (tP : TypeId) (lim : Nat) (tv : Value) (tab : List HP) (sb : Nat) (rv : Value) (l : List UInt8) (w : World) (hgl : Gl w) (ht : TbS w ub cs tP lim tv tab) (hs : SrS w sb rv l) (ha : Apart ub sb tv rv) (hl : l.length ≤ 134217728) (hsb : 7 ≤ sb) (hq : rdPair tab lim l = none) :
    Calls Tryz.prog 148 #[.pointer (some ⟨ub, 0, none⟩), .pointer (some ⟨sb, 0, none⟩)] w fun e w' => Gone e ∧ Chg (fun j => j = sb) w w' := by
  cases l with
  | nil => exact takePair_empty ub sb rv w hs
  | cons c r =>
    simp only [rdPair] at hq
    split at hq
    · rename_i h1
      cases hc : rdCnt 7 c r with
      | none => exact takePair_nocount ub cs tP lim tv tab sb rv c r w hgl ht hs hl hsb h1 hc
      | some nq =>
        obtain ⟨n, s⟩ := nq
        rw [hc] at hq
        simp only at hq
        refine takePair_nopair ub cs tP lim tv tab sb rv c r w hgl ht hs ha hl hsb n s h1 hc ?_
        split at hq
        · rename_i h0; exact Or.inl h0
        · cases hx : (numd tab)[n - 1]? with
          | none =>
            have := List.getElem?_eq_none_iff.1 hx
            rw [numd_length] at this
            right; omega
          | some x => rw [hx] at hq; cases hq
    · rename_i h1
      split at hq
      · rename_i h2
        cases hc : rdCnt 6 c r with
        | none => exact takePair_nocount_add ub cs tP lim tv tab sb rv c r w hgl ht hs ha hl hsb h2 (by omega) hc
        | some nq =>
          obtain ⟨n, s⟩ := nq
          rw [hc] at hq
          simp only at hq
          cases hx : rdTxs tab n s with
          | none => exact takePair_notexts_add ub cs tP lim tv tab sb rv c r w hgl ht hs ha hl hsb n s h2 (by omega) hc hx
          | some x => rw [hx] at hq; cases hq
      · rename_i h2
        split at hq
        · rename_i h3
          cases hc : rdCnt 4 c r with
          | none => exact takePair_nocount_not ub cs tP lim tv tab sb rv c r w hgl ht hs ha hl hsb h3 hc
          | some nq =>
            obtain ⟨n, s⟩ := nq
            rw [hc] at hq
            simp only at hq
            cases hx : rdTxs tab n s with
            | none => exact takePair_notexts_not ub cs tP lim tv tab sb rv c r w hgl ht hs ha hl hsb n s h3 hc hx
            | some x => rw [hx] at hq; cases hq
        · rename_i h3
          exact takePair_nobegin ub cs tP lim tv tab sb rv c r w hgl ht hs ha hl hsb (by omega) (by omega)
end Go.Proofs.YtiphkngfbpdeoaaGreatDoor
namespace Go.Proofs.YtiphkngfbpdeoaaGreatDoor
set_option linter.unusedVariables false
set_option linter.unusedSimpArgs false
open Go.RowKit
set_option maxRecDepth 100000 in
set_option maxHeartbeats 800000 in
theorem takeLimit_great (ub : Nat) (cs : Array Value) (tP : TypeId) (lim : Nat) (tv : Value) (tab : List HP) (most : Nat) (sb : Nat) (rv : Value) (c : UInt8) (r : List UInt8) (n : Nat) (q : List UInt8) (w : World) (hgl : Gl w) (ht : TbS w ub cs tP lim tv tab) (hm : cs[3]? = some (.int .i64 (most : Int))) (hs : SrS w sb rv (c :: r)) (ha : Apart ub sb tv rv) (hl : (c :: r).length ≤ 134217728) (hsb : 7 ≤ sb)
    (hcnt : rdCnt 5 c r = some (n, q)) (hn : most < n) :
    Calls Tryz.prog 146 #[.pointer (some ⟨ub, 0, none⟩), .pointer (some ⟨sb, 0, none⟩)] w fun e w' => Gone e ∧ Chg (fun j => j = sb) w w' := by
  simp only [List.length_cons] at hl
  have htk := stake_ok sb rv c r _ hs.drew (by simp only [List.length_cons]; omega)
  have HCN : Hid (∀ rv' wx, SrS wx sb rv' r → Calls Tryz.prog 174 #[.pointer (some ⟨sb, 0, none⟩), .int .u8 c.toNat, fm 32 5] wx fun e w' => ∃ rv'', e = .returned (.int .i64 (n : Int)) ∧ SrTo wx w' sb rv' rv'' q) := fun rv' wx hh => by
    refine (takeCount_any sb rv' r c 32 5 wx hh (by decide) (by omega)).mono ?_
    rintro e w' (⟨N, r', rv'', e1, _, e2, e3⟩ | ⟨e1, _⟩)
    · rw [hcnt] at e1
      simp only [Option.some.injEq, Prod.mk.injEq] at e1
      rw [e1.1, e1.2]
      exact ⟨rv'', e2, e3⟩
    · rw [hcnt] at e1; cases e1
  obtain ⟨g0, g1⟩ := hgl.lim
  have HTK := hide htk
  have HG := hide hgl
  have HT := hide ht
  have HA := hide ha
  have HM := hide hm
  clear htk hgl ht hs ha hcnt hm
  have hc8 : c.toNat ≤ 255 := Nat.le_of_lt_succ c.toNat_lt
  generalize c.toNat = x at *
  go_enter Tryz.func146, Tryz.ntmps146
  go_wp2
  go_cut [4] (fun s4 wx => s4 = .int .i64 (n : Int) ∧ ∃ rv2, SrTo w wx sb rv rv2 q)
  case first =>
    go_region_law (first
      | (refine step_call rfl 175 Tryz.f175 Tryz.func175 (by kernel_rfl) rfl [.tmp 6] #[223] rfl [.pointer (some ⟨sb, 0, none⟩)] (by simp [Act.eval, Act.put]) HTK.out ?_; rintro e w1 ⟨rv1, rfl, hs1⟩; refine ⟨_, rfl, ?_⟩; obtain ⟨g2, g3⟩ := (HG.out.sr (w' := w1) ⟨hs1.chg.os, hs1.chg.tape, hs1.chg.output, hs1.chg.size, hs1.chg.block⟩ hsb).lim; have HS1 := hide hs1; clear hs1)
      | (refine step_call rfl 174 Tryz.f174 Tryz.func174 (by kernel_rfl) rfl [.tmp 5, .tmp 7, .tmp 8] #[223, 5, 221] rfl [.pointer (some ⟨sb, 0, none⟩), .int .u8 (x : Int), fm 32 5] (by simp [Act.eval, Act.put, fm]) (HCN.out rv1 w1 HS1.out.st) ?_; rintro e w2 ⟨rv2, rfl, hs2⟩; refine ⟨_, rfl, ?_⟩; have HS2 := hide (HS1.out.trans hs2); clear hs2))
    all_goals (go_wp2_with fail; go_meet; exact ⟨rfl, rv2, HS2.out.st, ⟨HS2.out.chg.os, HS2.out.chg.tape, HS2.out.chg.output, HS2.out.chg.size, HS2.out.chg.block⟩, HS2.out.own⟩)
  case rest =>
    obtain ⟨rfl, rv2, hs2⟩ := hcut
    have hu2 := hs2.un HT.out HA.out
    have c3 : wc.cell? ⟨ub, 3, none⟩ = some (.int .i64 (most : Int)) := by rw [cell_of_row _ _ _ _ _ _ hu2.st.tb.blk]; exact HM.out
    have HC := hide hs2.chg
    clear hs2 hu2 g0 g1
    go_wp2
    exact ⟨rfl, rfl, HC.out⟩
set_option maxRecDepth 100000 in
set_option maxHeartbeats 800000 in
theorem takeLimit_nocount (ub : Nat) (sb : Nat) (rv : Value) (c : UInt8) (r : List UInt8) (w : World) (hgl : Gl w) (hs : SrS w sb rv (c :: r)) (hl : (c :: r).length ≤ 134217728) (hsb : 7 ≤ sb)
    (hcnt : rdCnt 5 c r = none) :
    Calls Tryz.prog 146 #[.pointer (some ⟨ub, 0, none⟩), .pointer (some ⟨sb, 0, none⟩)] w fun e w' => Gone e ∧ Chg (fun j => j = sb) w w' := by
  simp only [List.length_cons] at hl
  have htk := stake_ok sb rv c r _ hs.drew (by simp only [List.length_cons]; omega)
  have HCN : Hid (∀ rv' wx, SrS wx sb rv' r → Calls Tryz.prog 174 #[.pointer (some ⟨sb, 0, none⟩), .int .u8 c.toNat, fm 32 5] wx fun e w' => Gone e ∧ Chg (fun j => j = sb) wx w') := fun rv' wx hh => by
    refine (takeCount_any sb rv' r c 32 5 wx hh (by decide) (by omega)).mono ?_
    rintro e w' (⟨N, r', rv'', e1, _⟩ | ⟨e1, e2, e3⟩)
    · rw [hcnt] at e1; cases e1
    · exact ⟨e2, e3⟩
  obtain ⟨g0, g1⟩ := hgl.lim
  have HTK := hide htk
  have HG := hide hgl
  clear htk hgl hs hcnt
  have hc8 : c.toNat ≤ 255 := Nat.le_of_lt_succ c.toNat_lt
  generalize c.toNat = x at *
  go_enter Tryz.func146, Tryz.ntmps146
  go_wp2
  go_region_law (first
    | (refine step_call rfl 175 Tryz.f175 Tryz.func175 (by kernel_rfl) rfl [.tmp 6] #[223] rfl [.pointer (some ⟨sb, 0, none⟩)] (by simp [Act.eval, Act.put]) HTK.out ?_; rintro e w1 ⟨rv1, rfl, hs1⟩; refine ⟨_, rfl, ?_⟩; obtain ⟨g2, g3⟩ := (HG.out.sr (w' := w1) ⟨hs1.chg.os, hs1.chg.tape, hs1.chg.output, hs1.chg.size, hs1.chg.block⟩ hsb).lim; have HS1 := hide hs1; clear hs1)
    | (refine step_gone rfl 174 Tryz.f174 Tryz.func174 (by kernel_rfl) rfl [.tmp 5, .tmp 7, .tmp 8] #[223, 5, 221] rfl [.pointer (some ⟨sb, 0, none⟩), .int .u8 (x : Int), fm 32 5] (by simp [Act.eval, Act.put, fm]) (HCN.out rv1 w1 HS1.out.st) (fun e w3 he => ⟨_, he.1, rfl, rfl, Chg.trans ⟨HS1.out.chg.os, HS1.out.chg.tape, HS1.out.chg.output, HS1.out.chg.size, HS1.out.chg.block⟩ (he.2.mono fun _ _ e => Or.inr e)⟩) (.int .i64 1) ?_; intro hf; have HF : Hid False := hf; clear hf))
  all_goals exact HF.out.elim
end Go.Proofs.YtiphkngfbpdeoaaGreatDoor
