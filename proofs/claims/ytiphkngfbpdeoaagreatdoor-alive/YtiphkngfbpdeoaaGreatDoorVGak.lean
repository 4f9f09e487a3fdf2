import Derived.Test.YtiphkngfbpdeoaaGreatDoorVGaj
import Derived.Test.YtiphkngfbpdeoaaGreatDoorVGai
set_option linter.unusedVariables false
set_option linter.unusedSimpArgs false
namespace Go.Proofs.YtiphkngfbpdeoaaGreatDoor
set_option linter.unusedVariables false
set_option linter.unusedSimpArgs false
open Go.RowKit
section
variable {w w' : World} {eb mb : Nat} {g : GEnd}
theorem Inv.put {m' : EndM} {new : List UInt8} {v : Value} (h : Inv w eb mb g) (h1 : m'.known = g.m.known) (h2 : m'.opn = g.m.opn) (h3 : m'.got = g.m.got) (h4 : m'.out = g.m.out) (h5 : m'.answers = g.m.answers) (h6 : m'.resets = g.m.resets) (hp : Put w w' eb m' g.out new v) :
    Next w w' eb mb g { g with m := { m' with out := v }, out := g.out ++ new } := by
  have hc := hp.chg
  rw [h4] at hc
  exact h.onEnd (S := fun j => j = eb ∨ g.m.out.ownBlock = some j) hc (fun j e => e) hp.b h1 h2 h3 hp.row (fun j hj => by have := hp.fresh j hj; rw [h4] at this; exact this) (by rw [show ({ m' with out := v } : EndM).answers = m'.answers from rfl, h5]; exact h.ans) (fun a ha => ha) (fun j hj => by rw [← h5]; exact hj) (by rw [show ({ m' with out := v } : EndM).resets = m'.resets from rfl, h6]; exact h.res) (fun j hj => by rw [← h6]; exact hj)
theorem upd_nums {n : Int} {f : GSt → GSt} {K : List GSt} (hf : ∀ s ∈ K, s.st.number = n → (f s).st.number = n) : ((updN n f K).map fun s => s.st.number) = K.map fun s => s.st.number := by
  unfold updN
  rw [List.map_map]
  apply List.map_congr_left
  intro s hs
  show (if s.st.number = n then f s else s).st.number = _
  split
  · rename_i e; rw [hf s hs e, e]
  · rfl
theorem upd_sbs {n : Int} {f : GSt → GSt} {K : List GSt} (hf : ∀ s ∈ K, s.st.number = n → (f s).sb = s.sb) : (updN n f K).map GSt.sb = K.map GSt.sb := by
  unfold updN
  rw [List.map_map]
  apply List.map_congr_left
  intro s hs
  show (if s.st.number = n then f s else s).sb = _
  split
  · rename_i e; exact hf s hs e
  · rfl
theorem mem_upd {n : Int} {f : GSt → GSt} {K : List GSt} {x : GSt} : x ∈ updN n f K ↔ ∃ s ∈ K, (if s.st.number = n then f s else s) = x := List.mem_map
theorem atN_upd {n : Int} {f : GSt → GSt} {K : List GSt} (hn : (K.map fun s => s.st.number).Nodup) (hf : ∀ s ∈ K, s.st.number = n → (f s).st.number = n) {x : GSt} (hx : x ∈ K) : atN (updN n f K) x.st.number = if x.st.number = n then f x else x := by
  have h1 : ((updN n f K).map fun s => s.st.number).Nodup := by rw [upd_nums hf]; exact hn
  have h2 := atN_mem h1 (mem_upd.2 ⟨x, hx, rfl⟩)
  have h3 : (if x.st.number = n then f x else x).st.number = x.st.number := by
    split
    · rename_i e; rw [hf x hx e, e]
    · rfl
  rw [h3] at h2
  exact h2
theorem Inv.onSt {S : Nat → Prop} {m' : EndM} {s s' : GSt} {L' : List Int} {o' : List UInt8} (tg : Nat) (h : Inv w eb mb g) (hs : s ∈ g.K) (hc : Chg S w w') (hS : ∀ j, S j → j = eb ∨ j = s.sb ∨ g.m.opn.ownBlock = some j ∨ g.m.out.ownBlock = some j ∨ s.st.unread.ownBlock = some j ∨ s.st.waiting.ownBlock = some j)
    (hen : EnB w' eb m') (hst : StB w' s.sb s'.st) (hsb : s'.sb = s.sb) (hnum : s'.st.number = s.st.number) (hk : m'.known = g.m.known) (hgot : m'.got = g.m.got) (hans : m'.answers = g.m.answers) (hres : m'.resets = g.m.resets)
    (hrow : w'.ownsRow 0 118 1 m'.opn L'.length (opnCells (openS g.K L'))) (hrb : ∀ j, m'.opn.ownBlock = some j → g.m.opn.ownBlock = some j ∨ w.heap.size ≤ j) (hL : L'.Sublist g.L)
    (ho : w'.ownsRow 0 5 1 m'.out o'.length (o'.map B)) (hob : ∀ j, m'.out.ownBlock = some j → g.m.out.ownBlock = some j ∨ (w.heap.size ≤ j ∧ tg = 0))
    (hu : w'.ownsRow 0 5 1 s'.st.unread s'.un.length (s'.un.map B)) (hub : ∀ j, s'.st.unread.ownBlock = some j → s.st.unread.ownBlock = some j ∨ (w.heap.size ≤ j ∧ tg = 3 + 2 * s.sb))
    (hw : w'.ownsRow 0 5 1 s'.st.waiting s'.wa.length (s'.wa.map B)) (hwb : ∀ j, s'.st.waiting.ownBlock = some j → s.st.waiting.ownBlock = some j ∨ (w.heap.size ≤ j ∧ tg = 4 + 2 * s.sb)) :
    Next w w' eb mb g { g with m := m', K := updN s.st.number (fun _ => s') g.K, L := L', out := o' } := by
  have heq : ∀ x ∈ g.K, x.st.number = s.st.number → x = s := fun x hx e => by rw [← atN_mem h.nn hx, e, atN_mem h.nn hs]
  have hf : ∀ x ∈ g.K, x.st.number = s.st.number → ((fun _ => s') x : GSt).st.number = s.st.number := fun x hx e => hnum
  have hfb : ∀ x ∈ g.K, x.st.number = s.st.number → ((fun _ => s') x : GSt).sb = x.sb := fun x hx e => by rw [heq x hx e]; exact hsb
  have hx : ∀ x ∈ g.K, x.st.number ≠ s.st.number → x.sb ≠ s.sb := fun x hx e e' => e (by rw [h.same hx hs e'])
  have hmem : ∀ y ∈ updN s.st.number (fun _ => s') g.K, y = s' ∨ (y ∈ g.K ∧ y.sb ≠ s.sb) := fun y hy => by
    obtain ⟨x, hxk, e⟩ := mem_upd.1 hy
    by_cases e2 : x.st.number = s.st.number
    · rw [if_pos e2] at e; exact Or.inl e.symm
    · rw [if_neg e2] at e; subst e; exact Or.inr ⟨hxk, hx x hxk e2⟩
  have neb : ∀ j, ¬ S j ∨ S j := fun j => (Classical.em (S j)).symm
  refine ⟨⟨hen, ⟨?_, ?_⟩, by rw [hk]; exact h.km, by rw [upd_sbs hfb]; exact h.nd, by rw [upd_nums hf]; exact h.nn, h.ln.sublist hL, ?_, ?_, ho, ?_, ?_, ?_, ?_, ?_, ?_, ?_⟩, ?_, ?_⟩
  · obtain ⟨es, clock, hb, he, hbn⟩ := h.kn.blk
    refine ⟨es, clock, ?_, ?_, hbn⟩
    · rw [hc.block mb h.kn.lt (fun e => ?_)]
      · exact hb
      · rcases hS _ e with a | a | a | a | a | a
        · exact h.eb_mb a
        · exact h.st_mb hs a
        · exact owns_mb h.kn h.row a
        · exact owns_mb h.kn h.out a
        · exact owns_mb h.kn (h.un s hs) a
        · exact owns_mb h.kn (h.wa s hs) a
    · rw [he, List.map_map, List.map_map]
      unfold updN
      rw [List.map_map]
      apply List.map_congr_left
      intro x hxk
      show knownE x.str = knownE (if x.st.number = s.st.number then s' else x).str
      split
      · rename_i e
        rw [heq x hxk e]
        unfold knownE GSt.str
        simp only [hsb, hnum]
      · rfl
  · intro p hp
    obtain ⟨y, hy, rfl⟩ := List.mem_map.1 hp
    rcases hmem y hy with rfl | ⟨hyk, hyne⟩
    · show StB w' y.sb y.st
      rw [hsb]; exact hst
    · refine (h.st hyk).chg hc (fun e => ?_)
      rcases hS _ e with a | a | a | a | a | a
      · exact h.st_eb hyk a
      · exact hyne a
      · exact owns_ne h.row (h.st hyk).blk (by decide) a
      · exact owns_ne h.out (h.st hyk).blk (by decide) a
      · exact owns_ne (h.un s hs) (h.st hyk).blk (by decide) a
      · exact owns_ne (h.wa s hs) (h.st hyk).blk (by decide) a
  · intro n hn
    obtain ⟨x, hxk, e⟩ := h.has n (hL.subset hn)
    refine ⟨_, mem_upd.2 ⟨x, hxk, rfl⟩, ?_⟩
    split
    · rename_i e2; rw [hnum, ← e2, e]
    · exact e
  · have e : opnCells (openS (updN s.st.number (fun _ => s') g.K) L') = opnCells (openS g.K L') := by
      unfold opnCells openS
      rw [List.map_map, List.map_map]
      apply List.map_congr_left
      intro n hn
      obtain ⟨x, hxk, e⟩ := h.has n (hL.subset hn)
      subst e
      show Value.pointer (some ⟨(atN (updN s.st.number (fun _ => s') g.K) x.st.number).sb, 0, none⟩) = Value.pointer (some ⟨(atN g.K x.st.number).sb, 0, none⟩)
      rw [atN_upd h.nn hf hxk, atN_mem h.nn hxk]
      split
      · rename_i e2; rw [heq x hxk e2, hsb]
      · rfl
    show w'.ownsRow 0 118 1 m'.opn L'.length (opnCells (openS (updN s.st.number (fun _ => s') g.K) L'))
    rw [e]
    exact hrow
  · show w'.ownsRow 0 5 1 m'.got _ _
    rw [hgot]
    refine owns_chg h.got hc (fun j hj e => ?_)
    rcases hS _ e with a | a | a | a | a | a
    · rw [a] at hj; exact owns_ne h.got h.en.blk (by decide) hj
    · rw [a] at hj; exact owns_ne h.got (h.st hs).blk (by decide) hj
    · exact rows_ne h.got h.row (by decide) hj a
    · exact h.out_got a hj
    · exact h.got_un hs a hj
    · exact h.got_wa hs a hj
  · intro y hy
    rcases hmem y hy with rfl | ⟨hyk, hyne⟩
    · exact hu
    · refine owns_chg (h.un y hyk) hc (fun j hj e => ?_)
      rcases hS _ e with a | a | a | a | a | a
      · rw [a] at hj; exact owns_ne (h.un y hyk) h.en.blk (by decide) hj
      · rw [a] at hj; exact owns_ne (h.un y hyk) (h.st hs).blk (by decide) hj
      · exact rows_ne (h.un y hyk) h.row (by decide) hj a
      · exact h.out_un hyk hj a
      · exact h.un_un hs hyk (fun e => hyne e.symm) a hj
      · exact h.un_wa hyk hs hj a
  · intro y hy
    rcases hmem y hy with rfl | ⟨hyk, hyne⟩
    · exact hw
    · refine owns_chg (h.wa y hyk) hc (fun j hj e => ?_)
      rcases hS _ e with a | a | a | a | a | a
      · rw [a] at hj; exact owns_ne (h.wa y hyk) h.en.blk (by decide) hj
      · rw [a] at hj; exact owns_ne (h.wa y hyk) (h.st hs).blk (by decide) hj
      · exact rows_ne (h.wa y hyk) h.row (by decide) hj a
      · exact h.out_wa hyk hj a
      · exact h.un_wa hs hyk a hj
      · exact h.wa_wa hs hyk (fun e => hyne e.symm) a hj
  · show RowAt w' _ _ m'.answers _ _
    rw [hans]
    refine h.ans.chg hc (fun j hj e => ?_)
    rcases hS _ e with a | a | a | a | a | a
    · rw [a] at hj; exact h.ans.ne h.en.blk (by decide) hj
    · rw [a] at hj; exact h.ans.ne (h.st hs).blk (by decide) hj
    · exact rows_ne2 h.row h.ans (by decide) a hj
    · exact rows_ne2 h.out h.ans (by decide) a hj
    · exact rows_ne2 (h.un s hs) h.ans (by decide) a hj
    · exact rows_ne2 (h.wa s hs) h.ans (by decide) a hj
  · intro b hb
    refine owns_chg (h.anb b hb) hc (fun j hj e => ?_)
    rcases hS _ e with a | a | a | a | a | a
    · rw [a] at hj; exact owns_ne (h.anb b hb) h.en.blk (by decide) hj
    · rw [a] at hj; exact owns_ne (h.anb b hb) (h.st hs).blk (by decide) hj
    · exact rows_ne (h.anb b hb) h.row (by decide) hj a
    · exact h.out_an hb hj a
    · exact h.un_an hb hj hs a
    · exact h.wa_an hb hj hs a
  · show RowAt w' _ _ m'.resets _ _
    rw [hres]
    refine h.res.chg hc (fun j hj e => ?_)
    rcases hS _ e with a | a | a | a | a | a
    · rw [a] at hj; exact h.res.ne h.en.blk (by decide) hj
    · rw [a] at hj; exact h.res.ne (h.st hs).blk (by decide) hj
    · exact rows_ne2 h.row h.res (by decide) a hj
    · exact rows_ne2 h.out h.res (by decide) a hj
    · exact rows_ne2 (h.un s hs) h.res (by decide) a hj
    · exact rows_ne2 (h.wa s hs) h.res (by decide) a hj
  · refine h.apart (fun _ => tg) m' _ g.ans hob (fun j hj => Or.inl (by rw [← hgot]; exact hj)) ?_ ?_ (fun a ha j hj => Or.inl ⟨a, ha, hj⟩)
    · intro y hy j hj
      rcases hmem y hy with rfl | ⟨hyk, hyne⟩
      · rcases hub j hj with a | ⟨a, b⟩
        · exact Or.inl ⟨s, hs, hsb.symm, a⟩
        · exact Or.inr ⟨a, by rw [hsb]; exact b⟩
      · exact Or.inl ⟨y, hyk, rfl, hj⟩
    · intro y hy j hj
      rcases hmem y hy with rfl | ⟨hyk, hyne⟩
      · rcases hwb j hj with a | ⟨a, b⟩
        · exact Or.inl ⟨s, hs, hsb.symm, a⟩
        · exact Or.inr ⟨a, by rw [hsb]; exact b⟩
      · exact Or.inl ⟨y, hyk, rfl, hj⟩
  · refine hc.mono fun j _ e => ?_
    rcases hS _ e with a | a | a | a | a | a
    · exact Or.inl a
    · rw [a]; exact h.foot_st hs
    · unfold Foot; simp [a]
    · unfold Foot; simp [a]
    · exact foot_un hs a
    · exact foot_wa hs a
  · intro j hj
    rcases hj with e | e | e | e | e | e | e | e | ⟨y, hy, e⟩
    · exact Or.inl (Or.inl e)
    · exact Or.inl (Or.inr (Or.inl e))
    · rcases hob j e with a | a
      · exact Or.inl (by unfold Foot; simp [a])
      · exact Or.inr a.1
    · simp only [hgot] at e; exact Or.inl (by unfold Foot; simp [e])
    · rcases hrb j e with a | a
      · exact Or.inl (by unfold Foot; simp [a])
      · exact Or.inr a
    · simp only [hans] at e; exact Or.inl (by unfold Foot; simp [e])
    · simp only [hres] at e; exact Or.inl (by unfold Foot; simp [e])
    · exact Or.inl (Or.inr (Or.inr (Or.inr (Or.inr (Or.inr (Or.inr (Or.inr (Or.inl e))))))))
    · rcases hmem y hy with rfl | ⟨hyk, hyne⟩
      · rcases e with e | e | e
        · rw [hsb] at e; rw [e]; exact Or.inl (h.foot_st hs)
        · rcases hub j e with a | a
          · exact Or.inl (foot_un hs a)
          · exact Or.inr a.1
        · rcases hwb j e with a | a
          · exact Or.inl (foot_wa hs a)
          · exact Or.inr a.1
      · exact Or.inl (Or.inr (Or.inr (Or.inr (Or.inr (Or.inr (Or.inr (Or.inr (Or.inr ⟨y, hyk, e⟩))))))))
end
end Go.Proofs.YtiphkngfbpdeoaaGreatDoor
namespace Go.Proofs.YtiphkngfbpdeoaaGreatDoor
set_option linter.unusedVariables false
set_option linter.unusedSimpArgs false
open Go.RowKit
set_option maxRecDepth 100000 in
set_option maxHeartbeats 800000 in
theorem bLen_any (n : Nat) (hn : n ≤ 12) (w : World) : Calls Tryz.prog 140 #[.int .u64 n] w fun e w' => ∃ k : Int, e = .returned (.int .i64 k) ∧ w' = w := by
  have HC := hide (bLen64_any n hn w)
  go_enter Tryz.func140, Tryz.ntmps140
  go_wp2_with fail
  refine HC.out.mono ?_
  rintro e w' ⟨k, rfl, hw'⟩
  rw [hw']
  clear hw' w'
  go_wp2
  go_ret
  exact ⟨_, rfl, rfl⟩
set_option maxRecDepth 100000 in
set_option maxHeartbeats 800000 in
theorem sortFunc_up (v : Value) (L : List Str) (w : World) (ho : OpenS w v L) (hs : ∀ i (h : i + 1 < L.length), L[i].2.number ≤ L[i + 1].2.number) (hL : L.length ≤ 12) :
    Calls Tryz.prog 102 #[v, .func (.func 103) #[] #[]] w fun e w' => e = .returned (.tuple #[]) ∧ Below w.heap.size w w' := by
  have HC : Hid (∀ lim, Calls Tryz.prog 139 #[v, .int .i64 0, .int .i64 L.length, .int .i64 lim, .func (.func 103) #[] #[]] w fun e w' => e = .returned (.tuple #[]) ∧ Below w.heap.size w w') := fun lim => pdq_up v L lim w ho hs hL
  have HB := hide (bLen_any L.length hL w)
  obtain ⟨sr, cr, hv⟩ := slice_len ho.row
  rw [hv] at HC ⊢
  clear ho hs hv
  have hw : IntKind.u64.wrap (L.length : Int) = L.length := by rw [IntKind.wrap_u64]; omega
  go_enter Tryz.func102, Tryz.ntmps102
  go_wp2_with fail
  refine HB.out.mono ?_
  rintro e w' ⟨k, rfl, hw'⟩
  rw [hw']
  clear hw' w'
  go_wp2_with fail
  refine (HC.out k).mono ?_
  rintro e w' ⟨rfl, hb⟩
  have HB := hide hb
  clear hb
  go_wp2
  exact bodyPost_end (results_none rfl _ _ _) rfl ⟨rfl, HB.out⟩
theorem KnownS.add {w : World} {mb : Nat} {K : List Str} (h : KnownS w mb K) (n : Int) (sb : Nat) (hn : findK K n = none) : ∃ w1, (Instr.mapUpdate 73 (.map (some mb)) (.int .i64 n) (.pointer (some ⟨sb, 0, none⟩))).run Tryz.prog w = .ok () w1 ∧ Chg (fun j => j = mb) w w1 ∧ w1.heap.size = w.heap.size ∧ ∃ es clock, w1.heap[mb]? = some (.map es clock) ∧ es.toList.map (fun e => (e.key, e.val)) = K.map knownE ++ [(.int .i64 n, .pointer (some ⟨sb, 0, none⟩))] ∧ (∀ e ∈ es.toList, e.born < clock) := by
  obtain ⟨es, clock, hb, he, hs⟩ := h.blk
  obtain ⟨r, hr, hv⟩ := find_now K n es.toList 0 he
  have hr0 : r = none := by
    rw [hn] at hv
    cases r with
    | none => rfl
    | some q => simp at hv
  subst hr0
  have hck : (Instr.checkKey false 10000 3 (.int .i64 n)).run Tryz.prog w = .ok () w := MapKept.run_checkKey (d := .int .i64) (k := .int .i64 n) Tryz.underlying3 (show IntKind.i64 = IntKind.i64 from rfl) _ _
  have hfk : (Instr.findKey 3 (.int .i64 n) es.toList).run Tryz.prog w = .ok none w := MapKept.run_findKey (d := .int .i64) Tryz.underlying3 hr
  have hsz := (Array.getElem?_eq_some_iff.1 hb).1
  refine ⟨{ w with heap := w.heap.setIfInBounds mb (.map (es.push { key := .int .i64 n, val := .pointer (some ⟨sb, 0, none⟩), born := clock }) (clock + 1)) }, ?_, ?_, ?_, _, _, (MapKept.heap_set hb).1, ?_, ?_⟩
  · simp [Instr.mapUpdate, run_underlying Tryz.underlying73, MapKept.run_getObj_map hb, hck, hfk, MapKept.run_setObj_map _ hb, Result.andThen]
  · exact ⟨rfl, rfl, rfl, by simp, fun k _ hk => (MapKept.heap_set hb).2 k hk⟩
  · simp
  · rw [Array.toList_push, List.map_append, he]
    rfl
  · intro e hm
    rw [Array.toList_push] at hm
    rcases List.mem_append.1 hm with h1 | h1
    · exact Nat.lt_succ_of_lt (hs e h1)
    · have : e = _ := List.mem_singleton.1 h1
      rw [this]
      exact Nat.lt_succ_self _
theorem Tryz.info118 : (Tryz.prog.info? 118).map (fun i => (i.zero, i.size, i.bytes)) = some (some (.pointer none), 1, 8) := by kernel_rfl
structure AddS (w w' : World) (eb mb : Nat) (m : EndM) (K L : List Str) (sb : Nat) (st : StM) (v : Value) : Prop where
  en : EnB w' eb { m with opn := v }
  kn : KnownS w' mb (K ++ [(sb, st)])
  row : w'.ownsRow 0 118 1 v (L ++ [(sb, st)]).length (opnCells (L ++ [(sb, st)]))
  chg : Chg (fun j => j = eb ∨ j = mb ∨ m.opn.ownBlock = some j) w w'
  fresh : ∀ j, v.ownBlock = some j → m.opn.ownBlock = some j ∨ w.heap.size ≤ j
set_option maxRecDepth 100000 in
set_option maxHeartbeats 1600000 in
theorem sadd_any (eb mb sb : Nat) (m : EndM) (K L : List Str) (st : StM) (w : World) (h : EnB w eb m) (hm : m.known = .map (some mb)) (hK : KnownS w mb K) (ho : OpenS w m.opn L) (hs : StB w sb st) (hn : findK K st.number = none) (hup : ∀ i (h : i + 1 < (L ++ [(sb, st)]).length), (L ++ [(sb, st)])[i].2.number ≤ (L ++ [(sb, st)])[i + 1].2.number) (hL : L.length ≤ 11) :
    Calls Tryz.prog 71 #[.pointer (some ⟨eb, 22, none⟩), .pointer (some ⟨sb, 0, none⟩)] w fun e w' => e = .returned (.tuple #[]) ∧ ∃ v, AddS w w' eb mb m K L sb st v := by
  obtain ⟨i0, hi, hz0, hz1, hz2⟩ := info_parts Tryz.info118
  obtain ⟨so, co, hso⟩ := slice_len ho.row
  have c22 := h.c22
  rw [hm] at c22
  have c23 := h.c23
  rw [hso] at c23
  have s3 := hs.c3
  have hd : Below w.heap.size w w.drew := ⟨rfl, rfl, rfl, Nat.le_refl _, fun _ _ => rfl⟩
  obtain ⟨w1, hmu, hc1, hz1', es, clock, hb1, he1, hbn1⟩ := (hK.below hd).add st.number sb hn
  have hlt := h.lt
  have hme : mb ≠ eb := by
    obtain ⟨es', clock', hb', -⟩ := hK.blk
    intro e
    rw [e, h.blk] at hb'
    cases hb'
  have hms : mb ≠ sb := by
    obtain ⟨es', clock', hb', -⟩ := hK.blk
    intro e
    rw [e, hs.blk] at hb'
    cases hb'
  have hc1' : Chg (fun j => j = mb) w w1 := (Chg.of_below hd).trans (hc1.mono fun j _ e => Or.inr e)
  have hen1 : EnB w1 eb m := h.chg hc1' (fun e => hme e.symm)
  have hrow1 : w1.ownsRow 0 118 1 m.opn L.length (opnCells L) := owns_chg ho.row hc1' (fun j hj e => by
    obtain ⟨es', clock', hb', -⟩ := hK.blk
    subst e
    rcases ho.row.2 with ⟨h1, -⟩ | ⟨g, cap, cur, h1, h2, h3, -⟩
    · rw [h1] at hj; simp [Value.ownBlock] at hj
    · rw [h1] at hj; simp [Value.ownBlock] at hj; rw [hj, hb'] at h3; cases h3)
  have d23 : w1.cell? ⟨eb, 23, none⟩ = some (.slice so L.length co) := by rw [hen1.c23, hso]
  have hz1w : w1.heap.size = w.heap.size := hz1'
  have HMU := hmu
  have HEND : Hid (∀ (v' : Value) (w2 : World), w2.ownsRow 0 118 1 v' (L.length + 1) (opnCells L ++ [.pointer (some ⟨sb, 0, none⟩)]) → (w1.alloc (.cells #[.pointer (some ⟨sb, 0, none⟩)] 118)).grownBy w2 m.opn.ownBlock → (v'.ownBlock = m.opn.ownBlock ∨ v'.ownBlock = some (w1.heap.size + 1)) → Calls Tryz.prog 102 #[v', .func (.func 103) #[] #[]] (w2.setCell ⟨eb, 23, none⟩ v') fun e w' => e = .returned (.tuple #[]) ∧ ∃ v, AddS w w' eb mb m K L sb st v) := fun v' w2 hown hg hfr => by
    have hba : Below w1.heap.size w1 (w1.alloc (.cells #[.pointer (some ⟨sb, 0, none⟩)] 118)) := (Below.refl _ _).alloc (Nat.le_refl _) _
    have hcg : Chg (fun j => m.opn.ownBlock = some j) w1 w2 := (Chg.of_below hba).trans ((Chg.of_grown hg (fun j hj => hj)).mono fun j _ e => Or.inr e)
    have hc2 : Chg (fun j => j = eb ∨ j = mb ∨ m.opn.ownBlock = some j) w w2 := (hc1'.mono fun j _ e => Or.inr (Or.inl e)).trans (hcg.mono fun j _ e => Or.inr (Or.inr (Or.inr e)))
    have hset : Chg (fun j => j = eb) w2 (w2.setCell ⟨eb, 23, none⟩ v') := chg_set (Chg.refl _ _) rfl
    have hc3 : Chg (fun j => j = eb ∨ j = mb ∨ m.opn.ownBlock = some j) w (w2.setCell ⟨eb, 23, none⟩ v') := hc2.trans (hset.mono fun j _ e => Or.inr (Or.inl e))
    have hne : ∀ p : Nat, ∀ s : StM, StB w p s → ¬ (p = eb ∨ p = mb ∨ m.opn.ownBlock = some p) := fun p s hp e => by
      rcases e with e | e | e
      · exact block_ne hp.blk h.blk (by decide) e
      · obtain ⟨es', clock', hb', -⟩ := hK.blk
        have hbk := hp.blk
        rw [e, hb'] at hbk
        cases hbk
      · exact owns_ne ho.row hp.blk (by decide) e
    have hsts : ∀ p ∈ K ++ [(sb, st)], StB (w2.setCell ⟨eb, 23, none⟩ v') p.1 p.2 := fun p hp => by
      rcases List.mem_append.1 hp with hp | hp
      · exact (hK.st p hp).chg hc3 (hne _ _ (hK.st p hp))
      · rw [List.mem_singleton.1 hp]; exact hs.chg hc3 (hne _ _ hs)
    have hstl : ∀ p ∈ L ++ [(sb, st)], StB (w2.setCell ⟨eb, 23, none⟩ v') p.1 p.2 := fun p hp => by
      rcases List.mem_append.1 hp with hp | hp
      · exact (ho.st p hp).chg hc3 (hne _ _ (ho.st p hp))
      · rw [List.mem_singleton.1 hp]; exact hs.chg hc3 (hne _ _ hs)
    have hen2 : EnB w2 eb m := hen1.chg hcg (fun e => owns_ne hrow1 hen1.blk (by decide) e)
    have hown3 : (w2.setCell ⟨eb, 23, none⟩ v').ownsRow 0 118 1 v' (L ++ [(sb, st)]).length (opnCells (L ++ [(sb, st)])) := by
      have := owns_chg hown hset (fun j hj e => by rw [e] at hj; exact owns_ne hown hen2.blk (by decide) hj)
      rw [List.length_append]
      unfold opnCells at this ⊢
      rw [List.map_append]
      exact this
    have hkb : ∃ es clock, (w2.setCell ⟨eb, 23, none⟩ v').heap[mb]? = some (.map es clock) ∧ es.toList.map (fun e => (e.key, e.val)) = (K ++ [(sb, st)]).map knownE ∧ (∀ e ∈ es.toList, e.born < clock) := by
      refine ⟨es, clock, ?_, ?_, hbn1⟩
      · rw [hset.block mb (by have := hcg.size; have := hK.lt; omega) hme, hcg.block mb (by have := hK.lt; omega) (fun e => by
          rcases hrow1.2 with ⟨h1, -⟩ | ⟨g, cap, cur, h1, h2, h3, -⟩
          · rw [h1] at e; simp [Value.ownBlock] at e
          · rw [h1] at e; simp [Value.ownBlock] at e; rw [e, hb1] at h3; cases h3)]
        exact hb1
      · rw [he1, List.map_append]; rfl
    refine (sortFunc_up v' (L ++ [(sb, st)]) _ ⟨hown3, hstl⟩ hup (by rw [List.length_append]; simp; omega)).mono ?_
    rintro e w' ⟨rfl, hb⟩
    refine ⟨rfl, v', ⟨(EnB.of (blk_set hen2.blk) rfl : EnB _ eb { m with opn := v' }).below hb, (KnownS.mk hkb hsts).below hb, owns_chg hown3 (Chg.of_below (S := fun _ => False) hb) (fun _ _ => id), hc3.then_below hb, fun j hj => ?_⟩⟩
    rcases hfr with e | e
    · rw [e] at hj; exact Or.inl hj
    · rw [e] at hj; simp at hj; exact Or.inr (by omega)
  have HROW := hide hrow1
  have HEN := hide hen1
  have HSO := hide hso
  have HZW := hide hz1w
  have f23 := hen1.fr 23
  have hlt1 : eb < w1.heap.size := hen1.lt
  clear hm h hK ho hs hn hup hc1 hb1 he1 hbn1 hc1' hrow1 hen1 hz1' hso hz1w
  go_enter Tryz.func71, Tryz.ntmps71
  go_upto_region 0 with fail
  go_cut [] (fun wx => wx = w1)
  case first =>
    go_region_law (fail)
    all_goals (go_wp2_with fail; go_meet; rfl)
  case rest =>
    rw [hcut]
    clear hcut
    clear hmu HMU c22 c23 s3 hd
    go_wp2_with (at_builtin; refine wpList_app _ rfl (.tmp 17) (.tmp 19) 74 rfl 118 i0 (.pointer none) 1 8 Tryz.underlying74 hi hz0 hz1 hz2 rfl (by decide) (.slice so L.length co) L.length (opnCells L) rfl ?o1 _ 1 [.pointer (some ⟨sb, 0, none⟩)] rfl rfl ?o2 ?o3 ?o4 ?o5 ?_)
    case o1 => rw [← HSO.out]; exact owns_chg HROW.out (Chg.of_below (S := fun _ => False) ((Below.refl _ _).alloc (Nat.le_refl _) _)) (fun _ _ => id)
    case o2 => exact lies_one (one_alloc _ _ _)
    case o3 => intro u hu; rw [List.mem_singleton.1 hu]; rfl
    case o4 => unfold maxLen; omega
    case o5 => omega
    intro v' w2 hown hg hfr
    obtain ⟨s2, c2, hv2⟩ := slice_len hown
    subst hv2
    have HE := hide (HEND.out _ w2 hown (by rw [HSO.out]; exact hg) (by rw [HSO.out]; rcases hfr with e | e; exact Or.inl e; exact Or.inr (by rw [e])))
    have e23 : w2.cell? ⟨eb, 23, none⟩ = some (.slice so L.length co) := by
      have hba : Below w1.heap.size w1 (w1.alloc (.cells #[.pointer (some ⟨sb, 0, none⟩)] 118)) := (Below.refl _ _).alloc (Nat.le_refl _) _
      have hcg : Chg (fun j => m.opn.ownBlock = some j) w1 w2 := (Chg.of_below hba).trans ((Chg.of_grown hg (fun j hj => by rw [HSO.out]; exact hj)).mono fun j _ e => Or.inr e)
      rw [hcg.cell (p := ⟨eb, 23, none⟩) hlt1 (fun e => owns_ne HROW.out HEN.out.blk (by decide) e)]
      exact d23
    have g23 : w2.frozen? ⟨eb, 23, none⟩ = false := by
      have hba : Below w1.heap.size w1 (w1.alloc (.cells #[.pointer (some ⟨sb, 0, none⟩)] 118)) := (Below.refl _ _).alloc (Nat.le_refl _) _
      have hcg : Chg (fun j => m.opn.ownBlock = some j) w1 w2 := (Chg.of_below hba).trans ((Chg.of_grown hg (fun j hj => by rw [HSO.out]; exact hj)).mono fun j _ e => Or.inr e)
      rw [hcg.frozen (p := ⟨eb, 23, none⟩) hlt1 (fun e => owns_ne HROW.out HEN.out.blk (by decide) e)]
      exact f23
    clear hown hg hfr HEND
    go_wp2_with fail
    refine HE.out.mono ?_
    rintro e w' ⟨rfl, hx⟩
    have HX := hide hx
    clear hx
    go_wp2
    exact bodyPost_end (results_none rfl _ _ _) rfl ⟨rfl, HX.out⟩
end Go.Proofs.YtiphkngfbpdeoaaGreatDoor
namespace Go.Proofs.YtiphkngfbpdeoaaGreatDoor
set_option linter.unusedVariables false
set_option linter.unusedSimpArgs false
open Go.RowKit
theorem has4_bits {f : Int} (h0 : 0 ≤ f) (h1 : f < 256) : (bits BinOp.and IntKind.i64 f 4 != 0) = hasB f 4 := by
  obtain ⟨n, rfl⟩ : ∃ n : Nat, f = n := ⟨f.toNat, by omega⟩
  have hn : n < 256 := by omega
  have key : ∀ m : Fin 256, (bits BinOp.and IntKind.i64 (m.val : Int) 4 != 0) = hasB (m.val : Int) 4 := by decide +kernel
  exact key ⟨n, hn⟩
set_option maxHeartbeats 400000 in
theorem has4_any (k f s : Int) (bv : Value) (w : World) (h0 : 0 ≤ f) (h1 : f < 256) :
    Calls Tryz.prog 83 #[.agg #[.int .i64 k, .int .i64 f, .int .i64 s, bv], .int .i64 4] w fun e w' => e = .returned (.bool (hasB f 4)) ∧ Below w.heap.size w w' := by
  have HH : Hid ((bits BinOp.and IntKind.i64 f 4 != 0) = hasB f 4) := has4_bits h0 h1
  go_enter Tryz.func83, Tryz.ntmps83
  go_wp2
  go_ret
  exact ⟨ret_bool HH.out, (Below.refl _ _).alloc (Nat.le_refl _) _⟩
theorem Inv.find {w : World} {eb mb : Nat} {g : GEnd} (h : Inv w eb mb g) {s : GSt} (hs : s ∈ g.K) : findK (g.K.map GSt.str) s.st.number = some s.str := by
  rw [findK_str, find_nd (fun s : GSt => s.st.number) h.nn hs]
  rfl
def goesN (t : TypeId) (s : Int) : Int := if t = 160 then s else 0
set_option maxRecDepth 100000 in
set_option maxHeartbeats 400000 in
theorem goesOn_no (t : TypeId) (x : Value) (w : World) (ht : t = 155 ∨ t = 158 ∨ t = 164 ∨ t = 167 ∨ t = 170 ∨ t = 172 ∨ t = 173 ∨ t = 175) :
    Calls Tryz.prog 117 #[.iface t x] w fun e w' => e = .returned (.int .i64 0) ∧ Below w.heap.size w w' := by
  have hta : ∀ (x : Value) (w : World), (Instr.typeAssert (.iface t x) 135 160 true).run Tryz.prog w = .ok (.tuple #[.agg #[.int .i64 0, .int .i64 0, .int .i64 0, .slice none 0 0, .slice none 0 0], .bool false]) w := by
    rcases ht with rfl | rfl | rfl | rfl | rfl | rfl | rfl | rfl <;> exact fun _ _ => by kernel_rfl
  clear ht
  go_enter Tryz.func117, Tryz.ntmps117
  go_wp2
  go_ret
  exact ⟨rfl, (Below.refl _ _).alloc (Nat.le_refl _) _⟩
set_option maxRecDepth 100000 in
set_option maxHeartbeats 400000 in
theorem opensTalk_set (k f s : Int) (sv : Option Addr) (n cb : Nat) (nv : Int) (w : World) (h0 : 0 ≤ f) (h1 : f < 256) :
    Calls Tryz.prog 116 #[.iface 167 (.agg #[.int .i64 k, .int .i64 f, .int .i64 s, .slice sv n cb, .int .i64 nv])] w fun e w' => e = .returned (.bool (!hasB f 1)) ∧ Below w.heap.size w w' := by
  have hta : ∀ (x : Value) (w : World), (Instr.typeAssert (.iface 167 x) 135 167 true).run Tryz.prog w = .ok (.tuple #[x, .bool true]) w := fun _ _ => by kernel_rfl
  have HH : Hid (∀ w, Calls Tryz.prog 83 #[.agg #[.int .i64 k, .int .i64 f, .int .i64 s, .slice sv n cb], .int .i64 1] w fun e w' => e = .returned (.bool (hasB f 1)) ∧ Below w.heap.size w w') := fun w => has_any k f s 1 _ w h0 h1 (Or.inl rfl)
  generalize hasB f 1 = hb at *
  go_enter Tryz.func116, Tryz.ntmps116
  go_wp2_with fail
  refine (HH.out _).mono ?_
  rintro e w' ⟨rfl, hb⟩
  have HB := hide hb
  clear hb
  go_wp2
  go_ret
  exact ⟨rfl, ((Below.refl _ _).alloc (Nat.le_refl _) _).trans (HB.out.mono (by simp))⟩
set_option maxRecDepth 100000 in
set_option maxHeartbeats 800000 in
theorem checkTurn_ok (eb : Nat) (m : EndM) (t : TypeId) (x : Value) (w : World) (h : EnB w eb m) (ht : t = 155 ∨ t = 158 ∨ t = 164 ∨ t = 167 ∨ t = 170 ∨ t = 172 ∨ t = 173 ∨ t = 175) (hb : m.bstream = 0)
    (ho : m.begun = true ∨ ∀ w, Calls Tryz.prog 116 #[.iface t x] w fun e w' => e = .returned (.bool true) ∧ Below w.heap.size w w') :
    Calls Tryz.prog 79 #[.pointer (some ⟨eb, 0, none⟩), .iface t x] w fun e w' => e = .returned (.tuple #[]) ∧ Below w.heap.size w w' := by
  have c30 := h.c30
  have HG : Hid (∀ w, Calls Tryz.prog 117 #[.iface t x] w fun e w' => e = .returned (.int .i64 0) ∧ Below w.heap.size w w') := fun w => goesOn_no t x w ht
  have H := hide h
  have HBS := hide hb
  have hrest : ∀ w1, Below w.heap.size w w1 → w1.cell? ⟨eb, 31, none⟩ = some (.int .i64 0) := fun w1 hb1 => by rw [(h.below hb1).c31, hb]
  have HR := hide hrest
  clear h ht hb hrest
  cases hbg : m.begun with
  | true =>
    rw [hbg] at c30
    clear ho
    go_enter Tryz.func79, Tryz.ntmps79
    go_upto_region 2 with fail
    have k31 := HR.out w (Below.refl _ _)
    go_cut [24] (fun s24 wx => s24 = .bool false ∧ Below w.heap.size w wx)
    case first =>
      go_region_held3 (fun w' => w'.cell? ⟨eb, 31, none⟩ = some (.int .i64 0)) (go_keep)
        (first | (go_at_call 117; refine (HG.out w.drew).mono ?_; rintro e w1 ⟨rfl, hb1⟩; have hB1 : Below w.heap.size w w1 := ⟨hb1.os, hb1.tape, hb1.output, hb1.size, hb1.block⟩; have t31 := HR.out w1 hB1))
      all_goals (go_wp2_with fail; go_meet; exact ⟨rfl, hB1⟩)
    case rest =>
      obtain ⟨rfl, hbx⟩ := hcut
      have HX := hide hbx
      clear hbx
      go_wp2
      exact bodyPost_end (results_none rfl _ _ _) rfl ⟨rfl, HX.out⟩
  | false =>
    rw [hbg] at c30 ho
    have HO : Hid (∀ w, Calls Tryz.prog 116 #[.iface t x] w fun e w' => e = .returned (.bool true) ∧ Below w.heap.size w w') := by
      rcases ho with h | h
      · cases h
      · exact h
    clear ho
    go_enter Tryz.func79, Tryz.ntmps79
    go_wp2_with fail
    refine (HO.out _).mono ?_
    rintro e w0 ⟨rfl, hb0⟩
    have HB0 := hide hb0
    have k31 := HR.out w0 hb0
    clear hb0
    go_upto_region 2 with fail
    go_cut [24] (fun s24 wx => s24 = .bool false ∧ Below w.heap.size w wx)
    case first =>
      go_region_held3 (fun w' => w'.cell? ⟨eb, 31, none⟩ = some (.int .i64 0)) (go_keep)
        (first | (go_at_call 117; refine (HG.out w0.drew).mono ?_; rintro e w1 ⟨rfl, hb1⟩; have hB1 : Below w.heap.size w w1 := HB0.out.trans (Below.mono ⟨hb1.os, hb1.tape, hb1.output, hb1.size, hb1.block⟩ HB0.out.size); have t31 := HR.out w1 hB1))
      all_goals (go_wp2_with fail; go_meet; exact ⟨rfl, hB1⟩)
    case rest =>
      obtain ⟨rfl, hbx⟩ := hcut
      have HX := hide hbx
      clear hbx
      go_wp2
      exact bodyPost_end (results_none rfl _ _ _) rfl ⟨rfl, HX.out⟩
end Go.Proofs.YtiphkngfbpdeoaaGreatDoor
namespace Go.Proofs.YtiphkngfbpdeoaaGreatDoor
set_option linter.unusedVariables false
set_option linter.unusedSimpArgs false
open Go.RowKit
theorem lies_nil (w : World) (sv : Option Addr) (cb : Nat) (h : sv = none → cb = 0) : Lies w (.slice sv 0 cb) 0 [] := by
  cases sv with
  | none => rw [h rfl]; exact Or.inl ⟨rfl, rfl, rfl⟩
  | some a => exact Or.inr ⟨_, _, rfl, fun j u hu => by simp at hu⟩
set_option maxRecDepth 100000 in
set_option maxHeartbeats 800000 in
theorem bUnpack_nil (ub uo : Nat) (bv : Value) (w : World) (hb : BytesIn w bv []) (hg : Gl w) :
    Calls Tryz.prog 123 #[.pointer (some ⟨ub, uo, none⟩), bv] w fun e w' => e = .returned (.slice none 0 0) ∧ Below w.heap.size w w' := by
  have hbA : Below w.heap.size w (w.alloc (.cells #[bv] 218)) := (Below.refl _ _).alloc (Nat.le_refl _) _
  have hsr : SrS (w.alloc (.cells #[bv] 218)) w.heap.size bv [] := ⟨heap_alloc_new w _, hb.chg (Chg.of_below (S := fun _ => False) hbA) (fun _ _ => id), fun e => by have := hb.lt e; omega⟩
  have hgA := hg.below hbA
  have HSH := hide (shas_any w.heap.size bv [] 32 5 _ hsr (Or.inr (Or.inl rfl)))
  have l0 := hg.lim.1
  have l1 := hg.lim.2
  have hgl : 0 < w.heap.size := Nat.lt_of_lt_of_le (by decide) hg.lt
  have HAE : Hid (∀ w1, Below (w.alloc (.cells #[bv] 218)).heap.size (w.alloc (.cells #[bv] 218)) w1 → Calls Tryz.prog 147 #[.pointer (some ⟨w.heap.size, 0, none⟩)] w1 fun e w' => e = .returned (.bool true) ∧ w' = w1) := fun w1 hb1 => atEnd_any w.heap.size bv [] w1 (hsr.chg (Chg.of_below (S := fun _ => False) hb1) id (fun _ _ => id))
  have HBA := hide hbA
  obtain ⟨sv, cv, hv, -⟩ := bytesIn_len hb
  subst hv
  simp only [List.length_nil] at HSH HAE HBA
  simp only [fm] at HSH
  clear hb hg hbA hsr hgA
  go_enter Tryz.func123, Tryz.ntmps123
  go_wp2
  refine wp_loop_rounds 1 ?_
  rw [rounds_succ]
  go_wp2_with fail
  refine HSH.out.mono ?_
  rintro e w1 ⟨rfl, hb1⟩
  have HA := hide (HAE.out w1 hb1)
  have HB1 := hide hb1
  clear hb1
  simp only [hasF]
  go_wp2
  refine wp_loop_rounds 1 ?_
  rw [rounds_succ]
  go_wp2_with fail
  refine HA.out.mono ?_
  rintro e w' ⟨rfl, hw'⟩
  rw [hw']
  clear hw' w'
  go_wp2
  go_ret
  exact ⟨rfl, HBA.out.trans (HB1.out.mono (by simp))⟩
def StM.fresh (n : Int) (b : Bool) : StM := ⟨0, 0, 0, n, .slice none 0 0, false, false, true, false, b, 0, .slice none 0 0, .slice none 0 0⟩
theorem Inv.added {w0 w w' : World} {eb mb : Nat} {g0 g : GEnd} {sb : Nat} {n : Int} {b : Bool} {v : Value} (h0 : Next w0 w eb mb g0 g) (hsb : w0.heap.size ≤ sb) (hs : StB w sb (StM.fresh n b)) (hnf : ¬ Foot eb mb g sb) (hn : ∀ x ∈ g.K, x.st.number ≠ n) (ha : AddS w w' eb mb g.m (g.K.map GSt.str) (openS g.K g.L) sb (StM.fresh n b) v) :
    Next w0 w' eb mb g0 { g with m := { g.m with opn := v }, K := g.K ++ [⟨sb, StM.fresh n b, [], []⟩], L := g.L ++ [n] } := by
  have h := h0.inv
  have hln : n ∉ g.L := fun hm => by
    obtain ⟨s, hs, e⟩ := h.has n hm
    exact hn s hs e
  have hnil : ∀ w' : World, w'.ownsRow 0 5 1 (.slice none 0 0) ([] : List UInt8).length (([] : List UInt8).map B) := fun w' => World.ownsRow_nil _ _ _ _
  have hc := ha.chg
  have hmemK : ∀ x, x ∈ g.K ++ [(⟨sb, StM.fresh n b, [], []⟩ : GSt)] → x ∈ g.K ∨ x = ⟨sb, StM.fresh n b, [], []⟩ := fun x hx => by
    rcases List.mem_append.1 hx with a | a
    · exact Or.inl a
    · exact Or.inr (List.mem_singleton.1 a)
  have hu8 : ∀ {k : Nat} {v' : Value} {xs : List Value}, w.ownsRow 0 5 1 v' k xs → w'.ownsRow 0 5 1 v' k xs := fun hr => owns_chg hr hc (fun j hj e => by
    rcases e with e | e | e
    · rw [e] at hj; exact owns_ne hr h.en.blk (by decide) hj
    · rw [e] at hj; exact owns_mb h.kn hr hj
    · exact rows_ne hr h.row (by decide) hj e)
  have hat : ∀ k ∈ g.L, atN (g.K ++ [(⟨sb, StM.fresh n b, [], []⟩ : GSt)]) k = atN g.K k := fun k hk => by
    obtain ⟨s, hs', e⟩ := h.has k hk
    unfold atN
    rw [List.find?_append]
    have := find_nd (fun s : GSt => s.st.number) h.nn hs'
    simp only [e] at this
    rw [this]
    rfl
  have hatn : atN (g.K ++ [(⟨sb, StM.fresh n b, [], []⟩ : GSt)]) n = ⟨sb, StM.fresh n b, [], []⟩ := by
    unfold atN
    rw [List.find?_append]
    have : g.K.find? (fun s => s.st.number == n) = none := List.find?_eq_none.2 fun x hx => by simpa using hn x hx
    rw [this]
    simp [StM.fresh]
  have hop : openS (g.K ++ [(⟨sb, StM.fresh n b, [], []⟩ : GSt)]) (g.L ++ [n]) = openS g.K g.L ++ [(sb, StM.fresh n b)] := by
    unfold openS
    rw [List.map_append, List.map_cons, List.map_nil, hatn]
    congr 1
    apply List.map_congr_left
    intro k hk
    rw [hat k hk]
  refine ⟨⟨ha.en, ?_, h.km, ?_, ?_, ?_, ?_, ?_, hu8 h.out, hu8 h.got, ?_, ?_, ?_, fun a hm => hu8 (h.anb a hm), ?_, ?_⟩, ?_, ?_⟩
  · have := ha.kn
    rw [show ([(sb, StM.fresh n b)] : List Str) = [(⟨sb, StM.fresh n b, [], []⟩ : GSt)].map GSt.str from rfl, ← List.map_append] at this
    exact this
  · show ((g.K ++ [_]).map GSt.sb).Nodup
    rw [List.map_append, List.nodup_append]
    refine ⟨h.nd, by simp, ?_⟩
    intro a ha' b' hb' e
    obtain ⟨x, hx, rfl⟩ := List.mem_map.1 ha'
    simp at hb'
    rw [hb'] at e
    exact hnf (by rw [← e]; exact h.foot_st hx)
  · show ((g.K ++ [_]).map fun s : GSt => s.st.number).Nodup
    rw [List.map_append, List.nodup_append]
    refine ⟨h.nn, by simp, ?_⟩
    intro a ha' b' hb' e
    obtain ⟨x, hx, rfl⟩ := List.mem_map.1 ha'
    simp [StM.fresh] at hb'
    rw [hb'] at e
    exact hn x hx e
  · show (g.L ++ [n]).Nodup
    rw [List.nodup_append]
    refine ⟨h.ln, by simp, ?_⟩
    intro a ha' b' hb' e
    simp at hb'
    rw [hb'] at e
    exact hln (by rw [← e]; exact ha')
  · intro k hk
    rcases List.mem_append.1 hk with a | a
    · obtain ⟨s, hs', e⟩ := h.has k a
      exact ⟨s, List.mem_append_left _ hs', e⟩
    · rw [List.mem_singleton.1 a]
      exact ⟨_, List.mem_append_right _ (List.mem_singleton.2 rfl), rfl⟩
  · have := ha.row
    rw [← hop] at this
    show w'.ownsRow 0 118 1 v (g.L ++ [n]).length (opnCells (openS (g.K ++ [_]) (g.L ++ [n])))
    rw [openS_length] at this
    exact this
  · intro x hx
    rcases hmemK x hx with a | a
    · exact hu8 (h.un x a)
    · subst a; exact hnil _
  · intro x hx
    rcases hmemK x hx with a | a
    · exact hu8 (h.wa x a)
    · subst a; exact hnil _
  · refine h.ans.chg hc (fun j hj e => ?_)
    rcases e with e | e | e
    · rw [e] at hj; exact h.ans.ne h.en.blk (by decide) hj
    · rw [e] at hj; exact rowAt_mb h.kn h.ans hj
    · exact rows_ne2 h.row h.ans (by decide) e hj
  · refine h.res.chg hc (fun j hj e => ?_)
    rcases e with e | e | e
    · rw [e] at hj; exact h.res.ne h.en.blk (by decide) hj
    · rw [e] at hj; exact rowAt_mb h.kn h.res hj
    · exact rows_ne2 h.row h.res (by decide) e hj
  · refine h.apart (fun _ => 0) _ _ g.ans (fun j hj => Or.inl hj) (fun j hj => Or.inl hj) ?_ ?_ (fun a ha j hj => Or.inl ⟨a, ha, hj⟩)
    · intro x hx j hj
      rcases hmemK x hx with a | a
      · exact Or.inl ⟨x, a, rfl, hj⟩
      · subst a; simp [StM.fresh, Value.ownBlock] at hj
    · intro x hx j hj
      rcases hmemK x hx with a | a
      · exact Or.inl ⟨x, a, rfl, hj⟩
      · subst a; simp [StM.fresh, Value.ownBlock] at hj
  · refine h0.chg.trans (hc.mono fun j _ e => ?_)
    have : Foot eb mb g j := by
      rcases e with e | e | e
      · exact Or.inl e
      · exact Or.inr (Or.inl e)
      · unfold Foot; simp [e]
    exact (h0.grow j this).symm
  · intro j hj
    have key : Foot eb mb g j ∨ w0.heap.size ≤ j ∨ w.heap.size ≤ j := by
      rcases hj with e | e | e | e | e | e | e | e | ⟨y, hy, e⟩
      · exact Or.inl (Or.inl e)
      · exact Or.inl (Or.inr (Or.inl e))
      · exact Or.inl (by unfold Foot; simp [show g.m.out.ownBlock = some j from e])
      · exact Or.inl (by unfold Foot; simp [show g.m.got.ownBlock = some j from e])
      · rcases ha.fresh j e with a | a
        · exact Or.inl (by unfold Foot; simp [a])
        · exact Or.inr (Or.inr a)
      · exact Or.inl (by unfold Foot; simp [show g.m.answers.ownBlock = some j from e])
      · exact Or.inl (by unfold Foot; simp [show g.m.resets.ownBlock = some j from e])
      · exact Or.inl (Or.inr (Or.inr (Or.inr (Or.inr (Or.inr (Or.inr (Or.inr (Or.inl e))))))))
      · rcases hmemK y hy with a | a
        · exact Or.inl (Or.inr (Or.inr (Or.inr (Or.inr (Or.inr (Or.inr (Or.inr (Or.inr ⟨y, a, e⟩))))))))
        · subst a
          rcases e with e | e | e
          · exact Or.inr (Or.inl (by rw [e]; exact hsb))
          · simp [StM.fresh, Value.ownBlock] at e
          · simp [StM.fresh, Value.ownBlock] at e
    rcases key with a | a | a
    · exact h0.grow j a
    · exact Or.inr a
    · exact Or.inr (Nat.le_trans h0.chg.size a)
theorem up_map {α : Type} (f : α → Int) {L' : List α} {l : List Int} (hm : L'.map f = l) (hup : ∀ i (h : i + 1 < l.length), l[i] ≤ l[i + 1]) : ∀ i (h : i + 1 < L'.length), f L'[i] ≤ f L'[i + 1] := by
  subst hm
  intro i h
  have := hup i (by simpa using h)
  simpa using this
def GEnd.opened (g : GEnd) (n : Int) (b : Bool) : GEnd := { g with m := { g.m with bstream := 0, blast := false, newest := n }, K := g.K ++ [⟨0, StM.fresh n b, [], []⟩], L := g.L ++ [n] }
set_option maxRecDepth 100000 in
set_option maxHeartbeats 1600000 in
theorem comePiece_nil (eb mb : Nat) (g : GEnd) (n : Int) (b : Bool) (sv : Option Addr) (cb : Nat) (w : World) (h : Inv w eb mb g) (hg : Gl w) (hge : ∀ j, j < 7 → ¬ Foot eb mb g j) (hsv : sv = none → cb = 0) (hn : ∀ x ∈ g.K, x.st.number ≠ n) (hup : ∀ i (h : i + 1 < (g.L ++ [n]).length), (g.L ++ [n])[i] ≤ (g.L ++ [n])[i + 1]) (hL : g.L.length ≤ 11) :
    Calls Tryz.prog 82 #[.pointer (some ⟨eb, 0, none⟩), .agg #[.int .i64 n, .slice none 0 0, .bool b], .slice sv 0 cb, .bool true] w fun e w' => e = .returned (.tuple #[]) ∧ ∃ g', g'.bare = (g.opened n b).bare ∧ Next w w' eb mb g g' := by
  obtain ⟨i0, hi, hz0, hz1, hz2⟩ := info_parts Tryz.info5
  have hlt := h.en.lt
  have HLI : Hid (∀ w, Lies w (.slice sv 0 cb) 0 []) := fun w => lies_nil w sv cb hsv
  have H := hide h
  have HG := hide hg
  clear h hg
  go_enter Tryz.func82, Tryz.ntmps82
  go_wp2_with (at_builtin; refine wpList_app _ rfl (.tmp 10) (.tmp 11) 38 rfl 5 i0 (.int .u8 0) 1 1 Tryz.underlying38 hi hz0 hz1 hz2 rfl (by decide) (.slice none 0 0) 0 [] rfl (World.ownsRow_nil _ _ _ _) _ 0 [] rfl rfl (HLI.out _) (by simp) (by decide) (by decide) ?_)
  intro v1 w1 hown1 hg1 hfr1
  obtain ⟨s1, c1, rfl⟩ := slice_len hown1
  have hbA : Below w.heap.size w (w.alloc (.cells #[.int .i64 n, .slice none 0 0, .bool b] 82)) := (Below.refl _ _).alloc (Nat.le_refl _) _
  have hc1 : Below w.heap.size w w1 := below_of_chg hbA (Chg.of_grown (S := fun _ => False) hg1 (fun j hj => by simp [Value.ownBlock] at hj)) (fun _ e => e.elim)
  have hbox1 : w1.heap[w.heap.size]? = some (.cells #[.int .i64 n, .slice none 0 0, .bool b] 82 (0, 0)) := by
    have hcg := Chg.of_grown (S := fun _ => False) hg1 (fun j hj => by simp [Value.ownBlock] at hj)
    rw [hcg.block w.heap.size (by simp) id]
    exact heap_alloc_new w _
  have k0 : w1.cell? ⟨w.heap.size, 0, none⟩ = some (.int .i64 n) := by rw [cell_of_row _ _ _ _ _ _ hbox1]; rfl
  have k1 : w1.cell? ⟨w.heap.size, 1, none⟩ = some (.slice none 0 0) := by rw [cell_of_row _ _ _ _ _ _ hbox1]; rfl
  have k2 : w1.cell? ⟨w.heap.size, 2, none⟩ = some (.bool b) := by rw [cell_of_row _ _ _ _ _ _ hbox1]; rfl
  have fz1 : w1.frozen? ⟨w.heap.size, 1, none⟩ = false := by simp [World.frozen?, hbox1]
  have hby1 : BytesIn w1 (.slice s1 0 c1) [] := bytesIn_of_owns (l := []) hown1 rfl
  have HBX1 := hide hbox1
  have HC1 := hide hc1
  have HBY1 := hide hby1
  have HFR1 := hide hfr1
  clear hown1 hg1 hfr1 hc1 hbox1 hby1 hbA
  go_upto_region 6 with fail
  obtain ⟨w2, hw2⟩ : ∃ w2, w2 = w1.setCell ⟨w.heap.size, 1, none⟩ (.slice s1 0 c1) := ⟨_, rfl⟩
  rw [← hw2]
  have hC2 : Chg (fun _ => False) w w2 := by rw [hw2]; exact (Chg.of_below HC1.out).setCell (p := ⟨w.heap.size, 1, none⟩) (Or.inl (Nat.le_refl _)) _
  have hb2 : Below w.heap.size w w2 := hC2.below
  have hbox2 : w2.heap[w.heap.size]? = some (.cells #[.int .i64 n, .slice s1 0 c1, .bool b] 82 (0, 0)) := by rw [hw2, blk_set HBX1.out]; rfl
  have m1 : w2.cell? ⟨w.heap.size, 1, none⟩ = some (.slice s1 0 c1) := by rw [cell_of_row _ _ _ _ _ _ hbox2]; rfl
  have hs1 : ∀ j, (Value.slice s1 0 c1).ownBlock = some j → j ≠ w.heap.size := fun j hj e => by
    rcases HFR1.out with e1 | e1
    · rw [e1] at hj; simp [Value.ownBlock] at hj
    · rw [e1] at hj; simp at hj; omega
  have hby2 : BytesIn w2 (.slice s1 0 c1) [] := by
    rw [hw2]
    exact HBY1.out.chg (chg_set (S := fun j => j = w.heap.size) (Chg.refl _ _) rfl) (fun j hj e => hs1 j hj e)
  have HUN : Hid (Calls Tryz.prog 123 #[.pointer (some ⟨eb, 35, none⟩), .slice s1 0 c1] w2.drew fun e w' => e = .returned (.slice none 0 0) ∧ Below w2.heap.size w2 w') := by
    have hd : Below w2.heap.size w2 w2.drew := ⟨rfl, rfl, rfl, Nat.le_refl _, fun _ _ => rfl⟩
    refine (bUnpack_nil eb 35 _ w2.drew (hby2.chg (Chg.of_below (S := fun _ => False) hd) (fun _ _ => id)) ((HG.out.below hb2).below hd)).mono ?_
    rintro e w' ⟨h1, h2⟩
    exact ⟨h1, hd.trans h2⟩
  have HB2 := hide hb2
  have HBX2 := hide hbox2
  clear hw2 hC2 hb2 hbox2 hby2 hs1 k0 k1 k2 fz1
  go_cut [8] (fun s8 wx => s8 = .slice none 0 0 ∧ Below w2.heap.size w2 wx)
  case first =>
    go_region_held3 (fun w' => w'.cell? ⟨w.heap.size, 1, none⟩ = some (.slice s1 0 c1)) (go_keep)
      (first | (go_at_call 123; refine HUN.out.mono ?_; rintro e w3 ⟨rfl, hb3⟩; have t1 : w3.cell? ⟨w.heap.size, 1, none⟩ = some (.slice s1 0 c1) := (by rw [Below.cell hb3 (p := ⟨w.heap.size, 1, none⟩) (lt_of_block HBX2.out)]; exact m1)))
    all_goals (go_wp2_with fail; go_meet; exact ⟨rfl, hb3⟩)
  case rest =>
    obtain ⟨rfl, hb3⟩ := hcut
    obtain ⟨w3, hw3⟩ : ∃ w3, w3 = wc := ⟨wc, rfl⟩
    subst hw3
    have hbw3 : Below w.heap.size w w3 := HB2.out.trans (hb3.mono HB2.out.size)
    have hI3 := H.out.below hbw3
    have hbox3 : w3.heap[w.heap.size]? = some (.cells #[.int .i64 n, .slice s1 0 c1, .bool b] 82 (0, 0)) := by rw [hb3.block _ (lt_of_block HBX2.out)]; exact HBX2.out
    have j0 : w3.cell? ⟨w.heap.size, 0, none⟩ = some (.int .i64 n) := by rw [cell_of_row _ _ _ _ _ _ hbox3]; rfl
    have j2 : w3.cell? ⟨w.heap.size, 2, none⟩ = some (.bool b) := by rw [cell_of_row _ _ _ _ _ _ hbox3]; rfl
    have e31 := hI3.en.c31
    have e32 := hI3.en.c32
    have e33 := hI3.en.c33
    have e34 := hI3.en.c34
    have f31 := hI3.en.fr 31
    have f32 := hI3.en.fr 32
    have f33 := hI3.en.fr 33
    have f34 := hI3.en.fr 34
    have hneb : w.heap.size ≠ eb := by omega
    have HI3 := hide hI3
    have HBW3 := hide hbw3
    have HBX3 := hide hbox3
    clear hI3 hbw3 hbox3 hb3
    go_upto_region 9 with fail
    obtain ⟨w4, hw4⟩ : ∃ w4, w4 = (((w3.setCell ⟨eb, 31, none⟩ (.int .i64 0)).setCell ⟨eb, 32, none⟩ (.slice none 0 0)).setCell ⟨eb, 33, none⟩ (.bool false)).setCell ⟨eb, 34, none⟩ (.int .i64 n) := ⟨_, rfl⟩
    rw [← hw4]
    have hC4 : Chg (fun j => j = eb) w3 w4 := by rw [hw4]; exact chg_set (chg_set (chg_set (chg_set (Chg.refl _ _) rfl) rfl) rfl) rfl
    have hE4 : EnB w4 eb { g.m with bstream := 0, bbytes := .slice none 0 0, blast := false, newest := n } := by rw [hw4]; exact EnB.of (blk_set (blk_set (blk_set (blk_set HI3.out.en.blk)))) rfl
    have hN4 : Next w w4 eb mb g { g with m := { g.m with bstream := 0, bbytes := .slice none 0 0, blast := false, newest := n } } := by
      have := HI3.out.onEnd (S := fun j => j = eb) (m' := { g.m with bstream := 0, bbytes := .slice none 0 0, blast := false, newest := n }) (o' := g.out) (A' := g.ans) (R' := g.res) hC4 (fun j e => Or.inl e) hE4 rfl rfl rfl (owns_chg HI3.out.out hC4 (fun j hj e => by rw [e] at hj; exact owns_ne HI3.out.out HI3.out.en.blk (by decide) hj)) (fun j hj => Or.inl hj) HI3.out.ans (fun _ h => h) (fun _ h => h) HI3.out.res (fun _ h => h)
      exact this.pre HBW3.out
    have hbox4 : w4.heap[w.heap.size]? = some (.cells #[.int .i64 n, .slice s1 0 c1, .bool b] 82 (0, 0)) := by rw [hC4.block _ (lt_of_block HBX3.out) hneb]; exact HBX3.out
    have y0 : w4.cell? ⟨w.heap.size, 0, none⟩ = some (.int .i64 n) := by rw [cell_of_row _ _ _ _ _ _ hbox4]; rfl
    have y2 : w4.cell? ⟨w.heap.size, 2, none⟩ = some (.bool b) := by rw [cell_of_row _ _ _ _ _ _ hbox4]; rfl
    have HADD : Hid (∀ wx, Below w4.heap.size w4 wx → wx.heap[w4.heap.size]? = some (.cells (StM.fresh n b).cells 121 (0, 0)) → Calls Tryz.prog 71 #[.pointer (some ⟨eb, 22, none⟩), .pointer (some ⟨w4.heap.size, 0, none⟩)] wx fun e w' => e = .returned (.tuple #[]) ∧ ∃ g', g'.bare = (g.opened n b).bare ∧ Next w w' eb mb g g') := fun wx hbx hnew => by
      have hNx := hN4.then_below hbx
      have hIx := hNx.inv
      have hsx : StB wx w4.heap.size (StM.fresh n b) := ⟨hnew⟩
      refine (sadd_any eb mb w4.heap.size _ (g.K.map GSt.str) (openS g.K g.L) (StM.fresh n b) wx hIx.en hIx.km hIx.kn hIx.open hsx ?_ ?_ (by rw [openS_length]; exact hL)).mono ?_
      · rw [findK_str]
        rw [List.find?_eq_none.2 fun x hx => by simpa [StM.fresh] using hn x hx]
        rfl
      · have hmap : (openS g.K g.L ++ [(w4.heap.size, StM.fresh n b)]).map (fun p => p.2.number) = g.L ++ [n] := by
          rw [List.map_append]
          congr 1
          unfold openS
          rw [List.map_map]
          conv => rhs; rw [← List.map_id g.L]
          apply List.map_congr_left
          intro k hk
          exact (HI3.out.at hk).2
        exact up_map (fun p : Str => p.2.number) hmap hup
      · rintro e w' ⟨rfl, v, hA⟩
        refine ⟨rfl, _, ?_, Inv.added hNx (by have := hN4.chg.size; omega) hsx (fun hf => ?_) hn hA⟩
        · unfold GEnd.opened GEnd.bare
          simp only [GEnd.mk.injEq, true_and, and_true]
          refine ⟨rfl, ?_⟩
          rw [List.map_append, List.map_append]
          rfl
        · have := Foot.lt hN4.inv hf
          omega
    have HN4 := hide hN4
    clear hw4 hC4 hE4 hN4 hbox4 e31 e32 e33 e34 f31 f32 f33 f34 j0 j2
    go_region_law (first
      | (refine step_call rfl 71 Tryz.f71 Tryz.func71 (by kernel_rfl) rfl [.tmp 46, .tmp 53] #[76, 118] rfl [.pointer (some ⟨eb, 22, none⟩), .pointer (some ⟨w4.heap.size, 0, none⟩)] (by simp [Act.eval, Act.put]) (HADD.out _ ⟨rfl, rfl, rfl, by simp, fun k hk => Below.heap_alloc _ _ _ hk⟩ (heap_alloc_new w4 _)) ?_; rintro e w5 ⟨rfl, hx5⟩; refine ⟨_, rfl, ?_⟩; have HX5 := hide hx5; clear hx5))
    all_goals (go_wp2; exact bodyPost_end (results_none rfl _ _ _) rfl ⟨rfl, HX5.out⟩)
end Go.Proofs.YtiphkngfbpdeoaaGreatDoor
namespace Go.Proofs.YtiphkngfbpdeoaaGreatDoor
set_option linter.unusedVariables false
set_option linter.unusedSimpArgs false
open Go.RowKit
set_option maxRecDepth 100000 in
set_option maxHeartbeats 800000 in
theorem openThere_any (eb : Nat) (m : EndM) (L : List Str) (w : World) (h : EnB w eb m) (ho : OpenS w m.opn L) (hL : L.length ≤ 1048576) :
    Calls Tryz.prog 122 #[.pointer (some ⟨eb, 0, none⟩)] w fun e w' => e = .returned (.int .i64 ((L.length : Int) - (m.hereN L : Nat))) ∧ Below w.heap.size w w' := by
  obtain ⟨sr, cr, hv⟩ := slice_len ho.row
  have c23 := h.c23
  rw [hv] at c23
  have hd : Below w.heap.size w w.drew := ⟨rfl, rfl, rfl, Nat.le_refl _, fun _ _ => rfl⟩
  have HC := hide (openHere_any eb m L w.drew (h.below hd) (ho.below hd) hL)
  have hle : m.hereN L ≤ L.length := List.countP_le_length
  have hw1 : IntKind.i64.wrap ((L.length : Int) - ((m.hereN L : Nat) : Int)) = (L.length : Int) - ((m.hereN L : Nat) : Int) := by rw [IntKind.wrap_i64]; omega
  generalize m.hereN L = H at *
  clear h ho hv hd
  go_enter Tryz.func122, Tryz.ntmps122
  go_upto_region 1 with fail
  go_cut [2] (fun s2 wx => s2 = .int .i64 ((L.length : Int) - (H : Int)) ∧ Below w.heap.size w wx)
  case first =>
    go_region_held3 (fun w' => w'.cell? ⟨eb, 23, none⟩ = some (.slice sr L.length cr)) (go_keep)
      (first | (go_at_call 69; refine HC.out.mono ?_; rintro e w' ⟨rfl, rfl⟩))
    all_goals (go_wp2_with fail; go_meet; exact ⟨rfl, ⟨rfl, rfl, rfl, Nat.le_refl _, fun _ _ => rfl⟩⟩)
  case rest =>
    obtain ⟨rfl, hbx⟩ := hcut
    have HX := hide hbx
    clear hbx
    go_wp2
    go_ret
    exact ⟨rfl, HX.out⟩
theorem below_step {wA W w1 : World} (h : Below wA.heap.size wA W) (h1 : Below W.heap.size W w1) : Below wA.heap.size wA w1 := h.trans (h1.mono h.size)
set_option maxRecDepth 100000 in
set_option maxHeartbeats 1600000 in
theorem comeHeaders_nil (eb mb : Nat) (g : GEnd) (f n : Int) (sv : Option Addr) (cb : Nat) (w : World) (h : Inv w eb mb g) (hg : Gl w) (hge : ∀ j, j < 7 → ¬ Foot eb mb g j) (hsv : sv = none → cb = 0) (hf : 0 ≤ f ∧ f ≤ 255) (hla : hasB f 4 = true) (hop : g.m.opensN n = false) (hnw : g.m.newest < n) (h4 : ((g.L.length : Int) - (g.m.hereN (openS g.K g.L) : Nat)) < 4) (hn : ∀ x ∈ g.K, x.st.number ≠ n) (hup : ∀ i (h : i + 1 < (g.L ++ [n]).length), (g.L ++ [n])[i] ≤ (g.L ++ [n])[i + 1]) (hL : g.L.length ≤ 11) :
    Calls Tryz.prog 81 #[.pointer (some ⟨eb, 0, none⟩), .agg #[.int .i64 1, .int .i64 f, .int .i64 n, .slice sv 0 cb, .slice sv 0 cb]] w fun e w' => e = .returned (.tuple #[]) ∧ ∃ g', g'.bare = (g.opened n (hasB f 1)).bare ∧ Next w w' eb mb g g' := by
  have hbA : Below w.heap.size w (w.alloc (.cells #[.int .i64 1, .int .i64 f, .int .i64 n, .slice sv 0 cb, .slice sv 0 cb] 158)) := (Below.refl _ _).alloc (Nat.le_refl _) _
  have hnew := heap_alloc_new w (.cells #[.int .i64 1, .int .i64 f, .int .i64 n, .slice sv 0 cb, .slice sv 0 cb] 158)
  obtain ⟨wA, hwA⟩ : ∃ wA, wA = w.alloc (.cells #[.int .i64 1, .int .i64 f, .int .i64 n, .slice sv 0 cb, .slice sv 0 cb] 158) := ⟨_, rfl⟩
  rw [← hwA] at hbA hnew
  have hA := h.below hbA
  have HOPN : Hid (∀ wx, Below wA.heap.size wA wx → Calls Tryz.prog 100 #[.pointer (some ⟨eb, 0, none⟩), .int .i64 n] wx fun e w' => e = .returned (.bool false) ∧ w' = wx) := fun wx hx => by
    have := opens_any eb g.m n wx (hA.below hx).en
    rw [show ((n.tmod 2 == 1) == g.m.first) = false from hop] at this
    exact this
  have HOT : Hid (∀ wx, Below wA.heap.size wA wx → Calls Tryz.prog 122 #[.pointer (some ⟨eb, 0, none⟩)] wx fun e w' => e = .returned (.int .i64 ((g.L.length : Int) - (g.m.hereN (openS g.K g.L) : Nat))) ∧ Below wx.heap.size wx w') := fun wx hx => by
    have := openThere_any eb g.m (openS g.K g.L) wx (hA.below hx).en (hA.below hx).open (by rw [openS_length]; omega)
    rw [openS_length] at this
    exact this
  have HHB : Hid (∀ (b : Int) (wx : World), (b = 1 ∨ b = 4) → Calls Tryz.prog 83 #[.agg #[.int .i64 1, .int .i64 f, .int .i64 n, .slice sv 0 cb], .int .i64 b] wx fun e w' => e = .returned (.bool (hasB f b)) ∧ Below wx.heap.size wx w') := fun b wx hb => by
    rcases hb with rfl | rfl
    · exact has_any 1 f n 1 _ wx hf.1 (by omega) (Or.inl rfl)
    · exact has4_any 1 f n (.slice sv 0 cb) wx hf.1 (by omega)
  have HCP : Hid (∀ wx, Below wA.heap.size wA wx → Calls Tryz.prog 82 #[.pointer (some ⟨eb, 0, none⟩), .agg #[.int .i64 n, .slice none 0 0, .bool (hasB f 1)], .slice sv 0 cb, .bool (hasB f 4)] wx fun e w' => e = .returned (.tuple #[]) ∧ (∃ g', g'.bare = (g.opened n (hasB f 1)).bare ∧ Next w w' eb mb g g') ∧ Chg (Foot eb mb g) wx w') := fun wx hx => by
    have hbx := hbA.trans (hx.mono hbA.size)
    rw [hla]
    refine (comePiece_nil eb mb g n (hasB f 1) sv cb wx (h.below hbx) (hg.below hbx) hge hsv hn hup hL).mono ?_
    rintro e w' ⟨rfl, g', h1, h2⟩
    exact ⟨rfl, ⟨g', h1, h2.pre hbx⟩, h2.chg⟩
  have HBOX : Hid (∀ wx, Below wA.heap.size wA wx → wx.cell? ⟨w.heap.size, 0, none⟩ = some (.int .i64 1) ∧ wx.cell? ⟨w.heap.size, 1, none⟩ = some (.int .i64 f) ∧ wx.cell? ⟨w.heap.size, 2, none⟩ = some (.int .i64 n) ∧ wx.cell? ⟨w.heap.size, 3, none⟩ = some (.slice sv 0 cb) ∧ wx.cell? ⟨w.heap.size, 4, none⟩ = some (.slice sv 0 cb) ∧ wx.cell? ⟨eb, 34, none⟩ = some (.int .i64 g.m.newest)) := fun wx hx => by
    have hb : wx.heap[w.heap.size]? = some (.cells #[.int .i64 1, .int .i64 f, .int .i64 n, .slice sv 0 cb, .slice sv 0 cb] 158 (0, 0)) := by rw [hx.block _ (lt_of_block hnew)]; exact hnew
    refine ⟨?_, ?_, ?_, ?_, ?_, (hA.below hx).en.c34⟩ <;> (rw [cell_of_row _ _ _ _ _ _ hb]; rfl)
  have hlt : eb < wA.heap.size := hA.en.lt
  have HNF : Hid (¬ Foot eb mb g w.heap.size) := fun hf => by have := Foot.lt h hf; omega
  have hltb : w.heap.size < wA.heap.size := lt_of_block hnew
  have hle : (n ≤ g.m.newest) = False := eq_false (by omega)
  have HWA := hide hwA
  generalize hZ : ((g.L.length : Int) - (g.m.hereN (openS g.K g.L) : Nat)) = Z at *
  have hz4 : ((4 : Int) ≤ Z) = False := eq_false (by omega)
  have HBA := hide hbA
  clear h hg hA hbA hnew hop hn hup hf hla hZ h4
  go_enter Tryz.func81, Tryz.ntmps81
  go_upto_region 1 with fail
  rw [← HWA.out]
  clear hwA
  obtain ⟨z0, z1, z2, z3, z4, z34⟩ := HBOX.out wA (Below.refl _ _)
  go_cut [26] (fun s26 wx => s26 = .bool false ∧ Below wA.heap.size wA wx)
  case first =>
    go_region_held3 (fun w' => w'.cell? ⟨w.heap.size, 2, none⟩ = some (.int .i64 n) ∧ w'.cell? ⟨eb, 34, none⟩ = some (.int .i64 g.m.newest)) (go_keep)
      (first
        | (go_at_call 100; refine (HOPN.out wA.drew ⟨rfl, rfl, rfl, Nat.le_refl _, fun _ _ => rfl⟩).mono ?_; rintro e w' ⟨rfl, rfl⟩)
        | (go_at_call 122; refine (HOT.out wA.drew ⟨rfl, rfl, rfl, Nat.le_refl _, fun _ _ => rfl⟩).mono ?_; rintro e w1 ⟨rfl, hb1⟩; have hB1 : Below wA.heap.size wA w1 := ⟨hb1.os, hb1.tape, hb1.output, hb1.size, hb1.block⟩; have t2 := (HBOX.out w1 hB1).2.2.1; have t34 := (HBOX.out w1 hB1).2.2.2.2.2))
    all_goals (go_wp2_with fail; go_meet; exact ⟨by simp [hz4], hB1⟩)
  case rest =>
    obtain ⟨rfl, hbx⟩ := hcut
    obtain ⟨wB, hwB⟩ : ∃ wB, wB = wc := ⟨wc, rfl⟩
    subst hwB
    have HX := hide hbx
    obtain ⟨y0, y1, y2, y3, y4, y34⟩ := HBOX.out wB hbx
    clear hbx z0 z1 z2 z3 z4 z34
    go_upto_region 3 with fail
    have hBB : Below wA.heap.size wA wB.drew := ⟨HX.out.os, HX.out.tape, HX.out.output, HX.out.size, HX.out.block⟩
    go_region_held3 (fun w' => w'.cell? ⟨w.heap.size, 0, none⟩ = some (.int .i64 1) ∧ w'.cell? ⟨w.heap.size, 1, none⟩ = some (.int .i64 f) ∧ w'.cell? ⟨w.heap.size, 2, none⟩ = some (.int .i64 n) ∧ w'.cell? ⟨w.heap.size, 3, none⟩ = some (.slice sv 0 cb) ∧ w'.cell? ⟨w.heap.size, 4, none⟩ = some (.slice sv 0 cb)) (go_keep)
      (first
        | (go_at_call 83; refine (HHB.out _ _ (by first | exact Or.inl rfl | exact Or.inr rfl)).mono ?_; rintro e w1 ⟨rfl, hb1⟩; first | (have hB1 : Below wA.heap.size wA w1 := below_step hBB hb1; obtain ⟨x0, x1, x2, x3, x4, x34⟩ := HBOX.out w1 hB1; clear hb1) | (have hB2 : Below wA.heap.size wA w1 := below_step hB1 hb1; obtain ⟨v0, v1, v2, v3, v4, v34⟩ := HBOX.out w1 hB2; clear hb1))
        | (go_at_call 82; refine (HCP.out _ hB2).mono ?_; rintro e w3 ⟨rfl, hx3, hc3⟩; have hltb2 := Nat.lt_of_lt_of_le hltb hB2.size; have r0 : w3.cell? ⟨w.heap.size, 0, none⟩ = some (.int .i64 1) := (by rw [hc3.cell (p := ⟨w.heap.size, 0, none⟩) hltb2 HNF.out]; exact v0); have r1 : w3.cell? ⟨w.heap.size, 1, none⟩ = some (.int .i64 f) := (by rw [hc3.cell (p := ⟨w.heap.size, 1, none⟩) hltb2 HNF.out]; exact v1); have r2 : w3.cell? ⟨w.heap.size, 2, none⟩ = some (.int .i64 n) := (by rw [hc3.cell (p := ⟨w.heap.size, 2, none⟩) hltb2 HNF.out]; exact v2); have r3 : w3.cell? ⟨w.heap.size, 3, none⟩ = some (.slice sv 0 cb) := (by rw [hc3.cell (p := ⟨w.heap.size, 3, none⟩) hltb2 HNF.out]; exact v3); have r4 : w3.cell? ⟨w.heap.size, 4, none⟩ = some (.slice sv 0 cb) := (by rw [hc3.cell (p := ⟨w.heap.size, 4, none⟩) hltb2 HNF.out]; exact v4); have HX3 := hide hx3; clear hx3 hc3))
    all_goals (go_wp2; exact bodyPost_end (results_none rfl _ _ _) rfl ⟨rfl, HX3.out⟩)
end Go.Proofs.YtiphkngfbpdeoaaGreatDoor
namespace Go.Proofs.YtiphkngfbpdeoaaGreatDoor
set_option linter.unusedVariables false
set_option linter.unusedSimpArgs false
open Go.RowKit
def StM.kept (s : StM) (n k : Nat) (v : Value) (b : Bool) : StM := { s with receive := s.receive - n, owed := s.owed + k, unread := v, hasAll := b }
structure KeptS (w w' : World) (eb sb : Nat) (m : EndM) (s : StM) (u c : List UInt8) (n k : Nat) (b : Bool) (v : Value) : Prop where
  en : EnB w' eb (m.owes k)
  st : StB w' sb (s.kept n k v b)
  row : w'.ownsRow 0 5 1 v (u ++ c).length ((u ++ c).map B)
  chg : Chg (fun j => j = eb ∨ j = sb ∨ s.unread.ownBlock = some j) w w'
  fresh : ∀ j, v.ownBlock = some j → s.unread.ownBlock = some j ∨ w.heap.size ≤ j
set_option maxRecDepth 100000 in
set_option maxHeartbeats 3200000 in
theorem keep_any (eb sb : Nat) (m : EndM) (st : StM) (u c : List UInt8) (kf ff sf : Int) (sv : Option Addr) (n k cb : Nat) (sc : Option Addr) (cc : Nat) (w : World) (h : EnB w eb m) (hs : StB w sb st) (hu : w.ownsRow 0 5 1 st.unread u.length (u.map B)) (hc : BytesIn w (.slice sc c.length cc) c) (hcn : ∀ j, (Value.slice sc c.length cc).ownBlock = some j → j ≠ eb ∧ j ≠ sb) (hn : n = c.length + k) (hff : 0 ≤ ff ∧ ff ≤ 255) (hcl : ({ st with hasAll := hasB ff 1 } : StM).closed = false) (hul : u.length ≤ 1073741824) (hcu : c.length ≤ 1073741824) (hk : k ≤ 1073741824)
    (b1 : -1152921504606846976 ≤ m.owed ∧ m.owed ≤ 1152921504606846976) (b2 : -1152921504606846976 ≤ st.owed ∧ st.owed ≤ 1152921504606846976) (b3 : -1152921504606846976 ≤ st.receive ∧ st.receive ≤ 1152921504606846976) :
    Calls Tryz.prog 121 #[.pointer (some ⟨eb, 0, none⟩), .pointer (some ⟨sb, 0, none⟩), .agg #[.int .i64 kf, .int .i64 ff, .int .i64 sf, .slice sv n cb, .slice sc c.length cc]] w fun e w' => e = .returned (.tuple #[]) ∧ ∃ v, KeptS w w' eb sb m st u c n k (hasB ff 1) v := by
  obtain ⟨i0, hi, hz0, hz1, hz2⟩ := info_parts Tryz.info5
  obtain ⟨su, cu, hsu⟩ := slice_len hu
  have hlt := h.lt
  have hslt := hs.lt
  have hne : sb ≠ eb := block_ne hs.blk h.blk (by decide)
  have c6 := h.c6
  have s1 := hs.c1
  have s2 := hs.c2
  have s11 := hs.c11
  rw [hsu] at s11
  have f6 := h.fr 6
  have g1 := hs.fr 1
  have g2 := hs.fr 2
  obtain ⟨b1a, b1b⟩ := b1
  obtain ⟨b2a, b2b⟩ := b2
  obtain ⟨b3a, b3b⟩ := b3
  have hw1 : IntKind.i64.wrap (st.receive - (n : Int)) = st.receive - n := by rw [IntKind.wrap_i64]; omega
  have hw2 : IntKind.i64.wrap (st.owed + (k : Int)) = st.owed + k := by rw [IntKind.wrap_i64]; omega
  have hw3 : IntKind.i64.wrap (m.owed + (k : Int)) = m.owed + k := by rw [IntKind.wrap_i64]; omega
  have hwn : IntKind.i64.wrap ((n : Int) - (c.length : Int)) = (k : Int) := by rw [IntKind.wrap_i64]; omega
  have hnI : (n : Int) ≤ 4294967296 := by omega
  have H := hide h
  have HS := hide hs
  have HU := hide hu
  have HC := hide hc
  have HSU := hide hsu
  have HCN := hide hcn
  have HCL := hide hcl
  clear h hs hu hc hn hcn hcl hsu
  go_enter Tryz.func121, Tryz.ntmps121
  go_upto_region 2 with fail
  go_cut [] (fun wx => StB wx sb { st with receive := st.receive - n } ∧ Chg (fun j => j = sb) w wx ∧ wx.heap[w.heap.size]? = some (.cells #[.int .i64 kf, .int .i64 ff, .int .i64 sf, .slice sv n cb, .slice sc c.length cc] 155 (0, 0)))
  case first =>
    go_region_law (fail)
    all_goals (go_wp2_with fail; go_meet)
    all_goals
      have q : StB (w.setCell ⟨sb, 1, none⟩ (.int .i64 (st.receive - n))) sb { st with receive := st.receive - n } := StB.of (blk_set HS.out.blk) rfl
      have hsz : (w.setCell ⟨sb, 1, none⟩ (.int .i64 (st.receive - n))).heap.size = w.heap.size := by simp [World.setCell]
      have hnew := heap_alloc_new (w.setCell ⟨sb, 1, none⟩ (.int .i64 (st.receive - n))) (.cells #[.int .i64 kf, .int .i64 ff, .int .i64 sf, .slice sv n cb, .slice sc c.length cc] 155)
      rw [hsz] at hnew
      exact ⟨⟨(q.below ((Below.refl _ _).alloc (Nat.le_refl _) _)).blk⟩, ((chg_set (S := fun j => j = sb) (Chg.refl _ _) rfl).alloc _).drew, hnew⟩
  case rest =>
    obtain ⟨hs4, hc4, hb4⟩ := hcut
    obtain ⟨w4, hw4⟩ : ∃ w4, w4 = wc := ⟨wc, rfl⟩
    subst hw4
    have he4 : EnB w4 eb m := H.out.chg hc4 (fun e => hne e.symm)
    have hu4 : w4.ownsRow 0 5 1 st.unread u.length (u.map B) := owns_chg HU.out hc4 (fun j hj e => by rw [e] at hj; exact owns_ne HU.out HS.out.blk (by decide) hj)
    have d2 : w4.cell? ⟨sb, 2, none⟩ = some (.int .i64 st.owed) := hs4.c2
    have d6 : w4.cell? ⟨eb, 6, none⟩ = some (.int .i64 m.owed) := he4.c6
    have e2 := hs4.fr 2
    have e6 := he4.fr 6
    have hlt4 : eb < w4.heap.size := he4.lt
    have hslt4 : sb < w4.heap.size := hs4.lt
    have HS4 := hide hs4
    have HC4 := hide hc4
    have HB4 := hide hb4
    have HE4 := hide he4
    have HU4 := hide hu4
    clear hs4 hc4 hb4 he4 hu4
    go_upto_region 5 with fail
    obtain ⟨w5, hw5⟩ : ∃ w5, w5 = (w4.setCell ⟨sb, 2, none⟩ (.int .i64 (st.owed + k))).setCell ⟨eb, 6, none⟩ (.int .i64 (m.owed + k)) := ⟨_, rfl⟩
    rw [← hw5]
    have hc45 : Chg (fun j => j = eb ∨ j = sb) w4 w5 := by rw [hw5]; exact chg_set (chg_set (Chg.refl _ _) (Or.inr rfl)) (Or.inl rfl)
    have hs5 : StB w5 sb { st with receive := st.receive - n, owed := st.owed + k } := by
      rw [hw5]
      exact (StB.of (blk_set HS4.out.blk) rfl : StB (w4.setCell ⟨sb, 2, none⟩ (.int .i64 (st.owed + k))) sb { st with receive := st.receive - n, owed := st.owed + k }).chg (chg_set (S := fun j => j = eb) (Chg.refl _ _) rfl) hne
    have he5 : EnB w5 eb (m.owes k) := by
      rw [hw5]
      exact EnB.of (blk_set (HE4.out.chg (chg_set (S := fun j => j = sb) (Chg.refl _ _) rfl) (fun e => hne e.symm)).blk) rfl
    have hc5 : Chg (fun j => j = eb ∨ j = sb) w w5 := (HC4.out.mono fun j _ e => Or.inr e).trans (hc45.mono fun j _ e => Or.inr e)
    have hu5 : w5.ownsRow 0 5 1 st.unread u.length (u.map B) := owns_chg HU.out hc5 (fun j hj e => by
      rcases e with e | e
      · rw [e] at hj; exact owns_ne HU.out H.out.blk (by decide) hj
      · rw [e] at hj; exact owns_ne HU.out HS.out.blk (by decide) hj)
    have hby5 : BytesIn w5 (.slice sc c.length cc) c := HC.out.chg hc5 (fun j hj e => by
      rcases e with e | e
      · exact (HCN.out j hj).1 e
      · exact (HCN.out j hj).2 e)
    have hb5 : w5.heap[w.heap.size]? = some (.cells #[.int .i64 kf, .int .i64 ff, .int .i64 sf, .slice sv n cb, .slice sc c.length cc] 155 (0, 0)) := by
      rw [hc45.block w.heap.size (lt_of_block HB4.out) (by omega)]
      exact HB4.out
    have k11 : w5.cell? ⟨sb, 11, none⟩ = some (.slice su u.length cu) := by rw [hs5.c11, ← HSU.out]
    have k4 : w5.cell? ⟨w.heap.size, 4, none⟩ = some (.slice sc c.length cc) := by rw [cell_of_row _ _ _ _ _ _ hb5]; rfl
    have hlt5 : eb < w5.heap.size := he5.lt
    have hslt5 : sb < w5.heap.size := hs5.lt
    have HS5 := hide hs5
    have HE5 := hide he5
    have HC5 := hide hc5
    have HU5 := hide hu5
    have HY5 := hide hby5
    have HB5 := hide hb5
    have HUD : Hid (w5.drew.ownsRow 0 5 1 st.unread u.length (u.map B)) := hu5
    have HSD : Hid (w5.drew.heap[sb]? = some (.cells ({ st with receive := st.receive - n, owed := st.owed + k } : StM).cells 121 (0, 0))) := hs5.blk
    clear hs5 he5 hc5 hu5 hby5 hb5 hc45 hw5 d2 d6 e2 e6
    go_cut [] (fun wx => ∃ v, StB wx sb { st with receive := st.receive - n, owed := st.owed + k, unread := v } ∧ EnB wx eb (m.owes k) ∧ wx.ownsRow 0 5 1 v (u ++ c).length ((u ++ c).map B) ∧ Chg (fun j => j = sb ∨ st.unread.ownBlock = some j) w5 wx ∧ (∀ j, v.ownBlock = some j → st.unread.ownBlock = some j ∨ w.heap.size ≤ j) ∧ wx.heap[w.heap.size]? = some (.cells #[.int .i64 kf, .int .i64 ff, .int .i64 sf, .slice sv n cb, .slice sc c.length cc] 155 (0, 0)))
    case first =>
      go_region_law (first
        | (refine step_appd rfl (.tmp 54) (.tmp 56) 38 rfl 5 i0 (.int .u8 0) 1 1 Tryz.underlying38 hi hz0 hz1 hz2 rfl (by decide) (.slice su u.length cu) u.length (u.map B) (by simp [Act.eval, Act.put]) (by rw [← HSU.out]; exact HU5.out) _ c.length (c.map B) (by simp [Act.eval, Act.put]) (by simp) (lies_of_bytesIn HY5.out) (by intro x hx; obtain ⟨y, -, rfl⟩ := List.mem_map.1 hx; rfl) (by unfold maxLen; omega) (by omega) ?_; intro v3 w3 ho3 hg3 hfr3; obtain ⟨s3, q3, hv3⟩ := slice_len ho3; subst hv3; have hb3 := kept_block HUD.out (by rw [HSU.out]; exact hg3) HSD.out (by decide); have k11c : w3.cell? ⟨sb, 11, none⟩ = some (.slice su u.length cu) := (by rw [cell_of_row w3 sb _ _ _ _ hb3, ← HSU.out]; rfl); have f11c : w3.frozen? ⟨sb, 11, none⟩ = false := (by simp [World.frozen?, hb3]); have HO3 := hide ho3; have HG3 := hide hg3; have HF3 := hide hfr3; have HBB3 := hide hb3; clear ho3 hg3 hfr3 hb3))
      all_goals (go_wp2_with fail; go_meet)
      all_goals
        have hg5 : Chg (fun j => st.unread.ownBlock = some j) w5 w3 := by
          have q : Chg (fun j => st.unread.ownBlock = some j) w5.drew w3 := Chg.of_grown HG3.out (fun j hj => by rw [HSU.out]; exact hj)
          exact ⟨q.os, q.tape, q.output, q.size, q.block⟩
        have hen3 : EnB w3 eb (m.owes k) := HE5.out.chg hg5 (fun e => owns_ne HU5.out HE5.out.blk (by decide) e)
        have hst3 : StB w3 sb { st with receive := st.receive - n, owed := st.owed + k } := ⟨HBB3.out⟩
        have hset : Chg (fun j => j = sb) w3 (w3.setCell ⟨sb, 11, none⟩ (.slice s3 (u.length + c.length) q3)) := chg_set (Chg.refl _ _) rfl
        refine ⟨.slice s3 (u.length + c.length) q3, StB.of (blk_set hst3.blk) rfl, hen3.chg hset (fun e => hne e.symm), ?_, (hg5.mono fun j _ e => Or.inr e).trans (hset.mono fun j _ e => Or.inr (Or.inl e)), ?_, ?_⟩
        · rw [List.length_append, List.map_append]
          exact owns_chg HO3.out hset (fun j hj e => by rw [e] at hj; exact owns_ne HO3.out HBB3.out (by decide) hj)
        · intro j hj
          have hz := HC5.out.size
          rcases HF3.out with e | e
          · rw [e] at hj; exact Or.inl (by rw [HSU.out]; exact hj)
          · rw [e] at hj; simp at hj; exact Or.inr (by omega)
        · rw [hset.block w.heap.size (by have := hg5.size; have := lt_of_block HB5.out; omega) (by omega), hg5.block w.heap.size (lt_of_block HB5.out) (fun e => owns_ne HU5.out HB5.out (by decide) e)]
          exact HB5.out
    case rest =>
      obtain ⟨v, hs6, he6, hr6, hc6, hf6, hb6⟩ := hcut
      obtain ⟨w6, hw6⟩ : ∃ w6, w6 = wc := ⟨wc, rfl⟩
      subst hw6
      have k0 : w6.cell? ⟨w.heap.size, 0, none⟩ = some (.int .i64 kf) := by rw [cell_of_row _ _ _ _ _ _ hb6]; rfl
      have k1 : w6.cell? ⟨w.heap.size, 1, none⟩ = some (.int .i64 ff) := by rw [cell_of_row _ _ _ _ _ _ hb6]; rfl
      have k2 : w6.cell? ⟨w.heap.size, 2, none⟩ = some (.int .i64 sf) := by rw [cell_of_row _ _ _ _ _ _ hb6]; rfl
      have k3 : w6.cell? ⟨w.heap.size, 3, none⟩ = some (.slice sv n cb) := by rw [cell_of_row _ _ _ _ _ _ hb6]; rfl
      have HH := hide (has_any kf ff sf 1 (.slice sv n cb) w6 hff.1 (by omega) (Or.inl rfl))
      have HS6 := hide hs6
      have HE6 := hide he6
      have HR6 := hide hr6
      have HC6 := hide hc6
      have HF6 := hide hf6
      clear hs6 he6 hr6 hc6 hf6 hb6
      go_wp2_with fail
      refine HH.out.mono ?_
      rintro e w7 ⟨rfl, hb7⟩
      have hs7 := HS6.out.below hb7
      have k9 := hs7.c9
      have f9 := hs7.fr 9
      have hset : Chg (fun j => j = sb) w7 (w7.setCell ⟨sb, 9, none⟩ (.bool (hasB ff 1))) := chg_set (Chg.refl _ _) rfl
      have hs8 : StB (w7.setCell ⟨sb, 9, none⟩ (.bool (hasB ff 1))) sb (st.kept n k v (hasB ff 1)) := StB.of (blk_set hs7.blk) rfl
      have HSE := hide (settle_no eb sb (st.kept n k v (hasB ff 1)) _ hs8 (by have := HCL.out; exact this))
      have he8 := (HE6.out.below hb7).chg hset (fun e => hne e.symm)
      have hr8 := owns_chg (owns_chg HR6.out (Chg.of_below (S := fun _ => False) hb7) (fun _ _ => id)) hset (fun j hj e => by rw [e] at hj; exact owns_ne HR6.out HS6.out.blk (by decide) hj)
      have hc8 : Chg (fun j => j = eb ∨ j = sb ∨ st.unread.ownBlock = some j) w (w7.setCell ⟨sb, 9, none⟩ (.bool (hasB ff 1))) := (((HC5.out.mono fun j _ e => by
          rcases e with e | e
          · exact Or.inl e
          · exact Or.inr (Or.inl e)).trans (HC6.out.mono fun j _ e => Or.inr (Or.inr e))).then_below hb7).trans (hset.mono fun j _ e => Or.inr (Or.inr (Or.inl e)))
      have HS8 := hide hs8
      have HE8 := hide he8
      have HR8 := hide hr8
      have HC8 := hide hc8
      clear hs7 hset hs8 he8 hr8 hc8 hb7
      generalize hhb : hasB ff 1 = hb at *
      have HHB := hide hhb
      clear hhb
      go_wp2_with fail
      refine HSE.out.mono ?_
      rintro e w9 ⟨rfl, hb9⟩
      have HB9 := hide hb9
      clear hb9
      go_wp2
      have hhb := HHB.out
      subst hhb
      exact bodyPost_end (results_none rfl _ _ _) rfl ⟨rfl, v, ⟨HE8.out.below HB9.out, HS8.out.below HB9.out, owns_chg HR8.out (Chg.of_below (S := fun _ => False) HB9.out) (fun _ _ => id), HC8.out.then_below HB9.out, HF6.out⟩⟩
end Go.Proofs.YtiphkngfbpdeoaaGreatDoor
