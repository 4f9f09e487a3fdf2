import Derived.Test.YtpmmpbklpclnhaaDoorBkPairT
set_option linter.unusedVariables false
set_option linter.unusedSimpArgs false
/-
  Package blocks: Unpacker's takeLimit, where there is a limit.
-/
namespace Go.Proofs.YtpmmpbklpclnhaaDoor
set_option linter.unusedVariables false
set_option linter.unusedSimpArgs false
open Go.RowKit

theorem SrS.drew {w : World} {sb : Nat} {rv : Value} {l : List UInt8} (h : SrS w sb rv l) : SrS w.drew sb rv l := h.chg ((Chg.refl (fun _ => False) _).drew) id (fun _ _ => id)

set_option maxRecDepth 100000 in
set_option maxHeartbeats 800000 in
theorem takeLimit_ok (ub : Nat) (cs : Array Value) (tP : TypeId) (lim : Nat) (tv : Value) (tab : List HP) (most : Nat) (sb : Nat) (rv : Value) (c : UInt8) (r : List UInt8) (n : Nat) (q : List UInt8) (w : World) (hgl : Gl w) (ht : TbS w ub cs tP lim tv tab) (hm : cs[3]? = some (.int .i64 (most : Int))) (hs : SrS w sb rv (c :: r)) (ha : Apart ub sb tv rv) (hl : (c :: r).length ≤ 134217728) (hsb : 7 ≤ sb)
    (hcnt : rdCnt 5 c r = some (n, q)) (hn : n ≤ most) (hmo : most ≤ 256) :
    Calls Tryd.prog 33 #[.pointer (some ⟨ub, 0, none⟩), .pointer (some ⟨sb, 0, none⟩)] w fun e w' => e = .returned (.tuple #[]) ∧ ∃ cs' tv' rv', UnTo w w' ub cs cs' tP n tv tv' (shr tab n) sb rv rv' q := by
  simp only [List.length_cons] at hl
  have htk := stake_ok sb rv c r _ hs.drew (by simp only [List.length_cons]; omega)
  have HCN : Hid (∀ rv' wx, SrS wx sb rv' r → Calls Tryd.prog 45 #[.pointer (some ⟨sb, 0, none⟩), .int .u8 c.toNat, fm 32 5] wx fun e w' => ∃ rv'', e = .returned (.int .i64 (n : Int)) ∧ SrTo wx w' sb rv' rv'' q) := fun rv' wx hh => by
    refine (takeCount_any sb rv' r c 32 5 wx hh (by decide) (by omega)).mono ?_
    rintro e w' (⟨N, r', rv'', e1, _, e2, e3⟩ | ⟨e1, _⟩)
    · rw [hcnt] at e1
      simp only [Option.some.injEq, Prod.mk.injEq] at e1
      rw [e1.1, e1.2]
      exact ⟨rv'', e2, e3⟩
    · rw [hcnt] at e1; cases e1
  have HRS := hide (fun wx hh => tresize_any ub cs tP lim tv tab n wx hh (by omega))
  obtain ⟨g0, g1⟩ := hgl.lim
  have HTK := hide htk
  have HG := hide hgl
  have HT := hide ht
  have HA := hide ha
  have HM := hide hm
  have hd : decide ((most : Int) < (n : Int)) = false := by simp; omega
  clear htk hgl ht hs ha hcnt hm
  have hc8 : c.toNat ≤ 255 := Nat.le_of_lt_succ c.toNat_lt
  generalize c.toNat = x at *
  go_enter Tryd.func33, Tryd.ntmps33
  go_wp2
  go_cut [4] (fun s4 wx => s4 = .int .i64 (n : Int) ∧ ∃ rv2, SrTo w wx sb rv rv2 q)
  case first =>
    go_region_law (first
      | (refine step_call rfl 46 Tryd.f46 Tryd.func46 (by kernel_rfl) rfl [.tmp 6] #[76] rfl [.pointer (some ⟨sb, 0, none⟩)] (by simp [Act.eval, Act.put]) HTK.out ?_; rintro e w1 ⟨rv1, rfl, hs1⟩; refine ⟨_, rfl, ?_⟩; obtain ⟨g2, g3⟩ := (HG.out.sr (w' := w1) ⟨hs1.chg.os, hs1.chg.tape, hs1.chg.output, hs1.chg.size, hs1.chg.block⟩ hsb).lim; have HS1 := hide hs1; clear hs1)
      | (refine step_call rfl 45 Tryd.f45 Tryd.func45 (by kernel_rfl) rfl [.tmp 5, .tmp 7, .tmp 8] #[76, 5, 69] rfl [.pointer (some ⟨sb, 0, none⟩), .int .u8 (x : Int), fm 32 5] (by simp [Act.eval, Act.put, fm]) (HCN.out rv1 w1 HS1.out.st) ?_; rintro e w2 ⟨rv2, rfl, hs2⟩; refine ⟨_, rfl, ?_⟩; have HS2 := hide (HS1.out.trans hs2); clear hs2))
    all_goals (go_wp2_with fail; go_meet; exact ⟨rfl, rv2, HS2.out.st, ⟨HS2.out.chg.os, HS2.out.chg.tape, HS2.out.chg.output, HS2.out.chg.size, HS2.out.chg.block⟩, HS2.out.own⟩)
  case rest =>
    obtain ⟨rfl, rv2, hs2⟩ := hcut
    have hu2 := hs2.un HT.out HA.out
    have c3 : wc.cell? ⟨ub, 3, none⟩ = some (.int .i64 (most : Int)) := by rw [cell_of_row _ _ _ _ _ _ hu2.st.tb.blk]; exact HM.out
    have hrs := HRS.out wc hu2.st
    have HR := hide hrs
    have HU := hide hu2
    clear hs2 hu2 hrs g0 g1
    go_wp2_with fail
    refine HR.out.mono ?_
    rintro e w3 ⟨rfl, cs3, tv3, h3⟩
    have H3 := hide (HU.out.turn h3 ⟨HA.out.us, HA.out.ts, fun e => HA.out.ru (HU.out.own _ e), fun j hj => HA.out.rt j (HU.out.own j hj)⟩)
    clear h3
    go_wp2
    exact bodyPost_end (results_none rfl _ _ _) rfl ⟨rfl, cs3, tv3, rv2, H3.out⟩
end Go.Proofs.YtpmmpbklpclnhaaDoor
