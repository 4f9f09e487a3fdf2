/-
  sluicelaw.sameFrames.
-/
import Derived.Test.YtckeblkadiehbaaGreatRefFeed
namespace Go.Proofs.YtckeblkadiehbaaGreat
open Go.RowKit

set_option maxRecDepth 100000 in
set_option maxHeartbeats 6400000 in
theorem sameFrames_true (va vb : Value) (ps qs : List (Fr × Value)) (w : World) (ha : FrsR w va ps) (hb : FrsR w vb qs) (he : ps.map Prod.fst = qs.map Prod.fst) (hn : ps.length ≤ 4294967296) :
    Calls Tryz.prog 31 #[va, vb] w fun e w' => e = .returned (.bool true) ∧ Below w.heap.size w w' := by
  have hlen : ps.length = qs.length := by have := congrArg List.length he; simpa using this
  obtain ⟨sa, ca, rfl⟩ := ha.form
  obtain ⟨sb, cb, rfl⟩ := hb.form
  have HA := hide ha
  have HB := hide hb
  have HE := hide he
  rw [← hlen]
  have HLEN := hide hlen
  clear ha hb he hlen
  go_enter Tryz.func31, Tryz.ntmps31
  go_wp2
  go_loopw [5] (fun i wr => ∃ k : Nat, k ≤ ps.length ∧ i = .int .i64 k ∧ Below w.heap.size w wr) (fun i _ => ps.length - (intOf i).toNat)
  case atStart => exact ⟨0, Nat.zero_le _, rfl, Below.refl _ _⟩
  case round =>
    obtain ⟨k, hk, rfl, hbel⟩ := hrel
    by_cases hlt : k < ps.length
    · have hkq : k < qs.length := by have := HLEN.out; omega
      obtain ⟨g, off, cv, he, hg, a0, a1, a2, a3⟩ := (HA.out.below hbel).cell k hlt
      obtain ⟨g', off', cv', he', hg', b0, b1, b2, b3⟩ := (HB.out.below hbel).cell k hkq
      simp only [Value.slice.injEq] at he he'
      obtain ⟨rfl, -, rfl⟩ := he
      obtain ⟨rfl, -, rfl⟩ := he'
      have hfst : ps[k].1 = (qs[k]'hkq).1 := by
        have h1 : (ps.map Prod.fst)[k]? = (qs.map Prod.fst)[k]? := by rw [HE.out]
        simpa [hlt, hkq] using h1
      have hba := (HA.out.below hbel).body ps[k] (List.getElem_mem _)
      have hbb := (HB.out.below hbel).body (qs[k]'hkq) (List.getElem_mem _)
      rw [← hfst] at b0 b1 b2 hbb
      generalize ps[k].2 = pv at a3 hba
      generalize (qs[k]'hkq).2 = qv at b3 hbb
      generalize ps[k].1 = f at a0 a1 a2 b0 b1 b2 hba hbb
      obtain ⟨fk, ff, fs, fb⟩ := f
      simp only at a0 a1 a2 b0 b1 b2 hba hbb
      obtain ⟨s1, n1, c1, rfl⟩ : ∃ sa na ca, pv = .slice sa na ca := by rcases hba with ⟨rfl, _⟩ | ⟨_, _, _, rfl, _⟩ <;> exact ⟨_, _, _, rfl⟩
      obtain ⟨s2, n2, c2, rfl⟩ : ∃ sa na ca, qv = .slice sa na ca := by rcases hbb with ⟨rfl, _⟩ | ⟨_, _, _, rfl, _⟩ <;> exact ⟨_, _, _, rfl⟩
      have HBA : Hid (BytesIn wr.drew (.slice s1 n1 c1) fb) := hba.chg ((Chg.refl (fun _ => False) wr).drew) (fun _ _ => id)
      have HBB : Hid (BytesIn wr.drew (.slice s2 n2 c2) fb) := hbb.chg ((Chg.refl (fun _ => False) wr).drew) (fun _ _ => id)
      have HBEL := hide hbel
      clear hba hbb hfst
      go_upto_region 6 with fail
      go_cut [6] (fun s6 wx => s6 = .bool true ∧ wx = wr.drew)
      case first =>
        go_region_held3 (fun w' => w'.cell? ⟨g, off + k * 4 + 3, none⟩ = some (.slice s1 n1 c1) ∧ w'.cell? ⟨g', off' + k * 4 + 3, none⟩ = some (.slice s2 n2 c2)) (go_keep)
          (first | (go_at_call 24; refine (sameBytes_true (.slice s1 n1 c1) (.slice s2 n2 c2) fb _ HBA.out HBB.out).mono ?_; rintro e w' ⟨rfl, rfl⟩))
        all_goals (go_wp2_with fail)
        all_goals (go_meet; exact ⟨rfl, rfl⟩)
      case rest =>
        obtain ⟨rfl, hwx⟩ := hcut
        rw [hwx]
        clear hwx wc a3 b3 HBA HBB
        have hd0 : (fk != fk) = false := by simp
        have hd1 : (ff != ff) = false := by simp
        have hd2 : (fs != fs) = false := by simp
        go_upto_region 7 with fail
        go_cut [69] (fun s69 wx => s69 = .bool false ∧ wx = wr.drew.drew)
        case first =>
          go_region
          all_goals (go_wp2_with fail)
          all_goals (go_meet; exact ⟨rfl, rfl⟩)
        case rest =>
          obtain ⟨rfl, hwx⟩ := hcut
          rw [hwx]
          clear hwx wc
          go_wp2
          go_roundw
          case rel => exact ⟨k + 1, by omega, by go_num, ⟨HBEL.out.os, HBEL.out.tape, HBEL.out.output, HBEL.out.size, HBEL.out.block⟩⟩
          case measure => simp [intOf]; omega
    · go_wp2
      go_ret
      exact ⟨rfl, hbel⟩
end Go.Proofs.YtckeblkadiehbaaGreat
