import Derived.Test.YtlhlmgfblbpdpaaGreatDoorWGaw
import Derived.Test.YtlhlmgfblbpdpaaGreatDoorWGaq
import Derived.Test.YtlhlmgfblbpdpaaGreatDoorWGac
set_option linter.unusedVariables false
set_option linter.unusedSimpArgs false
/-
  Receive: the law's sends.
-/
namespace Go.Proofs.YtlhlmgfblbpdpaaGreatDoor
set_option linter.unusedVariables false
set_option linter.unusedSimpArgs false
open Go.RowKit

theorem strV_app (l : List UInt8) (m : List UInt8) : (⟨l.toArray⟩ : ByteArray) ++ ⟨m.toArray⟩ = ⟨(l ++ m).toArray⟩ := by
  apply ByteArray.ext
  simp
theorem row_new {w : World} {l : List UInt8} (hl : l.length ≤ maxLen) : (w.alloc (.cells (l.map B).toArray 5)).ownsRow w.heap.size 5 1 (.slice (some ⟨w.heap.size, 0, none⟩) l.length l.length) l.length (l.map B) :=
  ⟨by simp, Or.inr ⟨w.heap.size, l.length, (l.map B).toArray, rfl, Nat.le_refl _, heap_alloc_new w _, Nat.le_refl _, hl, by simp, by rw [Nat.mul_one]; exact List.take_of_length_le (by simp)⟩⟩
/-- The body that is sent. -/
def padB (t : List UInt8) (p : Nat) : List UInt8 := if p < 8 then UInt8.ofNat p :: (t ++ List.replicate p 0) else t
def padF (p : Nat) : Int := if p < 8 then 8 else 0
def padK (p : Nat) : Nat := if p < 8 then p + 1 else 0
theorem padB_len (t : List UInt8) (p : Nat) : (padB t p).length = t.length + padK p := by
  unfold padB padK
  split
  · simp; omega
  · simp
/-- There is room for so many bytes. -/
def Fits (d : Dn) (s : Nat → Sn) (j n : Nat) : Prop := n = 0 ∨ ((n : Int) ≤ d.receive ∧ (n : Int) ≤ d.own + (s j).receive)
section
variable {N : Nat} {x : XM} {d : Dn} {s : Nat → Sn}
def sentS (s : Nat → Sn) (j : Nat) (t : List UInt8) (k : Nat) : Nat → Sn := updL s j ⟨(s j).receive - (t.length + k : Nat), (s j).owed + k, (s j).un ++ t⟩
theorem feed_fits (h : Rel N x d s) {j : Nat} (hj : j < 4) {t : List UInt8} {p : Nat} (ht : t.length ≤ 56) (hf : Fits d s j (t.length + padK p)) :
    FeedC (gD x.cf d s []) (lay 0 (padF p) (nr j) (padB t p)) 0 (gD x.cf ((d.got x.cf.k (t.length + padK p)).owes (padK p)) (sentS s j t (padK p)) []) := by
  refine Or.inl ⟨rfl, ?_, rfl⟩
  unfold padF padB padK sentS at *
  by_cases hp : p < 8
  · simp only [hp, if_true] at hf ⊢
    rcases hf with hf | hf
    · omega
    · exact feed_padD h hj hp ht hf
  · simp only [hp, if_false] at hf ⊢
    have := feed_keptD h hj (t := t) (by omega) hf
    have e : ((d.got x.cf.k (t.length + 0)).owes 0) = d.got x.cf.k t.length := by
      unfold Dn.owes
      simp
    rw [e]
    simpa using this
theorem feed_full (h : Rel N x d s) {j : Nat} (hj : j < 4) {t : List UInt8} {p : Nat} (ht : t.length ≤ 56) (hf : ¬ Fits d s j (t.length + padK p)) :
    FeedC (gD x.cf d s []) (lay 0 (padF p) (nr j) (padB t p)) 12 ((gD x.cf d s []).died 12) := by
  have hl := padB_len t p
  unfold Fits at hf
  have h1 : 1 ≤ (padB t p).length := by omega
  refine Or.inr ⟨feed_flowD h hj ?_ h1 ?_, by show 4 ≤ 1048576; omega⟩
  · unfold padF padB
    by_cases hp : p < 8
    · simp only [hp, if_true]
      exact right_pad (nr_le hj).1 (nr_le hj).2 ht hp
    · simp only [hp, if_false]
      exact right_dat (nr_le hj).1 (nr_le hj).2 (by omega)
  · rw [hl]
    omega
end
set_option maxRecDepth 100000 in
set_option maxHeartbeats 40000000 in
theorem ksends_X (xb eb : Nat) (F : Nat → Prop) (x : XM) (d : Dn) (s : Nat → Sn) (N : Nat) (mk ms mn : Int) (S : ByteArray) (j p : Nat) (w : World) (h : In w xb eb F x (gD x.cf d s [])) (hr : Rel N x d s) (hN : N ≤ 9007199254740992) (hms : I64 ms) (hmn : I64 mn) (hj : pkI ms 4 = j) (hp : pkI mn 16 = p) (hj4 : j < 4) (hp16 : p < 16) (hSl : S.size ≤ 1152921504606846976) :
    Calls Tryz.prog 30 #[.pointer (some ⟨xb, 0, none⟩), .agg #[.int .i64 mk, .int .i64 ms, .int .i64 mn, .string S]] w fun e w' => e = .returned (.bool true) ∧
      (Fits d s j ((S.data.toList.take 56).length + padK p) → GoI w w' xb eb F (x.sent j (S.data.toList.take 56) ((S.data.toList.take 56).length + padK p)) (gD x.cf ((d.got x.cf.k ((S.data.toList.take 56).length + padK p)).owes (padK p)) (sentS s j (S.data.toList.take 56) (padK p)) []))
      ∧ (¬ Fits d s j ((S.data.toList.take 56).length + padK p) → GoI w w' xb eb F { x with dead := true } ((gD x.cf d s []).died 12)) := by
  obtain ⟨t, ht⟩ : ∃ t, t = S.data.toList.take 56 := ⟨_, rfl⟩
  rw [← ht]
  have htl : t.length ≤ 56 := by rw [ht, List.length_take]; omega
  obtain ⟨w0, hw0⟩ : ∃ w0, w0 = w.alloc (.cells #[.int .i64 mk, .int .i64 ms, .int .i64 mn, .string S] 49) := ⟨_, rfl⟩
  have hmv : w0.heap[w.heap.size]? = some (.cells #[.int .i64 mk, .int .i64 ms, .int .i64 mn, .string S] 49 (0, 0)) := by rw [hw0]; exact heap_alloc_new w _
  have hb0 : Below w.heap.size w w0 := by rw [hw0]; exact (Below.refl _ _).alloc (Nat.le_refl _) _
  have y1 : w0.cell? ⟨w.heap.size, 1, none⟩ = some (.int .i64 ms) := by rw [cell_of_row _ _ _ _ _ _ hmv]; rfl
  have y2 : w0.cell? ⟨w.heap.size, 2, none⟩ = some (.int .i64 mn) := by rw [cell_of_row _ _ _ _ _ _ hmv]; rfl
  have y3 : w0.cell? ⟨w.heap.size, 3, none⟩ = some (.string S) := by rw [cell_of_row _ _ _ _ _ _ hmv]; rfl
  have hpk1 := fun W => kpick_fun ms 4 W (by omega) hms
  rw [hj] at hpk1
  have hpk2 := fun W => kpick_fun mn 16 W (by omega) hmn
  rw [hp] at hpk2
  have HPK1 := hide hpk1
  have HPK2 := hide hpk2
  have HI := hide h
  have HR := hide hr
  have HMV := hide hmv
  have HB0 := hide hb0
  have HW0 := hide hw0
  have HT := hide ht
  have hSs : S.data.toList.length = S.size := by simp [← ByteArray.size_data]
  obtain ⟨i0, hi, hz0, hz1, hz2⟩ := info_parts Tryz.info5
  clear h hr hmv hb0 hw0 ht hpk1 hpk2 hj hp hms hmn
  go_enter Tryz.func30, Tryz.ntmps30
  go_upto_region 1 with fail
  rw [← HW0.out]
  go_wp2_with fail
  refine (HPK1.out _).mono ?_
  rintro e w' ⟨rfl, hw'⟩
  rw [hw']
  clear hw' w'
  go_upto_if 22 with fail
  go_cut [6] (fun s6 wx => s6 = .string ⟨t.toArray⟩ ∧ wx = w0)
  case first =>
    by_cases h56 : 56 < S.size
    · have hex : S.extract 0 56 = ⟨t.toArray⟩ := by
        apply ByteArray.ext
        rw [HT.out, ByteArray.data_extract]
        apply Array.ext'
        simp
      go_wp2
      go_meet
      exact ⟨rfl, rfl⟩
    · have hex : S = ⟨t.toArray⟩ := by
        apply ByteArray.ext
        rw [HT.out, List.take_of_length_le (by omega)]
      go_wp2
      go_meet
      exact ⟨by rw [hex], rfl⟩
  case rest =>
    obtain ⟨rfl, hw'⟩ := hcut
    rw [hw']
    clear hw'
    obtain ⟨wC, capC, hconv, hbyC, hbC⟩ := conv_str2 w0 t
    have y2C : wC.cell? ⟨w.heap.size, 2, none⟩ = some (.int .i64 mn) := by rw [cell_of_row _ _ _ _ _ _ (kept_told HMV.out hbC)]; rfl
    have HBYC := hide hbyC
    have HBC := hide hbC
    have hw0l : w.heap.size < w0.heap.size := lt_of_block HMV.out
    have htz : (ByteArray.mk t.toArray).size = t.length := by simp [ByteArray.size]
    clear hbyC hbC y1 y3
    go_wp2_with fail
    refine (HPK2.out _).mono ?_
    rintro e w' ⟨rfl, hw'⟩
    rw [hw']
    clear hw' w'
    go_upto_if 31 with fail
    go_cut [7, 8] (fun s7 s8 wx => ∃ sa cap, s7 = .slice sa (padB t p).length cap ∧ s8 = .int .i64 (padF p) ∧ BytesIn wx (.slice sa (padB t p).length cap) (padB t p) ∧ Below w0.heap.size w0 wx)
    case first =>
      by_cases hp8 : p < 8
      · have hpI : (p : Int) < 8 := by omega
        have hpw : IntKind.u8.wrap (p : Int) = (p : Int) := by rw [IntKind.wrap_u8]; omega
        have hpB : B (UInt8.ofNat p) = .int .u8 (p : Int) := by
          unfold B
          rw [show (UInt8.ofNat p).toNat = p from by simp; omega]
        obtain ⟨wA, hwA⟩ : ∃ wA, wA = wC.alloc (.cells #[.int .u8 (p : Int)] 5) := ⟨_, rfl⟩
        have hrA : wA.ownsRow wC.heap.size 5 1 (.slice (some ⟨wC.heap.size, 0, none⟩) 1 1) 1 ([UInt8.ofNat p].map B) := by
          rw [hwA, show (#[.int .u8 (p : Int)] : Array Value) = ([UInt8.ofNat p].map B).toArray from by simp [hpB]]
          exact row_new (l := [UInt8.ofNat p]) (by simp [maxLen])
        have hbA : Below w0.heap.size w0 wA := by rw [hwA]; exact HBC.out.alloc HBC.out.size _
        obtain ⟨M, hM⟩ : ∃ M, M = madeCells (Value.int .u8 0).cells (((p : Nat) : Int).toNat * i0.size) := ⟨_, rfl⟩
        have hmk : ∀ W : World, (Instr.makeSlice 43 (.int .i64 (p : Int)) (.int .i64 (p : Int))).run Tryz.prog W = .ok (.slice (some ⟨W.heap.size, 0, none⟩) p p) (W.alloc (.cells M 5)) := fun W => by
          have h := run_make (P := Tryz.prog) W 43 5 i0 (.int .u8 0) Tryz.underlying43 hi hz0 .i64 .i64 (p : Int) (p : Int) (by omega) (by omega) (by rw [hz2]; omega) (by omega)
          rw [← hM] at h
          simpa using h
        have hMl : M = ((List.replicate p (0 : UInt8)).map B).toArray := by
          rw [hM, hz1]
          apply Array.ext
          · rw [size_madeCells]; simp
          · intro j h1 h2
            simp [madeCells, B, Value.cells, Nat.mod_one]
        have HRA := hide hrA
        have HBA := hide hbA
        have HWA := hide hwA
        have HML := hide hMl
        clear hrA hbA hwA hMl hM hpB
        go_upto_region 11 with fail
        rw [← HWA.out]
        go_wp2_with (at_builtin; refine wpList_app_str _ rfl (.tmp 35) (.tmp 36) 43 9 rfl 5 i0 Tryz.underlying43 Tryz.underlying9 hi hz0 hz1 hz2 _ _ _ rfl (owns_base HRA.out (fun _ _ => Nat.zero_le _)) ⟨t.toArray⟩ rfl ?c3 ?c4 ?_)
        case c3 => rw [htz]; simp [maxLen]; omega
        case c4 => rw [htz]; omega
        intro v1 w1 hown1 hg1 hfr1
        rw [strCells_eq] at hown1
        obtain ⟨s1, c1, hv1⟩ := slice_len hown1
        subst hv1
        have hb1 : Below w0.heap.size w0 w1 := below_of_chg HBA.out (Chg.of_grown (S := fun j => j = wC.heap.size) hg1 (fun k hk => by simp [Value.ownBlock] at hk; exact hk.symm)) (fun j hj => by have := HBC.out.size; omega)
        obtain ⟨wM, hwM⟩ : ∃ wM, wM = w1.alloc (.cells M 5) := ⟨_, rfl⟩
        have hrM : wM.ownsRow w1.heap.size 5 1 (.slice (some ⟨w1.heap.size, 0, none⟩) p p) p ((List.replicate p (0 : UInt8)).map B) := by
          rw [hwM, HML.out]
          have := row_new (w := w1) (l := List.replicate p (0 : UInt8)) (by simp [maxLen]; omega)
          rw [List.length_replicate] at this
          exact this
        have hown2 : wM.ownsRow 0 5 1 (.slice s1 (1 + t.length) c1) (1 + t.length) ([UInt8.ofNat p].map B ++ t.map B) := by rw [hwM]; exact hown1.alloc _
        have hbM : Below w0.heap.size w0 wM := by rw [hwM]; exact hb1.alloc hb1.size _
        have HB1X : Hid (∀ j, (Value.slice s1 (1 + t.length) c1).ownBlock = some j → w0.heap.size ≤ j) := fun j hj => by
          have hC := HBC.out.size
          have hA := HBA.out.size
          rcases hfr1 with e | e
          · rw [e] at hj; simp [Value.ownBlock] at hj; omega
          · rw [e] at hj; simp at hj; omega
        have HRM := hide hrM
        have HO2 := hide hown2
        have HBM := hide hbM
        have HWM := hide hwM
        clear hown1 hg1 hfr1 hb1 hrM hown2 hbM hwM
        go_upto_region 13 with fail
        rw [← HWM.out]
        go_wp2_with (at_builtin; refine wpList_app _ rfl (.tmp 40) (.tmp 41) 43 rfl 5 i0 (.int .u8 0) 1 1 Tryz.underlying43 hi hz0 hz1 hz2 rfl (by decide) _ _ _ rfl HO2.out _ p ((List.replicate p (0 : UInt8)).map B) rfl (by simp) (by have := lies_of_owns (l := List.replicate p (0 : UInt8)) (by rw [List.length_replicate]; exact HRM.out); rw [List.length_replicate] at this; exact this) ?c1 ?c2 ?c3 ?_)
        case c1 => intro u hu; obtain ⟨y, -, rfl⟩ := List.mem_map.1 hu; rfl
        case c2 => simp [maxLen]; omega
        case c3 => omega
        intro v2 w2 hown2 hg2 hfr2
        obtain ⟨s2, c2, hv2⟩ := slice_len hown2
        subst hv2
        have hpl : (padB t p).length = 1 + t.length + p := by rw [padB_len]; unfold padK; rw [if_pos hp8]; omega
        have hlist : [UInt8.ofNat p].map B ++ t.map B ++ (List.replicate p (0 : UInt8)).map B = (padB t p).map B := by unfold padB; rw [if_pos hp8]; simp
        have HBY2 : Hid (BytesIn w2 (.slice s2 (padB t p).length c2) (padB t p)) := by
          have hx : w2.ownsRow 0 5 1 (.slice s2 (1 + t.length + p) c2) (1 + t.length + p) ((padB t p).map B) := by rw [← hlist]; simpa using hown2
          have := bytesIn_of_owns hx hpl.symm
          rw [hpl]
          exact this
        have HPL := hide hpl
        have HFL : Hid (padF p = 8) := by show padF p = 8; unfold padF; rw [if_pos hp8]
        have hb2 : Below w0.heap.size w0 w2 := below_of_chg (S := fun j => (Value.slice s1 (1 + t.length) c1).ownBlock = some j) HBM.out (Chg.of_grown hg2 (fun k hk => hk)) (fun j hj => by
          have h1 := HB1X.out j hj
          omega)
        have HB2 := hide hb2
        clear hown2 hg2 hfr2 hpl hlist hb2
        go_wp2
        go_meet
        exact ⟨s2, c2, by rw [HPL.out], by rw [HFL.out], HBY2.out, HB2.out⟩
      · have hpI : ¬ (p : Int) < 8 := by omega
        have e1 : padB t p = t := by unfold padB; rw [if_neg hp8]
        have e2 : padF p = 0 := by unfold padF; rw [if_neg hp8]
        go_wp2
        go_meet
        rw [e1, e2]
        exact ⟨_, _, rfl, rfl, HBYC.out, HBC.out⟩
    case rest =>
      obtain ⟨sa, cap, hs7, hs8, hbyP, hbP⟩ := hcut
      subst hs7
      subst hs8
      obtain ⟨w3, hw3⟩ : ∃ w3, w3 = wc := ⟨wc, rfl⟩
      rw [← hw3] at hbyP hbP ⊢
      clear hw3 hconv y2C y2
      have hb3 : Below w.heap.size w w3 := HB0.out.trans (hbP.mono HB0.out.size)
      have hin3 := HI.out.below hb3
      obtain ⟨pv, k1, k2, k3⟩ := hin3.xi
      have HRM := hide (kroom_X xb _ pv x j w3 k1 (HR.out.bd hN) hj4)
      have HXB : Hid (∀ w', Below w3.heap.size w3 w' → Calls Tryz.prog 29 #[.pointer (some ⟨xb, 0, none⟩)] w' fun e w'' => e = .returned (.int .i64 (32 + x.credit - x.bodies)) ∧ Below w'.heap.size w' w'') := fun w' hb => kall_X xb _ pv x w' (k1.below hb) (HR.out.bd hN)
      have hpl := padB_len t p
      have hpk : padK p ≤ 8 := by unfold padK; split <;> omega
      have hpf : padF p = 8 ∨ padF p = 0 := by unfold padF; split <;> simp
      have hrl := HR.out.lns j hj4
      have hrR : d.own + (s j).receive = x.force + (x.ln j).credit - (x.ln j).bodies := by have := HR.out.own; have := hrl.rcv; omega
      have hrA : d.receive = 32 + x.credit - x.bodies := HR.out.rcv
      obtain ⟨C, q, hfc, hcase⟩ : ∃ C q, FeedC (gD x.cf d s []) (lay 0 (padF p) (nr j) (padB t p)) C q ∧ ((Fits d s j (t.length + padK p) ∧ C = 0 ∧ q = gD x.cf ((d.got x.cf.k (t.length + padK p)).owes (padK p)) (sentS s j t (padK p)) []) ∨ (¬ Fits d s j (t.length + padK p) ∧ C = 12 ∧ q = (gD x.cf d s []).died 12)) := by
        by_cases hf : Fits d s j (t.length + padK p)
        · exact ⟨_, _, feed_fits HR.out hj4 htl hf, Or.inl ⟨hf, rfl, rfl⟩⟩
        · exact ⟨_, _, feed_full HR.out hj4 htl hf, Or.inr ⟨hf, rfl, rfl⟩⟩
      have HLY : Hid (∀ w', Below w3.heap.size w3 w' → Calls Tryz.prog 11 #[.int .i64 0, .int .i64 (padF p), .int .i64 (2 * (j : Int) + 1), .slice sa (padB t p).length cap] w' fun e w'' => ∃ v, e = .returned v ∧ Below w'.heap.size w' w'' ∧ ∀ w2, Below w''.heap.size w'' w2 → Calls Tryz.prog 10 #[.pointer (some ⟨eb, 0, none⟩), v] w2 fun e w4 => e = .returned (.int .i64 C) ∧ GoI w3 w4 xb eb F x q) := fun w' hb =>
        klay_X (w1 := w') (sa := sa) (cap := cap) (body := padB t p) hin3 hfc hb (by omega) (by omega) (by omega) (by omega) (by omega) (by omega) (by omega) (hbyP.chg (Chg.of_below (S := fun _ => False) hb) (fun _ _ => id))
      have HCS := hide hcase
      have HPL := hide hpl
      have HB3 := hide hb3
      have HX3 := hide k1
      have HRR := hide hrR
      have HRA := hide hrA
      have hj2 : IntKind.i64.wrap (2 * (j : Int)) = 2 * (j : Int) := by rw [IntKind.wrap_i64]; omega
      have hj3 : IntKind.i64.wrap (2 * (j : Int) + 1) = 2 * (j : Int) + 1 := by rw [IntKind.wrap_i64]; omega
      have HBD := hide (HR.out.bd hN)
      clear hbyP hbP hin3 k1 k2 k3 hb3 hfc hcase hrR hrA hrl hpf hpl
      generalize (padB t p).length = NN at *
      generalize padF p = FL at *
      generalize hRMV : x.force + (x.ln j).credit - (x.ln j).bodies = RM at *
      generalize hALV : 32 + x.credit - x.bodies = AL at *
      clear hRMV hALV
      go_wp2_with fail
      refine HRM.out.mono ?_
      rintro e w4 ⟨rfl, hb4⟩
      have HB4 := hide hb4
      have HA4 := hide (HXB.out w4 hb4)
      clear hb4
      go_wp2_with fail
      refine HA4.out.mono ?_
      rintro e w5 ⟨rfl, hb5⟩
      have hb35 := HB4.out.trans (hb5.mono HB4.out.size)
      have hx5 := HX3.out.below hb35
      have y0 : w5.cell? ⟨xb, 0, none⟩ = some (.pointer (some ⟨eb, 0, none⟩)) := hx5.c0
      have hdr : Below w3.heap.size w3 w5.drew := hb35.drew
      have HL5 := hide (HLY.out w5.drew hdr)
      have HX5 := hide (HX3.out.below hdr)
      clear hb5 hb35 hx5 hdr
      go_upto_region 17 with fail
      go_cut [14] (fun s14 wx => s14 = .int .i64 C ∧ GoI w3 wx xb eb F x q)
      case first =>
        go_region_law (first
          | (refine step_call rfl 11 Tryz.f11 Tryz.func11 (by kernel_rfl) rfl [.const (.int .i64 0), .tmp 54, .tmp 57, .tmp 58] #[3, 3, 3, 43] rfl [.int .i64 0, .int .i64 FL, .int .i64 (2 * (j : Int) + 1), .slice sa NN cap] (by simp [Act.eval, Act.put]) HL5.out ?_; rintro e w6 ⟨v, rfl, hb6, hfd⟩; refine ⟨_, rfl, ?_⟩; have HFD := hide (hfd w6 (Below.refl _ _)); have z0 : w6.cell? ⟨xb, 0, none⟩ = some (.pointer (some ⟨eb, 0, none⟩)) := (HX5.out.below hb6).c0; clear hb6 hfd)
          | (refine step_call rfl 10 Tryz.f10 Tryz.func10 (by kernel_rfl) rfl [.tmp 53, .tmp 59] #[32, 43] rfl [.pointer (some ⟨eb, 0, none⟩), v] (by simp [Act.eval, Act.put]) HFD.out ?_; rintro e w7 ⟨rfl, hgo⟩; refine ⟨_, rfl, ?_⟩; have HGO := hide hgo; clear hgo))
        all_goals (go_wp2_with fail; go_meet; exact ⟨rfl, HGO.out⟩)
      case rest =>
        obtain ⟨hs14, hgo⟩ := hcut
        subst hs14
        obtain ⟨w6, hw6⟩ : ∃ w6, w6 = wc := ⟨wc, rfl⟩
        rw [← hw6] at hgo ⊢
        clear hw6 y0
        obtain ⟨F6, hin6, hch6, hF6⟩ := hgo
        obtain ⟨pv6, x6, p6, f6⟩ := hin6.xi
        have HIN6 := hide hin6
        have HX6 := hide x6
        have HP6 := hide p6
        have HF6 := hide f6
        have HGT : Hid (∀ w9 x9, Chg (fun i => i = xb) w6 w9 → XI w9 xb (.pointer (some ⟨eb, 0, none⟩)) x9 pv6 → x9.pn = x.pn → GoI w w9 xb eb F x9 q) := fun w9 x9 hc hx hp => (GoI.then hch6 hF6 (hin6.write hc hx (by rw [hp]; exact p6) f6)).pre HB3.out
        clear hin6 x6 p6 f6 hch6 hF6
        rcases HCS.out with ⟨hfi, hC, hq⟩ | ⟨hfi, hC, hq⟩
        · subst hC
          have HSE : Hid (∀ w9, Chg (fun i => i = xb) w6 w9 → XI w9 xb (.pointer (some ⟨eb, 0, none⟩)) (x.sent j t (t.length + padK p)) pv6 → GoI w w9 xb eb F (x.sent j t (t.length + padK p)) (gD x.cf ((d.got x.cf.k (t.length + padK p)).owes (padK p)) (sentS s j t (padK p)) [])) := fun w9 hc hx => by
            rw [← hq]
            exact HGT.out w9 _ hc hx rfl
          have HFI := hide hfi
          have hbt : NN ≤ 64 := by have := HPL.out; omega
          have htn : t.length ≤ NN := by have := HPL.out; omega
          have hbj := HBD.out.lb j hj4
          have hlj := HBD.out.lt j hj4
          have hbo := HBD.out.bo
          have hbe := HBD.out.be
          have hok : NN = 0 ∨ (0 < NN ∧ ¬ RM < (NN : Int) ∧ ¬ AL < (NN : Int)) := by unfold Fits at hfi; have := HRR.out; have := HRA.out; have := HPL.out; omega
          have hw1 : IntKind.i64.wrap ((x.ln j).bodies + (NN : Int)) = (x.ln j).bodies + (NN : Int) := by rw [IntKind.wrap_i64]; omega
          have hw2 : IntKind.i64.wrap (x.bodies + (NN : Int)) = x.bodies + (NN : Int) := by rw [IntKind.wrap_i64]; omega
          have hw3 : IntKind.i64.wrap (x.beside + (NN : Int)) = x.beside + (NN : Int) := by rw [IntKind.wrap_i64]; omega
          have hw4 : IntKind.i64.wrap (x.beside + (NN : Int) - (t.length : Int)) = x.beside + (NN : Int) - (t.length : Int) := by rw [IntKind.wrap_i64]; omega
          have hsz : ((ByteArray.mk (x.ln j).text.toArray).size + (ByteArray.mk t.toArray).size : Nat) ≤ 9223372036854775807 := by simp [ByteArray.size]; omega
          have hap := strV_app (x.ln j).text t
          clear hfi hbj hlj hbo hbe
          go_upto_region 18 with fail
          go_cut [72] (fun s72 wx => s72 = .bool false ∧ wx = w6)
          case first =>
            rcases hok with hN0 | ⟨hN1, hN2, hN3⟩
            · subst hN0
              go_wp2_with fail
              go_meet
              exact ⟨rfl, rfl⟩
            · have hN1I : (0 : Int) < (NN : Int) := by omega
              go_wp2_with fail
              go_meet
              exact ⟨rfl, rfl⟩
          case rest =>
            obtain ⟨hs72, hw72⟩ := hcut
            subst hs72
            rw [hw72]
            clear hw72
            rcases four_cases hj4 with rfl | rfl | rfl | rfl
            · have a1 : w6.cell? ⟨xb, 5, none⟩ = some (.string ⟨(x.ln 0).text.toArray⟩) := HX6.out.c5
              have a2 := HX6.out.fr 5
              have d1 : w6.drew.cell? ⟨xb, 5, none⟩ = some (.string ⟨(x.ln 0).text.toArray⟩) := a1
              have d2 : w6.drew.frozen? ⟨xb, 5, none⟩ = false := a2
              go_upto_region 21 with fail
              go_cut [] (fun wx => XI wx xb (.pointer (some ⟨eb, 0, none⟩)) { x with ln := updL x.ln 0 { x.ln 0 with text := (x.ln 0).text ++ t } } pv6 ∧ Chg (fun i => i = xb) w6 wx)
              case first =>
                have HE1 : Hid (XI (w6.setCell ⟨xb, 5, none⟩ (.string ⟨((x.ln 0).text ++ t).toArray⟩)) xb (.pointer (some ⟨eb, 0, none⟩)) { x with ln := updL x.ln 0 { x.ln 0 with text := (x.ln 0).text ++ t } } pv6 ∧ Chg (fun i => i = xb) w6 (w6.setCell ⟨xb, 5, none⟩ (.string ⟨((x.ln 0).text ++ t).toArray⟩)).drew) := ⟨HX6.out.set (by simp [XM.cells, updL, strV]), Chg.drew (chg_set (S := fun i => i = xb) (Chg.refl _ _) rfl)⟩
                go_region
                all_goals (go_wp2_with fail; go_meet; exact HE1.out)
              case rest =>
                obtain ⟨hx7, hc7⟩ := hcut
                obtain ⟨w7, hw7⟩ : ∃ w7, w7 = wc := ⟨wc, rfl⟩
                rw [← hw7] at hx7 hc7 ⊢
                clear hw7 a1 a2 d1 d2
                have a1 : w7.cell? ⟨xb, 7, none⟩ = some (.int .i64 (x.ln 0).bodies) := hx7.c7
                have a2 := hx7.fr 7
                have d1 : w7.drew.cell? ⟨xb, 7, none⟩ = some (.int .i64 (x.ln 0).bodies) := a1
                have d2 : w7.drew.frozen? ⟨xb, 7, none⟩ = false := a2
                have HX7 := hide hx7
                have HC7 := hide hc7
                clear hx7 hc7
                go_upto_region 22 with fail
                go_cut [] (fun wx => XI wx xb (.pointer (some ⟨eb, 0, none⟩)) { x with ln := updL x.ln 0 { x.ln 0 with text := (x.ln 0).text ++ t, bodies := (x.ln 0).bodies + (NN : Int) } } pv6 ∧ Chg (fun i => i = xb) w6 wx)
                case first =>
                  have HE1 : Hid (XI (w7.setCell ⟨xb, 7, none⟩ (.int .i64 ((x.ln 0).bodies + (NN : Int)))) xb (.pointer (some ⟨eb, 0, none⟩)) { x with ln := updL x.ln 0 { x.ln 0 with text := (x.ln 0).text ++ t, bodies := (x.ln 0).bodies + (NN : Int) } } pv6 ∧ Chg (fun i => i = xb) w6 (w7.setCell ⟨xb, 7, none⟩ (.int .i64 ((x.ln 0).bodies + (NN : Int)))).drew) := ⟨HX7.out.set (by simp [XM.cells, updL]), HC7.out.trans ((Chg.drew (chg_set (S := fun i => i = xb) (Chg.refl _ _) rfl)).mono fun _ _ e => Or.inr e)⟩
                  go_region
                  all_goals (go_wp2_with fail; go_meet; exact HE1.out)
                case rest =>
                  obtain ⟨hx8, hc8⟩ := hcut
                  obtain ⟨w8, hw8⟩ : ∃ w8, w8 = wc := ⟨wc, rfl⟩
                  rw [← hw8] at hx8 hc8 ⊢
                  clear hw8 a1 a2 d1 d2
                  have b1 : w8.cell? ⟨xb, 24, none⟩ = some (.int .i64 x.bodies) := hx8.c24
                  have b2 : w8.cell? ⟨xb, 26, none⟩ = some (.int .i64 x.beside) := hx8.c26
                  have b3 : w8.cell? ⟨xb, 29, none⟩ = some (.bool x.came) := hx8.c29
                  have g1 := hx8.fr 24
                  have g2 := hx8.fr 26
                  have g3 := hx8.fr 29
                  obtain ⟨w9, hw9⟩ : ∃ w9, w9 = w8.setCell ⟨xb, 24, none⟩ (.int .i64 (x.bodies + (NN : Int))) := ⟨_, rfl⟩
                  have hx9 : XI w9 xb (.pointer (some ⟨eb, 0, none⟩)) { x with ln := updL x.ln 0 { x.ln 0 with text := (x.ln 0).text ++ t, bodies := (x.ln 0).bodies + (NN : Int) }, bodies := x.bodies + (NN : Int) } pv6 := by rw [hw9]; exact hx8.set (by simp [XM.cells])
                  have c2 : w9.cell? ⟨xb, 26, none⟩ = some (.int .i64 x.beside) := hx9.c26
                  have e2 := hx9.fr 26
                  obtain ⟨w10, hw10⟩ : ∃ w10, w10 = w9.setCell ⟨xb, 26, none⟩ (.int .i64 (x.beside + (NN : Int) - (t.length : Int))) := ⟨_, rfl⟩
                  have hx10 : XI w10 xb (.pointer (some ⟨eb, 0, none⟩)) { x with ln := updL x.ln 0 { x.ln 0 with text := (x.ln 0).text ++ t, bodies := (x.ln 0).bodies + (NN : Int) }, bodies := x.bodies + (NN : Int), beside := x.beside + (NN : Int) - (t.length : Int) } pv6 := by rw [hw10]; exact hx9.set (by simp [XM.cells])
                  have c3 : w10.cell? ⟨xb, 29, none⟩ = some (.bool x.came) := hx10.c29
                  have e3 := hx10.fr 29
                  have HE2 : Hid (∀ bb, bb = (x.came || decide (0 < NN)) → GoI w (w10.setCell ⟨xb, 29, none⟩ (.bool bb)) xb eb F (x.sent 0 t (t.length + padK p)) (gD x.cf ((d.got x.cf.k (t.length + padK p)).owes (padK p)) (sentS s 0 t (padK p)) [])) := fun bb hbb => by
                    have hc9 : Chg (fun i => i = xb) w6 w9 := by rw [hw9]; exact hc8.trans ((chg_set (S := fun i => i = xb) (Chg.refl _ _) rfl).mono fun _ _ e => Or.inr e)
                    have hc10 : Chg (fun i => i = xb) w6 w10 := by rw [hw10]; exact hc9.trans ((chg_set (S := fun i => i = xb) (Chg.refl _ _) rfl).mono fun _ _ e => Or.inr e)
                    refine HSE.out _ (hc10.trans ((chg_set (S := fun i => i = xb) (Chg.refl _ _) rfl).mono fun _ _ e => Or.inr e)) ?_
                    have hxx : XI (w10.setCell ⟨xb, 29, none⟩ (.bool bb)) xb (.pointer (some ⟨eb, 0, none⟩)) { x with ln := updL x.ln 0 { x.ln 0 with text := (x.ln 0).text ++ t, bodies := (x.ln 0).bodies + (NN : Int) }, bodies := x.bodies + (NN : Int), beside := x.beside + (NN : Int) - (t.length : Int), came := bb } pv6 := hx10.set (by simp [XM.cells])
                    rw [hbb] at hxx
                    rw [← HPL.out, hbb]
                    exact hxx
                  have HW9 := hide hw9
                  have HW10 := hide hw10
                  clear hx8 hc8 HX7 HC7 hx9 hx10 hw9 hw10 b2 b3 g2 g3
                  clear HPK1 HPK2 HI HR HMV HB0 HW0 HT hSs hi hz0 hz1 hz2 HBYC HBC HXB HRM HLY HCS HB3 HX3 HRR HRA HBD HA4 HB4 HL5 HX5 HIN6 HX6 HP6 HF6 HGT HSE hok hw1 hj2 hj3 hap hsz
                  go_upto_region 24 with fail
                  rw [← HW9.out]
                  clear b1 g1
                  go_upto_region 25 with fail
                  rw [← HW10.out]
                  clear c2 e2
                  cases hcm : x.came with
                  | true =>
                    rw [hcm] at c3 HE2
                    go_wp2
                    go_ret
                    exact ⟨rfl, fun _ => HE2.out _ (by simp), fun hh => absurd HFI.out hh⟩
                  | false =>
                    rw [hcm] at c3 HE2
                    by_cases hN0 : 0 < NN
                    · have hN1I : (0 : Int) < (NN : Int) := by omega
                      go_wp2
                      go_ret
                      exact ⟨rfl, fun _ => HE2.out _ (by simp [hN0]), fun hh => absurd HFI.out hh⟩
                    · have hN1I : ¬ (0 : Int) < (NN : Int) := by omega
                      go_wp2
                      go_ret
                      exact ⟨rfl, fun _ => HE2.out _ (by simp [hN0]), fun hh => absurd HFI.out hh⟩
            · have a1 : w6.cell? ⟨xb, 9, none⟩ = some (.string ⟨(x.ln 1).text.toArray⟩) := HX6.out.c9
              have a2 := HX6.out.fr 9
              have d1 : w6.drew.cell? ⟨xb, 9, none⟩ = some (.string ⟨(x.ln 1).text.toArray⟩) := a1
              have d2 : w6.drew.frozen? ⟨xb, 9, none⟩ = false := a2
              go_upto_region 21 with fail
              go_cut [] (fun wx => XI wx xb (.pointer (some ⟨eb, 0, none⟩)) { x with ln := updL x.ln 1 { x.ln 1 with text := (x.ln 1).text ++ t } } pv6 ∧ Chg (fun i => i = xb) w6 wx)
              case first =>
                have HE1 : Hid (XI (w6.setCell ⟨xb, 9, none⟩ (.string ⟨((x.ln 1).text ++ t).toArray⟩)) xb (.pointer (some ⟨eb, 0, none⟩)) { x with ln := updL x.ln 1 { x.ln 1 with text := (x.ln 1).text ++ t } } pv6 ∧ Chg (fun i => i = xb) w6 (w6.setCell ⟨xb, 9, none⟩ (.string ⟨((x.ln 1).text ++ t).toArray⟩)).drew) := ⟨HX6.out.set (by simp [XM.cells, updL, strV]), Chg.drew (chg_set (S := fun i => i = xb) (Chg.refl _ _) rfl)⟩
                go_region
                all_goals (go_wp2_with fail; go_meet; exact HE1.out)
              case rest =>
                obtain ⟨hx7, hc7⟩ := hcut
                obtain ⟨w7, hw7⟩ : ∃ w7, w7 = wc := ⟨wc, rfl⟩
                rw [← hw7] at hx7 hc7 ⊢
                clear hw7 a1 a2 d1 d2
                have a1 : w7.cell? ⟨xb, 11, none⟩ = some (.int .i64 (x.ln 1).bodies) := hx7.c11
                have a2 := hx7.fr 11
                have d1 : w7.drew.cell? ⟨xb, 11, none⟩ = some (.int .i64 (x.ln 1).bodies) := a1
                have d2 : w7.drew.frozen? ⟨xb, 11, none⟩ = false := a2
                have HX7 := hide hx7
                have HC7 := hide hc7
                clear hx7 hc7
                go_upto_region 22 with fail
                go_cut [] (fun wx => XI wx xb (.pointer (some ⟨eb, 0, none⟩)) { x with ln := updL x.ln 1 { x.ln 1 with text := (x.ln 1).text ++ t, bodies := (x.ln 1).bodies + (NN : Int) } } pv6 ∧ Chg (fun i => i = xb) w6 wx)
                case first =>
                  have HE1 : Hid (XI (w7.setCell ⟨xb, 11, none⟩ (.int .i64 ((x.ln 1).bodies + (NN : Int)))) xb (.pointer (some ⟨eb, 0, none⟩)) { x with ln := updL x.ln 1 { x.ln 1 with text := (x.ln 1).text ++ t, bodies := (x.ln 1).bodies + (NN : Int) } } pv6 ∧ Chg (fun i => i = xb) w6 (w7.setCell ⟨xb, 11, none⟩ (.int .i64 ((x.ln 1).bodies + (NN : Int)))).drew) := ⟨HX7.out.set (by simp [XM.cells, updL]), HC7.out.trans ((Chg.drew (chg_set (S := fun i => i = xb) (Chg.refl _ _) rfl)).mono fun _ _ e => Or.inr e)⟩
                  go_region
                  all_goals (go_wp2_with fail; go_meet; exact HE1.out)
                case rest =>
                  obtain ⟨hx8, hc8⟩ := hcut
                  obtain ⟨w8, hw8⟩ : ∃ w8, w8 = wc := ⟨wc, rfl⟩
                  rw [← hw8] at hx8 hc8 ⊢
                  clear hw8 a1 a2 d1 d2
                  have b1 : w8.cell? ⟨xb, 24, none⟩ = some (.int .i64 x.bodies) := hx8.c24
                  have b2 : w8.cell? ⟨xb, 26, none⟩ = some (.int .i64 x.beside) := hx8.c26
                  have b3 : w8.cell? ⟨xb, 29, none⟩ = some (.bool x.came) := hx8.c29
                  have g1 := hx8.fr 24
                  have g2 := hx8.fr 26
                  have g3 := hx8.fr 29
                  obtain ⟨w9, hw9⟩ : ∃ w9, w9 = w8.setCell ⟨xb, 24, none⟩ (.int .i64 (x.bodies + (NN : Int))) := ⟨_, rfl⟩
                  have hx9 : XI w9 xb (.pointer (some ⟨eb, 0, none⟩)) { x with ln := updL x.ln 1 { x.ln 1 with text := (x.ln 1).text ++ t, bodies := (x.ln 1).bodies + (NN : Int) }, bodies := x.bodies + (NN : Int) } pv6 := by rw [hw9]; exact hx8.set (by simp [XM.cells])
                  have c2 : w9.cell? ⟨xb, 26, none⟩ = some (.int .i64 x.beside) := hx9.c26
                  have e2 := hx9.fr 26
                  obtain ⟨w10, hw10⟩ : ∃ w10, w10 = w9.setCell ⟨xb, 26, none⟩ (.int .i64 (x.beside + (NN : Int) - (t.length : Int))) := ⟨_, rfl⟩
                  have hx10 : XI w10 xb (.pointer (some ⟨eb, 0, none⟩)) { x with ln := updL x.ln 1 { x.ln 1 with text := (x.ln 1).text ++ t, bodies := (x.ln 1).bodies + (NN : Int) }, bodies := x.bodies + (NN : Int), beside := x.beside + (NN : Int) - (t.length : Int) } pv6 := by rw [hw10]; exact hx9.set (by simp [XM.cells])
                  have c3 : w10.cell? ⟨xb, 29, none⟩ = some (.bool x.came) := hx10.c29
                  have e3 := hx10.fr 29
                  have HE2 : Hid (∀ bb, bb = (x.came || decide (0 < NN)) → GoI w (w10.setCell ⟨xb, 29, none⟩ (.bool bb)) xb eb F (x.sent 1 t (t.length + padK p)) (gD x.cf ((d.got x.cf.k (t.length + padK p)).owes (padK p)) (sentS s 1 t (padK p)) [])) := fun bb hbb => by
                    have hc9 : Chg (fun i => i = xb) w6 w9 := by rw [hw9]; exact hc8.trans ((chg_set (S := fun i => i = xb) (Chg.refl _ _) rfl).mono fun _ _ e => Or.inr e)
                    have hc10 : Chg (fun i => i = xb) w6 w10 := by rw [hw10]; exact hc9.trans ((chg_set (S := fun i => i = xb) (Chg.refl _ _) rfl).mono fun _ _ e => Or.inr e)
                    refine HSE.out _ (hc10.trans ((chg_set (S := fun i => i = xb) (Chg.refl _ _) rfl).mono fun _ _ e => Or.inr e)) ?_
                    have hxx : XI (w10.setCell ⟨xb, 29, none⟩ (.bool bb)) xb (.pointer (some ⟨eb, 0, none⟩)) { x with ln := updL x.ln 1 { x.ln 1 with text := (x.ln 1).text ++ t, bodies := (x.ln 1).bodies + (NN : Int) }, bodies := x.bodies + (NN : Int), beside := x.beside + (NN : Int) - (t.length : Int), came := bb } pv6 := hx10.set (by simp [XM.cells])
                    rw [hbb] at hxx
                    rw [← HPL.out, hbb]
                    exact hxx
                  have HW9 := hide hw9
                  have HW10 := hide hw10
                  clear hx8 hc8 HX7 HC7 hx9 hx10 hw9 hw10 b2 b3 g2 g3
                  clear HPK1 HPK2 HI HR HMV HB0 HW0 HT hSs hi hz0 hz1 hz2 HBYC HBC HXB HRM HLY HCS HB3 HX3 HRR HRA HBD HA4 HB4 HL5 HX5 HIN6 HX6 HP6 HF6 HGT HSE hok hw1 hj2 hj3 hap hsz
                  go_upto_region 24 with fail
                  rw [← HW9.out]
                  clear b1 g1
                  go_upto_region 25 with fail
                  rw [← HW10.out]
                  clear c2 e2
                  cases hcm : x.came with
                  | true =>
                    rw [hcm] at c3 HE2
                    go_wp2
                    go_ret
                    exact ⟨rfl, fun _ => HE2.out _ (by simp), fun hh => absurd HFI.out hh⟩
                  | false =>
                    rw [hcm] at c3 HE2
                    by_cases hN0 : 0 < NN
                    · have hN1I : (0 : Int) < (NN : Int) := by omega
                      go_wp2
                      go_ret
                      exact ⟨rfl, fun _ => HE2.out _ (by simp [hN0]), fun hh => absurd HFI.out hh⟩
                    · have hN1I : ¬ (0 : Int) < (NN : Int) := by omega
                      go_wp2
                      go_ret
                      exact ⟨rfl, fun _ => HE2.out _ (by simp [hN0]), fun hh => absurd HFI.out hh⟩
            · have a1 : w6.cell? ⟨xb, 13, none⟩ = some (.string ⟨(x.ln 2).text.toArray⟩) := HX6.out.c13
              have a2 := HX6.out.fr 13
              have d1 : w6.drew.cell? ⟨xb, 13, none⟩ = some (.string ⟨(x.ln 2).text.toArray⟩) := a1
              have d2 : w6.drew.frozen? ⟨xb, 13, none⟩ = false := a2
              go_upto_region 21 with fail
              go_cut [] (fun wx => XI wx xb (.pointer (some ⟨eb, 0, none⟩)) { x with ln := updL x.ln 2 { x.ln 2 with text := (x.ln 2).text ++ t } } pv6 ∧ Chg (fun i => i = xb) w6 wx)
              case first =>
                have HE1 : Hid (XI (w6.setCell ⟨xb, 13, none⟩ (.string ⟨((x.ln 2).text ++ t).toArray⟩)) xb (.pointer (some ⟨eb, 0, none⟩)) { x with ln := updL x.ln 2 { x.ln 2 with text := (x.ln 2).text ++ t } } pv6 ∧ Chg (fun i => i = xb) w6 (w6.setCell ⟨xb, 13, none⟩ (.string ⟨((x.ln 2).text ++ t).toArray⟩)).drew) := ⟨HX6.out.set (by simp [XM.cells, updL, strV]), Chg.drew (chg_set (S := fun i => i = xb) (Chg.refl _ _) rfl)⟩
                go_region
                all_goals (go_wp2_with fail; go_meet; exact HE1.out)
              case rest =>
                obtain ⟨hx7, hc7⟩ := hcut
                obtain ⟨w7, hw7⟩ : ∃ w7, w7 = wc := ⟨wc, rfl⟩
                rw [← hw7] at hx7 hc7 ⊢
                clear hw7 a1 a2 d1 d2
                have a1 : w7.cell? ⟨xb, 15, none⟩ = some (.int .i64 (x.ln 2).bodies) := hx7.c15
                have a2 := hx7.fr 15
                have d1 : w7.drew.cell? ⟨xb, 15, none⟩ = some (.int .i64 (x.ln 2).bodies) := a1
                have d2 : w7.drew.frozen? ⟨xb, 15, none⟩ = false := a2
                have HX7 := hide hx7
                have HC7 := hide hc7
                clear hx7 hc7
                go_upto_region 22 with fail
                go_cut [] (fun wx => XI wx xb (.pointer (some ⟨eb, 0, none⟩)) { x with ln := updL x.ln 2 { x.ln 2 with text := (x.ln 2).text ++ t, bodies := (x.ln 2).bodies + (NN : Int) } } pv6 ∧ Chg (fun i => i = xb) w6 wx)
                case first =>
                  have HE1 : Hid (XI (w7.setCell ⟨xb, 15, none⟩ (.int .i64 ((x.ln 2).bodies + (NN : Int)))) xb (.pointer (some ⟨eb, 0, none⟩)) { x with ln := updL x.ln 2 { x.ln 2 with text := (x.ln 2).text ++ t, bodies := (x.ln 2).bodies + (NN : Int) } } pv6 ∧ Chg (fun i => i = xb) w6 (w7.setCell ⟨xb, 15, none⟩ (.int .i64 ((x.ln 2).bodies + (NN : Int)))).drew) := ⟨HX7.out.set (by simp [XM.cells, updL]), HC7.out.trans ((Chg.drew (chg_set (S := fun i => i = xb) (Chg.refl _ _) rfl)).mono fun _ _ e => Or.inr e)⟩
                  go_region
                  all_goals (go_wp2_with fail; go_meet; exact HE1.out)
                case rest =>
                  obtain ⟨hx8, hc8⟩ := hcut
                  obtain ⟨w8, hw8⟩ : ∃ w8, w8 = wc := ⟨wc, rfl⟩
                  rw [← hw8] at hx8 hc8 ⊢
                  clear hw8 a1 a2 d1 d2
                  have b1 : w8.cell? ⟨xb, 24, none⟩ = some (.int .i64 x.bodies) := hx8.c24
                  have b2 : w8.cell? ⟨xb, 26, none⟩ = some (.int .i64 x.beside) := hx8.c26
                  have b3 : w8.cell? ⟨xb, 29, none⟩ = some (.bool x.came) := hx8.c29
                  have g1 := hx8.fr 24
                  have g2 := hx8.fr 26
                  have g3 := hx8.fr 29
                  obtain ⟨w9, hw9⟩ : ∃ w9, w9 = w8.setCell ⟨xb, 24, none⟩ (.int .i64 (x.bodies + (NN : Int))) := ⟨_, rfl⟩
                  have hx9 : XI w9 xb (.pointer (some ⟨eb, 0, none⟩)) { x with ln := updL x.ln 2 { x.ln 2 with text := (x.ln 2).text ++ t, bodies := (x.ln 2).bodies + (NN : Int) }, bodies := x.bodies + (NN : Int) } pv6 := by rw [hw9]; exact hx8.set (by simp [XM.cells])
                  have c2 : w9.cell? ⟨xb, 26, none⟩ = some (.int .i64 x.beside) := hx9.c26
                  have e2 := hx9.fr 26
                  obtain ⟨w10, hw10⟩ : ∃ w10, w10 = w9.setCell ⟨xb, 26, none⟩ (.int .i64 (x.beside + (NN : Int) - (t.length : Int))) := ⟨_, rfl⟩
                  have hx10 : XI w10 xb (.pointer (some ⟨eb, 0, none⟩)) { x with ln := updL x.ln 2 { x.ln 2 with text := (x.ln 2).text ++ t, bodies := (x.ln 2).bodies + (NN : Int) }, bodies := x.bodies + (NN : Int), beside := x.beside + (NN : Int) - (t.length : Int) } pv6 := by rw [hw10]; exact hx9.set (by simp [XM.cells])
                  have c3 : w10.cell? ⟨xb, 29, none⟩ = some (.bool x.came) := hx10.c29
                  have e3 := hx10.fr 29
                  have HE2 : Hid (∀ bb, bb = (x.came || decide (0 < NN)) → GoI w (w10.setCell ⟨xb, 29, none⟩ (.bool bb)) xb eb F (x.sent 2 t (t.length + padK p)) (gD x.cf ((d.got x.cf.k (t.length + padK p)).owes (padK p)) (sentS s 2 t (padK p)) [])) := fun bb hbb => by
                    have hc9 : Chg (fun i => i = xb) w6 w9 := by rw [hw9]; exact hc8.trans ((chg_set (S := fun i => i = xb) (Chg.refl _ _) rfl).mono fun _ _ e => Or.inr e)
                    have hc10 : Chg (fun i => i = xb) w6 w10 := by rw [hw10]; exact hc9.trans ((chg_set (S := fun i => i = xb) (Chg.refl _ _) rfl).mono fun _ _ e => Or.inr e)
                    refine HSE.out _ (hc10.trans ((chg_set (S := fun i => i = xb) (Chg.refl _ _) rfl).mono fun _ _ e => Or.inr e)) ?_
                    have hxx : XI (w10.setCell ⟨xb, 29, none⟩ (.bool bb)) xb (.pointer (some ⟨eb, 0, none⟩)) { x with ln := updL x.ln 2 { x.ln 2 with text := (x.ln 2).text ++ t, bodies := (x.ln 2).bodies + (NN : Int) }, bodies := x.bodies + (NN : Int), beside := x.beside + (NN : Int) - (t.length : Int), came := bb } pv6 := hx10.set (by simp [XM.cells])
                    rw [hbb] at hxx
                    rw [← HPL.out, hbb]
                    exact hxx
                  have HW9 := hide hw9
                  have HW10 := hide hw10
                  clear hx8 hc8 HX7 HC7 hx9 hx10 hw9 hw10 b2 b3 g2 g3
                  clear HPK1 HPK2 HI HR HMV HB0 HW0 HT hSs hi hz0 hz1 hz2 HBYC HBC HXB HRM HLY HCS HB3 HX3 HRR HRA HBD HA4 HB4 HL5 HX5 HIN6 HX6 HP6 HF6 HGT HSE hok hw1 hj2 hj3 hap hsz
                  go_upto_region 24 with fail
                  rw [← HW9.out]
                  clear b1 g1
                  go_upto_region 25 with fail
                  rw [← HW10.out]
                  clear c2 e2
                  cases hcm : x.came with
                  | true =>
                    rw [hcm] at c3 HE2
                    go_wp2
                    go_ret
                    exact ⟨rfl, fun _ => HE2.out _ (by simp), fun hh => absurd HFI.out hh⟩
                  | false =>
                    rw [hcm] at c3 HE2
                    by_cases hN0 : 0 < NN
                    · have hN1I : (0 : Int) < (NN : Int) := by omega
                      go_wp2
                      go_ret
                      exact ⟨rfl, fun _ => HE2.out _ (by simp [hN0]), fun hh => absurd HFI.out hh⟩
                    · have hN1I : ¬ (0 : Int) < (NN : Int) := by omega
                      go_wp2
                      go_ret
                      exact ⟨rfl, fun _ => HE2.out _ (by simp [hN0]), fun hh => absurd HFI.out hh⟩
            · have a1 : w6.cell? ⟨xb, 17, none⟩ = some (.string ⟨(x.ln 3).text.toArray⟩) := HX6.out.c17
              have a2 := HX6.out.fr 17
              have d1 : w6.drew.cell? ⟨xb, 17, none⟩ = some (.string ⟨(x.ln 3).text.toArray⟩) := a1
              have d2 : w6.drew.frozen? ⟨xb, 17, none⟩ = false := a2
              go_upto_region 21 with fail
              go_cut [] (fun wx => XI wx xb (.pointer (some ⟨eb, 0, none⟩)) { x with ln := updL x.ln 3 { x.ln 3 with text := (x.ln 3).text ++ t } } pv6 ∧ Chg (fun i => i = xb) w6 wx)
              case first =>
                have HE1 : Hid (XI (w6.setCell ⟨xb, 17, none⟩ (.string ⟨((x.ln 3).text ++ t).toArray⟩)) xb (.pointer (some ⟨eb, 0, none⟩)) { x with ln := updL x.ln 3 { x.ln 3 with text := (x.ln 3).text ++ t } } pv6 ∧ Chg (fun i => i = xb) w6 (w6.setCell ⟨xb, 17, none⟩ (.string ⟨((x.ln 3).text ++ t).toArray⟩)).drew) := ⟨HX6.out.set (by simp [XM.cells, updL, strV]), Chg.drew (chg_set (S := fun i => i = xb) (Chg.refl _ _) rfl)⟩
                go_region
                all_goals (go_wp2_with fail; go_meet; exact HE1.out)
              case rest =>
                obtain ⟨hx7, hc7⟩ := hcut
                obtain ⟨w7, hw7⟩ : ∃ w7, w7 = wc := ⟨wc, rfl⟩
                rw [← hw7] at hx7 hc7 ⊢
                clear hw7 a1 a2 d1 d2
                have a1 : w7.cell? ⟨xb, 19, none⟩ = some (.int .i64 (x.ln 3).bodies) := hx7.c19
                have a2 := hx7.fr 19
                have d1 : w7.drew.cell? ⟨xb, 19, none⟩ = some (.int .i64 (x.ln 3).bodies) := a1
                have d2 : w7.drew.frozen? ⟨xb, 19, none⟩ = false := a2
                have HX7 := hide hx7
                have HC7 := hide hc7
                clear hx7 hc7
                go_upto_region 22 with fail
                go_cut [] (fun wx => XI wx xb (.pointer (some ⟨eb, 0, none⟩)) { x with ln := updL x.ln 3 { x.ln 3 with text := (x.ln 3).text ++ t, bodies := (x.ln 3).bodies + (NN : Int) } } pv6 ∧ Chg (fun i => i = xb) w6 wx)
                case first =>
                  have HE1 : Hid (XI (w7.setCell ⟨xb, 19, none⟩ (.int .i64 ((x.ln 3).bodies + (NN : Int)))) xb (.pointer (some ⟨eb, 0, none⟩)) { x with ln := updL x.ln 3 { x.ln 3 with text := (x.ln 3).text ++ t, bodies := (x.ln 3).bodies + (NN : Int) } } pv6 ∧ Chg (fun i => i = xb) w6 (w7.setCell ⟨xb, 19, none⟩ (.int .i64 ((x.ln 3).bodies + (NN : Int)))).drew) := ⟨HX7.out.set (by simp [XM.cells, updL]), HC7.out.trans ((Chg.drew (chg_set (S := fun i => i = xb) (Chg.refl _ _) rfl)).mono fun _ _ e => Or.inr e)⟩
                  go_region
                  all_goals (go_wp2_with fail; go_meet; exact HE1.out)
                case rest =>
                  obtain ⟨hx8, hc8⟩ := hcut
                  obtain ⟨w8, hw8⟩ : ∃ w8, w8 = wc := ⟨wc, rfl⟩
                  rw [← hw8] at hx8 hc8 ⊢
                  clear hw8 a1 a2 d1 d2
                  have b1 : w8.cell? ⟨xb, 24, none⟩ = some (.int .i64 x.bodies) := hx8.c24
                  have b2 : w8.cell? ⟨xb, 26, none⟩ = some (.int .i64 x.beside) := hx8.c26
                  have b3 : w8.cell? ⟨xb, 29, none⟩ = some (.bool x.came) := hx8.c29
                  have g1 := hx8.fr 24
                  have g2 := hx8.fr 26
                  have g3 := hx8.fr 29
                  obtain ⟨w9, hw9⟩ : ∃ w9, w9 = w8.setCell ⟨xb, 24, none⟩ (.int .i64 (x.bodies + (NN : Int))) := ⟨_, rfl⟩
                  have hx9 : XI w9 xb (.pointer (some ⟨eb, 0, none⟩)) { x with ln := updL x.ln 3 { x.ln 3 with text := (x.ln 3).text ++ t, bodies := (x.ln 3).bodies + (NN : Int) }, bodies := x.bodies + (NN : Int) } pv6 := by rw [hw9]; exact hx8.set (by simp [XM.cells])
                  have c2 : w9.cell? ⟨xb, 26, none⟩ = some (.int .i64 x.beside) := hx9.c26
                  have e2 := hx9.fr 26
                  obtain ⟨w10, hw10⟩ : ∃ w10, w10 = w9.setCell ⟨xb, 26, none⟩ (.int .i64 (x.beside + (NN : Int) - (t.length : Int))) := ⟨_, rfl⟩
                  have hx10 : XI w10 xb (.pointer (some ⟨eb, 0, none⟩)) { x with ln := updL x.ln 3 { x.ln 3 with text := (x.ln 3).text ++ t, bodies := (x.ln 3).bodies + (NN : Int) }, bodies := x.bodies + (NN : Int), beside := x.beside + (NN : Int) - (t.length : Int) } pv6 := by rw [hw10]; exact hx9.set (by simp [XM.cells])
                  have c3 : w10.cell? ⟨xb, 29, none⟩ = some (.bool x.came) := hx10.c29
                  have e3 := hx10.fr 29
                  have HE2 : Hid (∀ bb, bb = (x.came || decide (0 < NN)) → GoI w (w10.setCell ⟨xb, 29, none⟩ (.bool bb)) xb eb F (x.sent 3 t (t.length + padK p)) (gD x.cf ((d.got x.cf.k (t.length + padK p)).owes (padK p)) (sentS s 3 t (padK p)) [])) := fun bb hbb => by
                    have hc9 : Chg (fun i => i = xb) w6 w9 := by rw [hw9]; exact hc8.trans ((chg_set (S := fun i => i = xb) (Chg.refl _ _) rfl).mono fun _ _ e => Or.inr e)
                    have hc10 : Chg (fun i => i = xb) w6 w10 := by rw [hw10]; exact hc9.trans ((chg_set (S := fun i => i = xb) (Chg.refl _ _) rfl).mono fun _ _ e => Or.inr e)
                    refine HSE.out _ (hc10.trans ((chg_set (S := fun i => i = xb) (Chg.refl _ _) rfl).mono fun _ _ e => Or.inr e)) ?_
                    have hxx : XI (w10.setCell ⟨xb, 29, none⟩ (.bool bb)) xb (.pointer (some ⟨eb, 0, none⟩)) { x with ln := updL x.ln 3 { x.ln 3 with text := (x.ln 3).text ++ t, bodies := (x.ln 3).bodies + (NN : Int) }, bodies := x.bodies + (NN : Int), beside := x.beside + (NN : Int) - (t.length : Int), came := bb } pv6 := hx10.set (by simp [XM.cells])
                    rw [hbb] at hxx
                    rw [← HPL.out, hbb]
                    exact hxx
                  have HW9 := hide hw9
                  have HW10 := hide hw10
                  clear hx8 hc8 HX7 HC7 hx9 hx10 hw9 hw10 b2 b3 g2 g3
                  clear HPK1 HPK2 HI HR HMV HB0 HW0 HT hSs hi hz0 hz1 hz2 HBYC HBC HXB HRM HLY HCS HB3 HX3 HRR HRA HBD HA4 HB4 HL5 HX5 HIN6 HX6 HP6 HF6 HGT HSE hok hw1 hj2 hj3 hap hsz
                  go_upto_region 24 with fail
                  rw [← HW9.out]
                  clear b1 g1
                  go_upto_region 25 with fail
                  rw [← HW10.out]
                  clear c2 e2
                  cases hcm : x.came with
                  | true =>
                    rw [hcm] at c3 HE2
                    go_wp2
                    go_ret
                    exact ⟨rfl, fun _ => HE2.out _ (by simp), fun hh => absurd HFI.out hh⟩
                  | false =>
                    rw [hcm] at c3 HE2
                    by_cases hN0 : 0 < NN
                    · have hN1I : (0 : Int) < (NN : Int) := by omega
                      go_wp2
                      go_ret
                      exact ⟨rfl, fun _ => HE2.out _ (by simp [hN0]), fun hh => absurd HFI.out hh⟩
                    · have hN1I : ¬ (0 : Int) < (NN : Int) := by omega
                      go_wp2
                      go_ret
                      exact ⟨rfl, fun _ => HE2.out _ (by simp [hN0]), fun hh => absurd HFI.out hh⟩
        · subst hC
          have hx30 : w6.cell? ⟨xb, 30, none⟩ = some (.bool x.dead) := HX6.out.c30
          have f30 := HX6.out.fr 30
          have hpos : (0 : Int) < (NN : Int) := by unfold Fits at hfi; have := HPL.out; omega
          have HDE : Hid (GoI w (w6.setCell ⟨xb, 30, none⟩ (.bool true)) xb eb F { x with dead := true } ((gD x.cf d s []).died 12)) := by
            rw [← hq]
            exact HGT.out _ { x with dead := true } (chg_set (Chg.refl _ _) rfl) (HX6.out.set (by simp [XM.cells])) rfl
          have HFI := hide hfi
          by_cases hR1 : RM < (NN : Int)
          · clear hfi
            go_wp2
            go_ret
            exact ⟨rfl, fun hh => absurd hh HFI.out, fun _ => HDE.out⟩
          · have hA1 : AL < (NN : Int) := by unfold Fits at hfi; have := HRR.out; have := HRA.out; have := HPL.out; omega
            clear hfi
            go_wp2
            go_ret
            exact ⟨rfl, fun hh => absurd hh HFI.out, fun _ => HDE.out⟩
end Go.Proofs.YtlhlmgfblbpdpaaGreatDoor
