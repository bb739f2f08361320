/- The law law:TraceCut: its walk. -/
import Derived.Test.YtngmaiiibinkaaaGreatG15
import Derived.Deep.CutRange
import Derived.Test.YtngmaiiibinkaaaGreatG10
namespace Go.Proofs.YtngmaiiibinkaaaGreat
open Go.RowKit
set_option linter.unusedVariables false
set_option linter.unusedSimpArgs false
attribute [local go_sem ↓] Go.wp_at_zero Go.wp_at_succ

set_option maxRecDepth 100000 in
set_option maxHeartbeats 16000000 in
theorem tcu_walk (A0 : Option Addr) (cap0 : Nat) (l0 : List Sp) (A1 : Option Addr) (cap1 : Nat) (l1 : List Fv) (a2 : Int) (w : World) (h0 : SRow w A0 cap0 l0) (h1 : FRow w A1 cap1 l1) (i2 : in64 a2) :
    Calls Tryz.prog 6 #[.slice A0 l0.length cap0, .slice A1 l1.length cap1, .int .i64 a2] w fun e w' => e = .returned (.bool true) ∧ Below w.heap.size w w' := by
  have AW := Lib.hid (fun W => awake_any W)
  have hle1 := h1.le
  have hmx1 := h1.mx
  have KF0 := fun (W : World) (hb : Below w.heap.size w W) => fewE_row A1 cap1 l1 W (h1.later hb)
  have KS := Lib.hid (fun (W : World) (hb : Below w.heap.size w W) => set_any 4 (by omega) (by omega) A0 cap0 l0 a2 W (h0.later hb) i2)
  have FB0 := fewE_bd l1
  obtain ⟨fs, hfs⟩ : ∃ fs, fewES l1 = fs := ⟨_, rfl⟩
  rw [hfs] at KF0 FB0
  have KF := Lib.hid KF0
  have FB := Lib.hid FB0
  have I2 := Lib.hid i2
  clear h0 h1 i2 hfs KF0 FB0
  go_enter Tryz.func6, Tryz.ntmps6
  go_upto_region 2 with (go_at_call 7; (with_reducible refine (AW.out _).mono ?_); rintro e w1 ⟨rfl, hb1⟩; have B1 := Lib.hid hb1; clear hb1)
  go_upto_region 3 with (go_at_call 8; (with_reducible refine (KS.out _ B1.out).mono ?_); rintro e w2 ⟨As, cs, ss, rfl, hRs, hs1, hs5, hsd, hsf, hsp, h2⟩; have RS2 := Lib.hid hRs; have HS1 := Lib.hid hs1; have HS5 := Lib.hid hs5; have HSD := Lib.hid hsd; have HSF := Lib.hid hsf; have HSP := Lib.hid hsp; have B12 := Lib.hid h2; have B2 := Lib.hid (B1.out.trans (h2.mono B1.out.size)); clear hRs hs1 hs5 hsd hsf hsp h2)
  have OK := Lib.hid (set_ok HS1.out (by have := HS5.out; omega) HSD.out HSF.out HSP.out)
  have SM0 := sm_of (M := 4) (n := 8) HS1.out (by have := HS5.out; omega) (by omega) HSD.out HSF.out HSP.out FB.out.1 (by omega) FB.out.2
  obtain ⟨js, hjs⟩ : ∃ js, decS ss fs = js := ⟨_, rfl⟩
  rw [hjs] at SM0
  have SM := Lib.hid SM0
  have HJS := Lib.hid hjs
  clear SM0 hjs
  go_upto_region 4 with (first
    | (go_at_call 10; (with_reducible refine (KF.out _ B2.out).mono ?_); rintro e w3 ⟨Ar, cr, rfl, hFR, h3⟩; have KD0 := dec_row _ _ _ _ ss fs _ (RS2.out.later h3) hFR OK.out; rw [HJS.out] at KD0; have KD := Lib.hid KD0; have H3 := Lib.hid h3; have RS3 := Lib.hid (RS2.out.later h3); have B3 := Lib.hid (B2.out.trans (h3.mono B2.out.size)); clear hFR h3 KD0)
    | (go_at_call 9; (with_reducible refine KD.out.mono ?_); rintro e w4 ⟨Aj, cj, gj, rfl, hFJ, hOJ, hXJ, h4⟩; have H24 := Lib.hid (H3.out.trans (h4.mono H3.out.size)); have H34 := Lib.hid h4; have FJ := Lib.hid hFJ; have OJ := Lib.hid hOJ; have XJ := Lib.hid hXJ; have B4 := Lib.hid (B2.out.trans (H24.out.mono B2.out.size)); have RS := Lib.hid (RS2.out.later H24.out); clear hFJ hOJ hXJ h4 KD))
  clear RS2 KF KS AW FB HJS H3
  have KX0 := fun W => rest_any a2 61 W I2.out (by omega) (by omega)
  have hbd := restI_bd a2 61 (by omega) (by omega)
  obtain ⟨en, hen⟩ : ∃ en, restI a2 61 = en := ⟨_, rfl⟩
  rw [hen] at KX0 hbd
  have KX := Lib.hid KX0
  have HBD := Lib.hid hbd
  clear KX0 hen
  have KU0 := until_sm SM.out (by omega) en (by omega) w4 RS.out FJ.out
  have KR0 := fun W (hb : Below w4.heap.size w4 W) => run_sm SM.out (by omega) W (RS.out.later hb) (FJ.out.later hb)
  have TF0 := trf_at SM.out (by omega) (T := en.toNat) (by omega)
  have TA0 := trf_sm SM.out (by omega)
  have CF0 := fun i hi => cut_sm SM.out (by omega) (T := en.toNat) (by omega) (i := i) hi
  have hcast : ((en.toNat : Nat) : Int) = en := by omega
  rw [hcast] at CF0
  obtain ⟨sp, hsp⟩ : ∃ sp, (tst ss js en.toNat).sp = sp := ⟨_, rfl⟩
  obtain ⟨es, hes⟩ : ∃ es, (tst ss js en.toNat).en = es := ⟨_, rfl⟩
  obtain ⟨sa, hsa⟩ : ∃ sp, (tst ss js 9223372036854775807).sp = sp := ⟨_, rfl⟩
  obtain ⟨ea, hea⟩ : ∃ es, (tst ss js 9223372036854775807).en = es := ⟨_, rfl⟩
  rw [hsp, hes] at KU0 TF0
  rw [hsa, hea] at KR0 TA0
  rw [hes, hea] at CF0
  have KU := Lib.hid KU0
  have KR := Lib.hid KR0
  have TF := Lib.hid TF0
  have TA := Lib.hid TA0
  have CF := Lib.hid CF0
  clear KU0 KR0 TF0 TA0 CF0 hsp hes hsa hea hcast hbd
  go_upto_region 5 with (go_at_call 18; (with_reducible refine (KX.out _).mono ?_); rintro e wx ⟨rfl, rfl⟩)
  go_upto_region 6 with (go_at_call 22; (with_reducible refine KU.out.mono ?_); rintro e w5 ⟨A1, c1, B1', d1, rfl, hS, hE, hb1⟩; have HS := Lib.hid hS; have HE := Lib.hid hE; have HB5 := Lib.hid hb1; clear hS hE hb1)
  go_upto_region 7 with (go_at_call 11; (with_reducible refine (KR.out _ HB5.out).mono ?_); rintro e w6 ⟨A2, c2, B2', d2, rfl, hS2, hE2, hb2⟩; have HE2 := Lib.hid hE2; have HB6 := Lib.hid hb2; clear hS2 hE2 hb2)
  have KE0 := ends_any w6 (FJ.out.later (bel_step HB5.out HB6.out)) (TF.out.row SM.out (by omega) (HS.out.later HB6.out)) (TF.out.edh SM.out (by omega))
  unfold EndP at KE0
  have hel := TF.out.le
  have hea := TA.out.le
  obtain ⟨n, hn⟩ : ∃ n, js.length = n := ⟨_, rfl⟩
  obtain ⟨m, hm⟩ : ∃ m, sp.length = m := ⟨_, rfl⟩
  rw [List.length_map, TF.out.ends, hm, hn] at KE0
  rw [hel, hea, hn, hm]
  have KE := Lib.hid KE0
  have HN := Lib.hid hn
  have HEL := Lib.hid (hel.trans hn)
  have HEA := Lib.hid (hea.trans hn)
  have hj10 := SM.out.le
  rw [hn] at hj10
  clear KE0 KU KR KX hn hm hel hea
  go_upto_region 8 with (go_at_call 13; (with_reducible refine KE.out.mono ?_); rintro e w7 ⟨gE, rfl, hC, hb7⟩; have HC7 := Lib.hid hC; have HB7 := Lib.hid hb7; clear hC hb7)
  have BW := Lib.hid (bel_step (bel_step (bel_step (Below.refl w4.heap.size w4) HB5.out) HB6.out) HB7.out)
  have BW := Lib.hid (B4.out.trans (BW.out.mono B4.out.size))
  have HE7 := Lib.hid (HE.out.later (bel_step HB6.out HB7.out))
  have HA7 := Lib.hid (HE2.out.later HB7.out)
  have hnn : (((n : Nat) : Int) != (n : Int)) = false := by simp
  have d1le := HE7.out.le
  have d1mx := HE7.out.mx
  have d2le := HA7.out.le
  have d2mx := HA7.out.mx
  rw [HEL.out] at d1le
  rw [HEA.out] at d2le
  clear KE
  go_wp2
  go_loopw [16] (fun i wr => ∃ q : Nat, q ≤ n ∧ i = .int .i64 (q : Int) ∧ Hid (Below w7.heap.size w7 wr)) (fun i _ => n - (intOf i).toNat)
  case atStart => exact ⟨0, Nat.zero_le _, rfl, Lib.hid (Below.refl _ _)⟩
  case round =>
    obtain ⟨q, hq, rfl, hB⟩ := hrel
    by_cases hlt : q < n
    · obtain ⟨b1, o1, hA1, hb1, P1⟩ := HC7.out.pin (by rw [HEL.out]; omega)
      cases hA1
      obtain ⟨b2, o2, rfl, hb2, P2⟩ := HE7.out.pin (by rw [HEL.out]; omega)
      obtain ⟨b3, o3, rfl, hb3, P3⟩ := HA7.out.pin (by rw [HEA.out]; omega)
      have e1 := (P1.later hB.out) q (by rw [HEL.out]; exact hlt)
      have e2 := (P2.later hB.out) q (by rw [HEL.out]; exact hlt)
      have e3 := (P3.later hB.out) q (by rw [HEA.out]; exact hlt)
      rw [Nat.zero_add] at e1
      have hc := CF.out q (by rw [HN.out]; exact hlt)
      have q0 : (0 : Int) ≤ (q : Int) := by omega
      have q1 : (q : Int) < (n : Int) := by omega
      obtain ⟨x, hx⟩ : ∃ x, kO es q = x := ⟨_, rfl⟩
      obtain ⟨y, hy⟩ : ∃ y, kO ea q = y := ⟨_, rfl⟩
      rw [hx] at e1 e2 hc
      rw [hy] at e3 hc
      have t1 : (x != x) = false := by simp
      clear P1 P2 P3 hb1 hb2 hb3 hx hy
      by_cases h : y ≤ en
      · have hxy := hc.1 h
        subst hxy
        have t2 : decide (x ≤ en) = true := decide_eq_true h
        have t3 : decide (x > en) = false := decide_eq_false (by omega)
        have t3' : decide (en < x) = false := decide_eq_false (by omega)
        clear hc h
        go_upto_region 13 with (fail)
        go_quiet (fail)
        go_wp2
        go_roundw
        case rel => exact ⟨q + 1, by omega, by go_num, Lib.hid (bel_step hB.out (below_drewN2 _ _))⟩
        case measure => simp [intOf]; omega
      · have hx1 := hc.2 (by omega)
        subst hx1
        have t2 : decide (y ≤ en) = false := decide_eq_false h
        have t3 : decide (y > en) = true := decide_eq_true (by omega)
        have t3' : decide (en < y) = true := decide_eq_true (by omega)
        have t4 : ((-1 : Int) != -1) = false := by decide
        clear hc h
        go_upto_region 13 with (fail)
        go_quiet (fail)
        go_wp2
        go_roundw
        case rel => exact ⟨q + 1, by omega, by go_num, Lib.hid (bel_step hB.out (below_drewN2 _ _))⟩
        case measure => simp [intOf]; omega
    · obtain rfl : q = n := by omega
      go_wp2
      go_ret
      exact ⟨rfl, bel_step BW.out hB.out⟩
end Go.Proofs.YtngmaiiibinkaaaGreat
