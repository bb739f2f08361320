/- The law EU: its walk. -/
import Derived.Test.YtkpackbbahodcaaGreatG15
import Derived.Deep.CutRange
namespace Go.Proofs.YtkpackbbahodcaaGreat
open Go.RowKit
set_option linter.unusedVariables false
set_option linter.unusedSimpArgs false
attribute [local go_sem ↓] Go.wp_at_zero Go.wp_at_succ

set_option maxRecDepth 100000 in
set_option maxHeartbeats 16000000 in
theorem lun_walk (A0 : Option Addr) (cap0 : Nat) (l0 : List Sp) (A1 : Option Addr) (cap1 : Nat) (l1 : List Fv) (a2 : Int) (w : World) (h0 : SRow w A0 cap0 l0) (h1 : FRow w A1 cap1 l1) (i2 : in64 a2) :
    Calls Tryz.prog 4 #[.slice A0 l0.length cap0, .slice A1 l1.length cap1, .int .i64 a2] w fun e w' => e = .returned (.bool true) ∧ Below w.heap.size w w' := by
  have AW := Lib.hid (fun W => awake_any W)
  have hle1 := h1.le
  have hmx1 := h1.mx
  have KF0 := fun (W : World) (hb : Below w.heap.size w W) => fewT_row A1 cap1 l1 W (h1.later hb)
  have KS := Lib.hid (fun (W : World) (hb : Below w.heap.size w W) => set_any 5 (by omega) (by omega) A0 cap0 l0 (l1.length : Int) W (h0.later hb) ⟨by omega, by omega⟩)
  have FB0 := fewT_bd l1
  obtain ⟨fs, hfs⟩ : ∃ fs, fewTS l1 = fs := ⟨_, rfl⟩
  rw [hfs] at KF0 FB0
  have KF := Lib.hid KF0
  have FB := Lib.hid FB0
  have I2 := Lib.hid i2
  clear h0 h1 i2 hfs KF0 FB0
  go_enter Tryz.func4, Tryz.ntmps4
  go_upto_region 2 with (go_at_call 12; (with_reducible refine (AW.out _).mono ?_); rintro e w1 ⟨rfl, hb1⟩; have B1 := Lib.hid hb1; clear hb1)
  go_upto_region 3 with (go_at_call 13; (with_reducible refine (KS.out _ B1.out).mono ?_); rintro e w2 ⟨As, cs, ss, rfl, hRs, hs1, hs5, hsd, hsf, hsp, h2⟩; have RS2 := Lib.hid hRs; have HS1 := Lib.hid hs1; have HS5 := Lib.hid hs5; have HSD := Lib.hid hsd; have HSF := Lib.hid hsf; have HSP := Lib.hid hsp; have B12 := Lib.hid h2; have B2 := Lib.hid (B1.out.trans (h2.mono B1.out.size)); clear hRs hs1 hs5 hsd hsf hsp h2)
  have OK := Lib.hid (set_ok HS1.out (by have := HS5.out; omega) HSD.out HSF.out HSP.out)
  have SM0 := sm_of (M := 5) (n := 10) HS1.out (by have := HS5.out; omega) (by omega) HSD.out HSF.out HSP.out FB.out.1 (by omega) FB.out.2
  obtain ⟨js, hjs⟩ : ∃ js, decS ss fs = js := ⟨_, rfl⟩
  rw [hjs] at SM0
  have SM := Lib.hid SM0
  have HJS := Lib.hid hjs
  clear SM0 hjs
  go_upto_region 4 with (first
    | (go_at_call 15; (with_reducible refine (KF.out _ B2.out).mono ?_); rintro e w3 ⟨Ar, cr, rfl, hFR, h3⟩; have KD0 := dec_row _ _ _ _ ss fs _ (RS2.out.later h3) hFR OK.out; rw [HJS.out] at KD0; have KD := Lib.hid KD0; have H3 := Lib.hid h3; have RS3 := Lib.hid (RS2.out.later h3); have B3 := Lib.hid (B2.out.trans (h3.mono B2.out.size)); clear hFR h3 KD0)
    | (go_at_call 14; (with_reducible refine KD.out.mono ?_); rintro e w4 ⟨Aj, cj, gj, rfl, hFJ, hOJ, hXJ, h4⟩; have H24 := Lib.hid (H3.out.trans (h4.mono H3.out.size)); have H34 := Lib.hid h4; have FJ := Lib.hid hFJ; have OJ := Lib.hid hOJ; have XJ := Lib.hid hXJ; have B4 := Lib.hid (B2.out.trans (H24.out.mono B2.out.size)); have RS := Lib.hid (RS2.out.later H24.out); clear hFJ hOJ hXJ h4 KD))
  clear RS2 KF KS AW FB HJS H3
  have UL := fun (en : Int) (h0 : -9223372036854775808 ≤ en) (h1 : en ≤ 9000000000000000000) W (hb : Below w4.heap.size w4 W) => until_law SM.out (by omega) en h0 h1 W (RS.out.later hb) (FJ.out.later hb)
  obtain ⟨i0, i1⟩ := I2.out
  have hb1 := tmod_bd a2 1000 (by omega)
  have hb2 := emod_bd (a2.tmod 1000) 61 (by omega)
  have KR0 := fun W => lrest_any (a2.tmod 1000) 61 W ⟨by omega, by omega⟩ (by omega) (by omega)
  obtain ⟨q, hq⟩ : ∃ q, a2.tmod 1000 = q := ⟨_, rfl⟩
  obtain ⟨r, hr⟩ : ∃ r, q % 61 = r := ⟨_, rfl⟩
  obtain ⟨mn, hmn⟩ : ∃ mn, min a2 0 = mn := ⟨_, rfl⟩
  rw [hq] at KR0 hb2
  rw [hr] at KR0 hb2
  have KR := Lib.hid KR0
  have U1 := Lib.hid (UL r (by omega) (by omega))
  have U2 := Lib.hid (UL 0 (by omega) (by omega))
  have U3 := Lib.hid (UL mn (by omega) (by omega))
  have U4 := Lib.hid (UL 1125899906842624 (by omega) (by omega))
  clear UL KR0 hb1 hb2 hr i0 i1
  go_wp2_with (first
    | (go_at_call 21; (with_reducible refine (KR.out _).mono ?_); rintro e wx ⟨rfl, rfl⟩)
    | (go_at_call 20; (with_reducible refine (U1.out _ (Below.refl _ _)).mono ?_); rintro e w5 ⟨rfl, h5⟩; have H5 := Lib.hid h5; clear h5)
    | (go_at_call 20; (with_reducible refine (U2.out _ H5.out).mono ?_); rintro e w6 ⟨rfl, h6⟩; have H6 := Lib.hid (bel_step H5.out h6); clear h6)
    | (go_at_call 20; (with_reducible refine (U3.out _ H6.out).mono ?_); rintro e w7 ⟨rfl, h7⟩; have H7 := Lib.hid (bel_step H6.out h7); clear h7)
    | (go_at_call 20; (with_reducible refine (U4.out _ H7.out).mono ?_); rintro e w8 ⟨rfl, h8⟩; have H8 := Lib.hid (bel_step H7.out h8); clear h8))
  go_ret
  exact ⟨rfl, B4.out.trans (H8.out.mono B4.out.size)⟩
end Go.Proofs.YtkpackbbahodcaaGreat
