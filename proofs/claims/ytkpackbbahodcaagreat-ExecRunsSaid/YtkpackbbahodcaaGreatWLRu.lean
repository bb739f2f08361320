/- The law ER: its walk. -/
import Derived.Test.YtkpackbbahodcaaGreatG15
import Derived.Deep.CutRange
namespace Go.Proofs.YtkpackbbahodcaaGreat
open Go.RowKit
set_option linter.unusedVariables false
set_option linter.unusedSimpArgs false
attribute [local go_sem ↓] Go.wp_at_zero Go.wp_at_succ

set_option maxRecDepth 100000 in
set_option maxHeartbeats 16000000 in
theorem lru_walk (A0 : Option Addr) (cap0 : Nat) (l0 : List Sp) (A1 : Option Addr) (cap1 : Nat) (l1 : List Fv) (a2 : Int) (w : World) (h0 : SRow w A0 cap0 l0) (h1 : FRow w A1 cap1 l1) (i2 : in64 a2) :
    Calls Tryz.prog 3 #[.slice A0 l0.length cap0, .slice A1 l1.length cap1, .int .i64 a2] w fun e w' => e = .returned (.bool true) ∧ Below w.heap.size w w' := by
  have AW := Lib.hid (fun W => awake_any W)
  have hle1 := h1.le
  have hmx1 := h1.mx
  have KF0 := fun (W : World) (hb : Below w.heap.size w W) => fewT_row A1 cap1 l1 W (h1.later hb)
  have KS := Lib.hid (fun (W : World) (hb : Below w.heap.size w W) => set_any 5 (by omega) (by omega) A0 cap0 l0 a2 W (h0.later hb) i2)
  have FB0 := fewT_bd l1
  obtain ⟨fs, hfs⟩ : ∃ fs, fewTS l1 = fs := ⟨_, rfl⟩
  rw [hfs] at KF0 FB0
  have KF := Lib.hid KF0
  have FB := Lib.hid FB0
  have I2 := Lib.hid i2
  clear h0 h1 i2 hfs KF0 FB0
  go_enter Tryz.func3, Tryz.ntmps3
  go_upto_region 2 with (go_at_call 12; (with_reducible refine (AW.out _).mono ?_); rintro e w1 ⟨rfl, hb1⟩; have B1 := Lib.hid hb1; clear hb1)
  go_upto_region 3 with (go_at_call 13; (with_reducible refine (KS.out _ B1.out).mono ?_); rintro e w2 ⟨As, cs, ss, rfl, hRs, hs1, hs5, hsd, hsf, hsp, h2⟩; have RS2 := Lib.hid hRs; have HS1 := Lib.hid hs1; have HS5 := Lib.hid hs5; have HSD := Lib.hid hsd; have HSF := Lib.hid hsf; have HSP := Lib.hid hsp; have B12 := Lib.hid h2; have B2 := Lib.hid (B1.out.trans (h2.mono B1.out.size)); clear hRs hs1 hs5 hsd hsf hsp h2)
  have OK := Lib.hid (set_ok HS1.out (by have := HS5.out; omega) HSD.out HSF.out HSP.out)
  have SM0 := sm_of (M := 5) (n := 10) HS1.out (by have := HS5.out; omega) (by omega) HSD.out HSF.out HSP.out FB.out.1 (by omega) FB.out.2
  obtain ⟨js, hjs⟩ : ∃ js, decS ss fs = js := ⟨_, rfl⟩
  rw [hjs] at SM0
  have SM := Lib.hid SM0
  have HJS := Lib.hid hjs
  clear SM0 hjs
  go_upto_region 4 with (first
    | (go_at_call 15; (with_reducible refine (KF.out _ B2.out).mono ?_); rintro e w3 ⟨Ar, cr, rfl, hFR, h3⟩; have KD0 := dec_row _ _ _ _ ss fs _ (RS2.out.later h3) hFR OK.out; rw [HJS.out] at KD0; have KD := Lib.hid KD0; have H3 := Lib.hid h3; have RS3 := Lib.hid (RS2.out.later h3); have B3 := Lib.hid (B2.out.trans (h3.mono B2.out.size)); clear hFR h3 KD0)
    | (go_at_call 14; (with_reducible refine KD.out.mono ?_); rintro e w4 ⟨Aj, cj, gj, rfl, hFJ, hOJ, hXJ, h4⟩; have H24 := Lib.hid (H3.out.trans (h4.mono H3.out.size)); have H34 := Lib.hid h4; have FJ := Lib.hid hFJ; have OJ := Lib.hid hOJ; have XJ := Lib.hid hXJ; have B4 := Lib.hid (B2.out.trans (H24.out.mono B2.out.size)); have RS := Lib.hid (RS2.out.later H24.out); clear hFJ hOJ hXJ h4 KD))
  clear RS2 KF KS AW FB HJS H3
  have KR0 := run_sm SM.out (by omega) w4 RS.out FJ.out
  have RU0 := fun W (hb : Below w4.heap.size w4 W) => rrun_sm SM.out (by omega) W (RS.out.later hb) (FJ.out.later hb)
  obtain ⟨sp, hsp⟩ : ∃ sp, (tst ss js 9223372036854775807).sp = sp := ⟨_, rfl⟩
  obtain ⟨es, hes⟩ : ∃ es, (tst ss js 9223372036854775807).en = es := ⟨_, rfl⟩
  rw [hsp, hes] at KR0 RU0
  have KR := Lib.hid KR0
  have RU := Lib.hid RU0
  clear KR0 RU0 hsp hes
  go_upto_region 5 with (go_at_call 16; (with_reducible refine KR.out.mono ?_); rintro e w5 ⟨A1, c1, B1', d1, rfl, hS, hE, hb1⟩; have HS := Lib.hid hS; have HE := Lib.hid hE; have HB1 := Lib.hid hb1; clear hS hE hb1)
  go_upto_region 6 with (go_at_call 17; (with_reducible refine (RU.out _ HB1.out).mono ?_); rintro e w2' ⟨A2, c2, B2', d2, D2, rfl, hS2, hE2, hb2⟩; have HS2 := Lib.hid hS2; have HE2 := Lib.hid hE2; have HB2 := Lib.hid hb2; clear hS2 hE2 hb2)
  have KS := Lib.hid (fun W (hb : Below w2'.heap.size w2' W) => sameS_any (n := sp.length) W ((HS.out.later HB2.out).later hb) (HS2.out.later hb) rfl)
  have KT := Lib.hid (fun W (hb : Below w2'.heap.size w2' W) => sameT_any (n := es.length) W ((HE.out.later HB2.out).later hb) (HE2.out.later hb) rfl)
  have BA := Lib.hid (show Below w2'.heap.size w2' (w2'.alloc (.cells #[.slice A2 sp.length c2, .slice B2' es.length d2, .slice D2 es.length es.length] TGo)) from (Below.refl _ _).alloc (Nat.le_refl _) _)
  have z1 := cells3 w2' TGo (.slice A2 sp.length c2) (.slice B2' es.length d2) (.slice D2 es.length es.length)
  have Z := Lib.hid z1
  clear z1
  obtain ⟨xb, hxb⟩ : ∃ xb, w2'.heap.size = xb := ⟨_, rfl⟩
  obtain ⟨W3, hW3⟩ : ∃ W3, w2'.alloc (.cells #[.slice A2 sp.length c2, .slice B2' es.length d2, .slice D2 es.length es.length] TGo) = W3 := ⟨_, rfl⟩
  rw [hW3] at BA Z ⊢
  have z0 := Z.out.1
  have z1 := Z.out.2.1
  rw [hxb] at z0 z1 ⊢
  clear hW3 hxb Z
  go_wp2_with (first
    | (go_at_call 18; (with_reducible refine (KS.out _ BA.out).mono ?_); rintro e w6 ⟨rfl, h4⟩; have HB4 := Lib.hid h4; have z1 := cells_below h4 _ _ _ z1; clear h4)
    | (go_at_call 19; (with_reducible refine (KT.out _ (bel_step BA.out HB4.out)).mono ?_); rintro e w7 ⟨rfl, h5⟩; have HB5 := Lib.hid h5; clear h5))
  go_ret
  exact ⟨rfl, (B4.out.trans ((HB1.out.trans (HB2.out.mono HB1.out.size)).mono B4.out.size)).trans ((bel_step (bel_step BA.out HB4.out) HB5.out).mono (by have := B4.out.size; have := HB1.out.size; have := HB2.out.size; omega))⟩
end Go.Proofs.YtkpackbbahodcaaGreat
