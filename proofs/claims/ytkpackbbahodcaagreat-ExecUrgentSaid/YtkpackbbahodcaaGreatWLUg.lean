/- The law EUr: its walk. -/
import Derived.Test.YtkpackbbahodcaaGreatG15
import Derived.Deep.CutRange
namespace Go.Proofs.YtkpackbbahodcaaGreat
open Go.RowKit
set_option linter.unusedVariables false
set_option linter.unusedSimpArgs false
attribute [local go_sem ↓] Go.wp_at_zero Go.wp_at_succ
/-- What the law asks of a span, and of a job. -/
def UgP (ss : List Ts) (js : List Fv) (es : List Int) (x : Spn) (k : Nat) : Prop :=
  (tk ss (jb js k).t).p < (tk ss (jb js x.j).t).p → x.f < kO es k → 0 < x.t - max x.f (jb js k).r → ¬ (jb js k).r ≤ x.f ∧ x.t - max x.f (jb js k).r < (tk ss (jb js x.j).t).q
theorem ug_gen {ss : List Ts} {js : List Fv} {M n : Nat} (h : Sm ss js M n) {T : Nat} (hT : T ≤ 9223372036854775807) (hd : ∀ i, i < js.length → kO (tst ss js T).dn i = (jb js i).k) : RnF 9223372036854775807 ss js (tst ss js T).sp (tst ss js T).en ∧ ∀ x ∈ (tst ss js T).sp, ∀ k, k < js.length → UgP ss js (tst ss js T).en x k := by
  have hU := ug_all (ts := ss) (q := fun i => (tk ss (jb js i).t).q) h.lgs (fun i y hy => by
    by_cases hi : i < js.length
    · exact (jb_lj h.ljs hi).q y hy
    · rw [jb_out (by omega)] at hy; cases hy) T
  have hR := rnf_gen (ss := ss) h.lgs (b := 9223372036854775807) (by omega) hd
  refine ⟨hR, fun x hx k hk hp he hw => ?_⟩
  have hs := hR.sj x hx
  have := hU.sp x hx k hk hp (.inr he) (by omega)
  omega
theorem ug_fact {ss : List Ts} {js : List Fv} {M n : Nat} (h : Sm ss js M n) (hn : n ≤ 10) : RnF 9223372036854775807 ss js (tst ss js 9223372036854775807).sp (tst ss js 9223372036854775807).en ∧ ∀ x ∈ (tst ss js 9223372036854775807).sp, ∀ k, k < js.length → UgP ss js (tst ss js 9223372036854775807).en x k :=
  ug_gen h (Nat.le_refl _) (h.doneT hn)
set_option maxRecDepth 100000 in
set_option maxHeartbeats 16000000 in
theorem lug_walk (A0 : Option Addr) (cap0 : Nat) (l0 : List Sp) (A1 : Option Addr) (cap1 : Nat) (l1 : List Fv) (a2 : Int) (w : World) (h0 : SRow w A0 cap0 l0) (h1 : FRow w A1 cap1 l1) (i2 : in64 a2) :
    Calls Tryz.prog 7 #[.slice A0 l0.length cap0, .slice A1 l1.length cap1, .int .i64 a2] w fun e w' => e = .returned (.bool true) ∧ Below w.heap.size w w' := by
  have AW := Lib.hid (fun W => awake_any W)
  have hle1 := h1.le
  have hmx1 := h1.mx
  have KF0 := fun (W : World) (hb : Below w.heap.size w W) => fewT_row A1 cap1 l1 W (h1.later hb)
  have KS := Lib.hid (fun (W : World) (hb : Below w.heap.size w W) => set_any 5 (by omega) (by omega) A0 cap0 l0 a2 W (h0.later hb) i2)
  have FB0 := fewT_bd l1
  obtain ⟨fs, hfs⟩ : ∃ fs, fewTS l1 = fs := ⟨_, rfl⟩
  rw [hfs] at KF0 FB0
  have KF := Lib.hid KF0
  have FB := Lib.hid FB0
  have I2 := Lib.hid i2
  clear h0 h1 i2 hfs KF0 FB0
  go_enter Tryz.func7, Tryz.ntmps7
  go_upto_region 2 with (go_at_call 12; (with_reducible refine (AW.out _).mono ?_); rintro e w1 ⟨rfl, hb1⟩; have B1 := Lib.hid hb1; clear hb1)
  go_upto_region 3 with (go_at_call 13; (with_reducible refine (KS.out _ B1.out).mono ?_); rintro e w2 ⟨As, cs, ss, rfl, hRs, hs1, hs5, hsd, hsf, hsp, h2⟩; have RS2 := Lib.hid hRs; have HS1 := Lib.hid hs1; have HS5 := Lib.hid hs5; have HSD := Lib.hid hsd; have HSF := Lib.hid hsf; have HSP := Lib.hid hsp; have B12 := Lib.hid h2; have B2 := Lib.hid (B1.out.trans (h2.mono B1.out.size)); clear hRs hs1 hs5 hsd hsf hsp h2)
  have OK := Lib.hid (set_ok HS1.out (by have := HS5.out; omega) HSD.out HSF.out HSP.out)
  have SM0 := sm_of (M := 5) (n := 10) HS1.out (by have := HS5.out; omega) (by omega) HSD.out HSF.out HSP.out FB.out.1 (by omega) FB.out.2
  obtain ⟨js, hjs⟩ : ∃ js, decS ss fs = js := ⟨_, rfl⟩
  rw [hjs] at SM0
  have SM := Lib.hid SM0
  have HJS := Lib.hid hjs
  clear SM0 hjs
  go_upto_region 4 with (first
    | (go_at_call 15; (with_reducible refine (KF.out _ B2.out).mono ?_); rintro e w3 ⟨Ar, cr, rfl, hFR, h3⟩; have KD0 := dec_row _ _ _ _ ss fs _ (RS2.out.later h3) hFR OK.out; rw [HJS.out] at KD0; have KD := Lib.hid KD0; have H3 := Lib.hid h3; have RS3 := Lib.hid (RS2.out.later h3); have B3 := Lib.hid (B2.out.trans (h3.mono B2.out.size)); clear hFR h3 KD0)
    | (go_at_call 14; (with_reducible refine KD.out.mono ?_); rintro e w4 ⟨Aj, cj, gj, rfl, hFJ, hOJ, hXJ, h4⟩; have H24 := Lib.hid (H3.out.trans (h4.mono H3.out.size)); have H34 := Lib.hid h4; have FJ := Lib.hid hFJ; have OJ := Lib.hid hOJ; have XJ := Lib.hid hXJ; have B4 := Lib.hid (B2.out.trans (H24.out.mono B2.out.size)); have RS := Lib.hid (RS2.out.later H24.out); clear hFJ hOJ hXJ h4 KD))
  clear RS2 KF KS AW FB HJS H3
  have KR0 := run_sm SM.out (by omega) w4 RS.out FJ.out
  have UF0 := ug_fact SM.out (by omega)
  obtain ⟨sp, hsp⟩ : ∃ sp, (tst ss js 9223372036854775807).sp = sp := ⟨_, rfl⟩
  obtain ⟨es, hes⟩ : ∃ es, (tst ss js 9223372036854775807).en = es := ⟨_, rfl⟩
  rw [hsp, hes] at KR0 UF0
  have KR := Lib.hid KR0
  have UF := Lib.hid UF0
  clear KR0 UF0 hsp hes
  go_upto_region 5 with (go_at_call 16; (with_reducible refine KR.out.mono ?_); rintro e w5 ⟨A1, c1, B1', d1, rfl, hS, hE, hb1⟩; have HS := Lib.hid hS; have HE := Lib.hid hE; have HB5 := Lib.hid hb1; clear hS hE hb1)
  have hel := UF.out.1.le
  rw [hel]
  obtain ⟨n, hn⟩ : ∃ n, js.length = n := ⟨_, rfl⟩
  obtain ⟨m, hm⟩ : ∃ m, sp.length = m := ⟨_, rfl⟩
  obtain ⟨t, ht⟩ : ∃ t, ss.length = t := ⟨_, rfl⟩
  have hj10 := SM.out.le
  have hs5 := SM.out.sM
  have hs1 := SM.out.s1
  rw [hn] at hj10
  rw [ht] at hs5 hs1
  rw [hn, hm, ht]
  have HN := Lib.hid hn
  have HM := Lib.hid hm
  have HT := Lib.hid ht
  have HEL := Lib.hid hel
  obtain ⟨tb, tq, rfl, htb, TP⟩ := RS.out.pin (by rw [ht]; exact hs1)
  have HTP := Lib.hid (TP.later HB5.out)
  have HJ5 := Lib.hid (FJ.out.later HB5.out)
  have BB := Lib.hid (B4.out.trans (HB5.out.mono B4.out.size))
  have smx := HS.out.mx
  have sle := HS.out.le
  have tmx := RS.out.mx
  have tle := RS.out.le
  rw [hm] at sle
  rw [ht] at tle
  clear hn hm ht hel TP htb KR
  have hnn : (((n : Nat) : Int) != (n : Int)) = false := by simp
  go_wp2
  go_loopw [12] (fun i wr => ∃ k : Nat, k ≤ m ∧ i = .int .i64 (k : Int) ∧ Hid (Below w5.heap.size w5 wr)) (fun i _ => m - (intOf i).toNat)
  case atStart => exact ⟨0, Nat.zero_le _, rfl, Lib.hid (Below.refl _ _)⟩
  case round =>
    obtain ⟨k, hk, rfl, hB⟩ := hrel
    by_cases hlt : k < m
    · have hkl : k < sp.length := by rw [HM.out]; exact hlt
      have hxm := spG_mem hkl
      obtain ⟨x, hx⟩ : ∃ x, spG sp k = x := ⟨_, rfl⟩
      rw [hx] at hxm
      obtain ⟨xj, x0, x1, x2⟩ := UF.out.1.sj x hxm
      have hn0 : 0 < js.length := by omega
      rw [HN.out] at xj
      obtain ⟨sb, sq, rfl, hsb, SP⟩ := HS.out.pin (by omega)
      obtain ⟨jb', jq, rfl, hjb, JP⟩ := HJ5.out.pin hn0
      obtain ⟨eb, eq, rfl, heb, EP⟩ := HE.out.pin (by rw [HEL.out]; exact hn0)
      obtain ⟨z0, z1, z2⟩ := (SP.later hB.out) k hkl
      rw [hx] at z0 z1 z2
      have UX := Lib.hid (UF.out.2 x hxm)
      obtain ⟨xJ, xF, xT⟩ := x
      simp only at xj x0 x1 x2 z0 z1 z2
      have jle := HJ5.out.le
      have jmx := HJ5.out.mx
      rw [HN.out] at jle
      have ele := HE.out.le
      have emx := HE.out.mx
      rw [HEL.out, HN.out] at ele
      have JPh := Lib.hid JP
      have EPh := Lib.hid EP
      have hi0 : (0 : Int) ≤ (k : Int) := by omega
      have hi1 : (k : Int) < (m : Int) := by omega
      have q0 : (0 : Int) ≤ (xJ : Int) := by omega
      have q1 : (xJ : Int) < (n : Int) := by omega
      have r1 : decide ((xJ : Int) < 0) = false := decide_eq_false (by omega)
      have r2 : decide ((xJ : Int) ≥ (n : Int)) = false := decide_eq_false (by omega)
      have r2' : decide ((n : Int) ≤ (xJ : Int)) = false := decide_eq_false (by omega)
      have r2'' : decide (n ≤ xJ) = false := decide_eq_false (by omega)
      have HXM := Lib.hid hxm
      clear SP JP EP hx hxm
      go_upto_region 11 with (fail)
      have F1 := Lib.hid (cells3 wr TSp (.int .i64 (xJ : Int)) (.int .i64 xF) (.int .i64 xT))
      have BW : Below wr.heap.size wr (wr.alloc (.cells #[.int .i64 (xJ : Int), .int .i64 xF, .int .i64 xT] TSp)) := (Below.refl _ _).alloc (Nat.le_refl _) _
      have HBW := Lib.hid (hB.out.trans (BW.mono hB.out.size))
      obtain ⟨xb, hxb⟩ : ∃ xb, wr.heap.size = xb := ⟨_, rfl⟩
      rw [hxb] at F1 ⊢
      generalize wr.alloc (.cells #[.int .i64 (xJ : Int), .int .i64 xF, .int .i64 xT] TSp) = W1 at *
      obtain ⟨y0, y1, y2⟩ := F1.out
      clear z0 z1 z2 BW hxb
      go_wp2
      go_loopw [14, 15, 16, 17] (fun i u v ww wr2 => ∃ kk : Nat, kk ≤ n ∧ i = .int .i64 (kk : Int) ∧ Hid (Below W1.heap.size W1 wr2)) (fun i _ _ _ _ => n - (intOf i).toNat)
      case atStart => exact ⟨0, Nat.zero_le _, rfl, Lib.hid (Below.refl _ _)⟩
      case round =>
        obtain ⟨kk, hkk, rfl, hB2⟩ := hrel
        by_cases hlt2 : kk < n
        · obtain ⟨v0, v1, v2, -⟩ := ((JPh.out.later HBW.out).later hB2.out) kk (by rw [HN.out]; exact hlt2)
          obtain ⟨g0, g1, g2, -⟩ := ((JPh.out.later HBW.out).later hB2.out) xJ (by rw [HN.out]; exact xj)
          obtain ⟨t0, t1⟩ := SM.out.t kk (by rw [HN.out]; exact hlt2)
          obtain ⟨p0, p1⟩ := SM.out.t xJ (by rw [HN.out]; exact xj)
          obtain ⟨u, hu⟩ : ∃ u : Nat, (jb js kk).t = (u : Int) := ⟨(jb js kk).t.toNat, by omega⟩
          obtain ⟨v, hv⟩ : ∃ v : Nat, (jb js xJ).t = (v : Int) := ⟨(jb js xJ).t.toNat, by omega⟩
          rw [HT.out] at t1 p1
          rw [hu] at v0 t0 t1
          rw [hv] at g0 p0 p1
          obtain ⟨-, a5, a6⟩ := ((HTP.out.later HBW.out).later hB2.out) u (by rw [HT.out]; omega)
          obtain ⟨-, b5, b6⟩ := ((HTP.out.later HBW.out).later hB2.out) v (by rw [HT.out]; omega)
          have ee := ((EPh.out.later HBW.out).later hB2.out) kk (by rw [HEL.out, HN.out]; exact hlt2)
          have y0 := cells_below hB2.out _ _ _ y0
          have y1 := cells_below hB2.out _ _ _ y1
          have y2 := cells_below hB2.out _ _ _ y2
          have hk0 : (0 : Int) ≤ (kk : Int) := by omega
          have hk1 : (kk : Int) < (n : Int) := by omega
          have UK := UX.out kk (by rw [HN.out]; exact hlt2)
          unfold UgP at UK
          simp only at UK
          rw [hu, hv] at UK
          obtain ⟨ra0, -, ra1, ra2, -⟩ := SM.out.arb (by omega) (i := kk) (by rw [HN.out]; exact hlt2)
          generalize (tk ss (u : Int)).p = pu at *
          generalize (tk ss (v : Int)).p = pv at *
          generalize (tk ss (u : Int)).q = qu at *
          generalize (tk ss (v : Int)).q = qv at *
          generalize (jb js kk).r = rk at *
          generalize kO es kk = ek at *
          obtain ⟨mx, hmx⟩ : ∃ mx, max xF rk = mx := ⟨_, rfl⟩
          obtain ⟨wt, hwt⟩ : ∃ wt, xT - mx = wt := ⟨_, rfl⟩
          have hwr : IntKind.i64.wrap (xT - mx) = wt := by rw [← hwt]; exact IntWalk.i64_in _ (by omega)
          rw [hmx, hwt] at UK
          have UKh := Lib.hid UK
          clear UK v1 g1 g2 a5
          have HMX : Hid (max xF rk = mx) := Lib.hid hmx
          clear hwt
          by_cases c1 : pu < pv
          · have t1 : decide (pu < pv) = true := decide_eq_true c1
            by_cases c2 : ek > xF
            · have t2 : decide (ek > xF) = true := decide_eq_true c2
              have t2' : decide (xF < ek) = true := decide_eq_true c2
              by_cases c3 : wt > 0
              · have t3 : decide (wt > 0) = true := decide_eq_true c3
                have t3' : decide (0 < wt) = true := decide_eq_true c3
                obtain ⟨f1, f2⟩ := UKh.out c1 c2 c3
                have t4 : decide (rk ≤ xF) = false := decide_eq_false f1
                have t5 : decide (wt ≥ qv) = false := decide_eq_false (by omega)
                have t5' : decide (qv ≤ wt) = false := decide_eq_false (by omega)
                clear UKh c1 c2 c3 f1 f2
                go_upto_region 18 with (fail)
                go_quiet (fail)
                go_upto_region 19 with (fail)
                go_quiet (fail)
                go_wp2
                go_roundw
                case rel => exact ⟨kk + 1, by omega, by go_num, Lib.hid (hB2.out.trans ((below_drewN2 _ _).mono hB2.out.size))⟩
                case measure => simp [intOf]; omega
              · have t3 : decide (wt > 0) = false := decide_eq_false c3
                have t3' : decide (0 < wt) = false := decide_eq_false c3
                clear UKh c1 c2 c3
                go_upto_region 18 with (fail)
                go_quiet (fail)
                go_upto_region 19 with (fail)
                go_quiet (fail)
                go_wp2
                go_roundw
                case rel => exact ⟨kk + 1, by omega, by go_num, Lib.hid (hB2.out.trans ((below_drewN2 _ _).mono hB2.out.size))⟩
                case measure => simp [intOf]; omega
            · have t2 : decide (ek > xF) = false := decide_eq_false c2
              have t2' : decide (xF < ek) = false := decide_eq_false c2
              clear UKh c1 c2
              go_upto_region 18 with (fail)
              go_quiet (fail)
              go_upto_region 19 with (fail)
              go_quiet (fail)
              go_wp2
              go_roundw
              case rel => exact ⟨kk + 1, by omega, by go_num, Lib.hid (hB2.out.trans ((below_drewN2 _ _).mono hB2.out.size))⟩
              case measure => simp [intOf]; omega
          · have t1 : decide (pu < pv) = false := decide_eq_false c1
            clear UKh c1
            go_upto_region 18 with (fail)
            go_quiet (fail)
            go_upto_region 19 with (fail)
            go_quiet (fail)
            go_wp2
            go_roundw
            case rel => exact ⟨kk + 1, by omega, by go_num, Lib.hid (hB2.out.trans ((below_drewN2 _ _).mono hB2.out.size))⟩
            case measure => simp [intOf]; omega
        · obtain rfl : kk = n := by omega
          go_wp2
          go_roundw
          case rel => exact ⟨k + 1, by omega, by go_num, Lib.hid (HBW.out.trans (hB2.out.mono HBW.out.size))⟩
          case measure => simp [intOf]; omega
    · obtain rfl : k = m := by omega
      go_wp2
      go_ret
      exact ⟨rfl, BB.out.trans (hB.out.mono BB.out.size)⟩
end Go.Proofs.YtkpackbbahodcaaGreat
