/- RtaSound: the walk. -/
import Derived.Test.YtnhddnldebdmbaaGreatDoorG10
import Derived.Test.YtnhddnldebdmbaaGreatDoorG13
import Derived.Test.YtnhddnldebdmbaaGreatDoorG15
import Derived.Deep.CutRange
namespace Go.Proofs.YtnhddnldebdmbaaGreatDoor
open Go.RowKit
set_option linter.unusedVariables false
set_option linter.unusedSimpArgs false
theorem so_gen {ss : List Ts} {js : List Fv} {M n : Nat} (h : Sm ss js M n) (hM : M ≤ 6) {T : Nat} (hT : T ≤ 9223372036854775807) (hd : ∀ i, i < js.length → kO (tst ss js T).dn i = (jb js i).k) :
    (tst ss js T).en.length = js.length ∧ ∀ i, i < js.length → 0 < kO (tst ss js T).en i ∧ kO (tst ss js T).en i ≤ 9223372036854775807 ∧ ∀ r, boundI ss (jb js i).t = (r, 0) → kO (tst ss js T).en i - (jb js i).a ≤ r ∧ r ≤ (tk ss (jb js i).t).d := by
  have hR := rnf_gen (ss := ss) h.lgs (b := 9223372036854775807) (by omega) hd
  have hs : St ss := ⟨h.s1, by have := h.sM; omega, h.di, h.sf, h.pr⟩
  exact ⟨hR.le, fun i hi => ⟨(hR.en i hi).1, (hR.en i hi).2, fun r hb => bound_sound hs h.ljs hi hb (hd i hi)⟩⟩
theorem so_fact {ss : List Ts} {js : List Fv} {M n : Nat} (h : Sm ss js M n) (hM : M ≤ 6) (hn : n ≤ 12) :
    (tst ss js 9223372036854775807).en.length = js.length ∧ ∀ i, i < js.length → 0 < kO (tst ss js 9223372036854775807).en i ∧ kO (tst ss js 9223372036854775807).en i ≤ 9223372036854775807 ∧ ∀ r, boundI ss (jb js i).t = (r, 0) → kO (tst ss js 9223372036854775807).en i - (jb js i).a ≤ r ∧ r ≤ (tk ss (jb js i).t).d :=
  so_gen h hM (Nat.le_refl _) (h.doneT hn)
set_option maxRecDepth 100000 in
set_option maxHeartbeats 16000000 in
theorem rso_walk (A0 : Option Addr) (cap0 : Nat) (l0 : List Sp) (A1 : Option Addr) (cap1 : Nat) (l1 : List Fv) (a2 : Int) (w : World) (hTb : Tab w) (h0 : SRow w A0 cap0 l0) (h1 : FRow w A1 cap1 l1) (i2 : in64 a2) :
    Calls Tryz.prog 3 #[.slice A0 l0.length cap0, .slice A1 l1.length cap1, .int .i64 a2] w fun e w' => e = .returned (.bool true) ∧ Below w.heap.size w w' := by
  have AW := Lib.hid (awake_any w hTb)
  have HTB := Lib.hid (fun (W : World) (hb : Below w.heap.size w W) => hTb.below hb)
  have hle1 := h1.le
  have hmx1 := h1.mx
  have KF0 := fun (W : World) (hb : Below w.heap.size w W) => fewT_row A1 cap1 l1 W (h1.later hb)
  have KS := Lib.hid (fun (W : World) (hb : Below w.heap.size w W) => set_any 5 (by omega) (by omega) A0 cap0 l0 a2 W (h0.later hb) i2)
  have FB0 := fewT_bd l1
  obtain ⟨fs, hfs⟩ : ∃ fs, fewTS l1 = fs := ⟨_, rfl⟩
  rw [hfs] at KF0 FB0
  have KF := Lib.hid KF0
  have FB := Lib.hid FB0
  have I2 := Lib.hid i2
  clear h0 h1 i2 hfs KF0 FB0 hTb
  go_enter Tryz.func3, Tryz.ntmps3
  go_upto_region 2 with (go_at_call 4; (with_reducible refine AW.out.mono ?_); rintro e w1 ⟨rfl, hb1⟩; have B1 := Lib.hid hb1; clear hb1)
  go_upto_region 3 with (go_at_call 5; (with_reducible refine (KS.out _ B1.out).mono ?_); rintro e w2 ⟨As, cs, ss, rfl, hRs, hs1, hs5, hsd, hsf, hsp, h2⟩; have RS2 := Lib.hid hRs; have HS1 := Lib.hid hs1; have HS5 := Lib.hid hs5; have HSD := Lib.hid hsd; have HSF := Lib.hid hsf; have HSP := Lib.hid hsp; have B12 := Lib.hid h2; have B2 := Lib.hid (B1.out.trans (h2.mono B1.out.size)); clear hRs hs1 hs5 hsd hsf hsp h2)
  have OK := Lib.hid (set_ok HS1.out (by have := HS5.out; omega) HSD.out HSF.out HSP.out)
  have SM0 := sm_of (M := 5) (n := 12) HS1.out (by have := HS5.out; omega) (by omega) HSD.out HSF.out HSP.out FB.out.1 (by omega) FB.out.2
  obtain ⟨js, hjs⟩ : ∃ js, decS ss fs = js := ⟨_, rfl⟩
  rw [hjs] at SM0
  have SM := Lib.hid SM0
  have HJS := Lib.hid hjs
  clear SM0 hjs
  go_upto_region 4 with (first
    | (go_at_call 7; (with_reducible refine (KF.out _ B2.out).mono ?_); rintro e w3 ⟨Ar, cr, rfl, hFR, h3⟩; have KD0 := dec_row _ _ _ _ ss fs _ (RS2.out.later h3) hFR OK.out; rw [HJS.out] at KD0; have KD := Lib.hid KD0; have H3 := Lib.hid h3; have RS3 := Lib.hid (RS2.out.later h3); have B3 := Lib.hid (B2.out.trans (h3.mono B2.out.size)); clear hFR h3 KD0)
    | (go_at_call 6; (with_reducible refine KD.out.mono ?_); rintro e w4 ⟨Aj, cj, gj, rfl, hFJ, hOJ, hXJ, h4⟩; have H24 := Lib.hid (H3.out.trans (h4.mono H3.out.size)); have H34 := Lib.hid h4; have FJ := Lib.hid hFJ; have OJ := Lib.hid hOJ; have XJ := Lib.hid hXJ; have B4 := Lib.hid (B2.out.trans (H24.out.mono B2.out.size)); have RS := Lib.hid (RS2.out.later H24.out); clear hFJ hOJ hXJ h4 KD))
  clear RS2 KF KS AW FB HJS H3
  have KR0 := run_sm SM.out (by omega) w4 RS.out FJ.out
  have UF0 := so_fact SM.out (by omega) (by omega)
  obtain ⟨sp, hsp⟩ : ∃ sp, (tst ss js 9223372036854775807).sp = sp := ⟨_, rfl⟩
  obtain ⟨es, hes⟩ : ∃ es, (tst ss js 9223372036854775807).en = es := ⟨_, rfl⟩
  rw [hes] at UF0
  rw [hsp, hes] at KR0
  have KR := Lib.hid KR0
  have UF := Lib.hid UF0
  clear KR0 UF0 hsp hes
  go_upto_region 5 with (go_at_call 8; (with_reducible refine KR.out.mono ?_); rintro e w5 ⟨A1, c1, B1', d1, rfl, hS, hE, hb1⟩; have HS := Lib.hid hS; have HE := Lib.hid hE; have HB5 := Lib.hid hb1; clear hS hE hb1)
  have hel := UF.out.1
  rw [hel]
  obtain ⟨n, hn⟩ : ∃ n, js.length = n := ⟨_, rfl⟩
  obtain ⟨t, ht⟩ : ∃ t, ss.length = t := ⟨_, rfl⟩
  have hj10 := SM.out.le
  have hs5 := SM.out.sM
  have hs1 := SM.out.s1
  rw [hn] at hj10
  rw [ht] at hs5 hs1
  have BB := Lib.hid (B4.out.trans (HB5.out.mono B4.out.size))
  have KB := fun (W : World) (h : Below w5.heap.size w5 W) (i : Int) (hi : in64 i) => rta_bound As cs ss i W ((RS.out.later HB5.out).later h) hi (HTB.out _ (BB.out.trans (h.mono BB.out.size)))
  rw [ht] at KB
  have KB := Lib.hid KB
  rw [hn, ht]
  have HN := Lib.hid hn
  have HT := Lib.hid ht
  have HEL := Lib.hid hel
  have HR5 := Lib.hid (RS.out.later HB5.out)
  have HJ5 := Lib.hid (FJ.out.later HB5.out)
  have tmx := RS.out.mx
  have tle := RS.out.le
  rw [ht] at tle
  have jle := HJ5.out.le
  have jmx := HJ5.out.mx
  rw [HN.out] at jle
  have ele := HE.out.le
  have emx := HE.out.mx
  rw [HEL.out, HN.out] at ele
  clear hn ht hel KR
  have hnn : (((n : Nat) : Int) != (n : Int)) = false := by simp
  go_wp2
  go_loopw [12] (fun i wr => ∃ k : Nat, k ≤ n ∧ i = .int .i64 (k : Int) ∧ Hid (Below w5.heap.size w5 wr)) (fun i _ => n - (intOf i).toNat)
  case atStart => exact ⟨0, Nat.zero_le _, rfl, Lib.hid (Below.refl _ _)⟩
  case round =>
    obtain ⟨k, hk, rfl, hB⟩ := hrel
    by_cases hlt : k < n
    · have hkj : k < js.length := by rw [HN.out]; exact hlt
      obtain ⟨jb', jq, rfl, hjb, JP⟩ := HJ5.out.pin (by omega)
      obtain ⟨eb, eq, rfl, heb, EP⟩ := HE.out.pin (by rw [HEL.out]; omega)
      obtain ⟨v0, v1, -, -⟩ := (JP.later hB.out) k hkj
      have JPk := Lib.hid (JP k hkj)
      have EPk := Lib.hid (EP k (by rw [HEL.out]; exact hkj))
      obtain ⟨p0, p1⟩ := SM.out.t k hkj
      rw [HT.out] at p1
      obtain ⟨u, hu⟩ : ∃ u : Nat, (jb js k).t = (u : Int) := ⟨(jb js k).t.toNat, by omega⟩
      obtain ⟨e0, e1, e2⟩ := UF.out.2 k hkj
      obtain ⟨ra0, ra1, -, -, -⟩ := SM.out.arb (by omega) hkj
      rw [hu] at v0 p0 p1 e2
      have hus : u < ss.length := by rw [HT.out]; omega
      obtain ⟨tb, tq, y, rfl, hy, hyw, htb, TP⟩ := HR5.out.get hus
      rw [tk_get hy] at e2
      have HTP := Lib.hid TP
      have hbd := boundI_bd ss (u : Int)
      have KBu := fun W h => KB.out W h (u : Int) ⟨by omega, by omega⟩
      obtain ⟨⟨br, be⟩, hbr⟩ : ∃ p, boundI ss (u : Int) = p := ⟨_, rfl⟩
      rw [hbr] at KBu e2 hbd
      simp only at KBu hbd
      have KBu := Lib.hid KBu
      have hk0 : (0 : Int) ≤ (k : Int) := by omega
      have hk1 : (k : Int) < (n : Int) := by omega
      have hu0 : (0 : Int) ≤ (u : Int) := by omega
      have hu1 : (u : Int) < (t : Int) := by omega
      have E2 := Lib.hid e2
      have HII := Lib.hid hlt
      have HUU := Lib.hid hu
      clear e2 TP hy hyw JP EP v1 hus hkj p0 p1 hbr
      go_upto_region 11 with (go_at_call 9; (with_reducible refine (KBu.out _ hB.out).mono ?_); rintro e w6 ⟨rfl, hb6⟩; have HB6 := Lib.hid (hB.out.trans (hb6.mono hB.out.size)); clear hb6)
      clear v0
      have v0 := cells_below HB6.out _ _ _ JPk.out.1
      have v1 := cells_below HB6.out _ _ _ JPk.out.2.1
      rw [HUU.out] at v0
      have ee := cells_below HB6.out _ _ _ EPk.out
      have d3 := (HTP.out.later HB6.out).c3
      generalize kO es k = en at *
      generalize (jb js k).a = ja at *
      have HWS := Lib.hid (show wrap64 (en - ja) = en - ja ∧ IntKind.i64.wrap (en - ja) = en - ja from ⟨IntWalk.wrap64_in _ (by omega), by rw [IntKind.wrap_i64]; omega⟩)
      by_cases h0 : be = 0
      · subst h0
        obtain ⟨f1, f2⟩ := E2.out br rfl
        have t1 : decide (en - ja > br) = false := decide_eq_false (by omega)
        have t1' : decide (br < en - ja) = false := decide_eq_false (by omega)
        have t2 : decide (br > y.d) = false := decide_eq_false (by omega)
        have t2' : decide (y.d < br) = false := decide_eq_false (by omega)
        clear f1 f2 e0 e1 ra0 ra1 hbd hlt
        obtain ⟨hw1, hw1'⟩ := HWS.out
        go_quiet (fail)
        clear hw1 hw1'
        go_wp2
        go_roundw
        case rel => exact ⟨k + 1, by have := HII.out; omega, by go_num, Lib.hid (HB6.out.trans ((below_drewN2 _ _).mono HB6.out.size))⟩
        case measure => have := HII.out; simp [intOf]; omega
      · have t0 : (be == 0) = false := by simpa using h0
        clear e0 e1 ra0 ra1 hbd hlt h0
        go_quiet (fail)
        go_wp2
        go_roundw
        case rel => exact ⟨k + 1, by have := HII.out; omega, by go_num, Lib.hid (HB6.out.trans ((below_drewN2 _ _).mono HB6.out.size))⟩
        case measure => have := HII.out; simp [intOf]; omega
    · obtain rfl : k = n := by omega
      go_wp2
      go_ret
      exact ⟨rfl, BB.out.trans (hB.out.mono BB.out.size)⟩
end Go.Proofs.YtnhddnldebdmbaaGreatDoor
