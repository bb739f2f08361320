/- The law law:TraceRuns: its walk. -/
import Derived.Test.YtngmaiiibinkaaaGreatG15
import Derived.Deep.CutRange
import Derived.Test.YtngmaiiibinkaaaGreatG10
namespace Go.Proofs.YtngmaiiibinkaaaGreat
open Go.RowKit
set_option linter.unusedVariables false
set_option linter.unusedSimpArgs false
attribute [local go_sem ↓] Go.wp_at_zero Go.wp_at_succ

set_option maxRecDepth 100000 in
set_option maxHeartbeats 16000000 in
theorem tru_walk (A0 : Option Addr) (cap0 : Nat) (l0 : List Sp) (A1 : Option Addr) (cap1 : Nat) (l1 : List Fv) (a2 : Int) (w : World) (h0 : SRow w A0 cap0 l0) (h1 : FRow w A1 cap1 l1) (i2 : in64 a2) :
    Calls Tryz.prog 3 #[.slice A0 l0.length cap0, .slice A1 l1.length cap1, .int .i64 a2] w fun e w' => e = .returned (.bool true) ∧ Below w.heap.size w w' := by
  have AW := Lib.hid (fun W => awake_any W)
  have hle1 := h1.le
  have hmx1 := h1.mx
  have KF0 := fun (W : World) (hb : Below w.heap.size w W) => fewT_row A1 cap1 l1 W (h1.later hb)
  have KS := Lib.hid (fun (W : World) (hb : Below w.heap.size w W) => set_any 5 (by omega) (by omega) A0 cap0 l0 a2 W (h0.later hb) i2)
  have FB0 := fewT_bd l1
  obtain ⟨fs, hfs⟩ : ∃ fs, fewTS l1 = fs := ⟨_, rfl⟩
  rw [hfs] at KF0 FB0
  have KF := Lib.hid KF0
  have FB := Lib.hid FB0
  have I2 := Lib.hid i2
  clear h0 h1 i2 hfs KF0 FB0
  go_enter Tryz.func3, Tryz.ntmps3
  go_upto_region 2 with (go_at_call 7; (with_reducible refine (AW.out _).mono ?_); rintro e w1 ⟨rfl, hb1⟩; have B1 := Lib.hid hb1; clear hb1)
  go_upto_region 3 with (go_at_call 8; (with_reducible refine (KS.out _ B1.out).mono ?_); rintro e w2 ⟨As, cs, ss, rfl, hRs, hs1, hs5, hsd, hsf, hsp, h2⟩; have RS2 := Lib.hid hRs; have HS1 := Lib.hid hs1; have HS5 := Lib.hid hs5; have HSD := Lib.hid hsd; have HSF := Lib.hid hsf; have HSP := Lib.hid hsp; have B12 := Lib.hid h2; have B2 := Lib.hid (B1.out.trans (h2.mono B1.out.size)); clear hRs hs1 hs5 hsd hsf hsp h2)
  have OK := Lib.hid (set_ok HS1.out (by have := HS5.out; omega) HSD.out HSF.out HSP.out)
  have SM0 := sm_of (M := 5) (n := 10) HS1.out (by have := HS5.out; omega) (by omega) HSD.out HSF.out HSP.out FB.out.1 (by omega) FB.out.2
  obtain ⟨js, hjs⟩ : ∃ js, decS ss fs = js := ⟨_, rfl⟩
  rw [hjs] at SM0
  have SM := Lib.hid SM0
  have HJS := Lib.hid hjs
  clear SM0 hjs
  go_upto_region 4 with (first
    | (go_at_call 10; (with_reducible refine (KF.out _ B2.out).mono ?_); rintro e w3 ⟨Ar, cr, rfl, hFR, h3⟩; have KD0 := dec_row _ _ _ _ ss fs _ (RS2.out.later h3) hFR OK.out; rw [HJS.out] at KD0; have KD := Lib.hid KD0; have H3 := Lib.hid h3; have RS3 := Lib.hid (RS2.out.later h3); have B3 := Lib.hid (B2.out.trans (h3.mono B2.out.size)); clear hFR h3 KD0)
    | (go_at_call 9; (with_reducible refine KD.out.mono ?_); rintro e w4 ⟨Aj, cj, gj, rfl, hFJ, hOJ, hXJ, h4⟩; have H24 := Lib.hid (H3.out.trans (h4.mono H3.out.size)); have H34 := Lib.hid h4; have FJ := Lib.hid hFJ; have OJ := Lib.hid hOJ; have XJ := Lib.hid hXJ; have B4 := Lib.hid (B2.out.trans (H24.out.mono B2.out.size)); have RS := Lib.hid (RS2.out.later H24.out); clear hFJ hOJ hXJ h4 KD))
  clear RS2 KF KS AW FB HJS H3
  have KR0 := run_sm SM.out (by omega) w4 RS.out FJ.out
  have TF0 := trf_sm SM.out (by omega)
  have RF0 := fun q hq => ru_fact SM.out (by omega) (q := q) hq
  obtain ⟨sp, hsp⟩ : ∃ sp, (tst ss js 9223372036854775807).sp = sp := ⟨_, rfl⟩
  obtain ⟨es, hes⟩ : ∃ es, (tst ss js 9223372036854775807).en = es := ⟨_, rfl⟩
  rw [hsp, hes] at KR0 TF0
  rw [hes] at RF0
  have KR := Lib.hid KR0
  have TF := Lib.hid TF0
  have RF := Lib.hid RF0
  clear KR0 TF0 RF0 hsp hes
  go_upto_region 5 with (go_at_call 11; (with_reducible refine KR.out.mono ?_); rintro e w5 ⟨A1, c1, B1', d1, rfl, hS, hE, hb1⟩; have HS := Lib.hid hS; have HE := Lib.hid hE; have HB5 := Lib.hid hb1; clear hS hE hb1)
  have hel := TF.out.le
  rw [hel]
  have HJ5 := Lib.hid (FJ.out.later HB5.out)
  have HT5 := Lib.hid (RS.out.later HB5.out)
  have KE0 := ends_any w5 HJ5.out (TF.out.row SM.out (by omega) HS.out) (TF.out.edh SM.out (by omega))
  have KM0 := fun W (hb : Below w5.heap.size w5 W) => misses_any W (HT5.out.later hb) (HJ5.out.later hb) (HE.out.later hb) (TF.out.rsh SM.out (by omega)) (by have := SM.out.le; omega)
  have KT0 := fun A W (hb : Below w5.heap.size w5 W) (h : CRow W A js.length es) => sameT_any (n := es.length) W h (HE.out.later hb) rfl
  have KP0 := fun (q : Nat) W (hb : Below w5.heap.size w5 W) => resp_any (q : Int) W (HJ5.out.later hb) (HE.out.later hb) (TF.out.rsh SM.out (by omega))
  have KW0 := fun (t : Int) W (hb : Below w5.heap.size w5 W) => worst_any t W (HJ5.out.later hb) (HE.out.later hb) (TF.out.rsh SM.out (by omega))
  unfold EndP at KE0
  obtain ⟨n, hn⟩ : ∃ n, js.length = n := ⟨_, rfl⟩
  obtain ⟨m, hm⟩ : ∃ m, sp.length = m := ⟨_, rfl⟩
  obtain ⟨t, ht⟩ : ∃ t, ss.length = t := ⟨_, rfl⟩
  obtain ⟨mi, hmi⟩ : ∃ mi, missS ss js es js.length = mi := ⟨_, rfl⟩
  obtain ⟨u, hu⟩ : ∃ u, mi.length = u := ⟨_, rfl⟩
  rw [hmi] at KM0
  unfold MisP at KM0
  rw [List.length_map, TF.out.ends, hm, hn] at KE0
  rw [hel, hn, ht, hu] at KM0
  rw [hel, hn] at KT0 KP0 KW0
  rw [hn, hm, ht]
  have KE := Lib.hid KE0
  have KM := Lib.hid KM0
  have KT := Lib.hid KT0
  have KP := Lib.hid KP0
  have KW := Lib.hid KW0
  have HN := Lib.hid hn
  have HM := Lib.hid hm
  have HT := Lib.hid ht
  have HMI := Lib.hid hmi
  have HU := Lib.hid hu
  have HEL := Lib.hid hel
  have hj10 := SM.out.le
  rw [hn] at hj10
  have BB := Lib.hid (B4.out.trans (HB5.out.mono B4.out.size))
  clear KE0 KM0 KT0 KP0 KW0 KR hn hm ht hmi hu hel
  go_upto_region 6 with (first
    | (go_at_call 13; (with_reducible refine KE.out.mono ?_); rintro e w6 ⟨gE, rfl, hC, hb6⟩; have HC6 := Lib.hid hC; have HB6 := Lib.hid hb6; clear hC hb6)
    | (go_at_call 12; (with_reducible refine (KT.out _ _ HB6.out HC6.out).mono ?_); rintro e w7 ⟨rfl, h7⟩; have HB7 := Lib.hid (bel_step HB6.out h7); clear h7))
  clear KT KE
  go_upto_region 7 with (go_at_call 14; (with_reducible refine (KM.out _ HB7.out).mono ?_); rintro e w8 ⟨Am, cm, rfl, hC, hb8⟩; have HCM := Lib.hid hC; have HB8 := Lib.hid (bel_step HB7.out hb8); clear hC hb8)
  clear KM HB6 HC6 HB7
  have BW := Lib.hid (BB.out.trans (HB8.out.mono BB.out.size))
  have HJ8 := Lib.hid (HJ5.out.later HB8.out)
  have HT8 := Lib.hid (HT5.out.later HB8.out)
  have cmle := HCM.out.le
  have cmmx := HCM.out.mx
  have hcl : (natL mi).length = u := by rw [← HU.out]; simp [natL]
  rw [hcl] at cmle
  have HCL := Lib.hid hcl
  have jle := HJ8.out.le
  have jmx := HJ8.out.mx
  rw [HN.out] at jle
  have tle := HT8.out.le
  have tmx := HT8.out.mx
  rw [HT.out] at tle
  clear hcl
  go_wp2
  go_loopw [14, 15] (fun s14 s15 wr => ∃ q : Nat, q ≤ n ∧ s15 = .int .i64 (q : Int) ∧ s14 = .int .i64 ((missS ss js es q).length : Int) ∧ Hid (Below w8.heap.size w8 wr)) (fun _ i _ => n - (intOf i).toNat)
  case atStart => exact ⟨0, Nat.zero_le _, rfl, rfl, Lib.hid (Below.refl _ _)⟩
  case round =>
    obtain ⟨q, hq, rfl, rfl, hB⟩ := hrel
    by_cases hlt : q < n
    · have hql : q < js.length := by rw [HN.out]; exact hlt
      obtain ⟨f1, f2, f3, g, pp, f4, f5, f6, f7⟩ := RF.out q hql
      obtain ⟨jb', jq, rfl, hjb, JP⟩ := HJ8.out.pin (by rw [HN.out]; omega)
      have htq := SM.out.t q hql
      have KPq0 := KP.out q
      have KWq0 := KW.out (jb js q).t
      rw [f1] at KPq0
      rw [← HN.out, f4] at KWq0
      rw [HN.out] at f6 KWq0
      simp only [respV, Option.getD_some, Option.isSome_some] at KPq0
      simp only [worV, Option.getD_some, Option.isSome_some, Option.map_some] at KWq0
      have hS := missS_succ ss js es q
      have hma := fun hm => miss_at (ts := ss) (js := js) (en := es) hql hm
      rw [f3] at hS hma
      rw [HMI.out] at hma
      obtain ⟨v0, v1, v2, v3⟩ := (JP.later hB.out) q hql
      obtain ⟨p0, -, -, -⟩ := (JP.later hB.out) pp (by rw [HN.out]; exact f6)
      rw [f7] at p0
      obtain ⟨uu, huu⟩ : ∃ uu : Nat, (jb js q).t = (uu : Int) := ⟨(jb js q).t.toNat, by omega⟩
      rw [huu] at v0 p0 KWq0 htq hS hma
      obtain ⟨bt, ot, x, rfl, hx, _, hbt, hG⟩ := (HT8.out.later hB.out).get (k := uu) (by omega)
      have d3 := hG.c3
      have hd : (tk ss (uu : Int)).d = x.d := by rw [tk_get hx]
      rw [hd] at hS hma
      obtain ⟨D, hD⟩ : ∃ D, x.d = D := ⟨_, rfl⟩
      rw [hD] at hS hma d3
      obtain ⟨d, hdd⟩ : ∃ d, kO es q - (jb js q).a = d := ⟨_, rfl⟩
      rw [hdd] at f2 f5 KPq0 hS hma
      obtain ⟨K, hK⟩ : ∃ K, (jb js q).k = K := ⟨_, rfl⟩
      rw [hK] at f2 v3
      have KPq := Lib.hid KPq0
      have KWq := Lib.hid KWq0
      have q0 : (0 : Int) ≤ (q : Int) := by omega
      have q1 : (q : Int) < (n : Int) := by omega
      have u0 : (0 : Int) ≤ (uu : Int) := by omega
      have u1 : (uu : Int) < (t : Int) := by rw [← HT.out]; exact htq.2
      have e0 : (0 : Int) ≤ (pp : Int) := by omega
      have e1 : (pp : Int) < (n : Int) := by omega
      have t1 : decide (d < K) = false := decide_eq_false (by omega)
      have t2 : decide (d > g) = false := decide_eq_false (by omega)
      have t2' : decide (g < d) = false := decide_eq_false (by omega)
      have t3 : decide ((pp : Int) < 0) = false := decide_eq_false (by omega)
      have t4 : decide ((pp : Int) ≥ (n : Int)) = false := decide_eq_false (by omega)
      have t4' : decide (n ≤ pp) = false := decide_eq_false (by omega)
      obtain ⟨kq, hkq⟩ : ∃ kq, (missS ss js es q).length = kq := ⟨_, rfl⟩
      have hkq1 : kq ≤ 10 := by have := missS_len ss js es q; omega
      rw [hkq] at hma ⊢
      have HS := Lib.hid hS
      have HMA := Lib.hid hma
      have HKQ := Lib.hid hkq
      clear f1 f2 f3 f4 f5 f6 f7 JP htq KPq0 KWq0 hS hma huu hx hbt hG hd hD hdd hK hjb hql hkq v1 v2
      go_upto_region 12 with (go_at_call 15; (with_reducible refine (KPq.out _ (bel_step HB8.out hB.out)).mono ?_); rintro e w9 ⟨rfl, mq, rfl⟩)
      have bq := below_drewN2 wr mq
      have v0 := cells_below bq _ _ _ v0
      have v3 := cells_below bq _ _ _ v3
      have p0 := cells_below bq _ _ _ p0
      have d3 := cells_below bq _ _ _ d3
      have HB9 := Lib.hid (bel_step hB.out bq)
      generalize wr.drewN mq = W9 at *
      clear bq hB KPq
      go_upto_region 13 with (go_at_call 16; (with_reducible refine (KWq.out _ (bel_step HB8.out HB9.out)).mono ?_); rintro e w10 ⟨rfl, hb10⟩; have v0 := cells_below hb10 _ _ _ v0; have v3 := cells_below hb10 _ _ _ v3; have p0 := cells_below hb10 _ _ _ p0; have d3 := cells_below hb10 _ _ _ d3; have HB10 := Lib.hid (bel_step HB9.out hb10); clear hb10)
      clear KWq HB9
      go_quiet (fail)
      have bq := below_drewN2 w10 nq
      have v0 := cells_below bq _ _ _ v0
      have d3 := cells_below bq _ _ _ d3
      have HB11 := Lib.hid (bel_step HB10.out bq)
      generalize w10.drewN nq = W11 at *
      clear bq HB10 t1 t2 t2' t3 t4 t4' p0 v3
      by_cases hd : D < d
      · have t1 : decide (d > D) = true := decide_eq_true hd
        have t1' : decide (D < d) = true := decide_eq_true hd
        have hx := HMA.out (decide_eq_true hd)
        have hku : kq < u := by rw [← HU.out]; exact (List.getElem?_eq_some_iff.1 hx).1
        have hxx : (natL mi)[kq]? = some (q : Int) := by simp only [natL]; rw [List.getElem?_map, hx]; rfl
        obtain ⟨bm, om, eA, hcm⟩ := HCM.out.at_ kq _ hxx
        subst eA
        have hcm := cells_below (bel_step (Below.refl _ _) HB11.out) _ _ _ (cells_below (Below.refl _ _) _ _ _ hcm)
        have k0 : (0 : Int) ≤ (kq : Int) := by omega
        have k1 : (kq : Int) < (u : Int) := by omega
        have t2 : decide ((kq : Int) ≥ (u : Int)) = false := decide_eq_false (by omega)
        have t2' : decide (u ≤ kq) = false := decide_eq_false (by omega)
        have t3 : ((q : Int) != (q : Int)) = false := by simp
        have HSS : Hid ((missS ss js es (q + 1)).length = kq + 1) := Lib.hid (by rw [HS.out, if_pos (decide_eq_true hd), List.length_append, HKQ.out]; rfl)
        clear hx hxx hd
        go_wp2
        go_roundw
        case rel => exact ⟨q + 1, by omega, by go_num, by rw [HSS.out]; go_num, HB11⟩
        case measure => simp [intOf]; omega
      · have t1 : decide (d > D) = false := decide_eq_false hd
        have t1' : decide (D < d) = false := decide_eq_false hd
        have HSS : Hid ((missS ss js es (q + 1)).length = kq) := Lib.hid (by rw [HS.out, if_neg (by simpa using hd), List.append_nil, HKQ.out])
        clear hd
        go_wp2
        go_roundw
        case rel => exact ⟨q + 1, by omega, by go_num, by rw [HSS.out], HB11⟩
        case measure => simp [intOf]; omega
    · obtain rfl : q = n := by omega
      have hle : (missS ss js es q).length = u := by rw [← HU.out, ← HMI.out, HN.out]
      rw [hle]
      go_wp2
      go_ret
      exact ⟨rfl, bel_step BW.out hB.out⟩
end Go.Proofs.YtngmaiiibinkaaaGreat
