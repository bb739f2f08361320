/- The law ESh: its walk. -/
import Derived.Test.YtkpackbbahodcaaGreatG15
import Derived.Deep.CutRange
namespace Go.Proofs.YtkpackbbahodcaaGreat
open Go.RowKit
set_option linter.unusedVariables false
set_option linter.unusedSimpArgs false
attribute [local go_sem ↓] Go.wp_at_zero Go.wp_at_succ

set_option maxRecDepth 100000 in
set_option maxHeartbeats 16000000 in
theorem lsh_walk (A0 : Option Addr) (cap0 : Nat) (l0 : List Sp) (A1 : Option Addr) (cap1 : Nat) (l1 : List Fv) (a2 : Int) (w : World) (h0 : SRow w A0 cap0 l0) (h1 : FRow w A1 cap1 l1) (i2 : in64 a2) :
    Calls Tryz.prog 10 #[.slice A0 l0.length cap0, .slice A1 l1.length cap1, .int .i64 a2] w fun e w' => e = .returned (.bool true) ∧ Below w.heap.size w w' := by
  have AW := Lib.hid (fun W => awake_any W)
  have hle1 := h1.le
  have hmx1 := h1.mx
  have KF0 := fun (W : World) (hb : Below w.heap.size w W) => fewT_row A1 cap1 l1 W (h1.later hb)
  have KS := Lib.hid (fun (W : World) (hb : Below w.heap.size w W) => set_any 5 (by omega) (by omega) A0 cap0 l0 (l1.length : Int) W (h0.later hb) ⟨by omega, by omega⟩)
  have FB0 := fewT_bd l1
  obtain ⟨fs, hfs⟩ : ∃ fs, fewTS l1 = fs := ⟨_, rfl⟩
  rw [hfs] at KF0 FB0
  have KF := Lib.hid KF0
  have FB := Lib.hid FB0
  have I2 := Lib.hid i2
  clear h0 h1 i2 hfs KF0 FB0
  go_enter Tryz.func10, Tryz.ntmps10
  go_upto_region 2 with (go_at_call 12; (with_reducible refine (AW.out _).mono ?_); rintro e w1 ⟨rfl, hb1⟩; have B1 := Lib.hid hb1; clear hb1)
  go_upto_region 3 with (go_at_call 13; (with_reducible refine (KS.out _ B1.out).mono ?_); rintro e w2 ⟨As, cs, ss, rfl, hRs, hs1, hs5, hsd, hsf, hsp, h2⟩; have RS2 := Lib.hid hRs; have HS1 := Lib.hid hs1; have HS5 := Lib.hid hs5; have HSD := Lib.hid hsd; have HSF := Lib.hid hsf; have HSP := Lib.hid hsp; have B12 := Lib.hid h2; have B2 := Lib.hid (B1.out.trans (h2.mono B1.out.size)); clear hRs hs1 hs5 hsd hsf hsp h2)
  have OK := Lib.hid (set_ok HS1.out (by have := HS5.out; omega) HSD.out HSF.out HSP.out)
  have SM0 := sm_of (M := 5) (n := 10) HS1.out (by have := HS5.out; omega) (by omega) HSD.out HSF.out HSP.out FB.out.1 (by omega) FB.out.2
  obtain ⟨js, hjs⟩ : ∃ js, decS ss fs = js := ⟨_, rfl⟩
  rw [hjs] at SM0
  have SM := Lib.hid SM0
  have HJS := Lib.hid hjs
  clear SM0 hjs
  go_upto_region 4 with (first
    | (go_at_call 15; (with_reducible refine (KF.out _ B2.out).mono ?_); rintro e w3 ⟨Ar, cr, rfl, hFR, h3⟩; have KD0 := dec_row _ _ _ _ ss fs _ (RS2.out.later h3) hFR OK.out; rw [HJS.out] at KD0; have KD := Lib.hid KD0; have H3 := Lib.hid h3; have RS3 := Lib.hid (RS2.out.later h3); have B3 := Lib.hid (B2.out.trans (h3.mono B2.out.size)); clear hFR h3 KD0)
    | (go_at_call 14; (with_reducible refine KD.out.mono ?_); rintro e w4 ⟨Aj, cj, gj, rfl, hFJ, hOJ, hXJ, h4⟩; have H24 := Lib.hid (H3.out.trans (h4.mono H3.out.size)); have H34 := Lib.hid h4; have FJ := Lib.hid hFJ; have OJ := Lib.hid hOJ; have XJ := Lib.hid hXJ; have B4 := Lib.hid (B2.out.trans (H24.out.mono B2.out.size)); have RS := Lib.hid (RS2.out.later H24.out); clear hFJ hOJ hXJ h4 KD))
  clear RS2 KF KS AW FB HJS H3
  obtain ⟨K, hK, hKe⟩ := low40 a2
  obtain ⟨kz, hkz⟩ : ∃ kz : Int, (K : Int) = kz := ⟨_, rfl⟩
  rw [hkz] at hKe
  have hkb : 0 ≤ kz ∧ kz ≤ 1099511627775 := by omega
  have HKZ := Lib.hid hkz
  have HKb := Lib.hid hK
  obtain ⟨sp, hsp⟩ : ∃ sp, (tst ss js 9223372036854775807).sp = sp := ⟨_, rfl⟩
  obtain ⟨es, hes⟩ : ∃ es, (tst ss js 9223372036854775807).en = es := ⟨_, rfl⟩
  have hrf := rnf_sm SM.out (by omega)
  have hse := shf_end (ts := ss) (K := K) SM.out.lgs (T := 9223372036854775807) (SM.out.done (by omega)) (by omega)
  rw [hkz] at hse
  rw [hsp, hes] at hse hrf
  have HRF := Lib.hid hrf
  obtain ⟨n, hn⟩ : ∃ n, js.length = n := ⟨_, rfl⟩
  obtain ⟨m, hm⟩ : ∃ m, sp.length = m := ⟨_, rfl⟩
  have hel : es.length = n := by rw [hrf.le, hn]
  have hn10 := SM.out.le
  rw [hn] at hn10
  have KR := Lib.hid (fun W (hb : Below w4.heap.size w4 W) => runk_sm SM.out (by omega) W (RS.out.later hb) (FJ.out.later hb) hn hsp hes hm hel)
  have KQ := Lib.hid (fun (A : Option Addr) (c : Nat) W (hb : Below w4.heap.size w4 W) (hF : FRow W A c (js.map (shfJ kz))) => runk_leg (A := As) (cap := cs) (ts := ss) (k := n) (m := m) (n := n) W (RS.out.later hb) hF (by rw [List.length_map]; exact hn) SM.out.di (by have := SM.out.sM; omega) (by rw [List.length_map]; omega) (by
      have := SM.out.tot (by omega)
      rw [List.map_map]
      show (js.map (·.k)).sum ≤ _
      omega) (shf_leg SM.out.lg (by omega) (fun j hj => by have := SM.out.ar (by omega) j hj; omega)) hse.1 hse.2 (by rw [List.length_map]; exact hm) (by rw [List.length_map]; exact hel))
  have HN := Lib.hid hn
  have HM := Lib.hid hm
  have HEL := Lib.hid hel
  clear hkz hK hse hrf hsp hes hm hel
  obtain ⟨i0, hi, hz0, hz1, hz2⟩ := info_parts infoJs
  go_upto_region 6 with (fail)
  rw [hn]
  clear hn
  go_wp2
  go_loopw [11, 12] (fun v i wr => ∃ k : Nat, k ≤ n ∧ i = .int .i64 (k : Int) ∧ Hid (JIn w4 wr v ((js.take k).map (shfJ kz)))) (fun _ i _ => n - (intOf i).toNat)
  case atStart => exact ⟨0, Nat.zero_le _, rfl, Lib.hid (JIn.nil w4)⟩
  case round =>
    obtain ⟨k, hk, rfl, hI⟩ := hrel
    by_cases hlt : k < n
    · obtain ⟨rb, ro, x, C, cc, rfl, hx, hrb, hF0⟩ := FJ.out.get (k := k) (by rw [HN.out]; exact hlt)
      have hF := hF0.later hI.out.bel
      have c0 := hF.c0
      have c1 := hF.c1
      have c2 := hF.c2
      have c3 := hF.c3
      have c4 := hF.c4
      have hj0 : (0 : Int) ≤ (k : Int) := by omega
      have hj1 : (k : Int) < (n : Int) := by omega
      obtain ⟨gs, hG, hgs⟩ := hI.out.own
      have hgl : gs.length = k := by
        have := congrArg List.length hgs
        rw [List.length_map, List.length_map, List.length_take, HN.out] at this
        omega
      have har := SM.out.ar (by omega) x (List.mem_of_getElem? hx)
      have hw1 : IntKind.i64.wrap (x.a + kz) = x.a + kz := IntWalk.i64_in _ (by omega)
      have hw2 : IntKind.i64.wrap (x.r + kz) = x.r + kz := IntWalk.i64_in _ (by omega)
      have HSF : Hid (Safe 46 w4.heap.size wr C x.c) := Lib.hid (fun hne a ha => by
        obtain ⟨b, o, y, hA, _, _, hbl, _⟩ := hF0.s.get (k := 0) (by rcases Nat.eq_zero_or_pos x.c.length with h0 | h0; exact absurd (List.length_eq_zero_iff.1 h0) hne; exact h0)
        rw [ha] at hA
        cases hA
        exact .inl hbl)
      have HG := Lib.hid hG
      have HGS := Lib.hid hgs
      have HGL := Lib.hid hgl
      have HF := Lib.hid hF
      have HX := Lib.hid hx
      have HBW := Lib.hid hI.out.bel
      have HAR := Lib.hid har
      clear hF hF0 hx hG hgs hgl hI har
      go_upto_region 12 with (fail)
      have F1 := Lib.hid (FB.new wr 46 (.int .i64 x.t) (.int .i64 (x.a + kz)) (.int .i64 (x.r + kz)) (.int .i64 x.k) (.slice C x.c.length cc))
      have B1 : Hid (Below wr.heap.size wr (wr.alloc (.cells #[.int .i64 x.t, .int .i64 (x.a + kz), .int .i64 (x.r + kz), .int .i64 x.k, .slice C x.c.length cc] 46))) := Lib.hid ((Below.refl _ _).alloc (Nat.le_refl _) _)
      generalize (wr.alloc (.cells #[.int .i64 x.t, .int .i64 (x.a + kz), .int .i64 (x.r + kz), .int .i64 x.k, .slice C x.c.length cc] 46)) = W1 at *
      obtain ⟨bx, hbx⟩ : ∃ bx, bx = wr.heap.size := ⟨_, rfl⟩
      rw [← hbx] at F1 ⊢
      obtain ⟨z0, z1, z2, z3, z4⟩ := F1.out.z
      have G3 : Hid (GOk 46 w4.heap.size W1 ⟨shfJ kz x, C, cc⟩) := Lib.hid ⟨⟨HF.out.wf.t, ⟨by have := HAR.out; simp only [shfJ]; omega, by have := HAR.out; simp only [shfJ]; omega⟩, ⟨by have := HAR.out; simp only [shfJ]; omega, by have := HAR.out; simp only [shfJ]; omega⟩, HF.out.wf.k⟩, HF.out.s.later B1.out, fun hne a ha => by
        rcases HSF.out hne a ha with h1 | ⟨cs, T, fr, h1, h2⟩
        · exact .inl h1
        · exact .inr ⟨cs, T, fr, (B1.out.block _ (Array.getElem?_eq_some_iff.1 h1).1).trans h1, h2⟩⟩
      have HFA := Lib.hid (fun j u hu => by
        have := (FAt.new W1 (shfJ kz x) C cc 46 G3.out.wf G3.out.s).r j u hu
        rw [Nat.zero_add] at this
        rw [add_none, Nat.zero_add]
        exact this : ∀ j u, (fvL (shfJ kz x) C cc)[j]? = some u → (W1.alloc (.cells #[.int .i64 x.t, .int .i64 (x.a + kz), .int .i64 (x.r + kz), .int .i64 x.k, .slice C x.c.length cc] 46)).cell? ((⟨W1.heap.size, 0, none⟩ : Addr).add j) = some u)
      have HG2 := Lib.hid (HG.out.later B1.out)
      clear c0 c1 c2 c3 c4 hbx hw1 hw2 HF
      go_wp2_with (refine wpList_append_own _ rfl _ _ 27 rfl w4.heap.size 46 i0 _ 5 56 Tryz.underlying27 hi hz0 hz1 hz2 rfl (by decide) _ gs.length (gvC gs) rfl (HG2.out.row.alloc _) ⟨W1.heap.size, 0, none⟩ 1 1 (fvL (shfJ kz x) C cc) rfl rfl HFA.out (fvL_one _ _ _) (by have := HGL.out; unfold maxLen; omega) (by have := HGL.out; omega) (by have := HBW.out.size; have := B1.out.size; simp; omega) ?_; intro v' w8 hown' hgrow hnil')
      go_roundw
      case rel =>
        have ba : Below W1.heap.size W1 (W1.alloc (.cells #[.int .i64 x.t, .int .i64 (x.a + kz), .int .i64 (x.r + kz), .int .i64 x.k, .slice C x.c.length cc] 46)) := (Below.refl _ _).alloc (Nat.le_refl _) _
        have hp := push_step HG2.out G3.out (bel_step HBW.out B1.out) ba hown' hgrow
        exact ⟨k + 1, by omega, by go_num, Lib.hid ⟨⟨_, hp.1, by rw [take_one HX.out, List.map_append, List.map_append, HGS.out]; rfl⟩, hp.2⟩⟩
      case measure => simp [intOf]; omega
    · obtain rfl : k = n := by omega
      obtain ⟨gs, hG, hgs⟩ := hI.out.own
      rw [List.take_of_length_le (by rw [HN.out]; exact Nat.le_refl _)] at hgs
      have hgl : gs.length = k := by
        have := congrArg List.length hgs
        rw [List.length_map, List.length_map, HN.out] at this
        exact this
      obtain ⟨A6, c6, hv6, hF6⟩ := hG.frow
      rw [hgl] at hv6
      rw [hgs] at hF6
      subst hv6
      have HBW := Lib.hid hI.out.bel
      have KR2 := Lib.hid (KR.out _ HBW.out)
      have F6 := Lib.hid hF6
      clear hG hgs hgl hI KR hF6
      go_upto_region 14 with (go_at_call 16; (with_reducible refine KR2.out.mono ?_); rintro e w5 ⟨A1, c1, B1', d1, rfl, hS, hE, hb1⟩; have HS := Lib.hid hS; have HE := Lib.hid hE; have HB5 := Lib.hid hb1; clear hS hE hb1)
      have KQ2 := Lib.hid (KQ.out A6 c6 _ (bel_step HBW.out HB5.out) (F6.out.later HB5.out))
      clear KQ
      go_upto_region 15 with (go_at_call 16; (with_reducible refine KQ2.out.mono ?_); rintro e w6 ⟨A2, c2, B2', d2, rfl, hS, hE, hb1⟩; have HS2 := Lib.hid hS; have HE2 := Lib.hid hE; have HB6 := Lib.hid hb1; clear hS hE hb1)
      have BB := Lib.hid (B4.out.trans ((bel_step (bel_step HBW.out HB5.out) HB6.out).mono B4.out.size))
      have HS := Lib.hid (HS.out.later HB6.out)
      have HE := Lib.hid (HE.out.later HB6.out)
      have s1 := HS.out.le
      have s2 := HS.out.mx
      have s3 := HS2.out.le
      have s4 := HS2.out.mx
      have e1 := HE.out.le
      have e2 := HE.out.mx
      have e3 := HE2.out.le
      have e4 := HE2.out.mx
      rw [HM.out] at s1
      rw [List.length_map, HM.out] at s3
      rw [HEL.out] at e1
      rw [List.length_map, HEL.out] at e3
      have hnn : ((k : Int) != (k : Int)) = false := by simp
      have hmm : ((m : Int) != (m : Int)) = false := by simp
      clear KR2 KQ2
      go_upto_region 16 with (fail)
      go_wp2
      go_loopw [18] (fun i wr2 => ∃ q : Nat, q ≤ m ∧ i = .int .i64 (q : Int) ∧ Hid (Below w6.heap.size w6 wr2)) (fun i _ => m - (intOf i).toNat)
      case atStart => exact ⟨0, Nat.zero_le _, rfl, Lib.hid (Below.refl _ _)⟩
      case round =>
        obtain ⟨q, hq, rfl, hB⟩ := hrel
        by_cases hlq : q < m
        · have hql : q < sp.length := by rw [HM.out]; exact hlq
          obtain ⟨sb, sq, rfl, hsb, SP⟩ := HS.out.pin (by omega)
          obtain ⟨tb, tq, rfl, htb, TP⟩ := HS2.out.pin (by rw [List.length_map]; omega)
          obtain ⟨z0, z1, z2⟩ := (SP.later hB.out) q hql
          obtain ⟨y0, y1, y2⟩ := (TP.later hB.out) q (by rw [List.length_map]; exact hql)
          rw [spG_map _ hql] at y0 y1 y2
          have hx := HRF.out.sj _ (spG_mem hql)
          generalize spG sp q = x at *
          obtain ⟨xj, xf, xt⟩ := x
          simp only [shfP] at z0 z1 z2 y0 y1 y2 hx
          have hw1 : IntKind.i64.wrap (xf + kz) = xf + kz := IntWalk.i64_in _ (by omega)
          have hw2 : IntKind.i64.wrap (xt + kz) = xt + kz := IntWalk.i64_in _ (by omega)
          have hj0 : (0 : Int) ≤ (q : Int) := by omega
          have hj1 : (q : Int) < (m : Int) := by omega
          clear SP TP hx
          go_upto_region 20 with (fail)
          go_quiet (fail)
          go_wp2
          go_roundw
          case rel => exact ⟨q + 1, by omega, by go_num, Lib.hid (hB.out.trans ((below_drewN2 _ _).mono hB.out.size))⟩
          case measure => simp [intOf]; omega
        · obtain rfl : q = m := by omega
          have HB7 := Lib.hid hB.out
          clear hB
          go_wp2
          go_loopw [19] (fun i wr2 => ∃ q : Nat, q ≤ k ∧ i = .int .i64 (q : Int) ∧ Hid (Below w6.heap.size w6 wr2)) (fun i _ => k - (intOf i).toNat)
          case atStart => exact ⟨0, Nat.zero_le _, rfl, HB7⟩
          case round =>
            obtain ⟨q2, hq2, rfl, hB⟩ := hrel
            by_cases hlq2 : q2 < k
            · have hql : q2 < es.length := by rw [HEL.out]; exact hlq2
              obtain ⟨sb, sq, rfl, hsb, SP⟩ := HE.out.pin (by omega)
              obtain ⟨tb, tq, rfl, htb, TP⟩ := HE2.out.pin (by rw [List.length_map]; omega)
              have z0 := (SP.later hB.out) q2 hql
              have y0 := (TP.later hB.out) q2 (by rw [List.length_map]; exact hql)
              rw [kO_map hql] at y0
              have hx := HRF.out.en q2 (by rw [HN.out]; exact hlq2)
              generalize kO es q2 = x at *
              try simp only at y0
              have hw1 : IntKind.i64.wrap (x + kz) = x + kz := IntWalk.i64_in _ (by omega)
              have hj0 : (0 : Int) ≤ (q2 : Int) := by omega
              have hj1 : (q2 : Int) < (k : Int) := by omega
              have hxx : ((x + kz) != (x + kz)) = false := by simp
              clear SP TP hx
              go_upto_region 25 with (fail)
              go_quiet (fail)
              go_wp2
              go_roundw
              case rel => exact ⟨q2 + 1, by omega, by go_num, Lib.hid (hB.out.trans ((below_drewN2 _ _).mono hB.out.size))⟩
              case measure => simp [intOf]; omega
            · obtain rfl : q2 = k := by omega
              go_wp2
              go_ret
              exact ⟨rfl, BB.out.trans (hB.out.mono BB.out.size)⟩
end Go.Proofs.YtkpackbbahodcaaGreat
