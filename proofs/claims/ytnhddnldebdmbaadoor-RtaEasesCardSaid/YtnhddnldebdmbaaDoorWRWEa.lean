/- RtaEases: the walk. -/
import Derived.Test.YtnhddnldebdmbaaDoorG10
import Derived.Test.YtnhddnldebdmbaaDoorG11
namespace Go.Proofs.YtnhddnldebdmbaaDoor
open Go.RowKit
set_option linter.unusedVariables false
set_option linter.unusedSimpArgs false
set_option maxRecDepth 100000 in
set_option maxHeartbeats 8000000 in
theorem rea_walk (A0 : Option Addr) (cap0 : Nat) (l0 : List Sp) (x0 x1 a2 : Int) (w : World) (hT : Tab w) (h0 : SRow w A0 cap0 l0) (i0 : in64 x0) (i1 : in64 x1) (i2 : in64 a2) :
    Calls Tryd.prog 7 #[.slice A0 l0.length cap0, .agg #[.int .i64 x0, .int .i64 x1], .int .i64 a2] w fun e w' => e = .returned (.bool true) ∧ Below w.heap.size w w' := by
  obtain ⟨if0, hi, hz0, hz1, hz2⟩ := info_parts infoTs
  have KA := Lib.hid awake_any
  have KS := Lib.hid (fun W (h : Lt w W) => set_any 6 (by omega) (by omega) A0 cap0 l0 a2 W (h0.later h) i2)
  have HTB := Lib.hid (fun W (h : Lt w W) => hT.below h)
  generalize l0.length = m0 at *
  clear h0 hT i2
  go_enter Tryd.func7, Tryd.ntmps7
  go_upto_region 1 with (fail)
  obtain ⟨V0, hV0, HQ, HL⟩ : ∃ V0, w.alloc (.cells #[.int .i64 x0, .int .i64 x1] 43) = V0 ∧ Hid (Q2 w.heap.size x0 x1 V0) ∧ Hid (Lt w V0) := ⟨_, rfl, Lib.hid (Q2.new w _ x0 x1), Lib.hid (lt_alloc _ _)⟩
  rw [hV0]
  clear hV0
  generalize hbq : w.heap.size = bq at *
  clear hbq
  go_upto_region 2 with (go_at_call 8; (with_reducible refine (KA.out _ (HTB.out _ HL.out)).mono ?_); rintro e v0 ⟨rfl, h⟩; have HQ := Lib.hid (HQ.out.step h); have HL := Lib.hid (lt_step _ _ HL.out h); clear h)
  go_upto_region 3 with (go_at_call 9; (with_reducible refine (KS.out _ HL.out).mono ?_); rintro e v ⟨A, cap, ts, rfl, hR, hn1, hn6, hd, hsf, hp, h⟩; have HR := Lib.hid hR; have HST := Lib.hid (St.mk hn1 (by omega) hd hsf hp); have HQ := Lib.hid (HQ.out.step h); have HL := Lib.hid (lt_step _ _ HL.out h); clear h hR hsf hd hp)
  obtain ⟨-, q0, q1⟩ := HQ.out
  have hle := HR.out.le
  have hmx := HR.out.mx
  obtain ⟨r0, r1⟩ := restI_bd x0 (ts.length : Int) (by omega) (by omega)
  obtain ⟨s0, s1⟩ := restI_bd x1 4 (by omega) (by omega)
  have KR := Lib.hid (fun W => rest_any x0 (ts.length : Int) W i0 (by omega) (by omega))
  have KR2 := Lib.hid (fun W => rest_any x1 4 W i1 (by omega) (by omega))
  generalize restI x0 (ts.length : Int) = r at *
  generalize restI x1 4 = s at *
  obtain ⟨k, rfl⟩ : ∃ k : Nat, r = (k : Int) := ⟨r.toNat, by omega⟩
  obtain ⟨bk, ok, y, rfl, hy, hyw, hbl, hTk⟩ := HR.out.get (k := k) (by omega)
  have HY := Lib.hid hy
  have HYW := Lib.hid hyw
  have HSF := Lib.hid (HST.out.s k y hy)
  have HP := Lib.hid (HST.out.p k y hy)
  have ik : in64 (k : Int) := ⟨by omega, by omega⟩
  have HIK := Lib.hid ik
  generalize hN : ts.length = N at *
  have HN := Lib.hid hN
  have hN6 : N ≤ 6 := by omega
  have hkN : k < N := by omega
  have HWT := Lib.hid HR.out.wf
  have HCE := Lib.hid HR.out.cells
  have HV : Hid (Lt v v) := Lib.hid (Below.refl _ _)
  have HLV := HL
  clear hN hTk hy hyw hbl i0 i1 ik hn1 hn6 r0 r1
  go_upto_region 4 with (go_at_call 11; (with_reducible refine (KR.out _).mono ?_); rintro e v1 ⟨rfl, rfl⟩)
  go_upto_region 5 with (at_builtin; refine wpList_append_own _ rfl _ _ 23 rfl v.heap.size 35 if0 _ 7 64 Tryd.underlying23 hi hz0 hz1 hz2 rfl (by decide) _ 0 [] rfl (World.ownsRow_made v #[] 0 (Nat.le_refl _) (Nat.zero_le _) (by simp)) ⟨bk, ok, none⟩ N cap (tsCells ts) rfl (by rw [tsCells_len, HN.out]) (HR.out.later ((Below.refl _ _).alloc (Nat.le_refl _) _)).cells (tsCells_one ts) (by unfold maxLen; omega) (by omega) (by simp) ?_; intro v' w4 hown' hgrow hnil')
  have hW4 : Below v.heap.size v w4 := ((Below.refl v.heap.size v).alloc (Nat.le_refl _) _).grown hgrow (by simp) (fun q hq => by cases hq; exact Nat.le_refl _)
  have hI : SetIn v.heap.size w4 v' N ts := ⟨HN.out, HWT.out, by simpa using hown'⟩
  obtain ⟨ge, ce, rfl, hO⟩ := hI.own (by omega)
  have HO := Lib.hid hO
  have HQ := Lib.hid (HQ.out.step hW4)
  have HL := Lib.hid (lt_step _ _ HL.out hW4)
  have HV := Lib.hid (show Lt v w4 from hW4)
  clear hown' hgrow hnil' hI hO hW4 q0 q1 hi hz0 hz1 hz2
  obtain ⟨-, q0, q1⟩ := HQ.out
  go_upto_block 0 with (go_at_call 11; (with_reducible refine (KR2.out _).mono ?_); rintro e v1 ⟨rfl, rfl⟩)
  clear q0 q1
  obtain ⟨bv, hbv⟩ : ∃ bv, v.heap.size = bv := ⟨_, rfl⟩
  have HBV := Lib.hid hbv
  rw [hbv] at HO
  have hT := HO.out.at_ k y HY.out
  have c1 := hT.c1
  have c2 := hT.c2
  have c4 := hT.c4
  have c5 := hT.c5
  have f1 := HO.out.fz (k * 7 + 1)
  have f2 := HO.out.fz (k * 7 + 2)
  have f4 := HO.out.fz (k * 7 + 4)
  have f5 := HO.out.fz (k * 7 + 5)
  have hk0 : (0 : Int) ≤ (k : Int) := by omega
  have hk1 : (k : Int) < (N : Int) := by omega
  have HGE : Hid (bv ≤ ge) := Lib.hid HO.out.hB
  have a1 := HSF.out.c0
  have a2' := HSF.out.c1
  have a3 := HSF.out.t0
  have a4 := HSF.out.t1
  have a5 := HSF.out.d1
  have a6 := HSF.out.q0
  have a7 := HSF.out.q1
  have a8 := HSF.out.j0
  have a9 := HSF.out.d0
  have HWC := Lib.hid (show wrap64 (y.c - 1) = y.c - 1 ∧ IntKind.i64.wrap (y.c - 1) = y.c - 1 from ⟨IntWalk.wrap64_in _ (by omega), by rw [IntKind.wrap_i64]; omega⟩)
  have HWD := Lib.hid (show wrap64 (y.t + 1) = y.t + 1 ∧ IntKind.i64.wrap (y.t + 1) = y.t + 1 from ⟨IntWalk.wrap64_in _ (by omega), by rw [IntKind.wrap_i64]; omega⟩)
  have HII := Lib.hid (show (0 ≤ s ∧ s < 4) ∧ k < N ∧ N ≤ 6 from ⟨⟨s0, s1⟩, hkN, hN6⟩)
  obtain ⟨H1, H2⟩ := HP.out
  have HE1 := Lib.hid (eas_c HSF.out (by omega) H1 H2)
  have HE2 := Lib.hid (eas_t HSF.out (by omega) H1 H2)
  have HE3 := Lib.hid (eas_q HSF.out (by omega) H1 H2)
  have HE4 := Lib.hid (eas_j HSF.out (by omega) H1 H2)
  have HW1 := Lib.hid (show TsW { y with c := max (y.c - 1) y.q } from ⟨HYW.out.n, ⟨by show _ ≤ max (y.c - 1) y.q; omega, by show max (y.c - 1) y.q ≤ _; omega⟩, HYW.out.t, HYW.out.d, HYW.out.j, HYW.out.q, HYW.out.p⟩)
  have HW2 := Lib.hid (show TsW { y with t := y.t + 1 } from ⟨HYW.out.n, HYW.out.c, ⟨by show _ ≤ y.t + 1; omega, by show y.t + 1 ≤ _; omega⟩, HYW.out.d, HYW.out.j, HYW.out.q, HYW.out.p⟩)
  have HW3 := Lib.hid (show TsW { y with q := 1 } from one1_w HYW.out)
  have HW4 := Lib.hid (show TsW { y with j := 0 } from ⟨HYW.out.n, HYW.out.c, HYW.out.t, HYW.out.d, ⟨by show _ ≤ (0 : Int); omega, by show (0 : Int) ≤ _; omega⟩, HYW.out.q, HYW.out.p⟩)
  have HK := Lib.hid (fun W (h : Lt v W) (i : Nat) (u : Value) => show Lt v (W.setCell ⟨ge, i, none⟩ u) from setCell_own h (by rw [HBV.out]; exact HGE.out) u)
  clear hT a1 a2' a3 a4 a5 a6 a7 a8 a9 H1 H2 s0 s1 hbv
  go_cut [6] from 33 to 71 (fun s6 wx => s6 = .bool false ∧ ∃ y' : Ts, Hid (Eas4 y' y) ∧ Hid (OwnT bv wx ge ce (ts.set k y')) ∧ Hid (Lt v wx))
  case first =>
    have h4 : s = 0 ∨ s = 1 ∨ s = 2 ∨ s = 3 := by have := HII.out; omega
    rcases h4 with rfl | rfl | rfl | rfl
    · obtain ⟨hw1, hw1'⟩ := HWC.out
      go_upto_region 8 with (fail)
      go_region
      go_wp2
      go_meet
      exact ⟨rfl, _, HE1, Lib.hid ((HO.out.setF HY.out HW1.out 1 _ (by omega) rfl).later (below_drew _)), Lib.hid (lt_step _ _ (HK.out _ HV.out _ _) (below_drew _))⟩
    · obtain ⟨hw1, hw1'⟩ := HWD.out
      go_wp2
      go_meet
      exact ⟨rfl, _, HE2, Lib.hid (HO.out.setF HY.out HW2.out 2 _ (by omega) rfl), Lib.hid (HK.out _ HV.out _ _)⟩
    · go_wp2
      go_meet
      exact ⟨rfl, _, HE3, Lib.hid (HO.out.setF HY.out HW3.out 5 _ (by omega) rfl), Lib.hid (HK.out _ HV.out _ _)⟩
    · go_wp2
      go_meet
      exact ⟨rfl, _, HE4, Lib.hid (HO.out.setF HY.out HW4.out 4 _ (by omega) rfl), Lib.hid (HK.out _ HV.out _ _)⟩
  case rest =>
    obtain ⟨rfl, y', HE, HO, HV⟩ := hcut
    obtain ⟨hc, hib, hbb⟩ := rea_pure HST.out HY.out HE.out
    have hck := HST.out.chk
    have hl : (ts.set k y').length = N := by rw [List.length_set]; exact HN.out
    have HRE := Lib.hid HO.out.row
    have hle2 := HRE.out.le
    have hmx2 := HRE.out.mx
    have KAS := Lib.hid (fun W (h : Lt v W) => rta_all _ _ _ W (HR.out.later h) (HTB.out _ (lt_step _ _ HLV.out h)))
    have KAG := Lib.hid (fun W (h : Lt wc W) => rta_all _ _ _ W (HRE.out.later h) (HTB.out _ (lt_step _ _ (lt_step _ _ HLV.out HV.out) h)))
    have KIS := Lib.hid (fun W (h : Lt wc W) => ris_any _ _ _ (k : Int) W (HRE.out.later h) HIK.out)
    have HW : Hid (Lt wc wc) := Lib.hid (Below.refl _ _)
    have hb1 := bndsL_len hck
    have hb2 := bndsL_len hc
    have HB1 := Lib.hid (fun i h => bndsL_at (k := i) hck h)
    have HB2 := Lib.hid (fun i h => bndsL_at (k := i) hc h)
    have HBB := Lib.hid hbb
    unfold AllP at KAS KAG
    rw [hb1, HN.out] at KAS
    rw [hb2, hl] at KAG
    rw [hl, hib] at KIS
    rw [HN.out] at HB1 HBB hb1
    rw [hl] at HB2 hb2 hle2
    have t1 : ((N : Int) != (N : Int)) = false := by simp
    have HKN := Lib.hid (show k < N ∧ N ≤ 6 from ⟨hkN, hN6⟩)
    clear hc hib hbb hck hl hkN hN6 KR KR2 HQ HL HY HYW HSF HP HIK HWT HCE HWC HWD HE1 HE2 HE3 HE4 HW1 HW2 HW3 HW4 c1 c2 c4 c5 f1 f2 f4 f5
    go_upto_region 14 with (go_at_call 16; (with_reducible refine (KAS.out _ HV.out).mono ?_); rintro e w1 ⟨E1, d1, E2, d2, rfl, hi1, hi2, h⟩; have HI1 := Lib.hid hi1; have HI2 := Lib.hid hi2; have HW := Lib.hid (lt_step _ _ HW.out h); clear h hi1 hi2)
    go_upto_region 15 with (go_at_call 16; (with_reducible refine (KAG.out _ HW.out).mono ?_); rintro e w2 ⟨F1, e1, F2, e2, rfl, hj1, hj2, h⟩; have HJ1 := Lib.hid hj1; have HI1 := Lib.hid (HI1.out.later h); have HW := Lib.hid (lt_step _ _ HW.out h); clear h hj1 hj2)
    have p1 := HI1.out.le
    have p3 := HJ1.out.le
    rw [hb1] at p1
    rw [hb2] at p3
    go_wp2
    go_loopw [17] (fun i wx => ∃ m : Nat, m ≤ N ∧ i = .int .i64 (m : Int) ∧ Hid (Lt w2 wx)) (fun i _ => N - (intOf i).toNat)
    case atStart => exact ⟨0, Nat.zero_le _, rfl, Lib.hid (Below.refl _ _)⟩
    case round =>
      obtain ⟨m, hm, rfl, HX⟩ := hrel
      by_cases hlt : m < N
      · obtain ⟨g1, o1, rfl, hg1, hk1⟩ := HI1.out.at_ m _ (HB1.out m hlt)
        obtain ⟨g2, o2, rfl, hg2, hk2⟩ := HJ1.out.at_ m _ (HB2.out m hlt)
        have hbs := HBB.out m hlt
        generalize (boundI ts (m : Int)).1 = b at *
        generalize (boundI (ts.set k y') (m : Int)).1 = b' at *
        have q1 := (HX.out.cell (p := ⟨g1, o1 + m, none⟩) hg1).trans hk1
        have q2 := (HX.out.cell (p := ⟨g2, o2 + m, none⟩) hg2).trans hk2
        have hi0 : (0 : Int) ≤ (m : Int) := by omega
        have hi1 : (m : Int) < (N : Int) := by omega
        have HII := Lib.hid hlt
        by_cases h0 : 0 < b
        · obtain ⟨h1, h2⟩ := hbs h0
          have t4 : decide (b > 0) = true := decide_eq_true h0
          have t4' : decide (0 < b) = true := decide_eq_true h0
          have t5 : (b' == 0) = false := by rw [beq_eq_false_iff_ne]; omega
          have t6 : decide (b' > b) = false := decide_eq_false (by omega)
          have t6' : decide (b < b') = false := decide_eq_false (by omega)
          clear hbs hk1 hk2 hg1 hg2 hlt h0 h1 h2
          go_upto_region 20 with (fail)
          go_quiet (fail)
          go_wp2
          go_roundw
          case rel => exact ⟨m + 1, by have := HII.out; omega, by go_num, Lib.hid (show Lt w2 _ from below_drewN HX.out nq)⟩
          case measure => have := HII.out; simp [intOf]; omega
        · have t4 : decide (b > 0) = false := decide_eq_false h0
          have t4' : decide (0 < b) = false := decide_eq_false h0
          clear hbs hk1 hk2 hg1 hg2 hlt h0
          go_upto_region 20 with (fail)
          go_quiet (fail)
          go_wp2
          go_roundw
          case rel => exact ⟨m + 1, by have := HII.out; omega, by go_num, Lib.hid (show Lt w2 _ from below_drewN HX.out nq)⟩
          case measure => have := HII.out; simp [intOf]; omega
      · obtain rfl : m = N := by omega
        go_wp2_with (first
          | (go_at_call 17; refine (KIS.out _ (lt_step _ _ HW.out HX.out)).mono ?_; rintro e w3 ⟨rfl, h⟩; have HX := Lib.hid (lt_step _ _ HX.out h); clear h)
          | fail)
        go_ret
        exact ⟨rfl, lt_step _ _ HLV.out (lt_step _ _ HV.out (lt_step _ _ HW.out HX.out))⟩
end Go.Proofs.YtnhddnldebdmbaaDoor
