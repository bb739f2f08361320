/- The document's Legal: the walk. -/
import Derived.Test.YtngmaiiibinkaaaRDec
import Derived.Test.YtngmaiiibinkaaaJLeg
import Derived.Test.YtngmaiiibinkaaaJSame
namespace Go.Proofs.Ytngmaiiibinkaaa
open Go.RowKit
set_option linter.unusedVariables false
set_option linter.unusedSimpArgs false

set_option maxRecDepth 100000 in
set_option maxHeartbeats 2000000 in
theorem rlegal_bad (A R : Option Addr) (cap rc : Nat) (ts : List Ts) (js : List Fv) (w : World) (hT : Row w A cap ts) (h0 : (chkAll ts).2 ≠ 0) :
    Calls Try.prog 17 #[.slice A ts.length cap, .slice R js.length rc] w fun e w' => e = .returned (.bool false) ∧ Below w.heap.size w w' := by
  have K := rcheck_g A cap ts w hT
  have h1 : ((chkAll ts).2 != 0) = true := by simpa using h0
  generalize (chkAll ts).2 = q at *
  have K := Lib.hid K
  have hgf := got_field
  clear h0
  go_enter Try.func17, Try.ntmps17
  go_wp2_with (go_at_call 14; (with_reducible refine K.out.mono ?_); rintro e w1 ⟨a, rfl, h1⟩)
  go_ret
  exact ⟨rfl, h1⟩
set_option maxRecDepth 100000 in
set_option maxHeartbeats 2000000 in
theorem rlegal_many (A R : Option Addr) (cap rc : Nat) (ts : List Ts) (js : List Fv) (w : World) (hT : Row w A cap ts) (h0 : (chkAll ts).2 = 0) (hl : 4096 < js.length) :
    Calls Try.prog 17 #[.slice A ts.length cap, .slice R js.length rc] w fun e w' => e = .returned (.bool false) ∧ Below w.heap.size w w' := by
  have K := rcheck_g A cap ts w hT
  rw [h0] at K
  have K := Lib.hid K
  have g1 : decide ((js.length : Int) > 4096) = true := decide_eq_true (by omega)
  have g1' : decide (4096 < js.length) = true := decide_eq_true hl
  have hgf := got_field
  clear h0
  go_enter Try.func17, Try.ntmps17
  go_wp2_with (go_at_call 14; (with_reducible refine K.out.mono ?_); rintro e w1 ⟨a, rfl, h1⟩)
  go_ret
  exact ⟨rfl, h1⟩
/-- The walk's state ahead of each job. -/
structure QIn (w wr : World) (ts : List Ts) (js : List Fv) (k : Nat) : Prop where
  bel : Below w.heap.size w wr
  leg : legF ts [] js = legF ts (js.take k) (js.drop k)
  good : ∀ j ∈ js.take k, 0 ≤ j.t ∧ j.t < ts.length ∧ 0 ≤ j.a ∧ j.a ≤ 17592186044416
set_option maxRecDepth 100000 in
set_option maxHeartbeats 16000000 in
theorem rlegal_good (A R : Option Addr) (cap rc : Nat) (ts : List Ts) (js : List Fv) (w : World) (hT : Row w A cap ts) (hR : FRow w R rc js) (h0 : (chkAll ts).2 = 0) (hl : js.length ≤ 4096) :
    Calls Try.prog 17 #[.slice A ts.length cap, .slice R js.length rc] w fun e w' => e = .returned (.bool (legF ts [] js)) ∧ Below w.heap.size w w' := by
  have hv := vs_of h0
  have K := rcheck_g A cap ts w hT
  rw [h0] at K
  have hle := hR.le
  have hmx := hR.mx
  have hn0 := hv.n0
  have hn1 := hv.n1
  have HV := Lib.hid hv
  have ROW := Lib.hid hT
  have RAW := Lib.hid hR
  have g1 : decide ((js.length : Int) > 4096) = false := decide_eq_false (by omega)
  have g1' : decide (4096 < js.length) = false := decide_eq_false (by omega)
  have hgf := got_field
  have K0 := Lib.hid K
  clear h0 hT hR hv K
  go_enter Try.func17, Try.ntmps17
  go_upto_region 3 with (go_at_call 14; (with_reducible refine K0.out.mono ?_); rintro e w1 ⟨a, rfl, h1⟩)
  have HB1 := Lib.hid h1
  clear h1
  go_wp2
  go_loopw [5] (fun i wr => ∃ k : Nat, k ≤ js.length ∧ i = .int .i64 k ∧ Hid (QIn w wr ts js k)) (fun i _ => js.length - (intOf i).toNat)
  case atStart => exact ⟨0, Nat.zero_le _, rfl, Lib.hid ⟨HB1.out, rfl, by simp⟩⟩
  case round =>
    obtain ⟨k, hk, rfl, hI⟩ := hrel
    by_cases hlt : k < js.length
    · obtain ⟨rb, ro, x, C, cc, rfl, hx, hrb, hF⟩ := RAW.out.get (k := k) hlt
      have hF := hF.later hI.out.bel
      have c0 := hF.c0
      have c1 := hF.c1
      have c2 := hF.c2
      have c3 := hF.c3
      have c4 := hF.c4
      have hi0 : (0 : Int) ≤ (k : Int) := by omega
      have hi1 : (k : Int) < (js.length : Int) := by omega
      have HQ := Lib.hid (legF_at hI.out.leg hx)
      have HX := Lib.hid hx
      have HF := Lib.hid hF
      have HLEG : Hid (legJ ts (js.take k) x = (inB x.t 0 ((ts.length : Int) - 1) && (inB x.a (soonI ts (js.take k) x.t) 17592186044416 && (inB x.r x.a (x.a + (tk ts x.t).j) && (inB x.k 1 (tk ts x.t).c && fitB (tk ts x.t).q x.k x.c))))) := Lib.hid rfl
      have hlc := hF.s.le
      have hmc := hF.s.mx
      clear hF hx
      go_upto_region 7 with (fail)
      have F1 := Lib.hid (FAt.new wr x C cc 60 HF.out.wf HF.out.s)
      have B1 := Lib.hid (box_job wr x C cc)
      have HBW := Lib.hid (hI.out.bel.trans (B1.out.mono hI.out.bel.size))
      generalize (wr.alloc (.cells #[.int .i64 x.t, .int .i64 x.a, .int .i64 x.r, .int .i64 x.k, .slice C x.c.length cc] 60)) = W1 at *
      have T1 := Lib.hid (ROW.out.later HBW.out)
      have R1 := Lib.hid (RAW.out.later HBW.out)
      have hb6lt := F1.out.lt
      generalize wr.heap.size = b6 at *
      clear c0 c1 c2 c3 c4
      obtain ⟨z0, z1, z2, z3, z4⟩ := F1.out.z
      by_cases ht0 : x.t < 0
      · have d1 : decide (x.t < 0) = true := decide_eq_true ht0
        have HC : Hid (legF ts [] js = false) := Lib.hid (by rw [HQ.out, HLEG.out, inB_no (by omega)]; rfl)
        go_wp2
        go_ret
        exact ⟨by rw [HC.out]; rfl, HBW.out⟩
      · have d1 : decide (x.t < 0) = false := decide_eq_false ht0
        by_cases ht1 : x.t ≥ (ts.length : Int)
        · have d2 : decide (x.t ≥ (ts.length : Int)) = true := decide_eq_true ht1
          have d2' : decide ((ts.length : Int) ≤ x.t) = true := decide_eq_true ht1
          have HC : Hid (legF ts [] js = false) := Lib.hid (by rw [HQ.out, HLEG.out, inB_no (by omega)]; rfl)
          go_wp2
          go_ret
          exact ⟨by rw [HC.out]; rfl, HBW.out⟩
        · have d2 : decide (x.t ≥ (ts.length : Int)) = false := decide_eq_false ht1
          have d2' : decide ((ts.length : Int) ≤ x.t) = false := decide_eq_false ht1
          obtain ⟨p, hp⟩ : ∃ p : Nat, (p : Int) = x.t := ⟨x.t.toNat, by omega⟩
          have HTB : Hid (inB x.t 0 ((ts.length : Int) - 1) = true) := Lib.hid (inB_yes (by omega))
          obtain ⟨tb, tq, y, rfl, hy, hyw, htb, hT⟩ := T1.out.get (k := p) (by omega)
          have HYT : Hid (tk ts x.t = y) := Lib.hid (by rw [← hp]; exact tk_get hy)
          have hyo := HV.out.tk (p : Int)
          rw [hp, HYT.out] at hyo
          have t0 := hT.c0
          have t1 := hT.c1
          have t2 := hT.c2
          have t3 := hT.c3
          have t4 := hT.c4
          have t5 := hT.c5
          have t6 := hT.c6
          have tp0 : (0 : Int) ≤ x.t := by omega
          have tp1 : x.t < (ts.length : Int) := by omega
          rw [← hp] at z0
          have d1 : decide ((p : Int) < 0) = false := decide_eq_false (by omega)
          have d2 : decide ((p : Int) ≥ (ts.length : Int)) = false := decide_eq_false (by omega)
          have d2' : decide (ts.length ≤ p) = false := decide_eq_false (by omega)
          have tp0 : (0 : Int) ≤ (p : Int) := by omega
          have tp1 : (p : Int) < (ts.length : Int) := by omega
          have HP := Lib.hid hp
          have HYO := Lib.hid hyo
          have HT := Lib.hid hT
          clear hp hyo hy hyw hT ht0 ht1
          go_upto_region 10 with (fail)
          have hb7 : W1.heap.size = W1.heap.size := rfl
          have B2 : Hid (Below W1.heap.size W1 (W1.alloc (.cells #[.string y.n, .int .i64 y.c, .int .i64 y.t, .int .i64 y.d, .int .i64 y.j, .int .i64 y.q, .int .i64 y.p] 50))) := Lib.hid ((Below.refl _ _).alloc (Nat.le_refl _) _)
          have Y2 := Lib.hid (TAt.new W1 y)
          generalize (W1.alloc (.cells #[.string y.n, .int .i64 y.c, .int .i64 y.t, .int .i64 y.d, .int .i64 y.j, .int .i64 y.q, .int .i64 y.p] 50)) = W2 at *
          have F2 := Lib.hid (F1.out.later B2.out)
          have HB2 := Lib.hid (HBW.out.trans (B2.out.mono HBW.out.size))
          have R2 := Lib.hid (R1.out.later B2.out)
          generalize W1.heap.size = b7 at *
          clear z0 z1 z2 z3 z4 t0 t1 t2 t3 t4 t5 t6 hb7
          have hz0 := F2.out.c0
          rw [← HP.out] at hz0
          have hkl : (js.take k).length = k := by rw [List.length_take]; omega
          have hkc : (k : Int) ≤ (rc : Int) := by omega
          have KL0 := last_any (some ⟨rb, ro, none⟩) rc (js.take k) (p : Int) W2.drew ((R2.out.later (below_drew W2)).take k)
          rw [hkl] at KL0
          have KL := Lib.hid KL0
          clear KL0 hkl
          go_still_tail 5, (by kernel_rfl)
          change wpList _ _ _ _ _ W2.drew
          go_upto_region 11 with (go_at_call 16; (with_reducible refine KL.out.mono ?_); rintro e w2 ⟨lr, rfl, hlr, rfl⟩)
          clear hz0
          have HLR := Lib.hid hlr
          have F3 := Lib.hid (F2.out.later (below_drew W2))
          have Y3 := Lib.hid (Y2.out.later (below_drew W2))
          have HB3 := Lib.hid (HB2.out.trans ((below_drew W2).mono HB2.out.size))
          have R3 := Lib.hid (R2.out.later (below_drew W2))
          clear hlr KL
          generalize W2.drew = W3 at *
          obtain ⟨z0, z1, z2, z3, z4⟩ := F3.out.z
          obtain ⟨t0, t1, t2, t3, t4, t5, t6⟩ := Y3.out.zz
          have yt0 := HYO.out.t0
          have yt1 := HYO.out.t1
          have yj0 := HYO.out.j0
          have yj1 := HYO.out.j1
          have yc1 := HYO.out.c1
          have yq1 := HYO.out.q1
          go_cut [104] from 20 to 145 (fun s wx => s = .bool (!(inB x.a (soonI ts (js.take k) x.t) 17592186044416 && (inB x.r x.a (x.a + y.j) && inB x.k 1 y.c))) ∧ Below W3.heap.size W3 wx)
          case first =>
            rcases HLR.out with ⟨rfl, hls⟩ | ⟨li, lx, rfl, hlx, hls⟩
            · have HSO : Hid (soonI ts (js.take k) x.t = 0) := Lib.hid (by rw [← HP.out, soonI, hls])
              clear hls
              by_cases q0 : x.a < 0
              · have e0 : decide (x.a < 0) = true := decide_eq_true q0
                have HBAD : Hid ((!(inB x.a (soonI ts (js.take k) x.t) 17592186044416 && (inB x.r x.a (x.a + y.j) && inB x.k 1 y.c))) = true) := Lib.hid (by
                  rw [HSO.out]
                  rw [Bool.not_eq_true']
                  simp only [Bool.and_eq_false_iff, inB, decide_eq_false_iff_not]; omega)
                go_quiet (fail)
                go_wp2
                go_meet
                exact ⟨by rw [HBAD.out], same_drewN W3 nq⟩
              · have e0 : decide (x.a < 0) = false := decide_eq_false q0
                by_cases q1 : x.a > 17592186044416
                · have e1 : decide (x.a > 17592186044416) = true := decide_eq_true q1
                  have e1' : decide (17592186044416 < x.a) = true := decide_eq_true q1
                  have HBAD : Hid ((!(inB x.a (soonI ts (js.take k) x.t) 17592186044416 && (inB x.r x.a (x.a + y.j) && inB x.k 1 y.c))) = true) := Lib.hid (by
                    rw [HSO.out]
                    rw [Bool.not_eq_true']
                    simp only [Bool.and_eq_false_iff, inB, decide_eq_false_iff_not]; omega)
                  go_quiet (fail)
                  go_wp2
                  go_meet
                  exact ⟨by rw [HBAD.out], same_drewN W3 nq⟩
                · have e1 : decide (x.a > 17592186044416) = false := decide_eq_false q1
                  have e1' : decide (17592186044416 < x.a) = false := decide_eq_false q1
                  have hw2 : IntKind.i64.wrap (x.a + y.j) = x.a + y.j := IntWalk.i64_in _ (by omega)
                  by_cases q2 : x.r < x.a
                  · have e2 : decide (x.r < x.a) = true := decide_eq_true q2
                    have HBAD : Hid ((!(inB x.a (soonI ts (js.take k) x.t) 17592186044416 && (inB x.r x.a (x.a + y.j) && inB x.k 1 y.c))) = true) := Lib.hid (by
                      rw [HSO.out]
                      rw [Bool.not_eq_true']
                      simp only [Bool.and_eq_false_iff, inB, decide_eq_false_iff_not]; omega)
                    go_quiet (fail)
                    go_wp2
                    go_meet
                    exact ⟨by rw [HBAD.out], same_drewN W3 nq⟩
                  · have e2 : decide (x.r < x.a) = false := decide_eq_false q2
                    by_cases q3 : x.r > x.a + y.j
                    · have e3 : decide (x.r > x.a + y.j) = true := decide_eq_true q3
                      have e3' : decide (x.a + y.j < x.r) = true := decide_eq_true q3
                      have HBAD : Hid ((!(inB x.a (soonI ts (js.take k) x.t) 17592186044416 && (inB x.r x.a (x.a + y.j) && inB x.k 1 y.c))) = true) := Lib.hid (by
                        rw [HSO.out]
                        rw [Bool.not_eq_true']
                        simp only [Bool.and_eq_false_iff, inB, decide_eq_false_iff_not]; omega)
                      go_quiet (fail)
                      go_wp2
                      go_meet
                      exact ⟨by rw [HBAD.out], same_drewN W3 nq⟩
                    · have e3 : decide (x.r > x.a + y.j) = false := decide_eq_false q3
                      have e3' : decide (x.a + y.j < x.r) = false := decide_eq_false q3
                      by_cases q4 : x.k < 1
                      · have e4 : decide (x.k < 1) = true := decide_eq_true q4
                        have HBAD : Hid ((!(inB x.a (soonI ts (js.take k) x.t) 17592186044416 && (inB x.r x.a (x.a + y.j) && inB x.k 1 y.c))) = true) := Lib.hid (by
                          rw [HSO.out]
                          rw [Bool.not_eq_true']
                          simp only [Bool.and_eq_false_iff, inB, decide_eq_false_iff_not]; omega)
                        go_quiet (fail)
                        go_wp2
                        go_meet
                        exact ⟨by rw [HBAD.out], same_drewN W3 nq⟩
                      · have e4 : decide (x.k < 1) = false := decide_eq_false q4
                        by_cases q5 : x.k > y.c
                        · have e5 : decide (x.k > y.c) = true := decide_eq_true q5
                          have e5' : decide (y.c < x.k) = true := decide_eq_true q5
                          have HBAD : Hid ((!(inB x.a (soonI ts (js.take k) x.t) 17592186044416 && (inB x.r x.a (x.a + y.j) && inB x.k 1 y.c))) = true) := Lib.hid (by
                            rw [HSO.out]
                            rw [Bool.not_eq_true']
                            simp only [Bool.and_eq_false_iff, inB, decide_eq_false_iff_not]; omega)
                          go_quiet (fail)
                          go_wp2
                          go_meet
                          exact ⟨by rw [HBAD.out], same_drewN W3 nq⟩
                        · have e5 : decide (x.k > y.c) = false := decide_eq_false q5
                          have e5' : decide (y.c < x.k) = false := decide_eq_false q5
                          have HBAD : Hid ((!(inB x.a (soonI ts (js.take k) x.t) 17592186044416 && (inB x.r x.a (x.a + y.j) && inB x.k 1 y.c))) = false) := Lib.hid (by
                            rw [HSO.out]
                            rw [Bool.not_eq_false']
                            simp only [Bool.and_eq_true, inB_iff]; omega)
                          go_quiet (fail)
                          go_wp2
                          go_meet
                          exact ⟨by rw [HBAD.out], same_drewN W3 nq⟩
            · have hli : li < (js.take k).length := (List.getElem?_eq_some_iff.1 hlx).1
              have hlik : li < js.length := by rw [List.length_take] at hli; omega
              have hla := (hI.out.good lx (List.mem_of_getElem? hlx)).2.2
              have hlx2 : js[li]? = some lx := by rw [List.getElem?_take_of_lt (by rw [List.length_take] at hli; omega)] at hlx; exact hlx
              obtain ⟨jb, jo, lx', C', cc', hje, hlx', hjb, hJ⟩ := R3.out.get hlik
              obtain rfl : lx = lx' := by rw [hlx2] at hlx'; exact Option.some.inj hlx'
              obtain ⟨rfl, rfl⟩ : rb = jb ∧ ro = jo := by simpa using hje
              have l1 := hJ.c1
              have HSO : Hid (soonI ts (js.take k) x.t = lx.a + y.t) := Lib.hid (by rw [← HP.out, soonI, hls, HP.out, HYT.out])
              have li0 : (0 : Int) ≤ (li : Int) := by omega
              have li1 : (li : Int) < (js.length : Int) := by omega
              have g4 : decide ((li : Int) ≥ 0) = true := decide_eq_true li0
              have hw1 : IntKind.i64.wrap (lx.a + y.t) = lx.a + y.t := IntWalk.i64_in _ (by omega)
              clear hli hlx hlx2 hlx' hje hls hJ
              by_cases q0 : x.a < 0
              · have e0 : decide (x.a < 0) = true := decide_eq_true q0
                have HBAD : Hid ((!(inB x.a (soonI ts (js.take k) x.t) 17592186044416 && (inB x.r x.a (x.a + y.j) && inB x.k 1 y.c))) = true) := Lib.hid (by
                  rw [HSO.out]
                  rw [Bool.not_eq_true']
                  simp only [Bool.and_eq_false_iff, inB, decide_eq_false_iff_not]; omega)
                go_quiet (fail)
                go_wp2
                go_meet
                exact ⟨by rw [HBAD.out], same_drewN W3 nq⟩
              · have e0 : decide (x.a < 0) = false := decide_eq_false q0
                by_cases q1 : x.a > 17592186044416
                · have e1 : decide (x.a > 17592186044416) = true := decide_eq_true q1
                  have e1' : decide (17592186044416 < x.a) = true := decide_eq_true q1
                  have HBAD : Hid ((!(inB x.a (soonI ts (js.take k) x.t) 17592186044416 && (inB x.r x.a (x.a + y.j) && inB x.k 1 y.c))) = true) := Lib.hid (by
                    rw [HSO.out]
                    rw [Bool.not_eq_true']
                    simp only [Bool.and_eq_false_iff, inB, decide_eq_false_iff_not]; omega)
                  go_quiet (fail)
                  go_wp2
                  go_meet
                  exact ⟨by rw [HBAD.out], same_drewN W3 nq⟩
                · have e1 : decide (x.a > 17592186044416) = false := decide_eq_false q1
                  have e1' : decide (17592186044416 < x.a) = false := decide_eq_false q1
                  by_cases q2 : x.a < lx.a + y.t
                  · have e2 : decide (x.a < lx.a + y.t) = true := decide_eq_true q2
                    have HBAD : Hid ((!(inB x.a (soonI ts (js.take k) x.t) 17592186044416 && (inB x.r x.a (x.a + y.j) && inB x.k 1 y.c))) = true) := Lib.hid (by
                      rw [HSO.out]
                      rw [Bool.not_eq_true']
                      simp only [Bool.and_eq_false_iff, inB, decide_eq_false_iff_not]; omega)
                    go_quiet (fail)
                    go_wp2
                    go_meet
                    exact ⟨by rw [HBAD.out], same_drewN W3 nq⟩
                  · have e2 : decide (x.a < lx.a + y.t) = false := decide_eq_false q2
                    have hw2 : IntKind.i64.wrap (x.a + y.j) = x.a + y.j := IntWalk.i64_in _ (by omega)
                    by_cases q3 : x.r < x.a
                    · have e3 : decide (x.r < x.a) = true := decide_eq_true q3
                      have HBAD : Hid ((!(inB x.a (soonI ts (js.take k) x.t) 17592186044416 && (inB x.r x.a (x.a + y.j) && inB x.k 1 y.c))) = true) := Lib.hid (by
                        rw [HSO.out]
                        rw [Bool.not_eq_true']
                        simp only [Bool.and_eq_false_iff, inB, decide_eq_false_iff_not]; omega)
                      go_quiet (fail)
                      go_wp2
                      go_meet
                      exact ⟨by rw [HBAD.out], same_drewN W3 nq⟩
                    · have e3 : decide (x.r < x.a) = false := decide_eq_false q3
                      by_cases q4 : x.r > x.a + y.j
                      · have e4 : decide (x.r > x.a + y.j) = true := decide_eq_true q4
                        have e4' : decide (x.a + y.j < x.r) = true := decide_eq_true q4
                        have HBAD : Hid ((!(inB x.a (soonI ts (js.take k) x.t) 17592186044416 && (inB x.r x.a (x.a + y.j) && inB x.k 1 y.c))) = true) := Lib.hid (by
                          rw [HSO.out]
                          rw [Bool.not_eq_true']
                          simp only [Bool.and_eq_false_iff, inB, decide_eq_false_iff_not]; omega)
                        go_quiet (fail)
                        go_wp2
                        go_meet
                        exact ⟨by rw [HBAD.out], same_drewN W3 nq⟩
                      · have e4 : decide (x.r > x.a + y.j) = false := decide_eq_false q4
                        have e4' : decide (x.a + y.j < x.r) = false := decide_eq_false q4
                        by_cases q5 : x.k < 1
                        · have e5 : decide (x.k < 1) = true := decide_eq_true q5
                          have HBAD : Hid ((!(inB x.a (soonI ts (js.take k) x.t) 17592186044416 && (inB x.r x.a (x.a + y.j) && inB x.k 1 y.c))) = true) := Lib.hid (by
                            rw [HSO.out]
                            rw [Bool.not_eq_true']
                            simp only [Bool.and_eq_false_iff, inB, decide_eq_false_iff_not]; omega)
                          go_quiet (fail)
                          go_wp2
                          go_meet
                          exact ⟨by rw [HBAD.out], same_drewN W3 nq⟩
                        · have e5 : decide (x.k < 1) = false := decide_eq_false q5
                          by_cases q6 : x.k > y.c
                          · have e6 : decide (x.k > y.c) = true := decide_eq_true q6
                            have e6' : decide (y.c < x.k) = true := decide_eq_true q6
                            have HBAD : Hid ((!(inB x.a (soonI ts (js.take k) x.t) 17592186044416 && (inB x.r x.a (x.a + y.j) && inB x.k 1 y.c))) = true) := Lib.hid (by
                              rw [HSO.out]
                              rw [Bool.not_eq_true']
                              simp only [Bool.and_eq_false_iff, inB, decide_eq_false_iff_not]; omega)
                            go_quiet (fail)
                            go_wp2
                            go_meet
                            exact ⟨by rw [HBAD.out], same_drewN W3 nq⟩
                          · have e6 : decide (x.k > y.c) = false := decide_eq_false q6
                            have e6' : decide (y.c < x.k) = false := decide_eq_false q6
                            have HBAD : Hid ((!(inB x.a (soonI ts (js.take k) x.t) 17592186044416 && (inB x.r x.a (x.a + y.j) && inB x.k 1 y.c))) = false) := Lib.hid (by
                              rw [HSO.out]
                              rw [Bool.not_eq_false']
                              simp only [Bool.and_eq_true, inB_iff]; omega)
                            go_quiet (fail)
                            go_wp2
                            go_meet
                            exact ⟨by rw [HBAD.out], same_drewN W3 nq⟩
          case rest =>
            obtain ⟨rfl, hBc⟩ := hcut
            have HBC := Lib.hid hBc
            have HBW2 := Lib.hid (HB3.out.trans (hBc.mono HB3.out.size))
            have F4 := Lib.hid (F3.out.later hBc)
            have Y4 := Lib.hid (Y3.out.later hBc)
            have HLEG2 : Hid (legJ ts (js.take k) x = ((inB x.a (soonI ts (js.take k) x.t) 17592186044416 && (inB x.r x.a (x.a + y.j) && inB x.k 1 y.c)) && fitB y.q x.k x.c)) := Lib.hid (by
              rw [HLEG.out, HTB.out, HYT.out, Bool.true_and, Bool.and_assoc, Bool.and_assoc])
            have HPARTS : Hid ((inB x.a (soonI ts (js.take k) x.t) 17592186044416 && (inB x.r x.a (x.a + y.j) && inB x.k 1 y.c)) = true → (soonI ts (js.take k) x.t ≤ x.a ∧ x.a ≤ 17592186044416) ∧ (1 ≤ x.k ∧ x.k ≤ y.c)) := Lib.hid (fun h => by
              simp only [Bool.and_eq_true, inB_iff] at h
              exact ⟨h.1, h.2.2⟩)
            have HSN : Hid (0 ≤ soonI ts (js.take k) x.t) := Lib.hid (by
              unfold soonI
              cases hls : lastT (js.take k) x.t with
              | none => simp
              | some j =>
                have h1 := hI.out.good j (lastT_mem hls).1
                have h2 := (HV.out.tk x.t).t0
                simp only
                omega)
            generalize (inB x.a (soonI ts (js.take k) x.t) 17592186044416 && (inB x.r x.a (x.a + y.j) && inB x.k 1 y.c)) = bb at *
            clear hBc z0 z1 z2 z3 z4 t0 t1 t2 t3 t4 t5 t6
            apply_assumption
            cases bb
            · have HC : Hid (legF ts [] js = false) := Lib.hid (by rw [HQ.out, HLEG2.out]; rfl)
              go_wp2
              go_ret
              exact ⟨by rw [HC.out]; rfl, HBW2.out⟩
            · obtain ⟨⟨pa0, pa1⟩, pk0, pk1⟩ := HPARTS.out rfl
              have HQ2 : Hid (legF ts [] js = (fitB y.q x.k x.c && legF ts (js.take (k + 1)) (js.drop (k + 1)))) := Lib.hid (by rw [HQ.out, HLEG2.out, Bool.true_and])
              have HG2 : Hid (∀ j ∈ js.take (k + 1), 0 ≤ j.t ∧ j.t < ts.length ∧ 0 ≤ j.a ∧ j.a ≤ 17592186044416) := Lib.hid (fun j hj => by
                rw [take_one HX.out] at hj
                rcases List.mem_append.1 hj with hj | hj
                · exact hI.out.good j hj
                · rw [List.mem_singleton] at hj
                  subst hj
                  have := HP.out
                  have := HSN.out
                  omega)
              obtain ⟨z0, z1, z2, z3, z4⟩ := F4.out.z
              clear HPARTS HLEG2 pa0 pa1
              go_wp2
              clear z0 z1 z2 z3 z4
              go_loopw [9, 10] (fun lf c wr2 => ∃ (m : Nat) (left : Int), m ≤ x.c.length ∧ c = .int .i64 m ∧ lf = .int .i64 left ∧ 0 ≤ left ∧ left ≤ x.k ∧ Hid (Below wc.heap.size wc wr2) ∧ Hid (fitB y.q x.k x.c = fitB y.q left (x.c.drop m))) (fun _ c _ => x.c.length - (intOf c).toNat)
              case atStart => exact ⟨0, x.k, Nat.zero_le _, rfl, rfl, by omega, Int.le_refl _, Lib.hid (Below.refl _ _), Lib.hid rfl⟩
              case round =>
                obtain ⟨m, left, hm, rfl, rfl, l0, l1, hB5, hq5⟩ := hrel
                have F5 := Lib.hid (F4.out.later hB5.out)
                have Y5 := Lib.hid (Y4.out.later hB5.out)
                have z4 := F5.out.c4
                rw [Nat.zero_add] at z4
                by_cases hml : m < x.c.length
                · obtain ⟨cb, co, cut, rfl, hct, hcw, hcb, hcell⟩ := F4.out.s.get hml
                  have e9 := (hB5.out.cell (p := ⟨cb, co + m, none⟩) hcb).trans hcell
                  have m0 : (0 : Int) ≤ (m : Int) := by omega
                  have m1 : (m : Int) < (x.c.length : Int) := by omega
                  have hd : x.c.drop m = cut :: x.c.drop (m + 1) := by
                    obtain ⟨hlt', he⟩ := List.getElem?_eq_some_iff.1 hct
                    rw [← he]
                    exact (List.drop_eq_getElem_cons hlt')
                  have HFIT : Hid (fitB y.q x.k x.c = (decide (1 ≤ cut ∧ cut ≤ min y.q left) && fitB y.q (left - cut) (x.c.drop (m + 1)))) := Lib.hid (by rw [hq5.out, hd, fitB])
                  obtain ⟨t0, t1, t2, t3, t4, t5, t6⟩ := Y5.out.zz
                  clear hct hcell hd hq5
                  go_upto_region 17 with (fail)
                  by_cases q0 : cut < 1
                  · have e0 : decide (cut < 1) = true := decide_eq_true q0
                    have HC : Hid (legF ts [] js = false) := Lib.hid (by rw [HQ2.out, HFIT.out, decide_eq_false (by omega)]; rfl)
                    go_quiet (fail)
                    go_wp2
                    go_ret
                    exact ⟨by rw [HC.out]; rfl, (HBW2.out.trans (hB5.out.mono HBW2.out.size)).trans ((same_drewN wr nq).mono (HBW2.out.trans (hB5.out.mono HBW2.out.size)).size)⟩
                  · have e0 : decide (cut < 1) = false := decide_eq_false q0
                    by_cases q1 : cut > y.q
                    · have e1 : decide (cut > y.q) = true := decide_eq_true q1
                      have e1' : decide (y.q < cut) = true := decide_eq_true q1
                      have HC : Hid (legF ts [] js = false) := Lib.hid (by rw [HQ2.out, HFIT.out, decide_eq_false (by omega)]; rfl)
                      go_quiet (fail)
                      go_wp2
                      go_ret
                      exact ⟨by rw [HC.out]; rfl, (HBW2.out.trans (hB5.out.mono HBW2.out.size)).trans ((same_drewN wr nq).mono (HBW2.out.trans (hB5.out.mono HBW2.out.size)).size)⟩
                    · have e1 : decide (cut > y.q) = false := decide_eq_false q1
                      have e1' : decide (y.q < cut) = false := decide_eq_false q1
                      by_cases q2 : cut > left
                      · have e2 : decide (cut > left) = true := decide_eq_true q2
                        have e2' : decide (left < cut) = true := decide_eq_true q2
                        have HC : Hid (legF ts [] js = false) := Lib.hid (by rw [HQ2.out, HFIT.out, decide_eq_false (by omega)]; rfl)
                        go_quiet (fail)
                        go_wp2
                        go_ret
                        exact ⟨by rw [HC.out]; rfl, (HBW2.out.trans (hB5.out.mono HBW2.out.size)).trans ((same_drewN wr nq).mono (HBW2.out.trans (hB5.out.mono HBW2.out.size)).size)⟩
                      · have e2 : decide (cut > left) = false := decide_eq_false q2
                        have e2' : decide (left < cut) = false := decide_eq_false q2
                        have HFIT2 : Hid (fitB y.q x.k x.c = fitB y.q (left - cut) (x.c.drop (m + 1))) := Lib.hid (by rw [HFIT.out, decide_eq_true (by omega)]; rfl)
                        go_quiet (fail)
                        have HB6 := Lib.hid (hB5.out.trans ((same_drewN wr nq).mono hB5.out.size))
                        have z4' : (wr.drewN nq).cell? ⟨b6, 4, none⟩ = _ := z4
                        have e9' : (wr.drewN nq).cell? ⟨cb, co + m, none⟩ = _ := e9
                        clear z4 e9 t0 t1 t2 t3 t4 t5 t6
                        generalize wr.drewN nq = W6 at *
                        go_wp2
                        go_roundw
                        case rel => exact ⟨m + 1, left - cut, by omega, by go_num, rfl, by omega, by omega, HB6, HFIT2⟩
                        case measure => simp [intOf]; omega
                · obtain rfl : m = x.c.length := by omega
                  have HQ3 : Hid (legF ts [] js = legF ts (js.take (k + 1)) (js.drop (k + 1))) := Lib.hid (by rw [HQ2.out, hq5.out, List.drop_length]; rfl)
                  go_wp2
                  go_roundw
                  case rel => exact ⟨k + 1, by omega, by go_num, Lib.hid ⟨HBW2.out.trans (hB5.out.mono HBW2.out.size), HQ3.out, HG2.out⟩⟩
                  case measure => simp [intOf]; omega
    · obtain rfl : k = js.length := by omega
      go_wp2
      go_ret
      exact ⟨by rw [hI.out.leg, List.drop_length]; rfl, hI.out.bel⟩
theorem rlegal_any (A R : Option Addr) (cap rc : Nat) (ts : List Ts) (js : List Fv) (w : World) (hT : Row w A cap ts) (hR : FRow w R rc js) :
    Calls Try.prog 17 #[.slice A ts.length cap, .slice R js.length rc] w fun e w' => e = .returned (.bool (legS ts js)) ∧ Below w.heap.size w w' := by
  by_cases h : (chkAll ts).2 = 0
  · by_cases hl : js.length ≤ 4096
    · rw [legS_good h hl]; exact rlegal_good A R cap rc ts js w hT hR h hl
    · rw [legS_many (by omega)]; exact rlegal_many A R cap rc ts js w hT h (by omega)
  · rw [legS_bad h]; exact rlegal_bad A R cap rc ts js w hT h
end Go.Proofs.Ytngmaiiibinkaaa
