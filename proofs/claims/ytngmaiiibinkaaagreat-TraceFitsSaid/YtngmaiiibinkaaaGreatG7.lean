/- Texts about the program, one after the other: RLeg, ELg, JFewR, JRead, HPure, EBase, ESpn. -/
import Derived.Test.YtngmaiiibinkaaaGreatG6
import Derived.Test.YtngmaiiibinkaaaGreatG5
import Derived.Below
import Derived.WalkKit
import Derived.WalkMore
import Derived.ProofKit
import Derived.LaidMore
import Derived.Laws.AppendOwn
import Derived.Laws.CopyOwn
import Derived.Lib.Hide
import Derived.IntWalk
import Derived.Handy
import Derived.OwnWalk
import Derived.RangeFuncBox
import Derived.Deep.QuietTactic
import Derived.BigQuiet
import Derived.Deep.RegionHeld3
import Derived.Deep.RegionLaw
import Derived.BigRegion
import Derived.Deep.CutBlock
import Derived.Deep.DrawnRows
import Derived.Deep.LoopGhost
import Derived.Deep.MidRow
import Derived.Deep.Quiet
import Derived.Deep.RegionHeldLaw
import Derived.LoopIn
import Derived.LoopNIn
import Derived.TacticsInMore
import Derived.OwnWalkIn
import Derived.RangeFuncNested
import Derived.RangeFuncBound
import Derived.RangeFuncCalls
import Derived.RangeFuncLeaves
import Derived.RangeFuncWrites
import Derived.Shelf.Abstract
import Derived.StillTailTactics
import Derived.Lib.SliceRun
import Derived.Deep.AppendSrc
import Derived.Deep.Upon
import Derived.Deep.DeepAppendWide
import Derived.OrdersIn
import Derived.Sort.LoopGhostIn
/- The document's Legal: the walk. -/
namespace Go.Proofs.YtngmaiiibinkaaaGreat
open Go.RowKit
set_option linter.unusedVariables false
set_option linter.unusedSimpArgs false

set_option maxRecDepth 100000 in
set_option maxHeartbeats 2000000 in
theorem rlegal_bad (A R : Option Addr) (cap rc : Nat) (ts : List Ts) (js : List Fv) (w : World) (hT : Row w A cap ts) (h0 : (chkAll ts).2 ≠ 0) :
    Calls Tryz.prog 32 #[.slice A ts.length cap, .slice R js.length rc] w fun e w' => e = .returned (.bool false) ∧ Below w.heap.size w w' := by
  have K := rcheck_g A cap ts w hT
  have h1 : ((chkAll ts).2 != 0) = true := by simpa using h0
  generalize (chkAll ts).2 = q at *
  have K := Lib.hid K
  have hgf := got_field
  clear h0
  go_enter Tryz.func32, Tryz.ntmps32
  go_wp2_with (go_at_call 25; (with_reducible refine K.out.mono ?_); rintro e w1 ⟨a, rfl, h1⟩)
  go_ret
  exact ⟨rfl, h1⟩
set_option maxRecDepth 100000 in
set_option maxHeartbeats 2000000 in
theorem rlegal_many (A R : Option Addr) (cap rc : Nat) (ts : List Ts) (js : List Fv) (w : World) (hT : Row w A cap ts) (h0 : (chkAll ts).2 = 0) (hl : 4096 < js.length) :
    Calls Tryz.prog 32 #[.slice A ts.length cap, .slice R js.length rc] w fun e w' => e = .returned (.bool false) ∧ Below w.heap.size w w' := by
  have K := rcheck_g A cap ts w hT
  rw [h0] at K
  have K := Lib.hid K
  have g1 : decide ((js.length : Int) > 4096) = true := decide_eq_true (by omega)
  have g1' : decide (4096 < js.length) = true := decide_eq_true hl
  have hgf := got_field
  clear h0
  go_enter Tryz.func32, Tryz.ntmps32
  go_wp2_with (go_at_call 25; (with_reducible refine K.out.mono ?_); rintro e w1 ⟨a, rfl, h1⟩)
  go_ret
  exact ⟨rfl, h1⟩
/-- The walk's state ahead of each job. -/
structure QIn (w wr : World) (ts : List Ts) (js : List Fv) (k : Nat) : Prop where
  bel : Below w.heap.size w wr
  leg : legF ts [] js = legF ts (js.take k) (js.drop k)
  good : ∀ j ∈ js.take k, 0 ≤ j.t ∧ j.t < ts.length ∧ 0 ≤ j.a ∧ j.a ≤ 17592186044416
set_option maxRecDepth 100000 in
set_option maxHeartbeats 16000000 in
theorem rlegal_good (A R : Option Addr) (cap rc : Nat) (ts : List Ts) (js : List Fv) (w : World) (hT : Row w A cap ts) (hR : FRow w R rc js) (h0 : (chkAll ts).2 = 0) (hl : js.length ≤ 4096) :
    Calls Tryz.prog 32 #[.slice A ts.length cap, .slice R js.length rc] w fun e w' => e = .returned (.bool (legF ts [] js)) ∧ Below w.heap.size w w' := by
  have hv := vs_of h0
  have K := rcheck_g A cap ts w hT
  rw [h0] at K
  have hle := hR.le
  have hmx := hR.mx
  have hn0 := hv.n0
  have hn1 := hv.n1
  have HV := Lib.hid hv
  have ROW := Lib.hid hT
  have RAW := Lib.hid hR
  have g1 : decide ((js.length : Int) > 4096) = false := decide_eq_false (by omega)
  have g1' : decide (4096 < js.length) = false := decide_eq_false (by omega)
  have hgf := got_field
  have K0 := Lib.hid K
  clear h0 hT hR hv K
  go_enter Tryz.func32, Tryz.ntmps32
  go_upto_region 3 with (go_at_call 25; (with_reducible refine K0.out.mono ?_); rintro e w1 ⟨a, rfl, h1⟩)
  have HB1 := Lib.hid h1
  clear h1
  go_wp2
  go_loopw [5] (fun i wr => ∃ k : Nat, k ≤ js.length ∧ i = .int .i64 k ∧ Hid (QIn w wr ts js k)) (fun i _ => js.length - (intOf i).toNat)
  case atStart => exact ⟨0, Nat.zero_le _, rfl, Lib.hid ⟨HB1.out, rfl, by simp⟩⟩
  case round =>
    obtain ⟨k, hk, rfl, hI⟩ := hrel
    by_cases hlt : k < js.length
    · obtain ⟨rb, ro, x, C, cc, rfl, hx, hrb, hF⟩ := RAW.out.get (k := k) hlt
      have hF := hF.later hI.out.bel
      have c0 := hF.c0
      have c1 := hF.c1
      have c2 := hF.c2
      have c3 := hF.c3
      have c4 := hF.c4
      have hi0 : (0 : Int) ≤ (k : Int) := by omega
      have hi1 : (k : Int) < (js.length : Int) := by omega
      have HQ := Lib.hid (legF_at hI.out.leg hx)
      have HX := Lib.hid hx
      have HF := Lib.hid hF
      have HLEG : Hid (legJ ts (js.take k) x = (inB x.t 0 ((ts.length : Int) - 1) && (inB x.a (soonI ts (js.take k) x.t) 17592186044416 && (inB x.r x.a (x.a + (tk ts x.t).j) && (inB x.k 1 (tk ts x.t).c && fitB (tk ts x.t).q x.k x.c))))) := Lib.hid rfl
      have hlc := hF.s.le
      have hmc := hF.s.mx
      clear hF hx
      go_upto_region 7 with (fail)
      have F1 := Lib.hid (FAt.new wr x C cc 43 HF.out.wf HF.out.s)
      have B1 := Lib.hid (box_job wr x C cc)
      have HBW := Lib.hid (hI.out.bel.trans (B1.out.mono hI.out.bel.size))
      generalize (wr.alloc (.cells #[.int .i64 x.t, .int .i64 x.a, .int .i64 x.r, .int .i64 x.k, .slice C x.c.length cc] 43)) = W1 at *
      have T1 := Lib.hid (ROW.out.later HBW.out)
      have R1 := Lib.hid (RAW.out.later HBW.out)
      have hb6lt := F1.out.lt
      generalize wr.heap.size = b6 at *
      clear c0 c1 c2 c3 c4
      obtain ⟨z0, z1, z2, z3, z4⟩ := F1.out.z
      by_cases ht0 : x.t < 0
      · have d1 : decide (x.t < 0) = true := decide_eq_true ht0
        have HC : Hid (legF ts [] js = false) := Lib.hid (by rw [HQ.out, HLEG.out, inB_no (by omega)]; rfl)
        go_wp2
        go_ret
        exact ⟨by rw [HC.out]; rfl, HBW.out⟩
      · have d1 : decide (x.t < 0) = false := decide_eq_false ht0
        by_cases ht1 : x.t ≥ (ts.length : Int)
        · have d2 : decide (x.t ≥ (ts.length : Int)) = true := decide_eq_true ht1
          have d2' : decide ((ts.length : Int) ≤ x.t) = true := decide_eq_true ht1
          have HC : Hid (legF ts [] js = false) := Lib.hid (by rw [HQ.out, HLEG.out, inB_no (by omega)]; rfl)
          go_wp2
          go_ret
          exact ⟨by rw [HC.out]; rfl, HBW.out⟩
        · have d2 : decide (x.t ≥ (ts.length : Int)) = false := decide_eq_false ht1
          have d2' : decide ((ts.length : Int) ≤ x.t) = false := decide_eq_false ht1
          obtain ⟨p, hp⟩ : ∃ p : Nat, (p : Int) = x.t := ⟨x.t.toNat, by omega⟩
          have HTB : Hid (inB x.t 0 ((ts.length : Int) - 1) = true) := Lib.hid (inB_yes (by omega))
          obtain ⟨tb, tq, y, rfl, hy, hyw, htb, hT⟩ := T1.out.get (k := p) (by omega)
          have HYT : Hid (tk ts x.t = y) := Lib.hid (by rw [← hp]; exact tk_get hy)
          have hyo := HV.out.tk (p : Int)
          rw [hp, HYT.out] at hyo
          have t0 := hT.c0
          have t1 := hT.c1
          have t2 := hT.c2
          have t3 := hT.c3
          have t4 := hT.c4
          have t5 := hT.c5
          have t6 := hT.c6
          have tp0 : (0 : Int) ≤ x.t := by omega
          have tp1 : x.t < (ts.length : Int) := by omega
          rw [← hp] at z0
          have d1 : decide ((p : Int) < 0) = false := decide_eq_false (by omega)
          have d2 : decide ((p : Int) ≥ (ts.length : Int)) = false := decide_eq_false (by omega)
          have d2' : decide (ts.length ≤ p) = false := decide_eq_false (by omega)
          have tp0 : (0 : Int) ≤ (p : Int) := by omega
          have tp1 : (p : Int) < (ts.length : Int) := by omega
          have HP := Lib.hid hp
          have HYO := Lib.hid hyo
          have HT := Lib.hid hT
          clear hp hyo hy hyw hT ht0 ht1
          go_upto_region 10 with (fail)
          have hb7 : W1.heap.size = W1.heap.size := rfl
          have B2 : Hid (Below W1.heap.size W1 (W1.alloc (.cells #[.string y.n, .int .i64 y.c, .int .i64 y.t, .int .i64 y.d, .int .i64 y.j, .int .i64 y.q, .int .i64 y.p] 45))) := Lib.hid ((Below.refl _ _).alloc (Nat.le_refl _) _)
          have Y2 := Lib.hid (TAt.new W1 y)
          generalize (W1.alloc (.cells #[.string y.n, .int .i64 y.c, .int .i64 y.t, .int .i64 y.d, .int .i64 y.j, .int .i64 y.q, .int .i64 y.p] 45)) = W2 at *
          have F2 := Lib.hid (F1.out.later B2.out)
          have HB2 := Lib.hid (HBW.out.trans (B2.out.mono HBW.out.size))
          have R2 := Lib.hid (R1.out.later B2.out)
          generalize W1.heap.size = b7 at *
          clear z0 z1 z2 z3 z4 t0 t1 t2 t3 t4 t5 t6 hb7
          have hz0 := F2.out.c0
          rw [← HP.out] at hz0
          have hkl : (js.take k).length = k := by rw [List.length_take]; omega
          have hkc : (k : Int) ≤ (rc : Int) := by omega
          have KL0 := last_any (some ⟨rb, ro, none⟩) rc (js.take k) (p : Int) W2.drew ((R2.out.later (below_drew W2)).take k)
          rw [hkl] at KL0
          have KL := Lib.hid KL0
          clear KL0 hkl
          go_still_tail 5, (by kernel_rfl)
          change wpList _ _ _ _ _ W2.drew
          go_upto_region 11 with (go_at_call 27; (with_reducible refine KL.out.mono ?_); rintro e w2 ⟨lr, rfl, hlr, rfl⟩)
          clear hz0
          have HLR := Lib.hid hlr
          have F3 := Lib.hid (F2.out.later (below_drew W2))
          have Y3 := Lib.hid (Y2.out.later (below_drew W2))
          have HB3 := Lib.hid (HB2.out.trans ((below_drew W2).mono HB2.out.size))
          have R3 := Lib.hid (R2.out.later (below_drew W2))
          clear hlr KL
          generalize W2.drew = W3 at *
          obtain ⟨z0, z1, z2, z3, z4⟩ := F3.out.z
          obtain ⟨t0, t1, t2, t3, t4, t5, t6⟩ := Y3.out.zz
          have yt0 := HYO.out.t0
          have yt1 := HYO.out.t1
          have yj0 := HYO.out.j0
          have yj1 := HYO.out.j1
          have yc1 := HYO.out.c1
          have yq1 := HYO.out.q1
          go_cut [104] from 20 to 145 (fun s wx => s = .bool (!(inB x.a (soonI ts (js.take k) x.t) 17592186044416 && (inB x.r x.a (x.a + y.j) && inB x.k 1 y.c))) ∧ Below W3.heap.size W3 wx)
          case first =>
            rcases HLR.out with ⟨rfl, hls⟩ | ⟨li, lx, rfl, hlx, hls⟩
            · have HSO : Hid (soonI ts (js.take k) x.t = 0) := Lib.hid (by rw [← HP.out, soonI, hls])
              clear hls
              by_cases q0 : x.a < 0
              · have e0 : decide (x.a < 0) = true := decide_eq_true q0
                have HBAD : Hid ((!(inB x.a (soonI ts (js.take k) x.t) 17592186044416 && (inB x.r x.a (x.a + y.j) && inB x.k 1 y.c))) = true) := Lib.hid (by
                  rw [HSO.out]
                  rw [Bool.not_eq_true']
                  simp only [Bool.and_eq_false_iff, inB, decide_eq_false_iff_not]; omega)
                go_quiet (fail)
                go_wp2
                go_meet
                exact ⟨by rw [HBAD.out], same_drewN W3 nq⟩
              · have e0 : decide (x.a < 0) = false := decide_eq_false q0
                by_cases q1 : x.a > 17592186044416
                · have e1 : decide (x.a > 17592186044416) = true := decide_eq_true q1
                  have e1' : decide (17592186044416 < x.a) = true := decide_eq_true q1
                  have HBAD : Hid ((!(inB x.a (soonI ts (js.take k) x.t) 17592186044416 && (inB x.r x.a (x.a + y.j) && inB x.k 1 y.c))) = true) := Lib.hid (by
                    rw [HSO.out]
                    rw [Bool.not_eq_true']
                    simp only [Bool.and_eq_false_iff, inB, decide_eq_false_iff_not]; omega)
                  go_quiet (fail)
                  go_wp2
                  go_meet
                  exact ⟨by rw [HBAD.out], same_drewN W3 nq⟩
                · have e1 : decide (x.a > 17592186044416) = false := decide_eq_false q1
                  have e1' : decide (17592186044416 < x.a) = false := decide_eq_false q1
                  have hw2 : IntKind.i64.wrap (x.a + y.j) = x.a + y.j := IntWalk.i64_in _ (by omega)
                  by_cases q2 : x.r < x.a
                  · have e2 : decide (x.r < x.a) = true := decide_eq_true q2
                    have HBAD : Hid ((!(inB x.a (soonI ts (js.take k) x.t) 17592186044416 && (inB x.r x.a (x.a + y.j) && inB x.k 1 y.c))) = true) := Lib.hid (by
                      rw [HSO.out]
                      rw [Bool.not_eq_true']
                      simp only [Bool.and_eq_false_iff, inB, decide_eq_false_iff_not]; omega)
                    go_quiet (fail)
                    go_wp2
                    go_meet
                    exact ⟨by rw [HBAD.out], same_drewN W3 nq⟩
                  · have e2 : decide (x.r < x.a) = false := decide_eq_false q2
                    by_cases q3 : x.r > x.a + y.j
                    · have e3 : decide (x.r > x.a + y.j) = true := decide_eq_true q3
                      have e3' : decide (x.a + y.j < x.r) = true := decide_eq_true q3
                      have HBAD : Hid ((!(inB x.a (soonI ts (js.take k) x.t) 17592186044416 && (inB x.r x.a (x.a + y.j) && inB x.k 1 y.c))) = true) := Lib.hid (by
                        rw [HSO.out]
                        rw [Bool.not_eq_true']
                        simp only [Bool.and_eq_false_iff, inB, decide_eq_false_iff_not]; omega)
                      go_quiet (fail)
                      go_wp2
                      go_meet
                      exact ⟨by rw [HBAD.out], same_drewN W3 nq⟩
                    · have e3 : decide (x.r > x.a + y.j) = false := decide_eq_false q3
                      have e3' : decide (x.a + y.j < x.r) = false := decide_eq_false q3
                      by_cases q4 : x.k < 1
                      · have e4 : decide (x.k < 1) = true := decide_eq_true q4
                        have HBAD : Hid ((!(inB x.a (soonI ts (js.take k) x.t) 17592186044416 && (inB x.r x.a (x.a + y.j) && inB x.k 1 y.c))) = true) := Lib.hid (by
                          rw [HSO.out]
                          rw [Bool.not_eq_true']
                          simp only [Bool.and_eq_false_iff, inB, decide_eq_false_iff_not]; omega)
                        go_quiet (fail)
                        go_wp2
                        go_meet
                        exact ⟨by rw [HBAD.out], same_drewN W3 nq⟩
                      · have e4 : decide (x.k < 1) = false := decide_eq_false q4
                        by_cases q5 : x.k > y.c
                        · have e5 : decide (x.k > y.c) = true := decide_eq_true q5
                          have e5' : decide (y.c < x.k) = true := decide_eq_true q5
                          have HBAD : Hid ((!(inB x.a (soonI ts (js.take k) x.t) 17592186044416 && (inB x.r x.a (x.a + y.j) && inB x.k 1 y.c))) = true) := Lib.hid (by
                            rw [HSO.out]
                            rw [Bool.not_eq_true']
                            simp only [Bool.and_eq_false_iff, inB, decide_eq_false_iff_not]; omega)
                          go_quiet (fail)
                          go_wp2
                          go_meet
                          exact ⟨by rw [HBAD.out], same_drewN W3 nq⟩
                        · have e5 : decide (x.k > y.c) = false := decide_eq_false q5
                          have e5' : decide (y.c < x.k) = false := decide_eq_false q5
                          have HBAD : Hid ((!(inB x.a (soonI ts (js.take k) x.t) 17592186044416 && (inB x.r x.a (x.a + y.j) && inB x.k 1 y.c))) = false) := Lib.hid (by
                            rw [HSO.out]
                            rw [Bool.not_eq_false']
                            simp only [Bool.and_eq_true, inB_iff]; omega)
                          go_quiet (fail)
                          go_wp2
                          go_meet
                          exact ⟨by rw [HBAD.out], same_drewN W3 nq⟩
            · have hli : li < (js.take k).length := (List.getElem?_eq_some_iff.1 hlx).1
              have hlik : li < js.length := by rw [List.length_take] at hli; omega
              have hla := (hI.out.good lx (List.mem_of_getElem? hlx)).2.2
              have hlx2 : js[li]? = some lx := by rw [List.getElem?_take_of_lt (by rw [List.length_take] at hli; omega)] at hlx; exact hlx
              obtain ⟨jb, jo, lx', C', cc', hje, hlx', hjb, hJ⟩ := R3.out.get hlik
              obtain rfl : lx = lx' := by rw [hlx2] at hlx'; exact Option.some.inj hlx'
              obtain ⟨rfl, rfl⟩ : rb = jb ∧ ro = jo := by simpa using hje
              have l1 := hJ.c1
              have HSO : Hid (soonI ts (js.take k) x.t = lx.a + y.t) := Lib.hid (by rw [← HP.out, soonI, hls, HP.out, HYT.out])
              have li0 : (0 : Int) ≤ (li : Int) := by omega
              have li1 : (li : Int) < (js.length : Int) := by omega
              have g4 : decide ((li : Int) ≥ 0) = true := decide_eq_true li0
              have hw1 : IntKind.i64.wrap (lx.a + y.t) = lx.a + y.t := IntWalk.i64_in _ (by omega)
              clear hli hlx hlx2 hlx' hje hls hJ
              by_cases q0 : x.a < 0
              · have e0 : decide (x.a < 0) = true := decide_eq_true q0
                have HBAD : Hid ((!(inB x.a (soonI ts (js.take k) x.t) 17592186044416 && (inB x.r x.a (x.a + y.j) && inB x.k 1 y.c))) = true) := Lib.hid (by
                  rw [HSO.out]
                  rw [Bool.not_eq_true']
                  simp only [Bool.and_eq_false_iff, inB, decide_eq_false_iff_not]; omega)
                go_quiet (fail)
                go_wp2
                go_meet
                exact ⟨by rw [HBAD.out], same_drewN W3 nq⟩
              · have e0 : decide (x.a < 0) = false := decide_eq_false q0
                by_cases q1 : x.a > 17592186044416
                · have e1 : decide (x.a > 17592186044416) = true := decide_eq_true q1
                  have e1' : decide (17592186044416 < x.a) = true := decide_eq_true q1
                  have HBAD : Hid ((!(inB x.a (soonI ts (js.take k) x.t) 17592186044416 && (inB x.r x.a (x.a + y.j) && inB x.k 1 y.c))) = true) := Lib.hid (by
                    rw [HSO.out]
                    rw [Bool.not_eq_true']
                    simp only [Bool.and_eq_false_iff, inB, decide_eq_false_iff_not]; omega)
                  go_quiet (fail)
                  go_wp2
                  go_meet
                  exact ⟨by rw [HBAD.out], same_drewN W3 nq⟩
                · have e1 : decide (x.a > 17592186044416) = false := decide_eq_false q1
                  have e1' : decide (17592186044416 < x.a) = false := decide_eq_false q1
                  by_cases q2 : x.a < lx.a + y.t
                  · have e2 : decide (x.a < lx.a + y.t) = true := decide_eq_true q2
                    have HBAD : Hid ((!(inB x.a (soonI ts (js.take k) x.t) 17592186044416 && (inB x.r x.a (x.a + y.j) && inB x.k 1 y.c))) = true) := Lib.hid (by
                      rw [HSO.out]
                      rw [Bool.not_eq_true']
                      simp only [Bool.and_eq_false_iff, inB, decide_eq_false_iff_not]; omega)
                    go_quiet (fail)
                    go_wp2
                    go_meet
                    exact ⟨by rw [HBAD.out], same_drewN W3 nq⟩
                  · have e2 : decide (x.a < lx.a + y.t) = false := decide_eq_false q2
                    have hw2 : IntKind.i64.wrap (x.a + y.j) = x.a + y.j := IntWalk.i64_in _ (by omega)
                    by_cases q3 : x.r < x.a
                    · have e3 : decide (x.r < x.a) = true := decide_eq_true q3
                      have HBAD : Hid ((!(inB x.a (soonI ts (js.take k) x.t) 17592186044416 && (inB x.r x.a (x.a + y.j) && inB x.k 1 y.c))) = true) := Lib.hid (by
                        rw [HSO.out]
                        rw [Bool.not_eq_true']
                        simp only [Bool.and_eq_false_iff, inB, decide_eq_false_iff_not]; omega)
                      go_quiet (fail)
                      go_wp2
                      go_meet
                      exact ⟨by rw [HBAD.out], same_drewN W3 nq⟩
                    · have e3 : decide (x.r < x.a) = false := decide_eq_false q3
                      by_cases q4 : x.r > x.a + y.j
                      · have e4 : decide (x.r > x.a + y.j) = true := decide_eq_true q4
                        have e4' : decide (x.a + y.j < x.r) = true := decide_eq_true q4
                        have HBAD : Hid ((!(inB x.a (soonI ts (js.take k) x.t) 17592186044416 && (inB x.r x.a (x.a + y.j) && inB x.k 1 y.c))) = true) := Lib.hid (by
                          rw [HSO.out]
                          rw [Bool.not_eq_true']
                          simp only [Bool.and_eq_false_iff, inB, decide_eq_false_iff_not]; omega)
                        go_quiet (fail)
                        go_wp2
                        go_meet
                        exact ⟨by rw [HBAD.out], same_drewN W3 nq⟩
                      · have e4 : decide (x.r > x.a + y.j) = false := decide_eq_false q4
                        have e4' : decide (x.a + y.j < x.r) = false := decide_eq_false q4
                        by_cases q5 : x.k < 1
                        · have e5 : decide (x.k < 1) = true := decide_eq_true q5
                          have HBAD : Hid ((!(inB x.a (soonI ts (js.take k) x.t) 17592186044416 && (inB x.r x.a (x.a + y.j) && inB x.k 1 y.c))) = true) := Lib.hid (by
                            rw [HSO.out]
                            rw [Bool.not_eq_true']
                            simp only [Bool.and_eq_false_iff, inB, decide_eq_false_iff_not]; omega)
                          go_quiet (fail)
                          go_wp2
                          go_meet
                          exact ⟨by rw [HBAD.out], same_drewN W3 nq⟩
                        · have e5 : decide (x.k < 1) = false := decide_eq_false q5
                          by_cases q6 : x.k > y.c
                          · have e6 : decide (x.k > y.c) = true := decide_eq_true q6
                            have e6' : decide (y.c < x.k) = true := decide_eq_true q6
                            have HBAD : Hid ((!(inB x.a (soonI ts (js.take k) x.t) 17592186044416 && (inB x.r x.a (x.a + y.j) && inB x.k 1 y.c))) = true) := Lib.hid (by
                              rw [HSO.out]
                              rw [Bool.not_eq_true']
                              simp only [Bool.and_eq_false_iff, inB, decide_eq_false_iff_not]; omega)
                            go_quiet (fail)
                            go_wp2
                            go_meet
                            exact ⟨by rw [HBAD.out], same_drewN W3 nq⟩
                          · have e6 : decide (x.k > y.c) = false := decide_eq_false q6
                            have e6' : decide (y.c < x.k) = false := decide_eq_false q6
                            have HBAD : Hid ((!(inB x.a (soonI ts (js.take k) x.t) 17592186044416 && (inB x.r x.a (x.a + y.j) && inB x.k 1 y.c))) = false) := Lib.hid (by
                              rw [HSO.out]
                              rw [Bool.not_eq_false']
                              simp only [Bool.and_eq_true, inB_iff]; omega)
                            go_quiet (fail)
                            go_wp2
                            go_meet
                            exact ⟨by rw [HBAD.out], same_drewN W3 nq⟩
          case rest =>
            obtain ⟨rfl, hBc⟩ := hcut
            have HBC := Lib.hid hBc
            have HBW2 := Lib.hid (HB3.out.trans (hBc.mono HB3.out.size))
            have F4 := Lib.hid (F3.out.later hBc)
            have Y4 := Lib.hid (Y3.out.later hBc)
            have HLEG2 : Hid (legJ ts (js.take k) x = ((inB x.a (soonI ts (js.take k) x.t) 17592186044416 && (inB x.r x.a (x.a + y.j) && inB x.k 1 y.c)) && fitB y.q x.k x.c)) := Lib.hid (by
              rw [HLEG.out, HTB.out, HYT.out, Bool.true_and, Bool.and_assoc, Bool.and_assoc])
            have HPARTS : Hid ((inB x.a (soonI ts (js.take k) x.t) 17592186044416 && (inB x.r x.a (x.a + y.j) && inB x.k 1 y.c)) = true → (soonI ts (js.take k) x.t ≤ x.a ∧ x.a ≤ 17592186044416) ∧ (1 ≤ x.k ∧ x.k ≤ y.c)) := Lib.hid (fun h => by
              simp only [Bool.and_eq_true, inB_iff] at h
              exact ⟨h.1, h.2.2⟩)
            have HSN : Hid (0 ≤ soonI ts (js.take k) x.t) := Lib.hid (by
              unfold soonI
              cases hls : lastT (js.take k) x.t with
              | none => simp
              | some j =>
                have h1 := hI.out.good j (lastT_mem hls).1
                have h2 := (HV.out.tk x.t).t0
                simp only
                omega)
            generalize (inB x.a (soonI ts (js.take k) x.t) 17592186044416 && (inB x.r x.a (x.a + y.j) && inB x.k 1 y.c)) = bb at *
            clear hBc z0 z1 z2 z3 z4 t0 t1 t2 t3 t4 t5 t6
            apply_assumption
            cases bb
            · have HC : Hid (legF ts [] js = false) := Lib.hid (by rw [HQ.out, HLEG2.out]; rfl)
              go_wp2
              go_ret
              exact ⟨by rw [HC.out]; rfl, HBW2.out⟩
            · obtain ⟨⟨pa0, pa1⟩, pk0, pk1⟩ := HPARTS.out rfl
              have HQ2 : Hid (legF ts [] js = (fitB y.q x.k x.c && legF ts (js.take (k + 1)) (js.drop (k + 1)))) := Lib.hid (by rw [HQ.out, HLEG2.out, Bool.true_and])
              have HG2 : Hid (∀ j ∈ js.take (k + 1), 0 ≤ j.t ∧ j.t < ts.length ∧ 0 ≤ j.a ∧ j.a ≤ 17592186044416) := Lib.hid (fun j hj => by
                rw [take_one HX.out] at hj
                rcases List.mem_append.1 hj with hj | hj
                · exact hI.out.good j hj
                · rw [List.mem_singleton] at hj
                  subst hj
                  have := HP.out
                  have := HSN.out
                  omega)
              obtain ⟨z0, z1, z2, z3, z4⟩ := F4.out.z
              clear HPARTS HLEG2 pa0 pa1
              go_wp2
              clear z0 z1 z2 z3 z4
              go_loopw [9, 10] (fun lf c wr2 => ∃ (m : Nat) (left : Int), m ≤ x.c.length ∧ c = .int .i64 m ∧ lf = .int .i64 left ∧ 0 ≤ left ∧ left ≤ x.k ∧ Hid (Below wc.heap.size wc wr2) ∧ Hid (fitB y.q x.k x.c = fitB y.q left (x.c.drop m))) (fun _ c _ => x.c.length - (intOf c).toNat)
              case atStart => exact ⟨0, x.k, Nat.zero_le _, rfl, rfl, by omega, Int.le_refl _, Lib.hid (Below.refl _ _), Lib.hid rfl⟩
              case round =>
                obtain ⟨m, left, hm, rfl, rfl, l0, l1, hB5, hq5⟩ := hrel
                have F5 := Lib.hid (F4.out.later hB5.out)
                have Y5 := Lib.hid (Y4.out.later hB5.out)
                have z4 := F5.out.c4
                rw [Nat.zero_add] at z4
                by_cases hml : m < x.c.length
                · obtain ⟨cb, co, cut, rfl, hct, hcw, hcb, hcell⟩ := F4.out.s.get hml
                  have e9 := (hB5.out.cell (p := ⟨cb, co + m, none⟩) hcb).trans hcell
                  have m0 : (0 : Int) ≤ (m : Int) := by omega
                  have m1 : (m : Int) < (x.c.length : Int) := by omega
                  have hd : x.c.drop m = cut :: x.c.drop (m + 1) := by
                    obtain ⟨hlt', he⟩ := List.getElem?_eq_some_iff.1 hct
                    rw [← he]
                    exact (List.drop_eq_getElem_cons hlt')
                  have HFIT : Hid (fitB y.q x.k x.c = (decide (1 ≤ cut ∧ cut ≤ min y.q left) && fitB y.q (left - cut) (x.c.drop (m + 1)))) := Lib.hid (by rw [hq5.out, hd, fitB])
                  obtain ⟨t0, t1, t2, t3, t4, t5, t6⟩ := Y5.out.zz
                  clear hct hcell hd hq5
                  go_upto_region 17 with (fail)
                  by_cases q0 : cut < 1
                  · have e0 : decide (cut < 1) = true := decide_eq_true q0
                    have HC : Hid (legF ts [] js = false) := Lib.hid (by rw [HQ2.out, HFIT.out, decide_eq_false (by omega)]; rfl)
                    go_quiet (fail)
                    go_wp2
                    go_ret
                    exact ⟨by rw [HC.out]; rfl, (HBW2.out.trans (hB5.out.mono HBW2.out.size)).trans ((same_drewN wr nq).mono (HBW2.out.trans (hB5.out.mono HBW2.out.size)).size)⟩
                  · have e0 : decide (cut < 1) = false := decide_eq_false q0
                    by_cases q1 : cut > y.q
                    · have e1 : decide (cut > y.q) = true := decide_eq_true q1
                      have e1' : decide (y.q < cut) = true := decide_eq_true q1
                      have HC : Hid (legF ts [] js = false) := Lib.hid (by rw [HQ2.out, HFIT.out, decide_eq_false (by omega)]; rfl)
                      go_quiet (fail)
                      go_wp2
                      go_ret
                      exact ⟨by rw [HC.out]; rfl, (HBW2.out.trans (hB5.out.mono HBW2.out.size)).trans ((same_drewN wr nq).mono (HBW2.out.trans (hB5.out.mono HBW2.out.size)).size)⟩
                    · have e1 : decide (cut > y.q) = false := decide_eq_false q1
                      have e1' : decide (y.q < cut) = false := decide_eq_false q1
                      by_cases q2 : cut > left
                      · have e2 : decide (cut > left) = true := decide_eq_true q2
                        have e2' : decide (left < cut) = true := decide_eq_true q2
                        have HC : Hid (legF ts [] js = false) := Lib.hid (by rw [HQ2.out, HFIT.out, decide_eq_false (by omega)]; rfl)
                        go_quiet (fail)
                        go_wp2
                        go_ret
                        exact ⟨by rw [HC.out]; rfl, (HBW2.out.trans (hB5.out.mono HBW2.out.size)).trans ((same_drewN wr nq).mono (HBW2.out.trans (hB5.out.mono HBW2.out.size)).size)⟩
                      · have e2 : decide (cut > left) = false := decide_eq_false q2
                        have e2' : decide (left < cut) = false := decide_eq_false q2
                        have HFIT2 : Hid (fitB y.q x.k x.c = fitB y.q (left - cut) (x.c.drop (m + 1))) := Lib.hid (by rw [HFIT.out, decide_eq_true (by omega)]; rfl)
                        go_quiet (fail)
                        have HB6 := Lib.hid (hB5.out.trans ((same_drewN wr nq).mono hB5.out.size))
                        have z4' : (wr.drewN nq).cell? ⟨b6, 4, none⟩ = _ := z4
                        have e9' : (wr.drewN nq).cell? ⟨cb, co + m, none⟩ = _ := e9
                        clear z4 e9 t0 t1 t2 t3 t4 t5 t6
                        generalize wr.drewN nq = W6 at *
                        go_wp2
                        go_roundw
                        case rel => exact ⟨m + 1, left - cut, by omega, by go_num, rfl, by omega, by omega, HB6, HFIT2⟩
                        case measure => simp [intOf]; omega
                · obtain rfl : m = x.c.length := by omega
                  have HQ3 : Hid (legF ts [] js = legF ts (js.take (k + 1)) (js.drop (k + 1))) := Lib.hid (by rw [HQ2.out, hq5.out, List.drop_length]; rfl)
                  go_wp2
                  go_roundw
                  case rel => exact ⟨k + 1, by omega, by go_num, Lib.hid ⟨HBW2.out.trans (hB5.out.mono HBW2.out.size), HQ3.out, HG2.out⟩⟩
                  case measure => simp [intOf]; omega
    · obtain rfl : k = js.length := by omega
      go_wp2
      go_ret
      exact ⟨by rw [hI.out.leg, List.drop_length]; rfl, hI.out.bel⟩
theorem rlegal_any (A R : Option Addr) (cap rc : Nat) (ts : List Ts) (js : List Fv) (w : World) (hT : Row w A cap ts) (hR : FRow w R rc js) :
    Calls Tryz.prog 32 #[.slice A ts.length cap, .slice R js.length rc] w fun e w' => e = .returned (.bool (legS ts js)) ∧ Below w.heap.size w w' := by
  by_cases h : (chkAll ts).2 = 0
  · by_cases hl : js.length ≤ 4096
    · rw [legS_good h hl]; exact rlegal_good A R cap rc ts js w hT hR h hl
    · rw [legS_many (by omega)]; exact rlegal_many A R cap rc ts js w hT h (by omega)
  · rw [legS_bad h]; exact rlegal_bad A R cap rc ts js w hT h
end Go.Proofs.YtngmaiiibinkaaaGreat
/- What legal jobs are like. -/
namespace Go.Proofs.YtngmaiiibinkaaaGreat
open Go.RowKit
set_option linter.unusedVariables false
set_option linter.unusedSimpArgs false
theorem fitB_parts (q : Int) : ∀ (left : Int) (l : List Int), 0 ≤ left → fitB q left l = true → Pos1 l ∧ l.sum ≤ left ∧ ∀ x ∈ l, x ≤ q
  | left, [], h0, _ => ⟨fun x hx => by simp at hx, by simpa using h0, by simp⟩
  | left, c :: r, h0, h => by
    simp only [fitB, Bool.and_eq_true, decide_eq_true_eq] at h
    obtain ⟨h1, h2, h3⟩ := fitB_parts q (left - c) r (by omega) h.2
    refine ⟨fun x hx => ?_, by rw [List.sum_cons]; omega, fun x hx => ?_⟩
    · rcases List.mem_cons.1 hx with rfl | hx
      · omega
      · exact h1 x hx
    · rcases List.mem_cons.1 hx with rfl | hx
      · omega
      · exact h3 x hx
theorem tsOver {x : Ts} (h : checkE x = 0) : x.c + x.j ≤ x.t ∧ x.q ≤ x.c ∧ x.c + x.j ≤ x.d := by
  by_cases h1 : (namedB x && rangedB x) = true
  · rw [checkE, if_pos h1] at h
    by_cases h2 : overB x = true
    · rw [if_pos h2] at h; omega
    · simp [overB] at h2
      omega
  · rw [checkE, if_neg h1] at h; omega
theorem tk_over {ts : List Ts} (h : (chkAll ts).2 = 0) {p : Int} (h0 : 0 ≤ p) (h1 : p < ts.length) : (tk ts p).c + (tk ts p).j ≤ (tk ts p).t ∧ (tk ts p).q ≤ (tk ts p).c ∧ (tk ts p).c + (tk ts p).j ≤ (tk ts p).d := by
  obtain ⟨k, rfl⟩ : ∃ k : Nat, p = (k : Int) := ⟨p.toNat, by omega⟩
  have e : ts[k]? = some (ts[k]'(by omega)) := List.getElem?_eq_getElem (by omega)
  rw [tk_get e]
  rw [chkAll] at h
  split at h
  · cases h
  · exact tsOver (chkFrom_ok ts [] h _ (List.mem_of_getElem? e))
/-- Of a legal job. -/
structure LJ (ts : List Ts) (j : Fv) : Prop where
  t0 : 0 ≤ j.t
  t1 : j.t < ts.length
  a0 : 0 ≤ j.a
  a1 : j.a ≤ 17592186044416
  r0 : j.a ≤ j.r
  r1 : j.r ≤ j.a + (tk ts j.t).j
  k0 : 1 ≤ j.k
  k1 : j.k ≤ (tk ts j.t).c
  pos : Pos1 j.c
  fit : j.c.sum ≤ j.k
  q : ∀ x ∈ j.c, x ≤ (tk ts j.t).q
structure LJs (ts : List Ts) (js : List Fv) : Prop where
  all : ∀ j ∈ js, LJ ts j
  pw : js.Pairwise (fun x y => x.t = y.t → x.a + (tk ts x.t).t ≤ y.a)
  last : ∀ p l, lastT js p = some l → ∀ i ∈ js, i.t = p → i.a ≤ l.a
theorem ljs_of {ts : List Ts} (hv : Vs ts) : ∀ js : List Fv, legF ts [] js = true → LJs ts js := by
  refine snoc_ind ?_ ?_
  · intro _
    exact ⟨by simp, List.Pairwise.nil, fun p l h => by simp [lastT_nil] at h⟩
  · intro js j ih h
    rw [legF_app, List.nil_append, Bool.and_eq_true] at h
    obtain ⟨h1, h2⟩ := h
    have I := ih h1
    simp only [legF, Bool.and_true] at h2
    obtain ⟨⟨t0, t1⟩, ⟨a0, a1⟩, ⟨r0, r1⟩, ⟨k0, k1⟩, hf⟩ := legJ_parts h2
    have hk := hv.tk j.t
    have hsn : ∀ i ∈ js, i.t = j.t → i.a + (tk ts i.t).t ≤ j.a := by
      intro i hi hit
      cases hl : lastT js j.t with
      | none =>
        exfalso
        unfold lastT at hl
        rw [List.find?_eq_none] at hl
        have := hl i (by simpa using hi)
        simp [hit] at this
      | some l =>
        have h3 := I.last _ _ hl i hi hit
        unfold soonI at a0
        rw [hl] at a0
        simp only at a0
        rw [hit]; omega
    have ha0 : 0 ≤ j.a := by
      unfold soonI at a0
      cases hl : lastT js j.t with
      | none => rw [hl] at a0; exact a0
      | some l =>
        rw [hl] at a0
        have := (I.all l (lastT_mem hl).1).a0
        have := hk.t0
        simp only at a0
        omega
    obtain ⟨f1, f2, f3⟩ := fitB_parts _ _ _ (by omega) hf
    refine ⟨fun i hi => ?_, ?_, fun p l hl i hi hip => ?_⟩
    · rcases List.mem_append.1 hi with hi | hi
      · exact I.all i hi
      · rw [List.mem_singleton.1 hi]
        exact ⟨t0, by omega, ha0, a1, r0, r1, k0, k1, f1, f2, f3⟩
    · refine List.pairwise_append.2 ⟨I.pw, List.pairwise_singleton _ _, fun x hx y hy => ?_⟩
      rw [List.mem_singleton.1 hy]
      exact fun e => hsn x hx e
    · rw [lastT_snoc] at hl
      rcases List.mem_append.1 hi with hi | hi
      · split at hl
        · rename_i e
          injection hl with hl
          subst hl
          have := hsn i hi (by rw [hip, e])
          have := (hv.tk i.t).t0
          omega
        · exact I.last p l hl i hi hip
      · rw [List.mem_singleton.1 hi] at hip ⊢
        rw [if_pos hip] at hl
        injection hl with hl
        subst hl
        exact Int.le_refl _
theorem legS_parts {ts : List Ts} {js : List Fv} (h : legS ts js = true) : (chkAll ts).2 = 0 ∧ js.length ≤ 4096 ∧ legF ts [] js = true := by
  unfold legS at h
  rw [Bool.and_eq_true, decide_eq_true_eq] at h
  exact ⟨h.1.1, h.1.2, h.2⟩
theorem jb_lj {ts : List Ts} {js : List Fv} (h : LJs ts js) {i : Nat} (hi : i < js.length) : LJ ts (jb js i) := by
  have e : js[i]? = some js[i] := List.getElem?_eq_getElem hi
  rw [jb_get e]
  exact h.all _ (List.mem_of_getElem? e)
theorem lg_of {ts : List Ts} {js : List Fv} (h : LJs ts js) : Lg js := by
  refine ⟨fun i hi => ?_, fun i hi => (jb_lj h hi).k0, fun i => ?_, fun i hi => (jb_lj h hi).fit⟩
  · have := jb_lj h hi; have := this.a0; have := (jb_lj h hi).r0; omega
  · by_cases hi : i < js.length
    · exact (jb_lj h hi).pos
    · intro x hx
      have : js[i]? = none := List.getElem?_eq_none (by omega)
      simp [jb, this] at hx
theorem seq_of {ts : List Ts} {js : List Fv} (hc : (chkAll ts).2 = 0) (h : LJs ts js) : Seq js := by
  refine ⟨fun i j hij hj ht => ?_⟩
  have hi : i < js.length := by omega
  have h1 := List.pairwise_iff_getElem.1 h.pw i j hi hj hij
  have e1 := jb_get (List.getElem?_eq_getElem hi)
  have e2 := jb_get (List.getElem?_eq_getElem hj)
  have l1 := jb_lj h hi
  have l2 := jb_lj h hj
  rw [← e1, ← e2] at h1
  have h2 := h1 ht
  have ov := tk_over hc l1.t0 l1.t1
  have := l1.r1
  have := l2.r0
  have := l1.k0
  have := l1.k1
  omega
end Go.Proofs.YtngmaiiibinkaaaGreat
/- The law's few raw jobs. -/
namespace Go.Proofs.YtngmaiiibinkaaaGreat
open Go.RowKit
set_option linter.unusedVariables false
set_option linter.unusedSimpArgs false

def fewRS1 (r : Fv) : Fv := { r with a := r.a % 12, c := r.c.take 5 }
def fewRS (rs : List Fv) : List Fv := (rs.take 12).map fewRS1
def fewRSPost (rs : List Fv) (w : World) (e : Ending) (w' : World) : Prop := ∃ v gs, e = .returned v ∧ FOwn 69 w.heap.size w' v gs ∧ gs.map (·.x) = fewRS rs ∧ Below w.heap.size w w'
structure fewRSIn (w wr : World) (v : Value) (rs : List Fv) : Prop where
  own : ∃ gs, FOwn 69 w.heap.size wr v gs ∧ gs.map (·.x) = rs.map fewRS1
  bel : Below w.heap.size w wr
set_option maxRecDepth 100000 in
set_option maxHeartbeats 8000000 in
theorem fewR_any (R : Option Addr) (rc : Nat) (rs : List Fv) (w : World) (hR : FRow w R rc rs) :
    Calls Tryz.prog 10 #[.slice R rs.length rc, .int .i64 12] w (fewRSPost rs w) := by
  obtain ⟨i0, hi, hz0, hz1, hz2⟩ := info_parts infoRs
  have hle := hR.le
  have hmx := hR.mx
  have RAW := Lib.hid hR
  clear hR
  go_enter Tryz.func10, Tryz.ntmps10
  go_wp2
  go_loopw [5, 6] (fun v i wr => ∃ k : Nat, k ≤ min rs.length 12 ∧ i = .int .i64 k ∧ Hid (fewRSIn w wr v (rs.take k))) (fun _ i _ => 12 - (intOf i).toNat)
  case atStart => exact ⟨0, Nat.zero_le _, rfl, Lib.hid ⟨⟨[], FOwn.nil _ _ _, rfl⟩, Below.refl _ _⟩⟩
  case round =>
    obtain ⟨k, hk, rfl, hI⟩ := hrel
    have hk1 : k ≤ rs.length := by omega
    have hk2 : k ≤ 12 := by omega
    by_cases hlt : k < rs.length ∧ k < 12
    · obtain ⟨hl1, hl2⟩ := hlt
      obtain ⟨rb, ro, x, C, cc, rfl, hx, hrb, hF0⟩ := RAW.out.get (k := k) (by omega)
      have hF := hF0.later hI.out.bel
      have c0 := hF.c0
      have c1 := hF.c1
      have c2 := hF.c2
      have c3 := hF.c3
      have c4 := hF.c4
      have g1 : decide ((k : Int) < (rs.length : Int)) = true := decide_eq_true (by omega)
      have g2 : decide ((k : Int) < 12) = true := decide_eq_true (by omega)
      have g2' : decide (k < 12) = true := decide_eq_true (by omega)
      have hi0 : (0 : Int) ≤ (k : Int) := by omega
      have hi1 : (k : Int) < (rs.length : Int) := by omega
      obtain ⟨gs, hG, hgs⟩ := hI.out.own
      have hgl : gs.length = k := by
        have := congrArg List.length hgs
        rw [List.length_map, List.length_map, List.length_take] at this
        omega
      have hlc := hF.s.le
      have hmc := hF.s.mx
      have HSF : Hid (Safe 69 w.heap.size w C x.c) := Lib.hid (fun hne a ha => by
        obtain ⟨b, o, n, hA, _, _, hbl, _⟩ := hF0.s.get (k := 0) (by rcases Nat.eq_zero_or_pos x.c.length with h0 | h0; exact absurd (List.length_eq_zero_iff.1 h0) hne; exact h0)
        rw [ha] at hA
        cases hA
        exact .inl hbl)
      have hgb := emod_bd x.a 12 (by omega)
      have HGB := Lib.hid hgb
      have KR0 := fun W => r8rest_any x.a 12 W hF.wf.a (by omega) (by omega)
      obtain ⟨ga, hga⟩ : ∃ ga, x.a % 12 = ga := ⟨_, rfl⟩
      have KR1 := KR0
      rw [hga] at KR1
      have KR := Lib.hid KR1
      have HGA0 := Lib.hid hga
      clear hgb KR0 KR1 hga
      have HX := Lib.hid hx
      have HF := Lib.hid hF
      have HG := Lib.hid hG
      have HGA := Lib.hid hG
      have HGS := Lib.hid hgs
      have HGL := Lib.hid hgl
      have HBW := Lib.hid hI.out.bel
      clear hF hF0 hx hG hgs hgl hI
      go_upto_region 6 with (fail)
      have F1 := Lib.hid (FB.new wr 69 (.int .i64 x.t) (.int .i64 x.a) (.int .i64 x.r) (.int .i64 x.k) (.slice C x.c.length cc))
      have B1 : Hid (Below wr.heap.size wr (wr.alloc (.cells #[.int .i64 x.t, .int .i64 x.a, .int .i64 x.r, .int .i64 x.k, .slice C x.c.length cc] 69))) := Lib.hid ((Below.refl _ _).alloc (Nat.le_refl _) _)
      generalize (wr.alloc (.cells #[.int .i64 x.t, .int .i64 x.a, .int .i64 x.r, .int .i64 x.k, .slice C x.c.length cc] 69)) = W1 at *
      obtain ⟨bx, hbx⟩ : ∃ bx, bx = wr.heap.size := ⟨_, rfl⟩
      have F1 : Hid (FB W1 bx 69 (.int .i64 x.t) (.int .i64 x.a) (.int .i64 x.r) (.int .i64 x.k) (.slice C x.c.length cc)) := by rw [hbx]; exact F1
      have HBX : Hid (wr.heap.size ≤ bx) := Lib.hid (by rw [hbx]; exact Nat.le_refl _)
      rw [← hbx]
      clear c0 c1 c2 c3 c4 hbx
      obtain ⟨z0, z1, z2, z3, z4⟩ := F1.out.z
      have y1 := F1.out.fz 1
      go_upto_region 7 with (go_at_call 26; (with_reducible refine (KR.out _).mono ?_); rintro e w2 ⟨rfl, rfl⟩)
      have F2 := Lib.hid (F1.out.set (i := 1) (.int .i64 ga) rfl)
      have B2 : Hid (Below wr.heap.size wr (W1.setCell ⟨bx, 1, none⟩ (.int .i64 ga))) := Lib.hid (B1.out.setCell (p := ⟨bx, 1, none⟩) HBX.out _)
      generalize W1.setCell ⟨bx, 1, none⟩ (.int .i64 ga) = W2 at *
      clear z0 z1 z2 z3 z4 y1
      obtain ⟨z0, z1, z2, z3, z4⟩ := F2.out.z
      have y1 := F2.out.fz 1
      by_cases hlong : 5 < x.c.length
      · have g5 : decide ((x.c.length : Int) > 5) = true := decide_eq_true (by omega)
        have g5' : decide (5 < x.c.length) = true := decide_eq_true hlong
        have hc6 : (5 : Int) ≤ (cc : Int) := by omega
        have hcz : cc ≠ 0 := by omega
        have y4 := F2.out.fz 4
        have HCL : Hid (x.c.take 5 = x.c.take 5) := Lib.hid rfl
        have hc66 : (x.c.take 5).length = 5 := by rw [List.length_take]; omega
        have HC66 := Lib.hid hc66
        clear hc66
        go_upto_region 9 with (fail)
        have F3 := Lib.hid (F2.out.set (i := 4) (.slice C 5 cc) rfl)
        have B3 : Hid (Below wr.heap.size wr (W2.setCell ⟨bx, 4, none⟩ (.slice C 5 cc))) := Lib.hid (B2.out.setCell (p := ⟨bx, 4, none⟩) HBX.out _)
        generalize W2.setCell ⟨bx, 4, none⟩ (.slice C 5 cc) = W3 at *
        clear z0 z1 z2 z3 z4 y1 y4
        have G3 : Hid (GOk 69 w.heap.size W3 ⟨⟨x.t, ga, x.r, x.k, x.c.take 5⟩, C, cc⟩) := Lib.hid ⟨⟨HF.out.wf.t, ⟨by show _ ≤ ga; have := HGB.out; have := HGA0.out; omega, by show ga ≤ _; have := HGB.out; have := HGA0.out; omega⟩, HF.out.wf.r, HF.out.wf.k⟩, (HF.out.s.later B3.out).take 5, fun hne a ha => by
          rcases HSF.out (by intro h0; rw [h0] at hne; exact hne (by simp)) a ha with h1 | ⟨cs, T, fr, h1, h2⟩
          · exact .inl h1
          · exact .inl (by have := (Array.getElem?_eq_some_iff.1 h1).1; exact this)⟩
        obtain ⟨z0, z1, z2, z3, z4⟩ := F3.out.z
        have hO := G3.out
        have HFA := Lib.hid (fun j u hu => by
          have := (FAt.new W3 ⟨x.t, ga, x.r, x.k, x.c.take 5⟩ C cc 69 hO.wf hO.s).r j u hu
          rw [Nat.zero_add] at this
          rw [add_none, Nat.zero_add]
          simp only [HC66.out] at this
          exact this : ∀ j u, (fvL ⟨x.t, ga, x.r, x.k, x.c.take 5⟩ C cc)[j]? = some u → (W3.alloc (.cells #[.int .i64 x.t, .int .i64 ga, .int .i64 x.r, .int .i64 x.k, .slice C 5 cc] 69)).cell? ((⟨W3.heap.size, 0, none⟩ : Addr).add j) = some u)
        have HG2 := Lib.hid (HGA.out.later B3.out)
        clear hO
        go_wp2_with (refine wpList_append_own _ rfl _ _ 23 rfl w.heap.size 69 i0 _ 5 56 Tryz.underlying23 hi hz0 hz1 hz2 rfl (by decide) _ gs.length (gvC gs) rfl (HG2.out.row.alloc _) ⟨W3.heap.size, 0, none⟩ 1 1 (fvL ⟨x.t, ga, x.r, x.k, x.c.take 5⟩ C cc) rfl rfl HFA.out (fvL_one _ _ _) (by have := HGL.out; unfold maxLen; omega) (by have := HGL.out; omega) (by have := HBW.out.size; have := B3.out.size; simp; omega) ?_; intro v' w8 hown' hgrow hnil')
        go_roundw
        case rel =>
          have ba : Below W3.heap.size W3 (W3.alloc (.cells #[.int .i64 x.t, .int .i64 ga, .int .i64 x.r, .int .i64 x.k, .slice C 5 cc] 69)) := (Below.refl _ _).alloc (Nat.le_refl _) _
          have hG8 := (HG2.out.later ba).push (G3.out.kept fun b hl _ => ba.block b hl) hown' hgrow
          have hB2 := HBW.out.trans (B3.out.mono HBW.out.size)
          have hL8 : Below w.heap.size w w8 := (hB2.trans (ba.mono hB2.size)).grown hgrow (by have := hB2.size; simp; omega) (fun q hq => (HG2.out.row.lt q hq).1)
          refine ⟨k + 1, by omega, by go_num, Lib.hid ⟨⟨_, hG8, ?_⟩, hL8⟩⟩
          rw [take_one HX.out, List.map_append, List.map_append, HGS.out]
          simp [fewRS1, HCL.out, HGA0.out]
        case measure => simp [intOf]; omega
      · have g5 : decide ((x.c.length : Int) > 5) = false := decide_eq_false (by omega)
        have g5' : decide (5 < x.c.length) = false := decide_eq_false hlong
        have HCL : Hid (x.c.take 5 = x.c) := Lib.hid (List.take_of_length_le (by omega))
        go_upto_region 9 with (fail)
        have F3 := F2
        have B3 := B2
        clear z0 z1 z2 z3 z4 y1
        have G3 : Hid (GOk 69 w.heap.size W2 ⟨⟨x.t, ga, x.r, x.k, x.c⟩, C, cc⟩) := Lib.hid ⟨⟨HF.out.wf.t, ⟨by show _ ≤ ga; have := HGB.out; have := HGA0.out; omega, by show ga ≤ _; have := HGB.out; have := HGA0.out; omega⟩, HF.out.wf.r, HF.out.wf.k⟩, HF.out.s.later B3.out, fun hne a ha => by
          rcases HSF.out hne a ha with h1 | ⟨cs, T, fr, h1, h2⟩
          · exact .inl h1
          · exact .inl (by have := (Array.getElem?_eq_some_iff.1 h1).1; exact this)⟩
        obtain ⟨z0, z1, z2, z3, z4⟩ := F3.out.z
        have hO := G3.out
        have HFA := Lib.hid (fun j u hu => by
          have := (FAt.new W2 ⟨x.t, ga, x.r, x.k, x.c⟩ C cc 69 hO.wf hO.s).r j u hu
          rw [Nat.zero_add] at this
          rw [add_none, Nat.zero_add]
          exact this : ∀ j u, (fvL ⟨x.t, ga, x.r, x.k, x.c⟩ C cc)[j]? = some u → (W2.alloc (.cells #[.int .i64 x.t, .int .i64 ga, .int .i64 x.r, .int .i64 x.k, .slice C x.c.length cc] 69)).cell? ((⟨W2.heap.size, 0, none⟩ : Addr).add j) = some u)
        have HG2 := Lib.hid (HGA.out.later B3.out)
        clear hO
        go_wp2_with (refine wpList_append_own _ rfl _ _ 23 rfl w.heap.size 69 i0 _ 5 56 Tryz.underlying23 hi hz0 hz1 hz2 rfl (by decide) _ gs.length (gvC gs) rfl (HG2.out.row.alloc _) ⟨W2.heap.size, 0, none⟩ 1 1 (fvL ⟨x.t, ga, x.r, x.k, x.c⟩ C cc) rfl rfl HFA.out (fvL_one _ _ _) (by have := HGL.out; unfold maxLen; omega) (by have := HGL.out; omega) (by have := HBW.out.size; have := B3.out.size; simp; omega) ?_; intro v' w8 hown' hgrow hnil')
        go_roundw
        case rel =>
          have ba : Below W2.heap.size W2 (W2.alloc (.cells #[.int .i64 x.t, .int .i64 ga, .int .i64 x.r, .int .i64 x.k, .slice C x.c.length cc] 69)) := (Below.refl _ _).alloc (Nat.le_refl _) _
          have hG8 := (HG2.out.later ba).push (G3.out.kept fun b hl _ => ba.block b hl) hown' hgrow
          have hB2 := HBW.out.trans (B3.out.mono HBW.out.size)
          have hL8 : Below w.heap.size w w8 := (hB2.trans (ba.mono hB2.size)).grown hgrow (by have := hB2.size; simp; omega) (fun q hq => (HG2.out.row.lt q hq).1)
          refine ⟨k + 1, by omega, by go_num, Lib.hid ⟨⟨_, hG8, ?_⟩, hL8⟩⟩
          rw [take_one HX.out, List.map_append, List.map_append, HGS.out]
          simp [fewRS1, HCL.out, HGA0.out]
        case measure => simp [intOf]; omega
    · obtain ⟨gs, hG, hgs⟩ := hI.out.own
      have HB := Lib.hid hI.out.bel
      have HG := Lib.hid hG
      have HGS := Lib.hid hgs
      clear hG hgs hI
      by_cases hkr : k < rs.length
      · have g1 : decide ((k : Int) < (rs.length : Int)) = true := decide_eq_true (by omega)
        have g2 : decide ((k : Int) < 12) = false := decide_eq_false (by omega)
        have g2' : decide (k < 12) = false := decide_eq_false (by omega)
        have HK : Hid (k = 12) := Lib.hid (by omega)
        go_wp2
        go_ret
        refine ⟨_, gs, rfl, HG.out, ?_, HB.out⟩
        rw [HGS.out, fewRS, HK.out]
      · have g1 : decide ((k : Int) < (rs.length : Int)) = false := decide_eq_false (by omega)
        have g1' : decide (k < rs.length) = false := decide_eq_false hkr
        have HK : Hid (rs.take 12 = rs.take k) := Lib.hid (by rw [List.take_of_length_le (by omega), List.take_of_length_le (by omega)])
        go_wp2
        go_ret
        refine ⟨_, gs, rfl, HG.out, ?_, HB.out⟩
        rw [HGS.out, fewRS, HK.out]
end Go.Proofs.YtngmaiiibinkaaaGreat
/- Raw jobs that come in. -/
namespace Go.Proofs.YtngmaiiibinkaaaGreat
open Go.RowKit
set_option linter.unusedVariables false
set_option linter.unusedSimpArgs false

section
open Go.ChangeShapes Go.WideShapes Go.ChangeAt
variable {H : Type} {enc : TypeId × Value → H} {W : World} {base : Nat} {sp : Nat → Bool} {hd : Bool}
set_option maxRecDepth 100000 in
theorem read_cuts {fuel : Nat} {v : Value} {y : DataW H × List MemPlace} (h : DataW.trod enc Tryz.prog W base sp hd fuel 36 [v] = some y) :
    ∃ A cap l, v = .slice A l.length cap ∧ CRow W A cap l := by
  rcases DataW.trod_slice Tryz.underlying36 h with ⟨hcs, _⟩ | ⟨a, len, cap, elems, rest, n, _, hcs, _, _, hl', hm, hlen, hel, _, _⟩
  · obtain rfl : v = .slice none 0 0 := by simpa using hcs
    exact ⟨none, 0, [], rfl, CRow.nil _ _ (by omega)⟩
  · obtain rfl : v = .slice (some a) len cap := by simpa using hcs
    have c1 : Tryz.prog.cellsOf 3 = 1 := by kernel_rfl
    rw [c1] at hel
    unfold maxLen at hm
    rcases Nat.eq_zero_or_pos len with h0 | h0
    · subst h0
      exact ⟨_, cap, [], rfl, CRow.nil _ _ hm⟩
    have hsp := slice_spot hlen h0 (by omega) hel
    obtain ⟨ab, ao, asp⟩ := a
    obtain rfl : asp = none := by injection hsp
    clear hsp
    have key : ∀ i, i < len → ∃ x : Int, in64 x ∧ W.cell? ⟨ab, ao + i, none⟩ = some (.int .i64 x) := by
      intro i hi
      have h1 := hel i hi
      rw [List.getElem?_eq_getElem (by omega)] at h1
      obtain ⟨cl, hcs2, ht⟩ := Option.bind_eq_some_iff.1 h1
      obtain ⟨_, hcl, hat⟩ := World.cells?_some hcs2
      match cl, hcl, hat, ht with
      | [v0], _, hat, ht =>
        obtain ⟨z0, e0, _, w0⟩ := DataW.trod_int Tryz.underlying3 ht
        obtain rfl : v0 = .int .i64 z0 := by simpa using e0
        have := hat 0 (by simp)
        simp only [add_none, Nat.mul_one, Nat.add_zero] at this
        exact ⟨z0, in64_of w0, by simpa using this⟩
    obtain ⟨l, hl, hp⟩ := list_of len key
    subst hl
    refine ⟨some ⟨ab, ao, none⟩, cap, l, rfl, ⟨hl', hm, fun x hx => ?_, fun i x hx => ⟨ab, ao, rfl, (hp i x hx).2⟩⟩⟩
    obtain ⟨i, hi, rfl⟩ := List.getElem_of_mem hx
    exact (hp i _ (List.getElem?_eq_getElem hi)).1
set_option maxRecDepth 100000 in
theorem read_raws {fuel : Nat} {v : Value} {y : DataW H × List MemPlace} (h : DataW.trod enc Tryz.prog W base sp hd fuel 23 [v] = some y) :
    ∃ A cap l, v = .slice A l.length cap ∧ FRow W A cap l := by
  rcases DataW.trod_slice Tryz.underlying23 h with ⟨hcs, _⟩ | ⟨a, len, cap, elems, rest, n, _, hcs, _, _, hl', hm, hlen, hel, _, _⟩
  · obtain rfl : v = .slice none 0 0 := by simpa using hcs
    exact ⟨none, 0, [], rfl, FRow.nil _ _ (by omega)⟩
  · obtain rfl : v = .slice (some a) len cap := by simpa using hcs
    have c5 : Tryz.prog.cellsOf 69 = 5 := by kernel_rfl
    rw [c5] at hel
    unfold maxLen at hm
    rcases Nat.eq_zero_or_pos len with h0 | h0
    · subst h0
      exact ⟨_, cap, [], rfl, FRow.nil _ _ hm⟩
    have hsp := slice_spot hlen h0 (by omega) hel
    obtain ⟨ab, ao, asp⟩ := a
    obtain rfl : asp = none := by injection hsp
    clear hsp
    have key : ∀ i, i < len → ∃ x : Fv, ∃ C cc, FAt W ab (ao + i * 5) x C cc := by
      intro i hi
      have h1 := hel i hi
      have ci : Tryz.prog.cellsOf 3 = 1 := by kernel_rfl
      have cs : Tryz.prog.cellsOf 36 = 1 := by kernel_rfl
      rw [List.getElem?_eq_getElem (by omega)] at h1
      obtain ⟨cl, hcs2, ht⟩ := Option.bind_eq_some_iff.1 h1
      obtain ⟨_, hcl, hat⟩ := World.cells?_some hcs2
      obtain ⟨ys, n', _, _, _, hyl, hf⟩ := DataW.trod_struct Tryz.underlying69 ht
      match cl, hcl, hat, hf with
      | [v0, v1, v2, v3, v4], _, hat, hf =>
        have g0 : DataW.trod enc Tryz.prog W base sp hd n' 3 [v0] = ys[0]? := by
          have e : DataW.trod enc Tryz.prog W base sp hd n' 3 (([v0, v1, v2, v3, v4].drop 0).take (Tryz.prog.cellsOf 3)) = ys[0]? := hf 0 _ rfl
          rw [ci] at e
          exact e
        have g1 : DataW.trod enc Tryz.prog W base sp hd n' 3 [v1] = ys[1]? := by
          have e : DataW.trod enc Tryz.prog W base sp hd n' 3 (([v0, v1, v2, v3, v4].drop 1).take (Tryz.prog.cellsOf 3)) = ys[1]? := hf 1 _ rfl
          rw [ci] at e
          exact e
        have g2 : DataW.trod enc Tryz.prog W base sp hd n' 3 [v2] = ys[2]? := by
          have e : DataW.trod enc Tryz.prog W base sp hd n' 3 (([v0, v1, v2, v3, v4].drop 2).take (Tryz.prog.cellsOf 3)) = ys[2]? := hf 2 _ rfl
          rw [ci] at e
          exact e
        have g3 : DataW.trod enc Tryz.prog W base sp hd n' 3 [v3] = ys[3]? := by
          have e : DataW.trod enc Tryz.prog W base sp hd n' 3 (([v0, v1, v2, v3, v4].drop 3).take (Tryz.prog.cellsOf 3)) = ys[3]? := hf 3 _ rfl
          rw [ci] at e
          exact e
        have g4 : DataW.trod enc Tryz.prog W base sp hd n' 36 [v4] = ys[4]? := by
          have e : DataW.trod enc Tryz.prog W base sp hd n' 36 (([v0, v1, v2, v3, v4].drop 4).take (Tryz.prog.cellsOf 36)) = ys[4]? := hf 4 _ rfl
          rw [cs] at e
          exact e
        have hy5 : ys.length = 5 := hyl
        rw [List.getElem?_eq_getElem (by omega)] at g0 g1 g2 g3 g4
        obtain ⟨z0, e0, _, w0⟩ := DataW.trod_int Tryz.underlying3 g0
        obtain ⟨z1, e1, _, w1⟩ := DataW.trod_int Tryz.underlying3 g1
        obtain ⟨z2, e2, _, w2⟩ := DataW.trod_int Tryz.underlying3 g2
        obtain ⟨z3, e3, _, w3⟩ := DataW.trod_int Tryz.underlying3 g3
        obtain ⟨C, cc, cl, e4, w4⟩ := read_cuts g4
        obtain rfl : v0 = .int .i64 z0 := by simpa using e0
        obtain rfl : v1 = .int .i64 z1 := by simpa using e1
        obtain rfl : v2 = .int .i64 z2 := by simpa using e2
        obtain rfl : v3 = .int .i64 z3 := by simpa using e3
        obtain rfl : v4 = .slice C cl.length cc := e4
        refine ⟨⟨z0, z1, z2, z3, cl⟩, C, cc, ⟨fun j u hu => ?_, ⟨in64_of w0, in64_of w1, in64_of w2, in64_of w3⟩, w4⟩⟩
        have hj : j < 5 := by
          rcases Nat.lt_or_ge j 5 with h | h
          · exact h
          · rw [List.getElem?_eq_none (by simp [fvL]; omega)] at hu; cases hu
        have := hat j (by simpa using hj)
        simp only [add_none] at this
        rw [this]
        rw [← hu]
        rfl
    obtain ⟨l, hl, hp⟩ := list_of len key
    subst hl
    refine ⟨some ⟨ab, ao, none⟩, cap, l, rfl, ⟨hl', hm, fun i x hx => ?_⟩⟩
    obtain ⟨C, cc, hF⟩ := hp i x hx
    exact ⟨ab, ao, C, cc, rfl, hF⟩
end
end Go.Proofs.YtngmaiiibinkaaaGreat
/- Things of which the least goes first: rows that stand as trees; plain facts. -/
namespace Go.Proofs.YtngmaiiibinkaaaGreat
set_option linter.unusedVariables false
set_option linter.unusedSimpArgs false
section
variable {E : Type} (key : E → Int)
/-- Of two things, does the first one go first? -/
def lexB (a b : E × Nat) : Bool := decide (key a.1 < key b.1) || (decide (key a.1 = key b.1) && decide (a.2 < b.2))
theorem lexB_true {a b : E × Nat} : lexB key a b = true ↔ key a.1 < key b.1 ∨ (key a.1 = key b.1 ∧ a.2 < b.2) := by simp [lexB]
theorem lexB_false {a b : E × Nat} : lexB key a b = false ↔ ¬ (key a.1 < key b.1 ∨ (key a.1 = key b.1 ∧ a.2 < b.2)) := by
  rw [← lexB_true, Bool.not_eq_true]
/-- As the program asks. -/
theorem lexB_first (a b : E × Nat) : lexB key a b = (if a.2 < b.2 then !decide (key b.1 < key a.1) else decide (key a.1 < key b.1)) := by
  rw [Bool.eq_iff_iff, lexB_true]
  split <;> simp <;> omega

/-- Each thing but the top one stands behind the one above it. -/
def Hp (l : List (E × Nat)) : Prop := ∀ i a b, 0 < i → l[i]? = some a → l[(i - 1) / 2]? = some b → lexB key a b = false
/-- .. but the one at 'at', which may go further up. -/
structure Up (l : List (E × Nat)) (k : Nat) : Prop where
  rest : ∀ i a b, 0 < i → i ≠ k → l[i]? = some a → l[(i - 1) / 2]? = some b → lexB key a b = false
  over : ∀ i a b, 0 < i → (i - 1) / 2 = k → 0 < k → l[i]? = some a → l[(k - 1) / 2]? = some b → lexB key a b = false
/-- .. but those under the one at k, which may go further down. -/
structure Dn (l : List (E × Nat)) (k : Nat) : Prop where
  rest : ∀ i a b, 0 < i → (i - 1) / 2 ≠ k → l[i]? = some a → l[(i - 1) / 2]? = some b → lexB key a b = false
  over : ∀ i a b, 0 < i → (i - 1) / 2 = k → 0 < k → l[i]? = some a → l[(k - 1) / 2]? = some b → lexB key a b = false
/-- Two places change what they hold. -/
def swp (l : List (E × Nat)) (i j : Nat) (x y : E × Nat) : List (E × Nat) := (l.set i y).set j x
variable {key}
theorem swp_length (l : List (E × Nat)) (i j : Nat) (x y : E × Nat) : (swp l i j x y).length = l.length := by simp [swp]
theorem swp_fst {l : List (E × Nat)} {i j : Nat} {x y : E × Nat} (hi : i < l.length) (h : i ≠ j) : (swp l i j x y)[i]? = some y := by
  unfold swp
  rw [List.getElem?_set_ne (Ne.symm h), List.getElem?_set_self hi]
theorem swp_snd {l : List (E × Nat)} {i j : Nat} {x y : E × Nat} (hj : j < l.length) : (swp l i j x y)[j]? = some x := by
  unfold swp
  rw [List.getElem?_set_self (by simpa using hj)]
theorem swp_oth {l : List (E × Nat)} {i j k : Nat} {x y : E × Nat} (hi : k ≠ i) (hj : k ≠ j) : (swp l i j x y)[k]? = l[k]? := by
  unfold swp
  rw [List.getElem?_set_ne (Ne.symm hj), List.getElem?_set_ne (Ne.symm hi)]
theorem set_perm {α : Type} : ∀ (l : List α) (i : Nat) (x y : α), l[i]? = some x → (y :: l).Perm (x :: l.set i y)
  | [], i, x, y, h => by simp at h
  | a :: l, 0, x, y, h => by
    simp at h; subst h
    exact List.Perm.swap _ _ _
  | a :: l, i + 1, x, y, h => by
    have ih := set_perm l i x y (by simpa using h)
    rw [List.set_cons_succ]
    exact (List.Perm.swap _ _ _).trans ((ih.cons a).trans (List.Perm.swap _ _ _))
theorem swp_perm {l : List (E × Nat)} {i j : Nat} {x y : E × Nat} (hx : l[i]? = some x) (hy : l[j]? = some y) (h : i ≠ j) : (swp l i j x y).Perm l := by
  have h1 := set_perm l i x y hx
  have h2 := set_perm (l.set i y) j y x (by rw [List.getElem?_set_ne h]; exact hy)
  -- y :: l ~ x :: l.set i y ~ y :: swp
  exact (List.Perm.cons_inv (h1.trans h2)).symm
theorem Hp.up_last {l : List (E × Nat)} {x : E × Nat} (h : Hp key l) : Up key (l ++ [x]) l.length := by
  refine ⟨fun i a b hi hk ha hb => ?_, fun i a b hi hk h0 ha hb => ?_⟩
  · have hl := (List.getElem?_eq_some_iff.1 ha).1
    simp at hl
    rw [List.getElem?_append_left (by omega)] at ha hb
    exact h i a b hi ha hb
  · have hl := (List.getElem?_eq_some_iff.1 ha).1
    simp at hl
    omega
theorem Up.top {l : List (E × Nat)} (h : Up key l 0) : Hp key l := fun i a b hi ha hb => h.rest i a b hi (by omega) ha hb
theorem Up.stop {l : List (E × Nat)} {k : Nat} {x y : E × Nat} (h : Up key l k) (hx : l[k]? = some x) (hy : l[(k - 1) / 2]? = some y) (hl : lexB key x y = false) : Hp key l := fun i a b hi ha hb => by
  by_cases hk : i = k
  · subst hk
    rw [hx] at ha; rw [hy] at hb
    cases ha; cases hb
    exact hl
  · exact h.rest i a b hi hk ha hb
theorem Up.step {l : List (E × Nat)} {k : Nat} {x y : E × Nat} (h : Up key l k) (h0 : 0 < k) (hx : l[k]? = some x) (hy : l[(k - 1) / 2]? = some y) (hl : lexB key x y = true) : Up key (swp l k ((k - 1) / 2) x y) ((k - 1) / 2) := by
  have kl := (List.getElem?_eq_some_iff.1 hx).1
  have hne : k ≠ (k - 1) / 2 := by omega
  rw [lexB_true] at hl
  refine ⟨fun i a b hi hk ha hb => ?_, fun i a b hi hk hk0 ha hb => ?_⟩
  · by_cases hik : i = k
    · subst hik
      rw [swp_fst kl hne] at ha
      rw [swp_snd (by omega)] at hb
      cases ha; cases hb
      rw [lexB_false]; omega
    · rw [swp_oth hik hk] at ha
      by_cases hp : (i - 1) / 2 = k
      · rw [hp, swp_fst kl hne] at hb
        cases hb
        exact h.over i a y hi hp h0 ha hy
      · by_cases hq : (i - 1) / 2 = (k - 1) / 2
        · rw [hq, swp_snd (by omega)] at hb
          cases hb
          have := h.rest i a y hi hik ha (by rw [hq]; exact hy)
          rw [lexB_false] at this ⊢
          omega
        · rw [swp_oth hp hq] at hb
          exact h.rest i a b hi hik ha hb
  · have hb' : l[((k - 1) / 2 - 1) / 2]? = some b := by
      rw [swp_oth (by omega) (by omega)] at hb
      exact hb
    have hyb := h.rest ((k - 1) / 2) y b hk0 (by omega) hy hb'
    by_cases hik : i = k
    · subst hik
      rw [swp_fst kl hne] at ha
      cases ha
      exact hyb
    · rw [swp_oth hik (by omega)] at ha
      have := h.rest i a y hi hik ha (by rw [hk]; exact hy)
      rw [lexB_false] at this hyb ⊢
      omega
theorem Hp.dn {l : List (E × Nat)} (h : Hp key l) (x : E × Nat) : Dn key (l.set 0 x) 0 := by
  refine ⟨fun i a b hi hk ha hb => ?_, fun i a b hi hk h0 => by omega⟩
  rw [List.getElem?_set_ne (by omega)] at ha
  rw [List.getElem?_set_ne (by omega)] at hb
  exact h i a b hi ha hb
theorem Dn.take {l : List (E × Nat)} {k n : Nat} (h : Dn key l k) : Dn key (l.take n) k := by
  have t : ∀ {i : Nat} {a : E × Nat}, (l.take n)[i]? = some a → l[i]? = some a := fun {i a} ha => by
    rw [List.getElem?_take] at ha
    split at ha
    · exact ha
    · cases ha
  exact ⟨fun i a b hi hk ha hb => h.rest i a b hi hk (t ha) (t hb), fun i a b hi hk h0 ha hb => h.over i a b hi hk h0 (t ha) (t hb)⟩
theorem Dn.bottom {l : List (E × Nat)} {k : Nat} (h : Dn key l k) (hk : l.length ≤ 2 * k + 1) : Hp key l := fun i a b hi ha hb => by
  have hl := (List.getElem?_eq_some_iff.1 ha).1
  exact h.rest i a b hi (by omega) ha hb
/-- The side that goes first of both. -/
def Side (key : E → Int) (l : List (E × Nat)) (k s : Nat) (y : E × Nat) : Prop := (s = 2 * k + 1 ∨ s = 2 * k + 2) ∧ l[s]? = some y ∧ ∀ i a, 0 < i → (i - 1) / 2 = k → l[i]? = some a → lexB key a y = false
theorem side_left {l : List (E × Nat)} {k : Nat} {y : E × Nat} (hy : l[2 * k + 1]? = some y) (h : l.length ≤ 2 * k + 2 ∨ ∃ z, l[2 * k + 2]? = some z ∧ lexB key z y = false) : Side key l k (2 * k + 1) y := by
  refine ⟨.inl rfl, hy, fun i a hi hk ha => ?_⟩
  have hl := (List.getElem?_eq_some_iff.1 ha).1
  rcases (by omega : i = 2 * k + 1 ∨ i = 2 * k + 2) with rfl | rfl
  · rw [hy] at ha; cases ha
    rw [lexB_false]; omega
  · rcases h with h | ⟨z, hz, h⟩
    · omega
    · rw [hz] at ha; cases ha
      exact h
theorem side_right {l : List (E × Nat)} {k : Nat} {y z : E × Nat} (hy : l[2 * k + 1]? = some y) (hz : l[2 * k + 2]? = some z) (h : lexB key z y = true) : Side key l k (2 * k + 2) z := by
  refine ⟨.inr rfl, hz, fun i a hi hk ha => ?_⟩
  rcases (by omega : i = 2 * k + 1 ∨ i = 2 * k + 2) with rfl | rfl
  · rw [hy] at ha; cases ha
    rw [lexB_true] at h
    rw [lexB_false]; omega
  · rw [hz] at ha; cases ha
    rw [lexB_false]; omega
theorem Dn.stop {l : List (E × Nat)} {k s : Nat} {x y : E × Nat} (h : Dn key l k) (hx : l[k]? = some x) (hs : Side key l k s y) (hl : lexB key x y = true) : Hp key l := fun i a b hi ha hb => by
  by_cases hp : (i - 1) / 2 = k
  · rw [hp, hx] at hb
    cases hb
    have := hs.2.2 i a hi hp ha
    rw [lexB_true] at hl
    rw [lexB_false] at this ⊢
    omega
  · exact h.rest i a b hi hp ha hb
theorem Dn.step {l : List (E × Nat)} {k s : Nat} {x y : E × Nat} (h : Dn key l k) (hx : l[k]? = some x) (hs : Side key l k s y) (hl : lexB key x y = false) : Dn key (swp l k s x y) s := by
  obtain ⟨hks, hy, hmin⟩ := hs
  have kl := (List.getElem?_eq_some_iff.1 hx).1
  have sl := (List.getElem?_eq_some_iff.1 hy).1
  have hne : k ≠ s := by omega
  have hps : (s - 1) / 2 = k := by omega
  refine ⟨fun i a b hi hk ha hb => ?_, fun i a b hi hk h0 ha hb => ?_⟩
  · by_cases his : i = s
    · subst his
      rw [swp_snd sl] at ha
      rw [hps, swp_fst kl hne] at hb
      cases ha; cases hb
      exact hl
    · by_cases hik : i = k
      · subst hik
        rw [swp_fst kl hne] at ha
        cases ha
        rw [swp_oth (by omega) hk] at hb
        exact h.over s y b (by omega) hps hi hy hb
      · rw [swp_oth hik his] at ha
        by_cases hp : (i - 1) / 2 = k
        · rw [hp, swp_fst kl hne] at hb
          cases hb
          exact hmin i a hi hp ha
        · rw [swp_oth hp hk] at hb
          exact h.rest i a b hi hp ha hb
  · rw [swp_oth (by omega) (by omega)] at ha
    rw [hps, swp_fst kl hne] at hb
    cases hb
    exact h.rest i a y hi (by omega) ha (by rw [hk]; exact hy)

/-! ### What goes first -/
/-- The order in which things go. -/
def Srt (key : E → Int) (s : List (E × Nat)) : Prop := s.Pairwise (fun a b => lexB key a b = true)
/-- Of a heap the top goes first. -/
theorem Hp.least {l : List (E × Nat)} (h : Hp key l) {x : E × Nat} (hx : l[0]? = some x) : ∀ (n i : Nat) (a : E × Nat), i ≤ n → l[i]? = some a → lexB key a x = false
  | _, 0, a, _, ha => by
    rw [hx] at ha; cases ha
    rw [lexB_false]; omega
  | 0, i + 1, a, hi, ha => by omega
  | n + 1, i + 1, a, hi, ha => by
    obtain ⟨b, hb⟩ : ∃ b, l[(i + 1 - 1) / 2]? = some b := by
      have hl := (List.getElem?_eq_some_iff.1 ha).1
      exact ⟨l[(i + 1 - 1) / 2]'(by omega), List.getElem?_eq_getElem (by omega)⟩
    have h1 := h (i + 1) a b (by omega) ha hb
    have h2 := h.least hx n ((i + 1 - 1) / 2) b (by omega) hb
    rw [lexB_false] at h1 h2 ⊢
    omega
theorem head_is {l s : List (E × Nat)} {x y : E × Nat} {r : List (E × Nat)} (h : Hp key l) (hp : s.Perm l) (hs : Srt key s) (hx : l[0]? = some x) (he : s = y :: r) : x = y := by
  subst he
  have hy : y ∈ l := hp.mem_iff.1 (by simp)
  have hxm : x ∈ y :: r := hp.mem_iff.2 (List.mem_of_getElem? hx)
  obtain ⟨i, hi⟩ := List.getElem?_of_mem hy
  have h1 := h.least hx i i y (Nat.le_refl _) hi
  rcases List.mem_cons.1 hxm with rfl | hm
  · rfl
  · have h2 : lexB key y x = true := (List.pairwise_cons.1 hs).1 x hm
    rw [h1] at h2; cases h2
/-- A thing is put in its place. -/
def ins (key : E → Int) (x : E) : List E → List E
  | [] => [x]
  | a :: l => if key x < key a then x :: a :: l else a :: ins key x l
def insT (key : E → Int) (x : E × Nat) : List (E × Nat) → List (E × Nat)
  | [] => [x]
  | a :: l => if key x.1 < key a.1 then x :: a :: l else a :: insT key x l
theorem insT_fst (x : E × Nat) : ∀ l : List (E × Nat), (insT key x l).map Prod.fst = ins key x.1 (l.map Prod.fst)
  | [] => rfl
  | a :: l => by
    unfold insT ins
    simp only [List.map_cons]
    split
    · simp
    · simp [insT_fst x l]
theorem insT_perm (x : E × Nat) : ∀ l : List (E × Nat), (insT key x l).Perm (x :: l)
  | [] => List.Perm.refl _
  | a :: l => by
    unfold insT
    split
    · exact List.Perm.refl _
    · exact ((insT_perm x l).cons a).trans (List.Perm.swap _ _ _)
theorem insT_srt {x : E × Nat} : ∀ {l : List (E × Nat)}, Srt key l → (∀ a ∈ l, a.2 < x.2) → Srt key (insT key x l)
  | [], _, _ => List.pairwise_singleton _ _
  | a :: l, h, hx => by
    unfold insT
    obtain ⟨h1, h2⟩ := List.pairwise_cons.1 h
    split
    · rename_i hk
      refine List.pairwise_cons.2 ⟨fun b hb => ?_, h⟩
      rw [lexB_true]
      rcases List.mem_cons.1 hb with rfl | hb
      · exact .inl hk
      · have := h1 b hb
        rw [lexB_true] at this
        omega
    · rename_i hk
      refine List.pairwise_cons.2 ⟨fun b hb => ?_, insT_srt h2 (fun c hc => hx c (by simp [hc]))⟩
      rcases List.mem_cons.1 ((insT_perm x l).mem_iff.1 hb) with rfl | hb
      · have := hx a (by simp)
        rw [lexB_true]
        omega
      · exact h1 b hb
/-- A heap's row l, of which c came: it tells L. -/
structure Tells (key : E → Int) (l : List (E × Nat)) (c : Nat) (L : List E) : Prop where
  hp : Hp key l
  ex : ∃ s, s.Perm l ∧ Srt key s ∧ s.map Prod.fst = L
  few : ∀ a ∈ l, a.2 < c
theorem Tells.nil (c : Nat) : Tells key [] c [] := ⟨fun i a b _ h => by simp at h, ⟨[], List.Perm.refl _, List.Pairwise.nil, rfl⟩, by simp⟩
theorem Tells.length {l : List (E × Nat)} {c : Nat} {L : List E} (h : Tells key l c L) : l.length = L.length := by
  obtain ⟨s, hp, _, rfl⟩ := h.ex
  rw [List.length_map, hp.length_eq]
theorem Tells.head {l : List (E × Nat)} {c : Nat} {L : List E} (h : Tells key l c L) {x : E × Nat} (hx : l[0]? = some x) : ∃ r, L = x.1 :: r := by
  obtain ⟨s, hp, hs, rfl⟩ := h.ex
  cases s with
  | nil => rw [List.nil_perm.1 hp] at hx; simp at hx
  | cons y r =>
    obtain rfl := head_is h.hp hp hs hx rfl
    exact ⟨r.map Prod.fst, rfl⟩
theorem Tells.push {l l' : List (E × Nat)} {c : Nat} {L : List E} {x : E} (h : Tells key l c L) (hp : l'.Perm (l ++ [(x, c)])) (hh : Hp key l') : Tells key l' (c + 1) (ins key x L) := by
  obtain ⟨s, h1, h2, rfl⟩ := h.ex
  refine ⟨hh, ⟨insT key (x, c) s, ?_, insT_srt h2 (fun a ha => h.few a (h1.mem_iff.1 ha)), insT_fst _ _⟩, fun a ha => ?_⟩
  · exact (insT_perm _ _).trans (((h1.cons _).trans (List.perm_append_singleton _ _).symm).trans hp.symm)
  · rcases List.mem_append.1 (hp.mem_iff.1 ha) with ha | ha
    · have := h.few a ha; omega
    · rw [List.mem_singleton.1 ha]; exact Nat.lt_succ_self c
theorem Tells.pop {l l' : List (E × Nat)} {c : Nat} {L : List E} {x : E × Nat} (h : Tells key l c L) (hx : l[0]? = some x) (hp : (x :: l').Perm l) (hh : Hp key l') : Tells key l' c L.tail := by
  obtain ⟨s, h1, h2, rfl⟩ := h.ex
  cases s with
  | nil => rw [List.nil_perm.1 h1] at hx; simp at hx
  | cons y r =>
    obtain rfl := head_is h.hp h1 h2 hx rfl
    refine ⟨hh, ⟨r, (List.Perm.cons_inv (h1.trans hp.symm)), (List.pairwise_cons.1 h2).2, rfl⟩, fun a ha => h.few a (hp.mem_iff.1 (by simp [ha]))⟩
/-- The last thing comes to the top: what is left. -/
theorem last_top {l : List (E × Nat)} {x y : E × Nat} (hx : l[0]? = some x) (hy : l[l.length - 1]? = some y) : (x :: (l.set 0 y).take (l.length - 1)).Perm l := by
  cases l with
  | nil => simp at hx
  | cons a r =>
    simp at hx; subst hx
    cases r with
    | nil => simp
    | cons b r =>
      have e : (b :: r) = (b :: r).dropLast ++ [y] := by
        have := List.dropLast_concat_getLast (l := b :: r) (by simp)
        have hg : (b :: r).getLast (by simp) = y := by
          rw [List.getLast_eq_getElem]
          simp at hy
          have h1 : (a :: b :: r)[r.length + 1]? = some y := by simpa using hy
          simpa using h1
        rw [hg] at this
        exact this.symm
      have e2 : ((a :: b :: r).set 0 y).take ((a :: b :: r).length - 1) = y :: (b :: r).dropLast := by
        simp [List.dropLast_eq_take]
      rw [e2]
      refine List.Perm.cons _ ?_
      conv => rhs; rw [e]
      exact (List.perm_append_singleton _ _).symm
end
end Go.Proofs.YtngmaiiibinkaaaGreat
/- What the texts of this stage lean on: rows that are stored to. -/
namespace Go.Proofs.YtngmaiiibinkaaaGreat
open Go.RowKit
set_option linter.unusedVariables false
set_option linter.unusedSimpArgs false
theorem below_drewN' (w : World) (n : Nat) : Below w.heap.size w (w.drewN n) := ⟨rfl, rfl, rfl, Nat.le_refl _, fun _ _ => rfl⟩
/-- A row cut behind its first m things. -/
theorem own_take {w : World} {B e size n m cap g : Nat} {xs : List Value} (h : w.ownsRow B e size (.slice (some ⟨g, 0, none⟩) n cap) n xs) (hm : m ≤ n) : w.ownsRow B e size (.slice (some ⟨g, 0, none⟩) m cap) m (xs.take (m * size)) := by
  obtain ⟨h1, h2⟩ := h
  have hle : m * size ≤ n * size := Nat.mul_le_mul_right _ hm
  rcases h2 with ⟨hv, _⟩ | ⟨g', cap', cur, hv, hb, hh, hn, hmx, hs, ht⟩
  · simp at hv
  · simp only [Value.slice.injEq, Option.some.injEq, Addr.mk.injEq, and_true, true_and] at hv
    obtain ⟨rfl, rfl⟩ := hv
    exact ⟨by rw [List.length_take]; omega, .inr ⟨g, cap, cur, rfl, hb, hh, by omega, hmx, hs, by rw [← ht, List.take_take, Nat.min_eq_left hle]⟩⟩
theorem kept_push {Y : List Nat} {g : Nat} {w w1 w3 w4 : World} (h1 : Below w.heap.size w w1) (h2 : Kept Y w1 w3) (h3 : Kept [g] w3 w4) (ho : g ∈ Y ∨ w.heap.size ≤ g) : Kept Y w w4 := by
  have h : Kept (g :: Y) w w4 := (((Kept.of Y h1).trans h2).mono (fun k hk => List.mem_cons_of_mem _ hk)).trans (h3.mono (by simp))
  exact h.less (fun k hk => by
    rcases List.mem_cons.1 hk with rfl | hk
    · exact ho
    · exact .inl hk)
/-- Its blocks. -/
def blk (b : Nat) (v : Value) : List Nat := b :: v.ownBlock.toList
def Ans (t : Bool) (w : World) (e : Ending) (w' : World) : Prop := e = .returned (.bool t) ∧ Below w.heap.size w w'
theorem take_set_same {α : Type} (l : List α) (m : Nat) (x : α) : (l.set m x).take m = l.take m := by
  rw [List.take_set, List.set_eq_of_length_le (by rw [List.length_take]; omega)]
def Told (v : Value) (w : World) (e : Ending) (w' : World) : Prop := e = .returned v ∧ Below w.heap.size w w'
theorem tmod_nat (a n : Nat) : (a : Int).tmod (n : Int) = ((a % n : Nat) : Int) := by
  rw [Int.tmod_eq_emod_of_nonneg (by omega)]; omega
theorem below_drewN2 (w : World) (n : Nat) : Below w.heap.size w (w.drewN n) := ⟨rfl, rfl, rfl, Nat.le_refl _, fun _ _ => rfl⟩
def Quiet (v : Value) (w : World) (e : Ending) (w' : World) : Prop := e = .returned v ∧ ∃ m, w' = w.drewN m
theorem Quiet.told {v : Value} {w : World} {e : Ending} {w' : World} (h : Quiet v w e w') : Told v w e w' := by
  obtain ⟨h1, m, rfl⟩ := h
  exact ⟨h1, below_drewN2 w m⟩
theorem below_drew2 (w : World) : Below w.heap.size w w.drew.drew := ⟨rfl, rfl, rfl, Nat.le_refl _, fun _ _ => rfl⟩
theorem own_base {w : World} {B B' e size n : Nat} {v : Value} {xs : List Value} (h : w.ownsRow B e size v n xs) (hB : B' ≤ B) : w.ownsRow B' e size v n xs := by
  refine ⟨h.1, h.2.imp id ?_⟩
  rintro ⟨g, cap, cur, h1, h2, r⟩
  exact ⟨g, cap, cur, h1, Nat.le_trans hB h2, r⟩
end Go.Proofs.YtngmaiiibinkaaaGreat
/- What the document's run, and the executive's, both lean on: blocks by types, rows of spans, sums. -/
namespace Go.Proofs.YtngmaiiibinkaaaGreat
open Go.RowKit
set_option linter.unusedVariables false
set_option linter.unusedSimpArgs false
abbrev TSp : TypeId := 57
abbrev T64 : TypeId := 2
abbrev TIn : TypeId := 3
/-- Of what was there nothing has turned but blocks of these types. -/
structure KT (S : List TypeId) (w w' : World) : Prop where
  size : w.heap.size ≤ w'.heap.size
  blk : ∀ (b : Nat) (cs : Array Value) (T : TypeId), w.heap[b]? = some (Obj.cells cs T (0, 0)) → T ∉ S → w'.heap[b]? = some (Obj.cells cs T (0, 0))
section
variable {S S' : List TypeId} {w w' w'' : World}
theorem KT.refl (S : List TypeId) (w : World) : KT S w w := ⟨Nat.le_refl _, fun _ _ _ h _ => h⟩
theorem KT.trans (h : KT S w w') (k : KT S w' w'') : KT S w w'' := ⟨Nat.le_trans h.size k.size, fun b cs T hb hT => k.blk b cs T (h.blk b cs T hb hT) hT⟩
theorem KT.mono (h : KT S w w') (hs : ∀ T ∈ S, T ∈ S') : KT S' w w' := ⟨h.size, fun b cs T hb hT => h.blk b cs T hb (fun hm => hT (hs T hm))⟩
theorem KT.of (h : Below w.heap.size w w') : KT S w w' := ⟨h.size, fun b cs T hb _ => (h.block b (Array.getElem?_eq_some_iff.1 hb).1).trans hb⟩
theorem KT.kept {X : List Nat} (h : Kept X w w') (hX : ∀ k ∈ X, ∃ cs T, w.heap[k]? = some (.cells cs T (0, 0)) ∧ T ∈ S) : KT S w w' := ⟨h.size, fun b cs T hb hT => (h.block b (Array.getElem?_eq_some_iff.1 hb).1 (fun hm => by
  obtain ⟨cs', T', h1, h2⟩ := hX b hm
  rw [hb] at h1
  simp only [Option.some.injEq, Obj.cells.injEq] at h1
  rw [h1.2.1] at hT; exact hT h2)).trans hb⟩
theorem KT.set {b i : Nat} {cs : Array Value} {T : TypeId} {v : Value} (hb : w.heap[b]? = some (.cells cs T (0, 0))) (hT : T ∈ S) : KT S w (w.setCell ⟨b, i, none⟩ v) :=
  KT.kept (X := [b]) ((Kept.refl [b] w).set b i v (by simp)) (fun k hk => by rw [List.mem_singleton.1 hk]; exact ⟨cs, T, hb, hT⟩)
theorem KT.cell (h : KT S w w') {b i : Nat} {cs : Array Value} {T : TypeId} {v : Value} (hb : w.heap[b]? = some (.cells cs T (0, 0))) (hT : T ∉ S) : w'.cell? ⟨b, i, none⟩ = w.cell? ⟨b, i, none⟩ :=
  World.cell?_of_block (w := w) ((h.blk b cs T hb hT).trans hb.symm)
theorem KT.row (h : KT S w w') {B e size n : Nat} {v : Value} {xs : List Value} (hr : w.ownsRow B e size v n xs) (he : e ∉ S) : w'.ownsRow B e size v n xs := by
  obtain ⟨h1, h2⟩ := hr
  refine ⟨h1, ?_⟩
  rcases h2 with h2 | ⟨g, cap, cur, hv, hg, hh, r⟩
  · exact .inl h2
  · exact .inr ⟨g, cap, cur, hv, hg, h.blk g cur e hh he, r⟩
end
/-- The row of a value's own block, if any, is of that type. -/
theorem own_ty {w : World} {B e size n : Nat} {v : Value} {xs : List Value} (hr : w.ownsRow B e size v n xs) {g : Nat} (hg : v.ownBlock = some g) : ∃ cs, w.heap[g]? = some (.cells cs e (0, 0)) := by
  rcases hr.2 with ⟨rfl, _⟩ | ⟨g', cap, cur, rfl, _, hh, _⟩
  · simp [Value.ownBlock] at hg
  · simp only [Value.ownBlock, Option.some.injEq] at hg
    subst hg
    exact ⟨cur, hh⟩
/-- Rows of spans. -/
def spC (l : List Spn) : List Value := l.flatMap fun x => [.int .i64 (x.j : Int), .int .i64 x.f, .int .i64 x.t]
theorem below_set {B b i : Nat} {w0 w : World} {v : Value} (h : Below B w0 w) (hb : B ≤ b) (hw : B ≤ w.heap.size) : Below B w0 (w.setCell ⟨b, i, none⟩ v) :=
  h.trans (((Kept.refl [b] w).set b i v (by simp)).below hw (fun k hk => by rw [List.mem_singleton.1 hk]; exact hb))
theorem infoSp : (Tryz.prog.info? TSp).map (fun i => (i.zero, i.size, i.bytes)) = some (some (.agg #[.int .i64 0, .int .i64 0, .int .i64 0]), 3, 24) := by kernel_rfl
def snL (x : Spn) : List Value := [.int .i64 (x.j : Int), .int .i64 x.f, .int .i64 x.t]
theorem spC_app (a b : List Spn) : spC (a ++ b) = spC a ++ spC b := by simp [spC]
theorem spC_one (x : Spn) : spC [x] = snL x := rfl
theorem spC_len : ∀ l : List Spn, (spC l).length = l.length * 3
  | [] => rfl
  | x :: l => by
    have := spC_len l
    rw [show x :: l = [x] ++ l from rfl, spC_app, List.length_append, this, List.length_append]
    simp [spC_one, snL]; omega
theorem sp_new (w : World) (x : Spn) : ∀ j u, (snL x)[j]? = some u → (w.alloc (.cells #[.int .i64 (x.j : Int), .int .i64 x.f, .int .i64 x.t] TSp)).cell? ((⟨w.heap.size, 0, none⟩ : Addr).add j) = some u := by
  intro j u hj
  rw [add_none, Nat.zero_add, cell_of_row _ _ j _ _ _ (heap_alloc_new w _)]
  simpa [snL] using hj
theorem sp_one (x : Spn) : ∀ u ∈ snL x, u.oneCell' = true := by
  intro u hu
  simp only [snL, List.mem_cons, List.not_mem_nil, or_false] at hu
  rcases hu with rfl | rfl | rfl <;> rfl
theorem sp_set (l : List Spn) (x : Spn) (t : Int) : (spC (l ++ [x])).set (l.length * 3 + 2) (.int .i64 t) = spC (l ++ [⟨x.j, x.f, t⟩]) := by
  rw [spC_app, spC_app, List.set_append_right _ _ (by rw [spC_len]; omega), spC_len]
  congr 1
  rw [show l.length * 3 + 2 - l.length * 3 = 2 by omega]
  rfl
/-- There are no more spans than ticks that were worked. -/
theorem sum_set : ∀ (l : List Int) (i : Nat) (v : Int), i < l.length → (l.set i (kO l i + v)).sum = l.sum + v
  | [], i, v, h => by simp at h
  | a :: l, 0, v, h => by simp [kO]; omega
  | a :: l, i + 1, v, h => by
    have := sum_set l i v (by simpa using h)
    have e : kO (a :: l) (i + 1) = kO l i := by simp [kO]
    rw [e, List.set_cons_succ, List.sum_cons, List.sum_cons, this]; omega
theorem addN_len (sp : List Spn) (i : Nat) (t m : Int) : (addN sp i t m).length ≤ sp.length + 1 := by
  unfold addN
  cases h : sp.getLast? with
  | none => simp
  | some x =>
    simp only
    split
    · simp <;> omega
    · simp
theorem spn_len {ts : List Ts} {js : List Fv} (hl : Lg js) : ∀ n : Nat, ((tst ts js n).sp.length : Int) ≤ (tst ts js n).dn.sum
  | 0 => by simp [tst]
  | n + 1 => by
    have ih := spn_len (ts := ts) hl n
    have hI := ti_all (ts := ts) hl n
    rw [tst_succ]
    cases hw : whoS ts js (tst ts js n) n with
    | none => rw [tstep_none hw]; exact ih
    | some i =>
      rw [tstep_some hw]
      have h1 := (hI.who_some hl hw).1
      have h2 := addN_len (tst ts js n).sp i n 1
      simp only [runM]
      rw [sum_set _ _ _ (by rw [hI.ld]; exact h1)]
      omega
theorem sum_le : ∀ (a b : List Int), a.length = b.length → (∀ i, i < a.length → kO a i ≤ kO b i) → a.sum ≤ b.sum
  | [], b, h, _ => by
    have : b = [] := List.eq_nil_of_length_eq_zero (by simpa using h.symm)
    subst this; simp
  | x :: a, [], h, _ => by simp at h
  | x :: a, y :: b, h, hk => by
    have h0 := hk 0 (by simp)
    have := sum_le a b (by simpa using h) (fun i hi => by
      have := hk (i + 1) (by simpa using hi)
      simpa [kO] using this)
    simp only [kO, List.getElem?_cons_zero, Option.getD_some] at h0
    rw [List.sum_cons, List.sum_cons]; omega
theorem spn_few {ts : List Ts} {js : List Fv} (hl : Lg js) (n : Nat) : ((tst ts js n).sp.length : Int) ≤ (js.map (·.k)).sum := by
  have h1 := spn_len (ts := ts) hl n
  have hI := ti_all (ts := ts) hl n
  have h2 := sum_le (tst ts js n).dn (js.map (·.k)) (by rw [hI.ld, List.length_map]) (fun i hi => by
    have hi' : i < js.length := by rw [← hI.ld]; exact hi
    have := (hI.d0 i hi').2
    have e : kO (js.map (·.k)) i = (jb js i).k := by simp [kO, jb, hi']
    omega)
  omega
theorem infoI64 : (Tryz.prog.info? T64).map (fun i => (i.zero, i.size, i.bytes)) = some (some (.int .i64 0), 1, 8) := by kernel_rfl
theorem make_64 (n : Nat) (hn : n ≤ 1000) (W : World) : (Instr.makeSlice 31 (.int .i64 (n : Int)) (.int .i64 (n : Int))).run Tryz.prog W = .ok (.slice (some ⟨W.heap.size, 0, none⟩) n n) (W.alloc (.cells (madeCells (Value.cells (.int .i64 0)) n) T64)) := by
  obtain ⟨i0, hi, hz0, hz1, hz2⟩ := info_parts infoI64
  have h := run_make (P := Tryz.prog) W 31 T64 i0 _ Tryz.underlying31 hi hz0 .i64 .i64 n n (by omega) (Int.le_refl _) (by rw [hz2]; omega) (by omega)
  simp only [Int.toNat_natCast, hz1, Nat.mul_one] at h
  exact h
theorem ltT {a b c : World} (h : Lt a b) (k : Lt b c) : Lt a c := by
  have h : Below a.heap.size a b := h
  have k : Below b.heap.size b c := k
  exact h.trans (k.mono h.size)
theorem ltR (a : World) : Lt a a := Below.refl _ _
theorem ltA {a b : World} (h : Lt a b) (o : Obj) : Lt a (b.alloc o) := ltT h ((Below.refl _ _).alloc (Nat.le_refl _) _)
theorem ltD {a b : World} (h : Lt a b) : Lt a b.drew := ltT h (below_drew b)
theorem ltN {a b : World} (h : Lt a b) (n : Nat) : Lt a (b.drewN n) := ltT h (below_drewN2 b n)
theorem heapLt {W W' : World} {g : Nat} {o : Obj} (h : W.heap[g]? = some o) (k : Lt W W') : W'.heap[g]? = some o := by
  have k : Below W.heap.size W W' := k
  exact (k.block g (Array.getElem?_eq_some_iff.1 h).1).trans h
theorem ownLt {W W' : World} {B e size n : Nat} {v : Value} {xs : List Value} (h : W.ownsRow B e size v n xs) (k : Lt W W') : W'.ownsRow B e size v n xs := by
  have k : Below W.heap.size W W' := k
  exact (Kept.of [] k).row h (by simp)
theorem own_mono {w : World} {B B' e size n : Nat} {v : Value} {xs : List Value} (h : w.ownsRow B' e size v n xs) (hB : B ≤ B') : w.ownsRow B e size v n xs := by
  refine ⟨h.1, ?_⟩
  rcases h.2 with h2 | ⟨g, cap, cur, h1, hb, r⟩
  · exact .inl h2
  · exact .inr ⟨g, cap, cur, h1, by omega, r⟩
theorem ltS {a b : World} (h : Lt a b) : a.heap.size ≤ b.heap.size := Below.size h
/-- Ends are being filled. -/
structure EnR (wc : World) (ge n k : Nat) (wr : World) : Prop where
  row : ∃ cur : Array Value, wr.heap[ge]? = some (Obj.cells cur T64 (0, 0)) ∧ cur.size = n ∧ ∀ j, j < k → cur[j]? = some (.int .i64 (-1))
  kp : Kept [ge] wc wr
theorem EnR.step {wc wr : World} {ge n k : Nat} (h : EnR wc ge n k wr) (hk : k < n) : EnR wc ge n (k + 1) (wr.setCell ⟨ge, k, none⟩ (.int .i64 (-1))) := by
  obtain ⟨cur, h1, h2, h3⟩ := h.row
  refine ⟨⟨cur.setIfInBounds k (.int .i64 (-1)), heap_setCell_same _ _ _ _ _ _ h1, by simp [h2], fun j hj => ?_⟩, h.kp.set ge k _ (by simp)⟩
  by_cases e : k = j
  · subst e; simp [h2, hk]
  · rw [Array.getElem?_setIfInBounds_ne e]; exact h3 j (by omega)
theorem EnR.cell {wc wr : World} {ge n k : Nat} (h : EnR wc ge n k wr) (hk : k < n) : (∃ v, wr.cell? ⟨ge, k, none⟩ = some v) ∧ wr.frozen? ⟨ge, k, none⟩ = false := by
  obtain ⟨cur, h1, h2, h3⟩ := h.row
  exact ⟨⟨cur[k], by rw [cell_of_row wr ge k _ _ _ h1]; exact Array.getElem?_eq_getElem (by omega)⟩, by simp [World.frozen?, h1]⟩
theorem EnR.own {B : Nat} {wc wr : World} {ge n : Nat} (h : EnR wc ge n n wr) (hB : B ≤ ge) (hn : n ≤ 1000) : wr.ownsRow B T64 1 (.slice (some ⟨ge, 0, none⟩) n n) n (numL (List.replicate n (-1))) := by
  obtain ⟨cur, h1, h2, h3⟩ := h.row
  refine ⟨by simp [numL], .inr ⟨ge, n, cur, rfl, hB, h1, Nat.le_refl _, by unfold maxLen; omega, by omega, ?_⟩⟩
  refine List.ext_getElem? fun j => ?_
  rw [List.getElem?_take]
  by_cases hj : j < n
  · rw [if_pos (by omega), Array.getElem?_toList, h3 j hj]
    simp [numL, hj]
  · rw [if_neg (by omega), List.getElem?_eq_none]
    simp [numL]; omega
end Go.Proofs.YtngmaiiibinkaaaGreat
