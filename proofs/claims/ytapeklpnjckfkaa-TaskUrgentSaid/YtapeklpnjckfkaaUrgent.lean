/- The law's urgent. -/
import Derived.Test.YtapeklpnjckfkaaUrg0
namespace Go.Proofs.Ytapeklpnjckfkaa
open Go.RowKit
set_option linter.unusedVariables false
set_option linter.unusedSimpArgs false

set_option maxRecDepth 100000 in
set_option maxHeartbeats 8000000 in
theorem urgent_in (A : Option Addr) (cap : Nat) (l : List Ts) (n : Nat) (w : World) (hR : Row w A cap l) (h16 : l.length ≤ 16) (hnl : n < l.length) :
    Calls Try.prog 15 #[.slice A l.length cap, .int .i64 (n : Int)] w fun e w' => e = .returned (.bool true) ∧ Below w.heap.size w w' := by
  have hle := hR.le
  have hmx := hR.mx
  obtain ⟨b, o, xa, rfl, hxa, hwa, hbl, hTa⟩ := hR.get hnl
  have hat : in64 (n : Int) := ⟨by omega, by omega⟩
  have CH := fun W hR => higher_any (some ⟨b, o, none⟩) cap l (n : Int) W hR hat
  have CL := fun W hR => lower_any (some ⟨b, o, none⟩) cap l (n : Int) W hR hat
  have CO := Lib.hid (fun W hR => order_any (some ⟨b, o, none⟩) cap l W hR h16)
  have FA := Lib.hid (fun k x hx => higherF_at (l := l) (i := (n : Int)) (k := k) (x := x) (pAt_some hxa) hx)
  have GA := Lib.hid (fun k x hx => lowerF_at (l := l) (i := (n : Int)) (k := k) (x := x) (pAt_some hxa) hx)
  have CF := Lib.hid (cnt_few (f := higherF l (n : Int)) (fun k hk => higherF_far hk) (by omega : l.length ≤ 1024))
  have CG := Lib.hid (cnt_few (f := lowerF l (n : Int)) (fun k hk => lowerF_far hk) (by omega : l.length ≤ 1024))
  generalize higherF l (n : Int) = F at *
  generalize lowerF l (n : Int) = G at *
  have CH := Lib.hid CH
  have CL := Lib.hid CL
  have HTi := Lib.hid hTa
  have ROW := Lib.hid hR
  have n0 : (0 : Int) ≤ (n : Int) := by omega
  have n1 : (n : Int) < (l.length : Int) := by omega
  have n2 : decide ((n : Int) < (l.length : Int)) = true := decide_eq_true n1
  have n3 : decide (n < l.length) = true := decide_eq_true hnl
  clear hR hxa hwa hTa
  go_enter Try.func15, Try.ntmps15
  go_upto_region 4 with (first
    | (go_at_call 16; (with_reducible refine (CH.out _ ROW.out).mono ?_); rintro e w1 ⟨rfl, h1⟩)
    | ((with_reducible show wpList _ _ _ (⟨none, Op.store 41 (.tmp 5) _, _, _, _, _⟩ :: _) _ _); refine wpList_store_mid rfl 41 _ _ rfl _ _ (cellsL F).toArray rfl rfl ((zero_box _).there _) (info26' _) (cellsL_all _) ?_; rw [alloc_stored]; obtain ⟨W2, hW, B2, h2⟩ := held4 w1 F; rw [hW]; clear hW)
    | (go_at_call 17; (with_reducible refine (CL.out _ (ROW.out.later (h1.trans (h2.mono h1.size)))).mono ?_); rintro e w3 ⟨rfl, h3⟩; have h13 := (h1.trans (h2.mono h1.size)).trans (h3.mono (Nat.le_trans h1.size h2.size)))
    | ((with_reducible show wpList _ _ _ (⟨none, Op.store 41 (.tmp 6) _, _, _, _, _⟩ :: _) _ _); refine wpList_store_mid rfl 41 _ _ rfl _ _ (cellsL G).toArray rfl rfl ((zero_box _).there _) (info26' _) (cellsL_all _) ?_; rw [alloc_stored]; obtain ⟨W4, hW, B4, h4⟩ := held4 w3 G; rw [hW]; clear hW)
    | (go_at_call 18; (with_reducible refine (CO.out _ (ROW.out.later (h13.trans (h4.mono h13.size)))).mono ?_); rintro e w5 ⟨g, o', rfl, hO, hcell, hg, h5⟩))
  have D2 := Lib.hid (((B2.later h3).later h4).later h5)
  have D4 := Lib.hid (B4.later h5)
  have hB5 := Lib.hid ((h13.trans (h4.mono h13.size)).trans (h5.mono (Nat.le_trans h13.size h4.size)))
  have HO := Lib.hid hO
  have HC := Lib.hid hcell
  have hn5 : g < w5.heap.size := hg
  clear h1 h2 h3 h4 h5 h13 B2 B4 hO hcell hg CH CL CO
  generalize w1.heap.size = bh at *
  generalize w3.heap.size = bl at *
  go_wp2
  go_loopw [9, 10, 11] (fun c1 c2 s wr => ∃ k : Nat, k ≤ l.length ∧ s = .int .i64 k ∧ c1 = .int .i64 (cntTo F k : Int) ∧ c2 = .int .i64 (cntTo G k : Int) ∧ Below w5.heap.size w5 wr) (fun _ _ s _ => l.length - (intOf s).toNat)
  case atStart => exact ⟨0, Nat.zero_le _, rfl, rfl, rfl, Below.refl _ _⟩
  case round =>
    obtain ⟨k, hk, rfl, rfl, rfl, hL⟩ := hrel
    have HL := Lib.hid hL
    clear hL
    have E2 := D2.out.later HL.out
    have E4 := D4.out.later HL.out
    by_cases hlt : k < l.length
    · obtain ⟨x, hx⟩ : ∃ x, l[k]? = some x := ⟨l[k], List.getElem?_eq_getElem hlt⟩
      have hk0 : (0 : Int) ≤ (k : Int) := by omega
      have hk1 : (k : Int) < (l.length : Int) := by omega
      obtain ⟨q, hq, hoq⟩ := HO.out.at_ hlt
      have hrk := HO.out.rank hoq
      have CR := fun W hR => rank_any (some ⟨b, o, none⟩) cap l k W hR hlt (by omega)
      rw [hrk] at CR
      have CR := Lib.hid CR
      have CHas := fun W => has_any F (k : Int) W (by omega) (by omega)
      have CHas2 := fun W => has_any G (k : Int) W (by omega) (by omega)
      rw [hasB_nat F k (by omega)] at CHas
      rw [hasB_nat G k (by omega)] at CHas2
      have q0 : (0 : Int) ≤ (q : Int) := by omega
      have q1 : (q : Int) < (l.length : Int) := by omega
      have HQ := Lib.hid (HC.out q k hoq)
      have b1 := cntTo_le F k
      have b2 := cntTo_le G k
      have f0 : (0 : Int) ≤ (cntTo F k : Int) := by omega
      have f1 : (cntTo F k : Int) ≤ 16 := by omega
      have f2 : (0 : Int) ≤ (cntTo G k : Int) := by omega
      have f3 : (cntTo G k : Int) ≤ 16 := by omega
      clear hrk hoq b1 b2
      have T := (ROW.out.at2 hx).later (Below.trans hB5.out (Below.mono HL.out (Below.size hB5.out)))
      have c6 := T.c6
      have TI := HTi.out.later (Below.trans hB5.out (Below.mono HL.out (Below.size hB5.out)))
      have d6 := TI.c6
      have hF := FA.out k x hx
      have hG := GA.out k x hx
      clear T TI hx
      by_cases h1 : x.p < xa.p
      · have e1 : decide (x.p < xa.p) = true := decide_eq_true (by omega)
        have e2 : decide (xa.p < x.p) = false := decide_eq_false (by omega)
        have HF : Hid (F k = true) := Lib.hid (by rw [hF]; exact e1)
        have HG : Hid (G k = false) := Lib.hid (by rw [hG]; exact e2)
        rw [HF.out] at CHas
        rw [HG.out] at CHas2
        clear hF hG
        have h2 : ¬ xa.p < x.p := by omega
        clear E2 E4
        go_upto_region 12 with (fail)
        go_quiet (fail)
        have HL1 := Lib.hid (drewN_below HL.out nq)
        have c6' : (wr.drewN nq).cell? ⟨b, o + k * 7 + 6, none⟩ = some (.int .i64 x.p) := c6
        have d6' : (wr.drewN nq).cell? ⟨b, o + n * 7 + 6, none⟩ = some (.int .i64 xa.p) := d6
        generalize wr.drewN nq = wr1 at *
        go_upto_region 13 with (fail)
        go_quiet (fail)
        have HLd := Lib.hid (drewN_below HL1.out nq)
        generalize wr1.drewN nq = wd at *
        have CHas := Lib.hid CHas
        have CHas2 := Lib.hid CHas2
        have E2 := Lib.hid (D2.out.later HLd.out)
        have E4 := Lib.hid (D4.out.later HLd.out)
        go_wp2_with (first
          | ((with_reducible show wpList _ _ _ (⟨some 75, _, _, _, _, _⟩ :: _) _ _); refine wpList_load_mid rfl 41 _ rfl _ _ rfl _ _ E2.out.range Try.underlying41 rfl (info26 _) ?_)
          | (go_at_call 20; (with_reducible refine (CHas.out _).mono ?_); rintro e w6 ⟨rfl, h6⟩; have E46 := Lib.hid (E4.out.later h6); have HL6 := Lib.hid (Below.trans HLd.out (h6.mono (Below.size HLd.out))); clear h6)
          | ((with_reducible show wpList _ _ _ (⟨some 81, _, _, _, _, _⟩ :: _) _ _); refine wpList_load_g rfl _ rfl _ _ rfl E46.out ?_)
          | (go_at_call 20; (with_reducible refine (CHas2.out _).mono ?_); rintro e w7 ⟨rfl, h7⟩; have HL7 := Lib.hid (Below.trans HL6.out (h7.mono (Below.size HL6.out))); clear h7)
          | (go_at_call 31; (with_reducible refine (CR.out _ (ROW.out.later (Below.trans hB5.out (Below.mono HL7.out (Below.size hB5.out))))).mono ?_); rintro e w8 ⟨rfl, h8⟩; have HL8 := Lib.hid (Below.trans HL7.out (h8.mono (Below.size HL7.out))); have cq := (Below.cell HL8.out (p := ⟨g, q, none⟩) hn5).trans HQ.out; clear h8))
        go_roundw
        case rel => exact ⟨k + 1, by omega, by go_num, by rw [cntTo_yes HF.out]; go_num, by rw [cntTo_no HG.out], HL8.out⟩
        case measure => simp [intOf]; omega
      · by_cases h2 : xa.p < x.p
        · have e1 : decide (x.p < xa.p) = false := decide_eq_false (by omega)
          have e2 : decide (xa.p < x.p) = true := decide_eq_true (by omega)
          have HF : Hid (F k = false) := Lib.hid (by rw [hF]; exact e1)
          have HG : Hid (G k = true) := Lib.hid (by rw [hG]; exact e2)
          rw [HF.out] at CHas
          rw [HG.out] at CHas2
          clear hF hG
          clear E2 E4
          go_upto_region 12 with (fail)
          go_quiet (fail)
          have HL1 := Lib.hid (drewN_below HL.out nq)
          have c6' : (wr.drewN nq).cell? ⟨b, o + k * 7 + 6, none⟩ = some (.int .i64 x.p) := c6
          have d6' : (wr.drewN nq).cell? ⟨b, o + n * 7 + 6, none⟩ = some (.int .i64 xa.p) := d6
          generalize wr.drewN nq = wr1 at *
          go_upto_region 13 with (fail)
          go_quiet (fail)
          have HLd := Lib.hid (drewN_below HL1.out nq)
          generalize wr1.drewN nq = wd at *
          have CHas := Lib.hid CHas
          have CHas2 := Lib.hid CHas2
          have E2 := Lib.hid (D2.out.later HLd.out)
          have E4 := Lib.hid (D4.out.later HLd.out)
          go_wp2_with (first
            | ((with_reducible show wpList _ _ _ (⟨some 75, _, _, _, _, _⟩ :: _) _ _); refine wpList_load_mid rfl 41 _ rfl _ _ rfl _ _ E2.out.range Try.underlying41 rfl (info26 _) ?_)
            | (go_at_call 20; (with_reducible refine (CHas.out _).mono ?_); rintro e w6 ⟨rfl, h6⟩; have E46 := Lib.hid (E4.out.later h6); have HL6 := Lib.hid (Below.trans HLd.out (h6.mono (Below.size HLd.out))); clear h6)
            | ((with_reducible show wpList _ _ _ (⟨some 81, _, _, _, _, _⟩ :: _) _ _); refine wpList_load_g rfl _ rfl _ _ rfl E46.out ?_)
            | (go_at_call 20; (with_reducible refine (CHas2.out _).mono ?_); rintro e w7 ⟨rfl, h7⟩; have HL7 := Lib.hid (Below.trans HL6.out (h7.mono (Below.size HL6.out))); clear h7)
            | (go_at_call 31; (with_reducible refine (CR.out _ (ROW.out.later (Below.trans hB5.out (Below.mono HL7.out (Below.size hB5.out))))).mono ?_); rintro e w8 ⟨rfl, h8⟩; have HL8 := Lib.hid (Below.trans HL7.out (h8.mono (Below.size HL7.out))); have cq := (Below.cell HL8.out (p := ⟨g, q, none⟩) hn5).trans HQ.out; clear h8))
          go_roundw
          case rel => exact ⟨k + 1, by omega, by go_num, by rw [cntTo_no HF.out], by rw [cntTo_yes HG.out]; go_num, HL8.out⟩
          case measure => simp [intOf]; omega
        · have e1 : decide (x.p < xa.p) = false := decide_eq_false (by omega)
          have e2 : decide (xa.p < x.p) = false := decide_eq_false (by omega)
          have HF : Hid (F k = false) := Lib.hid (by rw [hF]; exact e1)
          have HG : Hid (G k = false) := Lib.hid (by rw [hG]; exact e2)
          rw [HF.out] at CHas
          rw [HG.out] at CHas2
          clear hF hG
          clear E2 E4
          go_upto_region 12 with (fail)
          go_quiet (fail)
          have HL1 := Lib.hid (drewN_below HL.out nq)
          have c6' : (wr.drewN nq).cell? ⟨b, o + k * 7 + 6, none⟩ = some (.int .i64 x.p) := c6
          have d6' : (wr.drewN nq).cell? ⟨b, o + n * 7 + 6, none⟩ = some (.int .i64 xa.p) := d6
          generalize wr.drewN nq = wr1 at *
          go_upto_region 13 with (fail)
          go_quiet (fail)
          have HLd := Lib.hid (drewN_below HL1.out nq)
          generalize wr1.drewN nq = wd at *
          have CHas := Lib.hid CHas
          have CHas2 := Lib.hid CHas2
          have E2 := Lib.hid (D2.out.later HLd.out)
          have E4 := Lib.hid (D4.out.later HLd.out)
          go_wp2_with (first
            | ((with_reducible show wpList _ _ _ (⟨some 75, _, _, _, _, _⟩ :: _) _ _); refine wpList_load_mid rfl 41 _ rfl _ _ rfl _ _ E2.out.range Try.underlying41 rfl (info26 _) ?_)
            | (go_at_call 20; (with_reducible refine (CHas.out _).mono ?_); rintro e w6 ⟨rfl, h6⟩; have E46 := Lib.hid (E4.out.later h6); have HL6 := Lib.hid (Below.trans HLd.out (h6.mono (Below.size HLd.out))); clear h6)
            | ((with_reducible show wpList _ _ _ (⟨some 81, _, _, _, _, _⟩ :: _) _ _); refine wpList_load_g rfl _ rfl _ _ rfl E46.out ?_)
            | (go_at_call 20; (with_reducible refine (CHas2.out _).mono ?_); rintro e w7 ⟨rfl, h7⟩; have HL7 := Lib.hid (Below.trans HL6.out (h7.mono (Below.size HL6.out))); clear h7)
            | (go_at_call 31; (with_reducible refine (CR.out _ (ROW.out.later (Below.trans hB5.out (Below.mono HL7.out (Below.size hB5.out))))).mono ?_); rintro e w8 ⟨rfl, h8⟩; have HL8 := Lib.hid (Below.trans HL7.out (h8.mono (Below.size HL7.out))); have cq := (Below.cell HL8.out (p := ⟨g, q, none⟩) hn5).trans HQ.out; clear h8))
          go_roundw
          case rel => exact ⟨k + 1, by omega, by go_num, by rw [cntTo_no HF.out], by rw [cntTo_no HG.out], HL8.out⟩
          case measure => simp [intOf]; omega
    · obtain rfl : k = l.length := by omega
      have LF := fun W => len_any F W
      have LG := fun W => len_any G W
      rw [CF.out] at LF
      rw [CG.out] at LG
      have LF := Lib.hid LF
      have LG := Lib.hid LG
      generalize cntTo F l.length = nf at *
      generalize cntTo G l.length = ng at *
      go_wp2_with (first
        | ((with_reducible show wpList _ _ _ (⟨some 97, _, _, _, _, _⟩ :: _) _ _); refine wpList_load_mid rfl 41 _ rfl _ _ rfl _ _ E2.range Try.underlying41 rfl (info26 _) ?_)
        | (go_at_call 21; (with_reducible refine (LF.out _).mono ?_); rintro e w8 ⟨rfl, h8⟩; have E48 := E4.later h8; have HL8 := Lib.hid (Below.trans HL.out (h8.mono (Below.size HL.out))); clear h8)
        | ((with_reducible show wpList _ _ _ (⟨some 102, _, _, _, _, _⟩ :: _) _ _); refine wpList_load_g rfl _ rfl _ _ rfl E48 ?_)
        | (go_at_call 21; (with_reducible refine (LG.out _).mono ?_); rintro e w9 ⟨rfl, h9⟩; have HL9 := Lib.hid (Below.trans HL8.out (h9.mono (Below.size HL8.out))); clear h9))
      go_ret
      exact ⟨rfl, Below.trans hB5.out (Below.mono HL9.out (Below.size hB5.out))⟩

set_option maxRecDepth 100000 in
set_option maxHeartbeats 8000000 in
theorem urgent_low (A : Option Addr) (cap : Nat) (l : List Ts) (i : Int) (w : World) (hR : Row w A cap l) (h16 : l.length ≤ 16) (hi : i < 0) (hat : in64 i) :
    Calls Try.prog 15 #[.slice A l.length cap, .int .i64 i] w fun e w' => e = .returned (.bool true) ∧ Below w.heap.size w w' := by
  have hle := hR.le
  have hmx := hR.mx
  have hno : pAt l i = none := pAt_none (by omega)
  have CH := fun W hR => higher_any A cap l i W hR hat
  have CL := fun W hR => lower_any A cap l i W hR hat
  have CO := Lib.hid (fun W hR => order_any A cap l W hR h16)
  have FZ : Hid (∀ k, higherF l i k = false) := Lib.hid (fun k => by rw [higherF_none hno]; rfl)
  have GZ : Hid (∀ k, lowerF l i k = false) := Lib.hid (fun k => by rw [lowerF_none hno]; rfl)
  have CF := Lib.hid (cnt_few (f := higherF l i) (fun k hk => higherF_far hk) (by omega : l.length ≤ 1024))
  have CG := Lib.hid (cnt_few (f := lowerF l i) (fun k hk => lowerF_far hk) (by omega : l.length ≤ 1024))
  generalize higherF l i = F at *
  generalize lowerF l i = G at *
  have CH := Lib.hid CH
  have CL := Lib.hid CL
  have ROW := Lib.hid hR
  have n2 : decide (i ≥ 0) = false := decide_eq_false (by omega)
  have n3 : decide (0 ≤ i) = false := decide_eq_false (by omega)
  clear hR hno hat
  go_enter Try.func15, Try.ntmps15
  go_upto_region 4 with (first
    | (go_at_call 16; (with_reducible refine (CH.out _ ROW.out).mono ?_); rintro e w1 ⟨rfl, h1⟩)
    | ((with_reducible show wpList _ _ _ (⟨none, Op.store 41 (.tmp 5) _, _, _, _, _⟩ :: _) _ _); refine wpList_store_mid rfl 41 _ _ rfl _ _ (cellsL F).toArray rfl rfl ((zero_box _).there _) (info26' _) (cellsL_all _) ?_; rw [alloc_stored]; obtain ⟨W2, hW, B2, h2⟩ := held4 w1 F; rw [hW]; clear hW)
    | (go_at_call 17; (with_reducible refine (CL.out _ (ROW.out.later (h1.trans (h2.mono h1.size)))).mono ?_); rintro e w3 ⟨rfl, h3⟩; have h13 := (h1.trans (h2.mono h1.size)).trans (h3.mono (Nat.le_trans h1.size h2.size)))
    | ((with_reducible show wpList _ _ _ (⟨none, Op.store 41 (.tmp 6) _, _, _, _, _⟩ :: _) _ _); refine wpList_store_mid rfl 41 _ _ rfl _ _ (cellsL G).toArray rfl rfl ((zero_box _).there _) (info26' _) (cellsL_all _) ?_; rw [alloc_stored]; obtain ⟨W4, hW, B4, h4⟩ := held4 w3 G; rw [hW]; clear hW)
    | (go_at_call 18; (with_reducible refine (CO.out _ (ROW.out.later (h13.trans (h4.mono h13.size)))).mono ?_); rintro e w5 ⟨g, o', rfl, hO, hcell, hg, h5⟩))
  have D2 := Lib.hid (((B2.later h3).later h4).later h5)
  have D4 := Lib.hid (B4.later h5)
  have hB5 := Lib.hid ((h13.trans (h4.mono h13.size)).trans (h5.mono (Nat.le_trans h13.size h4.size)))
  have HO := Lib.hid hO
  have HC := Lib.hid hcell
  have hn5 : g < w5.heap.size := hg
  clear h1 h2 h3 h4 h5 h13 B2 B4 hO hcell hg CH CL CO
  generalize w1.heap.size = bh at *
  generalize w3.heap.size = bl at *
  go_wp2
  go_loopw [9, 10, 11] (fun c1 c2 s wr => ∃ k : Nat, k ≤ l.length ∧ s = .int .i64 k ∧ c1 = .int .i64 (cntTo F k : Int) ∧ c2 = .int .i64 (cntTo G k : Int) ∧ Below w5.heap.size w5 wr) (fun _ _ s _ => l.length - (intOf s).toNat)
  case atStart => exact ⟨0, Nat.zero_le _, rfl, rfl, rfl, Below.refl _ _⟩
  case round =>
    obtain ⟨k, hk, rfl, rfl, rfl, hL⟩ := hrel
    have HL := Lib.hid hL
    clear hL
    have E2 := D2.out.later HL.out
    have E4 := D4.out.later HL.out
    by_cases hlt : k < l.length
    · obtain ⟨x, hx⟩ : ∃ x, l[k]? = some x := ⟨l[k], List.getElem?_eq_getElem hlt⟩
      have hk0 : (0 : Int) ≤ (k : Int) := by omega
      have hk1 : (k : Int) < (l.length : Int) := by omega
      obtain ⟨q, hq, hoq⟩ := HO.out.at_ hlt
      have hrk := HO.out.rank hoq
      have CR := fun W hR => rank_any A cap l k W hR hlt (by omega)
      rw [hrk] at CR
      have CR := Lib.hid CR
      have CHas := fun W => has_any F (k : Int) W (by omega) (by omega)
      have CHas2 := fun W => has_any G (k : Int) W (by omega) (by omega)
      rw [hasB_nat F k (by omega)] at CHas
      rw [hasB_nat G k (by omega)] at CHas2
      have q0 : (0 : Int) ≤ (q : Int) := by omega
      have q1 : (q : Int) < (l.length : Int) := by omega
      have HQ := Lib.hid (HC.out q k hoq)
      have b1 := cntTo_le F k
      have b2 := cntTo_le G k
      have f0 : (0 : Int) ≤ (cntTo F k : Int) := by omega
      have f1 : (cntTo F k : Int) ≤ 16 := by omega
      have f2 : (0 : Int) ≤ (cntTo G k : Int) := by omega
      have f3 : (cntTo G k : Int) ≤ 16 := by omega
      clear hrk hoq b1 b2
      have HF : Hid (F k = false) := Lib.hid (FZ.out k)
      have HG : Hid (G k = false) := Lib.hid (GZ.out k)
      rw [HF.out] at CHas
      rw [HG.out] at CHas2
      clear hx
      clear E2 E4
      go_upto_region 12 with (fail)
      go_quiet (fail)
      have HL1 := Lib.hid (drewN_below HL.out nq)
      generalize wr.drewN nq = wr1 at *
      go_upto_region 13 with (fail)
      go_quiet (fail)
      have HLd := Lib.hid (drewN_below HL1.out nq)
      generalize wr1.drewN nq = wd at *
      have CHas := Lib.hid CHas
      have CHas2 := Lib.hid CHas2
      have E2 := Lib.hid (D2.out.later HLd.out)
      have E4 := Lib.hid (D4.out.later HLd.out)
      go_wp2_with (first
        | ((with_reducible show wpList _ _ _ (⟨some 75, _, _, _, _, _⟩ :: _) _ _); refine wpList_load_mid rfl 41 _ rfl _ _ rfl _ _ E2.out.range Try.underlying41 rfl (info26 _) ?_)
        | (go_at_call 20; (with_reducible refine (CHas.out _).mono ?_); rintro e w6 ⟨rfl, h6⟩; have E46 := Lib.hid (E4.out.later h6); have HL6 := Lib.hid (Below.trans HLd.out (h6.mono (Below.size HLd.out))); clear h6)
        | ((with_reducible show wpList _ _ _ (⟨some 81, _, _, _, _, _⟩ :: _) _ _); refine wpList_load_g rfl _ rfl _ _ rfl E46.out ?_)
        | (go_at_call 20; (with_reducible refine (CHas2.out _).mono ?_); rintro e w7 ⟨rfl, h7⟩; have HL7 := Lib.hid (Below.trans HL6.out (h7.mono (Below.size HL6.out))); clear h7)
        | (go_at_call 31; (with_reducible refine (CR.out _ (ROW.out.later (Below.trans hB5.out (Below.mono HL7.out (Below.size hB5.out))))).mono ?_); rintro e w8 ⟨rfl, h8⟩; have HL8 := Lib.hid (Below.trans HL7.out (h8.mono (Below.size HL7.out))); have cq := (Below.cell HL8.out (p := ⟨g, q, none⟩) hn5).trans HQ.out; clear h8))
      go_roundw
      case rel => exact ⟨k + 1, by omega, by go_num, by rw [cntTo_no HF.out], by rw [cntTo_no HG.out], HL8.out⟩
      case measure => simp [intOf]; omega
    · obtain rfl : k = l.length := by omega
      have LF := fun W => len_any F W
      have LG := fun W => len_any G W
      rw [CF.out] at LF
      rw [CG.out] at LG
      have LF := Lib.hid LF
      have LG := Lib.hid LG
      generalize cntTo F l.length = nf at *
      generalize cntTo G l.length = ng at *
      go_wp2_with (first
        | ((with_reducible show wpList _ _ _ (⟨some 97, _, _, _, _, _⟩ :: _) _ _); refine wpList_load_mid rfl 41 _ rfl _ _ rfl _ _ E2.range Try.underlying41 rfl (info26 _) ?_)
        | (go_at_call 21; (with_reducible refine (LF.out _).mono ?_); rintro e w8 ⟨rfl, h8⟩; have E48 := E4.later h8; have HL8 := Lib.hid (Below.trans HL.out (h8.mono (Below.size HL.out))); clear h8)
        | ((with_reducible show wpList _ _ _ (⟨some 102, _, _, _, _, _⟩ :: _) _ _); refine wpList_load_g rfl _ rfl _ _ rfl E48 ?_)
        | (go_at_call 21; (with_reducible refine (LG.out _).mono ?_); rintro e w9 ⟨rfl, h9⟩; have HL9 := Lib.hid (Below.trans HL8.out (h9.mono (Below.size HL8.out))); clear h9))
      go_ret
      exact ⟨rfl, Below.trans hB5.out (Below.mono HL9.out (Below.size hB5.out))⟩

set_option maxRecDepth 100000 in
set_option maxHeartbeats 8000000 in
theorem urgent_high (A : Option Addr) (cap : Nat) (l : List Ts) (i : Int) (w : World) (hR : Row w A cap l) (h16 : l.length ≤ 16) (hi : 0 ≤ i ∧ (l.length : Int) ≤ i) (hat : in64 i) :
    Calls Try.prog 15 #[.slice A l.length cap, .int .i64 i] w fun e w' => e = .returned (.bool true) ∧ Below w.heap.size w w' := by
  have hle := hR.le
  have hmx := hR.mx
  have hno : pAt l i = none := pAt_none (by omega)
  have CH := fun W hR => higher_any A cap l i W hR hat
  have CL := fun W hR => lower_any A cap l i W hR hat
  have CO := Lib.hid (fun W hR => order_any A cap l W hR h16)
  have FZ : Hid (∀ k, higherF l i k = false) := Lib.hid (fun k => by rw [higherF_none hno]; rfl)
  have GZ : Hid (∀ k, lowerF l i k = false) := Lib.hid (fun k => by rw [lowerF_none hno]; rfl)
  have CF := Lib.hid (cnt_few (f := higherF l i) (fun k hk => higherF_far hk) (by omega : l.length ≤ 1024))
  have CG := Lib.hid (cnt_few (f := lowerF l i) (fun k hk => lowerF_far hk) (by omega : l.length ≤ 1024))
  generalize higherF l i = F at *
  generalize lowerF l i = G at *
  have CH := Lib.hid CH
  have CL := Lib.hid CL
  have ROW := Lib.hid hR
  obtain ⟨n0, n1⟩ := hi
  have n2 : decide (i < (l.length : Int)) = false := decide_eq_false (by omega)
  clear hR hno hat
  go_enter Try.func15, Try.ntmps15
  go_upto_region 4 with (first
    | (go_at_call 16; (with_reducible refine (CH.out _ ROW.out).mono ?_); rintro e w1 ⟨rfl, h1⟩)
    | ((with_reducible show wpList _ _ _ (⟨none, Op.store 41 (.tmp 5) _, _, _, _, _⟩ :: _) _ _); refine wpList_store_mid rfl 41 _ _ rfl _ _ (cellsL F).toArray rfl rfl ((zero_box _).there _) (info26' _) (cellsL_all _) ?_; rw [alloc_stored]; obtain ⟨W2, hW, B2, h2⟩ := held4 w1 F; rw [hW]; clear hW)
    | (go_at_call 17; (with_reducible refine (CL.out _ (ROW.out.later (h1.trans (h2.mono h1.size)))).mono ?_); rintro e w3 ⟨rfl, h3⟩; have h13 := (h1.trans (h2.mono h1.size)).trans (h3.mono (Nat.le_trans h1.size h2.size)))
    | ((with_reducible show wpList _ _ _ (⟨none, Op.store 41 (.tmp 6) _, _, _, _, _⟩ :: _) _ _); refine wpList_store_mid rfl 41 _ _ rfl _ _ (cellsL G).toArray rfl rfl ((zero_box _).there _) (info26' _) (cellsL_all _) ?_; rw [alloc_stored]; obtain ⟨W4, hW, B4, h4⟩ := held4 w3 G; rw [hW]; clear hW)
    | (go_at_call 18; (with_reducible refine (CO.out _ (ROW.out.later (h13.trans (h4.mono h13.size)))).mono ?_); rintro e w5 ⟨g, o', rfl, hO, hcell, hg, h5⟩))
  have D2 := Lib.hid (((B2.later h3).later h4).later h5)
  have D4 := Lib.hid (B4.later h5)
  have hB5 := Lib.hid ((h13.trans (h4.mono h13.size)).trans (h5.mono (Nat.le_trans h13.size h4.size)))
  have HO := Lib.hid hO
  have HC := Lib.hid hcell
  have hn5 : g < w5.heap.size := hg
  clear h1 h2 h3 h4 h5 h13 B2 B4 hO hcell hg CH CL CO
  generalize w1.heap.size = bh at *
  generalize w3.heap.size = bl at *
  go_wp2
  go_loopw [9, 10, 11] (fun c1 c2 s wr => ∃ k : Nat, k ≤ l.length ∧ s = .int .i64 k ∧ c1 = .int .i64 (cntTo F k : Int) ∧ c2 = .int .i64 (cntTo G k : Int) ∧ Below w5.heap.size w5 wr) (fun _ _ s _ => l.length - (intOf s).toNat)
  case atStart => exact ⟨0, Nat.zero_le _, rfl, rfl, rfl, Below.refl _ _⟩
  case round =>
    obtain ⟨k, hk, rfl, rfl, rfl, hL⟩ := hrel
    have HL := Lib.hid hL
    clear hL
    have E2 := D2.out.later HL.out
    have E4 := D4.out.later HL.out
    by_cases hlt : k < l.length
    · obtain ⟨x, hx⟩ : ∃ x, l[k]? = some x := ⟨l[k], List.getElem?_eq_getElem hlt⟩
      have hk0 : (0 : Int) ≤ (k : Int) := by omega
      have hk1 : (k : Int) < (l.length : Int) := by omega
      obtain ⟨q, hq, hoq⟩ := HO.out.at_ hlt
      have hrk := HO.out.rank hoq
      have CR := fun W hR => rank_any A cap l k W hR hlt (by omega)
      rw [hrk] at CR
      have CR := Lib.hid CR
      have CHas := fun W => has_any F (k : Int) W (by omega) (by omega)
      have CHas2 := fun W => has_any G (k : Int) W (by omega) (by omega)
      rw [hasB_nat F k (by omega)] at CHas
      rw [hasB_nat G k (by omega)] at CHas2
      have q0 : (0 : Int) ≤ (q : Int) := by omega
      have q1 : (q : Int) < (l.length : Int) := by omega
      have HQ := Lib.hid (HC.out q k hoq)
      have b1 := cntTo_le F k
      have b2 := cntTo_le G k
      have f0 : (0 : Int) ≤ (cntTo F k : Int) := by omega
      have f1 : (cntTo F k : Int) ≤ 16 := by omega
      have f2 : (0 : Int) ≤ (cntTo G k : Int) := by omega
      have f3 : (cntTo G k : Int) ≤ 16 := by omega
      clear hrk hoq b1 b2
      have HF : Hid (F k = false) := Lib.hid (FZ.out k)
      have HG : Hid (G k = false) := Lib.hid (GZ.out k)
      rw [HF.out] at CHas
      rw [HG.out] at CHas2
      clear hx
      clear E2 E4
      go_upto_region 12 with (fail)
      go_quiet (fail)
      have HL1 := Lib.hid (drewN_below HL.out nq)
      generalize wr.drewN nq = wr1 at *
      go_upto_region 13 with (fail)
      go_quiet (fail)
      have HLd := Lib.hid (drewN_below HL1.out nq)
      generalize wr1.drewN nq = wd at *
      have CHas := Lib.hid CHas
      have CHas2 := Lib.hid CHas2
      have E2 := Lib.hid (D2.out.later HLd.out)
      have E4 := Lib.hid (D4.out.later HLd.out)
      go_wp2_with (first
        | ((with_reducible show wpList _ _ _ (⟨some 75, _, _, _, _, _⟩ :: _) _ _); refine wpList_load_mid rfl 41 _ rfl _ _ rfl _ _ E2.out.range Try.underlying41 rfl (info26 _) ?_)
        | (go_at_call 20; (with_reducible refine (CHas.out _).mono ?_); rintro e w6 ⟨rfl, h6⟩; have E46 := Lib.hid (E4.out.later h6); have HL6 := Lib.hid (Below.trans HLd.out (h6.mono (Below.size HLd.out))); clear h6)
        | ((with_reducible show wpList _ _ _ (⟨some 81, _, _, _, _, _⟩ :: _) _ _); refine wpList_load_g rfl _ rfl _ _ rfl E46.out ?_)
        | (go_at_call 20; (with_reducible refine (CHas2.out _).mono ?_); rintro e w7 ⟨rfl, h7⟩; have HL7 := Lib.hid (Below.trans HL6.out (h7.mono (Below.size HL6.out))); clear h7)
        | (go_at_call 31; (with_reducible refine (CR.out _ (ROW.out.later (Below.trans hB5.out (Below.mono HL7.out (Below.size hB5.out))))).mono ?_); rintro e w8 ⟨rfl, h8⟩; have HL8 := Lib.hid (Below.trans HL7.out (h8.mono (Below.size HL7.out))); have cq := (Below.cell HL8.out (p := ⟨g, q, none⟩) hn5).trans HQ.out; clear h8))
      go_roundw
      case rel => exact ⟨k + 1, by omega, by go_num, by rw [cntTo_no HF.out], by rw [cntTo_no HG.out], HL8.out⟩
      case measure => simp [intOf]; omega
    · obtain rfl : k = l.length := by omega
      have LF := fun W => len_any F W
      have LG := fun W => len_any G W
      rw [CF.out] at LF
      rw [CG.out] at LG
      have LF := Lib.hid LF
      have LG := Lib.hid LG
      generalize cntTo F l.length = nf at *
      generalize cntTo G l.length = ng at *
      go_wp2_with (first
        | ((with_reducible show wpList _ _ _ (⟨some 97, _, _, _, _, _⟩ :: _) _ _); refine wpList_load_mid rfl 41 _ rfl _ _ rfl _ _ E2.range Try.underlying41 rfl (info26 _) ?_)
        | (go_at_call 21; (with_reducible refine (LF.out _).mono ?_); rintro e w8 ⟨rfl, h8⟩; have E48 := E4.later h8; have HL8 := Lib.hid (Below.trans HL.out (h8.mono (Below.size HL.out))); clear h8)
        | ((with_reducible show wpList _ _ _ (⟨some 102, _, _, _, _, _⟩ :: _) _ _); refine wpList_load_g rfl _ rfl _ _ rfl E48 ?_)
        | (go_at_call 21; (with_reducible refine (LG.out _).mono ?_); rintro e w9 ⟨rfl, h9⟩; have HL9 := Lib.hid (Below.trans HL8.out (h9.mono (Below.size HL8.out))); clear h9))
      go_ret
      exact ⟨rfl, Below.trans hB5.out (Below.mono HL9.out (Below.size hB5.out))⟩

theorem urgent_any (A : Option Addr) (cap : Nat) (l : List Ts) (m : Nat) (hm : l.length = m) (i : Int) (w : World) (hR : Row w A cap l) (h16 : m ≤ 16) (hat : in64 i) :
    Calls Try.prog 15 #[.slice A m cap, .int .i64 i] w fun e w' => e = .returned (.bool true) ∧ Below w.heap.size w w' := by
  subst hm
  by_cases h0 : i < 0
  · exact urgent_low A cap l i w hR h16 h0 hat
  · by_cases h1 : (l.length : Int) ≤ i
    · exact urgent_high A cap l i w hR h16 ⟨by omega, h1⟩ hat
    · obtain ⟨n, rfl⟩ := Int.eq_ofNat_of_zero_le (show 0 ≤ i by omega)
      exact urgent_in A cap l n w hR h16 (by omega)
end Go.Proofs.Ytapeklpnjckfkaa
