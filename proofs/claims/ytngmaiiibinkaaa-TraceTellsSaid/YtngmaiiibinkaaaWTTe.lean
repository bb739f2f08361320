/- The law law:TraceTells: its walk. -/
import Derived.Test.YtngmaiiibinkaaaG3
import Derived.Test.YtngmaiiibinkaaaG6
import Derived.Test.YtngmaiiibinkaaaG8
import Derived.Deep.CutRange
namespace Go.Proofs.Ytngmaiiibinkaaa
open Go.RowKit
set_option linter.unusedVariables false
set_option linter.unusedSimpArgs false
attribute [local go_sem ↓] Go.wp_at_zero Go.wp_at_succ
theorem take_at {α : Type} {l : List α} {n k : Nat} {x : α} (h : (l.take n)[k]? = some x) : l[k]? = some x := by
  rw [List.getElem?_take] at h
  split at h
  · exact h
  · cases h
structure Odd2 (N : Nat) (v0 v1 : Value) (W : World) : Prop where
  c0 : W.cell? ⟨N, 0, none⟩ = some v0
  c1 : W.cell? ⟨N, 1, none⟩ = some v1
theorem Odd2.step {N : Nat} {v0 v1 : Value} {W W' : World} (h : Odd2 N v0 v1 W) (hb : Below W.heap.size W W') : Odd2 N v0 v1 W' := ⟨cells_below hb _ _ _ h.c0, cells_below hb _ _ _ h.c1⟩
theorem odd2 {w w1 : World} {t : TypeId} {v0 v1 : Value} (h : Below (w.alloc (.cells #[v0, v1] t)).heap.size (w.alloc (.cells #[v0, v1] t)) w1) : Odd2 w.heap.size v0 v1 w1 ∧ Below w.heap.size w w1 := by
  have hs := h.size
  simp only [World.size_alloc] at hs
  have hc : ∀ i, w1.cell? ⟨w.heap.size, i, none⟩ = (#[v0, v1] : Array Value)[i]? := fun i => by
    rw [h.cell (p := ⟨w.heap.size, i, none⟩) (by simp), cell_of_row _ _ i _ _ _ (heap_alloc_new w _)]
  exact ⟨⟨hc 0, hc 1⟩, ((Below.refl w.heap.size w).alloc (Nat.le_refl _) _).trans (h.mono (by simp))⟩
theorem CRow.take10 {w : World} {A : Option Addr} {cap : Nat} {l : List Int} (h : CRow w A cap l) (k : Nat) : CRow w A cap (l.take k) :=
  ⟨by have := h.le; rw [List.length_take]; omega, h.mx, fun x hx => h.wf x (List.mem_of_mem_take hx), fun i x hx => h.at_ i x (take_at hx)⟩
theorem Row.take1 {w : World} {A : Option Addr} {cap : Nat} {l : List Ts} (h : Row w A cap l) (k : Nat) : Row w A cap (l.take k) :=
  ⟨by have := h.le; rw [List.length_take]; omega, h.mx, fun x hx => h.wf x (List.mem_of_mem_take hx), fun i x hx => h.at_ i x (take_at hx)⟩
def lowE (l : List Int) : List Int := l.map fun x => x.tmod 60
theorem tmod60 (x : Int) : -60 < x.tmod 60 ∧ x.tmod 60 < 60 := by
  rcases Int.le_total 0 x with h | h
  · rw [Int.tmod_eq_emod_of_nonneg h]
    omega
  · obtain ⟨m, rfl⟩ : ∃ m, x = -m := ⟨-x, by omega⟩
    rw [Int.neg_tmod, Int.tmod_eq_emod_of_nonneg (by omega)]
    omega
theorem lowE_bd {l : List Int} : ∀ x ∈ lowE l, -60 < x ∧ x < 60 := fun x hx => by
  obtain ⟨y, -, rfl⟩ := List.mem_map.1 hx
  exact tmod60 y
theorem few_edh {js : List Fv} {l : List Sq} (hk : ∀ i, i < js.length → 1 ≤ (jb js i).k ∧ (jb js i).k ≤ 1000000000000000000) (hj : js.length ≤ 1000) : EdH js (fewQ l) :=
  ⟨hk, fun x hx => by have := fewQ_bd x hx; omega, hj, by have := fewQ_len l; omega⟩
theorem low_rsh {js : List Fv} {l : List Int} (ha : ∀ i, i < js.length → -1000000000000000000 ≤ (jb js i).a ∧ (jb js i).a ≤ 1000000000000000000) : RsH js (lowE l) :=
  ⟨ha, fun x hx => by have := lowE_bd x hx; omega⟩
set_option maxRecDepth 100000 in
set_option maxHeartbeats 16000000 in
theorem tte_walk (A0 : Option Addr) (cap0 : Nat) (l0 : List Sp) (A1 : Option Addr) (cap1 : Nat) (l1 : List Fv) (AS : Option Addr) (cs2 : Nat) (lsp : List Sq) (AE : Option Addr) (ce : Nat) (le2 : List Int) (w : World) (h0 : SRow w A0 cap0 l0) (h1 : FRow w A1 cap1 l1) (i0 : SqR w AS cs2 lsp) (i1 : CRow w AE ce le2) :
    Calls Try.prog 3 #[.slice A0 l0.length cap0, .slice A1 l1.length cap1, .agg #[.slice AS lsp.length cs2, .slice AE le2.length ce]] w fun e w' => e = .returned (.bool true) ∧ Below w.heap.size w w' := by
  have AW := Lib.hid (fun W => awake_any W)
  have hle1 := h1.le
  have hmx1 := h1.mx
  have KF0 := fun (W : World) (hb : Below w.heap.size w W) => fewE_row A1 cap1 l1 W (h1.later hb)
  have KS := Lib.hid (fun (W : World) (hb : Below w.heap.size w W) => set_any 4 (by omega) (by omega) A0 cap0 l0 (l1.length : Int) W (h0.later hb) ⟨by omega, by omega⟩)
  have FB0 := fewE_bd l1
  obtain ⟨fs, hfs⟩ : ∃ fs, fewES l1 = fs := ⟨_, rfl⟩
  rw [hfs] at KF0 FB0
  have KF := Lib.hid KF0
  have FB := Lib.hid FB0
  have I0 := Lib.hid i0
  have I1 := Lib.hid i1
  clear h0 h1 i0 i1 hfs KF0 FB0
  go_enter Try.func3, Try.ntmps3
  go_upto_region 2 with (go_at_call 4; (with_reducible refine (AW.out _).mono ?_); rintro e w1 ⟨rfl, hb1⟩)
  obtain ⟨hq1, hB1⟩ := odd2 hb1
  have O1 := Lib.hid hq1
  have B1 := Lib.hid hB1
  clear hb1 hB1 hq1
  go_upto_region 3 with (go_at_call 5; (with_reducible refine (KS.out _ B1.out).mono ?_); rintro e w2 ⟨As, cs, ss, rfl, hRs, hs1, hs5, hsd, hsf, hsp, h2⟩; have RS2 := Lib.hid hRs; have HS1 := Lib.hid hs1; have HS5 := Lib.hid hs5; have HSD := Lib.hid hsd; have HSF := Lib.hid hsf; have HSP := Lib.hid hsp; have B12 := Lib.hid h2; have B2 := Lib.hid (B1.out.trans (h2.mono B1.out.size)); clear hRs hs1 hs5 hsd hsf hsp h2)
  have OK := Lib.hid (set_ok HS1.out (by have := HS5.out; omega) HSD.out HSF.out HSP.out)
  have SM0 := sm_of (M := 4) (n := 8) HS1.out (by have := HS5.out; omega) (by omega) HSD.out HSF.out HSP.out FB.out.1 (by omega) FB.out.2
  have O2 := Lib.hid (O1.out.step B12.out)
  obtain ⟨js, hjs⟩ : ∃ js, decS ss fs = js := ⟨_, rfl⟩
  rw [hjs] at SM0
  have SM := Lib.hid SM0
  have HJS := Lib.hid hjs
  clear SM0 hjs
  go_upto_region 4 with (first
    | (go_at_call 7; (with_reducible refine (KF.out _ B2.out).mono ?_); rintro e w3 ⟨Ar, cr, rfl, hFR, h3⟩; have KD0 := dec_row _ _ _ _ ss fs _ (RS2.out.later h3) hFR OK.out; rw [HJS.out] at KD0; have KD := Lib.hid KD0; have H3 := Lib.hid h3; have RS3 := Lib.hid (RS2.out.later h3); have B3 := Lib.hid (B2.out.trans (h3.mono B2.out.size)); clear hFR h3 KD0)
    | (go_at_call 6; (with_reducible refine KD.out.mono ?_); rintro e w4 ⟨Aj, cj, gj, rfl, hFJ, hOJ, hXJ, h4⟩; have H24 := Lib.hid (H3.out.trans (h4.mono H3.out.size)); have H34 := Lib.hid h4; have FJ := Lib.hid hFJ; have OJ := Lib.hid hOJ; have XJ := Lib.hid hXJ; have B4 := Lib.hid (B2.out.trans (H24.out.mono B2.out.size)); have RS := Lib.hid (RS2.out.later H24.out); clear hFJ hOJ hXJ h4 KD))
  clear RS2 KF KS AW FB HJS H3
  obtain ⟨i0n, hin, hz0, hz1, hz2⟩ := info_parts info64
  have O4 := Lib.hid (O2.out.step H24.out)
  have KR0 := rrun_sm SM.out (by omega) w4 RS.out FJ.out
  have TF0 := trf_sm SM.out (by omega)
  obtain ⟨sp, hsp⟩ : ∃ sp, (tst ss js 9223372036854775807).sp = sp := ⟨_, rfl⟩
  obtain ⟨es, hes⟩ : ∃ es, (tst ss js 9223372036854775807).en = es := ⟨_, rfl⟩
  rw [hsp, hes] at KR0 TF0
  have TF := Lib.hid TF0
  unfold GotJ at KR0
  have KR := Lib.hid KR0
  clear KR0 TF0 hsp hes O1 O2
  go_upto_region 5 with (go_at_call 8; (with_reducible refine KR.out.mono ?_); rintro e w5 ⟨A1, c1, B1', d1, D1, rfl, hS, hE, hb5⟩; have HS := Lib.hid hS; have HE := Lib.hid hE; have HB5 := Lib.hid hb5; clear hS hE hb5)
  have BA := Lib.hid (show Below w5.heap.size w5 (w5.alloc (.cells #[.slice A1 sp.length c1, .slice B1' es.length d1, .slice D1 es.length es.length] TGo)) from (Below.refl _ _).alloc (Nat.le_refl _) _)
  have Z := Lib.hid (cells3 w5 TGo (.slice A1 sp.length c1) (.slice B1' es.length d1) (.slice D1 es.length es.length))
  obtain ⟨xb, hxb⟩ : ∃ xb, w5.heap.size = xb := ⟨_, rfl⟩
  obtain ⟨w6, hW6⟩ : ∃ W6, w5.alloc (.cells #[.slice A1 sp.length c1, .slice B1' es.length d1, .slice D1 es.length es.length] TGo) = W6 := ⟨_, rfl⟩
  rw [hW6] at BA
  rw [hW6, hxb] at Z
  rw [hW6, hxb]
  have HB6 := Lib.hid (bel_step HB5.out BA.out)
  have O6 := Lib.hid (O4.out.step HB6.out)
  have o0 := O6.out.c0
  have o1 := O6.out.c1
  have I16 := Lib.hid (I1.out.later (bel_step B4.out HB6.out))
  have I06 := Lib.hid (I0.out.later (bel_step B4.out HB6.out))
  have hcle := I16.out.le
  have hcmx := I16.out.mx
  clear hW6 hxb KR O4
  rcases Nat.lt_or_ge 10 le2.length with hgt | hgt
  · have hg1 : decide ((le2.length : Int) > 10) = true := decide_eq_true (by omega)
    have hg2 : decide ((10 : Int) < (le2.length : Int)) = true := decide_eq_true (by omega)
    have hg3 : 10 ≤ ce := by omega
    have hg4 : (10 : Int) < (le2.length : Int) := by omega
    have HLT := Lib.hid (show CRow w6 AE ce (le2.take 10) ∧ (le2.take 10).length = 10 from ⟨I16.out.take10 10, by rw [List.length_take]; omega⟩)
    obtain ⟨lt, hlt⟩ : ∃ lt, le2.take 10 = lt := ⟨_, rfl⟩
    rw [hlt] at HLT
    clear hlt I16 hgt
    go_upto_region 8 with (fail)
    clear hg1 hg2 hg4
    go_wp2
    go_loopw [12, 13] (fun v i wr => ∃ k : Nat, k ≤ 10 ∧ i = .int .i64 (k : Int) ∧ Hid (NuS w6 v (lowE (lt.take k)) wr)) (fun _ i _ => 10 - (intOf i).toNat)
    case atStart => exact ⟨0, Nat.zero_le _, rfl, Lib.hid ⟨World.ownsRow_nil _ _ _ _, Below.refl _ _⟩⟩
    case round =>
      obtain ⟨k, hk, rfl, hE⟩ := hrel
      by_cases hkm : k < 10
      · obtain ⟨b, o, x, rfl, hx, hwx, hbl, a0⟩ := (HLT.out.1.later hE.out.bel).get (k := k) (by rw [HLT.out.2]; exact hkm)
        have k0 : (0 : Int) ≤ (k : Int) := by omega
        have k1 : (k : Int) < (10 : Int) := by omega
        have HT := Lib.hid (show lowE (lt.take (k + 1)) = lowE (lt.take k) ++ [x.tmod 60] by rw [List.take_add_one, hx]; simp [lowE])
        have HLN := Lib.hid (show (lowE (lt.take k)).length = k by have := HLT.out.2; simp [lowE]; omega)
        obtain ⟨r, hr⟩ : ∃ r, x.tmod 60 = r := ⟨_, rfl⟩
        rw [hr] at HT
        clear hx hwx hbl
        have bb : Below wr.heap.size wr (wr.alloc (.cells #[.int .i64 r] T64)) := (Below.refl _ _).alloc (Nat.le_refl _) _
        have HBB := Lib.hid bb
        have HO := Lib.hid (hE.out.later bb).own
        rw [HLN.out] at HO
        have HC := Lib.hid (show ∀ (j : Nat) (u : Value), [Value.int .i64 r][j]? = some u → (wr.alloc (.cells #[.int .i64 r] T64)).cell? ((⟨wr.heap.size, 0, none⟩ : Addr).add j) = some u from fun j u hj => by
          cases j with
          | zero => simp at hj; subst hj; rw [add_none, cell_of_row _ _ _ _ _ _ (heap_alloc_new wr _)]; rfl
          | succ j => simp at hj)
        have HSz := Lib.hid (show w6.heap.size ≤ (wr.alloc (.cells #[.int .i64 r] T64)).heap.size by have := hE.out.bel.size; simp; omega)
        clear bb
        go_wp2_with (at_builtin; go_loud (refine wpList_append_own _ rfl _ _ 25 rfl w6.heap.size T64 i0n _ 1 8 Try.underlying25 hin hz0 hz1 hz2 rfl (by decide) _ k _ rfl HO.out ⟨wr.heap.size, 0, none⟩ 1 1 [.int .i64 r] rfl rfl HC.out (by intro u hu; simp at hu; subst hu; rfl) (by unfold maxLen; omega) (by omega) HSz.out ?_; intro v' w7 hown hgrow hnil; have HM7 := Lib.hid (hE.out.push (k := r) HBB.out (by rw [HLN.out]; exact hown) hgrow); clear hown hgrow hnil))
        go_roundw
        case rel => exact ⟨k + 1, by omega, by go_num, by rw [HT.out]; exact HM7⟩
        case measure => simp [intOf]; omega
      · obtain rfl : k = 10 := by omega
        obtain ⟨low, hlow⟩ : ∃ low, lowE (lt.take 10) = low := ⟨_, rfl⟩
        have hbd : ∀ x ∈ low, -60 < x ∧ x < 60 := by rw [← hlow]; exact lowE_bd
        have hrsh : ∀ (js2 : List Fv), (∀ i, i < js2.length → -1000000000000000000 ≤ (jb js2 i).a ∧ (jb js2 i).a ≤ 1000000000000000000) → RsH js2 low := fun js2 h => by rw [← hlow]; exact low_rsh h
        rw [hlow] at hE
        obtain ⟨Al, cl, hv, hCl, hBl⟩ := hE.out.done (fun x hx => by have := hbd x hx; unfold in64; omega)
        simp only [Ending.returned.injEq] at hv
        subst hv
        have B4r := bel_step HB6.out hBl
        have B5r := bel_step BA.out hBl
        have harb := fun i hi => SM.out.arb (by omega) (i := i) hi
        have hjs := SM.out.le
        have hk1 : ∀ i, i < js.length → 1 ≤ (jb js i).k ∧ (jb js i).k ≤ 1000000000000000000 := fun i hi => by have := harb i hi; omega
        have hka : ∀ i, i < js.length → -1000000000000000000 ≤ (jb js i).a ∧ (jb js i).a ≤ 1000000000000000000 := fun i hi => by have := harb i hi; omega
        have hss := HS1.out
        have hrle := RS.out.le
        have KT1 := fun W (hb : Below wr.heap.size wr W) => tells_any (sp := sp.map toQ) W ⟨RS.out.later (bel_step B4r hb), FJ.out.later (bel_step B4r hb), HE.out.later (bel_step B5r hb), TF.out.row SM.out (by omega) (HS.out.later (bel_step B5r hb)), TF.out.edh SM.out (by omega), fun x hx => by
          obtain ⟨y, hy, rfl⟩ := List.mem_map.1 hx
          have := TF.out.sj y hy
          simp only [toQ]; omega, TF.out.rsh SM.out (by omega)⟩
        have KT2 := fun W (hb : Below wr.heap.size wr W) Af cf (hF : SqR W Af cf (fewQ lsp)) => tells_any W ⟨RS.out.later (bel_step B4r hb), FJ.out.later (bel_step B4r hb), hCl.later hb, hF, few_edh hk1 (by omega), fun x hx => (fewQ_bd x hx).2.2.1, hrsh js hka⟩
        have KT3 := fun W (hb : Below wr.heap.size wr W) Af cf (hF : SqR W Af cf (fewQ lsp)) => tells_any W ⟨(RS.out.later (bel_step B4r hb)).take1 1, FJ.out.later (bel_step B4r hb), hCl.later hb, hF, few_edh hk1 (by omega), fun x hx => (fewQ_bd x hx).2.2.1, hrsh js hka⟩
        have KT4 := fun W (hb : Below wr.heap.size wr W) Af cf (hF : SqR W Af cf (fewQ lsp)) => tells_any (T := none) (tc := 0) (R := none) (rc := 0) (ts := []) (js := []) W ⟨Row.nil _ _ (by omega), FRow.nil _ _ (by omega), hCl.later hb, hF, few_edh (fun i hi => by simp at hi) (by simp), fun x hx => (fewQ_bd x hx).2.2.1, hrsh [] (fun i hi => by simp at hi)⟩
        have KF := fun W (hb : Below wr.heap.size wr W) => few_any W (I06.out.later (bel_step hBl hb))
        unfold SpsP at KF
        obtain ⟨FF, hFF⟩ : ∃ FF, (fewQ lsp).length = FF := ⟨_, rfl⟩
        obtain ⟨LL, hLL⟩ : ∃ LL, low.length = LL := ⟨_, rfl⟩
        rw [hFF] at KF
        rw [hLL, hFF] at KT2 KT3 KT4
        rw [List.length_map] at KT1
        rw [show (ss.take 1).length = 1 by rw [List.length_take]; omega] at KT3
        simp only [List.length_nil] at KT4
        rw [hLL]
        have hs1c : 1 ≤ cs := by omega
        have hs1d : (1 : Int) ≤ (cs : Int) := by omega
        have o0 := cells_below hBl _ _ _ o0
        have z0 := cells_below hBl _ _ _ Z.out.1
        have z1 := cells_below hBl _ _ _ Z.out.2.1
        have KT1 := Lib.hid KT1
        have KT2 := Lib.hid KT2
        have KT3 := Lib.hid KT3
        have KT4 := Lib.hid KT4
        have KF := Lib.hid KF
        have HV := Lib.hid (show Below wr.heap.size wr wr.drew from ⟨rfl, rfl, rfl, Nat.le_refl _, fun _ _ => rfl⟩)
        have HWR := Lib.hid (show Below w.heap.size w wr from bel_step B4.out B4r)
        clear hbd hrsh hE hCl B4r B5r harb hk1 hka hlow hFF hLL hss hrle hjs hBl o1
        go_upto_region 13 with (fail)
        go_region_law (first
          | (go_simp; go_at_call 9; (with_reducible refine (KT1.out _ HV.out).mono ?_); rintro e wa ⟨rfl, ha⟩; have HV := Lib.hid (bel_step HV.out ha); have o0 := cells_below ha _ _ _ o0; clear ha)
          | (go_simp; go_at_call 10; (with_reducible refine (KF.out _ HV.out).mono ?_); rintro e wa ⟨Af, cf, rfl, hF, ha⟩; have HF := Lib.hid hF; have HV := Lib.hid (bel_step HV.out ha); have o0 := cells_below ha _ _ _ o0; clear hF ha)
          | (go_simp; go_at_call 9; (with_reducible refine (KT2.out _ HV.out _ _ HF.out).mono ?_); rintro e wa ⟨rfl, ha⟩; have HV := Lib.hid (bel_step HV.out ha); have o0 := cells_below ha _ _ _ o0; clear ha)
          | (go_simp; go_at_call 9; (with_reducible refine (KT3.out _ HV.out _ _ HF.out).mono ?_); rintro e wa ⟨rfl, ha⟩; have HV := Lib.hid (bel_step HV.out ha); have o0 := cells_below ha _ _ _ o0; clear ha)
          | (go_simp; go_at_call 9; (with_reducible refine (KT4.out _ HV.out _ _ HF.out).mono ?_); rintro e wa ⟨rfl, ha⟩; have HV := Lib.hid (bel_step HV.out ha); have o0 := cells_below ha _ _ _ o0; clear ha))
        all_goals
          go_wp2
          go_ret
          exact ⟨rfl, bel_step HWR.out HV.out⟩
  · have hg1 : decide ((le2.length : Int) > 10) = false := decide_eq_false (by omega)
    have hg2 : decide ((10 : Int) < (le2.length : Int)) = false := decide_eq_false (by omega)
    have hg4 : ¬ (10 : Int) < (le2.length : Int) := by omega
    obtain ⟨mm, hmm⟩ : ∃ mm, le2.length = mm := ⟨_, rfl⟩
    have HLT := Lib.hid (show CRow w6 AE ce le2 ∧ le2.length = mm from ⟨I16.out, hmm⟩)
    obtain ⟨lt, hlt⟩ : ∃ lt, le2 = lt := ⟨_, rfl⟩
    rw [hmm] at hg1 hg2 hg4 hcle o1 hgt ⊢
    rw [hlt] at HLT
    clear hlt I16 hmm
    go_upto_region 8 with (fail)
    clear hg1 hg2 hg4
    go_wp2
    go_loopw [12, 13] (fun v i wr => ∃ k : Nat, k ≤ mm ∧ i = .int .i64 (k : Int) ∧ Hid (NuS w6 v (lowE (lt.take k)) wr)) (fun _ i _ => mm - (intOf i).toNat)
    case atStart => exact ⟨0, Nat.zero_le _, rfl, Lib.hid ⟨World.ownsRow_nil _ _ _ _, Below.refl _ _⟩⟩
    case round =>
      obtain ⟨k, hk, rfl, hE⟩ := hrel
      by_cases hkm : k < mm
      · obtain ⟨b, o, x, rfl, hx, hwx, hbl, a0⟩ := (HLT.out.1.later hE.out.bel).get (k := k) (by rw [HLT.out.2]; exact hkm)
        have k0 : (0 : Int) ≤ (k : Int) := by omega
        have k1 : (k : Int) < (mm : Int) := by omega
        have HT := Lib.hid (show lowE (lt.take (k + 1)) = lowE (lt.take k) ++ [x.tmod 60] by rw [List.take_add_one, hx]; simp [lowE])
        have HLN := Lib.hid (show (lowE (lt.take k)).length = k by have := HLT.out.2; simp [lowE]; omega)
        obtain ⟨r, hr⟩ : ∃ r, x.tmod 60 = r := ⟨_, rfl⟩
        rw [hr] at HT
        clear hx hwx hbl
        have bb : Below wr.heap.size wr (wr.alloc (.cells #[.int .i64 r] T64)) := (Below.refl _ _).alloc (Nat.le_refl _) _
        have HBB := Lib.hid bb
        have HO := Lib.hid (hE.out.later bb).own
        rw [HLN.out] at HO
        have HC := Lib.hid (show ∀ (j : Nat) (u : Value), [Value.int .i64 r][j]? = some u → (wr.alloc (.cells #[.int .i64 r] T64)).cell? ((⟨wr.heap.size, 0, none⟩ : Addr).add j) = some u from fun j u hj => by
          cases j with
          | zero => simp at hj; subst hj; rw [add_none, cell_of_row _ _ _ _ _ _ (heap_alloc_new wr _)]; rfl
          | succ j => simp at hj)
        have HSz := Lib.hid (show w6.heap.size ≤ (wr.alloc (.cells #[.int .i64 r] T64)).heap.size by have := hE.out.bel.size; simp; omega)
        clear bb
        go_wp2_with (at_builtin; go_loud (refine wpList_append_own _ rfl _ _ 25 rfl w6.heap.size T64 i0n _ 1 8 Try.underlying25 hin hz0 hz1 hz2 rfl (by decide) _ k _ rfl HO.out ⟨wr.heap.size, 0, none⟩ 1 1 [.int .i64 r] rfl rfl HC.out (by intro u hu; simp at hu; subst hu; rfl) (by unfold maxLen; omega) (by omega) HSz.out ?_; intro v' w7 hown hgrow hnil; have HM7 := Lib.hid (hE.out.push (k := r) HBB.out (by rw [HLN.out]; exact hown) hgrow); clear hown hgrow hnil))
        go_roundw
        case rel => exact ⟨k + 1, by omega, by go_num, by rw [HT.out]; exact HM7⟩
        case measure => simp [intOf]; omega
      · obtain rfl : k = mm := by omega
        obtain ⟨low, hlow⟩ : ∃ low, lowE (lt.take k) = low := ⟨_, rfl⟩
        have hbd : ∀ x ∈ low, -60 < x ∧ x < 60 := by rw [← hlow]; exact lowE_bd
        have hrsh : ∀ (js2 : List Fv), (∀ i, i < js2.length → -1000000000000000000 ≤ (jb js2 i).a ∧ (jb js2 i).a ≤ 1000000000000000000) → RsH js2 low := fun js2 h => by rw [← hlow]; exact low_rsh h
        rw [hlow] at hE
        obtain ⟨Al, cl, hv, hCl, hBl⟩ := hE.out.done (fun x hx => by have := hbd x hx; unfold in64; omega)
        simp only [Ending.returned.injEq] at hv
        subst hv
        have B4r := bel_step HB6.out hBl
        have B5r := bel_step BA.out hBl
        have harb := fun i hi => SM.out.arb (by omega) (i := i) hi
        have hjs := SM.out.le
        have hk1 : ∀ i, i < js.length → 1 ≤ (jb js i).k ∧ (jb js i).k ≤ 1000000000000000000 := fun i hi => by have := harb i hi; omega
        have hka : ∀ i, i < js.length → -1000000000000000000 ≤ (jb js i).a ∧ (jb js i).a ≤ 1000000000000000000 := fun i hi => by have := harb i hi; omega
        have hss := HS1.out
        have hrle := RS.out.le
        have KT1 := fun W (hb : Below wr.heap.size wr W) => tells_any (sp := sp.map toQ) W ⟨RS.out.later (bel_step B4r hb), FJ.out.later (bel_step B4r hb), HE.out.later (bel_step B5r hb), TF.out.row SM.out (by omega) (HS.out.later (bel_step B5r hb)), TF.out.edh SM.out (by omega), fun x hx => by
          obtain ⟨y, hy, rfl⟩ := List.mem_map.1 hx
          have := TF.out.sj y hy
          simp only [toQ]; omega, TF.out.rsh SM.out (by omega)⟩
        have KT2 := fun W (hb : Below wr.heap.size wr W) Af cf (hF : SqR W Af cf (fewQ lsp)) => tells_any W ⟨RS.out.later (bel_step B4r hb), FJ.out.later (bel_step B4r hb), hCl.later hb, hF, few_edh hk1 (by omega), fun x hx => (fewQ_bd x hx).2.2.1, hrsh js hka⟩
        have KT3 := fun W (hb : Below wr.heap.size wr W) Af cf (hF : SqR W Af cf (fewQ lsp)) => tells_any W ⟨(RS.out.later (bel_step B4r hb)).take1 1, FJ.out.later (bel_step B4r hb), hCl.later hb, hF, few_edh hk1 (by omega), fun x hx => (fewQ_bd x hx).2.2.1, hrsh js hka⟩
        have KT4 := fun W (hb : Below wr.heap.size wr W) Af cf (hF : SqR W Af cf (fewQ lsp)) => tells_any (T := none) (tc := 0) (R := none) (rc := 0) (ts := []) (js := []) W ⟨Row.nil _ _ (by omega), FRow.nil _ _ (by omega), hCl.later hb, hF, few_edh (fun i hi => by simp at hi) (by simp), fun x hx => (fewQ_bd x hx).2.2.1, hrsh [] (fun i hi => by simp at hi)⟩
        have KF := fun W (hb : Below wr.heap.size wr W) => few_any W (I06.out.later (bel_step hBl hb))
        unfold SpsP at KF
        obtain ⟨FF, hFF⟩ : ∃ FF, (fewQ lsp).length = FF := ⟨_, rfl⟩
        obtain ⟨LL, hLL⟩ : ∃ LL, low.length = LL := ⟨_, rfl⟩
        rw [hFF] at KF
        rw [hLL, hFF] at KT2 KT3 KT4
        rw [List.length_map] at KT1
        rw [show (ss.take 1).length = 1 by rw [List.length_take]; omega] at KT3
        simp only [List.length_nil] at KT4
        rw [hLL]
        have hs1c : 1 ≤ cs := by omega
        have hs1d : (1 : Int) ≤ (cs : Int) := by omega
        have o0 := cells_below hBl _ _ _ o0
        have z0 := cells_below hBl _ _ _ Z.out.1
        have z1 := cells_below hBl _ _ _ Z.out.2.1
        have KT1 := Lib.hid KT1
        have KT2 := Lib.hid KT2
        have KT3 := Lib.hid KT3
        have KT4 := Lib.hid KT4
        have KF := Lib.hid KF
        have HV := Lib.hid (show Below wr.heap.size wr wr.drew from ⟨rfl, rfl, rfl, Nat.le_refl _, fun _ _ => rfl⟩)
        have HWR := Lib.hid (show Below w.heap.size w wr from bel_step B4.out B4r)
        clear hbd hrsh hE hCl B4r B5r harb hk1 hka hlow hFF hLL hss hrle hjs hBl o1
        go_upto_region 13 with (fail)
        go_region_law (first
          | (go_simp; go_at_call 9; (with_reducible refine (KT1.out _ HV.out).mono ?_); rintro e wa ⟨rfl, ha⟩; have HV := Lib.hid (bel_step HV.out ha); have o0 := cells_below ha _ _ _ o0; clear ha)
          | (go_simp; go_at_call 10; (with_reducible refine (KF.out _ HV.out).mono ?_); rintro e wa ⟨Af, cf, rfl, hF, ha⟩; have HF := Lib.hid hF; have HV := Lib.hid (bel_step HV.out ha); have o0 := cells_below ha _ _ _ o0; clear hF ha)
          | (go_simp; go_at_call 9; (with_reducible refine (KT2.out _ HV.out _ _ HF.out).mono ?_); rintro e wa ⟨rfl, ha⟩; have HV := Lib.hid (bel_step HV.out ha); have o0 := cells_below ha _ _ _ o0; clear ha)
          | (go_simp; go_at_call 9; (with_reducible refine (KT3.out _ HV.out _ _ HF.out).mono ?_); rintro e wa ⟨rfl, ha⟩; have HV := Lib.hid (bel_step HV.out ha); have o0 := cells_below ha _ _ _ o0; clear ha)
          | (go_simp; go_at_call 9; (with_reducible refine (KT4.out _ HV.out _ _ HF.out).mono ?_); rintro e wa ⟨rfl, ha⟩; have HV := Lib.hid (bel_step HV.out ha); have o0 := cells_below ha _ _ _ o0; clear ha))
        all_goals
          go_wp2
          go_ret
          exact ⟨rfl, bel_step HWR.out HV.out⟩
end Go.Proofs.Ytngmaiiibinkaaa
