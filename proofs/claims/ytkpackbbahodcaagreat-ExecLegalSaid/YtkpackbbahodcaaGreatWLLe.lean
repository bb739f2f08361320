/- The law EL: its walk. -/
import Derived.Test.YtkpackbbahodcaaGreatG15
import Derived.Deep.CutRange
namespace Go.Proofs.YtkpackbbahodcaaGreat
open Go.RowKit
set_option linter.unusedVariables false
set_option linter.unusedSimpArgs false
attribute [local go_sem ↓] Go.wp_at_zero Go.wp_at_succ
theorem leg_bad {ss : List Ts} {js : List Fv} {i : Nat} {j : Fv} (hi : i < js.length) (h : ¬ LJ ss j) : legS ss (js.set i j) = false := by
  cases hl : legS ss (js.set i j) with
  | false => rfl
  | true =>
    exfalso
    obtain ⟨h1, h2, h3⟩ := legS_parts hl
    exact h ((ljs_of (vs_of h1) _ h3).all j (List.mem_set hi j))
theorem bad_sum {js : List Fv} {i : Nat} {j : Fv} (hn : js.length ≤ 10) (h : ∀ x ∈ js, x.k ≤ 4) (hj : j.k ≤ 4) : ((js.set i j).map (·.k)).sum ≤ 1000000000 := by
  have := sum_bd (·.k) 4 (js.set i j) (fun x hx => by
    rcases List.mem_or_eq_of_mem_set hx with h1 | rfl
    · exact h x h1
    · exact hj)
  rw [List.length_set] at this
  omega
/-- Nothing runs. -/
def RunO (w : World) (e : Ending) (w' : World) : Prop := ∃ A c B d, e = .returned (.tuple #[.slice A 0 c, .slice B 0 d]) ∧ Below w.heap.size w w'
theorem runo_of {w : World} {e : Ending} {w' : World} (h : RunJ [] [] w e w') : RunO w e w' := by
  obtain ⟨A, c, B, d, he, _, _, hb⟩ := h
  exact ⟨A, c, B, d, he, hb⟩
theorem row_none (w : World) : Row w none 0 [] := ⟨by simp, by omega, by simp, by simp⟩
theorem runo_nil {R : Option Addr} {rc : Nat} {js : List Fv} (w : World) (hR : FRow w R rc js) (hn : js.length ≤ 10) (ht : (js.map (·.k)).sum ≤ 40) : Calls Tryz.prog 16 #[.slice none 0 0, .slice R js.length rc] w (RunO w) :=
  (run_not (A := none) (cap := 0) (ts := []) w (row_none w) hR (fun i j x y hx => by simp at hx) (by simp) (by omega) (by omega) (legS_nil js)).mono fun e w' h => runo_of h
theorem untilo_nil {R : Option Addr} {rc : Nat} {js : List Fv} (w : World) (hR : FRow w R rc js) (hn : js.length ≤ 10) (ht : (js.map (·.k)).sum ≤ 40) : Calls Tryz.prog 22 #[.slice none 0 0, .slice R js.length rc, .int .i64 9] w (RunO w) :=
  (until_not (A := none) (cap := 0) (ts := []) (en := 9) w (row_none w) hR (fun i j x y hx => by simp at hx) (by simp) (by omega) (by omega) (legS_nil js) (by omega)).mono fun e w' h => runo_of h
theorem runo_bad {A R : Option Addr} {cap rc n : Nat} {ss : List Ts} {js : List Fv} (w : World) (hT : Row w A cap ss) (hR : FRow w R rc js) (hD : Dist ss) (ft : ss.length ≤ 8) (hm : js.length = n) (hn : n ≤ 10) (ht : (js.map (·.k)).sum ≤ 1000000000) (hl : legS ss js = false) : Calls Tryz.prog 16 #[.slice A ss.length cap, .slice R n rc] w (RunO w) := by
  subst hm
  exact (run_not w hT hR hD (by omega) (by omega) ht hl).mono fun e w' h => runo_of h
theorem untilo_bad {A R : Option Addr} {cap rc n : Nat} {ss : List Ts} {js : List Fv} (w : World) (hT : Row w A cap ss) (hR : FRow w R rc js) (hD : Dist ss) (ft : ss.length ≤ 8) (hm : js.length = n) (hn : n ≤ 10) (ht : (js.map (·.k)).sum ≤ 1000000000) (hl : legS ss js = false) : Calls Tryz.prog 22 #[.slice A ss.length cap, .slice R n rc, .int .i64 50] w (RunO w) := by
  subst hm
  exact (until_not (en := 50) w hT hR hD (by omega) (by omega) ht hl (by omega)).mono fun e w' h => runo_of h
/-- Jobs that are not legal any more. -/
structure Bad (ss : List Ts) (w3 wx : World) (A : Option Addr) (c n : Nat) : Prop where
  is : ∃ js, FRow wx A c js ∧ js.length = n ∧ (js.map (·.k)).sum ≤ 1000000000 ∧ legS ss js = false
  bel : Below w3.heap.size w3 wx
theorem bad_of {ss : List Ts} {js : List Fv} {w3 wx : World} {A : Option Addr} {c n i : Nat} {gs : List Gv} {j : Fv} (hG : FOwn 46 w3.heap.size wx (.slice A n c) gs) (hx : gs.map (·.x) = js.set i j) (hm : js.length = n) (hn : n ≤ 10) (hi : i < n) (hk : ∀ x ∈ js, x.k ≤ 4) (hj : j.k ≤ 4) (hb : Below w3.heap.size w3 wx) (hno : ¬ LJ ss j) : Bad ss w3 wx A c n := by
  obtain ⟨A', c', hv, F⟩ := hG.frow
  simp only [Value.slice.injEq] at hv
  obtain ⟨rfl, -, rfl⟩ := hv
  rw [hx] at F
  exact ⟨⟨_, F, by rw [List.length_set]; exact hm, bad_sum (by omega) hk hj, leg_bad (by omega) hno⟩, hb⟩
set_option maxRecDepth 100000 in
set_option maxHeartbeats 16000000 in
theorem lle_walk (A0 : Option Addr) (cap0 : Nat) (l0 : List Sp) (A1 : Option Addr) (cap1 : Nat) (l1 : List Fv) (x0 x1 : Int) (w : World) (h0 : SRow w A0 cap0 l0) (h1 : FRow w A1 cap1 l1) (i0 : in64 x0) (i1 : in64 x1) :
    Calls Tryz.prog 5 #[.slice A0 l0.length cap0, .slice A1 l1.length cap1, .agg #[.int .i64 x0, .int .i64 x1]] w fun e w' => e = .returned (.bool true) ∧ Below w.heap.size w w' := by
  have AW := Lib.hid (fun W => awake_any W)
  have hle1 := h1.le
  have hmx1 := h1.mx
  have KF0 := fun (W : World) (hb : Below w.heap.size w W) => fewE_row A1 cap1 l1 W (h1.later hb)
  have KS := Lib.hid (fun (W : World) (hb : Below w.heap.size w W) => set_any 5 (by omega) (by omega) A0 cap0 l0 x0 W (h0.later hb) i0)
  have FB0 := fewE_bd l1
  obtain ⟨fs, hfs⟩ : ∃ fs, fewES l1 = fs := ⟨_, rfl⟩
  rw [hfs] at KF0 FB0
  have KF := Lib.hid KF0
  have FB := Lib.hid FB0
  have I0 := Lib.hid i0
  have I1 := Lib.hid i1
  clear h0 h1 i0 i1 hfs KF0 FB0
  go_enter Tryz.func5, Tryz.ntmps5
  go_upto_region 2 with (go_at_call 12; (with_reducible refine (AW.out _).mono ?_); rintro e w1 ⟨rfl, hb1⟩)
  obtain ⟨hq1, hB1⟩ := arr2 hb1
  obtain ⟨k0, k1⟩ := hq1
  have HQ1 : Hid (Q2 w.heap.size x0 x1 w1) := Lib.hid ⟨k0, k1⟩
  have B1 := Lib.hid hB1
  clear hb1 hB1
  go_upto_region 3 with (go_at_call 13; (with_reducible refine (KS.out _ B1.out).mono ?_); rintro e w2 ⟨As, cs, ss, rfl, hRs, hs1, hs5, hsd, hsf, hsp, h2⟩; have RS2 := Lib.hid hRs; have HS1 := Lib.hid hs1; have HS5 := Lib.hid hs5; have HSD := Lib.hid hsd; have HSF := Lib.hid hsf; have HSP := Lib.hid hsp; have B12 := Lib.hid h2; have B2 := Lib.hid (B1.out.trans (h2.mono B1.out.size)); clear hRs hs1 hs5 hsd hsf hsp h2)
  have OK := Lib.hid (set_ok HS1.out (by have := HS5.out; omega) HSD.out HSF.out HSP.out)
  have SM0 := sm_of (M := 5) (n := 8) HS1.out (by have := HS5.out; omega) (by omega) HSD.out HSF.out HSP.out FB.out.1 (by omega) FB.out.2
  clear k0 k1
  have HQ2 := Lib.hid (HQ1.out.step B12.out)
  obtain ⟨js, hjs⟩ : ∃ js, decS ss fs = js := ⟨_, rfl⟩
  rw [hjs] at SM0
  have SM := Lib.hid SM0
  have HJS := Lib.hid hjs
  clear SM0 hjs
  go_upto_region 4 with (first
    | (go_at_call 15; (with_reducible refine (KF.out _ B2.out).mono ?_); rintro e w3 ⟨Ar, cr, rfl, hFR, h3⟩; have KD0 := dec_row _ _ _ _ ss fs _ (RS2.out.later h3) hFR OK.out; rw [HJS.out] at KD0; have KD := Lib.hid KD0; have H3 := Lib.hid h3; have RS3 := Lib.hid (RS2.out.later h3); have B3 := Lib.hid (B2.out.trans (h3.mono B2.out.size)); clear hFR h3 KD0)
    | (go_at_call 14; (with_reducible refine KD.out.mono ?_); rintro e w4 ⟨Aj, cj, gj, rfl, hFJ, hOJ, hXJ, h4⟩; have H24 := Lib.hid (H3.out.trans (h4.mono H3.out.size)); have H34 := Lib.hid h4; have FJ := Lib.hid hFJ; have OJ := Lib.hid hOJ; have XJ := Lib.hid hXJ; have B4 := Lib.hid (B2.out.trans (H24.out.mono B2.out.size)); have RS := Lib.hid (RS2.out.later H24.out); clear hFJ hOJ hXJ h4 KD))
  clear RS2 KF KS AW FB HJS H3
  have HQ4 := Lib.hid (HQ2.out.step H24.out)
  have hj8 := SM.out.le
  have hn10 : js.length ≤ 10 := by omega
  have ht40 := SM.out.tot (by omega)
  have KN := Lib.hid (runo_nil w4 FJ.out hn10 ht40)
  have KU := Lib.hid (fun W (hb : Below w4.heap.size w4 W) => untilo_nil W (FJ.out.later hb) hn10 ht40)
  clear hn10 ht40 HQ1 HQ2
  go_upto_region 5 with (go_at_call 16; (with_reducible refine KN.out.mono ?_); rintro e w5 ⟨A5, c5, B5', d5, rfl, h5⟩; have H5 := Lib.hid h5; clear h5)
  go_upto_region 6 with (go_at_call 22; (with_reducible refine (KU.out _ H5.out).mono ?_); rintro e w6 ⟨A6, c6, B6', d6, rfl, h6⟩; have H6 := Lib.hid (bel_step H5.out h6); clear h6)
  obtain ⟨n, hn⟩ : ∃ n, js.length = n := ⟨_, rfl⟩
  have HN := Lib.hid hn
  rw [hn] at hj8
  rw [hn]
  have BF := Lib.hid (B4.out.trans (H6.out.mono B4.out.size))
  clear hn KN KU
  by_cases h0 : n = 0
  · subst h0
    go_wp2
    go_ret
    exact ⟨rfl, BF.out⟩
  · have hz : ((n : Int) == 0) = false := by
      rw [beq_eq_false_iff_ne]; omega
    have HQ6 := Lib.hid (HQ4.out.step H6.out)
    obtain ⟨p0, p1⟩ := HQ6.out
    have K8 := fun W => lrest_any x0 (n : Int) W I0.out (by omega) (by omega)
    have K9 := fun W => lrest_any x1 4 W I1.out (by omega) (by omega)
    have hb8 := emod_bd x0 (n : Int) (by omega)
    have hb9 := emod_bd x1 4 (by omega)
    obtain ⟨i, hi⟩ : ∃ i : Nat, x0 % (n : Int) = (i : Int) := ⟨(x0 % (n : Int)).toNat, by omega⟩
    obtain ⟨q, hq⟩ : ∃ q, x1 % 4 = q := ⟨_, rfl⟩
    rw [hi] at K8 hb8
    rw [hq] at K9 hb9
    have K8 := Lib.hid K8
    have K9 := Lib.hid K9
    clear hi hq
    go_upto_block 0 with (first
      | (go_at_call 21; (with_reducible refine (K8.out _).mono ?_); rintro e wx ⟨rfl, rfl⟩)
      | (go_at_call 21; (with_reducible refine (K9.out _).mono ?_); rintro e wx ⟨rfl, rfl⟩))
    have hG := OJ.out.later H6.out
    have hgl : gj.length = n := by rw [← HN.out, ← XJ.out, List.length_map]
    rw [HN.out] at hG
    obtain ⟨qb, cq, hqv, hqB, hql, hqn, hqm, hfz⟩ := own_form hG.row (by omega)
    simp only [Value.slice.injEq] at hqv
    obtain ⟨rfl, -, rfl⟩ := hqv
    obtain ⟨g, hg⟩ : ∃ g, gj[i]? = some g := ⟨gj[i]'(by omega), List.getElem?_eq_getElem _⟩
    have hgx : jb js i = g.x := jb_get (by rw [← XJ.out, List.getElem?_map, hg]; rfl)
    have hcell := hG.at_ hg
    have z0 := hcell 0 _ rfl
    have z1 := hcell 1 _ rfl
    have z2 := hcell 2 _ rfl
    have z3 := hcell 3 _ rfl
    have z4 := hcell 4 _ rfl
    rw [Nat.add_zero] at z0
    have y0 := hfz (i * 5)
    have y2 := hfz (i * 5 + 2)
    have y3 := hfz (i * 5 + 3)
    have y4 := hfz (i * 5 + 4)
    have hgo := hG.each g (List.mem_of_getElem? hg)
    have har := SM.out.arb (by omega) (i := i) (by rw [HN.out]; omega)
    have htt := SM.out.t i (by rw [HN.out]; omega)
    rw [hgx] at har htt
    have hs1 := SM.out.s1
    have hs5 := SM.out.sM
    obtain ⟨tb, tq, rfl, htb, TP⟩ := RS3.out.pin (by omega)
    have hbel := bel_step H34.out H6.out
    obtain ⟨u, hu⟩ : ∃ u : Nat, g.x.t = (u : Int) := ⟨g.x.t.toNat, by omega⟩
    rw [hu] at z0
    obtain ⟨-, b5, -⟩ := (TP.later hbel) u (by omega)
    have tks := tks_of SM.out.sf (u : Int)
    have hu0 : (0 : Int) ≤ (u : Int) := by omega
    have hu1 : (u : Int) < (ss.length : Int) := by omega
    have tmx := RS3.out.mx
    have tle := RS3.out.le
    have HU := Lib.hid hu
    have HGO := Lib.hid hgo
    have HAR := Lib.hid har
    have HTT := Lib.hid htt
    have hj0 : (0 : Int) ≤ (i : Int) := by omega
    have hj1 : (i : Int) < (n : Int) := hb8.2
    have hin : i < n := by omega
    have hnl : ((ss.length : Nat) : Int) ≤ 5 := by omega
    unfold maxLen at hqm
    clear TP hgo har htt hu hgx
    go_cut [] from 64 to 104 (fun wx => Bad ss w3 wx (some ⟨qb, 0, none⟩) cj n)
    case first =>
      rcases (by omega : q = 0 ∨ q = 1 ∨ q = 2 ∨ q = 3) with rfl | rfl | rfl | rfl
      · skip
        have st := hG.setI (g' := ⟨{ g.x with k := 0 }, g.A, g.cap⟩) hg 3 (by omega) (.int .i64 0) rfl ⟨⟨HGO.out.wf.t, HGO.out.wf.a, HGO.out.wf.r, by unfold in64; simp⟩, HGO.out.s, HGO.out.safe⟩
        have BD := Lib.hid (bad_of (ss := ss) (i := i) st (by rw [List.map_set, XJ.out]) HN.out (by omega) (by omega) (fun x hx => (SM.out.ar (by omega) x hx).2.2.2.2.2) (by simp) ((bel_step H34.out H6.out).setCell (p := ⟨qb, i * 5 + 3, none⟩) hqB _) (fun h => by have := h.k0; simp at this))
        have OJh := Lib.hid hG
        clear st hG hcell
        go_wp2
        go_meet
        exact BD.out
      · skip
        have st := hG.setI (g' := ⟨{ g.x with t := (ss.length : Int) }, g.A, g.cap⟩) hg 0 (by omega) (.int .i64 (ss.length : Int)) rfl ⟨⟨by unfold in64; simp only; omega, HGO.out.wf.a, HGO.out.wf.r, HGO.out.wf.k⟩, HGO.out.s, HGO.out.safe⟩
        have BD := Lib.hid (bad_of (ss := ss) (i := i) st (by rw [List.map_set, XJ.out]) HN.out (by omega) (by omega) (fun x hx => (SM.out.ar (by omega) x hx).2.2.2.2.2) (by have := HAR.out; simp only; omega) ((bel_step H34.out H6.out).setCell (p := ⟨qb, i * 5 + 0, none⟩) hqB _) (fun h => by have := h.t1; simp at this))
        have OJh := Lib.hid hG
        clear st hG hcell
        go_wp2
        go_meet
        exact BD.out
      · have hw : IntKind.i64.wrap (g.x.a - 1) = g.x.a - 1 := IntWalk.i64_in _ (by have := HAR.out; omega)
        have st := hG.setI (g' := ⟨{ g.x with r := g.x.a - 1 }, g.A, g.cap⟩) hg 2 (by omega) (.int .i64 (g.x.a - 1)) rfl ⟨⟨HGO.out.wf.t, HGO.out.wf.a, by unfold in64; simp only; have := HAR.out; omega, HGO.out.wf.k⟩, HGO.out.s, HGO.out.safe⟩
        have BD := Lib.hid (bad_of (ss := ss) (i := i) st (by rw [List.map_set, XJ.out]) HN.out (by omega) (by omega) (fun x hx => (SM.out.ar (by omega) x hx).2.2.2.2.2) (by have := HAR.out; simp only; omega) ((bel_step H34.out H6.out).setCell (p := ⟨qb, i * 5 + 2, none⟩) hqB _) (fun h => by have := h.r0; simp only at this; omega))
        have OJh := Lib.hid hG
        clear st hG hcell
        go_wp2
        go_meet
        exact BD.out
      · have hw : IntKind.i64.wrap ((tk ss (u : Int)).q + 1) = (tk ss (u : Int)).q + 1 := IntWalk.i64_in _ (by have := tks.c1; have := tks.q1; have := tks.q0; omega)
        obtain ⟨qq, hqq⟩ : ∃ qq, (tk ss (u : Int)).q = qq := ⟨_, rfl⟩
        rw [hqq] at hw b5
        have b7 : Below w6.heap.size w6 (w6.alloc (.cells #[.int .i64 (qq + 1)] T64)) := (Below.refl _ _).alloc (Nat.le_refl _) _
        have hG7 := hG.later b7
        have hc7 := cell_of_row _ _ 0 _ _ _ (heap_alloc_new w6 (.cells #[.int .i64 (qq + 1)] T64))
        have hg7 := hG7.each g (List.mem_of_getElem? hg)
        have hqb : in64 (qq + 1) := by rw [← hqq]; have := tks.c1; have := tks.q1; have := tks.q0; unfold in64; omega
        have C7 : CRow (w6.alloc (.cells #[.int .i64 (qq + 1)] T64)) (some ⟨w6.heap.size, 0, none⟩) 1 [qq + 1] := ⟨by simp, by omega, fun x hx => by rw [List.mem_singleton.1 hx]; exact hqb, fun k x hx => ⟨_, 0, rfl, by
          have hk := (List.getElem?_eq_some_iff.1 hx).1
          obtain rfl : k = 0 := by simpa using hk
          obtain rfl : qq + 1 = x := by simpa using hx
          exact hc7⟩⟩
        have st := hG7.setI (g' := ⟨{ g.x with c := [qq + 1] }, some ⟨w6.heap.size, 0, none⟩, 1⟩) hg 4 (by omega) (.slice (some ⟨w6.heap.size, 0, none⟩) 1 1) rfl ⟨⟨hg7.wf.t, hg7.wf.a, hg7.wf.r, hg7.wf.k⟩, C7, fun _ a ha => .inr (by
          simp only [Option.some.injEq] at ha
          subst ha
          exact ⟨_, _, _, heap_alloc_new w6 _, by decide⟩)⟩
        have bd := bad_of (ss := ss) (i := i) st (by rw [List.map_set, XJ.out]) HN.out (by omega) (by omega) (fun x hx => (SM.out.ar (by omega) x hx).2.2.2.2.2) (by have := HAR.out; simp only; omega) ((bel_step hbel b7).setCell (p := ⟨qb, i * 5 + 4, none⟩) hqB _) (fun h => by have := h.q (qq + 1) (by simp); simp only [HU.out, hqq] at this; omega)
        rw [World.setCell_alloc_past _ _ _ _ hql] at bd
        have BD := Lib.hid bd
        have OJh := Lib.hid hG
        clear st hG hcell b7 hG7 hc7 hg7 hqb C7 bd hqq tks
        go_wp2
        go_meet
        exact BD.out
    case rest =>
      obtain ⟨⟨js2, F2, hl2, hs2, hb2⟩, hbl⟩ := hcut
      have KX := Lib.hid (runo_bad wc (RS3.out.later hbl) F2 SM.out.di (by omega) hl2 (by omega) hs2 hb2)
      have KY := Lib.hid (fun W (hb : Below wc.heap.size wc W) => untilo_bad W ((RS3.out.later hbl).later hb) (F2.later hb) SM.out.di (by omega) hl2 (by omega) hs2 hb2)
      have BL := Lib.hid hbl
      clear F2 hl2 hs2 hb2 hbl hG hcell hbel z0 z1 z2 z3 z4 y0 y2 y3 y4 b5
      go_wp2_with (first
        | (go_at_call 16; (with_reducible refine KX.out.mono ?_); rintro e w8 ⟨A8, c8, B8, d8, rfl, h8⟩; have H8 := Lib.hid h8; clear h8)
        | (go_at_call 22; (with_reducible refine (KY.out _ H8.out).mono ?_); rintro e w9 ⟨A9, c9, B9, d9, rfl, h9⟩; have H9 := Lib.hid (bel_step H8.out h9); clear h9))
      go_ret
      exact ⟨rfl, B3.out.trans ((bel_step BL.out H9.out).mono B3.out.size)⟩
end Go.Proofs.YtkpackbbahodcaaGreat
