/- Texts about the program, one after the other: ERr, EGot, KFit. -/
import Derived.Test.YtngmaiiibinkaaaGreatG16
import Derived.Test.YtngmaiiibinkaaaGreatG7
import Derived.Test.YtngmaiiibinkaaaGreatG9
import Derived.Test.YtngmaiiibinkaaaGreatG15
/- The document's run without an end. -/
namespace Go.Proofs.YtngmaiiibinkaaaGreat
open Go.RowKit
set_option linter.unusedVariables false
set_option linter.unusedSimpArgs false
attribute [local go_sem ↓] Go.wp_at_zero Go.wp_at_succ
theorem RuH.later {w w' : World} {A R : Option Addr} {cap rc : Nat} {ts : List Ts} {js : List Fv} (h : RuH w A R cap rc ts js) (hb : Below w.heap.size w w') : RuH w' A R cap rc ts js :=
  ⟨h.row.later hb, h.jobs.later hb, h.lg, h.t0, h.bd, h.ft, h.fj, h.tot⟩
set_option maxRecDepth 100000 in
set_option maxHeartbeats 8000000 in
theorem rrun_good {A R : Option Addr} {cap rc : Nat} {ts : List Ts} {js : List Fv} (w : World) (H : RuH w A R cap rc ts js) (hl : legS ts js = true) :
    Calls Tryz.prog 19 #[.slice A ts.length cap, .slice R js.length rc] w (RuP ts js 9223372036854775807 w) := by
  obtain ⟨W1, hW1, box0, B0⟩ : ∃ W1, w.alloc (.cells #[.slice none 0 0, .slice none 0 0, .slice none 0 0] TGo) = W1 ∧ W1.heap[w.heap.size]? = some (.cells #[.slice none 0 0, .slice none 0 0, .slice none 0 0] TGo (0, 0)) ∧ Below w.heap.size w W1 := ⟨_, rfl, heap_alloc_new w _, (Below.refl _ _).alloc (Nat.le_refl _) _⟩
  have H1 := Lib.hid (H.later B0)
  have LG := Lib.hid (rlegal_any A R cap rc ts js W1 H1.out.row H1.out.jobs)
  rw [hl] at LG
  have BX := Lib.hid box0
  have HB0 := Lib.hid B0
  clear H hl box0 B0
  go_enter Tryz.func19, Tryz.ntmps19
  go_upto_region 1 with (fail)
  try rw [hW1]
  clear hW1
  go_wp2_with (first
    | (go_at_call 32; (with_reducible refine LG.out.mono ?_); rintro e w2 ⟨rfl, h2⟩; have B2 := Lib.hid h2; have UN := Lib.hid (runtil_any (en := -1) (T := 9223372036854775807) w2 (H1.out.later h2) (.inr ⟨by decide, by decide, rfl⟩)); clear h2)
    | (go_at_call 33; (with_reducible refine UN.out.mono ?_); rintro e w3 ⟨vs, ge, gd, rfl, h3, h4, h5⟩
       obtain ⟨VA, vcp, rfl, -, -⟩ := own_len h3
       have hs0 := HB0.out.size
       have hs2 := B2.out.size
       have bx3 := (KT.of (S := []) h5).blk _ _ _ ((KT.of (S := []) B2.out).blk _ _ _ BX.out (by simp)) (by simp)
       have z0 := cell_of_row _ w.heap.size 0 _ _ _ bx3
       have z1 := cell_of_row _ w.heap.size 1 _ _ _ bx3
       have z2 := cell_of_row _ w.heap.size 2 _ _ _ bx3
       simp only [List.getElem?_toArray, List.getElem?_cons_zero, List.getElem?_cons_succ] at z0 z1 z2
       have f0 := frozen_of_row _ w.heap.size 0 _ _ bx3
       have f1 := frozen_of_row _ w.heap.size 1 _ _ bx3
       have f2 := frozen_of_row _ w.heap.size 2 _ _ bx3
       have B3 := Lib.hid ((HB0.out.trans (B2.out.mono hs0)).trans (h5.mono (by omega)))
       have S3 := Lib.hid (own_mono h3 (show w.heap.size ≤ w2.heap.size by omega))
       have E3 := Lib.hid (own_mono h4 (show w.heap.size ≤ w2.heap.size by omega))
       have e1 := heap_setCell_same _ _ 0 _ _ (.slice VA (tst ts js 9223372036854775807).sp.length vcp) bx3
       have e2 := heap_setCell_same _ _ 1 _ _ (.slice (some ⟨ge, 0, none⟩) js.length js.length) e1
       have e3 := Lib.hid (heap_setCell_same _ _ 2 _ _ (.slice (some ⟨gd, 0, none⟩) js.length js.length) e2)
       have k := Lib.hid (((KT.set (i := 0) (v := .slice VA (tst ts js 9223372036854775807).sp.length vcp) bx3 (S := [TGo]) (by simp)).trans (KT.set (i := 1) (v := .slice (some ⟨ge, 0, none⟩) js.length js.length) e1 (by simp))).trans (KT.set (i := 2) (v := .slice (some ⟨gd, 0, none⟩) js.length js.length) e2 (by simp)))
       clear h3 h4 h5 bx3 e1 e2))
  (try simp only [Exit.inBlock, Exit.then])
  exact bodyPost_ret (v := .agg #[.slice VA (tst ts js 9223372036854775807).sp.length vcp, .slice (some ⟨ge, 0, none⟩) js.length js.length, .slice (some ⟨gd, 0, none⟩) js.length js.length]) (results_got10 rfl _ _ _ rfl e3.out) rfl (by
    unfold RuP RuQ
    exact ⟨_, ge, gd, rfl, k.out.row S3.out (by decide), k.out.row E3.out (by decide), ((B3.out.setCell (p := ⟨w.heap.size, 0, none⟩) (Nat.le_refl _) _).setCell (p := ⟨w.heap.size, 1, none⟩) (Nat.le_refl _) _).setCell (p := ⟨w.heap.size, 2, none⟩) (Nat.le_refl _) _⟩)
end Go.Proofs.YtngmaiiibinkaaaGreat
/- The document's run, as the laws call it. -/
namespace Go.Proofs.YtngmaiiibinkaaaGreat
open Go.RowKit
set_option linter.unusedVariables false
set_option linter.unusedSimpArgs false
section
variable {ss : List Ts} {js : List Fv} {M n : Nat} {A R : Option Addr} {cap rc : Nat}
theorem ruh_sm (h : Sm ss js M n) (hn : n ≤ 10) (w : World) (hT : Row w A cap ss) (hR : FRow w R rc js) : RuH w A R cap rc ss js :=
  ⟨hT, hR, h.lgs, h.t, fun i hi => by have := h.arb hn hi; omega, by have := h.sM; have := h.M8; omega, by have := h.le; omega, by have := h.tot hn; omega⟩
/-- The document's spans, and ends. -/
def GotJ (sp : List Spn) (en : List Int) (w : World) (e : Ending) (w' : World) : Prop := ∃ A c B d D, e = .returned (.agg #[.slice A sp.length c, .slice B en.length d, .slice D en.length en.length]) ∧ SpR w' A c sp ∧ CRow w' B d en ∧ Below w.heap.size w w'
theorem rup_got (hl : Lg js) {T : Nat} (hT : T ≤ 9223372036854775807) (w : World) (e : Ending) (w' : World) (h : RuP ss js T w e w') : GotJ (tst ss js T).sp (tst ss js T).en w e w' := by
  obtain ⟨vs, ge, gd, rfl, h1, h2, h3⟩ := h
  obtain ⟨A, c, rfl, F⟩ := spr_own h1
  have hle := (ti_all (ts := ss) hl T).le
  obtain ⟨B, d, hv, hn, G, _⟩ := crow_own h2 (en_bd hl hT)
  simp only [Value.slice.injEq] at hv
  obtain ⟨rfl, _, rfl⟩ := hv
  exact ⟨A, c, _, _, _, by rw [hle], F, G, h3⟩
theorem rrun_sm (h : Sm ss js M n) (hn : n ≤ 10) (w : World) (hT : Row w A cap ss) (hR : FRow w R rc js) : Calls Tryz.prog 19 #[.slice A ss.length cap, .slice R js.length rc] w (GotJ (tst ss js 9223372036854775807).sp (tst ss js 9223372036854775807).en w) :=
  (rrun_good w (ruh_sm h hn w hT hR) h.lg).mono (rup_got h.lgs (Nat.le_refl _) w)
theorem runtil_sm (h : Sm ss js M n) (hn : n ≤ 10) (en : Int) (h0 : 0 ≤ en) (he : en ≤ 9000000000000000000) (w : World) (hT : Row w A cap ss) (hR : FRow w R rc js) : Calls Tryz.prog 33 #[.slice A ss.length cap, .slice R js.length rc, .int .i64 en] w (GotJ (tst ss js en.toNat).sp (tst ss js en.toNat).en w) :=
  (runtil_any w (ruh_sm h hn w hT hR) (.inl ⟨h0, rfl, he⟩)).mono (rup_got h.lgs (by omega) w)
end
end Go.Proofs.YtngmaiiibinkaaaGreat
/- slices.Equal of spans, the document's Same, Fits. -/
namespace Go.Proofs.YtngmaiiibinkaaaGreat
open Go.RowKit Go.Shelf
set_option linter.unusedVariables false
set_option linter.unusedSimpArgs false
attribute [local go_sem ↓] Go.wp_at_zero Go.wp_at_succ
theorem sq_ne {x y : Sq} : x = y ↔ x.j = y.j ∧ x.f = y.f ∧ x.t = y.t := by
  cases x; cases y; simp
theorem take_eq {l l' : List Sq} {k : Nat} {x y : Sq} (h : l.take k = l'.take k) (hx : l[k]? = some x) (hy : l'[k]? = some y) (he : x = y) : l.take (k + 1) = l'.take (k + 1) := by
  rw [List.take_add_one, List.take_add_one, hx, hy, h, he]
set_option maxRecDepth 100000 in
set_option maxHeartbeats 4000000 in
theorem equalS_any {A A' : Option Addr} {cap cap' : Nat} {l l' : List Sq} (w : World) (h1 : SqR w A cap l) (h2 : SqR w A' cap' l') :
    Calls Tryz.prog 35 #[.slice A l.length cap, .slice A' l'.length cap'] w (Told (.bool (decide (l = l'))) w) := by
  obtain ⟨n, hn⟩ : ∃ n, l.length = n := ⟨_, rfl⟩
  obtain ⟨m, hm⟩ : ∃ m, l'.length = m := ⟨_, rfl⟩
  rw [hn, hm]
  have hmx := h1.mx
  have hle := h1.le
  have hmx' := h2.mx
  have hle' := h2.le
  rw [hn] at hle
  rw [hm] at hle'
  by_cases hnm : n = m
  · subst hnm
    have t0 : ((n : Int) != (n : Int)) = false := by simp
    have H1 := Lib.hid h1
    have H2 := Lib.hid h2
    have HN := Lib.hid hn
    have HM := Lib.hid hm
    have PT := Lib.hid (fun (b : Bool) (hb : decide (l = l') = b) wr (hB : Below w.heap.size w wr) => show Told (.bool (decide (l = l'))) w (.returned (.bool b)) wr from ⟨by rw [hb], hB⟩)
    clear h1 h2 hn hm
    generalize hPo : Told (.bool (decide (l = l'))) w = Post at *
    clear hPo
    go_enter Tryz.func35, Tryz.ntmps35
    go_wp2
    go_loopw [13] (fun i wr => ∃ k : Nat, k ≤ n ∧ i = .int .i64 (k : Int) ∧ Hid (l.take k = l'.take k) ∧ Hid (Below w.heap.size w wr)) (fun i _ => n - (intOf i).toNat)
    case atStart => exact ⟨0, Nat.zero_le _, rfl, Lib.hid rfl, Lib.hid (Below.refl _ _)⟩
    case round =>
      obtain ⟨k, hk, rfl, hT, hB⟩ := hrel
      by_cases hlt : k < n
      · obtain ⟨b, o, x, rfl, hx, hbl, a0, a1, a2⟩ := (H1.out.later hB.out).get (k := k) (by rw [HN.out]; exact hlt)
        obtain ⟨b', o', x', rfl, hx', hbl', c0, c1, c2⟩ := (H2.out.later hB.out).get (k := k) (by rw [HM.out]; exact hlt)
        have hi0 : (0 : Int) ≤ (k : Int) := by omega
        have hi1 : (k : Int) < (n : Int) := by omega
        have HX := Lib.hid hx
        have HX' := Lib.hid hx'
        clear hx hx'
        obtain ⟨xj, xf, xt⟩ := x
        obtain ⟨yj, yf, yt⟩ := x'
        simp only at a0 a1 a2 c0 c1 c2
        by_cases e0 : xj = yj
        · subst e0
          by_cases e1 : xf = yf
          · subst e1
            by_cases e2 : xt = yt
            · subst e2
              have HT2 := Lib.hid (take_eq hT.out HX.out HX'.out rfl)
              go_upto_region 6 with (fail)
              go_quiet (fail)
              go_wp2
              go_roundw
              case rel => exact ⟨k + 1, by omega, by go_num, HT2, Lib.hid (hB.out.trans ((below_drewN2 wr _).mono hB.out.size))⟩
              case measure => simp [intOf]; omega
            · have HXN : Hid (¬ (⟨xj, xf, xt⟩ : Sq) = ⟨xj, xf, yt⟩) := Lib.hid (by simpa using e2)
              have t1 : (xt == yt) = false := by simpa using e2
              clear e2
              have hne : decide (l = l') = false := decide_eq_false (fun e => by
                subst e
                have h1 := HX.out
                rw [HX'.out] at h1
                simp only [Option.some.injEq] at h1
                exact HXN.out h1.symm)
              have HP := Lib.hid (PT.out false hne)
              clear hne
              go_upto_region 6 with (fail)
              go_quiet (fail)
              go_wp2
              exact HP.out _ (hB.out.trans ((below_drewN2 wr _).mono hB.out.size))
          · have HXN : Hid (¬ (⟨xj, xf, xt⟩ : Sq) = ⟨xj, yf, yt⟩) := Lib.hid (by intro h; simp only [Sq.mk.injEq] at h; exact e1 h.2.1)
            have t1 : (xf == yf) = false := by simpa using e1
            clear e1
            have hne : decide (l = l') = false := decide_eq_false (fun e => by
              subst e
              have h1 := HX.out
              rw [HX'.out] at h1
              simp only [Option.some.injEq] at h1
              exact HXN.out h1.symm)
            have HP := Lib.hid (PT.out false hne)
            clear hne
            go_upto_region 6 with (fail)
            go_quiet (fail)
            go_wp2
            exact HP.out _ (hB.out.trans ((below_drewN2 wr _).mono hB.out.size))
        · have HXN : Hid (¬ (⟨xj, xf, xt⟩ : Sq) = ⟨yj, yf, yt⟩) := Lib.hid (by intro h; simp only [Sq.mk.injEq] at h; exact e0 h.1)
          have t1 : (xj == yj) = false := by simpa using e0
          clear e0
          have hne : decide (l = l') = false := decide_eq_false (fun e => by
            subst e
            have h1 := HX.out
            rw [HX'.out] at h1
            simp only [Option.some.injEq] at h1
            exact HXN.out h1.symm)
          have HP := Lib.hid (PT.out false hne)
          clear hne
          go_upto_region 6 with (fail)
          go_quiet (fail)
          go_wp2
          exact HP.out _ (hB.out.trans ((below_drewN2 wr _).mono hB.out.size))
      · obtain rfl : n = k := by omega
        have he : decide (l = l') = true := decide_eq_true (by
          have := hT.out
          rwa [List.take_of_length_le (by rw [HN.out]; exact Nat.le_refl _), List.take_of_length_le (by rw [HM.out]; exact Nat.le_refl _)] at this)
        have HP := PT.out true he _ hB.out
        clear he
        go_wp2
        exact HP
  · have he : decide (l = l') = false := decide_eq_false (fun e => hnm (by rw [← hn, ← hm, e]))
    rw [he]
    have t0 : ((n : Int) != (m : Int)) = true := by simp; omega
    clear he h1 h2 hn hm hnm
    go_enter Tryz.func35, Tryz.ntmps35
    go_wp2
    go_ret
    exact ⟨rfl, Below.refl _ _⟩
set_option maxRecDepth 100000 in
set_option maxHeartbeats 4000000 in
theorem rsameQ_any {A A' : Option Addr} {cap cap' : Nat} {l l' : List Sq} (w : World) (h1 : SqR w A cap l) (h2 : SqR w A' cap' l') :
    Calls Tryz.prog 36 #[.slice A l.length cap, .slice A' l'.length cap'] w (Told (.bool (decide (l = l'))) w) := by
  obtain ⟨n, hn⟩ : ∃ n, l.length = n := ⟨_, rfl⟩
  obtain ⟨m, hm⟩ : ∃ m, l'.length = m := ⟨_, rfl⟩
  rw [hn, hm]
  have hmx := h1.mx
  have hle := h1.le
  have hmx' := h2.mx
  have hle' := h2.le
  rw [hn] at hle
  rw [hm] at hle'
  by_cases hnm : n = m
  · subst hnm
    have t0 : ((n : Int) != (n : Int)) = false := by simp
    have H1 := Lib.hid h1
    have H2 := Lib.hid h2
    have HN := Lib.hid hn
    have HM := Lib.hid hm
    have PT := Lib.hid (fun (b : Bool) (hb : decide (l = l') = b) wr (hB : Below w.heap.size w wr) => show Told (.bool (decide (l = l'))) w (.returned (.bool b)) wr from ⟨by rw [hb], hB⟩)
    clear h1 h2 hn hm
    generalize hPo : Told (.bool (decide (l = l'))) w = Post at *
    clear hPo
    go_enter Tryz.func36, Tryz.ntmps36
    go_wp2
    go_loopw [5] (fun i wr => ∃ k : Nat, k ≤ n ∧ i = .int .i64 (k : Int) ∧ Hid (l.take k = l'.take k) ∧ Hid (Below w.heap.size w wr)) (fun i _ => n - (intOf i).toNat)
    case atStart => exact ⟨0, Nat.zero_le _, rfl, Lib.hid rfl, Lib.hid (Below.refl _ _)⟩
    case round =>
      obtain ⟨k, hk, rfl, hT, hB⟩ := hrel
      by_cases hlt : k < n
      · obtain ⟨b, o, x, rfl, hx, hbl, a0, a1, a2⟩ := (H1.out.later hB.out).get (k := k) (by rw [HN.out]; exact hlt)
        obtain ⟨b', o', x', rfl, hx', hbl', c0, c1, c2⟩ := (H2.out.later hB.out).get (k := k) (by rw [HM.out]; exact hlt)
        have hi0 : (0 : Int) ≤ (k : Int) := by omega
        have hi1 : (k : Int) < (n : Int) := by omega
        have HX := Lib.hid hx
        have HX' := Lib.hid hx'
        clear hx hx'
        obtain ⟨xj, xf, xt⟩ := x
        obtain ⟨yj, yf, yt⟩ := x'
        simp only at a0 a1 a2 c0 c1 c2
        by_cases e0 : xj = yj
        · subst e0
          by_cases e1 : xf = yf
          · subst e1
            by_cases e2 : xt = yt
            · subst e2
              have HT2 := Lib.hid (take_eq hT.out HX.out HX'.out rfl)
              go_upto_region 6 with (fail)
              go_quiet (fail)
              go_wp2
              go_roundw
              case rel => exact ⟨k + 1, by omega, by go_num, HT2, Lib.hid (hB.out.trans ((below_drewN2 wr _).mono hB.out.size))⟩
              case measure => simp [intOf]; omega
            · have HXN : Hid (¬ (⟨xj, xf, xt⟩ : Sq) = ⟨xj, xf, yt⟩) := Lib.hid (by simpa using e2)
              have t1 : (xt == yt) = false := by simpa using e2
              clear e2
              have hne : decide (l = l') = false := decide_eq_false (fun e => by
                subst e
                have h1 := HX.out
                rw [HX'.out] at h1
                simp only [Option.some.injEq] at h1
                exact HXN.out h1.symm)
              have HP := Lib.hid (PT.out false hne)
              clear hne
              go_upto_region 6 with (fail)
              go_quiet (fail)
              go_wp2
              exact HP.out _ (hB.out.trans ((below_drewN2 wr _).mono hB.out.size))
          · have HXN : Hid (¬ (⟨xj, xf, xt⟩ : Sq) = ⟨xj, yf, yt⟩) := Lib.hid (by intro h; simp only [Sq.mk.injEq] at h; exact e1 h.2.1)
            have t1 : (xf == yf) = false := by simpa using e1
            clear e1
            have hne : decide (l = l') = false := decide_eq_false (fun e => by
              subst e
              have h1 := HX.out
              rw [HX'.out] at h1
              simp only [Option.some.injEq] at h1
              exact HXN.out h1.symm)
            have HP := Lib.hid (PT.out false hne)
            clear hne
            go_upto_region 6 with (fail)
            go_quiet (fail)
            go_wp2
            exact HP.out _ (hB.out.trans ((below_drewN2 wr _).mono hB.out.size))
        · have HXN : Hid (¬ (⟨xj, xf, xt⟩ : Sq) = ⟨yj, yf, yt⟩) := Lib.hid (by intro h; simp only [Sq.mk.injEq] at h; exact e0 h.1)
          have t1 : (xj == yj) = false := by simpa using e0
          clear e0
          have hne : decide (l = l') = false := decide_eq_false (fun e => by
            subst e
            have h1 := HX.out
            rw [HX'.out] at h1
            simp only [Option.some.injEq] at h1
            exact HXN.out h1.symm)
          have HP := Lib.hid (PT.out false hne)
          clear hne
          go_upto_region 6 with (fail)
          go_quiet (fail)
          go_wp2
          exact HP.out _ (hB.out.trans ((below_drewN2 wr _).mono hB.out.size))
      · obtain rfl : n = k := by omega
        have he : decide (l = l') = true := decide_eq_true (by
          have := hT.out
          rwa [List.take_of_length_le (by rw [HN.out]; exact Nat.le_refl _), List.take_of_length_le (by rw [HM.out]; exact Nat.le_refl _)] at this)
        have HP := PT.out true he _ hB.out
        clear he
        go_wp2
        exact HP
  · have he : decide (l = l') = false := decide_eq_false (fun e => hnm (by rw [← hn, ← hm, e]))
    rw [he]
    have t0 : ((n : Int) != (m : Int)) = true := by simp; omega
    clear he h1 h2 hn hm hnm
    go_enter Tryz.func36, Tryz.ntmps36
    go_wp2
    go_ret
    exact ⟨rfl, Below.refl _ _⟩
set_option maxRecDepth 100000 in
set_option maxHeartbeats 4000000 in
theorem fits_any {ss : List Ts} {js : List Fv} {M n : Nat} {A R B : Option Addr} {cap rc bc : Nat} {l : List Sq} {sp : List Spn} (h : Sm ss js M n) (hn : n ≤ 10) (hsp : (tst ss js 9223372036854775807).sp = sp) (w : World) (hT : Row w A cap ss) (hR : FRow w R rc js) (hS : SqR w B bc l) :
    Calls Tryz.prog 20 #[.slice A ss.length cap, .slice R js.length rc, .slice B l.length bc] w (Told (.bool (decide (l = sp.map toQ))) w) := by
  have KL0 := legal_any A R cap rc ss js w hT hR
  rw [h.lg] at KL0
  have KL := Lib.hid KL0
  have KR0 := fun W (hb : Below w.heap.size w W) => run_sm h hn W (hT.later hb) (hR.later hb)
  have TF := Lib.hid (trf_sm h hn)
  obtain ⟨es, hes⟩ : ∃ es, (tst ss js 9223372036854775807).en = es := ⟨_, rfl⟩
  rw [hsp, hes] at KR0 TF
  have KR := Lib.hid KR0
  have HS := Lib.hid hS
  have HSM := Lib.hid h
  have HNN := Lib.hid hn
  clear KL0 KR0 hT hR hS h hn hsp hes
  go_enter Tryz.func20, Tryz.ntmps20
  go_upto_region 3 with (go_at_call 34; (with_reducible refine KL.out.mono ?_); rintro e w1 ⟨rfl, h1⟩; have HB1 := Lib.hid h1; clear h1)
  go_upto_region 4 with (go_at_call 11; (with_reducible refine (KR.out _ HB1.out).mono ?_); rintro e w2 ⟨A1, c1, B1, d1, rfl, hS1, hE1, h2⟩; have HS1 := Lib.hid hS1; have HB2 := Lib.hid (bel_step HB1.out h2); clear hS1 hE1 h2)
  have KE0 := equalS_any w2 (HS.out.later HB2.out) (TF.out.row HSM.out HNN.out HS1.out)
  rw [List.length_map] at KE0
  have KE := Lib.hid KE0
  clear KE0
  generalize decide (l = sp.map toQ) = b at *
  go_wp2_with (go_at_call 35; (with_reducible refine KE.out.mono ?_); rintro e w3 ⟨rfl, h3⟩)
  go_ret
  exact ⟨rfl, bel_step HB2.out h3⟩
set_option maxRecDepth 100000 in
set_option maxHeartbeats 4000000 in
theorem fits_nil {js : List Fv} {R B : Option Addr} {rc bc n m : Nat} (w : World) (hR : FRow w R rc js) (hn : js.length = n) :
    Calls Tryz.prog 20 #[.slice none 0 0, .slice R n rc, .slice B m bc] w (Told (.bool false) w) := by
  have KL0 := legal_any none R 0 rc [] js w ⟨by simp, by omega, by simp, by simp⟩ hR
  rw [legS_nil, hn] at KL0
  have KL0 : Calls Tryz.prog 34 #[.slice none 0 0, .slice R n rc] w fun e w' => e = .returned (.bool false) ∧ Below w.heap.size w w' := KL0
  have KL := Lib.hid KL0
  clear KL0 hR hn
  go_enter Tryz.func20, Tryz.ntmps20
  go_wp2_with (go_at_call 34; (with_reducible refine KL.out.mono ?_); rintro e w1 ⟨rfl, h1⟩)
  go_ret
  exact ⟨rfl, h1⟩
set_option maxRecDepth 100000 in
theorem fld_got (A1 A2 A3 : Option Addr) (n1 c1 n2 c2 n3 c3 : Nat) (W : World) : (Instr.field TGo (.agg #[.slice A1 n1 c1, .slice A2 n2 c2, .slice A3 n3 c3]) 0).run Tryz.prog W = .ok (.slice A1 n1 c1) W := by rfl
set_option maxRecDepth 100000 in
set_option maxHeartbeats 4000000 in
theorem rfits_any {ss : List Ts} {js : List Fv} {M n : Nat} {A R B : Option Addr} {cap rc bc : Nat} {l : List Sq} {sp : List Spn} (h : Sm ss js M n) (hn : n ≤ 10) (hsp : (tst ss js 9223372036854775807).sp = sp) (w : World) (hT : Row w A cap ss) (hR : FRow w R rc js) (hS : SqR w B bc l) :
    Calls Tryz.prog 21 #[.slice A ss.length cap, .slice R js.length rc, .slice B l.length bc] w (Told (.bool (decide (l = sp.map toQ))) w) := by
  have KL0 := rlegal_any A R cap rc ss js w hT hR
  rw [h.lg] at KL0
  have KL := Lib.hid KL0
  have KR0 := fun W (hb : Below w.heap.size w W) => rrun_sm h hn W (hT.later hb) (hR.later hb)
  have TF := Lib.hid (trf_sm h hn)
  obtain ⟨es, hes⟩ : ∃ es, (tst ss js 9223372036854775807).en = es := ⟨_, rfl⟩
  rw [hsp, hes] at KR0 TF
  have KR := Lib.hid KR0
  have HS := Lib.hid hS
  have HSM := Lib.hid h
  have HNN := Lib.hid hn
  clear KL0 KR0 hT hR hS h hn hsp hes
  go_enter Tryz.func21, Tryz.ntmps21
  go_upto_region 4 with (go_at_call 32; (with_reducible refine KL.out.mono ?_); rintro e w1 ⟨rfl, h1⟩; have HB1 := Lib.hid h1; clear h1)
  have KE := Lib.hid (fun A c W (hb : Below w.heap.size w W) (hr : SpR W A c sp) => rsameQ_any W (TF.out.row HSM.out HNN.out hr) (HS.out.later hb))
  have e : decide (sp.map toQ = l) = decide (l = sp.map toQ) := by
    by_cases h : l = sp.map toQ
    · rw [decide_eq_true h, decide_eq_true h.symm]
    · rw [decide_eq_false h, decide_eq_false (fun q => h q.symm)]
  rw [e, List.length_map] at KE
  clear e
  generalize decide (l = sp.map toQ) = b at *
  have hfl := fld_got
  go_wp2_with (first
    | (go_at_call 19; (with_reducible refine (KR.out _ HB1.out).mono ?_); rintro e w2 ⟨A1, c1, B1, d1, D1, rfl, hS1, hE1, h2⟩; have HB2 := Lib.hid (bel_step HB1.out h2); have HS1 := Lib.hid hS1; clear hS1 hE1 h2)
    | (go_at_call 36; (with_reducible refine (KE.out _ _ _ HB2.out HS1.out).mono ?_); rintro e w3 ⟨rfl, h3⟩))
  go_ret
  exact ⟨rfl, bel_step HB2.out h3⟩
end Go.Proofs.YtngmaiiibinkaaaGreat
