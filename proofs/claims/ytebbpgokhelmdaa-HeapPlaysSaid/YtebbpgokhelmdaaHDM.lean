/- A thing goes down. -/
import Derived.Test.YtebbpgokhelmdaaHCM
namespace Go.Proofs.Ytebbpgokhelmdaa
open Go.RowKit
set_option linter.unusedVariables false
set_option linter.unusedSimpArgs false
attribute [local go_sem ↓] Go.wp_at_zero Go.wp_at_succ

set_option maxRecDepth 100000 in
set_option maxHeartbeats 4000000 in
theorem sinkM {B : Nat} {b c g n cap : Nat} {l : List (It × Nat)} (w : World) (h : HBM B w b (.slice (some ⟨g, 0, none⟩) n cap) c l) (hn : l.length = n) (hD : Dn keyM l 0) (hmx : n ≤ 1000000) :
    Calls Try.prog 42 #[.pointer (some ⟨b, 0, none⟩), .slice (some ⟨g, 0, none⟩) n cap] w (RisePostM B b c g (.slice (some ⟨g, 0, none⟩) n cap) l w) := by
  have HH := Lib.hid h
  have HD := Lib.hid hD
  have HN := Lib.hid hn
  clear h hD hn
  go_enter Try.func42, Try.ntmps42
  go_wp2
  go_step3
  go_wp2
  go_step3
  go_wp2
  go_loopg [4] (n + 1) (fun m a wr => ∃ (k : Nat) (l' : List (It × Nat)), (k < n ∨ k = 0) ∧ a = .int .i64 k ∧ n + 1 ≤ m + k ∧ Hid (l'.Perm l) ∧ Hid (Dn keyM l' k) ∧ Hid (HBM B wr b (.slice (some ⟨g, 0, none⟩) n cap) c l') ∧ Hid (Kept [g] w wr))
  case atStart => exact ⟨0, l, .inr rfl, rfl, by omega, Lib.hid (List.Perm.refl _), HD, HH, Lib.hid (Kept.refl _ _)⟩
  case round =>
    obtain ⟨k, l', hk, rfl, hm, hP, hD, hH, hK⟩ := hrel
    have hln : l'.length = n := by rw [hP.out.length_eq, HN.out]
    have HLN := Lib.hid hln
    clear hln
    obtain ⟨a, ha⟩ : ∃ a, 2 * k + 1 = a := ⟨_, rfl⟩
    have haI : 2 * (k : Int) + 1 = (a : Int) := by omega
    have HA := Lib.hid ha
    by_cases hs : n ≤ a
    · have t1 : decide ((a : Int) ≥ (n : Int)) = true := decide_eq_true (by omega)
      have h4 : Dn keyM l' k := hD.out
      clear ha
      go_wp2
      first | rw [Exit.noGoto_ret] | simp only [Exit.noGoto]
      go_end0
      exact ⟨rfl, l', hP.out, hD.out.bottom (by rw [HLN.out, HA.out]; exact hs), hH.out, hK.out⟩
    · have t1 : decide ((a : Int) ≥ (n : Int)) = false := decide_eq_false (by omega)
      have hkn : k < n := by omega
      obtain ⟨x, hx⟩ : ∃ x, l'[k]? = some x := ⟨l'[k]'(by rw [HLN.out]; exact hkn), List.getElem?_eq_getElem _⟩
      obtain ⟨y, hy⟩ : ∃ y, l'[a]? = some y := ⟨l'[a]'(by rw [HLN.out]; omega), List.getElem?_eq_getElem _⟩
      obtain ⟨o, ho⟩ : ∃ o, a + 1 = o := ⟨_, rfl⟩
      have hoI : (a : Int) + 1 = (o : Int) := by omega
      have HX := Lib.hid hx
      have HO := Lib.hid ho
      have iak : k < a := by omega
      have ia0 : (0 : Int) ≤ (a : Int) := by omega
      have ia2 : (a : Int) < (n : Int) := by omega
      have ik0 : (0 : Int) ≤ (k : Int) := by omega
      have ik1 : (k : Int) < (n : Int) := by omega
      by_cases hon : o < n
      · obtain ⟨z, hz⟩ : ∃ z, l'[o]? = some z := ⟨l'[o]'(by rw [HLN.out]; exact hon), List.getElem?_eq_getElem _⟩
        have HZ := Lib.hid hz
        have HY0 := Lib.hid hy
        have t2 : decide ((o : Int) < (n : Int)) = true := decide_eq_true (by omega)
        have io0 : (0 : Int) ≤ (o : Int) := by omega
        have io2 : (o : Int) < (n : Int) := by omega
        have T0 := Lib.hid (hH.out.two rfl HZ.out HY0.out)
        have F0 := firstM z y wr.drew T0.out.f
        obtain ⟨t, ht⟩ : ∃ t, lexB keyM z y = t := ⟨_, rfl⟩
        rw [show lxM z y = lexB keyM z y from rfl, ht] at F0
        have HT := Lib.hid ht
        have F0 := Lib.hid F0
        have hbl := hH.out.lt
        have hgl := (hH.out.glt rfl).2
        have hao : a + 1 = o := ho
        clear hx hy hz ha ho ht
        go_upto_region 4 with (fail)
        go_region_held3 (fun W => W.cell? ⟨g, o * 3, none⟩ = some (.int .i64 z.1.k) ∧ W.cell? ⟨g, o * 3 + 1, none⟩ = some (.int .i64 z.1.w) ∧ W.cell? ⟨g, o * 3 + 2, none⟩ = some (.int .i64 (z.2 : Int)) ∧ W.cell? ⟨g, a * 3, none⟩ = some (.int .i64 y.1.k) ∧ W.cell? ⟨g, a * 3 + 1, none⟩ = some (.int .i64 y.1.w) ∧ W.cell? ⟨g, a * 3 + 2, none⟩ = some (.int .i64 (y.2 : Int)))
          (first | assumption | exact ⟨T0.out.x0, T0.out.x1, T0.out.x2, T0.out.y0, T0.out.y1, T0.out.y2⟩ | exact ⟨T1.out.x0, T1.out.x1, T1.out.x2, T1.out.y0, T1.out.y1, T1.out.y2⟩)
          ((go_at_call 47; (with_reducible refine F0.out.mono ?_); rintro e w1 ⟨rfl, hB1⟩; have T1 := Lib.hid (T0.out.step hbl hgl hB1)))
        have H1 := Lib.hid (hH.out.later T1.out.bel)
        have K1 := Lib.hid (hK.out.later T1.out.bel)
        have HAO := Lib.hid hao
        clear T0 T1 F0 hB1 hao
        rcases (Bool.eq_false_or_eq_true t).symm with rfl | rfl
        · have HY := HY0
          have HSd : Hid (Side keyM l' k a y) := Lib.hid (by
            have h1 := HY0.out
            have h2 := HZ.out
            rw [← HAO.out] at h2
            rw [← HA.out] at h1 h2 ⊢
            exact side_left h1 (.inr ⟨z, h2, HT.out⟩))
          go_upto_region 6 with (fail)
          have hsk : k < a := by have := HSd.out.1; omega
          have hsn : a < n := by have := (List.getElem?_eq_some_iff.1 HY.out).1; have := HLN.out; omega
          have T2 := Lib.hid (H1.out.two rfl HX.out HY.out)
          have F2 := firstM x y w1.drew T2.out.f
          obtain ⟨u, hu⟩ : ∃ u, lexB keyM x y = u := ⟨_, rfl⟩
          rw [show lxM x y = lexB keyM x y from rfl, hu] at F2
          have HUu := Lib.hid hu
          have F2 := Lib.hid F2
          have hbl2 := H1.out.lt
          have hgl2 := (H1.out.glt rfl).2
          have ik2 : (k : Int) < (n : Int) := by omega
          have is0 : (0 : Int) ≤ (a : Int) := by omega
          have is2 : (a : Int) < (n : Int) := by omega
          clear hu
          go_region_held3 (fun W => W.cell? ⟨g, k * 3, none⟩ = some (.int .i64 x.1.k) ∧ W.cell? ⟨g, k * 3 + 1, none⟩ = some (.int .i64 x.1.w) ∧ W.cell? ⟨g, k * 3 + 2, none⟩ = some (.int .i64 (x.2 : Int)) ∧ W.cell? ⟨g, a * 3, none⟩ = some (.int .i64 y.1.k) ∧ W.cell? ⟨g, a * 3 + 1, none⟩ = some (.int .i64 y.1.w) ∧ W.cell? ⟨g, a * 3 + 2, none⟩ = some (.int .i64 (y.2 : Int)))
            (first | assumption | exact ⟨T2.out.x0, T2.out.x1, T2.out.x2, T2.out.y0, T2.out.y1, T2.out.y2⟩ | exact ⟨T3.out.x0, T3.out.x1, T3.out.x2, T3.out.y0, T3.out.y1, T3.out.y2⟩)
            ((go_at_call 47; (with_reducible refine F2.out.mono ?_); rintro e w3 ⟨rfl, hB3⟩; have T3 := Lib.hid (T2.out.step hbl2 hgl2 hB3)))
          have H3 := Lib.hid (H1.out.later T3.out.bel)
          have K3 := Lib.hid (K1.out.later T3.out.bel)
          rcases (Bool.eq_false_or_eq_true u).symm with rfl | rfl
          · have x0 := T3.out.x0
            have x1 := T3.out.x1
            have x2 := T3.out.x2
            have y0 := T3.out.y0
            have y1 := T3.out.y1
            have y2 := T3.out.y2
            have fx := H3.out.gfz rfl
            have f0 := fx (k * 3)
            have f1 := fx (k * 3 + 1)
            have f2 := fx (k * 3 + 2)
            have g0 := fx (a * 3)
            have g1 := fx (a * 3 + 1)
            have g2 := fx (a * 3 + 2)
            have d0 : ¬ a * 3 = k * 3 + 1 := by omega
            have d1 : ¬ k * 3 = a * 3 + 1 := by omega
            have d2 : ¬ a * 3 = k * 3 + 2 := by omega
            have d3 : ¬ k * 3 = a * 3 + 2 := by omega
            have d4 : ¬ a * 3 + 1 = k * 3 := by omega
            have d5 : ¬ k * 3 + 1 = a * 3 := by omega
            have d6 : ¬ a * 3 + 1 = k * 3 + 2 := by omega
            have d7 : ¬ k * 3 + 1 = a * 3 + 2 := by omega
            have d8 : ¬ a * 3 + 2 = k * 3 := by omega
            have d9 : ¬ k * 3 + 2 = a * 3 := by omega
            have d10 : ¬ a * 3 + 2 = k * 3 + 1 := by omega
            have d11 : ¬ k * 3 + 2 = a * 3 + 1 := by omega
            have e0 : ¬ a = k := by omega
            have e1 : ¬ k = a := by omega
            have D2 := Lib.hid (hD.out.step HX.out HSd.out HUu.out)
            have P2 := Lib.hid ((swp_perm HX.out HY.out e1).trans hP.out)
            have hxm := List.mem_of_getElem? HX.out
            have hym := List.mem_of_getElem? HY.out
            have H4 := Lib.hid ((H3.out.put rfl (i := k) (p := y) (by rw [HLN.out]; omega) (H3.out.ok y hym) (H3.out.few y hym)).put rfl (i := a) (p := x) (by rw [List.length_set, HLN.out]; omega) (H3.out.ok x hxm) (H3.out.few x hxm))
            have K4 := Lib.hid ((K3.out.storedM g k y (by simp)).storedM g a x (by simp))
            clear fx T2 T3 F2 hB3 hxm hym
            go_upto_region 7 with (fail)
            go_region
            go_wp2
            go_roundg (n + 1 - a)
            case measure => omega
            case rel => exact ⟨a, swp l' k a x y, by omega, rfl, by omega, P2, D2, Lib.hid (H4.out.later (below_drew _)), Lib.hid (K4.out.later (below_drew _))⟩
          · go_wp2
            first | rw [Exit.noGoto_ret] | simp only [Exit.noGoto]
            go_end0
            exact ⟨rfl, l', hP.out, hD.out.stop HX.out HSd.out HUu.out, H3.out, K3.out⟩
        · have HY := HZ
          have HSd : Hid (Side keyM l' k o z) := Lib.hid (by
            have h1 := HY0.out
            have h2 := HZ.out
            rw [← HAO.out] at h2 ⊢
            rw [← HA.out] at h1 h2 ⊢
            exact side_right h1 h2 HT.out)
          go_upto_region 6 with (fail)
          have hsk : k < o := by have := HSd.out.1; omega
          have hsn : o < n := by have := (List.getElem?_eq_some_iff.1 HY.out).1; have := HLN.out; omega
          have T2 := Lib.hid (H1.out.two rfl HX.out HY.out)
          have F2 := firstM x z w1.drew T2.out.f
          obtain ⟨u, hu⟩ : ∃ u, lexB keyM x z = u := ⟨_, rfl⟩
          rw [show lxM x z = lexB keyM x z from rfl, hu] at F2
          have HUu := Lib.hid hu
          have F2 := Lib.hid F2
          have hbl2 := H1.out.lt
          have hgl2 := (H1.out.glt rfl).2
          have ik2 : (k : Int) < (n : Int) := by omega
          have is0 : (0 : Int) ≤ (o : Int) := by omega
          have is2 : (o : Int) < (n : Int) := by omega
          clear hu
          go_region_held3 (fun W => W.cell? ⟨g, k * 3, none⟩ = some (.int .i64 x.1.k) ∧ W.cell? ⟨g, k * 3 + 1, none⟩ = some (.int .i64 x.1.w) ∧ W.cell? ⟨g, k * 3 + 2, none⟩ = some (.int .i64 (x.2 : Int)) ∧ W.cell? ⟨g, o * 3, none⟩ = some (.int .i64 z.1.k) ∧ W.cell? ⟨g, o * 3 + 1, none⟩ = some (.int .i64 z.1.w) ∧ W.cell? ⟨g, o * 3 + 2, none⟩ = some (.int .i64 (z.2 : Int)))
            (first | assumption | exact ⟨T2.out.x0, T2.out.x1, T2.out.x2, T2.out.y0, T2.out.y1, T2.out.y2⟩ | exact ⟨T3.out.x0, T3.out.x1, T3.out.x2, T3.out.y0, T3.out.y1, T3.out.y2⟩)
            ((go_at_call 47; (with_reducible refine F2.out.mono ?_); rintro e w3 ⟨rfl, hB3⟩; have T3 := Lib.hid (T2.out.step hbl2 hgl2 hB3)))
          have H3 := Lib.hid (H1.out.later T3.out.bel)
          have K3 := Lib.hid (K1.out.later T3.out.bel)
          rcases (Bool.eq_false_or_eq_true u).symm with rfl | rfl
          · have x0 := T3.out.x0
            have x1 := T3.out.x1
            have x2 := T3.out.x2
            have y0 := T3.out.y0
            have y1 := T3.out.y1
            have y2 := T3.out.y2
            have fx := H3.out.gfz rfl
            have f0 := fx (k * 3)
            have f1 := fx (k * 3 + 1)
            have f2 := fx (k * 3 + 2)
            have g0 := fx (o * 3)
            have g1 := fx (o * 3 + 1)
            have g2 := fx (o * 3 + 2)
            have d0 : ¬ o * 3 = k * 3 + 1 := by omega
            have d1 : ¬ k * 3 = o * 3 + 1 := by omega
            have d2 : ¬ o * 3 = k * 3 + 2 := by omega
            have d3 : ¬ k * 3 = o * 3 + 2 := by omega
            have d4 : ¬ o * 3 + 1 = k * 3 := by omega
            have d5 : ¬ k * 3 + 1 = o * 3 := by omega
            have d6 : ¬ o * 3 + 1 = k * 3 + 2 := by omega
            have d7 : ¬ k * 3 + 1 = o * 3 + 2 := by omega
            have d8 : ¬ o * 3 + 2 = k * 3 := by omega
            have d9 : ¬ k * 3 + 2 = o * 3 := by omega
            have d10 : ¬ o * 3 + 2 = k * 3 + 1 := by omega
            have d11 : ¬ k * 3 + 2 = o * 3 + 1 := by omega
            have e0 : ¬ o = k := by omega
            have e1 : ¬ k = o := by omega
            have D2 := Lib.hid (hD.out.step HX.out HSd.out HUu.out)
            have P2 := Lib.hid ((swp_perm HX.out HY.out e1).trans hP.out)
            have hxm := List.mem_of_getElem? HX.out
            have hym := List.mem_of_getElem? HY.out
            have H4 := Lib.hid ((H3.out.put rfl (i := k) (p := z) (by rw [HLN.out]; omega) (H3.out.ok z hym) (H3.out.few z hym)).put rfl (i := o) (p := x) (by rw [List.length_set, HLN.out]; omega) (H3.out.ok x hxm) (H3.out.few x hxm))
            have K4 := Lib.hid ((K3.out.storedM g k z (by simp)).storedM g o x (by simp))
            clear fx T2 T3 F2 hB3 hxm hym
            go_upto_region 7 with (fail)
            go_region
            go_wp2
            go_roundg (n + 1 - o)
            case measure => omega
            case rel => exact ⟨o, swp l' k o x z, by omega, rfl, by omega, P2, D2, Lib.hid (H4.out.later (below_drew _)), Lib.hid (K4.out.later (below_drew _))⟩
          · go_wp2
            first | rw [Exit.noGoto_ret] | simp only [Exit.noGoto]
            go_end0
            exact ⟨rfl, l', hP.out, hD.out.stop HX.out HSd.out HUu.out, H3.out, K3.out⟩
      · have HY := Lib.hid hy
        have t2 : decide ((o : Int) < (n : Int)) = false := decide_eq_false (by omega)
        have HSd : Hid (Side keyM l' k a y) := Lib.hid (by
          have h1 := HY.out
          rw [← HA.out] at h1 ⊢
          exact side_left h1 (.inl (by rw [HLN.out]; have := HA.out; have := HO.out; omega)))
        clear hx hy ha ho
        go_upto_region 4 with (fail)
        go_quiet (fail)
        obtain ⟨w1, hw1⟩ : ∃ w1, wr.drewN nq = w1 := ⟨_, rfl⟩
        have hb1 : Below wr.heap.size wr w1 := by rw [← hw1]; exact below_drewN' wr nq
        rw [hw1]
        have H1 := Lib.hid (hH.out.later hb1)
        have K1 := Lib.hid (hK.out.later hb1)
        clear hw1 hb1
        go_upto_region 6 with (fail)
        have hsk : k < a := by have := HSd.out.1; omega
        have hsn : a < n := by have := (List.getElem?_eq_some_iff.1 HY.out).1; have := HLN.out; omega
        have T2 := Lib.hid (H1.out.two rfl HX.out HY.out)
        have F2 := firstM x y w1.drew T2.out.f
        obtain ⟨u, hu⟩ : ∃ u, lexB keyM x y = u := ⟨_, rfl⟩
        rw [show lxM x y = lexB keyM x y from rfl, hu] at F2
        have HUu := Lib.hid hu
        have F2 := Lib.hid F2
        have hbl2 := H1.out.lt
        have hgl2 := (H1.out.glt rfl).2
        have ik2 : (k : Int) < (n : Int) := by omega
        have is0 : (0 : Int) ≤ (a : Int) := by omega
        have is2 : (a : Int) < (n : Int) := by omega
        clear hu
        go_region_held3 (fun W => W.cell? ⟨g, k * 3, none⟩ = some (.int .i64 x.1.k) ∧ W.cell? ⟨g, k * 3 + 1, none⟩ = some (.int .i64 x.1.w) ∧ W.cell? ⟨g, k * 3 + 2, none⟩ = some (.int .i64 (x.2 : Int)) ∧ W.cell? ⟨g, a * 3, none⟩ = some (.int .i64 y.1.k) ∧ W.cell? ⟨g, a * 3 + 1, none⟩ = some (.int .i64 y.1.w) ∧ W.cell? ⟨g, a * 3 + 2, none⟩ = some (.int .i64 (y.2 : Int)))
          (first | assumption | exact ⟨T2.out.x0, T2.out.x1, T2.out.x2, T2.out.y0, T2.out.y1, T2.out.y2⟩ | exact ⟨T3.out.x0, T3.out.x1, T3.out.x2, T3.out.y0, T3.out.y1, T3.out.y2⟩)
          ((go_at_call 47; (with_reducible refine F2.out.mono ?_); rintro e w3 ⟨rfl, hB3⟩; have T3 := Lib.hid (T2.out.step hbl2 hgl2 hB3)))
        have H3 := Lib.hid (H1.out.later T3.out.bel)
        have K3 := Lib.hid (K1.out.later T3.out.bel)
        rcases (Bool.eq_false_or_eq_true u).symm with rfl | rfl
        · have x0 := T3.out.x0
          have x1 := T3.out.x1
          have x2 := T3.out.x2
          have y0 := T3.out.y0
          have y1 := T3.out.y1
          have y2 := T3.out.y2
          have fx := H3.out.gfz rfl
          have f0 := fx (k * 3)
          have f1 := fx (k * 3 + 1)
          have f2 := fx (k * 3 + 2)
          have g0 := fx (a * 3)
          have g1 := fx (a * 3 + 1)
          have g2 := fx (a * 3 + 2)
          have d0 : ¬ a * 3 = k * 3 + 1 := by omega
          have d1 : ¬ k * 3 = a * 3 + 1 := by omega
          have d2 : ¬ a * 3 = k * 3 + 2 := by omega
          have d3 : ¬ k * 3 = a * 3 + 2 := by omega
          have d4 : ¬ a * 3 + 1 = k * 3 := by omega
          have d5 : ¬ k * 3 + 1 = a * 3 := by omega
          have d6 : ¬ a * 3 + 1 = k * 3 + 2 := by omega
          have d7 : ¬ k * 3 + 1 = a * 3 + 2 := by omega
          have d8 : ¬ a * 3 + 2 = k * 3 := by omega
          have d9 : ¬ k * 3 + 2 = a * 3 := by omega
          have d10 : ¬ a * 3 + 2 = k * 3 + 1 := by omega
          have d11 : ¬ k * 3 + 2 = a * 3 + 1 := by omega
          have e0 : ¬ a = k := by omega
          have e1 : ¬ k = a := by omega
          have D2 := Lib.hid (hD.out.step HX.out HSd.out HUu.out)
          have P2 := Lib.hid ((swp_perm HX.out HY.out e1).trans hP.out)
          have hxm := List.mem_of_getElem? HX.out
          have hym := List.mem_of_getElem? HY.out
          have H4 := Lib.hid ((H3.out.put rfl (i := k) (p := y) (by rw [HLN.out]; omega) (H3.out.ok y hym) (H3.out.few y hym)).put rfl (i := a) (p := x) (by rw [List.length_set, HLN.out]; omega) (H3.out.ok x hxm) (H3.out.few x hxm))
          have K4 := Lib.hid ((K3.out.storedM g k y (by simp)).storedM g a x (by simp))
          clear fx T2 T3 F2 hB3 hxm hym
          go_upto_region 7 with (fail)
          go_region
          go_wp2
          go_roundg (n + 1 - a)
          case measure => omega
          case rel => exact ⟨a, swp l' k a x y, by omega, rfl, by omega, P2, D2, Lib.hid (H4.out.later (below_drew _)), Lib.hid (K4.out.later (below_drew _))⟩
        · go_wp2
          first | rw [Exit.noGoto_ret] | simp only [Exit.noGoto]
          go_end0
          exact ⟨rfl, l', hP.out, hD.out.stop HX.out HSd.out HUu.out, H3.out, K3.out⟩
end Go.Proofs.Ytebbpgokhelmdaa
