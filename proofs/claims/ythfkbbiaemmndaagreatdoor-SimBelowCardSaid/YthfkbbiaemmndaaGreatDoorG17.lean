/- Texts about the program, one after the other: HDI, HEI, HFI, HGI, HHI. -/
import Derived.WalkKit
import Derived.ProofKit
import Derived.Handy
import Derived.Lib.Hide
import Derived.Deep.MidRow
import Derived.Deep.QuietTactic
import Derived.BigQuiet
import Derived.Deep.RegionHeld3
import Derived.Laws.Externs
import Derived.RangeFuncBox
import Derived.Deep.CutBlock
import Derived.Deep.LoopGhost
import Derived.WalkMore
import Derived.Below
import Derived.LaidMore
import Derived.Laws.AppendOwn
import Derived.Laws.CopyOwn
import Derived.IntWalk
import Derived.OwnWalk
import Derived.Deep.RegionLaw
import Derived.BigRegion
import Derived.Deep.DrawnRows
import Derived.Deep.Quiet
import Derived.Deep.RegionHeldLaw
import Derived.LoopIn
import Derived.LoopNIn
import Derived.TacticsInMore
import Derived.OwnWalkIn
import Derived.RangeFuncNested
import Derived.RangeFuncBound
import Derived.RangeFuncCalls
import Derived.RangeFuncLeaves
import Derived.RangeFuncWrites
import Derived.Shelf.Abstract
import Derived.StillTailTactics
import Derived.Lib.SliceRun
import Derived.Deep.AppendSrc
import Derived.Deep.Upon
import Derived.Deep.DeepAppendWide
import Derived.OrdersIn
import Derived.Sort.LoopGhostIn
import Derived.Laws.OwnMore
import Derived.Laws.BytesString
import Derived.RangeFuncRecord
import Derived.MapKept
import Derived.Shelf.Small.Bits
import Derived.Shelf.Small.Strs
import Derived.Shelf.Small.Wraps
import Derived.Shelf.Strconv.Itoa0
import Derived.Shelf.LaysM
import Derived.Shelf.Strconv.Clone
import Derived.Shelf.Strings.Search1
import Derived.Shelf.Bits.Mul64
import Derived.Ground.Names2Prog
import Derived.Shelf.Slices.SearchI
import Derived.ChangeOld
import Derived.OpenShut
import Derived.Maps.AppendAt
import Derived.Test.YthfkbbiaemmndaaGreatDoorRows
import Derived.Test.YthfkbbiaemmndaaGreatDoorProg
import Derived.Test.YthfkbbiaemmndaaGreatDoorG4
import Derived.Test.YthfkbbiaemmndaaGreatDoorG6
import Derived.Test.YthfkbbiaemmndaaGreatDoorG7
import Derived.Test.YthfkbbiaemmndaaGreatDoorG8
import Derived.Test.YthfkbbiaemmndaaGreatDoorG16
set_option linter.unusedVariables false
set_option linter.unusedSimpArgs false
set_option maxRecDepth 100000
set_option maxHeartbeats 16000000
namespace Go.Proofs.YthfkbbiaemmndaaGreatDoor
section
open Go.RowKit
variable {K : LK}
attribute [local go_sem ↓] Go.wp_at_zero Go.wp_at_succ
theorem sinkI {B : Nat} {b c g n cap : Nat} {l : List (Int × Nat)} (w : World) (h : HBI K B w b (.slice (some ⟨g, 0, none⟩) n cap) c l) (hn : l.length = n) (hD : Dn (keyK K) l 0) (hmx : n ≤ 1000000) :
  Calls Tryz.prog 171 #[.pointer (some ⟨b, 0, none⟩), .slice (some ⟨g, 0, none⟩) n cap] w (RisePostI K B b c g (.slice (some ⟨g, 0, none⟩) n cap) l w) := by
 have HH := Lib.hid h
 have HD := Lib.hid hD
 have HN := Lib.hid hn
 clear h hD hn
 go_enter Tryz.func171, Tryz.ntmps171
 go_wp2
 go_step3
 go_wp2
 go_step3
 go_wp2
 go_loopg [4] (n + 1) (fun m a wr => ∃ (k : Nat) (l' : List (Int × Nat)), (k < n ∨ k = 0) ∧ a = .int .i64 k ∧ n + 1 ≤ m + k ∧ Hid (l'.Perm l) ∧ Hid (Dn (keyK K) l' k) ∧ Hid (HBI K B wr b (.slice (some ⟨g, 0, none⟩) n cap) c l') ∧ Hid (Kept [g] w wr))
 case atStart => exact ⟨0, l, .inr rfl, rfl, by omega, Lib.hid (List.Perm.refl _), HD, HH, Lib.hid (Kept.refl _ _)⟩
 case round =>
  obtain ⟨k, l', hk, rfl, hm, hP, hD, hH, hK⟩ := hrel
  have hln : l'.length = n := by rw [hP.out.length_eq, HN.out]
  have HLN := Lib.hid hln
  clear hln
  obtain ⟨a, ha⟩ : ∃ a, 2 * k + 1 = a := ⟨_, rfl⟩
  have haI : 2 * (k : Int) + 1 = (a : Int) := by omega
  have HA := Lib.hid ha
  by_cases hs : n ≤ a
  ·have t1 : decide ((a : Int) ≥ (n : Int)) = true := decide_eq_true (by omega)
   have h4 : Dn (keyK K) l' k := hD.out
   clear ha
   go_wp2
   first | rw [Exit.noGoto_ret] | simp only [Exit.noGoto]
   go_end0
   exact ⟨rfl, l', hP.out, hD.out.bottom (by rw [HLN.out, HA.out]; exact hs), hH.out, hK.out⟩
  ·have t1 : decide ((a : Int) ≥ (n : Int)) = false := decide_eq_false (by omega)
   have hkn : k < n := by omega
   obtain ⟨x, hx⟩ : ∃ x, l'[k]? = some x := ⟨l'[k]'(by rw [HLN.out]; exact hkn), List.getElem?_eq_getElem _⟩
   obtain ⟨y, hy⟩ : ∃ y, l'[a]? = some y := ⟨l'[a]'(by rw [HLN.out]; omega), List.getElem?_eq_getElem _⟩
   obtain ⟨o, ho⟩ : ∃ o, a + 1 = o := ⟨_, rfl⟩
   have hoI : (a : Int) + 1 = (o : Int) := by omega
   have HX := Lib.hid hx
   have HO := Lib.hid ho
   have iak : k < a := by omega
   have ia0 : (0 : Int) ≤ (a : Int) := by omega
   have ia2 : (a : Int) < (n : Int) := by omega
   have ik0 : (0 : Int) ≤ (k : Int) := by omega
   have ik1 : (k : Int) < (n : Int) := by omega
   by_cases hon : o < n
   ·obtain ⟨z, hz⟩ : ∃ z, l'[o]? = some z := ⟨l'[o]'(by rw [HLN.out]; exact hon), List.getElem?_eq_getElem _⟩
    have HZ := Lib.hid hz
    have HY0 := Lib.hid hy
    have t2 : decide ((o : Int) < (n : Int)) = true := decide_eq_true (by omega)
    have io0 : (0 : Int) ≤ (o : Int) := by omega
    have io2 : (o : Int) < (n : Int) := by omega
    have T0 := Lib.hid (hH.out.two rfl HZ.out HY0.out)
    have F0 := firstI z y wr.drew T0.out.f T0.out.ls T0.out.ox T0.out.oy
    obtain ⟨t, ht⟩ : ∃ t, lexB (keyK K) z y = t := ⟨_, rfl⟩
    rw [ht] at F0
    have HT := Lib.hid ht
    have F0 := Lib.hid F0
    have hbl := hH.out.lt
    have hgl := (hH.out.glt rfl).2
    have hao : a + 1 = o := ho
    clear hx hy hz ha ho ht
    go_upto_region 4 with (fail)
    go_region_held3 (fun W => W.cell? ⟨g, o * 2, none⟩ = some (.int .i64 z.1) ∧ W.cell? ⟨g, o * 2 + 1, none⟩ = some (.int .i64 (z.2 : Int)) ∧ W.cell? ⟨g, a * 2, none⟩ = some (.int .i64 y.1) ∧ W.cell? ⟨g, a * 2 + 1, none⟩ = some (.int .i64 (y.2 : Int)))
     (first | assumption | exact ⟨T0.out.x0, T0.out.x1, T0.out.y0, T0.out.y1⟩ | exact ⟨T1.out.x0, T1.out.x1, T1.out.y0, T1.out.y1⟩)
     ((go_at_call 168; (with_reducible refine F0.out.mono ?_); rintro e w1 ⟨rfl, hB1⟩; have T1 := Lib.hid (T0.out.step hbl hgl hB1)))
    have H1 := Lib.hid (hH.out.later T1.out.bel)
    have K1 := Lib.hid (hK.out.later T1.out.bel)
    have HAO := Lib.hid hao
    clear T0 T1 F0 hB1 hao
    rcases (Bool.eq_false_or_eq_true t).symm with rfl | rfl
    ·have HY := HY0
     have HSd : Hid (Side (keyK K) l' k a y) := Lib.hid (by
      have h1 := HY0.out
      have h2 := HZ.out
      rw [← HAO.out] at h2
      rw [← HA.out] at h1 h2 ⊢
      exact side_left h1 (.inr ⟨z, h2, HT.out⟩))
     go_upto_region 6 with (fail)
     have hsk : k < a := by have := HSd.out.1; omega
     have hsn : a < n := by have := (List.getElem?_eq_some_iff.1 HY.out).1; have := HLN.out; omega
     have T2 := Lib.hid (H1.out.two rfl HX.out HY.out)
     have F2 := firstI x y w1.drew T2.out.f T2.out.ls T2.out.ox T2.out.oy
     obtain ⟨u, hu⟩ : ∃ u, lexB (keyK K) x y = u := ⟨_, rfl⟩
     rw [hu] at F2
     have HUu := Lib.hid hu
     have F2 := Lib.hid F2
     have hbl2 := H1.out.lt
     have hgl2 := (H1.out.glt rfl).2
     have ik2 : (k : Int) < (n : Int) := by omega
     have is0 : (0 : Int) ≤ (a : Int) := by omega
     have is2 : (a : Int) < (n : Int) := by omega
     clear hu
     go_region_held3 (fun W => W.cell? ⟨g, k * 2, none⟩ = some (.int .i64 x.1) ∧ W.cell? ⟨g, k * 2 + 1, none⟩ = some (.int .i64 (x.2 : Int)) ∧ W.cell? ⟨g, a * 2, none⟩ = some (.int .i64 y.1) ∧ W.cell? ⟨g, a * 2 + 1, none⟩ = some (.int .i64 (y.2 : Int)))
      (first | assumption | exact ⟨T2.out.x0, T2.out.x1, T2.out.y0, T2.out.y1⟩ | exact ⟨T3.out.x0, T3.out.x1, T3.out.y0, T3.out.y1⟩)
      ((go_at_call 168; (with_reducible refine F2.out.mono ?_); rintro e w3 ⟨rfl, hB3⟩; have T3 := Lib.hid (T2.out.step hbl2 hgl2 hB3)))
     have H3 := Lib.hid (H1.out.later T3.out.bel)
     have K3 := Lib.hid (K1.out.later T3.out.bel)
     rcases (Bool.eq_false_or_eq_true u).symm with rfl | rfl
     ·have x0 := T3.out.x0
      have x1 := T3.out.x1
      have y0 := T3.out.y0
      have y1 := T3.out.y1
      have fx := H3.out.gfz rfl
      have f0 := fx (k * 2)
      have f1 := fx (k * 2 + 1)
      have g0 := fx (a * 2)
      have g1 := fx (a * 2 + 1)
      have d0 : ¬ a * 2 = k * 2 + 1 := by omega
      have d1 : ¬ k * 2 = a * 2 + 1 := by omega
      have d2 : ¬ a * 2 + 1 = k * 2 := by omega
      have d3 : ¬ k * 2 + 1 = a * 2 := by omega
      have e0 : ¬ a = k := by omega
      have e1 : ¬ k = a := by omega
      have D2 := Lib.hid (hD.out.step HX.out HSd.out HUu.out)
      have P2 := Lib.hid ((swp_perm HX.out HY.out e1).trans hP.out)
      have hxm := List.mem_of_getElem? HX.out
      have hym := List.mem_of_getElem? HY.out
      have H4 := Lib.hid ((H3.out.put rfl (i := k) (p := y) (by rw [HLN.out]; omega) (H3.out.ok y hym) (H3.out.few y hym)).put rfl (i := a) (p := x) (by rw [List.length_set, HLN.out]; omega) (H3.out.ok x hxm) (H3.out.few x hxm))
      have K4 := Lib.hid ((K3.out.storedI g k y (by simp)).storedI g a x (by simp))
      clear fx T2 T3 F2 hB3 hxm hym
      go_upto_region 7 with (fail)
      go_region
      go_wp2
      go_roundg (n + 1 - a)
      case measure => omega
      case rel => exact ⟨a, swp l' k a x y, by omega, rfl, by omega, P2, D2, Lib.hid (H4.out.later (below_drew _)), Lib.hid (K4.out.later (below_drew _))⟩
     ·go_wp2
      first | rw [Exit.noGoto_ret] | simp only [Exit.noGoto]
      go_end0
      exact ⟨rfl, l', hP.out, hD.out.stop HX.out HSd.out HUu.out, H3.out, K3.out⟩
    ·have HY := HZ
     have HSd : Hid (Side (keyK K) l' k o z) := Lib.hid (by
      have h1 := HY0.out
      have h2 := HZ.out
      rw [← HAO.out] at h2 ⊢
      rw [← HA.out] at h1 h2 ⊢
      exact side_right h1 h2 HT.out)
     go_upto_region 6 with (fail)
     have hsk : k < o := by have := HSd.out.1; omega
     have hsn : o < n := by have := (List.getElem?_eq_some_iff.1 HY.out).1; have := HLN.out; omega
     have T2 := Lib.hid (H1.out.two rfl HX.out HY.out)
     have F2 := firstI x z w1.drew T2.out.f T2.out.ls T2.out.ox T2.out.oy
     obtain ⟨u, hu⟩ : ∃ u, lexB (keyK K) x z = u := ⟨_, rfl⟩
     rw [hu] at F2
     have HUu := Lib.hid hu
     have F2 := Lib.hid F2
     have hbl2 := H1.out.lt
     have hgl2 := (H1.out.glt rfl).2
     have ik2 : (k : Int) < (n : Int) := by omega
     have is0 : (0 : Int) ≤ (o : Int) := by omega
     have is2 : (o : Int) < (n : Int) := by omega
     clear hu
     go_region_held3 (fun W => W.cell? ⟨g, k * 2, none⟩ = some (.int .i64 x.1) ∧ W.cell? ⟨g, k * 2 + 1, none⟩ = some (.int .i64 (x.2 : Int)) ∧ W.cell? ⟨g, o * 2, none⟩ = some (.int .i64 z.1) ∧ W.cell? ⟨g, o * 2 + 1, none⟩ = some (.int .i64 (z.2 : Int)))
      (first | assumption | exact ⟨T2.out.x0, T2.out.x1, T2.out.y0, T2.out.y1⟩ | exact ⟨T3.out.x0, T3.out.x1, T3.out.y0, T3.out.y1⟩)
      ((go_at_call 168; (with_reducible refine F2.out.mono ?_); rintro e w3 ⟨rfl, hB3⟩; have T3 := Lib.hid (T2.out.step hbl2 hgl2 hB3)))
     have H3 := Lib.hid (H1.out.later T3.out.bel)
     have K3 := Lib.hid (K1.out.later T3.out.bel)
     rcases (Bool.eq_false_or_eq_true u).symm with rfl | rfl
     ·have x0 := T3.out.x0
      have x1 := T3.out.x1
      have y0 := T3.out.y0
      have y1 := T3.out.y1
      have fx := H3.out.gfz rfl
      have f0 := fx (k * 2)
      have f1 := fx (k * 2 + 1)
      have g0 := fx (o * 2)
      have g1 := fx (o * 2 + 1)
      have d0 : ¬ o * 2 = k * 2 + 1 := by omega
      have d1 : ¬ k * 2 = o * 2 + 1 := by omega
      have d2 : ¬ o * 2 + 1 = k * 2 := by omega
      have d3 : ¬ k * 2 + 1 = o * 2 := by omega
      have e0 : ¬ o = k := by omega
      have e1 : ¬ k = o := by omega
      have D2 := Lib.hid (hD.out.step HX.out HSd.out HUu.out)
      have P2 := Lib.hid ((swp_perm HX.out HY.out e1).trans hP.out)
      have hxm := List.mem_of_getElem? HX.out
      have hym := List.mem_of_getElem? HY.out
      have H4 := Lib.hid ((H3.out.put rfl (i := k) (p := z) (by rw [HLN.out]; omega) (H3.out.ok z hym) (H3.out.few z hym)).put rfl (i := o) (p := x) (by rw [List.length_set, HLN.out]; omega) (H3.out.ok x hxm) (H3.out.few x hxm))
      have K4 := Lib.hid ((K3.out.storedI g k z (by simp)).storedI g o x (by simp))
      clear fx T2 T3 F2 hB3 hxm hym
      go_upto_region 7 with (fail)
      go_region
      go_wp2
      go_roundg (n + 1 - o)
      case measure => omega
      case rel => exact ⟨o, swp l' k o x z, by omega, rfl, by omega, P2, D2, Lib.hid (H4.out.later (below_drew _)), Lib.hid (K4.out.later (below_drew _))⟩
     ·go_wp2
      first | rw [Exit.noGoto_ret] | simp only [Exit.noGoto]
      go_end0
      exact ⟨rfl, l', hP.out, hD.out.stop HX.out HSd.out HUu.out, H3.out, K3.out⟩
   ·have HY := Lib.hid hy
    have t2 : decide ((o : Int) < (n : Int)) = false := decide_eq_false (by omega)
    have HSd : Hid (Side (keyK K) l' k a y) := Lib.hid (by
     have h1 := HY.out
     rw [← HA.out] at h1 ⊢
     exact side_left h1 (.inl (by rw [HLN.out]; have := HA.out; have := HO.out; omega)))
    clear hx hy ha ho
    go_upto_region 4 with (fail)
    go_quiet (fail)
    obtain ⟨w1, hw1⟩ : ∃ w1, wr.drewN nq = w1 := ⟨_, rfl⟩
    have hb1 : Below wr.heap.size wr w1 := by rw [← hw1]; exact below_drewN' wr nq
    rw [hw1]
    have H1 := Lib.hid (hH.out.later hb1)
    have K1 := Lib.hid (hK.out.later hb1)
    clear hw1 hb1
    go_upto_region 6 with (fail)
    have hsk : k < a := by have := HSd.out.1; omega
    have hsn : a < n := by have := (List.getElem?_eq_some_iff.1 HY.out).1; have := HLN.out; omega
    have T2 := Lib.hid (H1.out.two rfl HX.out HY.out)
    have F2 := firstI x y w1.drew T2.out.f T2.out.ls T2.out.ox T2.out.oy
    obtain ⟨u, hu⟩ : ∃ u, lexB (keyK K) x y = u := ⟨_, rfl⟩
    rw [hu] at F2
    have HUu := Lib.hid hu
    have F2 := Lib.hid F2
    have hbl2 := H1.out.lt
    have hgl2 := (H1.out.glt rfl).2
    have ik2 : (k : Int) < (n : Int) := by omega
    have is0 : (0 : Int) ≤ (a : Int) := by omega
    have is2 : (a : Int) < (n : Int) := by omega
    clear hu
    go_region_held3 (fun W => W.cell? ⟨g, k * 2, none⟩ = some (.int .i64 x.1) ∧ W.cell? ⟨g, k * 2 + 1, none⟩ = some (.int .i64 (x.2 : Int)) ∧ W.cell? ⟨g, a * 2, none⟩ = some (.int .i64 y.1) ∧ W.cell? ⟨g, a * 2 + 1, none⟩ = some (.int .i64 (y.2 : Int)))
     (first | assumption | exact ⟨T2.out.x0, T2.out.x1, T2.out.y0, T2.out.y1⟩ | exact ⟨T3.out.x0, T3.out.x1, T3.out.y0, T3.out.y1⟩)
     ((go_at_call 168; (with_reducible refine F2.out.mono ?_); rintro e w3 ⟨rfl, hB3⟩; have T3 := Lib.hid (T2.out.step hbl2 hgl2 hB3)))
    have H3 := Lib.hid (H1.out.later T3.out.bel)
    have K3 := Lib.hid (K1.out.later T3.out.bel)
    rcases (Bool.eq_false_or_eq_true u).symm with rfl | rfl
    ·have x0 := T3.out.x0
     have x1 := T3.out.x1
     have y0 := T3.out.y0
     have y1 := T3.out.y1
     have fx := H3.out.gfz rfl
     have f0 := fx (k * 2)
     have f1 := fx (k * 2 + 1)
     have g0 := fx (a * 2)
     have g1 := fx (a * 2 + 1)
     have d0 : ¬ a * 2 = k * 2 + 1 := by omega
     have d1 : ¬ k * 2 = a * 2 + 1 := by omega
     have d2 : ¬ a * 2 + 1 = k * 2 := by omega
     have d3 : ¬ k * 2 + 1 = a * 2 := by omega
     have e0 : ¬ a = k := by omega
     have e1 : ¬ k = a := by omega
     have D2 := Lib.hid (hD.out.step HX.out HSd.out HUu.out)
     have P2 := Lib.hid ((swp_perm HX.out HY.out e1).trans hP.out)
     have hxm := List.mem_of_getElem? HX.out
     have hym := List.mem_of_getElem? HY.out
     have H4 := Lib.hid ((H3.out.put rfl (i := k) (p := y) (by rw [HLN.out]; omega) (H3.out.ok y hym) (H3.out.few y hym)).put rfl (i := a) (p := x) (by rw [List.length_set, HLN.out]; omega) (H3.out.ok x hxm) (H3.out.few x hxm))
     have K4 := Lib.hid ((K3.out.storedI g k y (by simp)).storedI g a x (by simp))
     clear fx T2 T3 F2 hB3 hxm hym
     go_upto_region 7 with (fail)
     go_region
     go_wp2
     go_roundg (n + 1 - a)
     case measure => omega
     case rel => exact ⟨a, swp l' k a x y, by omega, rfl, by omega, P2, D2, Lib.hid (H4.out.later (below_drew _)), Lib.hid (K4.out.later (below_drew _))⟩
    ·go_wp2
     first | rw [Exit.noGoto_ret] | simp only [Exit.noGoto]
     go_end0
     exact ⟨rfl, l', hP.out, hD.out.stop HX.out HSd.out HUu.out, H3.out, K3.out⟩
end
section
open Go.RowKit
variable {K : LK}
attribute [local go_sem ↓] Go.wp_at_zero Go.wp_at_succ
theorem infoThI : (Tryz.prog.info? 208).map (fun i => (i.zero, i.size, i.bytes)) = some (some (.agg #[.int .i64 0, .int .i64 0]), 2, 16) := by kernel_rfl
theorem run_appI {base : Nat} {v : Value} {n : Nat} {xs : List Value} {w : World} (ty : TypeId) (hown : w.ownsRow base 208 2 v n xs) (ad : Addr) (news : List Value) (hn : news.length = 2) (hc : ∀ j u, news[j]? = some u → w.cell? (ad.add j) = some u) (h1c : ∀ u ∈ news, u.oneCell' = true) (b1 : n ≤ 1000000) (hbase : base ≤ w.heap.size) :
  ∃ v' w', (Builtin.append_ #[178, 178] ty #[v, .slice (some ad) 1 1]).run Tryz.prog w = .ok v' w' ∧ w'.ownsRow base 208 2 v' (n + 1) (xs ++ news) ∧ w.grownBy w' v.ownBlock ∧ ∀ k, v'.ownBlock = some k → v.ownBlock = some k ∨ w.heap.size ≤ k := by
 obtain ⟨i0, hi, hz0, hz1, hz2⟩ := info_parts infoThI
 obtain ⟨v', w', hrun, r1, r2, _⟩ := run_append_own (P := Tryz.prog) w base 178 ty 208 i0 _ 2 16 Tryz.underlying178 hi hz0 hz1 hz2 rfl (by omega) v n xs hown ad 1 1 news (by omega) hc h1c (by unfold maxLen; omega) (by omega) hbase
 refine ⟨v', w', hrun, r1, r2, ?_⟩
 rcases hown.2 with ⟨rfl, rfl⟩ | ⟨g, cap, cur, rfl, _, hg, hnc, hcm, hcs, _⟩
 ·have h2 := run_append_nil (P := Tryz.prog) w 178 ty 208 i0 _ Tryz.underlying178 hi hz0 ad 1 1 news (by rw [hz1]; omega) hc (by omega) (by omega) (by rw [hz2]; decide)
  rw [hrun] at h2
  injection h2 with e1 e2
  subst e1
  intro k hk
  simp only [Value.ownBlock, Option.some.injEq] at hk
  exact .inr (by omega)
 ·by_cases hroom : n + 1 ≤ cap
  ·have h2 := run_append_room (P := Tryz.prog) w 178 ty 208 i0 Tryz.underlying178 hi g n cap cur hg ad 1 1 news (by rw [hz1]; omega) hc h1c hroom (by rw [hz1, hn, hcs]; have := Nat.mul_le_mul_right 2 hroom; omega)
   rw [hrun] at h2
   injection h2 with e1 e2
   subst e1
   exact fun k hk => .inl hk
  ·have h2 := run_append_grow (P := Tryz.prog) w 178 ty 208 i0 _ Tryz.underlying178 hi hz0 ⟨g, 0, none⟩ n cap xs (by rw [hz1]; exact hown.1) (hown.cells rfl) ad 1 1 news (by rw [hz1]; omega) hc (by omega) (by omega) (by rw [hz2]; exact growslice_fits (by omega) (by omega))
   rw [hrun] at h2
   injection h2 with e1 e2
   subst e1
   intro k hk
   simp only [Value.ownBlock, Option.some.injEq] at hk
   exact .inr (by omega)
theorem step_appI {ops : Array Oper} {o : Oper} {a : Act} {w : World} {K : Act → World → Prop} {Q : Exit → Act → World → Prop} {E : Prop}
  (hg : o.guard = none) (s x : Operand) (hop : o.op = Op.call { callee := Callee.builtin Builtin.append, args := #[s, x], argTypes := #[178, 178] })
  (base : Nat) (v : Value) (n : Nat) (xs : List Value) (hs : a.eval s = v) (hown : w.ownsRow base 208 2 v n xs)
  (ad : Addr) (news : List Value) (hx : a.eval x = .slice (some ad) 1 1) (hn : news.length = 2) (hc : ∀ j u, news[j]? = some u → w.cell? (ad.add j) = some u) (h1c : ∀ u ∈ news, u.oneCell' = true)
  (b1 : n ≤ 1000000) (hbase : base ≤ w.heap.size)
  (hK : ∀ v' w', w'.ownsRow base 208 2 v' (n + 1) (xs ++ news) → w.grownBy w' v.ownBlock → (∀ k, v'.ownBlock = some k → v.ownBlock = some k ∨ w.heap.size ≤ k) → K (a.put o.dst v') w') :
  if Region.wanted o (yielded ops a.tmps) = true then Oper.wp Tryz.prog o a w K Q else E := by
 have hw : Region.wanted o (yielded ops a.tmps) = true := by simp [Region.wanted, hg]
 rw [if_pos hw]
 obtain ⟨v', w', hrun, r1, r2, r3⟩ := run_appI o.type hown ad news hn hc h1c b1 hbase
 unfold Oper.wp
 simp [execOp, hop, resolve, invoke, builtin, hs, hx, hrun, Result.andThen]
 exact hK v' w' r1 r2 r3
theorem th_newI (w : World) (p : Int × Nat) : ∀ j u, (thI p)[j]? = some u → (w.alloc (.cells #[.int .i64 p.1, .int .i64 (p.2 : Int)] 208)).cell? ((⟨w.heap.size, 0, none⟩ : Addr).add j) = some u := by
 intro j u hj
 rw [add_none, Nat.zero_add, cell_of_row _ _ j _ _ _ (heap_alloc_new w _)]
 simpa [thI] using hj
theorem th_oneI (p : Int × Nat) : ∀ u ∈ thI p, u.oneCell' = true := by
 intro u hu
 simp only [thI, List.mem_cons, List.not_mem_nil, or_false] at hu
 rcases hu with rfl | rfl <;> rfl
theorem len_anyI {B b c : Nat} {v : Value} {l : List (Int × Nat)} (w : World) (h : HBI K B w b v c l) : Calls Tryz.prog 149 #[.pointer (some ⟨b, 0, none⟩)] w fun e w' => e = .returned (.int .i64 l.length) ∧ w = w' := by
 obtain ⟨A, cap, hv, hle, hmx⟩ := own_len h.row
 have c1 := h.c1
 subst hv
 unfold maxLen at hmx
 clear h
 go_enter Tryz.func149, Tryz.ntmps149
 go_wp2
 go_ret
 exact ⟨rfl, rfl⟩
theorem HBI.pushed {B : Nat} {w W w2 : World} {b c : Nat} {v v2 : Value} {l : List (Int × Nat)} {p : Int × Nat} (h : HBI K B w b v c l) (hW : Below w.heap.size w W) (hg : W.grownBy w2 v.ownBlock) (ho : w2.ownsRow B 208 2 v2 (l.length + 1) (thCI l ++ thI p)) (hp : okK K p.1) (hpc : p.2 = c) (hc : c + 1 ≤ 1000000) :
  (w2.cell? ⟨b, 1, none⟩ = some v ∧ w2.cell? ⟨b, 2, none⟩ = some (.int .i64 (c : Int)) ∧ (∀ i, w2.frozen? ⟨b, i, none⟩ = false)) ∧ Kept (blk b v) w w2 ∧
  HBI K B ((w2.setCell ⟨b, 1, none⟩ v2).setCell ⟨b, 2, none⟩ (.int .i64 ((c + 1 : Nat) : Int))) b v2 (c + 1) (l ++ [p]) ∧ Kept (blk b v) w ((w2.setCell ⟨b, 1, none⟩ v2).setCell ⟨b, 2, none⟩ (.int .i64 ((c + 1 : Nat) : Int))) := by
 have hk : Kept (blk b v) w w2 := (Kept.of _ hW).trans (kept_grown hg (fun k hk => by simp [blk, hk]))
 have hWb : W.heap[b]? = some (.cells #[K.fv, v, .int .i64 (c : Int)] 180 (0, 0)) := (hW.block b h.lt).trans h.is
 have hb2 : w2.heap[b]? = some (.cells #[K.fv, v, .int .i64 (c : Int)] 180 (0, 0)) :=
  (hg.block b (Nat.lt_of_lt_of_le h.lt hW.size) (fun e => h.ne e.symm)).trans hWb
 have hne := own_ne ho hb2 (by decide)
 have e1 : (w2.setCell ⟨b, 1, none⟩ v2).heap[b]? = some (.cells #[K.fv, v2, .int .i64 (c : Int)] 180 (0, 0)) := heap_setCell_same _ b 1 _ _ _ hb2
 have e2 : ((w2.setCell ⟨b, 1, none⟩ v2).setCell ⟨b, 2, none⟩ (.int .i64 ((c + 1 : Nat) : Int))).heap[b]? = some (.cells #[K.fv, v2, .int .i64 ((c + 1 : Nat) : Int)] 180 (0, 0)) := heap_setCell_same _ b 2 _ _ _ e1
 have k2 : Kept [b] w2 ((w2.setCell ⟨b, 1, none⟩ v2).setCell ⟨b, 2, none⟩ (.int .i64 ((c + 1 : Nat) : Int))) := ((Kept.refl [b] w2).set b 1 v2 (by simp)).set b 2 _ (by simp)
 refine ⟨⟨by rw [cell_of_row w2 b 1 _ _ _ hb2]; rfl, by rw [cell_of_row w2 b 2 _ _ _ hb2]; rfl, fun i => by simp [World.frozen?, hb2]⟩, hk, ⟨h.hB, e2, ?_, ?_, ?_, hc, h.less.kept (hk.trans (k2.mono (by simp [blk]))) (fun k hm => h.less.off (h.blk_ge k hm).1)⟩, hk.trans (k2.mono (by simp [blk]))⟩
 ·rw [List.length_append, thC_appI]
  have := k2.row ho (fun g hg' => by simp; exact fun e => hne (by rw [hg', e]))
  simpa [thCI] using this
 ·intro q hq
  rcases List.mem_append.1 hq with hq | hq
  ·exact h.ok q hq
  ·rw [List.mem_singleton.1 hq]; exact hp
 ·intro q hq
  rcases List.mem_append.1 hq with hq | hq
  ·have := h.few q hq; omega
  ·rw [List.mem_singleton.1 hq]; omega
def PushPostI (K : LK) (B b c : Nat) (v : Value) (l : List (Int × Nat)) (x : Int) (w : World) (e : Ending) (w' : World) : Prop := e = .returned (.tuple #[]) ∧ ∃ v' l', l'.Perm (l ++ [(x, c)]) ∧ Hp (keyK K) l' ∧ HBI K B w' b v' (c + 1) l' ∧ Kept (blk b v) w w' ∧ ∀ k ∈ blk b v', k ∈ blk b v ∨ w.heap.size ≤ k
theorem push_anyI {B b c : Nat} {v : Value} {l : List (Int × Nat)} {x : Int} (w : World) (h : HBI K B w b v c l) (hh : Hp (keyK K) l) (hx : okK K x) (hc : c + 1 ≤ 1000000) (hl : l.length ≤ 1000000) :
  Calls Tryz.prog 126 #[.pointer (some ⟨b, 0, none⟩), .int .i64 x] w (PushPostI K B b c v l x w) := by
 have HH := Lib.hid hh
 have HX := Lib.hid hx
 have hw1 : Below w.heap.size w w := Below.refl _ _
 have h1 := h
 have HI := Lib.hid h
 clear hh hx h
 go_enter Tryz.func126, Tryz.ntmps126
 go_upto_region 1 with (fail)
 obtain ⟨w1, hw⟩ : ∃ w1, w1 = w := ⟨_, rfl⟩
 rw [← hw] at h1 ⊢
 rw [show Below w.heap.size w w ↔ Below w.heap.size w w1 by rw [hw]] at hw1
 clear hw
 have c1 := h1.c1
 have c2 := h1.c2
 have hb := h1.lt
 have H1 := Lib.hid h1
 have HB1 := Lib.hid hw1
 have O1 := Lib.hid (h1.later (((below_drew w1).alloc (Nat.le_refl _) (.cells #[.int .i64 x, .int .i64 (c : Int)] 208))))
 clear h1 hw1
 go_region_law (first
  | (refine step_appI rfl _ _ rfl B v l.length (thCI l) rfl O1.out.row ⟨w1.heap.size, 0, none⟩ (thI (x, c)) rfl rfl (th_newI w1.drew (x, c)) (th_oneI (x, c)) hl (Nat.le_trans O1.out.hB (Nat.le_of_lt O1.out.lt)) ?_
     intro v2 w2 hown2 hg2 hor
     obtain ⟨g2, cap2, rfl, -, hgl2, hle2, hmx2, -⟩ := own_form hown2 (by omega)
     obtain ⟨⟨d1, d2, fz⟩, K2, H2, K3⟩ := H1.out.pushed ((below_drew w1).alloc (Nat.le_refl _) _) hg2 hown2 HX.out rfl hc
     have f1 := fz 1
     have f2 := fz 2))
 all_goals
  have hlen : (l ++ [(x, c)]).length = l.length + 1 := by simp
  have RS := Lib.hid (riseI _ H2 hlen (by omega) HH.out.up_last)
  have HK3 := Lib.hid K3
  have hcI : ((c + 1 : Nat) : Int) = (c : Int) + 1 := by omega
  rw [hcI] at RS HK3
  have HOR := Lib.hid (hor g2 rfl)
  clear hg2 hown2 K2 K3 H2 fz hlen hcI hor
  go_wp2_with (go_at_call 145; (with_reducible refine RS.out.mono ?_); rintro e w4 ⟨rfl, l2, hP, hHp, hH2, hK4⟩)
  go_end0
  have hO : g2 ∈ blk b v ∨ w.heap.size ≤ g2 := by
   rcases HOR.out with h | h
   ·exact .inl (by simp [blk, h])
   ·exact .inr (by have h2 := HB1.out.size; have h3 : w1.heap.size ≤ g2 := Nat.le_trans (by simp) h; omega)
  refine ⟨rfl, _, l2, hP, hHp, hH2, kept_push HB1.out HK3.out hK4 hO, fun k hk => ?_⟩
  simp only [blk, Value.ownBlock, Option.toList_some, List.mem_cons, List.not_mem_nil, or_false] at hk
  rcases hk with rfl | rfl
  ·exact .inl (by simp [blk])
  ·exact hO
end
section
open Go.RowKit
variable {K : LK}
attribute [local go_sem ↓] Go.wp_at_zero Go.wp_at_succ
theorem peek_noneI {B b c : Nat} {v : Value} (w : World) (h : HBI K B w b v c []) : Calls Tryz.prog 129 #[.pointer (some ⟨b, 0, none⟩)] w (Told (.tuple #[.int .i64 0, .bool false]) w) := by
 have LN := Lib.hid (fun W (hB : Below w.heap.size w W) => len_anyI W (h.later hB))
 clear h
 go_enter Tryz.func129, Tryz.ntmps129
 go_wp2_with (go_at_call 149; (with_reducible refine (LN.out _ (Below.refl _ _)).mono ?_); rintro e w1 ⟨rfl, rfl⟩)
 go_ret2
 exact ⟨rfl, Below.refl _ _⟩
theorem peek_someI {B b c : Nat} {v : Value} {l : List (Int × Nat)} {p : Int × Nat} (w : World) (h : HBI K B w b v c l) (hp : l[0]? = some p) : Calls Tryz.prog 129 #[.pointer (some ⟨b, 0, none⟩)] w (Told (.tuple #[.int .i64 p.1, .bool true]) w) := by
 have h0 : 0 < l.length := (List.getElem?_eq_some_iff.1 hp).1
 obtain ⟨g, cap, rfl, -, hgl, hle, hmx, -⟩ := own_form h.row h0
 have hln0 : ((l.length : Int) == 0) = false := by rw [beq_eq_false_iff_ne]; omega
 have hlt : (0 : Int) < (l.length : Int) := by omega
 unfold maxLen at hmx
 have LN := Lib.hid (fun W (hB : Below w.heap.size w W) => len_anyI W (h.later hB))
 have c1 := h.c1
 have x0 : w.cell? ⟨g, 0, none⟩ = some (.int .i64 p.1) := by have := h.th rfl hp 0 _ rfl; rwa [Nat.zero_mul] at this
 clear h hp
 go_enter Tryz.func129, Tryz.ntmps129
 go_wp2_with (go_at_call 149; (with_reducible refine (LN.out _ (Below.refl _ _)).mono ?_); rintro e w1 ⟨rfl, rfl⟩)
 go_ret2
 exact ⟨rfl, Below.refl _ _⟩
end
section
open Go.RowKit
variable {K : LK}
attribute [local go_sem ↓] Go.wp_at_zero Go.wp_at_succ
def zeroHI : Int := 0
theorem zero_okI {x : Int} (h : okK K x) : okK K zeroHI := by
 obtain ⟨i, -, hi⟩ := h
 exact ⟨0, rfl, by omega⟩
theorem run_clearI {B : Nat} {w : World} {b c g n cap m k : Nat} {l : List (Int × Nat)} (ty : TypeId) (h : HBI K B w b (.slice (some ⟨g, 0, none⟩) n cap) c l) (hm : m < l.length) : (Builtin.clear_ #[178] ty #[.slice (some ⟨g, m * 2, none⟩) 1 k]).run Tryz.prog w = .ok (.tuple #[]) (ptI w g m (zeroHI, 0)) := by
 obtain ⟨i0, hi, hz0, hz1, hz2⟩ := info_parts infoThI
 obtain ⟨p, hp⟩ : ∃ p, l[m]? = some p := ⟨l[m], List.getElem?_eq_getElem hm⟩
 have x0 : w.cell? ⟨g, m * 2, none⟩ = some (.int .i64 p.1) := h.th rfl hp 0 _ rfl
 have x1 : w.cell? ⟨g, m * 2 + 1, none⟩ = some (.int .i64 (p.2 : Int)) := h.th rfl hp 1 _ rfl
 have f := h.gfz rfl
 have a0 : (⟨g, m * 2, none⟩ : Addr).add 0 = ⟨g, m * 2, none⟩ := by rw [add_none]; rfl
 have a1 : (⟨g, m * 2, none⟩ : Addr).add 1 = ⟨g, m * 2 + 1, none⟩ := add_none _ _ _
 have hu := run_underlying (P := Tryz.prog) Tryz.underlying178
 unfold ptI zeroHI
 simp [Builtin.clear_, hu, zeroValue, typeInfo, hi, hz0, Builtin.zeroCells, storeCells, a0, a1, x0, x1, f, go_sem]
theorem HBI.cut {B : Nat} {w : World} {b c g n cap m : Nat} {l : List (Int × Nat)} (h : HBI K B w b (.slice (some ⟨g, 0, none⟩) n cap) c l) (hl : l.length = n) (hm : m ≤ n) : HBI K B (w.setCell ⟨b, 1, none⟩ (.slice (some ⟨g, 0, none⟩) m cap)) b (.slice (some ⟨g, 0, none⟩) m cap) c (l.take m) := by
 subst hl
 have hne : b ≠ g := fun e => h.ne (by rw [e]; rfl)
 have hln : (l.take m).length = m := List.length_take_of_le hm
 refine ⟨h.hB, heap_setCell_same _ b 1 _ _ _ h.is, ?_, fun p hp => h.ok p (List.mem_of_mem_take hp), fun p hp => h.few p (List.mem_of_mem_take hp), h.lim, h.less.kept ((Kept.refl [b] w).set b 1 _ (by simp)) (fun k e => h.less.off (by rw [List.mem_singleton.1 e]; exact h.hB))⟩
 rw [hln, thC_takeI l m hm]
 have := own_take h.row hm
 exact ((Kept.refl [b] w).set b 1 _ (by simp)).row this (fun k hk => by simp [Value.ownBlock] at hk; simp; omega)
def PopPostI (K : LK) (B b c : Nat) (v : Value) (l : List (Int × Nat)) (p : Int × Nat) (w : World) (e : Ending) (w' : World) : Prop := e = .returned (.tuple #[.int .i64 p.1, .bool true]) ∧ ∃ v' l', (p :: l').Perm l ∧ Hp (keyK K) l' ∧ HBI K B w' b v' c l' ∧ Kept (blk b v) w w' ∧ blk b v' = blk b v
theorem pop_someI {B b c : Nat} {v : Value} {l : List (Int × Nat)} {p : Int × Nat} (w : World) (h : HBI K B w b v c l) (hh : Hp (keyK K) l) (hp : l[0]? = some p) (hlim : l.length ≤ 1000000) : Calls Tryz.prog 151 #[.pointer (some ⟨b, 0, none⟩)] w (PopPostI K B b c v l p w) := by
 have h0 : 0 < l.length := (List.getElem?_eq_some_iff.1 hp).1
 obtain ⟨g, cap, rfl, -, hgl, hle, hmx, -⟩ := own_form h.row h0
 obtain ⟨m, hm⟩ : ∃ m, l.length = m + 1 := ⟨l.length - 1, by omega⟩
 obtain ⟨y, hy⟩ : ∃ y, l[m]? = some y := ⟨l[m], List.getElem?_eq_getElem (by omega)⟩
 rw [hm] at hle hlim h
 have HM := Lib.hid hm
 have HP := Lib.hid hp
 have HY := Lib.hid hy
 have HH := Lib.hid hh
 have H0 := Lib.hid h
 have PK := fun W (hB : Below w.heap.size w W) => peek_someI W (h.later hB) hp
 have hmI : ((m + 1 : Nat) : Int) - 1 = (m : Int) := by omega
 clear hm hp hy hh h h0
 have PK := Lib.hid PK
 go_enter Tryz.func151, Tryz.ntmps151
 go_upto_region 4 with (go_at_call 129; (with_reducible refine (PK.out _ (Below.refl _ _)).mono ?_); rintro e w1 ⟨rfl, hB1⟩)
 obtain ⟨w2, hw2, B2⟩ : ∃ w2, w1 = w2 ∧ Below w.heap.size w w2 := ⟨_, rfl, hB1⟩
 rw [hw2]
 have h2 := H0.out.later B2
 have c1 := h2.c1
 have fb := h2.fz 1
 have x0 : w2.cell? ⟨g, 0, none⟩ = some (.int .i64 p.1) := by have := h2.th rfl HP.out 0 _ rfl; rwa [Nat.zero_mul] at this
 have x1 : w2.cell? ⟨g, 1, none⟩ = some (.int .i64 (p.2 : Int)) := by have := h2.th rfl HP.out 1 _ rfl; rwa [Nat.zero_mul] at this
 have y0 : w2.cell? ⟨g, m * 2, none⟩ = some (.int .i64 y.1) := h2.th rfl HY.out 0 _ rfl
 have y1 : w2.cell? ⟨g, m * 2 + 1, none⟩ = some (.int .i64 (y.2 : Int)) := h2.th rfl HY.out 1 _ rfl
 have f0 := h2.gfz rfl 0
 have f1 := h2.gfz rfl 1
 have im : (m : Int) < ((m + 1 : Nat) : Int) := by omega
 have im0 : (0 : Int) ≤ (m : Int) := by omega
 have iz : (0 : Int) < ((m + 1 : Nat) : Int) := by omega
 have H2 := Lib.hid h2
 have HB2 := Lib.hid B2
 clear hw2 hB1 h2 B2
 go_upto_region 5 with (fail)
 go_region
 go_upto_region 6 with (fail)
 obtain ⟨w3, hw3⟩ : ∃ w3, (ptI w2 g 0 y).drew = w3 := ⟨_, rfl⟩
 have hym := List.mem_of_getElem? HY.out
 have h3 := (H2.out.put rfl (i := 0) (p := y) (by rw [HM.out]; omega) (H2.out.ok y hym) (H2.out.few y hym)).later (below_drew _)
 have k3 : Kept [b, g] w w3 := by rw [← hw3]; exact (((Kept.of _ HB2.out).storedI g 0 y (by simp)).later (below_drew _))
 rw [hw3] at h3
 have hw3' := hw3
 unfold ptI at hw3'
 try rw [Nat.zero_mul] at hw3'
 rw [show (0 + 1 : Nat) = 1 from rfl] at hw3'
 rw [hw3']
 have hl3 : (l.set 0 y).length = m + 1 := by rw [List.length_set, HM.out]
 have hcl := run_clearI (k := cap - m) 0 h3 (m := m) (by rw [hl3]; omega)
 obtain ⟨w4, hw4⟩ : ∃ w4, ptI w3 g m (zeroHI, 0) = w4 := ⟨_, rfl⟩
 have h4 := h3.put rfl (i := m) (p := (zeroHI, 0)) (by rw [hl3]; omega) (zero_okI (H2.out.ok y hym)) (show (0 : Nat) < 1000000 by omega)
 have k4 : Kept [b, g] w w4 := by rw [← hw4]; exact k3.storedI g m _ (by simp)
 rw [hw4] at hcl h4
 have h5 := h4.cut (by rw [List.length_set, hl3]) (m := m) (by omega)
 rw [take_set_same] at h5
 have k5 := k4.set b 1 (.slice (some ⟨g, 0, none⟩) m cap) (by simp)
 have hl5 : ((l.set 0 y).take m).length = m := by rw [List.length_take, hl3]; omega
 have d1 := h3.c1
 have e1 := h4.c1
 have fb4 := h4.fz 1
 have SK := Lib.hid (sinkI _ h5 hl5 ((HH.out.dn y).take) (by omega))
 have LT := Lib.hid (last_top HP.out (show l[l.length - 1]? = some y by rw [HM.out]; exact HY.out))
 have hcm : cap ≠ m := by omega
 have hcm2 : ¬ cap = m := hcm
 have hmc : (m : Int) ≤ (cap : Int) := by omega
 have hm1 : m + 1 - m = 1 := by omega
 have K5 := Lib.hid k5
 clear hw3 hw3' hw4 h3 h4 h5 k3 k4 k5 hl3 hl5 hym c1 fb x0 x1 y0 y1 f0 f1 
 go_wp2_with (go_at_call 171; (with_reducible refine SK.out.mono ?_); rintro e w6 ⟨rfl, l6, hP6, hHp6, hH6, hK6⟩)
 go_ret2
 refine ⟨rfl, _, l6, (hP6.cons p).trans (by have := LT.out; rw [HM.out] at this; exact this), hHp6, hH6, ?_, rfl⟩
 exact K5.out.trans (hK6.mono (by simp))
end
section
open Go.RowKit
variable {K : LK}
attribute [local go_sem ↓] Go.wp_at_zero Go.wp_at_succ
theorem pop_noneI {B b c : Nat} {v : Value} (w : World) (h : HBI K B w b v c []) : Calls Tryz.prog 151 #[.pointer (some ⟨b, 0, none⟩)] w (Told (.tuple #[.int .i64 0, .bool false]) w) := by
 have PK := Lib.hid (fun W (hB : Below w.heap.size w W) => peek_noneI W (h.later hB))
 clear h
 go_enter Tryz.func151, Tryz.ntmps151
 go_wp2_with (go_at_call 129; (with_reducible refine (PK.out _ (Below.refl _ _)).mono ?_); rintro e w1 ⟨rfl, hB1⟩)
 go_ret2
 exact ⟨rfl, hB1⟩
structure HsI (K : LK) (B : Nat) (w : World) (b : Nat) (X : List Nat) (c : Nat) (L : List Int) : Prop where
 ex : ∃ v l, HBI K B w b v c l ∧ blk b v = X ∧ Tells (keyK K) l c L
 le : L.length ≤ c
section
variable {B : Nat} {w w' : World} {b c : Nat} {X : List Nat} {L : List Int}
theorem HsI.kept {Y : List Nat} (h : HsI K B w b X c L) (hk : Kept Y w w') (hx : ∀ k ∈ X, k ∉ Y) (hz : ∀ k ∈ Y, k ≠ K.bl ∧ k ≠ K.lb) : HsI K B w' b X c L := by
 obtain ⟨⟨v, l, h1, rfl, h2⟩, h3⟩ := h
 exact ⟨⟨v, l, h1.kept hk hx hz, rfl, h2⟩, h3⟩
theorem HsI.later (h : HsI K B w b X c L) (hb : Below w.heap.size w w') : HsI K B w' b X c L := h.kept (Kept.of [] hb) (by simp) (by simp)
theorem HsI.ge (h : HsI K B w b X c L) : ∀ k ∈ X, B ≤ k ∧ k < w.heap.size := by
 obtain ⟨⟨v, l, h1, rfl, h2⟩, h3⟩ := h
 exact h1.blk_ge
theorem HsI.lim (h : HsI K B w b X c L) : c ≤ 1000000 := by
 obtain ⟨⟨v, l, h1, rfl, h2⟩, h3⟩ := h
 exact h1.lim
theorem ins_lengthI (x : Int) : ∀ L : List Int, (ins (keyK K) x L).length = L.length + 1
 | [] => rfl
 | a :: l => by
   unfold ins
   split
   ·rfl
   ·simp [ins_lengthI x l]
def HPushI (K : LK) (B b c : Nat) (X : List Nat) (L : List Int) (w : World) (e : Ending) (w' : World) : Prop := e = .returned (.tuple #[]) ∧ ∃ X', HsI K B w' b X' (c + 1) L ∧ Kept X w w' ∧ ∀ k ∈ X', k ∈ X ∨ w.heap.size ≤ k
theorem hpushI {x : Int} (h : HsI K B w b X c L) (hx : okK K x) (hc : c + 1 ≤ 1000000) : Calls Tryz.prog 126 #[.pointer (some ⟨b, 0, none⟩), .int .i64 x] w (HPushI K B b c X (ins (keyK K) x L) w) := by
 obtain ⟨⟨v, l, h1, rfl, h2⟩, h3⟩ := h
 refine (push_anyI w h1 h2.hp hx hc (by rw [h2.length]; omega)).mono ?_
 rintro e w' ⟨rfl, v', l', hP, hH, hB, hK, hb⟩
 exact ⟨rfl, blk b v', ⟨⟨v', l', hB, rfl, h2.push hP hH⟩, by rw [ins_lengthI]; omega⟩, hK, hb⟩
def HPopI (K : LK) (B b c : Nat) (X : List Nat) (x : Int) (L : List Int) (w : World) (e : Ending) (w' : World) : Prop := e = .returned (.tuple #[.int .i64 x, .bool true]) ∧ HsI K B w' b X c L ∧ Kept X w w'
theorem hpopI {x : Int} (h : HsI K B w b X c (x :: L)) : Calls Tryz.prog 151 #[.pointer (some ⟨b, 0, none⟩)] w (HPopI K B b c X x L w) := by
 have hlim := h.lim
 obtain ⟨⟨v, l, h1, rfl, h2⟩, h3⟩ := h
 have hl := h2.length
 obtain ⟨p, hp⟩ : ∃ p, l[0]? = some p := ⟨l[0]'(by rw [hl]; simp), List.getElem?_eq_getElem _⟩
 obtain ⟨r, hr⟩ := h2.head hp
 injection hr with e1 e2
 subst e1
 refine (pop_someI w h1 h2.hp hp (by rw [hl]; omega)).mono ?_
 rintro e w' ⟨rfl, v', l', hP, hH, hB, hK, hb⟩
 exact ⟨rfl, ⟨⟨v', l', hB, hb, h2.pop hp hP hH⟩, by simp at h3; omega⟩, hK⟩
theorem hpeekI {x : Int} (h : HsI K B w b X c (x :: L)) : Calls Tryz.prog 129 #[.pointer (some ⟨b, 0, none⟩)] w (Told (.tuple #[.int .i64 x, .bool true]) w) := by
 obtain ⟨⟨v, l, h1, rfl, h2⟩, h3⟩ := h
 have hl := h2.length
 obtain ⟨p, hp⟩ : ∃ p, l[0]? = some p := ⟨l[0]'(by rw [hl]; simp), List.getElem?_eq_getElem _⟩
 obtain ⟨r, hr⟩ := h2.head hp
 injection hr with e1 e2
 subst e1
 exact peek_someI w h1 hp
theorem hnilI (h : HsI K B w b X c []) : Calls Tryz.prog 151 #[.pointer (some ⟨b, 0, none⟩)] w (Told (.tuple #[.int .i64 0, .bool false]) w) ∧ Calls Tryz.prog 129 #[.pointer (some ⟨b, 0, none⟩)] w (Told (.tuple #[.int .i64 0, .bool false]) w) := by
 obtain ⟨⟨v, l, h1, rfl, h2⟩, h3⟩ := h
 have hl : l = [] := List.eq_nil_of_length_eq_zero h2.length
 subst hl
 exact ⟨pop_noneI w h1, peek_noneI w h1⟩
end
def RowOfI (K : LK) (w : World) (A : Option Addr) (xs : List Int) : Prop := ∀ (i : Nat) (x : Int), xs[i]? = some x → ∃ b o, A = some ⟨b, o, none⟩ ∧ b < w.heap.size ∧ okK K x ∧ w.cell? ⟨b, o + i, none⟩ = some (.int .i64 x)
theorem RowOfI.later {w w' : World} {A : Option Addr} {xs : List Int} (h : RowOfI K w A xs) (hb : Below w.heap.size w w') : RowOfI K w' A xs := by
 intro i x hx
 obtain ⟨b, o, e, hl, ho, h0⟩ := h i x hx
 exact ⟨b, o, e, Nat.lt_of_lt_of_le hl hb.size, ho, (hb.cell (p := ⟨b, _, none⟩) hl).trans h0⟩
def allInI (K : LK) (xs : List Int) : List Int := xs.foldl (fun L x => ins (keyK K) x L) []
theorem allIn_snocI (xs : List Int) (x : Int) : allInI K (xs ++ [x]) = ins (keyK K) x (allInI K xs) := by simp [allInI]
def HNewI (K : LK) (n : Nat) (L : List Int) (w : World) (e : Ending) (w' : World) : Prop := ∃ X, e = .returned (.pointer (some ⟨w.heap.size, 0, none⟩)) ∧ HsI K w.heap.size w' w.heap.size X n L ∧ Below w.heap.size w w'
theorem new_anyI {A : Option Addr} {n cap : Nat} {xs : List Int} (w : World) (hL : LessOk K w.heap.size w) (hR : RowOfI K w A xs) (hn : xs.length = n) (h1 : n ≤ 10000) (h2 : n ≤ cap) (h3 : cap ≤ 9223372036854775807) : Calls Tryz.prog 104 #[K.fv, .slice A n cap] w (HNewI K n (allInI K xs) w) := by
 have RR := Lib.hid hR
 have HN := Lib.hid hn
 have hb0 : Below w.heap.size w (w.alloc (.cells #[K.fv, .slice none 0 0, .int .i64 0] 180)) := (Below.refl _ _).alloc (Nat.le_refl _) _
 have h0 : HsI K w.heap.size (w.alloc (.cells #[K.fv, .slice none 0 0, .int .i64 0] 180)) w.heap.size [w.heap.size] 0 [] :=
  ⟨⟨.slice none 0 0, [], ⟨Nat.le_refl _, heap_alloc_new w _, World.ownsRow_nil _ _ _ _, by simp, by simp, by omega, hL.later hb0⟩, rfl, Tells.nil 0⟩, Nat.le_refl _⟩
 have H0 := Lib.hid h0
 have HB0 := Lib.hid hb0
 clear hR hn hb0 h0 hL
 go_enter Tryz.func104, Tryz.ntmps104
 go_wp2
 go_loopw [13] (fun i wr => ∃ (k : Nat) (X : List Nat), k ≤ n ∧ i = .int .i64 k ∧ Hid (HsI K w.heap.size wr w.heap.size X k (allInI K (xs.take k))) ∧ Hid (Below w.heap.size w wr)) (fun i _ => n - (intOf i).toNat)
 case atStart => exact ⟨0, [w.heap.size], Nat.zero_le _, rfl, by rw [List.take_zero]; exact H0, HB0⟩
 case round =>
  obtain ⟨k, X, hk, rfl, hH, hL⟩ := hrel
  clear H0 HB0
  by_cases hlt : k < n
  ·obtain ⟨x, hx⟩ : ∃ x, xs[k]? = some x := ⟨xs[k]'(by rw [HN.out]; exact hlt), List.getElem?_eq_getElem _⟩
   have e1 := take_one hx
   obtain ⟨rb, ro, rfl, hrl, hox, x0⟩ := RR.out.later hL.out k x hx
   have PU := Lib.hid (hpushI hH.out hox (by omega))
   have HX := Lib.hid hox
   have HE := Lib.hid (show allInI K (xs.take (k + 1)) = ins (keyK K) x (allInI K (xs.take k)) by rw [e1, allIn_snocI])
   have hi0 : (0 : Int) ≤ (k : Int) := by omega
   have hi1 : (k : Int) < (n : Int) := by omega
   clear hx e1 hox 
   go_wp2_with (go_at_call 126; (with_reducible refine PU.out.mono ?_); rintro e w2 ⟨rfl, X2, hH2, hK2, hX2⟩)
   have hB2 : Below w.heap.size w w2 := by
    exact hL.out.trans (hK2.below hL.out.size (fun j hj => (hH.out.ge j hj).1))
   have H2 := Lib.hid hH2
   have HB2 := Lib.hid hB2
   clear hH2 hK2 hX2 hB2
   go_roundw
   case rel => exact ⟨k + 1, X2, by omega, by go_num, by rw [HE.out]; exact H2, HB2⟩
   case measure => simp [intOf]; omega
  ·obtain rfl : k = n := by omega
   go_wp2
   go_ret
   refine ⟨X, rfl, ?_, hL.out⟩
   have := hH.out
   rwa [List.take_of_length_le (by rw [HN.out]; exact Nat.le_refl _)] at this
end
end Go.Proofs.YthfkbbiaemmndaaGreatDoor
