/- Texts about the program, one after the other: YCr. -/
import Derived.WalkKit
import Derived.ProofKit
import Derived.Handy
import Derived.Lib.Hide
import Derived.Deep.MidRow
import Derived.Deep.QuietTactic
import Derived.BigQuiet
import Derived.Deep.RegionHeld3
import Derived.Laws.Externs
import Derived.RangeFuncBox
import Derived.Deep.CutBlock
import Derived.Deep.LoopGhost
import Derived.WalkMore
import Derived.OrdersIn
import Derived.Stop.RegionWithIn
import Derived.Deep.RegionLaw
import Derived.Laws.OwnMore
import Derived.Deep.CutRange
import Derived.Deep.Quiet
import Derived.Deep.RegionHeld
import Derived.Laws.AppendOwn
import Derived.Below
import Derived.LaidMore
import Derived.Laws.CopyOwn
import Derived.IntWalk
import Derived.OwnWalk
import Derived.BigRegion
import Derived.Deep.DrawnRows
import Derived.Deep.RegionHeldLaw
import Derived.LoopIn
import Derived.LoopNIn
import Derived.TacticsInMore
import Derived.OwnWalkIn
import Derived.RangeFuncNested
import Derived.RangeFuncBound
import Derived.RangeFuncCalls
import Derived.RangeFuncLeaves
import Derived.RangeFuncWrites
import Derived.Shelf.Abstract
import Derived.StillTailTactics
import Derived.Lib.SliceRun
import Derived.Deep.AppendSrc
import Derived.Deep.Upon
import Derived.Deep.DeepAppendWide
import Derived.Sort.LoopGhostIn
import Derived.Laws.ShiftsVarLaws
import Derived.Outline
import Derived.Laws.Bits128
import Derived.Deep.RegionWith
import Derived.Shelf.RegionOpen
import Derived.Laws.BytesString
import Derived.RangeFuncRecord
import Derived.MapKept
import Derived.Maps.AppendAt
import Derived.Laws.AppendOwnNone
import Derived.Shelf.Small.Bits
import Derived.Shelf.Small.Strs
import Derived.Shelf.Small.Wraps
import Derived.Shelf.Strconv.Itoa0
import Derived.Shelf.LaysM
import Derived.Shelf.Strconv.Clone
import Derived.Shelf.Strings.Search1
import Derived.Shelf.Bits.Mul64
import Derived.Ground.Names2Prog
import Derived.Shelf.Slices.SearchI
import Derived.ChangeOld
import Derived.OpenShut
import Derived.Test.YthfkbbiaemmndaaGreatDoorRows
import Derived.Test.YthfkbbiaemmndaaGreatDoorProg
import Derived.Test.YthfkbbiaemmndaaGreatDoorG4
import Derived.Test.YthfkbbiaemmndaaGreatDoorG5
import Derived.Test.YthfkbbiaemmndaaGreatDoorG6
import Derived.Test.YthfkbbiaemmndaaGreatDoorG7
import Derived.Test.YthfkbbiaemmndaaGreatDoorG8
import Derived.Test.YthfkbbiaemmndaaGreatDoorG9
import Derived.Test.YthfkbbiaemmndaaGreatDoorG10
import Derived.Test.YthfkbbiaemmndaaGreatDoorG11
import Derived.Test.YthfkbbiaemmndaaGreatDoorG12
import Derived.Test.YthfkbbiaemmndaaGreatDoorG13
import Derived.Test.YthfkbbiaemmndaaGreatDoorG14
set_option linter.unusedVariables false
set_option linter.unusedSimpArgs false
set_option maxRecDepth 100000
set_option maxHeartbeats 16000000
namespace Go.Proofs.YthfkbbiaemmndaaGreatDoor
section
open Go.RowKit Go.Shelf
attribute [local go_sem] Oper.semAt_some
attribute [local go_sem] run_store_func
def CritP (l : List Ts) (i : Int) (w : World) (e : Ending) (w' : World) : Prop :=
 Below w.heap.size w w' ∧ (((sceneS l i).length ≤ 4096 ∧ ∃ A cap gs, e = .returned (.tuple #[.slice A (sceneS l i).length cap, .int .i64 ((headS l i).length : Int), .int .i64 0]) ∧ FOwn TJb w.heap.size w' (.slice A (sceneS l i).length cap) gs ∧ gs.map (·.x) = sceneS l i) ∨ (4096 < (sceneS l i).length ∧ e = .returned (.tuple #[.slice none 0 0, .int .i64 0, .int .i64 15])))
theorem scrit_any (b o cap : Nat) (l : List Ts) (k : Nat) (y : Ts) (w : World) (hR : Row w (some ⟨b, o, none⟩) cap l) (hc : (chkAll l).2 = 0) (hy : l[k]? = some y) (hT : Tab w) :
  Calls Tryz.prog 14 #[.slice (some ⟨b, o, none⟩) l.length cap, .int .i64 (k : Int)] w (CritP l (k : Int) w) := by
 have hk : k < l.length := (List.getElem?_eq_some_iff.1 hy).1
 have hv := vs_of hc
 have hvl := hv.n1
 have hdc := chk_d hc
 have ety : tk l (k : Int) = y := tk_get hy
 have hbl : b < w.heap.size := by
  obtain ⟨b', o', x, e, _, _, h, _⟩ := hR.get hk
  cases e; exact h
 have htab := hT.pos
 obtain ⟨W1, hW1, X1, s1⟩ : ∃ W1, w.alloc (.cells #[.slice (some ⟨b, o, none⟩) l.length cap] TTks) = W1 ∧ Boxed W1 w.heap.size TTks (.slice (some ⟨b, o, none⟩) l.length cap) ∧ W1.heap.size = w.heap.size + 1 := ⟨_, rfl, Boxed.new _ _ _, by simp⟩
 have B1 : Below w.heap.size w W1 := by rw [← hW1]; exact (Below.refl _ _).alloc (Nat.le_refl _) _
 have KM0 := smay_any (some ⟨b, o, none⟩) cap l (k : Int) W1 (hR.later B1) ⟨by omega, by omega⟩
 rw [isB_at hc hy] at KM0
 have KM := Lib.hid KM0
 have KS := Lib.hid (fun V (h : Below w.heap.size w V) => sstart_any b o cap l k y V (hR.later h) hc hy (hT.below h))
 have KB := Lib.hid (fun V (h : Below w.heap.size w V) => sblock_any b o cap l k y V (hR.later h) hc hy (hT.below h))
 obtain ⟨sb0, sb1, -⟩ := start_bd (i := (k : Int)) hv
 rw [ety] at sb0
 have hy0 := hv.tk (k : Int)
 rw [ety] at hy0
 obtain ⟨bk1, bk2⟩ := blk_isE (i := (k : Int)) hv
 have HBK := Lib.hid bk2
 have HVT := Lib.hid (fun x : Nat => hv.tk (x : Int))
 have HROW := Lib.hid hR
 have HTAB := Lib.hid hT
 have HCH := Lib.hid hc
 have HYY := Lib.hid hy
 have hle := hR.le
 have hmx := hR.mx
 have hj0 := hy0.j0
 have hj1 := hy0.j1
 obtain ⟨S, hS⟩ : ∃ S, startS l (k : Int) = S := ⟨_, rfl⟩
 obtain ⟨bo, hbo⟩ : ∃ bo, blockerS l (k : Int) = bo := ⟨_, rfl⟩
 rw [hS] at KS sb0 sb1
 rw [hbo] at KB HBK
 have HS := Lib.hid hS
 have HBO := Lib.hid hbo
 have HW1 := Lib.hid hW1
 have HB1 := Lib.hid B1
 have HDC := Lib.hid hdc
 clear hR hT hc hv hy KM0 hW1 B1 hS hbo bk1 bk2 hdc hvl ety hy0
 refine (callsIn_wide (n := 5)).1 ?_
 refine callsIn_of_wp_marks Tryz.func14 rfl trivial ?_ rfl
 simp only [Tryz.ntmps14, List.size_toArray, List.length_cons, List.length_nil, Nat.reduceAdd, Nat.reduceSub, Array.replicate_succ, Array.replicate_zero, List.push_toArray, List.append_toArray, List.nil_append, List.cons_append]
 refine wpIn_wide.2 ?_
 have c0 := X1.cell
 go_upto_region 1 with (fail)
 rw [HW1.out]
 clear HW1
 refine wp_scope_straight ?_
 go_upto_region 3 with (go_at_call 32; (with_reducible refine KM.out.mono ?_); rintro e w2 ⟨rfl, h2⟩; have H2 := Lib.hid h2; clear h2)
 clear KM
 obtain ⟨jb, hjb⟩ : ∃ jb, w2.heap.size = jb := ⟨_, rfl⟩
 obtain ⟨W3, hW3, X3, P3, Q3, s3⟩ : ∃ W3, (w2.alloc (.cells #[.slice none 0 0] TJs)).alloc (.cells #[.func (.func 33) #[] #[.pointer (some ⟨jb, 0, none⟩)]] TPut) = W3 ∧ Boxed W3 w.heap.size TTks (.slice (some ⟨b, o, none⟩) l.length cap) ∧ Boxed W3 jb TJs (.slice none 0 0) ∧ Boxed W3 (jb + 1) TPut (.func (.func 33) #[] #[.pointer (some ⟨jb, 0, none⟩)]) ∧ W3.heap.size = jb + 2 := by
  refine ⟨_, rfl, Boxed.alloc (Boxed.alloc (boxed_later2 X1 H2.out) _) _, ?_, ?_, by simp [hjb]⟩
  ·rw [← hjb]; exact Boxed.alloc (Boxed.new _ _ _) _
  ·have := Boxed.new (w2.alloc (.cells #[.slice none 0 0] TJs)) TPut (.func (.func 33) #[] #[.pointer (some ⟨jb, 0, none⟩)])
   rwa [World.size_alloc, hjb] at this
 have hjB : w.heap.size < jb := by have := H2.out.size; omega
 have B3 : Below w.heap.size w W3 := by
  rw [← hW3]
  exact ((HB1.out.trans (H2.out.mono HB1.out.size)).alloc (by omega) _).alloc (by simp; omega) _
 have HB3 := Lib.hid B3
 have HJB := Lib.hid hjb
 have HW3 := Lib.hid hW3
 clear hjb hW3 B3
 have hbd : ∀ (a b c d : Int) (W : World), (Instr.build 74 #[(0, .int .i64 a), (1, .int .i64 b), (2, .int .i64 c), (3, .int .i64 d)]).run Tryz.prog W = .ok (.agg #[.int .i64 a, .int .i64 b, .int .i64 c, .int .i64 d, .slice none 0 0]) W := by intro a b c d W; kernel_rfl
 have hmf : ∀ (fn : Fn) (first cap : Array Value) (w : World), (Instr.makeFunc fn first cap).run Tryz.prog w = .ok (.func fn first cap) w := fun _ _ _ _ => rfl
 go_upto_region 5 with (fail)
 rw [HJB.out]
 rw [HW3.out]
 clear HW3 X1 c0
 have c3 := X3.cell
 go_upto_region 6 with (go_at_call 34; (with_reducible refine (KS.out _ HB3.out).mono ?_); rintro e w4 ⟨rfl, h4⟩; have H4 := Lib.hid h4; clear h4)
 obtain ⟨fb, hfb⟩ : ∃ fb, w4.heap.size = fb := ⟨_, rfl⟩
 obtain ⟨W5, hW5, HC5⟩ : ∃ W5, w4.alloc (.cells #[.int .i64 S] T64s) = W5 ∧ Hid (CrS w (.slice (some ⟨b, o, none⟩) l.length cap) jb (jb + 1) fb S [] W5) := by
  refine ⟨_, rfl, Lib.hid ⟨Boxed.alloc (boxed_later2 X3 H4.out) _, Boxed.alloc (boxed_later2 Q3 H4.out) _, ?_, ?_, ?_⟩⟩
  ·rw [← hfb]; exact Boxed.new _ _ _
  ·exact ⟨by omega, by simp, none, 0, [], Boxed.alloc (boxed_later2 P3 H4.out) _, by simp, by unfold maxLen; omega, FOwn.nil _ _ _, rfl, rfl⟩
  ·exact (HB3.out.trans (H4.out.mono HB3.out.size)).alloc (by have := H4.out.size; omega) _
 have hfB : jb + 2 ≤ fb := by have := H4.out.size; omega
 rw [hfb, hW5]
 clear hW5 hfb c3 X3 P3 Q3 H4 HB3 H2 HB1 HJB
 have c5 := HC5.out.lx.cell
 go_upto_region 7 with (go_at_call 35; (with_reducible refine (KB.out _ HC5.out.b).mono ?_); rintro e w6 ⟨rfl, h6⟩; have HC6 := Lib.hid (HC5.out.later h6); clear h6)
 clear KB KS HC5 c5
 go_upto_if 31 with (fail)
 have hw1 : IntKind.i64.wrap (S - 1) = S - 1 := by rw [IntKind.wrap_i64]; omega
 obtain ⟨bn, hbn, hbz⟩ : ∃ bn : Nat, bkP bo = (bn : Int) ∧ ∀ z, bo = some z → z = bn := by
  cases bo with
  | none => exact ⟨0, rfl, fun z h => by cases h⟩
  | some b => exact ⟨b, rfl, fun z h => by cases h; rfl⟩
 rw [hbn]
 clear hbn
 go_cut [] from 32 to 50 (fun wx => Hid (CrS w (.slice (some ⟨b, o, none⟩) l.length cap) jb (jb + 1) fb S (headS l (k : Int)) wx))
 case first =>
  cases bo with
  | none =>
    have HH : Hid (headS l (k : Int) = []) := Lib.hid (by unfold headS; rw [HBO.out])
    go_wp2
    go_meet
    exact Lib.hid (by rw [HH.out]; exact HC6.out)
  | some z =>
    obtain rfl := hbz z rfl
    obtain ⟨zl, -, -, zq⟩ := HBK.out z rfl
    have hz : l[z]? = some l[z] := List.getElem?_eq_getElem zl
    have hxq := HVT.out z
    rw [tk_get hz] at zq hxq
    obtain ⟨x, hx⟩ : ∃ x, l[z] = x := ⟨_, rfl⟩
    rw [hx] at hz zq hxq
    have HH : Hid (headS l (k : Int) = [⟨z, S - 1, S - 1, x.q, [x.q]⟩]) := Lib.hid (by unfold headS; rw [HBO.out, HS.out]; simp only [tk_get hz])
    have HC7 := Lib.hid (HC6.out.later (below_drew w6))
    have HC0 := CrC.of HC7.out HROW.out hz
    have i0 : (0 : Int) ≤ (z : Int) := by omega
    have i1 : (z : Int) < (l.length : Int) := by omega
    have q0 := hxq.q0
    have q1 := hxq.q1
    have HZ := Lib.hid hz
    clear hz hx hxq zq
    clear hbz
    go_wp2
    refine wp_region_noPanic ?_
    refine wp_region_held_drew (S := CrC w.heap.size (.slice (some ⟨b, o, none⟩) l.length cap) (jb + 1) jb fb S b (o + z * 7) x) (by kernel_rfl) HC0 (fun hHeld => ?_)
    clear HC0
    generalize w6.drew = W7 at *
    refine wpAnyH_take (i := 0) (oi := ⟨some 32, _, _, _, _, _⟩) (v := .func (.func 33) #[] #[.pointer (some ⟨jb, 0, none⟩)]) rfl (by kernel_rfl) (by kernel_rfl) (by kernel_rfl) (fun _ _ _ h => h) (Or.inl ⟨by rfl, ?_⟩) (by assumption) ?_
    ·intro w0 hSw
     obtain ⟨e0, e1, e2, e3, e4, e5⟩ := hSw
     go_simp
     (try with_reducible rfl)
    (try simp only [Act.put, List.setIfInBounds_toArray, List.set_cons_zero, List.set_cons_succ])
    refine wpAnyH_take (i := 1) (oi := ⟨some 33, _, _, _, _, _⟩) (v := .int .i64 (z : Int)) rfl (by kernel_rfl) (by kernel_rfl) (by kernel_rfl) (fun _ _ _ h => h) (Or.inl ⟨by rfl, ?_⟩) (by assumption) ?_
    ·intro w0 hSw
     obtain ⟨e0, e1, e2, e3, e4, e5⟩ := hSw
     go_simp
     (try with_reducible rfl)
    (try simp only [Act.put, List.setIfInBounds_toArray, List.set_cons_zero, List.set_cons_succ])
    refine wpAnyH_take (i := 2) (oi := ⟨some 34, _, _, _, _, _⟩) (v := .int .i64 S) rfl (by kernel_rfl) (by kernel_rfl) (by kernel_rfl) (fun _ _ _ h => h) (Or.inl ⟨by rfl, ?_⟩) (by assumption) ?_
    ·intro w0 hSw
     obtain ⟨e0, e1, e2, e3, e4, e5⟩ := hSw
     go_simp
     (try with_reducible rfl)
    (try simp only [Act.put, List.setIfInBounds_toArray, List.set_cons_zero, List.set_cons_succ])
    refine wpAnyH_take (i := 3) (oi := ⟨some 35, _, _, _, _, _⟩) (v := .int .i64 (S - 1)) rfl (by kernel_rfl) (by kernel_rfl) (by kernel_rfl) (fun _ _ _ h => h) (Or.inl ⟨by rfl, ?_⟩) (by assumption) ?_
    ·intro w0 hSw
     obtain ⟨e0, e1, e2, e3, e4, e5⟩ := hSw
     go_simp
     (try with_reducible rfl)
    (try simp only [Act.put, List.setIfInBounds_toArray, List.set_cons_zero, List.set_cons_succ])
    refine wpAnyH_take (i := 4) (oi := ⟨some 36, _, _, _, _, _⟩) (v := .int .i64 S) rfl (by kernel_rfl) (by kernel_rfl) (by kernel_rfl) (fun _ _ _ h => h) (Or.inl ⟨by rfl, ?_⟩) (by assumption) ?_
    ·intro w0 hSw
     obtain ⟨e0, e1, e2, e3, e4, e5⟩ := hSw
     go_simp
     (try with_reducible rfl)
    (try simp only [Act.put, List.setIfInBounds_toArray, List.set_cons_zero, List.set_cons_succ])
    refine wpAnyH_take (i := 5) (oi := ⟨some 37, _, _, _, _, _⟩) (v := .int .i64 (S - 1)) rfl (by kernel_rfl) (by kernel_rfl) (by kernel_rfl) (fun _ _ _ h => h) (Or.inl ⟨by rfl, ?_⟩) (by assumption) ?_
    ·intro w0 hSw
     obtain ⟨e0, e1, e2, e3, e4, e5⟩ := hSw
     go_simp
     (try with_reducible rfl)
    (try simp only [Act.put, List.setIfInBounds_toArray, List.set_cons_zero, List.set_cons_succ])
    refine wpAnyH_take (i := 6) (oi := ⟨some 38, _, _, _, _, _⟩) (v := .slice (some ⟨b, o, none⟩) l.length cap) rfl (by kernel_rfl) (by kernel_rfl) (by kernel_rfl) (fun _ _ _ h => h) (Or.inl ⟨by rfl, ?_⟩) (by assumption) ?_
    ·intro w0 hSw
     obtain ⟨e0, e1, e2, e3, e4, e5⟩ := hSw
     go_simp
     (try with_reducible rfl)
    (try simp only [Act.put, List.setIfInBounds_toArray, List.set_cons_zero, List.set_cons_succ])
    refine wpAnyH_take (i := 7) (oi := ⟨some 39, _, _, _, _, _⟩) (v := .int .i64 (z : Int)) rfl (by kernel_rfl) (by kernel_rfl) (by kernel_rfl) (fun _ _ _ h => h) (Or.inl ⟨by rfl, ?_⟩) (by assumption) ?_
    ·intro w0 hSw
     obtain ⟨e0, e1, e2, e3, e4, e5⟩ := hSw
     go_simp
     (try with_reducible rfl)
    (try simp only [Act.put, List.setIfInBounds_toArray, List.set_cons_zero, List.set_cons_succ])
    refine wpAnyH_take (i := 8) (oi := ⟨some 40, _, _, _, _, _⟩) (v := .pointer (some ⟨b, o + z * 7, none⟩)) rfl (by kernel_rfl) (by kernel_rfl) (by kernel_rfl) (fun _ _ _ h => h) (Or.inl ⟨by rfl, ?_⟩) (by assumption) ?_
    ·intro w0 hSw
     obtain ⟨e0, e1, e2, e3, e4, e5⟩ := hSw
     go_simp
     (try with_reducible rfl)
    (try simp only [Act.put, List.setIfInBounds_toArray, List.set_cons_zero, List.set_cons_succ])
    refine wpAnyH_take (i := 9) (oi := ⟨some 41, _, _, _, _, _⟩) (v := .pointer (some ⟨b, o + z * 7 + 5, none⟩)) rfl (by kernel_rfl) (by kernel_rfl) (by kernel_rfl) (fun _ _ _ h => h) (Or.inl ⟨by rfl, ?_⟩) (by assumption) ?_
    ·intro w0 hSw
     obtain ⟨e0, e1, e2, e3, e4, e5⟩ := hSw
     go_simp
     (try with_reducible rfl)
    (try simp only [Act.put, List.setIfInBounds_toArray, List.set_cons_zero, List.set_cons_succ])
    refine wpAnyH_take (i := 10) (oi := ⟨some 42, _, _, _, _, _⟩) (v := .int .i64 x.q) rfl (by kernel_rfl) (by kernel_rfl) (by kernel_rfl) (fun _ _ _ h => h) (Or.inl ⟨by rfl, ?_⟩) (by assumption) ?_
    ·intro w0 hSw
     obtain ⟨e0, e1, e2, e3, e4, e5⟩ := hSw
     go_simp
     (try with_reducible rfl)
    (try simp only [Act.put, List.setIfInBounds_toArray, List.set_cons_zero, List.set_cons_succ])
    refine wpAnyH_take (i := 11) (oi := ⟨some 43, _, _, _, _, _⟩) (v := .slice (some ⟨b, o, none⟩) l.length cap) rfl (by kernel_rfl) (by kernel_rfl) (by kernel_rfl) (fun _ _ _ h => h) (Or.inl ⟨by rfl, ?_⟩) (by assumption) ?_
    ·intro w0 hSw
     obtain ⟨e0, e1, e2, e3, e4, e5⟩ := hSw
     go_simp
     (try with_reducible rfl)
    (try simp only [Act.put, List.setIfInBounds_toArray, List.set_cons_zero, List.set_cons_succ])
    refine wpAnyH_take (i := 12) (oi := ⟨some 44, _, _, _, _, _⟩) (v := .int .i64 (z : Int)) rfl (by kernel_rfl) (by kernel_rfl) (by kernel_rfl) (fun _ _ _ h => h) (Or.inl ⟨by rfl, ?_⟩) (by assumption) ?_
    ·intro w0 hSw
     obtain ⟨e0, e1, e2, e3, e4, e5⟩ := hSw
     go_simp
     (try with_reducible rfl)
    (try simp only [Act.put, List.setIfInBounds_toArray, List.set_cons_zero, List.set_cons_succ])
    refine wpAnyH_take (i := 13) (oi := ⟨some 45, _, _, _, _, _⟩) (v := .pointer (some ⟨b, o + z * 7, none⟩)) rfl (by kernel_rfl) (by kernel_rfl) (by kernel_rfl) (fun _ _ _ h => h) (Or.inl ⟨by rfl, ?_⟩) (by assumption) ?_
    ·intro w0 hSw
     obtain ⟨e0, e1, e2, e3, e4, e5⟩ := hSw
     go_simp
     (try with_reducible rfl)
    (try simp only [Act.put, List.setIfInBounds_toArray, List.set_cons_zero, List.set_cons_succ])
    refine wpAnyH_take (i := 14) (oi := ⟨some 46, _, _, _, _, _⟩) (v := .pointer (some ⟨b, o + z * 7 + 5, none⟩)) rfl (by kernel_rfl) (by kernel_rfl) (by kernel_rfl) (fun _ _ _ h => h) (Or.inl ⟨by rfl, ?_⟩) (by assumption) ?_
    ·intro w0 hSw
     obtain ⟨e0, e1, e2, e3, e4, e5⟩ := hSw
     go_simp
     (try with_reducible rfl)
    (try simp only [Act.put, List.setIfInBounds_toArray, List.set_cons_zero, List.set_cons_succ])
    refine wpAnyH_take (i := 15) (oi := ⟨some 47, _, _, _, _, _⟩) (v := .int .i64 x.q) rfl (by kernel_rfl) (by kernel_rfl) (by kernel_rfl) (fun _ _ _ h => h) (Or.inl ⟨by rfl, ?_⟩) (by assumption) ?_
    ·intro w0 hSw
     obtain ⟨e0, e1, e2, e3, e4, e5⟩ := hSw
     go_simp
     (try with_reducible rfl)
    (try simp only [Act.put, List.setIfInBounds_toArray, List.set_cons_zero, List.set_cons_succ])
    refine wpAnyH_ready (rs := [16]) (by kernel_rfl) (by simp) ?_
    refine (AllReadyH.cons (o := ⟨some 48, _, _, _, _, _⟩) rfl (fun K hK => ?_) AllReadyH.nil)
    obtain ⟨N8, hN8⟩ : ∃ N8, W7.heap.size = N8 := ⟨_, rfl⟩
    obtain ⟨W8, hW8, HC8, hN, X8⟩ : ∃ W8, W7.alloc (.cells #[.int .i64 x.q] T64s) = W8 ∧ Hid (CrS w (.slice (some ⟨b, o, none⟩) l.length cap) jb (jb + 1) fb S [] W8) ∧ W8.heap.size = N8 + 1 ∧ Hid (Boxed W8 N8 T64s (.int .i64 x.q)) :=
     ⟨_, rfl, Lib.hid (HC7.out.later ((Below.refl _ _).alloc (Nat.le_refl _) _)), by simp [hN8], Lib.hid (by rw [← hN8]; exact Boxed.new _ _ _)⟩
    go_simp
    refine hK.out _ _ (CrC.of HC8.out HROW.out HZ.out) (fun hHeld => ?_)
    clear hK K hW8
    (try simp only [Act.put, List.setIfInBounds_toArray, List.set_cons_zero, List.set_cons_succ])
    refine wpAnyH_take (i := 17) (oi := ⟨some 49, _, _, _, _, _⟩) (v := .agg #[.int .i64 (z : Int), .int .i64 (S - 1), .int .i64 (S - 1), .int .i64 x.q, .slice (some ⟨N8, 0, none⟩) 1 1]) rfl (by kernel_rfl) (by kernel_rfl) (by kernel_rfl) (fun _ _ _ h => h) (Or.inl ⟨by rfl, ?_⟩) (by assumption) ?_
    ·intro w0 hSw
     obtain ⟨e0, e1, e2, e3, e4, e5⟩ := hSw
     go_simp
     (try with_reducible rfl)
    (try simp only [Act.put, List.setIfInBounds_toArray, List.set_cons_zero, List.set_cons_succ])
    refine wpAnyH_ready (rs := [18]) (by kernel_rfl) (by simp) ?_
    refine (AllReadyH.cons (o := ⟨some 50, _, _, _, _, _⟩) rfl (fun K hK => ?_) AllReadyH.nil)
    have hcr : CRow W8 (some ⟨N8, 0, none⟩) 1 [x.q] := ⟨by simp, by decide, by intro v hv; rw [List.mem_singleton.1 hv]; exact ⟨by omega, by omega⟩, by
     intro i v hv
     cases i with
     | zero => obtain rfl : x.q = v := by simpa using hv
               exact ⟨N8, 0, rfl, X8.out.cell⟩
     | succ i => simp at hv⟩
    have hgk : GOk TJb w.heap.size W8 ⟨⟨z, S - 1, S - 1, x.q, [x.q]⟩, some ⟨N8, 0, none⟩, 1⟩ := ⟨⟨⟨by show _ ≤ (z : Int); omega, by show (z : Int) ≤ _; omega⟩, ⟨by show _ ≤ S - 1; omega, by show S - 1 ≤ _; omega⟩, ⟨by show _ ≤ S - 1; omega, by show S - 1 ≤ _; omega⟩, ⟨by show _ ≤ x.q; omega, by show x.q ≤ _; omega⟩⟩, hcr, fun _ a ha => .inr (by cases ha; exact ⟨_, _, _, X8.out, by decide⟩)⟩
    have KP := Lib.hid (put_more w.heap.size jb [] ⟨z, S - 1, S - 1, x.q, [x.q]⟩ (some ⟨N8, 0, none⟩) 1 W8 HC8.out.pu hgk (by simp))
    clear hcr hgk
    go_simp
    go_at_call 33
    refine KP.out.mono ?_
    rintro e w9 ⟨rfl, hb, hk9, ho, hg, hp⟩
    have HC9 := HC8.out.put hb hk9 hp
    refine hK.out _ _ (CrC.of HC9 HROW.out HZ.out) (fun hHeld => ?_)
    clear hK K
    (try simp only [Act.put, List.setIfInBounds_toArray, List.set_cons_zero, List.set_cons_succ])
    refine wpAnyH_done (by kernel_rfl) ?_ _
    refine NoPanic.normal ?_
    simp only [Exit.then]
    apply_assumption
    go_meet
    exact Lib.hid (by rw [HH.out]; exact HC9)
 case rest =>
  have HC9 := hcut
  obtain ⟨w9, hw9⟩ : ∃ W, W = wc := ⟨_, rfl⟩
  subst hw9
  clear HC6 HBK
  obtain ⟨hn1, -⟩ := scene_len (ts := l) (i := (k : Int))
  obtain ⟨H, hH⟩ : ∃ H, headS l (k : Int) = H := ⟨_, rfl⟩
  rw [hH] at HC9 hn1
  have HH := Lib.hid hH
  clear hH hcut
  obtain ⟨Aj, cj, hjx, hjl, hjm⟩ := HC9.out.pu.box
  have cjx := hjx.cell
  clear hjx
  go_upto_region 10 with (fail)
  clear cjx hjl hjm hw1
  have hw2 : IntKind.i64.wrap (S - y.j) = S - y.j := by rw [IntKind.wrap_i64]; omega
  have hi0 : (0 : Int) ≤ (k : Int) := by omega
  have hi1 : (k : Int) < (l.length : Int) := by omega
  obtain ⟨M, hM⟩ : ∃ M : Fv, M = ⟨k, S - y.j, S, y.c, []⟩ := ⟨_, rfl⟩
  have HM := Lib.hid hM
  clear hM
  have hyc := HDC.out y (List.mem_of_getElem? HYY.out)
  have hyv := HVT.out k
  rw [tk_get HYY.out] at hyv
  have yc0 := hyv.c0
  have yc1 := hyv.c1
  go_cut [] from 53 to 69 (fun wx => Hid (CrS w (.slice (some ⟨b, o, none⟩) l.length cap) jb (jb + 1) fb S (H ++ [M]) wx))
  case first =>
   have HC10 := Lib.hid (HC9.out.later (below_drew w9))
   have HC0 := CrC.of HC10.out HROW.out HYY.out
   refine wp_region_noPanic ?_
   refine wp_region_held_drew (S := CrC w.heap.size (.slice (some ⟨b, o, none⟩) l.length cap) (jb + 1) jb fb S b (o + k * 7) y) (by kernel_rfl) HC0 (fun hHeld => ?_)
   clear HC0
   generalize w9.drew = W7 at *
   refine wpAnyH_take (i := 0) (oi := ⟨some 53, _, _, _, _, _⟩) (v := .func (.func 33) #[] #[.pointer (some ⟨jb, 0, none⟩)]) rfl (by kernel_rfl) (by kernel_rfl) (by kernel_rfl) (fun _ _ _ h => h) (Or.inl ⟨by rfl, ?_⟩) (by assumption) ?_
   ·intro w0 hSw
    obtain ⟨e0, e1, e2, e3, e4, e5⟩ := hSw
    go_simp
    (try with_reducible rfl)
   (try simp only [Act.put, List.setIfInBounds_toArray, List.set_cons_zero, List.set_cons_succ])
   refine wpAnyH_take (i := 1) (oi := ⟨some 54, _, _, _, _, _⟩) (v := .int .i64 (k : Int)) rfl (by kernel_rfl) (by kernel_rfl) (by kernel_rfl) (fun _ _ _ h => h) (Or.inl ⟨by rfl, ?_⟩) (by assumption) ?_
   ·intro w0 hSw
    obtain ⟨e0, e1, e2, e3, e4, e5⟩ := hSw
    go_simp
    (try with_reducible rfl)
   (try simp only [Act.put, List.setIfInBounds_toArray, List.set_cons_zero, List.set_cons_succ])
   refine wpAnyH_take (i := 2) (oi := ⟨some 55, _, _, _, _, _⟩) (v := .int .i64 S) rfl (by kernel_rfl) (by kernel_rfl) (by kernel_rfl) (fun _ _ _ h => h) (Or.inl ⟨by rfl, ?_⟩) (by assumption) ?_
   ·intro w0 hSw
    obtain ⟨e0, e1, e2, e3, e4, e5⟩ := hSw
    go_simp
    (try with_reducible rfl)
   (try simp only [Act.put, List.setIfInBounds_toArray, List.set_cons_zero, List.set_cons_succ])
   refine wpAnyH_take (i := 3) (oi := ⟨some 56, _, _, _, _, _⟩) (v := .slice (some ⟨b, o, none⟩) l.length cap) rfl (by kernel_rfl) (by kernel_rfl) (by kernel_rfl) (fun _ _ _ h => h) (Or.inl ⟨by rfl, ?_⟩) (by assumption) ?_
   ·intro w0 hSw
    obtain ⟨e0, e1, e2, e3, e4, e5⟩ := hSw
    go_simp
    (try with_reducible rfl)
   (try simp only [Act.put, List.setIfInBounds_toArray, List.set_cons_zero, List.set_cons_succ])
   refine wpAnyH_take (i := 4) (oi := ⟨some 57, _, _, _, _, _⟩) (v := .int .i64 (k : Int)) rfl (by kernel_rfl) (by kernel_rfl) (by kernel_rfl) (fun _ _ _ h => h) (Or.inl ⟨by rfl, ?_⟩) (by assumption) ?_
   ·intro w0 hSw
    obtain ⟨e0, e1, e2, e3, e4, e5⟩ := hSw
    go_simp
    (try with_reducible rfl)
   (try simp only [Act.put, List.setIfInBounds_toArray, List.set_cons_zero, List.set_cons_succ])
   refine wpAnyH_take (i := 5) (oi := ⟨some 58, _, _, _, _, _⟩) (v := .pointer (some ⟨b, o + k * 7, none⟩)) rfl (by kernel_rfl) (by kernel_rfl) (by kernel_rfl) (fun _ _ _ h => h) (Or.inl ⟨by rfl, ?_⟩) (by assumption) ?_
   ·intro w0 hSw
    obtain ⟨e0, e1, e2, e3, e4, e5⟩ := hSw
    go_simp
    (try with_reducible rfl)
   (try simp only [Act.put, List.setIfInBounds_toArray, List.set_cons_zero, List.set_cons_succ])
   refine wpAnyH_take (i := 6) (oi := ⟨some 59, _, _, _, _, _⟩) (v := .pointer (some ⟨b, o + k * 7 + 4, none⟩)) rfl (by kernel_rfl) (by kernel_rfl) (by kernel_rfl) (fun _ _ _ h => h) (Or.inl ⟨by rfl, ?_⟩) (by assumption) ?_
   ·intro w0 hSw
    obtain ⟨e0, e1, e2, e3, e4, e5⟩ := hSw
    go_simp
    (try with_reducible rfl)
   (try simp only [Act.put, List.setIfInBounds_toArray, List.set_cons_zero, List.set_cons_succ])
   refine wpAnyH_take (i := 7) (oi := ⟨some 60, _, _, _, _, _⟩) (v := .int .i64 y.j) rfl (by kernel_rfl) (by kernel_rfl) (by kernel_rfl) (fun _ _ _ h => h) (Or.inl ⟨by rfl, ?_⟩) (by assumption) ?_
   ·intro w0 hSw
    obtain ⟨e0, e1, e2, e3, e4, e5⟩ := hSw
    go_simp
    (try with_reducible rfl)
   (try simp only [Act.put, List.setIfInBounds_toArray, List.set_cons_zero, List.set_cons_succ])
   refine wpAnyH_take (i := 8) (oi := ⟨some 61, _, _, _, _, _⟩) (v := .int .i64 (S - y.j)) rfl (by kernel_rfl) (by kernel_rfl) (by kernel_rfl) (fun _ _ _ h => h) (Or.inl ⟨by rfl, ?_⟩) (by assumption) ?_
   ·intro w0 hSw
    obtain ⟨e0, e1, e2, e3, e4, e5⟩ := hSw
    go_simp
    (try with_reducible rfl)
   (try simp only [Act.put, List.setIfInBounds_toArray, List.set_cons_zero, List.set_cons_succ])
   refine wpAnyH_take (i := 9) (oi := ⟨some 62, _, _, _, _, _⟩) (v := .int .i64 S) rfl (by kernel_rfl) (by kernel_rfl) (by kernel_rfl) (fun _ _ _ h => h) (Or.inl ⟨by rfl, ?_⟩) (by assumption) ?_
   ·intro w0 hSw
    obtain ⟨e0, e1, e2, e3, e4, e5⟩ := hSw
    go_simp
    (try with_reducible rfl)
   (try simp only [Act.put, List.setIfInBounds_toArray, List.set_cons_zero, List.set_cons_succ])
   refine wpAnyH_take (i := 10) (oi := ⟨some 63, _, _, _, _, _⟩) (v := .slice (some ⟨b, o, none⟩) l.length cap) rfl (by kernel_rfl) (by kernel_rfl) (by kernel_rfl) (fun _ _ _ h => h) (Or.inl ⟨by rfl, ?_⟩) (by assumption) ?_
   ·intro w0 hSw
    obtain ⟨e0, e1, e2, e3, e4, e5⟩ := hSw
    go_simp
    (try with_reducible rfl)
   (try simp only [Act.put, List.setIfInBounds_toArray, List.set_cons_zero, List.set_cons_succ])
   refine wpAnyH_take (i := 11) (oi := ⟨some 64, _, _, _, _, _⟩) (v := .int .i64 (k : Int)) rfl (by kernel_rfl) (by kernel_rfl) (by kernel_rfl) (fun _ _ _ h => h) (Or.inl ⟨by rfl, ?_⟩) (by assumption) ?_
   ·intro w0 hSw
    obtain ⟨e0, e1, e2, e3, e4, e5⟩ := hSw
    go_simp
    (try with_reducible rfl)
   (try simp only [Act.put, List.setIfInBounds_toArray, List.set_cons_zero, List.set_cons_succ])
   refine wpAnyH_take (i := 12) (oi := ⟨some 65, _, _, _, _, _⟩) (v := .pointer (some ⟨b, o + k * 7, none⟩)) rfl (by kernel_rfl) (by kernel_rfl) (by kernel_rfl) (fun _ _ _ h => h) (Or.inl ⟨by rfl, ?_⟩) (by assumption) ?_
   ·intro w0 hSw
    obtain ⟨e0, e1, e2, e3, e4, e5⟩ := hSw
    go_simp
    (try with_reducible rfl)
   (try simp only [Act.put, List.setIfInBounds_toArray, List.set_cons_zero, List.set_cons_succ])
   refine wpAnyH_take (i := 13) (oi := ⟨some 66, _, _, _, _, _⟩) (v := .pointer (some ⟨b, o + k * 7 + 1, none⟩)) rfl (by kernel_rfl) (by kernel_rfl) (by kernel_rfl) (fun _ _ _ h => h) (Or.inl ⟨by rfl, ?_⟩) (by assumption) ?_
   ·intro w0 hSw
    obtain ⟨e0, e1, e2, e3, e4, e5⟩ := hSw
    go_simp
    (try with_reducible rfl)
   (try simp only [Act.put, List.setIfInBounds_toArray, List.set_cons_zero, List.set_cons_succ])
   refine wpAnyH_take (i := 14) (oi := ⟨some 67, _, _, _, _, _⟩) (v := .int .i64 y.c) rfl (by kernel_rfl) (by kernel_rfl) (by kernel_rfl) (fun _ _ _ h => h) (Or.inl ⟨by rfl, ?_⟩) (by assumption) ?_
   ·intro w0 hSw
    obtain ⟨e0, e1, e2, e3, e4, e5⟩ := hSw
    go_simp
    (try with_reducible rfl)
   (try simp only [Act.put, List.setIfInBounds_toArray, List.set_cons_zero, List.set_cons_succ])
   refine wpAnyH_take (i := 15) (oi := ⟨some 68, _, _, _, _, _⟩) (v := .agg #[.int .i64 (k : Int), .int .i64 (S - y.j), .int .i64 S, .int .i64 y.c, .slice none 0 0]) rfl (by kernel_rfl) (by kernel_rfl) (by kernel_rfl) (fun _ _ _ h => h) (Or.inl ⟨by rfl, ?_⟩) (by assumption) ?_
   ·intro w0 hSw
    obtain ⟨e0, e1, e2, e3, e4, e5⟩ := hSw
    kernel_rfl
   (try simp only [Act.put, List.setIfInBounds_toArray, List.set_cons_zero, List.set_cons_succ])
   refine wpAnyH_ready (rs := [16]) (by kernel_rfl) (by simp) ?_
   refine (AllReadyH.cons (o := ⟨some 69, _, _, _, _, _⟩) rfl (fun K hK => ?_) AllReadyH.nil)
   have hgk : GOk TJb w.heap.size W7 ⟨M, none, 0⟩ := gok_nil (by rw [HM.out]; exact ⟨⟨by show _ ≤ (k : Int); omega, by show (k : Int) ≤ _; omega⟩, ⟨by show _ ≤ S - y.j; omega, by show S - y.j ≤ _; omega⟩, ⟨by show _ ≤ S; omega, by show S ≤ _; omega⟩, ⟨by show _ ≤ y.c; omega, by show y.c ≤ _; omega⟩⟩) (by rw [HM.out])
   have KP0 := put_more w.heap.size jb H M none 0 W7 HC10.out.pu hgk (by omega)
   rw [HM.out] at KP0
   have KP := Lib.hid KP0
   clear hgk KP0
   go_simp
   go_at_call 33
   refine KP.out.mono ?_
   rintro e w10 ⟨rfl, hb, hk9, ho, hg, hp⟩
   have HC11 := HC10.out.put hb hk9 hp
   refine hK.out _ _ (CrC.of HC11 HROW.out HYY.out) (fun hHeld => ?_)
   clear hK K
   (try simp only [Act.put, List.setIfInBounds_toArray, List.set_cons_zero, List.set_cons_succ])
   refine wpAnyH_done (by kernel_rfl) ?_ _
   refine NoPanic.normal ?_
   simp only [Exit.then]
   apply_assumption
   go_meet
   exact Lib.hid (by rw [HM.out]; exact HC11)
  case rest =>
   have HC11 := hcut
   obtain ⟨w11, hw11⟩ : ∃ W, W = wc := ⟨_, rfl⟩
   subst hw11
   clear HC9 hcut hw2
   have hd0 := hyc.d0
   have hd1 := hyc.d1
   have hcj := hyc.cj
   have hw3 : IntKind.i64.wrap (S + y.d) = S + y.d := by rw [IntKind.wrap_i64]; omega
   obtain ⟨E, hE⟩ : ∃ E, S + y.d - y.j = E := ⟨_, rfl⟩
   have hw4 : IntKind.i64.wrap E = E := by rw [IntKind.wrap_i64]; omega
   obtain ⟨b', o', y', e, hy', _, hl', hTy⟩ := HROW.out.get hk
   cases e
   obtain rfl : y = y' := by have := HYY.out; rw [this] at hy'; simpa using hy'
   have hTy2 : TAt w11 b (o + k * 7) y := ⟨fun j v hv => (HC11.out.b.cell (p := ⟨b, o + k * 7 + j, none⟩) hl').trans (hTy.r j v hv)⟩
   have c3 := hTy2.c3
   have c4 := hTy2.c4
   have cl := HC11.out.lx.cell
   have cf := HC11.out.fr.cell
   clear hTy hTy2 hy' hl' hyc hyv
   apply_assumption
   go_upto_region 11 with (fail)
   go_cut [13, 14] from 70 to 82 (fun s13 s14 wx => ∃ eb hb : Nat, s13 = .pointer (some ⟨eb, 0, none⟩) ∧ s14 = .pointer (some ⟨hb, 0, none⟩) ∧ Hid (w.heap.size ≤ eb ∧ w.heap.size ≤ hb) ∧ Hid (CrS w (.slice (some ⟨b, o, none⟩) l.length cap) jb (jb + 1) fb S (H ++ [M]) wx ∧ Boxed wx eb T64s (.int .i64 E) ∧ Boxed wx hb TBo (.bool true)))
   case first =>
    have HC0 := CrD.of (HC11.out.later (below_drew w11)) HROW.out HYY.out
    have HC11 := Lib.hid (HC11.out.later (below_drew w11))
    refine wp_region_noPanic ?_
    refine wp_region_held_drew (S := CrD w.heap.size (.slice (some ⟨b, o, none⟩) l.length cap) fb S b (o + k * 7) y) (by kernel_rfl) HC0 (fun hHeld => ?_)
    clear HC0 c3 c4 cl cf
    generalize w11.drew = W7 at *
    obtain ⟨N7, hN7⟩ : ∃ N7, W7.heap.size = N7 := ⟨_, rfl⟩
    have HN7 := Lib.hid hN7
    have HNB : Hid (w.heap.size ≤ N7 ∧ w.heap.size ≤ N7 + 1) := Lib.hid (by have := HC11.out.b.size; omega)
    clear hN7
    refine wpAnyH_take (i := 0) (oi := ⟨some 70, _, _, _, _, _⟩) (v := .int .i64 S) rfl (by kernel_rfl) (by kernel_rfl) (by kernel_rfl) (fun _ _ _ h => h) (Or.inl ⟨by rfl, ?_⟩) (by assumption) ?_
    ·intro w0 hSw
     obtain ⟨e0, e1, e2, e3⟩ := hSw
     go_simp
     (try with_reducible rfl)
    (try simp only [Act.put, List.setIfInBounds_toArray, List.set_cons_zero, List.set_cons_succ])
    refine wpAnyH_take (i := 1) (oi := ⟨some 71, _, _, _, _, _⟩) (v := .slice (some ⟨b, o, none⟩) l.length cap) rfl (by kernel_rfl) (by kernel_rfl) (by kernel_rfl) (fun _ _ _ h => h) (Or.inl ⟨by rfl, ?_⟩) (by assumption) ?_
    ·intro w0 hSw
     obtain ⟨e0, e1, e2, e3⟩ := hSw
     go_simp
     (try with_reducible rfl)
    (try simp only [Act.put, List.setIfInBounds_toArray, List.set_cons_zero, List.set_cons_succ])
    refine wpAnyH_take (i := 2) (oi := ⟨some 72, _, _, _, _, _⟩) (v := .int .i64 (k : Int)) rfl (by kernel_rfl) (by kernel_rfl) (by kernel_rfl) (fun _ _ _ h => h) (Or.inl ⟨by rfl, ?_⟩) (by assumption) ?_
    ·intro w0 hSw
     obtain ⟨e0, e1, e2, e3⟩ := hSw
     go_simp
     (try with_reducible rfl)
    (try simp only [Act.put, List.setIfInBounds_toArray, List.set_cons_zero, List.set_cons_succ])
    refine wpAnyH_take (i := 3) (oi := ⟨some 73, _, _, _, _, _⟩) (v := .pointer (some ⟨b, o + k * 7, none⟩)) rfl (by kernel_rfl) (by kernel_rfl) (by kernel_rfl) (fun _ _ _ h => h) (Or.inl ⟨by rfl, ?_⟩) (by assumption) ?_
    ·intro w0 hSw
     obtain ⟨e0, e1, e2, e3⟩ := hSw
     go_simp
     (try with_reducible rfl)
    (try simp only [Act.put, List.setIfInBounds_toArray, List.set_cons_zero, List.set_cons_succ])
    refine wpAnyH_take (i := 4) (oi := ⟨some 74, _, _, _, _, _⟩) (v := .pointer (some ⟨b, o + k * 7 + 3, none⟩)) rfl (by kernel_rfl) (by kernel_rfl) (by kernel_rfl) (fun _ _ _ h => h) (Or.inl ⟨by rfl, ?_⟩) (by assumption) ?_
    ·intro w0 hSw
     obtain ⟨e0, e1, e2, e3⟩ := hSw
     go_simp
     (try with_reducible rfl)
    (try simp only [Act.put, List.setIfInBounds_toArray, List.set_cons_zero, List.set_cons_succ])
    refine wpAnyH_take (i := 5) (oi := ⟨some 75, _, _, _, _, _⟩) (v := .int .i64 y.d) rfl (by kernel_rfl) (by kernel_rfl) (by kernel_rfl) (fun _ _ _ h => h) (Or.inl ⟨by rfl, ?_⟩) (by assumption) ?_
    ·intro w0 hSw
     obtain ⟨e0, e1, e2, e3⟩ := hSw
     go_simp
     (try with_reducible rfl)
    (try simp only [Act.put, List.setIfInBounds_toArray, List.set_cons_zero, List.set_cons_succ])
    refine wpAnyH_take (i := 6) (oi := ⟨some 76, _, _, _, _, _⟩) (v := .int .i64 (S + y.d)) rfl (by kernel_rfl) (by kernel_rfl) (by kernel_rfl) (fun _ _ _ h => h) (Or.inl ⟨by rfl, ?_⟩) (by assumption) ?_
    ·intro w0 hSw
     obtain ⟨e0, e1, e2, e3⟩ := hSw
     go_simp
     (try with_reducible rfl)
    (try simp only [Act.put, List.setIfInBounds_toArray, List.set_cons_zero, List.set_cons_succ])
    refine wpAnyH_take (i := 7) (oi := ⟨some 77, _, _, _, _, _⟩) (v := .slice (some ⟨b, o, none⟩) l.length cap) rfl (by kernel_rfl) (by kernel_rfl) (by kernel_rfl) (fun _ _ _ h => h) (Or.inl ⟨by rfl, ?_⟩) (by assumption) ?_
    ·intro w0 hSw
     obtain ⟨e0, e1, e2, e3⟩ := hSw
     go_simp
     (try with_reducible rfl)
    (try simp only [Act.put, List.setIfInBounds_toArray, List.set_cons_zero, List.set_cons_succ])
    refine wpAnyH_take (i := 8) (oi := ⟨some 78, _, _, _, _, _⟩) (v := .int .i64 (k : Int)) rfl (by kernel_rfl) (by kernel_rfl) (by kernel_rfl) (fun _ _ _ h => h) (Or.inl ⟨by rfl, ?_⟩) (by assumption) ?_
    ·intro w0 hSw
     obtain ⟨e0, e1, e2, e3⟩ := hSw
     go_simp
     (try with_reducible rfl)
    (try simp only [Act.put, List.setIfInBounds_toArray, List.set_cons_zero, List.set_cons_succ])
    refine wpAnyH_take (i := 9) (oi := ⟨some 79, _, _, _, _, _⟩) (v := .pointer (some ⟨b, o + k * 7, none⟩)) rfl (by kernel_rfl) (by kernel_rfl) (by kernel_rfl) (fun _ _ _ h => h) (Or.inl ⟨by rfl, ?_⟩) (by assumption) ?_
    ·intro w0 hSw
     obtain ⟨e0, e1, e2, e3⟩ := hSw
     go_simp
     (try with_reducible rfl)
    (try simp only [Act.put, List.setIfInBounds_toArray, List.set_cons_zero, List.set_cons_succ])
    refine wpAnyH_take (i := 10) (oi := ⟨some 80, _, _, _, _, _⟩) (v := .pointer (some ⟨b, o + k * 7 + 4, none⟩)) rfl (by kernel_rfl) (by kernel_rfl) (by kernel_rfl) (fun _ _ _ h => h) (Or.inl ⟨by rfl, ?_⟩) (by assumption) ?_
    ·intro w0 hSw
     obtain ⟨e0, e1, e2, e3⟩ := hSw
     go_simp
     (try with_reducible rfl)
    (try simp only [Act.put, List.setIfInBounds_toArray, List.set_cons_zero, List.set_cons_succ])
    refine wpAnyH_take (i := 11) (oi := ⟨some 81, _, _, _, _, _⟩) (v := .int .i64 y.j) rfl (by kernel_rfl) (by kernel_rfl) (by kernel_rfl) (fun _ _ _ h => h) (Or.inl ⟨by rfl, ?_⟩) (by assumption) ?_
    ·intro w0 hSw
     obtain ⟨e0, e1, e2, e3⟩ := hSw
     go_simp
     (try with_reducible rfl)
    (try simp only [Act.put, List.setIfInBounds_toArray, List.set_cons_zero, List.set_cons_succ])
    refine wpAnyH_take (i := 12) (oi := ⟨some 82, _, _, _, _, _⟩) (v := .int .i64 E) rfl (by kernel_rfl) (by kernel_rfl) (by kernel_rfl) (fun _ _ _ h => h) (Or.inl ⟨by rfl, ?_⟩) (by assumption) ?_
    ·intro w0 hSw
     obtain ⟨e0, e1, e2, e3⟩ := hSw
     go_simp
     (try with_reducible rfl)
    (try simp only [Act.put, List.setIfInBounds_toArray, List.set_cons_zero, List.set_cons_succ])
    refine wpAnyH_ready (rs := [13, 14]) (by kernel_rfl) (by simp) ?_
    refine (AllReadyH.cons (o := ⟨some 13, _, _, _, _, _⟩) rfl (fun K hK => ?_) (AllReadyH.cons (o := ⟨some 14, _, _, _, _, _⟩) rfl (fun K hK => ?_) AllReadyH.nil))
    ·go_simp
     obtain ⟨W8, hW8, HB8, X8, S8⟩ : ∃ W8, W7.alloc (.cells #[.int .i64 0] T64s) = W8 ∧ Hid (Below W7.heap.size W7 W8) ∧ Hid (Boxed W8 N7 T64s (.int .i64 0)) ∧ Hid (W8.heap.size = N7 + 1) :=
      ⟨_, rfl, Lib.hid ((Below.refl _ _).alloc (Nat.le_refl _) _), Lib.hid (by rw [← HN7.out]; exact Boxed.new _ _ _), Lib.hid (by simp [HN7.out])⟩
     rw [HN7.out]
     rw [hW8]
     clear hW8
     refine hK.out _ _ (CrD.of (HC11.out.later HB8.out) HROW.out HYY.out) (fun hHeld => ?_)
     clear hK K
     (try simp only [Act.put, List.setIfInBounds_toArray, List.set_cons_zero, List.set_cons_succ])
     refine wpAnyH_ready (rs := [14]) (by kernel_rfl) (by simp) ?_
     refine (AllReadyH.cons (o := ⟨some 14, _, _, _, _, _⟩) rfl (fun K hK => ?_) AllReadyH.nil)
     go_simp
     obtain ⟨W9, hW9, HB9, X9, Y9⟩ : ∃ W9, W8.alloc (.cells #[.bool false] TBo) = W9 ∧ Hid (Below W7.heap.size W7 W9) ∧ Hid (Boxed W9 N7 T64s (.int .i64 0)) ∧ Hid (Boxed W9 (N7 + 1) TBo (.bool false)) :=
      ⟨_, rfl, Lib.hid (HB8.out.alloc HB8.out.size _), Lib.hid (Boxed.alloc X8.out _), Lib.hid (by rw [← S8.out]; exact Boxed.new _ _ _)⟩
     rw [S8.out]
     rw [hW9]
     clear hW9
     refine hK.out _ _ (CrD.of (HC11.out.later HB9.out) HROW.out HYY.out) (fun hHeld => ?_)
     clear hK K
     (try simp only [Act.put, List.setIfInBounds_toArray, List.set_cons_zero, List.set_cons_succ])
     refine wpAnyH_ready (rs := [15]) (by kernel_rfl) (by simp) ?_
     refine (AllReadyH.cons (o := ⟨none, _, _, _, _, _⟩) rfl (fun K hK => ?_) AllReadyH.nil)
     have ce := X9.out.cell
     have fe := X9.out.frozen
     go_simp
     clear ce fe
     obtain ⟨W10, hW10, HB10, X10, Y10⟩ : ∃ W10, W9.setCell ⟨N7, 0, none⟩ (.int .i64 E) = W10 ∧ Hid (Below W7.heap.size W7 W10) ∧ Hid (Boxed W10 N7 T64s (.int .i64 E)) ∧ Hid (Boxed W10 (N7 + 1) TBo (.bool false)) :=
      ⟨_, rfl, Lib.hid (HB9.out.setCell (p := ⟨N7, 0, none⟩) (by have := HN7.out; show W7.heap.size ≤ N7; omega) _), Lib.hid (Boxed.set _ X9.out), Lib.hid (Boxed.other Y9.out (by omega) _)⟩
     rw [hW10]
     clear hW10
     refine hK.out _ _ (CrD.of (HC11.out.later HB10.out) HROW.out HYY.out) (fun hHeld => ?_)
     clear hK K
     (try simp only [Act.put, List.setIfInBounds_toArray, List.set_cons_zero, List.set_cons_succ])
     refine wpAnyH_ready (rs := [16]) (by kernel_rfl) (by simp) ?_
     refine (AllReadyH.cons (o := ⟨none, _, _, _, _, _⟩) rfl (fun K hK => ?_) AllReadyH.nil)
     have ce := Y10.out.cell
     have fe := Y10.out.frozen
     go_simp
     clear ce fe
     have HB11 : Below W7.heap.size W7 (W10.setCell ⟨N7 + 1, 0, none⟩ (.bool true)) := HB10.out.setCell (p := ⟨N7 + 1, 0, none⟩) (by have := HN7.out; show W7.heap.size ≤ N7 + 1; omega) _
     have HFIN := Lib.hid (And.intro (HC11.out.later HB11) (And.intro (show Boxed (W10.setCell ⟨N7 + 1, 0, none⟩ (.bool true)) N7 T64s (.int .i64 E) from Boxed.other X10.out (by omega) _) (show Boxed (W10.setCell ⟨N7 + 1, 0, none⟩ (.bool true)) (N7 + 1) TBo (.bool true) from Boxed.set _ Y10.out)))
     refine hK.out _ _ (CrD.of (HC11.out.later HB11) HROW.out HYY.out) (fun hHeld => ?_)
     clear hK K HB11
     (try simp only [Act.put, List.setIfInBounds_toArray, List.set_cons_zero, List.set_cons_succ])
     refine wpAnyH_done (by kernel_rfl) ?_ _
     refine NoPanic.normal ?_
     simp only [Exit.then]
     apply_assumption
     go_meet
     exact ⟨_, _, rfl, rfl, HNB, HFIN⟩
    ·go_simp
     obtain ⟨W8, hW8, HB8, X8, S8⟩ : ∃ W8, W7.alloc (.cells #[.bool false] TBo) = W8 ∧ Hid (Below W7.heap.size W7 W8) ∧ Hid (Boxed W8 N7 TBo (.bool false)) ∧ Hid (W8.heap.size = N7 + 1) :=
      ⟨_, rfl, Lib.hid ((Below.refl _ _).alloc (Nat.le_refl _) _), Lib.hid (by rw [← HN7.out]; exact Boxed.new _ _ _), Lib.hid (by simp [HN7.out])⟩
     rw [HN7.out]
     rw [hW8]
     clear hW8
     refine hK.out _ _ (CrD.of (HC11.out.later HB8.out) HROW.out HYY.out) (fun hHeld => ?_)
     clear hK K
     (try simp only [Act.put, List.setIfInBounds_toArray, List.set_cons_zero, List.set_cons_succ])
     refine wpAnyH_ready (rs := [13]) (by kernel_rfl) (by simp) ?_
     refine (AllReadyH.cons (o := ⟨some 13, _, _, _, _, _⟩) rfl (fun K hK => ?_) AllReadyH.nil)
     go_simp
     obtain ⟨W9, hW9, HB9, X9, Y9⟩ : ∃ W9, W8.alloc (.cells #[.int .i64 0] T64s) = W9 ∧ Hid (Below W7.heap.size W7 W9) ∧ Hid (Boxed W9 N7 TBo (.bool false)) ∧ Hid (Boxed W9 (N7 + 1) T64s (.int .i64 0)) :=
      ⟨_, rfl, Lib.hid (HB8.out.alloc HB8.out.size _), Lib.hid (Boxed.alloc X8.out _), Lib.hid (by rw [← S8.out]; exact Boxed.new _ _ _)⟩
     rw [S8.out]
     rw [hW9]
     clear hW9
     refine hK.out _ _ (CrD.of (HC11.out.later HB9.out) HROW.out HYY.out) (fun hHeld => ?_)
     clear hK K
     (try simp only [Act.put, List.setIfInBounds_toArray, List.set_cons_zero, List.set_cons_succ])
     refine wpAnyH_ready (rs := [15]) (by kernel_rfl) (by simp) ?_
     refine (AllReadyH.cons (o := ⟨none, _, _, _, _, _⟩) rfl (fun K hK => ?_) AllReadyH.nil)
     have ce := Y9.out.cell
     have fe := Y9.out.frozen
     go_simp
     clear ce fe
     obtain ⟨W10, hW10, HB10, X10, Y10⟩ : ∃ W10, W9.setCell ⟨N7 + 1, 0, none⟩ (.int .i64 E) = W10 ∧ Hid (Below W7.heap.size W7 W10) ∧ Hid (Boxed W10 (N7 + 1) T64s (.int .i64 E)) ∧ Hid (Boxed W10 N7 TBo (.bool false)) :=
      ⟨_, rfl, Lib.hid (HB9.out.setCell (p := ⟨N7 + 1, 0, none⟩) (by have := HN7.out; show W7.heap.size ≤ N7 + 1; omega) _), Lib.hid (Boxed.set _ Y9.out), Lib.hid (Boxed.other X9.out (by omega) _)⟩
     rw [hW10]
     clear hW10
     refine hK.out _ _ (CrD.of (HC11.out.later HB10.out) HROW.out HYY.out) (fun hHeld => ?_)
     clear hK K
     (try simp only [Act.put, List.setIfInBounds_toArray, List.set_cons_zero, List.set_cons_succ])
     refine wpAnyH_ready (rs := [16]) (by kernel_rfl) (by simp) ?_
     refine (AllReadyH.cons (o := ⟨none, _, _, _, _, _⟩) rfl (fun K hK => ?_) AllReadyH.nil)
     have ce := Y10.out.cell
     have fe := Y10.out.frozen
     go_simp
     clear ce fe
     have HB11 : Below W7.heap.size W7 (W10.setCell ⟨N7, 0, none⟩ (.bool true)) := HB10.out.setCell (p := ⟨N7, 0, none⟩) (by have := HN7.out; show W7.heap.size ≤ N7; omega) _
     have HFIN := Lib.hid (And.intro (HC11.out.later HB11) (And.intro (show Boxed (W10.setCell ⟨N7, 0, none⟩ (.bool true)) (N7 + 1) T64s (.int .i64 E) from Boxed.other X10.out (by omega) _) (show Boxed (W10.setCell ⟨N7, 0, none⟩ (.bool true)) N7 TBo (.bool true) from Boxed.set _ Y10.out)))
     refine hK.out _ _ (CrD.of (HC11.out.later HB11) HROW.out HYY.out) (fun hHeld => ?_)
     clear hK K HB11
     (try simp only [Act.put, List.setIfInBounds_toArray, List.set_cons_zero, List.set_cons_succ])
     refine wpAnyH_done (by kernel_rfl) ?_ _
     refine NoPanic.normal ?_
     simp only [Exit.then]
     apply_assumption
     go_meet
     exact ⟨_, _, rfl, rfl, Lib.hid (And.intro HNB.out.2 HNB.out.1), HFIN⟩
   case rest =>
    obtain ⟨eb, hb, rfl, rfl, HEB, HX12⟩ := hcut
    obtain ⟨w12, hw12⟩ : ∃ W, W = wc := ⟨_, rfl⟩
    subst hw12
    apply_assumption
    go_wp2
    refine wp_label ?_
    obtain ⟨HC12, HXE, HXW⟩ : Hid (CrS w (.slice (some ⟨b, o, none⟩) l.length cap) jb (jb + 1) fb S (H ++ [M]) w12) ∧ Hid (Boxed w12 eb T64s (.int .i64 E)) ∧ Hid (Boxed w12 hb TBo (.bool true)) := ⟨Lib.hid HX12.out.1, Lib.hid HX12.out.2.1, Lib.hid HX12.out.2.2⟩
    clear HX12 c3 c4 cl cf hw3 hw4
    have cl := HC12.out.lx.cell
    have KL := Lib.hid (thigher_any (some ⟨b, o, none⟩) cap l (k : Int) w12 (HROW.out.later HC12.out.b) ⟨by omega, by omega⟩)
    have ALL := Lib.hid (fun W => all_any (higherF l (k : Int)) W)
    have HIN : Hid (∀ j, higherF l (k : Int) j = true → j < l.length) := Lib.hid (fun j hj => by
     rcases Nat.lt_or_ge j l.length with h | h
     ·exact h
     ·rw [higherF_far h] at hj; cases hj)
    obtain ⟨FL, hFL⟩ : ∃ FL : Nat → List Fv, FL = perL l (k : Int) := ⟨_, rfl⟩
    obtain ⟨f, hf⟩ : ∃ f, higherF l (k : Int) = f := ⟨_, rfl⟩
    have HSC : Hid (sceneS l (k : Int) = (H ++ [M]) ++ (nums f).flatMap FL) := Lib.hid (by
     rw [scene_split HYY.out (chk_len HCH.out).2, HH.out, HS.out, hf, HM.out, hFL])
    have HFL : Hid (∀ x, FL x = (List.range (perN l (k : Int) x)).map (perJ l S x)) := Lib.hid (by rw [hFL, ← HS.out]; intro x; rfl)
    rw [hf] at KL ALL HIN
    clear hf hFL
    go_upto_region 13 with (first
     | (go_at_call 36; (with_reducible refine KL.out.mono ?_); rintro e w13 ⟨rfl, h2⟩)
     | (go_at_call 37; (with_reducible refine (ALL.out _).mono ?_); rintro e w14 ⟨rfl, rfl⟩)
     | fail)
    have HC13 := HC12.out.later h2
    have HXE13 := boxed_later2 HXE.out h2
    have HXW13 := boxed_later2 HXW.out h2
    obtain ⟨W3, hW3, X3, B3, XE3, XW3, s3⟩ : ∃ W3, w13.alloc (.cells (cellsL f).toArray 82) = W3 ∧ CrS w (.slice (some ⟨b, o, none⟩) l.length cap) jb (jb + 1) fb S (H ++ [M]) W3 ∧ Box W3 w13.heap.size f ∧ Boxed W3 eb T64s (.int .i64 E) ∧ Boxed W3 hb TBo (.bool true) ∧ W3.heap.size = w13.heap.size + 1 :=
     ⟨_, rfl, HC13.later ((Below.refl _ _).alloc (Nat.le_refl _) _), Box.new _ _, Boxed.alloc HXE13 _, Boxed.alloc HXW13 _, by simp⟩
    rw [hW3]
    clear hW3 HC13 HXE13 HXW13 h2 KL ALL cl HC11 HC12 HXE HXW
    have hws := X3.b.size
    have HTAB3 := HTAB.out.below X3.b
    have SQ := Lib.hid (all2_seq (5 - 1) (by omega) f w13.heap.size (PC w.heap.size) W3 B3 HTAB3 (.inl ⟨by decide, by decide, by decide⟩) (fun T => .inr (by omega)))
    clear B3 HTAB3 s3
    refine (wpIn_wide (n := 5)).1 ?_
    refine wpIn_named fun fr hfr => ?_
    refine rangeG (vals := numV) (gf := 61) (lb := #[.pointer (some ⟨w13.heap.size, 0, none⟩)]) (by rw [hfr]; rfl) (enters_of Tryz.func61 (by kernel_rfl) rfl)
     SQ.out (Below.refl _ _) (fun x => rfl)
     (fun pre V => CrS w (.slice (some ⟨b, o, none⟩) l.length cap) jb (jb + 1) fb S ((H ++ [M]) ++ pre.flatMap FL) V ∧ Boxed V eb T64s (.int .i64 E) ∧ Boxed V hb TBo (.bool true))
     (fun c pre V => c = .exit 0 ∧ Below w.heap.size w V ∧ Boxed V hb TBo (.bool false) ∧ 4096 < (sceneS l (k : Int)).length)
     (fun pre X Y row h hg hr => ⟨h.1.own hg hr hws, boxed_kept h.2.1 hg (fun r e => (hr r e).2), boxed_kept h.2.2 hg (fun r e => (hr r e).2)⟩)
     (fun c s X Y row h hg hr => ⟨h.1, h.2.1.grown hg h.2.1.size (fun k e => by have := (hr k e).1; omega), boxed_kept h.2.2.1 hg (fun r e => (hr r e).2), h.2.2.2⟩)
     ⟨by rw [List.flatMap_nil, List.append_nil]; exact X3, XE3, XW3⟩
     (fun x a' V => a' = { tmps := (fr.tmps.setIfInBounds 87 (.int .i64 (x : Int))).setIfInBounds 15 (.int .i64 (x : Int)), defers := [] })
     (fun x a' _ X Y row hs hg hr => hs)
     ?assign ?body ?done ?stop
    case assign =>
     intro l2 pre x V K hi hK
     subst hfr
     clear SQ
     gi_wp2
     exact hK _ _ (KeepsFrom.refl _ _) (KeepG.refl _ _) hi rfl
    case body =>
     rintro l2 pre x a' V ⟨hi, hE2, hW2⟩ rfl ⟨r, hr⟩
     have hfx : f x = true := ((mem_nums f x).1 (by rw [hr]; simp)).2
     have hxl := HIN.out x hfx
     obtain ⟨b', o', z, e, hz, _, hl', hTz⟩ := HROW.out.get hxl
     cases e
     have hzv := HVT.out x
     rw [tk_get hz] at hzv
     obtain ⟨pa1, pa2, pa3, -⟩ := per_a HCH.out HYY.out hz
     obtain ⟨N, hN⟩ : ∃ N, perN l (k : Int) x = N := ⟨_, rfl⟩
     have HPL := Lib.hid (fun n : Nat => per_lt HCH.out HYY.out hz S n)
     have HPI := Lib.hid (fun n : Nat => perJ_is hz hzv.j0 pa3 S n)
     rw [hN, hE] at HPL
     have HFX : Hid (FL x = (List.range N).map (perJ l S x)) := Lib.hid (by rw [HFL.out, hN])
     have HR := Lib.hid hr
     have zj0 := hzv.j0
     have zj1 := hzv.j1
     have zt1 := hzv.t1
     have zc0 := hzv.c0
     have zc1 := hzv.c1
     have hw5 : IntKind.i64.wrap (S - z.j) = S - z.j := by rw [IntKind.wrap_i64]; omega
     have i0 : (0 : Int) ≤ (x : Int) := by omega
     have i1 : (x : Int) < (l.length : Int) := by omega
     have HTZ : Hid (∀ W, Below w.heap.size w W → TAt W b (o + x * 7) z) := Lib.hid (fun W hb => ⟨fun j v hv => (hb.cell (p := ⟨b, o + x * 7 + j, none⟩) hl').trans (hTz.r j v hv)⟩)
     have c4 := (HTZ.out V hi.b).c4
     have cl := hi.lx.cell
     have cf := hi.fr.cell
     have HC := Lib.hid hi
     have HE2 := Lib.hid hE2
     have HW2 := Lib.hid hW2
     have HZ := Lib.hid hz
     have hEb : E ≤ 8589934592 := by omega
     subst hfr
     clear SQ hr hfx hxl hz hzv hl' hTz pa1 pa3 hN hi hE2 hW2 hE
     dsimp only [List.setIfInBounds_toArray, List.set_cons_succ, List.set_cons_zero]
     gi_wp2
     refine region_round (by rintro ⟨_, _, h⟩; exact h) (by kernel_rfl) (by kernel_rfl) (by kernel_rfl) ?_
     repeat (first | go_big_quiet_step (fail) | quiet_step (fail))
     refine wpQuiet_nil ?_
     intro _ hw'
     obtain ⟨nq, hw''⟩ := hw'
     subst hw''
     have HKF0 : Hid (KeepsFrom W3.heap.size V (V.drewN nq)) := Lib.hid (keepsFrom_later (below_drewN2 _ _))
     have HKG0 : Hid (KeepG (PC w.heap.size) V (V.drewN nq)) := Lib.hid (KeepG.below (below_drewN2 _ _))
     have HC := Lib.hid (HC.out.later (below_drewN2 V nq))
     have HE2 := Lib.hid (boxed_later2 HE2.out (below_drewN2 V nq))
     have HW2 := Lib.hid (boxed_later2 HW2.out (below_drewN2 V nq))
     clear c4 cl cf hw5
     generalize V.drewN nq = V1 at *
     gi_wp2
     gi_loopw [16] (fun i wr => ∃ (n : Nat) (a : Int), n ≤ N ∧ i = .int .i64 a ∧ Hid (a = S - z.j + (n : Int) * z.t) ∧ Hid (CrS w (.slice (some ⟨b, o, none⟩) l.length cap) jb (jb + 1) fb S (((H ++ [M]) ++ pre.flatMap FL) ++ (List.range n).map (perJ l S x)) wr) ∧ Hid (Boxed wr eb T64s (.int .i64 E)) ∧ Hid (Boxed wr hb TBo (.bool true)) ∧ Hid (KeepsFrom W3.heap.size V wr) ∧ Hid (KeepG (PC w.heap.size) V wr)) (fun i _ => (E - intOf i).toNat)
     case atStart => exact ⟨0, S - z.j, Nat.zero_le _, rfl, Lib.hid (by simp), Lib.hid (by simpa using HC.out), HE2, HW2, HKF0, HKG0⟩
     case round =>
      clear HC HE2 HW2 HKF0 HKG0
      obtain ⟨n, a, hn, rfl, HA, HC, HE2, HW2, HKF, HKG⟩ := hrel
      have ce := HE2.out.cell
      by_cases hlt : n < N
      ·have ha : a < E := by rw [HA.out]; exact (HPL.out n).2 hlt
       have u1 : decide (a < E) = true := decide_eq_true ha
       have hab : -2147483648 ≤ a := by have := Int.mul_nonneg (show (0 : Int) ≤ (n : Int) by omega) (show 0 ≤ z.t by omega); have := HA.out; omega
       have HLT := Lib.hid hlt
       have HAE := Lib.hid ha
       have HAB := Lib.hid hab
       clear hlt ha hab
       gi_wp2
       clear ce u1
       obtain ⟨JS, hJS⟩ : ∃ JS, ((H ++ [M]) ++ pre.flatMap FL) ++ (List.range n).map (perJ l S x) = JS := ⟨_, rfl⟩
       rw [hJS] at HC
       have HJS := Lib.hid hJS
       obtain ⟨mx, hmx⟩ : ∃ mx, max a S = mx := ⟨_, rfl⟩
       have hmb : -2147483648 ≤ mx ∧ mx ≤ 8589934592 := by have := HAB.out; have := HAE.out; omega
       have HMB := Lib.hid hmb
       have HPJ : Hid (perJ l S x n = ⟨x, a, mx, z.c, []⟩) := Lib.hid (by rw [HPI.out n, ← HA.out, hmx])
       have HC8 := Lib.hid (HC.out.later (below_drew wr))
       have HE8 := Lib.hid (boxed_later2 HE2.out (below_drew wr))
       have HW8 := Lib.hid (boxed_later2 HW2.out (below_drew wr))
       have KF8 := Lib.hid (HKF.out.trans (keepsFrom_later (B := W3.heap.size) (below_drew wr)))
       have KG8 := Lib.hid (HKG.out.trans (KeepG.below (below_drew wr)))
       have HC0 := CrF.of HC8.out HROW.out HZ.out
       clear hJS hmb HC HE2 HW2 HKF HKG
       refine region_round_held (S := CrF w.heap.size (.slice (some ⟨b, o, none⟩) l.length cap) (jb + 1) jb fb S b (o + x * 7) z) (by rintro ⟨_, _, h⟩; exact h) (by kernel_rfl) (by kernel_rfl) HC0 (fun hHeld => ?_)
       clear HC0
       generalize wr.drew = W7 at *
       refine wpAnyH_take (i := 0) (oi := ⟨some 105, _, _, _, _, _⟩) (v := .func (.func 33) #[] #[.pointer (some ⟨jb, 0, none⟩)]) rfl (by kernel_rfl) (by kernel_rfl) (by kernel_rfl) (fun _ _ _ h => h) (Or.inl ⟨by rfl, ?_⟩) (by assumption) ?_
       ·intro w0 hSw
        obtain ⟨e0, e1, e2, e3⟩ := hSw
        go_simp
        (try with_reducible rfl)
       (try simp only [Act.put, List.setIfInBounds_toArray, List.set_cons_zero, List.set_cons_succ])
       refine wpAnyH_take (i := 1) (oi := ⟨some 106, _, _, _, _, _⟩) (v := .int .i64 (x : Int)) rfl (by kernel_rfl) (by kernel_rfl) (by kernel_rfl) (fun _ _ _ h => h) (Or.inl ⟨by rfl, ?_⟩) (by assumption) ?_
       ·intro w0 hSw
        obtain ⟨e0, e1, e2, e3⟩ := hSw
        go_simp
        (try with_reducible rfl)
       (try simp only [Act.put, List.setIfInBounds_toArray, List.set_cons_zero, List.set_cons_succ])
       refine wpAnyH_take (i := 2) (oi := ⟨some 107, _, _, _, _, _⟩) (v := .int .i64 a) rfl (by kernel_rfl) (by kernel_rfl) (by kernel_rfl) (fun _ _ _ h => h) (Or.inl ⟨by rfl, ?_⟩) (by assumption) ?_
       ·intro w0 hSw
        obtain ⟨e0, e1, e2, e3⟩ := hSw
        go_simp
        (try with_reducible rfl)
       (try simp only [Act.put, List.setIfInBounds_toArray, List.set_cons_zero, List.set_cons_succ])
       refine wpAnyH_take (i := 3) (oi := ⟨some 108, _, _, _, _, _⟩) (v := .int .i64 a) rfl (by kernel_rfl) (by kernel_rfl) (by kernel_rfl) (fun _ _ _ h => h) (Or.inl ⟨by rfl, ?_⟩) (by assumption) ?_
       ·intro w0 hSw
        obtain ⟨e0, e1, e2, e3⟩ := hSw
        go_simp
        (try with_reducible rfl)
       (try simp only [Act.put, List.setIfInBounds_toArray, List.set_cons_zero, List.set_cons_succ])
       refine wpAnyH_take (i := 4) (oi := ⟨some 109, _, _, _, _, _⟩) (v := .int .i64 S) rfl (by kernel_rfl) (by kernel_rfl) (by kernel_rfl) (fun _ _ _ h => h) (Or.inl ⟨by rfl, ?_⟩) (by assumption) ?_
       ·intro w0 hSw
        obtain ⟨e0, e1, e2, e3⟩ := hSw
        go_simp
        (try with_reducible rfl)
       (try simp only [Act.put, List.setIfInBounds_toArray, List.set_cons_zero, List.set_cons_succ])
       refine wpAnyH_take (i := 5) (oi := ⟨some 110, _, _, _, _, _⟩) (v := .int .i64 mx) rfl (by kernel_rfl) (by kernel_rfl) (by kernel_rfl) (fun _ _ _ h => h) (Or.inl ⟨by rfl, ?_⟩) (by assumption) ?_
       ·intro w0 hSw
        obtain ⟨e0, e1, e2, e3⟩ := hSw
        go_simp
        (try with_reducible rfl)
       (try simp only [Act.put, List.setIfInBounds_toArray, List.set_cons_zero, List.set_cons_succ])
       refine wpAnyH_take (i := 6) (oi := ⟨some 111, _, _, _, _, _⟩) (v := .slice (some ⟨b, o, none⟩) l.length cap) rfl (by kernel_rfl) (by kernel_rfl) (by kernel_rfl) (fun _ _ _ h => h) (Or.inl ⟨by rfl, ?_⟩) (by assumption) ?_
       ·intro w0 hSw
        obtain ⟨e0, e1, e2, e3⟩ := hSw
        go_simp
        (try with_reducible rfl)
       (try simp only [Act.put, List.setIfInBounds_toArray, List.set_cons_zero, List.set_cons_succ])
       refine wpAnyH_take (i := 7) (oi := ⟨some 112, _, _, _, _, _⟩) (v := .int .i64 (x : Int)) rfl (by kernel_rfl) (by kernel_rfl) (by kernel_rfl) (fun _ _ _ h => h) (Or.inl ⟨by rfl, ?_⟩) (by assumption) ?_
       ·intro w0 hSw
        obtain ⟨e0, e1, e2, e3⟩ := hSw
        go_simp
        (try with_reducible rfl)
       (try simp only [Act.put, List.setIfInBounds_toArray, List.set_cons_zero, List.set_cons_succ])
       refine wpAnyH_take (i := 8) (oi := ⟨some 113, _, _, _, _, _⟩) (v := .pointer (some ⟨b, o + x * 7, none⟩)) rfl (by kernel_rfl) (by kernel_rfl) (by kernel_rfl) (fun _ _ _ h => h) (Or.inl ⟨by rfl, ?_⟩) (by assumption) ?_
       ·intro w0 hSw
        obtain ⟨e0, e1, e2, e3⟩ := hSw
        go_simp
        (try with_reducible rfl)
       (try simp only [Act.put, List.setIfInBounds_toArray, List.set_cons_zero, List.set_cons_succ])
       refine wpAnyH_take (i := 9) (oi := ⟨some 114, _, _, _, _, _⟩) (v := .pointer (some ⟨b, o + x * 7 + 1, none⟩)) rfl (by kernel_rfl) (by kernel_rfl) (by kernel_rfl) (fun _ _ _ h => h) (Or.inl ⟨by rfl, ?_⟩) (by assumption) ?_
       ·intro w0 hSw
        obtain ⟨e0, e1, e2, e3⟩ := hSw
        go_simp
        (try with_reducible rfl)
       (try simp only [Act.put, List.setIfInBounds_toArray, List.set_cons_zero, List.set_cons_succ])
       refine wpAnyH_take (i := 10) (oi := ⟨some 115, _, _, _, _, _⟩) (v := .int .i64 z.c) rfl (by kernel_rfl) (by kernel_rfl) (by kernel_rfl) (fun _ _ _ h => h) (Or.inl ⟨by rfl, ?_⟩) (by assumption) ?_
       ·intro w0 hSw
        obtain ⟨e0, e1, e2, e3⟩ := hSw
        go_simp
        (try with_reducible rfl)
       (try simp only [Act.put, List.setIfInBounds_toArray, List.set_cons_zero, List.set_cons_succ])
       refine wpAnyH_take (i := 11) (oi := ⟨some 116, _, _, _, _, _⟩) (v := .agg #[.int .i64 (x : Int), .int .i64 a, .int .i64 mx, .int .i64 z.c, .slice none 0 0]) rfl (by kernel_rfl) (by kernel_rfl) (by kernel_rfl) (fun _ _ _ h => h) (Or.inl ⟨by rfl, ?_⟩) (by assumption) ?_
       ·intro w0 hSw
        obtain ⟨e0, e1, e2, e3⟩ := hSw
        kernel_rfl
       (try simp only [Act.put, List.setIfInBounds_toArray, List.set_cons_zero, List.set_cons_succ])
       refine wpAnyH_ready (rs := [12]) (by kernel_rfl) (by simp) ?_
       refine (AllReadyH.cons (o := ⟨some 117, _, _, _, _, _⟩) rfl (fun K hK => ?_) AllReadyH.nil)
       have hgk : GOk TJb w.heap.size W7 ⟨⟨x, a, mx, z.c, []⟩, none, 0⟩ := gok_nil (by have := HAB.out; have := HAE.out; have := HMB.out; exact ⟨⟨by show _ ≤ (x : Int); omega, by show (x : Int) ≤ _; omega⟩, ⟨by show _ ≤ a; omega, by show a ≤ _; omega⟩, ⟨by show _ ≤ mx; omega, by show mx ≤ _; omega⟩, ⟨by show _ ≤ z.c; omega, by show z.c ≤ _; omega⟩⟩) rfl
       have hJL := HC8.out.pu.le
       by_cases hfull : JS.length = 4096
       ·have KP := Lib.hid (put_full w.heap.size jb JS ⟨x, a, mx, z.c, []⟩ none 0 W7 HC8.out.pu hfull)
        have HFU : Hid (4096 < (sceneS l (k : Int)).length) := Lib.hid (by
         rw [HSC.out]
         refine scene_more (f := FL) (x := x) (n := n) (N := N) (Q := (List.range n).map (perJ l S x)) HR.out (by rw [HFX.out]; simp) HLT.out (by simp) ?_
         rw [HJS.out]; exact hfull)
        clear hgk hJL hfull
        go_simp
        go_at_call 33
        refine KP.out.mono ?_
        rintro e w9 ⟨rfl, hb9⟩
        have HC9 := Lib.hid (HC8.out.later hb9)
        have HW9 := Lib.hid (boxed_later2 HW8.out hb9)
        have KF9 := Lib.hid (KF8.out.trans (keepsFrom_later (B := W3.heap.size) hb9))
        refine hK.out _ _ (CrF.of HC9.out HROW.out HZ.out) (fun hHeld => ?_)
        clear hK K hb9
        (try simp only [Act.put, List.setIfInBounds_toArray, List.set_cons_zero, List.set_cons_succ])
        refine wpAnyH_ready (rs := [13]) (by kernel_rfl) (by simp) ?_
        refine (AllReadyH.cons (o := ⟨none, _, _, _, _, _⟩) rfl (fun K hK => ?_) AllReadyH.nil)
        have cw := HW9.out.cell
        have fw := HW9.out.frozen
        go_simp
        have HC10 := Lib.hid (HC9.out.setO HW9.out HEB.out.2 (.bool false))
        have HW10 := Lib.hid (Boxed.set (.bool false) HW9.out)
        have KF10 := Lib.hid (KF9.out.trans ((KeepsOthers.setCell w9 ⟨hb, 0, none⟩ (.bool false)).from _))
        clear cw fw
        refine hK.out _ _ (CrF.of HC10.out HROW.out HZ.out) (fun hHeld => ?_)
        clear hK K
        (try simp only [Act.put, List.setIfInBounds_toArray, List.set_cons_zero, List.set_cons_succ])
        refine wpAnyH_done (by kernel_rfl) ?_ _
        generalize w9.setCell ⟨hb, 0, none⟩ (.bool false) = W10 at *
        have cw := HW10.out.cell
        gi_wp2
        exact ⟨KF10.out, rfl, HC10.out.b, HW10.out, HFU.out⟩
       ·have KP := Lib.hid (put_more w.heap.size jb JS ⟨x, a, mx, z.c, []⟩ none 0 W7 HC8.out.pu hgk (by omega))
        clear hgk hJL hfull
        go_simp
        go_at_call 33
        refine KP.out.mono ?_
        rintro e w9 ⟨rfl, hb9, hk9, ho9, hg9, hp9⟩
        have HC9 := Lib.hid (HC8.out.put hb9 hk9 hp9)
        have HE9 := Lib.hid (boxed_kt hk9 HE8.out (by decide))
        have HW9 := Lib.hid (boxed_kt hk9 HW8.out (by decide))
        have KF9 := Lib.hid (KF8.out.trans (ho9.from _))
        have KG9 := Lib.hid (KG8.out.trans hg9.pj)
        refine hK.out _ _ (CrF.of HC9.out HROW.out HZ.out) (fun hHeld => ?_)
        clear hK K hb9 hk9 ho9 hg9 hp9
        (try simp only [Act.put, List.setIfInBounds_toArray, List.set_cons_zero, List.set_cons_succ])
        refine wpAnyH_ready (rs := [13]) (by kernel_rfl) (by simp) ?_
        refine (AllReadyH.cons (o := ⟨none, _, _, _, _, _⟩) rfl (fun K hK => ?_) AllReadyH.nil)
        have cw := HW9.out.cell
        have fw := HW9.out.frozen
        go_simp
        have HC10 := Lib.hid (HC9.out.setO HW9.out HEB.out.2 (.bool true))
        have HE10 := Lib.hid (Boxed.other HE9.out (boxed_ne HE9.out HW9.out (by decide)) (.bool true))
        have HW10 := Lib.hid (Boxed.set (.bool true) HW9.out)
        have KF10 := Lib.hid (KF9.out.trans ((KeepsOthers.setCell w9 ⟨hb, 0, none⟩ (.bool true)).from _))
        have KG10 := Lib.hid (KG9.out.trans (pc_set HW9.out HEB.out.2 (.bool true)))
        clear cw fw
        refine hK.out _ _ (CrF.of HC10.out HROW.out HZ.out) (fun hHeld => ?_)
        clear hK K
        (try simp only [Act.put, List.setIfInBounds_toArray, List.set_cons_zero, List.set_cons_succ])
        refine wpAnyH_done (by kernel_rfl) ?_ _
        generalize w9.setCell ⟨hb, 0, none⟩ (.bool true) = W10 at *
        have cw := HW10.out.cell
        have c2 := (HTZ.out W10 HC10.out.b).c2
        have cl := HC10.out.lx.cell
        have hw6 : IntKind.i64.wrap (a + z.t) = a + z.t := by have := HAB.out; have := HAE.out; rw [IntKind.wrap_i64]; omega
        clear hmx
        gi_wp2
        clear hw6 cw c2 cl
        go_roundw
        case rel =>
         refine ⟨n + 1, a + z.t, by have := HLT.out; omega, rfl, Lib.hid (by rw [HA.out, Int.natCast_succ, Int.add_mul]; omega), Lib.hid ?_, HE10, HW10, KF10, KG10⟩
         rw [per_snoc, ← List.append_assoc, HJS.out, HPJ.out]
         exact HC10.out
        case measure => have := HAE.out; simp only [intOf]; omega
      ·obtain rfl : n = N := by omega
       have ha : ¬ a < E := by rw [HA.out]; exact fun h => hlt ((HPL.out n).1 h)
       have u1 : decide (a < E) = false := decide_eq_false ha
       clear hlt ha
       gi_wp2
       refine ⟨HKF.out, HKG.out, ?_, HE2.out, HW2.out⟩
       have e : ((H ++ [M]) ++ (pre ++ [x]).flatMap FL) = ((H ++ [M]) ++ pre.flatMap FL) ++ (List.range n).map (perJ l S x) := by
        rw [List.flatMap_append, List.append_assoc (H ++ [M])]
        congr 2
        simp only [List.flatMap_cons, List.flatMap_nil, List.append_nil]
        exact HFX.out
       rw [e]
       exact HC.out
    case done =>
     rintro D V hD ⟨hi, hE2, hW2⟩ hK
     have HDK := Lib.hid hK
     have cw := hW2.cell
     rw [← HSC.out] at hi
     obtain ⟨Aj, cj, gs, hjx, hjl, hjm, hfo, hmap, hgl⟩ := hi.pu.is
     have cj2 := hjx.cell
     have HB := Lib.hid hi.b
     have HLE := Lib.hid hi.pu.le
     have HFO := Lib.hid hfo
     have HMP := Lib.hid hmap
     subst hfr
     clear SQ hE2 hW2 hK hi hjx hfo hmap hgl
     go_wp2
     simp only [Exit.noGoto]
     refine ⟨by simp, .inl ⟨_, _, rfl, run_takeDeferred HDK.out, ?_⟩⟩
     refine ⟨.tuple #[.slice Aj (sceneS l (k : Int)).length cj, .int .i64 (H.length : Int), .int .i64 0], by simp [results, Tryz.f14, go_sem], ?_⟩
     refine ⟨HB.out.trans (belowK_b (w := w) (Nat.le_refl _) V D _ _ (by omega) HDK.out rfl rfl), .inl ⟨HLE.out, Aj, cj, gs, by rw [HH.out], ?_, HMP.out⟩⟩
     exact HFO.out.grownN (D := D) (grownBy_putObj' V D _) (fun r e => by cases e; exact ⟨Nat.le_refl _, _, HDK.out, rfl⟩) (by omega)
    case stop =>
     rintro D c pre x V hD ⟨r, hr⟩ ⟨rfl, hb1, hb2, hb3⟩ hK
     have cw := hb2.cell
     have HB := Lib.hid hb1
     have HDK := Lib.hid hK
     have HL := Lib.hid hb3
     subst hfr
     clear SQ hr hb1 hb2 hb3 hK
     refine wpIn_wide.2 ?_
     go_wp2
     simp only [Exit.noGoto]
     refine ⟨by simp, .inl ⟨_, _, rfl, run_takeDeferred HDK.out, ?_⟩⟩
     refine ⟨.tuple #[.slice none 0 0, .int .i64 0, .int .i64 15], by simp [results, Tryz.f14, go_sem], ?_⟩
     exact ⟨HB.out.trans (belowK_b (w := w) (Nat.le_refl _) V D _ _ (by omega) HDK.out rfl rfl), .inr ⟨HL.out, rfl⟩⟩
end
end Go.Proofs.YthfkbbiaemmndaaGreatDoor
