/- Texts about the program, one after the other: YRg. -/
import Derived.WalkKit
import Derived.ProofKit
import Derived.Handy
import Derived.Lib.Hide
import Derived.Deep.MidRow
import Derived.Deep.QuietTactic
import Derived.BigQuiet
import Derived.Deep.RegionHeld3
import Derived.Laws.Externs
import Derived.RangeFuncBox
import Derived.Deep.CutBlock
import Derived.Deep.LoopGhost
import Derived.WalkMore
import Derived.OrdersIn
import Derived.Stop.RegionWithIn
import Derived.Deep.RegionLaw
import Derived.Laws.OwnMore
import Derived.Deep.CutRange
import Derived.Deep.Quiet
import Derived.Deep.RegionHeld
import Derived.Laws.AppendOwn
import Derived.Below
import Derived.LaidMore
import Derived.Laws.CopyOwn
import Derived.IntWalk
import Derived.OwnWalk
import Derived.BigRegion
import Derived.Deep.DrawnRows
import Derived.Deep.RegionHeldLaw
import Derived.LoopIn
import Derived.LoopNIn
import Derived.TacticsInMore
import Derived.OwnWalkIn
import Derived.RangeFuncNested
import Derived.RangeFuncBound
import Derived.RangeFuncCalls
import Derived.RangeFuncLeaves
import Derived.RangeFuncWrites
import Derived.Shelf.Abstract
import Derived.StillTailTactics
import Derived.Lib.SliceRun
import Derived.Deep.AppendSrc
import Derived.Deep.Upon
import Derived.Deep.DeepAppendWide
import Derived.Sort.LoopGhostIn
import Derived.Laws.ShiftsVarLaws
import Derived.Outline
import Derived.Laws.Bits128
import Derived.Deep.RegionWith
import Derived.Shelf.RegionOpen
import Derived.Laws.BytesString
import Derived.RangeFuncRecord
import Derived.MapKept
import Derived.Maps.AppendAt
import Derived.Laws.AppendOwnNone
import Derived.Shelf.Small.Bits
import Derived.Shelf.Small.Strs
import Derived.Shelf.Small.Wraps
import Derived.Shelf.Strconv.Itoa0
import Derived.Shelf.LaysM
import Derived.Shelf.Strconv.Clone
import Derived.Shelf.Strings.Search1
import Derived.Shelf.Bits.Mul64
import Derived.Ground.Names2Prog
import Derived.Shelf.Slices.SearchI
import Derived.ChangeOld
import Derived.OpenShut
import Derived.Test.YthfkbbiaemmndaaGreatDoorRows
import Derived.Test.YthfkbbiaemmndaaGreatDoorProg
import Derived.Test.YthfkbbiaemmndaaGreatDoorG4
import Derived.Test.YthfkbbiaemmndaaGreatDoorG5
import Derived.Test.YthfkbbiaemmndaaGreatDoorG6
import Derived.Test.YthfkbbiaemmndaaGreatDoorG7
import Derived.Test.YthfkbbiaemmndaaGreatDoorG8
import Derived.Test.YthfkbbiaemmndaaGreatDoorG9
import Derived.Test.YthfkbbiaemmndaaGreatDoorG11
import Derived.Test.YthfkbbiaemmndaaGreatDoorG12
import Derived.Test.YthfkbbiaemmndaaGreatDoorG13
import Derived.Test.YthfkbbiaemmndaaGreatDoorG14
import Derived.Test.YthfkbbiaemmndaaGreatDoorG28
import Derived.Test.YthfkbbiaemmndaaGreatDoorG41
set_option linter.unusedVariables false
set_option linter.unusedSimpArgs false
set_option maxRecDepth 100000
set_option maxHeartbeats 16000000
namespace Go.Proofs.YthfkbbiaemmndaaGreatDoor
section
open Go.RowKit
def RcritP (l : List Ts) (i : Int) (w : World) (e : Ending) (w' : World) : Prop :=
 Below w.heap.size w w' ∧ (((sceneS l i).length ≤ 4096 ∧ ∃ A cap gs, e = .returned (.agg #[.slice A (sceneS l i).length cap, .int .i64 ((headS l i).length : Int), .int .i64 0]) ∧ FOwn TJb w.heap.size w' (.slice A (sceneS l i).length cap) gs ∧ gs.map (·.x) = sceneS l i) ∨ (4096 < (sceneS l i).length ∧ e = .returned (.agg #[.slice none 0 0, .int .i64 0, .int .i64 15])))
theorem fvw_of {t a r k : Int} {c : List Int} (ht : 0 ≤ t ∧ t ≤ 4294967296) (ha : -4294967296 ≤ a ∧ a ≤ 17179869184) (hr : -4294967296 ≤ r ∧ r ≤ 17179869184) (hk : 0 ≤ k ∧ k ≤ 4294967296) : FvW ⟨t, a, r, k, c⟩ :=
 ⟨⟨by show _ ≤ t; omega, by show t ≤ _; omega⟩, ⟨by show _ ≤ a; omega, by show a ≤ _; omega⟩, ⟨by show _ ≤ r; omega, by show r ≤ _; omega⟩, ⟨by show _ ≤ k; omega, by show k ≤ _; omega⟩⟩
theorem rcrit_any (b o cap : Nat) (l : List Ts) (ki : Nat) (y : Ts) (w : World) (hR : Row w (some ⟨b, o, none⟩) cap l) (hc : (chkAll l).2 = 0) (hy : l[ki]? = some y) :
  Calls Tryz.prog 50 #[.slice (some ⟨b, o, none⟩) l.length cap, .int .i64 (ki : Int)] w (RcritP l (ki : Int) w) := by
 have hk : ki < l.length := (List.getElem?_eq_some_iff.1 hy).1
 have hv := vs_of hc
 have hvl := hv.n1
 have hdc := chk_d hc
 have ety : tk l (ki : Int) = y := tk_get hy
 have hlen := (chk_len hc).2
 have KI0 := ris_any (some ⟨b, o, none⟩) cap l (ki : Int)
 have KI := Lib.hid (fun V (h : Below w.heap.size w V) => by have := KI0 V (hR.later h) ⟨by omega, by omega⟩; rw [isB_at hc hy] at this; exact this)
 have KS := Lib.hid (fun V (h : Below w.heap.size w V) => rstt_any (some ⟨b, o, none⟩) cap l ki y V (hR.later h) hc hy)
 have KB := Lib.hid (fun V (h : Below w.heap.size w V) => rblk_any (some ⟨b, o, none⟩) cap l ki y V (hR.later h) hc hy)
 obtain ⟨sb0, sb1, -⟩ := start_bd (i := (ki : Int)) hv
 rw [ety] at sb0
 have hy0 := hv.tk (ki : Int)
 rw [ety] at hy0
 have HBK := Lib.hid (blk_isE (i := (ki : Int)) hv).2
 have HVT := Lib.hid (fun x : Nat => hv.tk (x : Int))
 have HROW := Lib.hid hR
 have HCH := Lib.hid hc
 have HY := Lib.hid hy
 have hle := hR.le
 have hmx := hR.mx
 have hj0 := hy0.j0
 have hj1 := hy0.j1
 have yc0 := hy0.c0
 have yc1 := hy0.c1
 have hyd := hdc y (List.mem_of_getElem? hy)
 have hd0 := hyd.d0
 have hd1 := hyd.d1
 have hcj := hyd.cj
 obtain ⟨S, hS⟩ : ∃ S, startS l (ki : Int) = S := ⟨_, rfl⟩
 obtain ⟨bo, hbo⟩ : ∃ bo, blockerS l (ki : Int) = bo := ⟨_, rfl⟩
 obtain ⟨bv, hbv⟩ : ∃ bv, bkI bo = bv := ⟨_, rfl⟩
 rw [hS] at KS sb0 sb1
 rw [hbo] at KB HBK
 rw [hbv] at KB
 have HS := Lib.hid hS
 have HBO := Lib.hid hbo
 have HBV := Lib.hid hbv
 obtain ⟨rb, hrb⟩ : ∃ rb, w.heap.size = rb := ⟨_, rfl⟩
 obtain ⟨W1, hW1, hR1, s1, B1⟩ : ∃ W1, w.alloc (.cells #[.slice none 0 0, .int .i64 0, .int .i64 0] TGo15) = W1 ∧ RB0 rb W1 ∧ W1.heap.size = rb + 1 ∧ Below w.heap.size w W1 := ⟨_, rfl, by rw [← hrb]; exact World.alloc_heap_new w _, by simp [hrb], (Below.refl _ _).alloc (Nat.le_refl _) _⟩
 have HR1 := Lib.hid hR1
 have HB1 := Lib.hid B1
 have HRB := Lib.hid hrb
 have hI0 : (0 : Int) ≤ (ki : Int) := by omega
 have hI1 : (ki : Int) < (l.length : Int) := by omega
 clear hR hc hv hy hvl hdc ety hy0 hyd hS hbo hbv hR1 B1 KI0
 go_enter Tryz.func50, Tryz.ntmps50
 go_upto_region 1 with (fail)
 clear hW1 hrb
 go_upto_region 4 with (go_at_call 46; (with_reducible refine (KI.out _ HB1.out).mono ?_); rintro e w2 ⟨rfl, h2⟩; have H2 := Lib.hid h2; clear h2)
 clear KI
 go_upto_region 5 with (fail)
 obtain ⟨gb, hgb⟩ : ∃ gb, w2.heap.size = gb := ⟨_, rfl⟩
 obtain ⟨W3, hW3, HG, HB⟩ : ∃ W3, w2.alloc (.cells #[.slice none 0 0, .int .i64 0, .int .i64 0] TGo15) = W3 ∧ Hid (GJ w.heap.size gb rb [] 0 W3) ∧ Hid (Below w.heap.size w W3) := by
  have h2s := H2.out.size
  have hrw := HRB.out
  refine ⟨_, rfl, Lib.hid ⟨by omega, by omega, (HR1.out.later H2.out).later ((Below.refl _ _).alloc (Nat.le_refl _) _), none, 0, [], ?_, by simp, by unfold maxLen; omega, FOwn.nil _ _ _, rfl, rfl, by simp⟩, Lib.hid ((HB1.out.trans (H2.out.mono HB1.out.size)).alloc (by omega) _)⟩
  rw [← hgb]
  exact World.alloc_heap_new w2 _
 rw [hgb, hW3]
 clear hW3 hgb H2 HR1 HB1 s1
 go_upto_region 6 with (go_at_call 81; (with_reducible refine (KS.out _ HB.out).mono ?_); rintro e w4 ⟨rfl, h4⟩; have HG := Lib.hid (HG.out.later h4); have HB := Lib.hid (HB.out.trans (h4.mono HB.out.size)); clear h4)
 go_upto_region 7 with (go_at_call 82; (with_reducible refine (KB.out _ HB.out).mono ?_); rintro e w6 ⟨rfl, h6⟩; have HG := Lib.hid (HG.out.later h6); have HB := Lib.hid (HB.out.trans (h6.mono HB.out.size)); clear h6)
 clear KS KB
 go_upto_if 26 with (fail)
 have hw1 : IntKind.i64.wrap (S - 1) = S - 1 := by rw [IntKind.wrap_i64]; omega
 go_cut [] from 27 to 49 (fun wx => Hid (Below w.heap.size w wx) ∧ Hid (GJ w.heap.size gb rb (headS l (ki : Int)) ((headS l (ki : Int)).length : Int) wx))
 case first =>
  cases bo with
  | none =>
    obtain rfl : bv = -1 := HBV.out.symm
    have HH : Hid (headS l (ki : Int) = []) := Lib.hid (by unfold headS; rw [HBO.out])
    go_wp2
    go_meet
    exact ⟨HB, Lib.hid (by rw [HH.out]; exact HG.out)⟩
  | some bn =>
    obtain rfl : bv = (bn : Int) := HBV.out.symm
    obtain ⟨zl, -, -, zq⟩ := HBK.out bn rfl
    have hz : l[bn]? = some l[bn] := List.getElem?_eq_getElem zl
    have hxq := HVT.out bn
    rw [tk_get hz] at zq hxq
    obtain ⟨z, hx⟩ : ∃ z, l[bn] = z := ⟨_, rfl⟩
    rw [hx] at hz zq hxq
    have HH : Hid (headS l (ki : Int) = [⟨bn, S - 1, S - 1, z.q, [z.q]⟩]) := Lib.hid (by unfold headS; rw [HBO.out, HS.out]; simp only [tk_get hz])
    have i0 : (0 : Int) ≤ (bn : Int) := by omega
    have i1 : (bn : Int) < (l.length : Int) := by omega
    have q0 := hxq.q0
    have q1 := hxq.q1
    have HZ := Lib.hid hz
    have HFW : Hid (FvW ⟨(bn : Int), S - 1, S - 1, z.q, [z.q]⟩) := Lib.hid (fvw_of (by omega) (by omega) (by omega) (by omega))
    have HQI : Hid (in64 z.q) := Lib.hid ⟨by omega, by omega⟩
    clear hz hx hxq zq
    go_wp2
    obtain ⟨av, hav⟩ : ∃ av : Int, av = 0 := ⟨_, rfl⟩
    rw [← hav] at HG
    obtain ⟨A9, c9, gs, hg1, hg2, hg3, hg4, hg5, hg6, hg7⟩ := HG.out.is
    obtain ⟨nn, hnn⟩ : ∃ nn, [].length = nn := ⟨_, rfl⟩
    rw [hnn] at hg1 hg2 hg4 hg6
    have HX := Lib.hid ((GX.mk HG.out.rc hg1 hg4).later (below_drew w6))
    have HB := Lib.hid (HB.out.trans ((below_drew w6).mono HB.out.size))
    have H5 := Lib.hid hg5
    have H6 := Lib.hid hg6
    have H7 := Lib.hid hg7
    have HGB := Lib.hid HG.out.gB
    have HRN := Lib.hid HG.out.rn
    have HNN : Hid (nn ≤ 100000) := Lib.hid (by first | omega | (rw [← hnn]; simp))
    have HC0 := RgC.of HB.out HROW.out HZ.out
    clear hg1 hg2 hg3 hg4 hg5 hg6 hg7 hnn HG
    refine wp_region_noPanic ?_
    refine wp_region_held_drew (S := RgC b (o + bn * 7) z) (by kernel_rfl) HC0 (fun hHeld => ?_)
    clear HC0
    generalize w6.drew = W7 at *
    refine wpAnyH_take (i := 0) (oi := ⟨some 27, _, _, _, _, _⟩) (v := .pointer (some ⟨gb, 0, none⟩)) rfl (by kernel_rfl) (by kernel_rfl) (by kernel_rfl) (fun _ _ _ h => h) (Or.inl ⟨by rfl, ?_⟩) (by assumption) ?_
    ·intro w0 hSw
     obtain ⟨e1, e4, e5⟩ := hSw
     go_simp
     (try with_reducible rfl)
    (try simp only [Act.put, List.setIfInBounds_toArray, List.set_cons_zero, List.set_cons_succ])
    refine wpAnyH_take (i := 2) (oi := ⟨some 29, _, _, _, _, _⟩) (v := .int .i64 (bn : Int)) rfl (by kernel_rfl) (by kernel_rfl) (by kernel_rfl) (fun _ _ _ h => h) (Or.inl ⟨by rfl, ?_⟩) (by assumption) ?_
    ·intro w0 hSw
     obtain ⟨e1, e4, e5⟩ := hSw
     go_simp
     (try with_reducible rfl)
    (try simp only [Act.put, List.setIfInBounds_toArray, List.set_cons_zero, List.set_cons_succ])
    refine wpAnyH_take (i := 3) (oi := ⟨some 30, _, _, _, _, _⟩) (v := .int .i64 S) rfl (by kernel_rfl) (by kernel_rfl) (by kernel_rfl) (fun _ _ _ h => h) (Or.inl ⟨by rfl, ?_⟩) (by assumption) ?_
    ·intro w0 hSw
     obtain ⟨e1, e4, e5⟩ := hSw
     go_simp
     (try with_reducible rfl)
    (try simp only [Act.put, List.setIfInBounds_toArray, List.set_cons_zero, List.set_cons_succ])
    refine wpAnyH_take (i := 4) (oi := ⟨some 31, _, _, _, _, _⟩) (v := .int .i64 (S - 1)) rfl (by kernel_rfl) (by kernel_rfl) (by kernel_rfl) (fun _ _ _ h => h) (Or.inl ⟨by rfl, ?_⟩) (by assumption) ?_
    ·intro w0 hSw
     obtain ⟨e1, e4, e5⟩ := hSw
     go_simp
     (try with_reducible rfl)
    (try simp only [Act.put, List.setIfInBounds_toArray, List.set_cons_zero, List.set_cons_succ])
    refine wpAnyH_take (i := 5) (oi := ⟨some 32, _, _, _, _, _⟩) (v := .int .i64 S) rfl (by kernel_rfl) (by kernel_rfl) (by kernel_rfl) (fun _ _ _ h => h) (Or.inl ⟨by rfl, ?_⟩) (by assumption) ?_
    ·intro w0 hSw
     obtain ⟨e1, e4, e5⟩ := hSw
     go_simp
     (try with_reducible rfl)
    (try simp only [Act.put, List.setIfInBounds_toArray, List.set_cons_zero, List.set_cons_succ])
    refine wpAnyH_take (i := 6) (oi := ⟨some 33, _, _, _, _, _⟩) (v := .int .i64 (S - 1)) rfl (by kernel_rfl) (by kernel_rfl) (by kernel_rfl) (fun _ _ _ h => h) (Or.inl ⟨by rfl, ?_⟩) (by assumption) ?_
    ·intro w0 hSw
     obtain ⟨e1, e4, e5⟩ := hSw
     go_simp
     (try with_reducible rfl)
    (try simp only [Act.put, List.setIfInBounds_toArray, List.set_cons_zero, List.set_cons_succ])
    refine wpAnyH_take (i := 7) (oi := ⟨some 34, _, _, _, _, _⟩) (v := .slice (some ⟨b, o, none⟩) l.length cap) rfl (by kernel_rfl) (by kernel_rfl) (by kernel_rfl) (fun _ _ _ h => h) (Or.inl ⟨by rfl, ?_⟩) (by assumption) ?_
    ·intro w0 hSw
     obtain ⟨e1, e4, e5⟩ := hSw
     go_simp
     (try with_reducible rfl)
    (try simp only [Act.put, List.setIfInBounds_toArray, List.set_cons_zero, List.set_cons_succ])
    refine wpAnyH_take (i := 8) (oi := ⟨some 35, _, _, _, _, _⟩) (v := .int .i64 (bn : Int)) rfl (by kernel_rfl) (by kernel_rfl) (by kernel_rfl) (fun _ _ _ h => h) (Or.inl ⟨by rfl, ?_⟩) (by assumption) ?_
    ·intro w0 hSw
     obtain ⟨e1, e4, e5⟩ := hSw
     go_simp
     (try with_reducible rfl)
    (try simp only [Act.put, List.setIfInBounds_toArray, List.set_cons_zero, List.set_cons_succ])
    refine wpAnyH_take (i := 9) (oi := ⟨some 36, _, _, _, _, _⟩) (v := .pointer (some ⟨b, o + bn * 7, none⟩)) rfl (by kernel_rfl) (by kernel_rfl) (by kernel_rfl) (fun _ _ _ h => h) (Or.inl ⟨by rfl, ?_⟩) (by assumption) ?_
    ·intro w0 hSw
     obtain ⟨e1, e4, e5⟩ := hSw
     go_simp
     (try with_reducible rfl)
    (try simp only [Act.put, List.setIfInBounds_toArray, List.set_cons_zero, List.set_cons_succ])
    refine wpAnyH_take (i := 10) (oi := ⟨some 37, _, _, _, _, _⟩) (v := .pointer (some ⟨b, o + bn * 7 + 5, none⟩)) rfl (by kernel_rfl) (by kernel_rfl) (by kernel_rfl) (fun _ _ _ h => h) (Or.inl ⟨by rfl, ?_⟩) (by assumption) ?_
    ·intro w0 hSw
     obtain ⟨e1, e4, e5⟩ := hSw
     go_simp
     (try with_reducible rfl)
    (try simp only [Act.put, List.setIfInBounds_toArray, List.set_cons_zero, List.set_cons_succ])
    refine wpAnyH_take (i := 11) (oi := ⟨some 38, _, _, _, _, _⟩) (v := .int .i64 z.q) rfl (by kernel_rfl) (by kernel_rfl) (by kernel_rfl) (fun _ _ _ h => h) (Or.inl ⟨by rfl, ?_⟩) (by assumption) ?_
    ·intro w0 hSw
     obtain ⟨e1, e4, e5⟩ := hSw
     go_simp
     (try with_reducible rfl)
    (try simp only [Act.put, List.setIfInBounds_toArray, List.set_cons_zero, List.set_cons_succ])
    refine wpAnyH_take (i := 12) (oi := ⟨some 39, _, _, _, _, _⟩) (v := .slice (some ⟨b, o, none⟩) l.length cap) rfl (by kernel_rfl) (by kernel_rfl) (by kernel_rfl) (fun _ _ _ h => h) (Or.inl ⟨by rfl, ?_⟩) (by assumption) ?_
    ·intro w0 hSw
     obtain ⟨e1, e4, e5⟩ := hSw
     go_simp
     (try with_reducible rfl)
    (try simp only [Act.put, List.setIfInBounds_toArray, List.set_cons_zero, List.set_cons_succ])
    refine wpAnyH_take (i := 13) (oi := ⟨some 40, _, _, _, _, _⟩) (v := .int .i64 (bn : Int)) rfl (by kernel_rfl) (by kernel_rfl) (by kernel_rfl) (fun _ _ _ h => h) (Or.inl ⟨by rfl, ?_⟩) (by assumption) ?_
    ·intro w0 hSw
     obtain ⟨e1, e4, e5⟩ := hSw
     go_simp
     (try with_reducible rfl)
    (try simp only [Act.put, List.setIfInBounds_toArray, List.set_cons_zero, List.set_cons_succ])
    refine wpAnyH_take (i := 14) (oi := ⟨some 41, _, _, _, _, _⟩) (v := .pointer (some ⟨b, o + bn * 7, none⟩)) rfl (by kernel_rfl) (by kernel_rfl) (by kernel_rfl) (fun _ _ _ h => h) (Or.inl ⟨by rfl, ?_⟩) (by assumption) ?_
    ·intro w0 hSw
     obtain ⟨e1, e4, e5⟩ := hSw
     go_simp
     (try with_reducible rfl)
    (try simp only [Act.put, List.setIfInBounds_toArray, List.set_cons_zero, List.set_cons_succ])
    refine wpAnyH_take (i := 15) (oi := ⟨some 42, _, _, _, _, _⟩) (v := .pointer (some ⟨b, o + bn * 7 + 5, none⟩)) rfl (by kernel_rfl) (by kernel_rfl) (by kernel_rfl) (fun _ _ _ h => h) (Or.inl ⟨by rfl, ?_⟩) (by assumption) ?_
    ·intro w0 hSw
     obtain ⟨e1, e4, e5⟩ := hSw
     go_simp
     (try with_reducible rfl)
    (try simp only [Act.put, List.setIfInBounds_toArray, List.set_cons_zero, List.set_cons_succ])
    refine wpAnyH_take (i := 16) (oi := ⟨some 43, _, _, _, _, _⟩) (v := .int .i64 z.q) rfl (by kernel_rfl) (by kernel_rfl) (by kernel_rfl) (fun _ _ _ h => h) (Or.inl ⟨by rfl, ?_⟩) (by assumption) ?_
    ·intro w0 hSw
     obtain ⟨e1, e4, e5⟩ := hSw
     go_simp
     (try with_reducible rfl)
    (try simp only [Act.put, List.setIfInBounds_toArray, List.set_cons_zero, List.set_cons_succ])
    refine wpAnyH_ready (rs := [1, 17]) (by kernel_rfl) (by simp) ?_
    refine (AllReadyH.cons (o := ⟨some 28, _, _, _, _, _⟩) rfl (fun K hK => ?_) (AllReadyH.cons (o := ⟨some 44, _, _, _, _, _⟩) rfl (fun K hK => ?_) AllReadyH.nil))
    ·have cg := (got_cells HX.out.hc).1
     go_simp
     refine hK.out _ _ (RgC.of HB.out HROW.out HZ.out) (fun hHeld => ?_)
     clear hK K
     (try simp only [Act.put, List.setIfInBounds_toArray, List.set_cons_zero, List.set_cons_succ])
     clear cg
     refine wpAnyH_ready (rs := [17]) (by kernel_rfl) (by simp) ?_
     refine (AllReadyH.cons (o := ⟨some 44, _, _, _, _, _⟩) rfl (fun K hK => ?_) AllReadyH.nil)
     obtain ⟨N8, hN8⟩ : ∃ N8, W7.heap.size = N8 := ⟨_, rfl⟩
     obtain ⟨W8, hW, HX, HB, HQ, HS, HGN⟩ : ∃ W8, W7.alloc (.cells #[.int .i64 z.q] T64s) = W8 ∧ Hid (GX w.heap.size gb rb nn av A9 c9 gs W8) ∧ Hid (Below w.heap.size w W8) ∧ Hid (Boxed W8 N8 T64s (.int .i64 z.q)) ∧ Hid (w.heap.size ≤ W8.heap.size) ∧ Hid (N8 ≠ gb ∧ N8 ≠ rb) :=
      ⟨_, rfl, Lib.hid (HX.out.later ((Below.refl _ _).alloc (Nat.le_refl _) _)), Lib.hid (HB.out.alloc HB.out.size _), Lib.hid (by rw [← hN8]; exact Boxed.new _ _ _), Lib.hid (by have := HB.out.size; simp; omega), Lib.hid (by have := (Array.getElem?_eq_some_iff.1 HX.out.hc).1; have := (Array.getElem?_eq_some_iff.1 (show _ = _ from HX.out.hr)).1; omega)⟩
     go_simp
     clear hW
     refine hK.out _ _ (RgC.of HB.out HROW.out HZ.out) (fun hHeld => ?_)
     clear hK K
     (try simp only [Act.put, List.setIfInBounds_toArray, List.set_cons_zero, List.set_cons_succ])
     refine wpAnyH_take (i := 18) (oi := ⟨some 45, _, _, _, _, _⟩) (v := .agg #[.int .i64 (bn : Int), .int .i64 (S - 1), .int .i64 (S - 1), .int .i64 z.q, .slice (some ⟨N8, 0, none⟩) 1 1]) rfl (by kernel_rfl) (by kernel_rfl) (by kernel_rfl) (fun _ _ _ h => h) (Or.inl ⟨by rfl, ?_⟩) (by assumption) ?_
     ·intro w0 hSw
      obtain ⟨e1, e4, e5⟩ := hSw
      go_simp
      (try with_reducible rfl)
     (try simp only [Act.put, List.setIfInBounds_toArray, List.set_cons_zero, List.set_cons_succ])
     refine wpAnyH_ready (rs := [19]) (by kernel_rfl) (by simp) ?_
     refine (AllReadyH.cons (o := ⟨some 46, _, _, _, _, _⟩) rfl (fun K hK => ?_) AllReadyH.nil)
     obtain ⟨N9, hN9⟩ : ∃ N9, W8.heap.size = N9 := ⟨_, rfl⟩
     obtain ⟨W9, hW, HX, HB, HN, HS, HQ⟩ : ∃ W9, W8.alloc (.cells #[.int .i64 (bn : Int), .int .i64 (S - 1), .int .i64 (S - 1), .int .i64 z.q, .slice (some ⟨N8, 0, none⟩) 1 1] TJb) = W9 ∧ Hid (GX w.heap.size gb rb nn av A9 c9 gs W9) ∧ Hid (Below w.heap.size w W9) ∧ Hid (∀ j u, (fvL ⟨(bn : Int), (S - 1), (S - 1), z.q, [z.q]⟩ (some ⟨N8, 0, none⟩) 1)[j]? = some u → W9.cell? ((⟨N9, 0, none⟩ : Addr).add j) = some u) ∧ Hid (w.heap.size ≤ W9.heap.size) ∧ Hid (Boxed W9 N8 T64s (.int .i64 z.q)) :=
      ⟨_, rfl, Lib.hid (HX.out.later ((Below.refl _ _).alloc (Nat.le_refl _) _)), Lib.hid (HB.out.alloc HB.out.size _), Lib.hid (by rw [← hN9]; exact fv_new W8 ⟨(bn : Int), (S - 1), (S - 1), z.q, [z.q]⟩ (some ⟨N8, 0, none⟩) 1), Lib.hid (by have := HB.out.size; simp; omega), Lib.hid (boxed_later2 HQ.out ((Below.refl _ _).alloc (Nat.le_refl _) _))⟩
     go_simp
     clear hW
     refine hK.out _ _ (RgC.of HB.out HROW.out HZ.out) (fun hHeld => ?_)
     clear hK K
     (try simp only [Act.put, List.setIfInBounds_toArray, List.set_cons_zero, List.set_cons_succ])
     refine wpAnyH_ready (rs := [20]) (by kernel_rfl) (by simp) ?_
     refine (AllReadyH.cons (o := ⟨some 47, _, _, _, _, _⟩) rfl (fun K hK => ?_) AllReadyH.nil)
     refine step_append_jb rfl (.tmp 28) (.tmp 46) rfl w.heap.size (.slice A9 nn c9) nn (gvC gs) rfl (by have := HX.out.ho.row; rw [H6.out] at this; exact this) ⟨N9, 0, none⟩ 1 1 (fvL ⟨(bn : Int), (S - 1), (S - 1), z.q, [z.q]⟩ (some ⟨N8, 0, none⟩) 1) rfl rfl HN.out (fvL_one _ _ _) (by have := HNN.out; omega) HS.out ?_
     intro v' w8 o1 g1
     obtain ⟨A', cap', rfl, hle', hmx'⟩ := own_len o1
     obtain ⟨q1, q2, q3, q4⟩ := gj_fin (g := ⟨⟨(bn : Int), (S - 1), (S - 1), z.q, [z.q]⟩, (some ⟨N8, 0, none⟩), 1⟩) HGB.out HRN.out HX.out.hr HX.out.hc HX.out.ho (gok_one (q := z.q) HFW.out rfl HQI.out HQ.out) H5.out H6.out H7.out (fun o => ⟨fun h => HGN.out.1 (by cases h; rfl), fun h => HGN.out.2 (by cases h; rfl)⟩) HS.out hle' hmx' o1 g1
     have Q1 := Lib.hid q1
     have Q3 := Lib.hid (HB.out.trans q3)
     have HB := Lib.hid (HB.out.trans q2)
     have Q4 := Lib.hid q4
     clear q1 q2 q3 q4 o1 g1
     refine hK.out _ _ (RgC.of HB.out HROW.out HZ.out) (fun hHeld => ?_)
     clear hK K
     (try simp only [Act.put, List.setIfInBounds_toArray, List.set_cons_zero, List.set_cons_succ])
     refine wpAnyH_take (i := 21) (oi := ⟨some 48, _, _, _, _, _⟩) (v := .pointer (some ⟨gb, 0, none⟩)) rfl (by kernel_rfl) (by kernel_rfl) (by kernel_rfl) (fun _ _ _ h => h) (Or.inl ⟨by rfl, ?_⟩) (by assumption) ?_
     ·intro w0 hSw
      obtain ⟨e1, e4, e5⟩ := hSw
      go_simp
      (try with_reducible rfl)
     (try simp only [Act.put, List.setIfInBounds_toArray, List.set_cons_zero, List.set_cons_succ])
     refine wpAnyH_ready (rs := [22]) (by kernel_rfl) (by simp) ?_
     refine (AllReadyH.cons (o := ⟨none, _, _, _, _, _⟩) rfl (fun K hK => ?_) AllReadyH.nil)
     have cg := (got_cells Q1.out).1
     have fg := (got_cells Q1.out).2.2.2.1
     go_simp
     clear cg fg
     refine hK.out _ _ (RgC.of Q3.out HROW.out HZ.out) (fun hHeld => ?_)
     clear hK K
     (try simp only [Act.put, List.setIfInBounds_toArray, List.set_cons_zero, List.set_cons_succ])
     refine wpAnyH_done (by kernel_rfl) ?_ _
     refine NoPanic.normal ?_
     simp only [Exit.then]
     apply_assumption
     obtain ⟨W12, hW12⟩ : ∃ W12, w8.setCell ⟨gb, 0, none⟩ (.slice A' (nn + 1) cap') = W12 := ⟨_, rfl⟩
     rw [hW12] at Q3 Q4 ⊢
     clear hW12 HX HB HN HS Q1 HQ hHeld
     rw [hav] at Q4
     obtain ⟨A2, c2, gs2, hq1, -, -, -, -, -, -⟩ := Q4.out.is
     have cc1 := (got_cells hq1).2.1
     have cf1 := (got_cells hq1).2.2.2.2.1
     clear hq1
     go_wp2
     go_meet
     exact ⟨Lib.hid (Q3.out.setCell (p := ⟨gb, 1, none⟩) Q4.out.gB _), Lib.hid (by rw [HH.out]; exact Q4.out.at1 1)⟩
    ·obtain ⟨N8, hN8⟩ : ∃ N8, W7.heap.size = N8 := ⟨_, rfl⟩
     obtain ⟨W8, hW, HX, HB, HQ, HS, HGN⟩ : ∃ W8, W7.alloc (.cells #[.int .i64 z.q] T64s) = W8 ∧ Hid (GX w.heap.size gb rb nn av A9 c9 gs W8) ∧ Hid (Below w.heap.size w W8) ∧ Hid (Boxed W8 N8 T64s (.int .i64 z.q)) ∧ Hid (w.heap.size ≤ W8.heap.size) ∧ Hid (N8 ≠ gb ∧ N8 ≠ rb) :=
      ⟨_, rfl, Lib.hid (HX.out.later ((Below.refl _ _).alloc (Nat.le_refl _) _)), Lib.hid (HB.out.alloc HB.out.size _), Lib.hid (by rw [← hN8]; exact Boxed.new _ _ _), Lib.hid (by have := HB.out.size; simp; omega), Lib.hid (by have := (Array.getElem?_eq_some_iff.1 HX.out.hc).1; have := (Array.getElem?_eq_some_iff.1 (show _ = _ from HX.out.hr)).1; omega)⟩
     go_simp
     clear hW
     refine hK.out _ _ (RgC.of HB.out HROW.out HZ.out) (fun hHeld => ?_)
     clear hK K
     (try simp only [Act.put, List.setIfInBounds_toArray, List.set_cons_zero, List.set_cons_succ])
     refine wpAnyH_take (i := 18) (oi := ⟨some 45, _, _, _, _, _⟩) (v := .agg #[.int .i64 (bn : Int), .int .i64 (S - 1), .int .i64 (S - 1), .int .i64 z.q, .slice (some ⟨N8, 0, none⟩) 1 1]) rfl (by kernel_rfl) (by kernel_rfl) (by kernel_rfl) (fun _ _ _ h => h) (Or.inl ⟨by rfl, ?_⟩) (by assumption) ?_
     ·intro w0 hSw
      obtain ⟨e1, e4, e5⟩ := hSw
      go_simp
      (try with_reducible rfl)
     (try simp only [Act.put, List.setIfInBounds_toArray, List.set_cons_zero, List.set_cons_succ])
     refine wpAnyH_ready (rs := [1, 19]) (by kernel_rfl) (by simp) ?_
     refine (AllReadyH.cons (o := ⟨some 28, _, _, _, _, _⟩) rfl (fun K hK => ?_) (AllReadyH.cons (o := ⟨some 46, _, _, _, _, _⟩) rfl (fun K hK => ?_) AllReadyH.nil))
     ·have cg := (got_cells HX.out.hc).1
      go_simp
      refine hK.out _ _ (RgC.of HB.out HROW.out HZ.out) (fun hHeld => ?_)
      clear hK K
      (try simp only [Act.put, List.setIfInBounds_toArray, List.set_cons_zero, List.set_cons_succ])
      clear cg
      refine wpAnyH_ready (rs := [19]) (by kernel_rfl) (by simp) ?_
      refine (AllReadyH.cons (o := ⟨some 46, _, _, _, _, _⟩) rfl (fun K hK => ?_) AllReadyH.nil)
      obtain ⟨N9, hN9⟩ : ∃ N9, W8.heap.size = N9 := ⟨_, rfl⟩
      obtain ⟨W9, hW, HX, HB, HN, HS, HQ⟩ : ∃ W9, W8.alloc (.cells #[.int .i64 (bn : Int), .int .i64 (S - 1), .int .i64 (S - 1), .int .i64 z.q, .slice (some ⟨N8, 0, none⟩) 1 1] TJb) = W9 ∧ Hid (GX w.heap.size gb rb nn av A9 c9 gs W9) ∧ Hid (Below w.heap.size w W9) ∧ Hid (∀ j u, (fvL ⟨(bn : Int), (S - 1), (S - 1), z.q, [z.q]⟩ (some ⟨N8, 0, none⟩) 1)[j]? = some u → W9.cell? ((⟨N9, 0, none⟩ : Addr).add j) = some u) ∧ Hid (w.heap.size ≤ W9.heap.size) ∧ Hid (Boxed W9 N8 T64s (.int .i64 z.q)) :=
       ⟨_, rfl, Lib.hid (HX.out.later ((Below.refl _ _).alloc (Nat.le_refl _) _)), Lib.hid (HB.out.alloc HB.out.size _), Lib.hid (by rw [← hN9]; exact fv_new W8 ⟨(bn : Int), (S - 1), (S - 1), z.q, [z.q]⟩ (some ⟨N8, 0, none⟩) 1), Lib.hid (by have := HB.out.size; simp; omega), Lib.hid (boxed_later2 HQ.out ((Below.refl _ _).alloc (Nat.le_refl _) _))⟩
      go_simp
      clear hW
      refine hK.out _ _ (RgC.of HB.out HROW.out HZ.out) (fun hHeld => ?_)
      clear hK K
      (try simp only [Act.put, List.setIfInBounds_toArray, List.set_cons_zero, List.set_cons_succ])
      refine wpAnyH_ready (rs := [20]) (by kernel_rfl) (by simp) ?_
      refine (AllReadyH.cons (o := ⟨some 47, _, _, _, _, _⟩) rfl (fun K hK => ?_) AllReadyH.nil)
      refine step_append_jb rfl (.tmp 28) (.tmp 46) rfl w.heap.size (.slice A9 nn c9) nn (gvC gs) rfl (by have := HX.out.ho.row; rw [H6.out] at this; exact this) ⟨N9, 0, none⟩ 1 1 (fvL ⟨(bn : Int), (S - 1), (S - 1), z.q, [z.q]⟩ (some ⟨N8, 0, none⟩) 1) rfl rfl HN.out (fvL_one _ _ _) (by have := HNN.out; omega) HS.out ?_
      intro v' w8 o1 g1
      obtain ⟨A', cap', rfl, hle', hmx'⟩ := own_len o1
      obtain ⟨q1, q2, q3, q4⟩ := gj_fin (g := ⟨⟨(bn : Int), (S - 1), (S - 1), z.q, [z.q]⟩, (some ⟨N8, 0, none⟩), 1⟩) HGB.out HRN.out HX.out.hr HX.out.hc HX.out.ho (gok_one (q := z.q) HFW.out rfl HQI.out HQ.out) H5.out H6.out H7.out (fun o => ⟨fun h => HGN.out.1 (by cases h; rfl), fun h => HGN.out.2 (by cases h; rfl)⟩) HS.out hle' hmx' o1 g1
      have Q1 := Lib.hid q1
      have Q3 := Lib.hid (HB.out.trans q3)
      have HB := Lib.hid (HB.out.trans q2)
      have Q4 := Lib.hid q4
      clear q1 q2 q3 q4 o1 g1
      refine hK.out _ _ (RgC.of HB.out HROW.out HZ.out) (fun hHeld => ?_)
      clear hK K
      (try simp only [Act.put, List.setIfInBounds_toArray, List.set_cons_zero, List.set_cons_succ])
      refine wpAnyH_take (i := 21) (oi := ⟨some 48, _, _, _, _, _⟩) (v := .pointer (some ⟨gb, 0, none⟩)) rfl (by kernel_rfl) (by kernel_rfl) (by kernel_rfl) (fun _ _ _ h => h) (Or.inl ⟨by rfl, ?_⟩) (by assumption) ?_
      ·intro w0 hSw
       obtain ⟨e1, e4, e5⟩ := hSw
       go_simp
       (try with_reducible rfl)
      (try simp only [Act.put, List.setIfInBounds_toArray, List.set_cons_zero, List.set_cons_succ])
      refine wpAnyH_ready (rs := [22]) (by kernel_rfl) (by simp) ?_
      refine (AllReadyH.cons (o := ⟨none, _, _, _, _, _⟩) rfl (fun K hK => ?_) AllReadyH.nil)
      have cg := (got_cells Q1.out).1
      have fg := (got_cells Q1.out).2.2.2.1
      go_simp
      clear cg fg
      refine hK.out _ _ (RgC.of Q3.out HROW.out HZ.out) (fun hHeld => ?_)
      clear hK K
      (try simp only [Act.put, List.setIfInBounds_toArray, List.set_cons_zero, List.set_cons_succ])
      refine wpAnyH_done (by kernel_rfl) ?_ _
      refine NoPanic.normal ?_
      simp only [Exit.then]
      apply_assumption
      obtain ⟨W12, hW12⟩ : ∃ W12, w8.setCell ⟨gb, 0, none⟩ (.slice A' (nn + 1) cap') = W12 := ⟨_, rfl⟩
      rw [hW12] at Q3 Q4 ⊢
      clear hW12 HX HB HN HS Q1 HQ hHeld
      rw [hav] at Q4
      obtain ⟨A2, c2, gs2, hq1, -, -, -, -, -, -⟩ := Q4.out.is
      have cc1 := (got_cells hq1).2.1
      have cf1 := (got_cells hq1).2.2.2.2.1
      clear hq1
      go_wp2
      go_meet
      exact ⟨Lib.hid (Q3.out.setCell (p := ⟨gb, 1, none⟩) Q4.out.gB _), Lib.hid (by rw [HH.out]; exact Q4.out.at1 1)⟩
     ·obtain ⟨N9, hN9⟩ : ∃ N9, W8.heap.size = N9 := ⟨_, rfl⟩
      obtain ⟨W9, hW, HX, HB, HN, HS, HQ⟩ : ∃ W9, W8.alloc (.cells #[.int .i64 (bn : Int), .int .i64 (S - 1), .int .i64 (S - 1), .int .i64 z.q, .slice (some ⟨N8, 0, none⟩) 1 1] TJb) = W9 ∧ Hid (GX w.heap.size gb rb nn av A9 c9 gs W9) ∧ Hid (Below w.heap.size w W9) ∧ Hid (∀ j u, (fvL ⟨(bn : Int), (S - 1), (S - 1), z.q, [z.q]⟩ (some ⟨N8, 0, none⟩) 1)[j]? = some u → W9.cell? ((⟨N9, 0, none⟩ : Addr).add j) = some u) ∧ Hid (w.heap.size ≤ W9.heap.size) ∧ Hid (Boxed W9 N8 T64s (.int .i64 z.q)) :=
       ⟨_, rfl, Lib.hid (HX.out.later ((Below.refl _ _).alloc (Nat.le_refl _) _)), Lib.hid (HB.out.alloc HB.out.size _), Lib.hid (by rw [← hN9]; exact fv_new W8 ⟨(bn : Int), (S - 1), (S - 1), z.q, [z.q]⟩ (some ⟨N8, 0, none⟩) 1), Lib.hid (by have := HB.out.size; simp; omega), Lib.hid (boxed_later2 HQ.out ((Below.refl _ _).alloc (Nat.le_refl _) _))⟩
      go_simp
      clear hW
      refine hK.out _ _ (RgC.of HB.out HROW.out HZ.out) (fun hHeld => ?_)
      clear hK K
      (try simp only [Act.put, List.setIfInBounds_toArray, List.set_cons_zero, List.set_cons_succ])
      refine wpAnyH_ready (rs := [1]) (by kernel_rfl) (by simp) ?_
      refine (AllReadyH.cons (o := ⟨some 28, _, _, _, _, _⟩) rfl (fun K hK => ?_) AllReadyH.nil)
      have cg := (got_cells HX.out.hc).1
      go_simp
      refine hK.out _ _ (RgC.of HB.out HROW.out HZ.out) (fun hHeld => ?_)
      clear hK K
      (try simp only [Act.put, List.setIfInBounds_toArray, List.set_cons_zero, List.set_cons_succ])
      clear cg
      refine wpAnyH_ready (rs := [20]) (by kernel_rfl) (by simp) ?_
      refine (AllReadyH.cons (o := ⟨some 47, _, _, _, _, _⟩) rfl (fun K hK => ?_) AllReadyH.nil)
      refine step_append_jb rfl (.tmp 28) (.tmp 46) rfl w.heap.size (.slice A9 nn c9) nn (gvC gs) rfl (by have := HX.out.ho.row; rw [H6.out] at this; exact this) ⟨N9, 0, none⟩ 1 1 (fvL ⟨(bn : Int), (S - 1), (S - 1), z.q, [z.q]⟩ (some ⟨N8, 0, none⟩) 1) rfl rfl HN.out (fvL_one _ _ _) (by have := HNN.out; omega) HS.out ?_
      intro v' w8 o1 g1
      obtain ⟨A', cap', rfl, hle', hmx'⟩ := own_len o1
      obtain ⟨q1, q2, q3, q4⟩ := gj_fin (g := ⟨⟨(bn : Int), (S - 1), (S - 1), z.q, [z.q]⟩, (some ⟨N8, 0, none⟩), 1⟩) HGB.out HRN.out HX.out.hr HX.out.hc HX.out.ho (gok_one (q := z.q) HFW.out rfl HQI.out HQ.out) H5.out H6.out H7.out (fun o => ⟨fun h => HGN.out.1 (by cases h; rfl), fun h => HGN.out.2 (by cases h; rfl)⟩) HS.out hle' hmx' o1 g1
      have Q1 := Lib.hid q1
      have Q3 := Lib.hid (HB.out.trans q3)
      have HB := Lib.hid (HB.out.trans q2)
      have Q4 := Lib.hid q4
      clear q1 q2 q3 q4 o1 g1
      refine hK.out _ _ (RgC.of HB.out HROW.out HZ.out) (fun hHeld => ?_)
      clear hK K
      (try simp only [Act.put, List.setIfInBounds_toArray, List.set_cons_zero, List.set_cons_succ])
      refine wpAnyH_take (i := 21) (oi := ⟨some 48, _, _, _, _, _⟩) (v := .pointer (some ⟨gb, 0, none⟩)) rfl (by kernel_rfl) (by kernel_rfl) (by kernel_rfl) (fun _ _ _ h => h) (Or.inl ⟨by rfl, ?_⟩) (by assumption) ?_
      ·intro w0 hSw
       obtain ⟨e1, e4, e5⟩ := hSw
       go_simp
       (try with_reducible rfl)
      (try simp only [Act.put, List.setIfInBounds_toArray, List.set_cons_zero, List.set_cons_succ])
      refine wpAnyH_ready (rs := [22]) (by kernel_rfl) (by simp) ?_
      refine (AllReadyH.cons (o := ⟨none, _, _, _, _, _⟩) rfl (fun K hK => ?_) AllReadyH.nil)
      have cg := (got_cells Q1.out).1
      have fg := (got_cells Q1.out).2.2.2.1
      go_simp
      clear cg fg
      refine hK.out _ _ (RgC.of Q3.out HROW.out HZ.out) (fun hHeld => ?_)
      clear hK K
      (try simp only [Act.put, List.setIfInBounds_toArray, List.set_cons_zero, List.set_cons_succ])
      refine wpAnyH_done (by kernel_rfl) ?_ _
      refine NoPanic.normal ?_
      simp only [Exit.then]
      apply_assumption
      obtain ⟨W12, hW12⟩ : ∃ W12, w8.setCell ⟨gb, 0, none⟩ (.slice A' (nn + 1) cap') = W12 := ⟨_, rfl⟩
      rw [hW12] at Q3 Q4 ⊢
      clear hW12 HX HB HN HS Q1 HQ hHeld
      rw [hav] at Q4
      obtain ⟨A2, c2, gs2, hq1, -, -, -, -, -, -⟩ := Q4.out.is
      have cc1 := (got_cells hq1).2.1
      have cf1 := (got_cells hq1).2.2.2.2.1
      clear hq1
      go_wp2
      go_meet
      exact ⟨Lib.hid (Q3.out.setCell (p := ⟨gb, 1, none⟩) Q4.out.gB _), Lib.hid (by rw [HH.out]; exact Q4.out.at1 1)⟩
 case rest =>
  obtain ⟨HB, HG⟩ := hcut
  obtain ⟨w9, hw9⟩ : ∃ W, W = wc := ⟨_, rfl⟩
  subst hw9
  clear HBK
  obtain ⟨hn1, -⟩ := scene_len (ts := l) (i := (ki : Int))
  obtain ⟨H, hH⟩ : ∃ H, headS l (ki : Int) = H := ⟨_, rfl⟩
  rw [hH] at HG hn1
  have HH := Lib.hid hH
  obtain ⟨av, hav⟩ : ∃ av : Int, (H.length : Int) = av := ⟨_, rfl⟩
  rw [hav] at HG
  have HAV := Lib.hid hav
  clear hH hav
  have hw2 : IntKind.i64.wrap (S - y.j) = S - y.j := by rw [IntKind.wrap_i64]; omega
  obtain ⟨M, hM⟩ : ∃ M : Fv, M = ⟨ki, S - y.j, S, y.c, []⟩ := ⟨_, rfl⟩
  have HM := Lib.hid hM
  have HFW : Hid (FvW ⟨(ki : Int), S - y.j, S, y.c, []⟩) := Lib.hid (fvw_of (by omega) (by omega) (by omega) (by omega))
  clear hM hw1
  apply_assumption
  go_upto_region 10 with (fail)
  go_cut [] from 50 to 69 (fun wx => Hid (Below w.heap.size w wx) ∧ Hid (GJ w.heap.size gb rb (H ++ [M]) av wx))
  case first =>
   obtain ⟨A9, c9, gs, hg1, hg2, hg3, hg4, hg5, hg6, hg7⟩ := HG.out.is
   obtain ⟨nn, hnn⟩ : ∃ nn, H.length = nn := ⟨_, rfl⟩
   rw [hnn] at hg1 hg2 hg4 hg6
   have HX := Lib.hid ((GX.mk HG.out.rc hg1 hg4).later (below_drew w9))
   have HB := Lib.hid (HB.out.trans ((below_drew w9).mono HB.out.size))
   have H5 := Lib.hid hg5
   have H6 := Lib.hid hg6
   have H7 := Lib.hid hg7
   have HGB := Lib.hid HG.out.gB
   have HRN := Lib.hid HG.out.rn
   have HNN : Hid (nn ≤ 100000) := Lib.hid (by first | omega | (rw [← hnn]; simp))
   have HC0 := RgC.of HB.out HROW.out HY.out
   clear hg1 hg2 hg3 hg4 hg5 hg6 hg7 hnn HG
   refine wp_region_noPanic ?_
   refine wp_region_held_drew (S := RgC b (o + ki * 7) y) (by kernel_rfl) HC0 (fun hHeld => ?_)
   clear HC0
   generalize w9.drew = W7 at *
   refine wpAnyH_take (i := 0) (oi := ⟨some 50, _, _, _, _, _⟩) (v := .pointer (some ⟨gb, 0, none⟩)) rfl (by kernel_rfl) (by kernel_rfl) (by kernel_rfl) (fun _ _ _ h => h) (Or.inl ⟨by rfl, ?_⟩) (by assumption) ?_
   ·intro w0 hSw
    obtain ⟨e1, e4, e5⟩ := hSw
    go_simp
    (try with_reducible rfl)
   (try simp only [Act.put, List.setIfInBounds_toArray, List.set_cons_zero, List.set_cons_succ])
   refine wpAnyH_take (i := 2) (oi := ⟨some 52, _, _, _, _, _⟩) (v := .int .i64 (ki : Int)) rfl (by kernel_rfl) (by kernel_rfl) (by kernel_rfl) (fun _ _ _ h => h) (Or.inl ⟨by rfl, ?_⟩) (by assumption) ?_
   ·intro w0 hSw
    obtain ⟨e1, e4, e5⟩ := hSw
    go_simp
    (try with_reducible rfl)
   (try simp only [Act.put, List.setIfInBounds_toArray, List.set_cons_zero, List.set_cons_succ])
   refine wpAnyH_take (i := 3) (oi := ⟨some 53, _, _, _, _, _⟩) (v := .int .i64 S) rfl (by kernel_rfl) (by kernel_rfl) (by kernel_rfl) (fun _ _ _ h => h) (Or.inl ⟨by rfl, ?_⟩) (by assumption) ?_
   ·intro w0 hSw
    obtain ⟨e1, e4, e5⟩ := hSw
    go_simp
    (try with_reducible rfl)
   (try simp only [Act.put, List.setIfInBounds_toArray, List.set_cons_zero, List.set_cons_succ])
   refine wpAnyH_take (i := 4) (oi := ⟨some 54, _, _, _, _, _⟩) (v := .slice (some ⟨b, o, none⟩) l.length cap) rfl (by kernel_rfl) (by kernel_rfl) (by kernel_rfl) (fun _ _ _ h => h) (Or.inl ⟨by rfl, ?_⟩) (by assumption) ?_
   ·intro w0 hSw
    obtain ⟨e1, e4, e5⟩ := hSw
    go_simp
    (try with_reducible rfl)
   (try simp only [Act.put, List.setIfInBounds_toArray, List.set_cons_zero, List.set_cons_succ])
   refine wpAnyH_take (i := 5) (oi := ⟨some 55, _, _, _, _, _⟩) (v := .int .i64 (ki : Int)) rfl (by kernel_rfl) (by kernel_rfl) (by kernel_rfl) (fun _ _ _ h => h) (Or.inl ⟨by rfl, ?_⟩) (by assumption) ?_
   ·intro w0 hSw
    obtain ⟨e1, e4, e5⟩ := hSw
    go_simp
    (try with_reducible rfl)
   (try simp only [Act.put, List.setIfInBounds_toArray, List.set_cons_zero, List.set_cons_succ])
   refine wpAnyH_take (i := 6) (oi := ⟨some 56, _, _, _, _, _⟩) (v := .pointer (some ⟨b, o + ki * 7, none⟩)) rfl (by kernel_rfl) (by kernel_rfl) (by kernel_rfl) (fun _ _ _ h => h) (Or.inl ⟨by rfl, ?_⟩) (by assumption) ?_
   ·intro w0 hSw
    obtain ⟨e1, e4, e5⟩ := hSw
    go_simp
    (try with_reducible rfl)
   (try simp only [Act.put, List.setIfInBounds_toArray, List.set_cons_zero, List.set_cons_succ])
   refine wpAnyH_take (i := 7) (oi := ⟨some 57, _, _, _, _, _⟩) (v := .pointer (some ⟨b, o + ki * 7 + 4, none⟩)) rfl (by kernel_rfl) (by kernel_rfl) (by kernel_rfl) (fun _ _ _ h => h) (Or.inl ⟨by rfl, ?_⟩) (by assumption) ?_
   ·intro w0 hSw
    obtain ⟨e1, e4, e5⟩ := hSw
    go_simp
    (try with_reducible rfl)
   (try simp only [Act.put, List.setIfInBounds_toArray, List.set_cons_zero, List.set_cons_succ])
   refine wpAnyH_take (i := 8) (oi := ⟨some 58, _, _, _, _, _⟩) (v := .int .i64 y.j) rfl (by kernel_rfl) (by kernel_rfl) (by kernel_rfl) (fun _ _ _ h => h) (Or.inl ⟨by rfl, ?_⟩) (by assumption) ?_
   ·intro w0 hSw
    obtain ⟨e1, e4, e5⟩ := hSw
    go_simp
    (try with_reducible rfl)
   (try simp only [Act.put, List.setIfInBounds_toArray, List.set_cons_zero, List.set_cons_succ])
   refine wpAnyH_take (i := 9) (oi := ⟨some 59, _, _, _, _, _⟩) (v := .int .i64 (S - y.j)) rfl (by kernel_rfl) (by kernel_rfl) (by kernel_rfl) (fun _ _ _ h => h) (Or.inl ⟨by rfl, ?_⟩) (by assumption) ?_
   ·intro w0 hSw
    obtain ⟨e1, e4, e5⟩ := hSw
    go_simp
    (try with_reducible rfl)
   (try simp only [Act.put, List.setIfInBounds_toArray, List.set_cons_zero, List.set_cons_succ])
   refine wpAnyH_take (i := 10) (oi := ⟨some 60, _, _, _, _, _⟩) (v := .int .i64 S) rfl (by kernel_rfl) (by kernel_rfl) (by kernel_rfl) (fun _ _ _ h => h) (Or.inl ⟨by rfl, ?_⟩) (by assumption) ?_
   ·intro w0 hSw
    obtain ⟨e1, e4, e5⟩ := hSw
    go_simp
    (try with_reducible rfl)
   (try simp only [Act.put, List.setIfInBounds_toArray, List.set_cons_zero, List.set_cons_succ])
   refine wpAnyH_take (i := 11) (oi := ⟨some 61, _, _, _, _, _⟩) (v := .slice (some ⟨b, o, none⟩) l.length cap) rfl (by kernel_rfl) (by kernel_rfl) (by kernel_rfl) (fun _ _ _ h => h) (Or.inl ⟨by rfl, ?_⟩) (by assumption) ?_
   ·intro w0 hSw
    obtain ⟨e1, e4, e5⟩ := hSw
    go_simp
    (try with_reducible rfl)
   (try simp only [Act.put, List.setIfInBounds_toArray, List.set_cons_zero, List.set_cons_succ])
   refine wpAnyH_take (i := 12) (oi := ⟨some 62, _, _, _, _, _⟩) (v := .int .i64 (ki : Int)) rfl (by kernel_rfl) (by kernel_rfl) (by kernel_rfl) (fun _ _ _ h => h) (Or.inl ⟨by rfl, ?_⟩) (by assumption) ?_
   ·intro w0 hSw
    obtain ⟨e1, e4, e5⟩ := hSw
    go_simp
    (try with_reducible rfl)
   (try simp only [Act.put, List.setIfInBounds_toArray, List.set_cons_zero, List.set_cons_succ])
   refine wpAnyH_take (i := 13) (oi := ⟨some 63, _, _, _, _, _⟩) (v := .pointer (some ⟨b, o + ki * 7, none⟩)) rfl (by kernel_rfl) (by kernel_rfl) (by kernel_rfl) (fun _ _ _ h => h) (Or.inl ⟨by rfl, ?_⟩) (by assumption) ?_
   ·intro w0 hSw
    obtain ⟨e1, e4, e5⟩ := hSw
    go_simp
    (try with_reducible rfl)
   (try simp only [Act.put, List.setIfInBounds_toArray, List.set_cons_zero, List.set_cons_succ])
   refine wpAnyH_take (i := 14) (oi := ⟨some 64, _, _, _, _, _⟩) (v := .pointer (some ⟨b, o + ki * 7 + 1, none⟩)) rfl (by kernel_rfl) (by kernel_rfl) (by kernel_rfl) (fun _ _ _ h => h) (Or.inl ⟨by rfl, ?_⟩) (by assumption) ?_
   ·intro w0 hSw
    obtain ⟨e1, e4, e5⟩ := hSw
    go_simp
    (try with_reducible rfl)
   (try simp only [Act.put, List.setIfInBounds_toArray, List.set_cons_zero, List.set_cons_succ])
   refine wpAnyH_take (i := 15) (oi := ⟨some 65, _, _, _, _, _⟩) (v := .int .i64 y.c) rfl (by kernel_rfl) (by kernel_rfl) (by kernel_rfl) (fun _ _ _ h => h) (Or.inl ⟨by rfl, ?_⟩) (by assumption) ?_
   ·intro w0 hSw
    obtain ⟨e1, e4, e5⟩ := hSw
    go_simp
    (try with_reducible rfl)
   (try simp only [Act.put, List.setIfInBounds_toArray, List.set_cons_zero, List.set_cons_succ])
   refine wpAnyH_take (i := 16) (oi := ⟨some 66, _, _, _, _, _⟩) (v := .agg #[.int .i64 (ki : Int), .int .i64 (S - y.j), .int .i64 S, .int .i64 y.c, .slice none 0 0]) rfl (by kernel_rfl) (by kernel_rfl) (by kernel_rfl) (fun _ _ _ h => h) (Or.inl ⟨by rfl, ?_⟩) (by assumption) ?_
   ·intro w0 hSw
    obtain ⟨e1, e4, e5⟩ := hSw
    kernel_rfl
   (try simp only [Act.put, List.setIfInBounds_toArray, List.set_cons_zero, List.set_cons_succ])
   refine wpAnyH_ready (rs := [1, 17]) (by kernel_rfl) (by simp) ?_
   refine (AllReadyH.cons (o := ⟨some 51, _, _, _, _, _⟩) rfl (fun K hK => ?_) (AllReadyH.cons (o := ⟨some 67, _, _, _, _, _⟩) rfl (fun K hK => ?_) AllReadyH.nil))
   ·have cg := (got_cells HX.out.hc).1
    go_simp
    refine hK.out _ _ (RgC.of HB.out HROW.out HY.out) (fun hHeld => ?_)
    clear hK K
    (try simp only [Act.put, List.setIfInBounds_toArray, List.set_cons_zero, List.set_cons_succ])
    clear cg
    refine wpAnyH_ready (rs := [17]) (by kernel_rfl) (by simp) ?_
    refine (AllReadyH.cons (o := ⟨some 67, _, _, _, _, _⟩) rfl (fun K hK => ?_) AllReadyH.nil)
    obtain ⟨N9, hN9⟩ : ∃ N9, W7.heap.size = N9 := ⟨_, rfl⟩
    obtain ⟨W8, hW, HX, HB, HN, HS⟩ : ∃ W8, W7.alloc (.cells #[.int .i64 (ki : Int), .int .i64 (S - y.j), .int .i64 S, .int .i64 y.c, .slice none 0 0] TJb) = W8 ∧ Hid (GX w.heap.size gb rb nn av A9 c9 gs W8) ∧ Hid (Below w.heap.size w W8) ∧ Hid (∀ j u, (fvL ⟨(ki : Int), (S - y.j), S, y.c, []⟩ none 0)[j]? = some u → W8.cell? ((⟨N9, 0, none⟩ : Addr).add j) = some u) ∧ Hid (w.heap.size ≤ W8.heap.size) :=
     ⟨_, rfl, Lib.hid (HX.out.later ((Below.refl _ _).alloc (Nat.le_refl _) _)), Lib.hid (HB.out.alloc HB.out.size _), Lib.hid (by rw [← hN9]; exact fv_new W7 ⟨(ki : Int), (S - y.j), S, y.c, []⟩ none 0), Lib.hid (by have := HB.out.size; simp; omega)⟩
    go_simp
    clear hW
    refine hK.out _ _ (RgC.of HB.out HROW.out HY.out) (fun hHeld => ?_)
    clear hK K
    (try simp only [Act.put, List.setIfInBounds_toArray, List.set_cons_zero, List.set_cons_succ])
    refine wpAnyH_ready (rs := [18]) (by kernel_rfl) (by simp) ?_
    refine (AllReadyH.cons (o := ⟨some 68, _, _, _, _, _⟩) rfl (fun K hK => ?_) AllReadyH.nil)
    refine step_append_jb rfl (.tmp 51) (.tmp 67) rfl w.heap.size (.slice A9 nn c9) nn (gvC gs) rfl (by have := HX.out.ho.row; rw [H6.out] at this; exact this) ⟨N9, 0, none⟩ 1 1 (fvL ⟨(ki : Int), (S - y.j), S, y.c, []⟩ none 0) rfl rfl HN.out (fvL_one _ _ _) (by have := HNN.out; omega) HS.out ?_
    intro v' w8 o1 g1
    obtain ⟨A', cap', rfl, hle', hmx'⟩ := own_len o1
    obtain ⟨q1, q2, q3, q4⟩ := gj_fin (g := ⟨⟨(ki : Int), (S - y.j), S, y.c, []⟩, none, 0⟩) HGB.out HRN.out HX.out.hr HX.out.hc HX.out.ho (gok_nil HFW.out rfl) H5.out H6.out H7.out (fun o => ⟨fun h => (by cases h), fun h => (by cases h)⟩) HS.out hle' hmx' o1 g1
    have Q1 := Lib.hid q1
    have Q3 := Lib.hid (HB.out.trans q3)
    have HB := Lib.hid (HB.out.trans q2)
    have Q4 := Lib.hid q4
    clear q1 q2 q3 q4 o1 g1
    refine hK.out _ _ (RgC.of HB.out HROW.out HY.out) (fun hHeld => ?_)
    clear hK K
    (try simp only [Act.put, List.setIfInBounds_toArray, List.set_cons_zero, List.set_cons_succ])
    refine wpAnyH_take (i := 19) (oi := ⟨some 69, _, _, _, _, _⟩) (v := .pointer (some ⟨gb, 0, none⟩)) rfl (by kernel_rfl) (by kernel_rfl) (by kernel_rfl) (fun _ _ _ h => h) (Or.inl ⟨by rfl, ?_⟩) (by assumption) ?_
    ·intro w0 hSw
     obtain ⟨e1, e4, e5⟩ := hSw
     go_simp
     (try with_reducible rfl)
    (try simp only [Act.put, List.setIfInBounds_toArray, List.set_cons_zero, List.set_cons_succ])
    refine wpAnyH_ready (rs := [20]) (by kernel_rfl) (by simp) ?_
    refine (AllReadyH.cons (o := ⟨none, _, _, _, _, _⟩) rfl (fun K hK => ?_) AllReadyH.nil)
    have cg := (got_cells Q1.out).1
    have fg := (got_cells Q1.out).2.2.2.1
    go_simp
    clear cg fg
    refine hK.out _ _ (RgC.of Q3.out HROW.out HY.out) (fun hHeld => ?_)
    clear hK K
    (try simp only [Act.put, List.setIfInBounds_toArray, List.set_cons_zero, List.set_cons_succ])
    refine wpAnyH_done (by kernel_rfl) ?_ _
    refine NoPanic.normal ?_
    simp only [Exit.then]
    apply_assumption
    go_meet
    exact ⟨Q3, Lib.hid (by rw [HM.out]; exact Q4.out)⟩
   ·obtain ⟨N9, hN9⟩ : ∃ N9, W7.heap.size = N9 := ⟨_, rfl⟩
    obtain ⟨W8, hW, HX, HB, HN, HS⟩ : ∃ W8, W7.alloc (.cells #[.int .i64 (ki : Int), .int .i64 (S - y.j), .int .i64 S, .int .i64 y.c, .slice none 0 0] TJb) = W8 ∧ Hid (GX w.heap.size gb rb nn av A9 c9 gs W8) ∧ Hid (Below w.heap.size w W8) ∧ Hid (∀ j u, (fvL ⟨(ki : Int), (S - y.j), S, y.c, []⟩ none 0)[j]? = some u → W8.cell? ((⟨N9, 0, none⟩ : Addr).add j) = some u) ∧ Hid (w.heap.size ≤ W8.heap.size) :=
     ⟨_, rfl, Lib.hid (HX.out.later ((Below.refl _ _).alloc (Nat.le_refl _) _)), Lib.hid (HB.out.alloc HB.out.size _), Lib.hid (by rw [← hN9]; exact fv_new W7 ⟨(ki : Int), (S - y.j), S, y.c, []⟩ none 0), Lib.hid (by have := HB.out.size; simp; omega)⟩
    go_simp
    clear hW
    refine hK.out _ _ (RgC.of HB.out HROW.out HY.out) (fun hHeld => ?_)
    clear hK K
    (try simp only [Act.put, List.setIfInBounds_toArray, List.set_cons_zero, List.set_cons_succ])
    refine wpAnyH_ready (rs := [1]) (by kernel_rfl) (by simp) ?_
    refine (AllReadyH.cons (o := ⟨some 51, _, _, _, _, _⟩) rfl (fun K hK => ?_) AllReadyH.nil)
    have cg := (got_cells HX.out.hc).1
    go_simp
    refine hK.out _ _ (RgC.of HB.out HROW.out HY.out) (fun hHeld => ?_)
    clear hK K
    (try simp only [Act.put, List.setIfInBounds_toArray, List.set_cons_zero, List.set_cons_succ])
    clear cg
    refine wpAnyH_ready (rs := [18]) (by kernel_rfl) (by simp) ?_
    refine (AllReadyH.cons (o := ⟨some 68, _, _, _, _, _⟩) rfl (fun K hK => ?_) AllReadyH.nil)
    refine step_append_jb rfl (.tmp 51) (.tmp 67) rfl w.heap.size (.slice A9 nn c9) nn (gvC gs) rfl (by have := HX.out.ho.row; rw [H6.out] at this; exact this) ⟨N9, 0, none⟩ 1 1 (fvL ⟨(ki : Int), (S - y.j), S, y.c, []⟩ none 0) rfl rfl HN.out (fvL_one _ _ _) (by have := HNN.out; omega) HS.out ?_
    intro v' w8 o1 g1
    obtain ⟨A', cap', rfl, hle', hmx'⟩ := own_len o1
    obtain ⟨q1, q2, q3, q4⟩ := gj_fin (g := ⟨⟨(ki : Int), (S - y.j), S, y.c, []⟩, none, 0⟩) HGB.out HRN.out HX.out.hr HX.out.hc HX.out.ho (gok_nil HFW.out rfl) H5.out H6.out H7.out (fun o => ⟨fun h => (by cases h), fun h => (by cases h)⟩) HS.out hle' hmx' o1 g1
    have Q1 := Lib.hid q1
    have Q3 := Lib.hid (HB.out.trans q3)
    have HB := Lib.hid (HB.out.trans q2)
    have Q4 := Lib.hid q4
    clear q1 q2 q3 q4 o1 g1
    refine hK.out _ _ (RgC.of HB.out HROW.out HY.out) (fun hHeld => ?_)
    clear hK K
    (try simp only [Act.put, List.setIfInBounds_toArray, List.set_cons_zero, List.set_cons_succ])
    refine wpAnyH_take (i := 19) (oi := ⟨some 69, _, _, _, _, _⟩) (v := .pointer (some ⟨gb, 0, none⟩)) rfl (by kernel_rfl) (by kernel_rfl) (by kernel_rfl) (fun _ _ _ h => h) (Or.inl ⟨by rfl, ?_⟩) (by assumption) ?_
    ·intro w0 hSw
     obtain ⟨e1, e4, e5⟩ := hSw
     go_simp
     (try with_reducible rfl)
    (try simp only [Act.put, List.setIfInBounds_toArray, List.set_cons_zero, List.set_cons_succ])
    refine wpAnyH_ready (rs := [20]) (by kernel_rfl) (by simp) ?_
    refine (AllReadyH.cons (o := ⟨none, _, _, _, _, _⟩) rfl (fun K hK => ?_) AllReadyH.nil)
    have cg := (got_cells Q1.out).1
    have fg := (got_cells Q1.out).2.2.2.1
    go_simp
    clear cg fg
    refine hK.out _ _ (RgC.of Q3.out HROW.out HY.out) (fun hHeld => ?_)
    clear hK K
    (try simp only [Act.put, List.setIfInBounds_toArray, List.set_cons_zero, List.set_cons_succ])
    refine wpAnyH_done (by kernel_rfl) ?_ _
    refine NoPanic.normal ?_
    simp only [Exit.then]
    apply_assumption
    go_meet
    exact ⟨Q3, Lib.hid (by rw [HM.out]; exact Q4.out)⟩
  case rest =>
   obtain ⟨HB, HG⟩ := hcut
   obtain ⟨w10, hw10⟩ : ∃ W, W = wc := ⟨_, rfl⟩
   subst hw10
   clear hw2
   obtain ⟨E, hE⟩ : ∃ E, S + y.d - y.j = E := ⟨_, rfl⟩
   have hw3 : IntKind.i64.wrap (S + y.d) = S + y.d := by rw [IntKind.wrap_i64]; omega
   have hw4 : IntKind.i64.wrap E = E := by rw [IntKind.wrap_i64]; omega
   obtain ⟨b', o', y', e, hy', _, hl', hTy⟩ := HROW.out.get hk
   cases e
   obtain rfl : y = y' := by have := HY.out; rw [this] at hy'; simpa using hy'
   have HTY : Hid (∀ W, Below w.heap.size w W → TAt W b (o + ki * 7) y) := Lib.hid (fun W hb => ⟨fun j v hv => (hb.cell (p := ⟨b, o + ki * 7 + j, none⟩) hl').trans (hTy.r j v hv)⟩)
   have c3 := (HTY.out w10 HB.out).c3
   have c4 := (HTY.out w10 HB.out).c4
   clear hTy hy' hl'
   apply_assumption
   go_upto_region 11 with (fail)
   go_quiet (fail)
   go_wp2
   have HB := Lib.hid (HB.out.trans ((below_drewN2 w10 nq).mono HB.out.size))
   have HG := Lib.hid (HG.out.later (below_drewN2 w10 nq))
   clear c3 c4 hw3 hw4
   generalize w10.drewN nq = V0 at *
   obtain ⟨FL, hFL⟩ : ∃ FL : Nat → List Fv, FL = perL l (ki : Int) := ⟨_, rfl⟩
   obtain ⟨BS, hBS⟩ : ∃ BS, H ++ [M] = BS := ⟨_, rfl⟩
   have HBL : Hid (BS.length ≤ 2) := Lib.hid (by rw [← hBS, List.length_append, List.length_singleton]; omega)
   have HSC : Hid (sceneS l (ki : Int) = BS ++ ((List.range l.length).filter (hpB l (ki : Int))).flatMap FL) := Lib.hid (by
    rw [← hBS, ← HH.out, HM.out, hFL]
    unfold sceneS
    rw [tk_get HY.out, HS.out])
   have HFL : Hid (∀ x, FL x = (List.range (perN l (ki : Int) x)).map (perJ l S x)) := Lib.hid (by rw [hFL, ← HS.out]; intro x; rfl)
   have HHP := Lib.hid (fun (x : Nat) (z : Ts) (hz : l[x]? = some z) => (show hpB l (ki : Int) x = decide (z.p < y.p) by unfold hpB; rw [tk_get hz, tk_get HY.out]))
   rw [hBS] at HG
   have hEb : E ≤ 8589934592 := by omega
   have HE := Lib.hid hE
   clear hFL hBS hE hn1
   go_loopw [10, 11] (fun i t wr => ∃ (x : Nat) (js : List Fv), x ≤ l.length ∧ i = .int .i64 (x : Int) ∧ Hid (Below w.heap.size w wr) ∧ Hid (GJ w.heap.size gb rb js av wr) ∧ Hid (js.length ≤ 4097 + x) ∧ Hid (js = BS ++ ((List.range x).filter (hpB l (ki : Int))).flatMap FL ∨ (4096 < js.length ∧ 4096 < (sceneS l (ki : Int)).length))) (fun i _ _ => l.length - (intOf i).toNat)
   case atStart => exact ⟨0, BS, Nat.zero_le _, rfl, HB, HG, Lib.hid (by have := HBL.out; omega), Lib.hid (.inl (by simp))⟩
   case round =>
    clear HB HG
    obtain ⟨x, js, hxl, rfl, HB, HG, HJL, HJS⟩ := hrel
    by_cases hlt : x < l.length
    ·obtain ⟨b', o', z, e, hz, _, hl', hTz⟩ := HROW.out.get hlt
     cases e
     have HTZ : Hid (∀ W, Below w.heap.size w W → TAt W b (o + x * 7) z) := Lib.hid (fun W hb => ⟨fun j v hv => (hb.cell (p := ⟨b, o + x * 7 + j, none⟩) hl').trans (hTz.r j v hv)⟩)
     have d6 := (HTZ.out wr HB.out).c6
     have e6 := (HTY.out wr HB.out).c6
     have i0 : (0 : Int) ≤ (x : Int) := by omega
     have i1 : (x : Int) < (l.length : Int) := by omega
     have hw6 : IntKind.i64.wrap ((x : Int) + 1) = (x : Int) + 1 := by rw [IntKind.wrap_i64]; omega
     have hhp := HHP.out x z hz
     have HZ := Lib.hid hz
     have HXL := Lib.hid hlt
     have hzv := HVT.out x
     rw [tk_get hz] at hzv
     obtain ⟨pa1, pa2, pa3, -⟩ := per_a HCH.out HY.out hz
     obtain ⟨NN, hNN⟩ : ∃ NN, perN l (ki : Int) x = NN := ⟨_, rfl⟩
     have HPL := Lib.hid (fun n : Nat => per_lt HCH.out HY.out hz S n)
     have HPI := Lib.hid (fun n : Nat => perJ_is hz hzv.j0 pa3 S n)
     rw [hNN, HE.out] at HPL
     have HFX : Hid (FL x = (List.range NN).map (perJ l S x)) := Lib.hid (by rw [HFL.out, hNN])
     have zj0 := hzv.j0
     have zj1 := hzv.j1
     have zt1 := hzv.t1
     have zc0 := hzv.c0
     have zc1 := hzv.c1
     have HN0 : Hid (0 < NN) := Lib.hid ((HPL.out 0).1 (by have := HE.out; simp; omega))
     clear hTz hl' hz hzv hNN pa1
     by_cases hp : z.p < y.p
     ·have u1 : decide (z.p ≥ y.p) = false := decide_eq_false (by omega)
      have u1' : decide (y.p ≤ z.p) = false := decide_eq_false (by omega)
      rw [decide_eq_true hp] at hhp
      have HHB := Lib.hid hhp
      have hw7 : IntKind.i64.wrap (S - z.j) = S - z.j := by rw [IntKind.wrap_i64]; omega
      clear hp hhp hlt
      go_upto_region 15 with (fail)
      go_quiet (fail)
      clear u1 u1' d6 e6
      go_wp2
      have HB := Lib.hid (HB.out.trans ((below_drewN2 wr nq).mono HB.out.size))
      have HG := Lib.hid (HG.out.later (below_drewN2 wr nq))
      generalize wr.drewN nq = V1 at *
      obtain ⟨P0, hP0⟩ : ∃ P0, perJ l S x 0 = P0 := ⟨_, rfl⟩
      have HP0 := Lib.hid hP0
      have HJ0 : Hid (P0 = ⟨(x : Int), S - z.j, S, z.c, []⟩) := Lib.hid (by rw [← hP0]; unfold perJ; rw [if_pos rfl, tk_get HZ.out])
      have HFW : Hid (FvW ⟨(x : Int), S - z.j, S, z.c, []⟩) := Lib.hid (fvw_of (by omega) (by omega) (by omega) (by omega))
      clear hP0
      go_cut [] from 100 to 119 (fun wx => Hid (Below w.heap.size w wx) ∧ Hid (GJ w.heap.size gb rb (js ++ [P0]) av wx))
      case first =>
       have hjl := HJL.out
       obtain ⟨A9, c9, gs, hg1, hg2, hg3, hg4, hg5, hg6, hg7⟩ := HG.out.is
       obtain ⟨nn, hnn⟩ : ∃ nn, js.length = nn := ⟨_, rfl⟩
       rw [hnn] at hg1 hg2 hg4 hg6
       have HX := Lib.hid ((GX.mk HG.out.rc hg1 hg4).later (below_drew V1))
       have HB := Lib.hid (HB.out.trans ((below_drew V1).mono HB.out.size))
       have H5 := Lib.hid hg5
       have H6 := Lib.hid hg6
       have H7 := Lib.hid hg7
       have HGB := Lib.hid HG.out.gB
       have HRN := Lib.hid HG.out.rn
       have HNN : Hid (nn ≤ 100000) := Lib.hid (by first | omega | (rw [← hnn]; simp))
       have HC0 := RgC.of HB.out HROW.out HZ.out
       clear hg1 hg2 hg3 hg4 hg5 hg6 hg7 hnn HG
       refine wp_region_noPanic ?_
       refine wp_region_held_drew (S := RgC b (o + x * 7) z) (by kernel_rfl) HC0 (fun hHeld => ?_)
       clear HC0
       generalize V1.drew = W7 at *
       refine wpAnyH_take (i := 0) (oi := ⟨some 100, _, _, _, _, _⟩) (v := .pointer (some ⟨gb, 0, none⟩)) rfl (by kernel_rfl) (by kernel_rfl) (by kernel_rfl) (fun _ _ _ h => h) (Or.inl ⟨by rfl, ?_⟩) (by assumption) ?_
       ·intro w0 hSw
        obtain ⟨e1, e4, e5⟩ := hSw
        go_simp
        (try with_reducible rfl)
       (try simp only [Act.put, List.setIfInBounds_toArray, List.set_cons_zero, List.set_cons_succ])
       refine wpAnyH_take (i := 2) (oi := ⟨some 102, _, _, _, _, _⟩) (v := .int .i64 (x : Int)) rfl (by kernel_rfl) (by kernel_rfl) (by kernel_rfl) (fun _ _ _ h => h) (Or.inl ⟨by rfl, ?_⟩) (by assumption) ?_
       ·intro w0 hSw
        obtain ⟨e1, e4, e5⟩ := hSw
        go_simp
        (try with_reducible rfl)
       (try simp only [Act.put, List.setIfInBounds_toArray, List.set_cons_zero, List.set_cons_succ])
       refine wpAnyH_take (i := 3) (oi := ⟨some 103, _, _, _, _, _⟩) (v := .int .i64 S) rfl (by kernel_rfl) (by kernel_rfl) (by kernel_rfl) (fun _ _ _ h => h) (Or.inl ⟨by rfl, ?_⟩) (by assumption) ?_
       ·intro w0 hSw
        obtain ⟨e1, e4, e5⟩ := hSw
        go_simp
        (try with_reducible rfl)
       (try simp only [Act.put, List.setIfInBounds_toArray, List.set_cons_zero, List.set_cons_succ])
       refine wpAnyH_take (i := 4) (oi := ⟨some 104, _, _, _, _, _⟩) (v := .slice (some ⟨b, o, none⟩) l.length cap) rfl (by kernel_rfl) (by kernel_rfl) (by kernel_rfl) (fun _ _ _ h => h) (Or.inl ⟨by rfl, ?_⟩) (by assumption) ?_
       ·intro w0 hSw
        obtain ⟨e1, e4, e5⟩ := hSw
        go_simp
        (try with_reducible rfl)
       (try simp only [Act.put, List.setIfInBounds_toArray, List.set_cons_zero, List.set_cons_succ])
       refine wpAnyH_take (i := 5) (oi := ⟨some 105, _, _, _, _, _⟩) (v := .int .i64 (x : Int)) rfl (by kernel_rfl) (by kernel_rfl) (by kernel_rfl) (fun _ _ _ h => h) (Or.inl ⟨by rfl, ?_⟩) (by assumption) ?_
       ·intro w0 hSw
        obtain ⟨e1, e4, e5⟩ := hSw
        go_simp
        (try with_reducible rfl)
       (try simp only [Act.put, List.setIfInBounds_toArray, List.set_cons_zero, List.set_cons_succ])
       refine wpAnyH_take (i := 6) (oi := ⟨some 106, _, _, _, _, _⟩) (v := .pointer (some ⟨b, o + x * 7, none⟩)) rfl (by kernel_rfl) (by kernel_rfl) (by kernel_rfl) (fun _ _ _ h => h) (Or.inl ⟨by rfl, ?_⟩) (by assumption) ?_
       ·intro w0 hSw
        obtain ⟨e1, e4, e5⟩ := hSw
        go_simp
        (try with_reducible rfl)
       (try simp only [Act.put, List.setIfInBounds_toArray, List.set_cons_zero, List.set_cons_succ])
       refine wpAnyH_take (i := 7) (oi := ⟨some 107, _, _, _, _, _⟩) (v := .pointer (some ⟨b, o + x * 7 + 4, none⟩)) rfl (by kernel_rfl) (by kernel_rfl) (by kernel_rfl) (fun _ _ _ h => h) (Or.inl ⟨by rfl, ?_⟩) (by assumption) ?_
       ·intro w0 hSw
        obtain ⟨e1, e4, e5⟩ := hSw
        go_simp
        (try with_reducible rfl)
       (try simp only [Act.put, List.setIfInBounds_toArray, List.set_cons_zero, List.set_cons_succ])
       refine wpAnyH_take (i := 8) (oi := ⟨some 108, _, _, _, _, _⟩) (v := .int .i64 z.j) rfl (by kernel_rfl) (by kernel_rfl) (by kernel_rfl) (fun _ _ _ h => h) (Or.inl ⟨by rfl, ?_⟩) (by assumption) ?_
       ·intro w0 hSw
        obtain ⟨e1, e4, e5⟩ := hSw
        go_simp
        (try with_reducible rfl)
       (try simp only [Act.put, List.setIfInBounds_toArray, List.set_cons_zero, List.set_cons_succ])
       refine wpAnyH_take (i := 9) (oi := ⟨some 109, _, _, _, _, _⟩) (v := .int .i64 (S - z.j)) rfl (by kernel_rfl) (by kernel_rfl) (by kernel_rfl) (fun _ _ _ h => h) (Or.inl ⟨by rfl, ?_⟩) (by assumption) ?_
       ·intro w0 hSw
        obtain ⟨e1, e4, e5⟩ := hSw
        go_simp
        (try with_reducible rfl)
       (try simp only [Act.put, List.setIfInBounds_toArray, List.set_cons_zero, List.set_cons_succ])
       refine wpAnyH_take (i := 10) (oi := ⟨some 110, _, _, _, _, _⟩) (v := .int .i64 S) rfl (by kernel_rfl) (by kernel_rfl) (by kernel_rfl) (fun _ _ _ h => h) (Or.inl ⟨by rfl, ?_⟩) (by assumption) ?_
       ·intro w0 hSw
        obtain ⟨e1, e4, e5⟩ := hSw
        go_simp
        (try with_reducible rfl)
       (try simp only [Act.put, List.setIfInBounds_toArray, List.set_cons_zero, List.set_cons_succ])
       refine wpAnyH_take (i := 11) (oi := ⟨some 111, _, _, _, _, _⟩) (v := .slice (some ⟨b, o, none⟩) l.length cap) rfl (by kernel_rfl) (by kernel_rfl) (by kernel_rfl) (fun _ _ _ h => h) (Or.inl ⟨by rfl, ?_⟩) (by assumption) ?_
       ·intro w0 hSw
        obtain ⟨e1, e4, e5⟩ := hSw
        go_simp
        (try with_reducible rfl)
       (try simp only [Act.put, List.setIfInBounds_toArray, List.set_cons_zero, List.set_cons_succ])
       refine wpAnyH_take (i := 12) (oi := ⟨some 112, _, _, _, _, _⟩) (v := .int .i64 (x : Int)) rfl (by kernel_rfl) (by kernel_rfl) (by kernel_rfl) (fun _ _ _ h => h) (Or.inl ⟨by rfl, ?_⟩) (by assumption) ?_
       ·intro w0 hSw
        obtain ⟨e1, e4, e5⟩ := hSw
        go_simp
        (try with_reducible rfl)
       (try simp only [Act.put, List.setIfInBounds_toArray, List.set_cons_zero, List.set_cons_succ])
       refine wpAnyH_take (i := 13) (oi := ⟨some 113, _, _, _, _, _⟩) (v := .pointer (some ⟨b, o + x * 7, none⟩)) rfl (by kernel_rfl) (by kernel_rfl) (by kernel_rfl) (fun _ _ _ h => h) (Or.inl ⟨by rfl, ?_⟩) (by assumption) ?_
       ·intro w0 hSw
        obtain ⟨e1, e4, e5⟩ := hSw
        go_simp
        (try with_reducible rfl)
       (try simp only [Act.put, List.setIfInBounds_toArray, List.set_cons_zero, List.set_cons_succ])
       refine wpAnyH_take (i := 14) (oi := ⟨some 114, _, _, _, _, _⟩) (v := .pointer (some ⟨b, o + x * 7 + 1, none⟩)) rfl (by kernel_rfl) (by kernel_rfl) (by kernel_rfl) (fun _ _ _ h => h) (Or.inl ⟨by rfl, ?_⟩) (by assumption) ?_
       ·intro w0 hSw
        obtain ⟨e1, e4, e5⟩ := hSw
        go_simp
        (try with_reducible rfl)
       (try simp only [Act.put, List.setIfInBounds_toArray, List.set_cons_zero, List.set_cons_succ])
       refine wpAnyH_take (i := 15) (oi := ⟨some 115, _, _, _, _, _⟩) (v := .int .i64 z.c) rfl (by kernel_rfl) (by kernel_rfl) (by kernel_rfl) (fun _ _ _ h => h) (Or.inl ⟨by rfl, ?_⟩) (by assumption) ?_
       ·intro w0 hSw
        obtain ⟨e1, e4, e5⟩ := hSw
        go_simp
        (try with_reducible rfl)
       (try simp only [Act.put, List.setIfInBounds_toArray, List.set_cons_zero, List.set_cons_succ])
       refine wpAnyH_take (i := 16) (oi := ⟨some 116, _, _, _, _, _⟩) (v := .agg #[.int .i64 (x : Int), .int .i64 (S - z.j), .int .i64 S, .int .i64 z.c, .slice none 0 0]) rfl (by kernel_rfl) (by kernel_rfl) (by kernel_rfl) (fun _ _ _ h => h) (Or.inl ⟨by rfl, ?_⟩) (by assumption) ?_
       ·intro w0 hSw
        obtain ⟨e1, e4, e5⟩ := hSw
        kernel_rfl
       (try simp only [Act.put, List.setIfInBounds_toArray, List.set_cons_zero, List.set_cons_succ])
       refine wpAnyH_ready (rs := [1, 17]) (by kernel_rfl) (by simp) ?_
       refine (AllReadyH.cons (o := ⟨some 101, _, _, _, _, _⟩) rfl (fun K hK => ?_) (AllReadyH.cons (o := ⟨some 117, _, _, _, _, _⟩) rfl (fun K hK => ?_) AllReadyH.nil))
       ·have cg := (got_cells HX.out.hc).1
        go_simp
        refine hK.out _ _ (RgC.of HB.out HROW.out HZ.out) (fun hHeld => ?_)
        clear hK K
        (try simp only [Act.put, List.setIfInBounds_toArray, List.set_cons_zero, List.set_cons_succ])
        clear cg
        refine wpAnyH_ready (rs := [17]) (by kernel_rfl) (by simp) ?_
        refine (AllReadyH.cons (o := ⟨some 117, _, _, _, _, _⟩) rfl (fun K hK => ?_) AllReadyH.nil)
        obtain ⟨N9, hN9⟩ : ∃ N9, W7.heap.size = N9 := ⟨_, rfl⟩
        obtain ⟨W8, hW, HX, HB, HN, HS⟩ : ∃ W8, W7.alloc (.cells #[.int .i64 (x : Int), .int .i64 (S - z.j), .int .i64 S, .int .i64 z.c, .slice none 0 0] TJb) = W8 ∧ Hid (GX w.heap.size gb rb nn av A9 c9 gs W8) ∧ Hid (Below w.heap.size w W8) ∧ Hid (∀ j u, (fvL ⟨(x : Int), (S - z.j), S, z.c, []⟩ none 0)[j]? = some u → W8.cell? ((⟨N9, 0, none⟩ : Addr).add j) = some u) ∧ Hid (w.heap.size ≤ W8.heap.size) :=
         ⟨_, rfl, Lib.hid (HX.out.later ((Below.refl _ _).alloc (Nat.le_refl _) _)), Lib.hid (HB.out.alloc HB.out.size _), Lib.hid (by rw [← hN9]; exact fv_new W7 ⟨(x : Int), (S - z.j), S, z.c, []⟩ none 0), Lib.hid (by have := HB.out.size; simp; omega)⟩
        go_simp
        clear hW
        refine hK.out _ _ (RgC.of HB.out HROW.out HZ.out) (fun hHeld => ?_)
        clear hK K
        (try simp only [Act.put, List.setIfInBounds_toArray, List.set_cons_zero, List.set_cons_succ])
        refine wpAnyH_ready (rs := [18]) (by kernel_rfl) (by simp) ?_
        refine (AllReadyH.cons (o := ⟨some 118, _, _, _, _, _⟩) rfl (fun K hK => ?_) AllReadyH.nil)
        refine step_append_jb rfl (.tmp 101) (.tmp 117) rfl w.heap.size (.slice A9 nn c9) nn (gvC gs) rfl (by have := HX.out.ho.row; rw [H6.out] at this; exact this) ⟨N9, 0, none⟩ 1 1 (fvL ⟨(x : Int), (S - z.j), S, z.c, []⟩ none 0) rfl rfl HN.out (fvL_one _ _ _) (by have := HNN.out; omega) HS.out ?_
        intro v' w8 o1 g1
        obtain ⟨A', cap', rfl, hle', hmx'⟩ := own_len o1
        obtain ⟨q1, q2, q3, q4⟩ := gj_fin (g := ⟨⟨(x : Int), (S - z.j), S, z.c, []⟩, none, 0⟩) HGB.out HRN.out HX.out.hr HX.out.hc HX.out.ho (gok_nil HFW.out rfl) H5.out H6.out H7.out (fun o => ⟨fun h => (by cases h), fun h => (by cases h)⟩) HS.out hle' hmx' o1 g1
        have Q1 := Lib.hid q1
        have Q3 := Lib.hid (HB.out.trans q3)
        have HB := Lib.hid (HB.out.trans q2)
        have Q4 := Lib.hid q4
        clear q1 q2 q3 q4 o1 g1
        refine hK.out _ _ (RgC.of HB.out HROW.out HZ.out) (fun hHeld => ?_)
        clear hK K
        (try simp only [Act.put, List.setIfInBounds_toArray, List.set_cons_zero, List.set_cons_succ])
        refine wpAnyH_take (i := 19) (oi := ⟨some 119, _, _, _, _, _⟩) (v := .pointer (some ⟨gb, 0, none⟩)) rfl (by kernel_rfl) (by kernel_rfl) (by kernel_rfl) (fun _ _ _ h => h) (Or.inl ⟨by rfl, ?_⟩) (by assumption) ?_
        ·intro w0 hSw
         obtain ⟨e1, e4, e5⟩ := hSw
         go_simp
         (try with_reducible rfl)
        (try simp only [Act.put, List.setIfInBounds_toArray, List.set_cons_zero, List.set_cons_succ])
        refine wpAnyH_ready (rs := [20]) (by kernel_rfl) (by simp) ?_
        refine (AllReadyH.cons (o := ⟨none, _, _, _, _, _⟩) rfl (fun K hK => ?_) AllReadyH.nil)
        have cg := (got_cells Q1.out).1
        have fg := (got_cells Q1.out).2.2.2.1
        go_simp
        clear cg fg
        refine hK.out _ _ (RgC.of Q3.out HROW.out HZ.out) (fun hHeld => ?_)
        clear hK K
        (try simp only [Act.put, List.setIfInBounds_toArray, List.set_cons_zero, List.set_cons_succ])
        refine wpAnyH_done (by kernel_rfl) ?_ _
        refine NoPanic.normal ?_
        simp only [Exit.then]
        apply_assumption
        go_meet
        exact ⟨Q3, Lib.hid (by rw [HJ0.out]; exact Q4.out)⟩
       ·obtain ⟨N9, hN9⟩ : ∃ N9, W7.heap.size = N9 := ⟨_, rfl⟩
        obtain ⟨W8, hW, HX, HB, HN, HS⟩ : ∃ W8, W7.alloc (.cells #[.int .i64 (x : Int), .int .i64 (S - z.j), .int .i64 S, .int .i64 z.c, .slice none 0 0] TJb) = W8 ∧ Hid (GX w.heap.size gb rb nn av A9 c9 gs W8) ∧ Hid (Below w.heap.size w W8) ∧ Hid (∀ j u, (fvL ⟨(x : Int), (S - z.j), S, z.c, []⟩ none 0)[j]? = some u → W8.cell? ((⟨N9, 0, none⟩ : Addr).add j) = some u) ∧ Hid (w.heap.size ≤ W8.heap.size) :=
         ⟨_, rfl, Lib.hid (HX.out.later ((Below.refl _ _).alloc (Nat.le_refl _) _)), Lib.hid (HB.out.alloc HB.out.size _), Lib.hid (by rw [← hN9]; exact fv_new W7 ⟨(x : Int), (S - z.j), S, z.c, []⟩ none 0), Lib.hid (by have := HB.out.size; simp; omega)⟩
        go_simp
        clear hW
        refine hK.out _ _ (RgC.of HB.out HROW.out HZ.out) (fun hHeld => ?_)
        clear hK K
        (try simp only [Act.put, List.setIfInBounds_toArray, List.set_cons_zero, List.set_cons_succ])
        refine wpAnyH_ready (rs := [1]) (by kernel_rfl) (by simp) ?_
        refine (AllReadyH.cons (o := ⟨some 101, _, _, _, _, _⟩) rfl (fun K hK => ?_) AllReadyH.nil)
        have cg := (got_cells HX.out.hc).1
        go_simp
        refine hK.out _ _ (RgC.of HB.out HROW.out HZ.out) (fun hHeld => ?_)
        clear hK K
        (try simp only [Act.put, List.setIfInBounds_toArray, List.set_cons_zero, List.set_cons_succ])
        clear cg
        refine wpAnyH_ready (rs := [18]) (by kernel_rfl) (by simp) ?_
        refine (AllReadyH.cons (o := ⟨some 118, _, _, _, _, _⟩) rfl (fun K hK => ?_) AllReadyH.nil)
        refine step_append_jb rfl (.tmp 101) (.tmp 117) rfl w.heap.size (.slice A9 nn c9) nn (gvC gs) rfl (by have := HX.out.ho.row; rw [H6.out] at this; exact this) ⟨N9, 0, none⟩ 1 1 (fvL ⟨(x : Int), (S - z.j), S, z.c, []⟩ none 0) rfl rfl HN.out (fvL_one _ _ _) (by have := HNN.out; omega) HS.out ?_
        intro v' w8 o1 g1
        obtain ⟨A', cap', rfl, hle', hmx'⟩ := own_len o1
        obtain ⟨q1, q2, q3, q4⟩ := gj_fin (g := ⟨⟨(x : Int), (S - z.j), S, z.c, []⟩, none, 0⟩) HGB.out HRN.out HX.out.hr HX.out.hc HX.out.ho (gok_nil HFW.out rfl) H5.out H6.out H7.out (fun o => ⟨fun h => (by cases h), fun h => (by cases h)⟩) HS.out hle' hmx' o1 g1
        have Q1 := Lib.hid q1
        have Q3 := Lib.hid (HB.out.trans q3)
        have HB := Lib.hid (HB.out.trans q2)
        have Q4 := Lib.hid q4
        clear q1 q2 q3 q4 o1 g1
        refine hK.out _ _ (RgC.of HB.out HROW.out HZ.out) (fun hHeld => ?_)
        clear hK K
        (try simp only [Act.put, List.setIfInBounds_toArray, List.set_cons_zero, List.set_cons_succ])
        refine wpAnyH_take (i := 19) (oi := ⟨some 119, _, _, _, _, _⟩) (v := .pointer (some ⟨gb, 0, none⟩)) rfl (by kernel_rfl) (by kernel_rfl) (by kernel_rfl) (fun _ _ _ h => h) (Or.inl ⟨by rfl, ?_⟩) (by assumption) ?_
        ·intro w0 hSw
         obtain ⟨e1, e4, e5⟩ := hSw
         go_simp
         (try with_reducible rfl)
        (try simp only [Act.put, List.setIfInBounds_toArray, List.set_cons_zero, List.set_cons_succ])
        refine wpAnyH_ready (rs := [20]) (by kernel_rfl) (by simp) ?_
        refine (AllReadyH.cons (o := ⟨none, _, _, _, _, _⟩) rfl (fun K hK => ?_) AllReadyH.nil)
        have cg := (got_cells Q1.out).1
        have fg := (got_cells Q1.out).2.2.2.1
        go_simp
        clear cg fg
        refine hK.out _ _ (RgC.of Q3.out HROW.out HZ.out) (fun hHeld => ?_)
        clear hK K
        (try simp only [Act.put, List.setIfInBounds_toArray, List.set_cons_zero, List.set_cons_succ])
        refine wpAnyH_done (by kernel_rfl) ?_ _
        refine NoPanic.normal ?_
        simp only [Exit.then]
        apply_assumption
        go_meet
        exact ⟨Q3, Lib.hid (by rw [HJ0.out]; exact Q4.out)⟩
      case rest =>
       obtain ⟨HB, HG⟩ := hcut
       obtain ⟨w11, hw11⟩ : ∃ W, W = wc := ⟨_, rfl⟩
       subst hw11
       have c4 := (HTZ.out w11 HB.out).c4
       have c2 := (HTZ.out w11 HB.out).c2
       have hw8 : IntKind.i64.wrap (S - z.j + z.t) = S - z.j + z.t := by rw [IntKind.wrap_i64]; omega
       clear HFW
       apply_assumption
       go_upto_region 17 with (fail)
       go_quiet (fail)
       clear c4 c2 hw7 hw8
       go_wp2
       have HB := Lib.hid (HB.out.trans ((below_drewN2 w11 nq).mono HB.out.size))
       have HG := Lib.hid (HG.out.later (below_drewN2 w11 nq))
       generalize w11.drewN nq = V2 at *
       go_loopw [11] (fun t wr => ∃ (n : Nat) (a : Int), 1 ≤ n ∧ n ≤ NN ∧ t = .int .i64 a ∧ Hid (a = S - z.j + (n : Int) * z.t) ∧ Hid (Below w.heap.size w wr) ∧ Hid (GJ w.heap.size gb rb (js ++ (List.range n).map (perJ l S x)) av wr) ∧ Hid ((js ++ (List.range n).map (perJ l S x)).length ≤ 4098 + x)) (fun t _ => (E - intOf t).toNat)
       case atStart =>
        have e1 : (List.range 1).map (perJ l S x) = [P0] := by rw [← HP0.out]; rfl
        exact ⟨1, S - z.j + z.t, Nat.le_refl _, HN0.out, rfl, Lib.hid (by simp), HB, Lib.hid (by rw [e1]; exact HG.out), Lib.hid (by rw [e1, List.length_append, List.length_singleton]; have := HJL.out; omega)⟩
       case round =>
        clear HB HG
        obtain ⟨n, a, hn1, hnN, rfl, HA, HB, HG, HLN⟩ := hrel
        have HHN := Lib.hid (And.intro hn1 hnN)
        obtain ⟨JS, hJS⟩ : ∃ JS, js ++ (List.range n).map (perJ l S x) = JS := ⟨_, rfl⟩
        rw [hJS] at HG HLN
        have HJS2 := Lib.hid hJS
        obtain ⟨A8, c8, gs8, hq1, hq2, hq3, -, -, -, -⟩ := HG.out.is
        have cc0 := (got_cells hq1).1
        clear hq1 hJS
        by_cases ha : n < NN
        ·have hae : a < E := by rw [HA.out]; exact (HPL.out n).2 ha
         have u1 : decide (a < E) = true := decide_eq_true hae
         have HAE := Lib.hid hae
         have HAB : Hid (-2147483648 ≤ a) := Lib.hid (by have := Int.mul_nonneg (show (0 : Int) ≤ (n : Int) by omega) (show 0 ≤ z.t by omega); have := HA.out; omega)
         have HNL := Lib.hid ha
         by_cases hl4 : JS.length ≤ 4096
         ·have u2 : decide ((JS.length : Int) ≤ 4096) = true := decide_eq_true (by omega)
          have u2' : decide (JS.length ≤ 4096) = true := decide_eq_true hl4
          have HL4 := Lib.hid hl4
          have HPJ : Hid (perJ l S x n = ⟨(x : Int), a, a, z.c, []⟩) := Lib.hid (by
           rw [HPI.out n, ← HA.out]
           have h1 := Int.mul_le_mul_of_nonneg_right (show (1 : Int) ≤ (n : Int) by omega) (show 0 ≤ z.t by omega)
           have h2 := HA.out
           rw [show max a S = a by omega])
          have HFW : Hid (FvW ⟨(x : Int), a, a, z.c, []⟩) := Lib.hid (by have h1 := HAB.out; have h2 := HAE.out; exact fvw_of (by omega) (by omega) (by omega) (by omega))
          clear ha hae hl4 hn1 hnN
          go_upto_region 20 with (fail)
          clear u1 u2 u2' cc0 hq2 hq3
          have hl4 := HL4.out
          obtain ⟨A9, c9, gs, hg1, hg2, hg3, hg4, hg5, hg6, hg7⟩ := HG.out.is
          obtain ⟨nn, hnn⟩ : ∃ nn, JS.length = nn := ⟨_, rfl⟩
          rw [hnn] at hg1 hg2 hg4 hg6
          have HX := Lib.hid ((GX.mk HG.out.rc hg1 hg4).later (below_drew wr))
          have HB := Lib.hid (HB.out.trans ((below_drew wr).mono HB.out.size))
          have H5 := Lib.hid hg5
          have H6 := Lib.hid hg6
          have H7 := Lib.hid hg7
          have HGB := Lib.hid HG.out.gB
          have HRN := Lib.hid HG.out.rn
          have HNN : Hid (nn ≤ 100000) := Lib.hid (by first | omega | (rw [← hnn]; simp))
          have HC0 := RgC.of HB.out HROW.out HZ.out
          clear hg1 hg2 hg3 hg4 hg5 hg6 hg7 hnn HG
          refine wp_region_noPanic ?_
          refine wp_region_held_drew (S := RgC b (o + x * 7) z) (by kernel_rfl) HC0 (fun hHeld => ?_)
          clear HC0
          generalize wr.drew = W7 at *
          refine wpAnyH_take (i := 0) (oi := ⟨some 149, _, _, _, _, _⟩) (v := .pointer (some ⟨gb, 0, none⟩)) rfl (by kernel_rfl) (by kernel_rfl) (by kernel_rfl) (fun _ _ _ h => h) (Or.inl ⟨by rfl, ?_⟩) (by assumption) ?_
          ·intro w0 hSw
           obtain ⟨e1, e4, e5⟩ := hSw
           go_simp
           (try with_reducible rfl)
          (try simp only [Act.put, List.setIfInBounds_toArray, List.set_cons_zero, List.set_cons_succ])
          refine wpAnyH_take (i := 2) (oi := ⟨some 151, _, _, _, _, _⟩) (v := .int .i64 (x : Int)) rfl (by kernel_rfl) (by kernel_rfl) (by kernel_rfl) (fun _ _ _ h => h) (Or.inl ⟨by rfl, ?_⟩) (by assumption) ?_
          ·intro w0 hSw
           obtain ⟨e1, e4, e5⟩ := hSw
           go_simp
           (try with_reducible rfl)
          (try simp only [Act.put, List.setIfInBounds_toArray, List.set_cons_zero, List.set_cons_succ])
          refine wpAnyH_take (i := 3) (oi := ⟨some 152, _, _, _, _, _⟩) (v := .int .i64 a) rfl (by kernel_rfl) (by kernel_rfl) (by kernel_rfl) (fun _ _ _ h => h) (Or.inl ⟨by rfl, ?_⟩) (by assumption) ?_
          ·intro w0 hSw
           obtain ⟨e1, e4, e5⟩ := hSw
           go_simp
           (try with_reducible rfl)
          (try simp only [Act.put, List.setIfInBounds_toArray, List.set_cons_zero, List.set_cons_succ])
          refine wpAnyH_take (i := 4) (oi := ⟨some 153, _, _, _, _, _⟩) (v := .int .i64 a) rfl (by kernel_rfl) (by kernel_rfl) (by kernel_rfl) (fun _ _ _ h => h) (Or.inl ⟨by rfl, ?_⟩) (by assumption) ?_
          ·intro w0 hSw
           obtain ⟨e1, e4, e5⟩ := hSw
           go_simp
           (try with_reducible rfl)
          (try simp only [Act.put, List.setIfInBounds_toArray, List.set_cons_zero, List.set_cons_succ])
          refine wpAnyH_take (i := 5) (oi := ⟨some 154, _, _, _, _, _⟩) (v := .slice (some ⟨b, o, none⟩) l.length cap) rfl (by kernel_rfl) (by kernel_rfl) (by kernel_rfl) (fun _ _ _ h => h) (Or.inl ⟨by rfl, ?_⟩) (by assumption) ?_
          ·intro w0 hSw
           obtain ⟨e1, e4, e5⟩ := hSw
           go_simp
           (try with_reducible rfl)
          (try simp only [Act.put, List.setIfInBounds_toArray, List.set_cons_zero, List.set_cons_succ])
          refine wpAnyH_take (i := 6) (oi := ⟨some 155, _, _, _, _, _⟩) (v := .int .i64 (x : Int)) rfl (by kernel_rfl) (by kernel_rfl) (by kernel_rfl) (fun _ _ _ h => h) (Or.inl ⟨by rfl, ?_⟩) (by assumption) ?_
          ·intro w0 hSw
           obtain ⟨e1, e4, e5⟩ := hSw
           go_simp
           (try with_reducible rfl)
          (try simp only [Act.put, List.setIfInBounds_toArray, List.set_cons_zero, List.set_cons_succ])
          refine wpAnyH_take (i := 7) (oi := ⟨some 156, _, _, _, _, _⟩) (v := .pointer (some ⟨b, o + x * 7, none⟩)) rfl (by kernel_rfl) (by kernel_rfl) (by kernel_rfl) (fun _ _ _ h => h) (Or.inl ⟨by rfl, ?_⟩) (by assumption) ?_
          ·intro w0 hSw
           obtain ⟨e1, e4, e5⟩ := hSw
           go_simp
           (try with_reducible rfl)
          (try simp only [Act.put, List.setIfInBounds_toArray, List.set_cons_zero, List.set_cons_succ])
          refine wpAnyH_take (i := 8) (oi := ⟨some 157, _, _, _, _, _⟩) (v := .pointer (some ⟨b, o + x * 7 + 1, none⟩)) rfl (by kernel_rfl) (by kernel_rfl) (by kernel_rfl) (fun _ _ _ h => h) (Or.inl ⟨by rfl, ?_⟩) (by assumption) ?_
          ·intro w0 hSw
           obtain ⟨e1, e4, e5⟩ := hSw
           go_simp
           (try with_reducible rfl)
          (try simp only [Act.put, List.setIfInBounds_toArray, List.set_cons_zero, List.set_cons_succ])
          refine wpAnyH_take (i := 9) (oi := ⟨some 158, _, _, _, _, _⟩) (v := .int .i64 z.c) rfl (by kernel_rfl) (by kernel_rfl) (by kernel_rfl) (fun _ _ _ h => h) (Or.inl ⟨by rfl, ?_⟩) (by assumption) ?_
          ·intro w0 hSw
           obtain ⟨e1, e4, e5⟩ := hSw
           go_simp
           (try with_reducible rfl)
          (try simp only [Act.put, List.setIfInBounds_toArray, List.set_cons_zero, List.set_cons_succ])
          refine wpAnyH_take (i := 10) (oi := ⟨some 159, _, _, _, _, _⟩) (v := .agg #[.int .i64 (x : Int), .int .i64 a, .int .i64 a, .int .i64 z.c, .slice none 0 0]) rfl (by kernel_rfl) (by kernel_rfl) (by kernel_rfl) (fun _ _ _ h => h) (Or.inl ⟨by rfl, ?_⟩) (by assumption) ?_
          ·intro w0 hSw
           obtain ⟨e1, e4, e5⟩ := hSw
           kernel_rfl
          (try simp only [Act.put, List.setIfInBounds_toArray, List.set_cons_zero, List.set_cons_succ])
          refine wpAnyH_ready (rs := [1, 11]) (by kernel_rfl) (by simp) ?_
          refine (AllReadyH.cons (o := ⟨some 150, _, _, _, _, _⟩) rfl (fun K hK => ?_) (AllReadyH.cons (o := ⟨some 160, _, _, _, _, _⟩) rfl (fun K hK => ?_) AllReadyH.nil))
          ·have cg := (got_cells HX.out.hc).1
           go_simp
           refine hK.out _ _ (RgC.of HB.out HROW.out HZ.out) (fun hHeld => ?_)
           clear hK K
           (try simp only [Act.put, List.setIfInBounds_toArray, List.set_cons_zero, List.set_cons_succ])
           clear cg
           refine wpAnyH_ready (rs := [11]) (by kernel_rfl) (by simp) ?_
           refine (AllReadyH.cons (o := ⟨some 160, _, _, _, _, _⟩) rfl (fun K hK => ?_) AllReadyH.nil)
           obtain ⟨N9, hN9⟩ : ∃ N9, W7.heap.size = N9 := ⟨_, rfl⟩
           obtain ⟨W8, hW, HX, HB, HN, HS⟩ : ∃ W8, W7.alloc (.cells #[.int .i64 (x : Int), .int .i64 a, .int .i64 a, .int .i64 z.c, .slice none 0 0] TJb) = W8 ∧ Hid (GX w.heap.size gb rb nn av A9 c9 gs W8) ∧ Hid (Below w.heap.size w W8) ∧ Hid (∀ j u, (fvL ⟨(x : Int), a, a, z.c, []⟩ none 0)[j]? = some u → W8.cell? ((⟨N9, 0, none⟩ : Addr).add j) = some u) ∧ Hid (w.heap.size ≤ W8.heap.size) :=
            ⟨_, rfl, Lib.hid (HX.out.later ((Below.refl _ _).alloc (Nat.le_refl _) _)), Lib.hid (HB.out.alloc HB.out.size _), Lib.hid (by rw [← hN9]; exact fv_new W7 ⟨(x : Int), a, a, z.c, []⟩ none 0), Lib.hid (by have := HB.out.size; simp; omega)⟩
           go_simp
           clear hW
           refine hK.out _ _ (RgC.of HB.out HROW.out HZ.out) (fun hHeld => ?_)
           clear hK K
           (try simp only [Act.put, List.setIfInBounds_toArray, List.set_cons_zero, List.set_cons_succ])
           refine wpAnyH_ready (rs := [12]) (by kernel_rfl) (by simp) ?_
           refine (AllReadyH.cons (o := ⟨some 161, _, _, _, _, _⟩) rfl (fun K hK => ?_) AllReadyH.nil)
           refine step_append_jb rfl (.tmp 150) (.tmp 160) rfl w.heap.size (.slice A9 nn c9) nn (gvC gs) rfl (by have := HX.out.ho.row; rw [H6.out] at this; exact this) ⟨N9, 0, none⟩ 1 1 (fvL ⟨(x : Int), a, a, z.c, []⟩ none 0) rfl rfl HN.out (fvL_one _ _ _) (by have := HNN.out; omega) HS.out ?_
           intro v' w8 o1 g1
           obtain ⟨A', cap', rfl, hle', hmx'⟩ := own_len o1
           obtain ⟨q1, q2, q3, q4⟩ := gj_fin (g := ⟨⟨(x : Int), a, a, z.c, []⟩, none, 0⟩) HGB.out HRN.out HX.out.hr HX.out.hc HX.out.ho (gok_nil HFW.out rfl) H5.out H6.out H7.out (fun o => ⟨fun h => (by cases h), fun h => (by cases h)⟩) HS.out hle' hmx' o1 g1
           have Q1 := Lib.hid q1
           have Q3 := Lib.hid (HB.out.trans q3)
           have HB := Lib.hid (HB.out.trans q2)
           have Q4 := Lib.hid q4
           clear q1 q2 q3 q4 o1 g1
           refine hK.out _ _ (RgC.of HB.out HROW.out HZ.out) (fun hHeld => ?_)
           clear hK K
           (try simp only [Act.put, List.setIfInBounds_toArray, List.set_cons_zero, List.set_cons_succ])
           refine wpAnyH_take (i := 13) (oi := ⟨some 162, _, _, _, _, _⟩) (v := .pointer (some ⟨gb, 0, none⟩)) rfl (by kernel_rfl) (by kernel_rfl) (by kernel_rfl) (fun _ _ _ h => h) (Or.inl ⟨by rfl, ?_⟩) (by assumption) ?_
           ·intro w0 hSw
            obtain ⟨e1, e4, e5⟩ := hSw
            go_simp
            (try with_reducible rfl)
           (try simp only [Act.put, List.setIfInBounds_toArray, List.set_cons_zero, List.set_cons_succ])
           refine wpAnyH_ready (rs := [14]) (by kernel_rfl) (by simp) ?_
           refine (AllReadyH.cons (o := ⟨none, _, _, _, _, _⟩) rfl (fun K hK => ?_) AllReadyH.nil)
           have cg := (got_cells Q1.out).1
           have fg := (got_cells Q1.out).2.2.2.1
           go_simp
           clear cg fg
           refine hK.out _ _ (RgC.of Q3.out HROW.out HZ.out) (fun hHeld => ?_)
           clear hK K
           (try simp only [Act.put, List.setIfInBounds_toArray, List.set_cons_zero, List.set_cons_succ])
           refine wpAnyH_done (by kernel_rfl) ?_ _
           refine NoPanic.normal ?_
           obtain ⟨W12, hW12⟩ : ∃ W12, w8.setCell ⟨gb, 0, none⟩ (.slice A' (nn + 1) cap') = W12 := ⟨_, rfl⟩
           rw [hW12] at Q3 Q4 ⊢
           clear hW12 HX HB HN HS Q1 hHeld HFW hl4
           have c2 := (HTZ.out W12 Q3.out).c2
           have hw8 : IntKind.i64.wrap (a + z.t) = a + z.t := by have h1 := HAB.out; have h2 := HAE.out; rw [IntKind.wrap_i64]; omega
           go_wp2
           clear c2 hw8
           go_roundw
           case rel =>
            have HHN1 := HHN.out.1
            refine ⟨n + 1, a + z.t, by omega, by have := HNL.out; omega, rfl, Lib.hid (by rw [HA.out, Int.natCast_succ, Int.add_mul]; omega), Q3, Lib.hid ?_, Lib.hid ?_⟩
            ·rw [per_snoc, ← List.append_assoc, HJS2.out, HPJ.out]; exact Q4.out
            ·rw [per_snoc, ← List.append_assoc, HJS2.out, List.length_append, List.length_singleton]; have := HL4.out; omega
           case measure => have := HAE.out; simp only [intOf]; omega
          ·obtain ⟨N9, hN9⟩ : ∃ N9, W7.heap.size = N9 := ⟨_, rfl⟩
           obtain ⟨W8, hW, HX, HB, HN, HS⟩ : ∃ W8, W7.alloc (.cells #[.int .i64 (x : Int), .int .i64 a, .int .i64 a, .int .i64 z.c, .slice none 0 0] TJb) = W8 ∧ Hid (GX w.heap.size gb rb nn av A9 c9 gs W8) ∧ Hid (Below w.heap.size w W8) ∧ Hid (∀ j u, (fvL ⟨(x : Int), a, a, z.c, []⟩ none 0)[j]? = some u → W8.cell? ((⟨N9, 0, none⟩ : Addr).add j) = some u) ∧ Hid (w.heap.size ≤ W8.heap.size) :=
            ⟨_, rfl, Lib.hid (HX.out.later ((Below.refl _ _).alloc (Nat.le_refl _) _)), Lib.hid (HB.out.alloc HB.out.size _), Lib.hid (by rw [← hN9]; exact fv_new W7 ⟨(x : Int), a, a, z.c, []⟩ none 0), Lib.hid (by have := HB.out.size; simp; omega)⟩
           go_simp
           clear hW
           refine hK.out _ _ (RgC.of HB.out HROW.out HZ.out) (fun hHeld => ?_)
           clear hK K
           (try simp only [Act.put, List.setIfInBounds_toArray, List.set_cons_zero, List.set_cons_succ])
           refine wpAnyH_ready (rs := [1]) (by kernel_rfl) (by simp) ?_
           refine (AllReadyH.cons (o := ⟨some 150, _, _, _, _, _⟩) rfl (fun K hK => ?_) AllReadyH.nil)
           have cg := (got_cells HX.out.hc).1
           go_simp
           refine hK.out _ _ (RgC.of HB.out HROW.out HZ.out) (fun hHeld => ?_)
           clear hK K
           (try simp only [Act.put, List.setIfInBounds_toArray, List.set_cons_zero, List.set_cons_succ])
           clear cg
           refine wpAnyH_ready (rs := [12]) (by kernel_rfl) (by simp) ?_
           refine (AllReadyH.cons (o := ⟨some 161, _, _, _, _, _⟩) rfl (fun K hK => ?_) AllReadyH.nil)
           refine step_append_jb rfl (.tmp 150) (.tmp 160) rfl w.heap.size (.slice A9 nn c9) nn (gvC gs) rfl (by have := HX.out.ho.row; rw [H6.out] at this; exact this) ⟨N9, 0, none⟩ 1 1 (fvL ⟨(x : Int), a, a, z.c, []⟩ none 0) rfl rfl HN.out (fvL_one _ _ _) (by have := HNN.out; omega) HS.out ?_
           intro v' w8 o1 g1
           obtain ⟨A', cap', rfl, hle', hmx'⟩ := own_len o1
           obtain ⟨q1, q2, q3, q4⟩ := gj_fin (g := ⟨⟨(x : Int), a, a, z.c, []⟩, none, 0⟩) HGB.out HRN.out HX.out.hr HX.out.hc HX.out.ho (gok_nil HFW.out rfl) H5.out H6.out H7.out (fun o => ⟨fun h => (by cases h), fun h => (by cases h)⟩) HS.out hle' hmx' o1 g1
           have Q1 := Lib.hid q1
           have Q3 := Lib.hid (HB.out.trans q3)
           have HB := Lib.hid (HB.out.trans q2)
           have Q4 := Lib.hid q4
           clear q1 q2 q3 q4 o1 g1
           refine hK.out _ _ (RgC.of HB.out HROW.out HZ.out) (fun hHeld => ?_)
           clear hK K
           (try simp only [Act.put, List.setIfInBounds_toArray, List.set_cons_zero, List.set_cons_succ])
           refine wpAnyH_take (i := 13) (oi := ⟨some 162, _, _, _, _, _⟩) (v := .pointer (some ⟨gb, 0, none⟩)) rfl (by kernel_rfl) (by kernel_rfl) (by kernel_rfl) (fun _ _ _ h => h) (Or.inl ⟨by rfl, ?_⟩) (by assumption) ?_
           ·intro w0 hSw
            obtain ⟨e1, e4, e5⟩ := hSw
            go_simp
            (try with_reducible rfl)
           (try simp only [Act.put, List.setIfInBounds_toArray, List.set_cons_zero, List.set_cons_succ])
           refine wpAnyH_ready (rs := [14]) (by kernel_rfl) (by simp) ?_
           refine (AllReadyH.cons (o := ⟨none, _, _, _, _, _⟩) rfl (fun K hK => ?_) AllReadyH.nil)
           have cg := (got_cells Q1.out).1
           have fg := (got_cells Q1.out).2.2.2.1
           go_simp
           clear cg fg
           refine hK.out _ _ (RgC.of Q3.out HROW.out HZ.out) (fun hHeld => ?_)
           clear hK K
           (try simp only [Act.put, List.setIfInBounds_toArray, List.set_cons_zero, List.set_cons_succ])
           refine wpAnyH_done (by kernel_rfl) ?_ _
           refine NoPanic.normal ?_
           obtain ⟨W12, hW12⟩ : ∃ W12, w8.setCell ⟨gb, 0, none⟩ (.slice A' (nn + 1) cap') = W12 := ⟨_, rfl⟩
           rw [hW12] at Q3 Q4 ⊢
           clear hW12 HX HB HN HS Q1 hHeld HFW hl4
           have c2 := (HTZ.out W12 Q3.out).c2
           have hw8 : IntKind.i64.wrap (a + z.t) = a + z.t := by have h1 := HAB.out; have h2 := HAE.out; rw [IntKind.wrap_i64]; omega
           go_wp2
           clear c2 hw8
           go_roundw
           case rel =>
            have HHN1 := HHN.out.1
            refine ⟨n + 1, a + z.t, by omega, by have := HNL.out; omega, rfl, Lib.hid (by rw [HA.out, Int.natCast_succ, Int.add_mul]; omega), Q3, Lib.hid ?_, Lib.hid ?_⟩
            ·rw [per_snoc, ← List.append_assoc, HJS2.out, HPJ.out]; exact Q4.out
            ·rw [per_snoc, ← List.append_assoc, HJS2.out, List.length_append, List.length_singleton]; have := HL4.out; omega
           case measure => have := HAE.out; simp only [intOf]; omega
         ·have u2 : decide ((JS.length : Int) ≤ 4096) = false := decide_eq_false (by omega)
          have u2' : decide (JS.length ≤ 4096) = false := decide_eq_false hl4
          have HL4 := Lib.hid hl4
          clear ha hae hl4 hn1 hnN
          go_wp2
          go_roundw
          case rel =>
           refine ⟨x + 1, JS, by have := HXL.out; omega, by go_num, HB, HG, Lib.hid (by have := HLN.out; omega), Lib.hid (.inr ⟨by have := HL4.out; omega, ?_⟩)⟩
           rcases HJS.out with h | h
           ·have hfl := flat_len (FL := FL) (BS := BS) HXL.out HHB.out (by rw [HFX.out]; simp : (FL x).length = NN)
            rw [HSC.out]
            have h2 : JS.length = js.length + n := by rw [← HJS2.out]; simp
            rw [← h] at hfl
            have := HL4.out
            have := HHN.out.2
            omega
           ·exact h.2
          case measure => have := HXL.out; simp [intOf]; omega
        ·have hae : ¬ a < E := by rw [HA.out]; exact fun h => ha ((HPL.out n).1 h)
         have u1 : decide (a < E) = false := decide_eq_false hae
         obtain rfl : n = NN := by omega
         clear ha hae hn1 hnN
         go_wp2
         go_roundw
         case rel =>
          refine ⟨x + 1, JS, by have := HXL.out; omega, by go_num, HB, HG, Lib.hid (by have := HLN.out; omega), Lib.hid ?_⟩
          rcases HJS.out with h | h
          ·left
           rw [flat_snoc HHB.out, ← List.append_assoc, ← h, HFX.out]
           exact HJS2.out.symm
          ·right
           refine ⟨?_, h.2⟩
           rw [← HJS2.out, List.length_append]
           omega
         case measure => have := HXL.out; simp [intOf]; omega
     ·have u1 : decide (z.p ≥ y.p) = true := decide_eq_true (by omega)
      have u1' : decide (y.p ≤ z.p) = true := decide_eq_true (by omega)
      rw [decide_eq_false hp] at hhp
      have HHB := Lib.hid hhp
      clear hp hhp hlt
      go_upto_region 15 with (fail)
      go_quiet (fail)
      clear u1 u1' d6 e6
      go_wp2
      go_roundw
      case rel =>
       refine ⟨x + 1, js, by have := HXL.out; omega, by go_num, Lib.hid (HB.out.trans ((below_drewN2 wr nq).mono HB.out.size)), Lib.hid (HG.out.later (below_drewN2 wr nq)), Lib.hid (by have := HJL.out; omega), Lib.hid ?_⟩
       rw [flat_skip HHB.out]
       exact HJS.out
      case measure => have := HXL.out; simp [intOf]; omega
    ·obtain rfl : x = l.length := by omega
     obtain ⟨A8, c8, gs8, hq1, hq2, hq3, hq4, hq5, hq6, hq7⟩ := HG.out.is
     obtain ⟨cc0, cc1, cc2, -, -, -⟩ := got_cells hq1
     obtain ⟨r0, r1, r2, f0, f1, f2⟩ := got_cells HG.out.rc
     have hrB : w.heap.size ≤ rb := Nat.le_of_eq HRB.out
     by_cases hl4 : 4096 < js.length
     ·have u1 : decide ((js.length : Int) > 4096) = true := decide_eq_true (by omega)
      have u1' : decide (4096 < js.length) = true := decide_eq_true hl4
      have HSL : Hid (4096 < (sceneS l (ki : Int)).length) := Lib.hid (by
       rcases HJS.out with h | h
       ·rw [HSC.out, ← h]; exact hl4
       ·exact h.2)
      obtain ⟨t1, t2, t3⟩ := rb_fin (x := .slice none 0 0) (y := .int .i64 0) (z := .int .i64 15) hrB HG.out.rc hq4 (fun g hg o => (hq7 g hg o).2)
      have T1 := Lib.hid t1
      have T3 := Lib.hid (HB.out.trans t3)
      clear hq1 hq2 hq3 hq4 hq5 hq6 hq7 t1 t2 t3 hl4 hlt
      go_wp2
      (try simp only [Exit.inBlock, Exit.then])
      exact bodyPost_ret (v := .agg #[.slice none 0 0, .int .i64 0, .int .i64 15]) (results_got15 rfl _ _ _ rfl T1.out) rfl ⟨T3.out, .inr ⟨HSL.out, rfl⟩⟩
     ·have u1 : decide ((js.length : Int) > 4096) = false := decide_eq_false (by omega)
      have u1' : decide (4096 < js.length) = false := decide_eq_false hl4
      have HJE : Hid (js = sceneS l (ki : Int)) := Lib.hid (by
       rcases HJS.out with h | h
       ·rw [HSC.out]; exact h
       ·exact absurd h.1 hl4)
      obtain ⟨t1, t2, t3⟩ := rb_fin (x := .slice A8 js.length c8) (y := .int .i64 av) (z := .int .i64 0) hrB HG.out.rc hq4 (fun g hg o => (hq7 g hg o).2)
      have T1 := Lib.hid t1
      have T2 := Lib.hid t2
      have T3 := Lib.hid (HB.out.trans t3)
      have H5 := Lib.hid hq5
      have HL4 : Hid (js.length ≤ 4096) := Lib.hid (by omega)
      clear hq1 hq2 hq3 hq4 hq5 hq6 hq7 t1 t2 t3 hl4 hlt
      go_wp2
      (try simp only [Exit.inBlock, Exit.then])
      refine bodyPost_ret (v := .agg #[.slice A8 js.length c8, .int .i64 av, .int .i64 0]) (results_got15 rfl _ _ _ rfl T1.out) rfl ⟨T3.out, .inl ?_⟩
      rw [← HJE.out]
      exact ⟨HL4.out, A8, c8, gs8, by rw [HH.out, HAV.out], T2.out, H5.out⟩
end
end Go.Proofs.YthfkbbiaemmndaaGreatDoor
