/- Texts about the program, one after the other: Where, DAt, Lower, DBlk, YPut. -/
import Derived.WalkKit
import Derived.ProofKit
import Derived.Handy
import Derived.Lib.Hide
import Derived.Deep.MidRow
import Derived.Deep.QuietTactic
import Derived.BigQuiet
import Derived.Deep.RegionHeld3
import Derived.Laws.Externs
import Derived.RangeFuncBox
import Derived.Deep.CutBlock
import Derived.Laws.ShiftsVarLaws
import Derived.Outline
import Derived.Laws.Bits128
import Derived.Deep.RegionWith
import Derived.RangeFuncNested
import Derived.RangeFuncBound
import Derived.RangeFuncCalls
import Derived.RangeFuncLeaves
import Derived.RangeFuncWrites
import Derived.Shelf.Abstract
import Derived.OwnWalkIn
import Derived.TacticsInMore
import Derived.LoopNIn
import Derived.LoopIn
import Derived.Deep.Quiet
import Derived.Shelf.Small.Bits
import Derived.Shelf.Small.Strs
import Derived.Shelf.Small.Wraps
import Derived.Shelf.Strconv.Itoa0
import Derived.Shelf.LaysM
import Derived.Shelf.Strconv.Clone
import Derived.Shelf.Strings.Search1
import Derived.Shelf.Bits.Mul64
import Derived.Ground.Names2Prog
import Derived.Shelf.Slices.SearchI
import Derived.Maps.AppendAt
import Derived.Laws.AppendOwn
import Derived.Test.YthfkbbiaemmndaaGreatDoorRows
import Derived.Test.YthfkbbiaemmndaaGreatDoorProg
import Derived.OrdersIn
import Derived.Stop.RegionWithIn
import Derived.Shelf.RegionOpen
import Derived.Deep.LoopGhost
import Derived.WalkMore
import Derived.Deep.RegionLaw
import Derived.Laws.OwnMore
import Derived.Deep.CutRange
import Derived.Below
import Derived.LaidMore
import Derived.Laws.CopyOwn
import Derived.IntWalk
import Derived.OwnWalk
import Derived.BigRegion
import Derived.Deep.DrawnRows
import Derived.Deep.RegionHeldLaw
import Derived.StillTailTactics
import Derived.Lib.SliceRun
import Derived.Deep.AppendSrc
import Derived.Deep.Upon
import Derived.Deep.DeepAppendWide
import Derived.Sort.LoopGhostIn
import Derived.Laws.BytesString
import Derived.RangeFuncRecord
import Derived.MapKept
import Derived.Laws.AppendOwnNone
import Derived.ChangeOld
import Derived.OpenShut
import Derived.Test.YthfkbbiaemmndaaGreatDoorG3
import Derived.Test.YthfkbbiaemmndaaGreatDoorG4
import Derived.Test.YthfkbbiaemmndaaGreatDoorG5
import Derived.Test.YthfkbbiaemmndaaGreatDoorG6
import Derived.Test.YthfkbbiaemmndaaGreatDoorG7
import Derived.Test.YthfkbbiaemmndaaGreatDoorG8
import Derived.Test.YthfkbbiaemmndaaGreatDoorG10
set_option linter.unusedVariables false
set_option linter.unusedSimpArgs false
set_option maxRecDepth 100000
set_option maxHeartbeats 16000000
namespace Go.Proofs.YthfkbbiaemmndaaGreatDoor
section
open Go.RowKit
def pAt (l : List Ts) (i : Int) : Option Int := if 0 ≤ i then (l[i.toNat]?).map (·.p) else none
def higherF (l : List Ts) (i : Int) : Nat → Bool := fun k => match pAt l i, l[k]? with
 | some p, some x => decide (x.p < p)
 | _, _ => false
def lowerF (l : List Ts) (i : Int) : Nat → Bool := fun k => match pAt l i, l[k]? with
 | some p, some x => decide (p < x.p)
 | _, _ => false
theorem pAt_none {l : List Ts} {i : Int} (h : i < 0 ∨ (l.length : Int) ≤ i) : pAt l i = none := by
 unfold pAt
 by_cases h0 : 0 ≤ i
 ·rw [if_pos h0, List.getElem?_eq_none (by omega)]; rfl
 ·rw [if_neg h0]
theorem pAt_some {l : List Ts} {k : Nat} {x : Ts} (h : l[k]? = some x) : pAt l (k : Int) = some x.p := by
 unfold pAt
 rw [if_pos (by omega), Int.toNat_natCast, h]; rfl
theorem higherF_none {l : List Ts} {i : Int} (h : pAt l i = none) : higherF l i = noneF := by funext k; simp [higherF, h, noneF]
theorem lowerF_none {l : List Ts} {i : Int} (h : pAt l i = none) : lowerF l i = noneF := by funext k; simp [lowerF, h, noneF]
theorem higherF_at {l : List Ts} {i : Int} {p : Int} {k : Nat} {x : Ts} (h : pAt l i = some p) (hx : l[k]? = some x) : higherF l i k = decide (x.p < p) := by simp [higherF, h, hx]
theorem lowerF_at {l : List Ts} {i : Int} {p : Int} {k : Nat} {x : Ts} (h : pAt l i = some p) (hx : l[k]? = some x) : lowerF l i k = decide (p < x.p) := by simp [lowerF, h, hx]
theorem higherF_far {l : List Ts} {i : Int} {k : Nat} (h : l.length ≤ k) : higherF l i k = false := by
 unfold higherF
 rw [List.getElem?_eq_none h]
 split
 ·rename_i h2; cases h2
 ·rfl
theorem lowerF_far {l : List Ts} {i : Int} {k : Nat} (h : l.length ≤ k) : lowerF l i k = false := by
 unfold lowerF
 rw [List.getElem?_eq_none h]
 split
 ·rename_i h2; cases h2
 ·rfl
def cutF (f : Nat → Bool) (k : Nat) : Nat → Bool := fun j => decide (j < k) && f j
theorem cutF_zero (f : Nat → Bool) : cutF f 0 = noneF := by funext j; simp [cutF, noneF]
theorem cutF_yes {f : Nat → Bool} {k : Nat} (h : f k = true) : insMM (cutF f k) (k : Int) = cutF f (k + 1) := by
 funext j
 simp only [insMM, cutF]
 by_cases hj : j = k
 ·subst hj; simp [h]
 ·have h1 : decide ((j : Int) = (k : Int)) = false := decide_eq_false (by omega)
  have h2 : decide (j < k) = decide (j < k + 1) := by rw [decide_eq_decide]; omega
  rw [h1, h2, Bool.or_false]
theorem cutF_no {f : Nat → Bool} {k : Nat} (h : f k = false) : cutF f k = cutF f (k + 1) := by
 funext j
 simp only [cutF]
 by_cases hj : j = k
 ·subst hj; simp [h]
 ·have h2 : decide (j < k) = decide (j < k + 1) := by rw [decide_eq_decide]; omega
  rw [h2]
theorem setV_eq {f g : Nat → Bool} (h : ∀ j, j < 1024 → f j = g j) : setV f = setV g := by
 rw [setV, (cellsL_ext fun i hi => word_ext fun j hj => h _ (by omega) : cellsL f = cellsL g)]
theorem setV_cut {f : Nat → Bool} {n m : Nat} (hf : ∀ k, n ≤ k → f k = false) (hm : m = min n 1024) : setV (cutF f m) = setV f := setV_eq fun j hj => by
 simp only [cutF]
 by_cases h : j < n
 ·rw [decide_eq_true (by omega), Bool.true_and]
 ·rw [hf j (by omega), Bool.and_false]
theorem Box.later {w w' : World} {b : Nat} {f : Nat → Bool} (h : Box w b f) (hb : Below w.heap.size w w') : Box w' b f := h.below hb h.lt
theorem two_zero (w : World) : ∃ W, (w.alloc (.cells #[.int .u64 0, .int .u64 0, .int .u64 0, .int .u64 0, .int .u64 0, .int .u64 0, .int .u64 0, .int .u64 0, .int .u64 0, .int .u64 0, .int .u64 0, .int .u64 0, .int .u64 0, .int .u64 0, .int .u64 0, .int .u64 0] 82)).alloc (.cells #[.int .u64 0, .int .u64 0, .int .u64 0, .int .u64 0, .int .u64 0, .int .u64 0, .int .u64 0, .int .u64 0, .int .u64 0, .int .u64 0, .int .u64 0, .int .u64 0, .int .u64 0, .int .u64 0, .int .u64 0, .int .u64 0] 82) = W ∧ Box W w.heap.size noneF ∧ Box W (w.heap.size + 1) noneF ∧ Below w.heap.size w W := by
 have b1 := zero_box w
 have b2 := zero_box (w.alloc (.cells #[.int .u64 0, .int .u64 0, .int .u64 0, .int .u64 0, .int .u64 0, .int .u64 0, .int .u64 0, .int .u64 0, .int .u64 0, .int .u64 0, .int .u64 0, .int .u64 0, .int .u64 0, .int .u64 0, .int .u64 0, .int .u64 0] 82))
 rw [World.size_alloc] at b2
 exact ⟨_, rfl, b1.alloc _, b2, ((Below.refl w.heap.size w).alloc (Nat.le_refl _) _).alloc (by simp) _⟩
theorem higher1_any (p q : Int) (w : World) : Calls Tryz.prog 60 #[.int .i64 p, .int .i64 q] w fun e w' => e = .returned (.bool (decide (p < q))) ∧ w = w' := by
 go_enter Tryz.func60, Tryz.ntmps60
 go_wp2
 go_ret
 exact ⟨rfl, rfl⟩
theorem lower1_any (p q : Int) (w : World) : Calls Tryz.prog 92 #[.int .i64 p, .int .i64 q] w fun e w' => e = .returned (.bool (decide (q < p))) ∧ w = w' := by
 go_enter Tryz.func92, Tryz.ntmps92
 go_wp2
 go_ret
 exact ⟨rfl, rfl⟩
theorem where_higher (A : Option Addr) (cap : Nat) (l : List Ts) (i : Int) (w : World) (hR : Row w A cap l) (hi : in64 i) :
  Calls Tryz.prog 59 #[.slice A l.length cap, .int .i64 i, .func (.func 60) #[] #[]] w fun e w' => e = .returned (setV (higherF l i)) ∧ Below w.heap.size w w' := by
 have hle := hR.le
 have hmx := hR.mx
 obtain ⟨W0, hW0, G1, G2, B0⟩ := two_zero w
 have HW0 := Lib.hid hW0
 have ROW := Lib.hid hR
 clear hW0 hR
 by_cases hin : 0 ≤ i ∧ i < (l.length : Int)
 ·obtain ⟨h0, h1⟩ := hin
  have h0' : decide (i < 0) = false := decide_eq_false (by omega)
  have h1' : decide (i ≥ (l.length : Int)) = false := decide_eq_false (by omega)
  have h1'' : decide ((l.length : Int) ≤ i) = false := decide_eq_false (by omega)
  obtain ⟨n, rfl⟩ := Int.eq_ofNat_of_zero_le h0
  obtain ⟨m, hm⟩ : ∃ m, m = min l.length 1024 := ⟨_, rfl⟩
  have hmin : min (l.length : Int) 1024 = (m : Int) := by omega
  have HM := Lib.hid hm
  have hml : m ≤ l.length := by omega
  have hm1 : m ≤ 1024 := by omega
  clear hm
  obtain ⟨b, o, xi, rfl, hxi, hwi, hbl, hTi⟩ := ROW.out.get (k := n) (by omega)
  have HP := Lib.hid (pAt_some hxi)
  have HTi := Lib.hid hTi
  clear hxi hwi hTi
  obtain ⟨f, hf⟩ : ∃ f, higherF l (n : Int) = f := ⟨_, rfl⟩
  have hfar : ∀ k, l.length ≤ k → f k = false := fun k hk => by rw [← hf]; exact higherF_far hk
  have hat : ∀ k x, l[k]? = some x → f k = decide (x.p < xi.p) := fun k x hx => by rw [← hf]; exact higherF_at HP.out hx
  rw [hf]
  have HEQ := Lib.hid (setV_cut hfar HM.out)
  have HAT := Lib.hid hat
  clear hf hfar hat
  have hmc : (m : Int) ≤ (cap : Int) := by omega
  have h1N : decide (l.length ≤ n) = false := decide_eq_false (by omega)
  go_enter Tryz.func59, Tryz.ntmps59
  go_upto_region 2 with (fail)
  rw [HW0.out]
  clear HW0
  go_wp2
  go_loopw [25] (fun s wr => ∃ k : Nat, k ≤ m ∧ s = .int .i64 k ∧ Box wr w.heap.size noneF ∧ Box wr (w.heap.size + 1) (cutF f k) ∧ Below w.heap.size w wr) (fun s _ => m - (intOf s).toNat)
  case atStart => exact ⟨0, Nat.zero_le _, rfl, G1, by rw [cutF_zero]; exact G2, B0⟩
  case round =>
   obtain ⟨k, hk, rfl, H1, H2, hB⟩ := hrel
   clear G1 G2 B0
   by_cases hlt : k < m
   ·obtain ⟨x, hx⟩ : ∃ x, l[k]? = some x := ⟨l[k], List.getElem?_eq_getElem (by omega)⟩
    have T := (ROW.out.at2 hx).later hB
    have TI := HTi.out.later hB
    have c0 := T.c0
    have c1 := T.c1
    have c2 := T.c2
    have c3 := T.c3
    have c4 := T.c4
    have c5 := T.c5
    have c6 := T.c6
    have hi0 : (0 : Int) ≤ (k : Int) := by omega
    have hi1 : (k : Int) < (m : Int) := by omega
    have hi2 : (k : Int) < (l.length : Int) := by omega
    have HF := Lib.hid (HAT.out k x hx)
    have TI := Lib.hid TI
    have H1 := Lib.hid H1
    have H2 := Lib.hid H2
    have HB := Lib.hid hB
    clear T hx hB
    go_upto_region 7 with (fail)
    obtain ⟨W4, hW4, T4, D1, D2, hB4, hbt, hbl2, hns⟩ : ∃ W4, wr.alloc (.cells #[.string x.n, .int .i64 x.c, .int .i64 x.t, .int .i64 x.d, .int .i64 x.j, .int .i64 x.q, .int .i64 x.p] 26) = W4 ∧ TAt W4 wr.heap.size 0 x ∧ Box W4 w.heap.size noneF ∧ Box W4 (w.heap.size + 1) (cutF f k) ∧ Below w.heap.size w W4 ∧ wr.heap.size < W4.heap.size ∧ b < W4.heap.size ∧ w.heap.size ≤ W4.heap.size :=
     ⟨_, rfl, TAt.new wr x, H1.out.alloc _, H2.out.alloc _, HB.out.trans ((Below.refl _ _).alloc (Below.size HB.out) _), by simp, by have := Below.size HB.out; simp; omega, by have := Below.size HB.out; simp; omega⟩
    have x6 := (TI.out.later (Below.alloc (Below.refl _ _) (Nat.le_refl _) (.cells #[.string x.n, .int .i64 x.c, .int .i64 x.t, .int .i64 x.d, .int .i64 x.j, .int .i64 x.q, .int .i64 x.p] 26))).c6
    rw [hW4] at x6 ⊢
    have y6 : W4.cell? ⟨wr.heap.size, 6, none⟩ = some (.int .i64 x.p) := T4.c6
    clear hW4 c0 c1 c2 c3 c4 c5 c6 T4 H1 H2 HB
    generalize wr.heap.size = bt at *
    have D1 := Lib.hid D1
    have D2 := Lib.hid D2
    have hB4 := Lib.hid hB4
    have CL := Lib.hid (fun W => calls_same (higher1_any x.p xi.p W))
    have hn0 : (0 : Int) ≤ (n : Int) := by omega
    refine region_quiet_l (C := fun v => Below W4.heap.size W4 v) (by kernel_rfl) (by kernel_rfl) (below_drew _) ?_
    repeat (first
     | (refine wq_skip (by rfl) ?_; (try simp only [Act.put, List.setIfInBounds_toArray, List.set_cons_zero, List.set_cons_succ]))
     | (refine wq_val _ (by rfl) (by intro v hC; have z9 := (hC.cell (p := ⟨bt, 6, none⟩) hbt).trans y6; have zi := (hC.cell (p := ⟨b, o + n * 7 + 6, none⟩) hbl2).trans x6; clear hC; go_simp; (try rfl)) ?_; (try simp only [Act.put, List.setIfInBounds_toArray, List.set_cons_zero, List.set_cons_succ]))
     | (with_reducible fail))
    refine wq_call (fun W _ => CL.out W) lt_step (by rfl) (by intro v _; go_simp) ?_
    (try simp only [Act.put, List.setIfInBounds_toArray, List.set_cons_zero, List.set_cons_succ])
    refine wpQuiet_nil ?_
    intro W5 hW5
    have E1 := D1.out.later hW5
    have E2 := D2.out.later hW5
    have hB5 := Lib.hid (hB4.out.trans (hW5.mono hns))
    clear hW5 D1 D2 hB4 x6 y6
    cases hfk : f k
    ·have h5 : decide (x.p < xi.p) = false := by rw [← HF.out]; exact hfk
     have HN := Lib.hid (cutF_no hfk)
     have E1 := Lib.hid E1
     have E2 := Lib.hid E2
     clear hfk
     rw [h5]
     go_wp2
     exact ⟨⟨k + 1, by omega, by go_num, E1.out, by rw [← HN.out]; exact E2.out, hB5.out⟩, by simp [intOf]; omega⟩
    ·have h5 : decide (x.p < xi.p) = true := by rw [← HF.out]; exact hfk
     have hlt5 := of_decide_eq_true h5
     have HN := Lib.hid (cutF_yes hfk)
     have WI := Lib.hid (fun W => with_any (cutF f k) (k : Int) W (by omega) (by omega))
     clear hfk
     rw [h5]
     go_wp2_with (first
      | ((with_reducible show wpList _ _ _ (⟨some 39, _, _, _, _, _⟩ :: _) _ _); refine wpList_load_mid rfl 82 _ rfl _ _ rfl _ _ E2.range Tryz.underlying82 rfl (info26 _) ?_)
      | (go_at_call 57; (with_reducible refine (WI.out _).mono ?_); rintro e w6 ⟨rfl, h6⟩; have F1 := E1.later h6; have F2 := E2.later h6; have hB6 := Lib.hid (hB5.out.trans (h6.mono (Below.size hB5.out))); clear h6)
      | ((with_reducible show wpList _ _ _ (⟨none, Op.store 82 _ _, _, _, _, _⟩ :: _) _ _); refine wpList_store_mid rfl 82 _ _ rfl _ _ (cellsL (insMM (cutF f k) (k : Int))).toArray rfl rfl (F2.there _) (info26' _) (cellsL_all _) ?_))
     go_roundw
     case rel =>
      have HR : ∃ k' : Nat, k' ≤ m ∧ Value.int .i64 ((k : Int) + 1) = .int .i64 k' ∧ Box (w6.setCells (w.heap.size + 1) 0 (cellsL (insMM (cutF f k) (k : Int)))) w.heap.size noneF ∧ Box (w6.setCells (w.heap.size + 1) 0 (cellsL (insMM (cutF f k) (k : Int)))) (w.heap.size + 1) (cutF f k') ∧ Below w.heap.size w (w6.setCells (w.heap.size + 1) 0 (cellsL (insMM (cutF f k) (k : Int)))) := ⟨k + 1, by omega, by go_num, F1.setCells_other F2 _ (by omega), by rw [← HN.out]; exact F2.setCells _, below_setCells hB6.out F2 _ (by omega)⟩
      exact HR
     case measure => simp [intOf]; omega
   ·obtain rfl : k = m := by omega
    have HB := Lib.hid hB
    clear hB
    go_wp2_with (first
     | ((with_reducible show wpList _ _ _ (⟨some 43, _, _, _, _, _⟩ :: _) _ _); refine wpList_load_mid rfl 82 _ rfl _ _ rfl _ _ H2.range Tryz.underlying82 rfl (info26 _) ?_)
     | ((with_reducible show wpList _ _ _ (⟨none, Op.store 82 _ _, _, _, _, _⟩ :: _) _ _); refine wpList_store_mid rfl 82 _ _ rfl _ _ (cellsL (cutF f k)).toArray rfl rfl (H1.there _) (info26' _) (cellsL_all _) ?_)
     | ((with_reducible show bodyPost _ _ _ _ _ _); exact bodyPost_ret (results_box rfl _ _ _ _ rfl (H1.setCells _)) rfl ⟨by rw [HEQ.out], below_setCells HB.out H1 _ (Nat.le_refl _)⟩))
 ·have hno : pAt l i = none := pAt_none (by omega)
  rw [higherF_none hno]
  clear hno
  by_cases h0 : i < 0
  ·clear hin
   go_enter Tryz.func59, Tryz.ntmps59
   go_upto_region 2 with (fail)
   rw [HW0.out]
   go_wp2_with (first
    | ((with_reducible show wpList _ _ _ (⟨some 18, _, _, _, _, _⟩ :: _) _ _); refine wpList_load_mid rfl 82 _ rfl _ _ rfl _ _ G2.range Tryz.underlying82 rfl (info26 _) ?_)
    | ((with_reducible show wpList _ _ _ (⟨none, Op.store 82 _ _, _, _, _, _⟩ :: _) _ _); refine wpList_store_mid rfl 82 _ _ rfl _ _ (cellsL noneF).toArray rfl rfl (G1.there _) (info26' _) (cellsL_all _) ?_)
    | ((with_reducible show bodyPost _ _ _ _ _ _); exact bodyPost_ret (results_box rfl _ _ _ _ rfl (G1.setCells _)) rfl ⟨rfl, below_setCells B0 G1 _ (Nat.le_refl _)⟩))
  ·have h0' : decide (i < 0) = false := decide_eq_false h0
   have h1 : (l.length : Int) ≤ i := by omega
   clear hin
   go_enter Tryz.func59, Tryz.ntmps59
   go_upto_region 2 with (fail)
   rw [HW0.out]
   go_wp2_with (first
    | ((with_reducible show wpList _ _ _ (⟨some 18, _, _, _, _, _⟩ :: _) _ _); refine wpList_load_mid rfl 82 _ rfl _ _ rfl _ _ G2.range Tryz.underlying82 rfl (info26 _) ?_)
    | ((with_reducible show wpList _ _ _ (⟨none, Op.store 82 _ _, _, _, _, _⟩ :: _) _ _); refine wpList_store_mid rfl 82 _ _ rfl _ _ (cellsL noneF).toArray rfl rfl (G1.there _) (info26' _) (cellsL_all _) ?_)
    | ((with_reducible show bodyPost _ _ _ _ _ _); exact bodyPost_ret (results_box rfl _ _ _ _ rfl (G1.setCells _)) rfl ⟨rfl, below_setCells B0 G1 _ (Nat.le_refl _)⟩))
theorem thigher_any (A : Option Addr) (cap : Nat) (l : List Ts) (i : Int) (w : World) (hR : Row w A cap l) (hi : in64 i) :
  Calls Tryz.prog 36 #[.slice A l.length cap, .int .i64 i] w fun e w' => e = .returned (setV (higherF l i)) ∧ Below w.heap.size w w' := by
 have b1 := zero_box w
 have hb := (Below.refl w.heap.size w).alloc (Nat.le_refl _) (.cells #[.int .u64 0, .int .u64 0, .int .u64 0, .int .u64 0, .int .u64 0, .int .u64 0, .int .u64 0, .int .u64 0, .int .u64 0, .int .u64 0, .int .u64 0, .int .u64 0, .int .u64 0, .int .u64 0, .int .u64 0, .int .u64 0] 82)
 have WH := Lib.hid (fun W hR => where_higher A cap l i W hR hi)
 have ROW := Lib.hid (hR.later hb)
 clear hR
 go_enter Tryz.func36, Tryz.ntmps36
 go_upto_region 1 with (fail)
 generalize w.alloc (.cells #[.int .u64 0, .int .u64 0, .int .u64 0, .int .u64 0, .int .u64 0, .int .u64 0, .int .u64 0, .int .u64 0, .int .u64 0, .int .u64 0, .int .u64 0, .int .u64 0, .int .u64 0, .int .u64 0, .int .u64 0, .int .u64 0] 82) = W1 at *
 go_wp2_with (first
  | (go_at_call 59; (with_reducible refine (WH.out _ ROW.out).mono ?_); rintro e w2 ⟨rfl, h2⟩; have b2 := b1.later h2; have hb2 := hb.trans (h2.mono hb.size))
  | ((with_reducible show wpList _ _ _ (⟨none, Op.store 82 _ _, _, _, _, _⟩ :: _) _ _); refine wpList_store_mid rfl 82 _ _ rfl _ _ (cellsL (higherF l i)).toArray rfl rfl (b2.there _) (info26' _) (cellsL_all _) ?_)
  | ((with_reducible show bodyPost _ _ _ _ _ _); exact bodyPost_ret (results_box rfl _ _ _ _ rfl (b2.setCells _)) rfl ⟨rfl, below_setCells hb2 b2 _ (Nat.le_refl _)⟩))
end
section
open Go.RowKit Go.Shelf
attribute [local go_sem] Oper.semAt_some
theorem Row.keepG {P : Nat → TypeId → Prop} {A : Option Addr} {cap : Nat} {l : List Ts} {w w' : World} (h : Row w A cap l) (hk : KeepG P w w') (hr : ∀ b o, A = some ⟨b, o, none⟩ → ∀ T, P b T) : Row w' A cap l :=
 ⟨h.le, h.mx, h.wf, fun i x hx => by
  obtain ⟨b, o, e, ht⟩ := h.at_ i x hx
  exact ⟨b, o, e, ⟨fun j v hv => hk.cell (ht.r j v hv) (hr b o e)⟩⟩⟩
theorem keepG_grown {W W' : World} {row : Option Nat} (hg : W.grownBy W' row) (hr : ∀ r, row = some r → ∃ o : Obj, W.heap[r]? = some o ∧ o.isCells = false) : KeepG (fun _ _ => True) W W' :=
 ⟨hg.size, fun k cs T fr _ hi => (grownBy_keeps_cells hg hr hi rfl).trans hi⟩
end
section
open Go.RowKit
theorem where_lower (A : Option Addr) (cap : Nat) (l : List Ts) (i : Int) (w : World) (hR : Row w A cap l) (hi : in64 i) :
  Calls Tryz.prog 59 #[.slice A l.length cap, .int .i64 i, .func (.func 92) #[] #[]] w fun e w' => e = .returned (setV (lowerF l i)) ∧ Below w.heap.size w w' := by
 have hle := hR.le
 have hmx := hR.mx
 obtain ⟨W0, hW0, G1, G2, B0⟩ := two_zero w
 have HW0 := Lib.hid hW0
 have ROW := Lib.hid hR
 clear hW0 hR
 by_cases hin : 0 ≤ i ∧ i < (l.length : Int)
 ·obtain ⟨h0, h1⟩ := hin
  have h0' : decide (i < 0) = false := decide_eq_false (by omega)
  have h1' : decide (i ≥ (l.length : Int)) = false := decide_eq_false (by omega)
  have h1'' : decide ((l.length : Int) ≤ i) = false := decide_eq_false (by omega)
  obtain ⟨n, rfl⟩ := Int.eq_ofNat_of_zero_le h0
  obtain ⟨m, hm⟩ : ∃ m, m = min l.length 1024 := ⟨_, rfl⟩
  have hmin : min (l.length : Int) 1024 = (m : Int) := by omega
  have HM := Lib.hid hm
  have hml : m ≤ l.length := by omega
  have hm1 : m ≤ 1024 := by omega
  clear hm
  obtain ⟨b, o, xi, rfl, hxi, hwi, hbl, hTi⟩ := ROW.out.get (k := n) (by omega)
  have HP := Lib.hid (pAt_some hxi)
  have HTi := Lib.hid hTi
  clear hxi hwi hTi
  obtain ⟨f, hf⟩ : ∃ f, lowerF l (n : Int) = f := ⟨_, rfl⟩
  have hfar : ∀ k, l.length ≤ k → f k = false := fun k hk => by rw [← hf]; exact lowerF_far hk
  have hat : ∀ k x, l[k]? = some x → f k = decide (xi.p < x.p) := fun k x hx => by rw [← hf]; exact lowerF_at HP.out hx
  rw [hf]
  have HEQ := Lib.hid (setV_cut hfar HM.out)
  have HAT := Lib.hid hat
  clear hf hfar hat
  have hmc : (m : Int) ≤ (cap : Int) := by omega
  have h1N : decide (l.length ≤ n) = false := decide_eq_false (by omega)
  go_enter Tryz.func59, Tryz.ntmps59
  go_upto_region 2 with (fail)
  rw [HW0.out]
  clear HW0
  go_wp2
  go_loopw [25] (fun s wr => ∃ k : Nat, k ≤ m ∧ s = .int .i64 k ∧ Box wr w.heap.size noneF ∧ Box wr (w.heap.size + 1) (cutF f k) ∧ Below w.heap.size w wr) (fun s _ => m - (intOf s).toNat)
  case atStart => exact ⟨0, Nat.zero_le _, rfl, G1, by rw [cutF_zero]; exact G2, B0⟩
  case round =>
   obtain ⟨k, hk, rfl, H1, H2, hB⟩ := hrel
   clear G1 G2 B0
   by_cases hlt : k < m
   ·obtain ⟨x, hx⟩ : ∃ x, l[k]? = some x := ⟨l[k], List.getElem?_eq_getElem (by omega)⟩
    have T := (ROW.out.at2 hx).later hB
    have TI := HTi.out.later hB
    have c0 := T.c0
    have c1 := T.c1
    have c2 := T.c2
    have c3 := T.c3
    have c4 := T.c4
    have c5 := T.c5
    have c6 := T.c6
    have hi0 : (0 : Int) ≤ (k : Int) := by omega
    have hi1 : (k : Int) < (m : Int) := by omega
    have hi2 : (k : Int) < (l.length : Int) := by omega
    have HF := Lib.hid (HAT.out k x hx)
    have TI := Lib.hid TI
    have H1 := Lib.hid H1
    have H2 := Lib.hid H2
    have HB := Lib.hid hB
    clear T hx hB
    go_upto_region 7 with (fail)
    obtain ⟨W4, hW4, T4, D1, D2, hB4, hbt, hbl2, hns⟩ : ∃ W4, wr.alloc (.cells #[.string x.n, .int .i64 x.c, .int .i64 x.t, .int .i64 x.d, .int .i64 x.j, .int .i64 x.q, .int .i64 x.p] 26) = W4 ∧ TAt W4 wr.heap.size 0 x ∧ Box W4 w.heap.size noneF ∧ Box W4 (w.heap.size + 1) (cutF f k) ∧ Below w.heap.size w W4 ∧ wr.heap.size < W4.heap.size ∧ b < W4.heap.size ∧ w.heap.size ≤ W4.heap.size :=
     ⟨_, rfl, TAt.new wr x, H1.out.alloc _, H2.out.alloc _, HB.out.trans ((Below.refl _ _).alloc (Below.size HB.out) _), by simp, by have := Below.size HB.out; simp; omega, by have := Below.size HB.out; simp; omega⟩
    have x6 := (TI.out.later (Below.alloc (Below.refl _ _) (Nat.le_refl _) (.cells #[.string x.n, .int .i64 x.c, .int .i64 x.t, .int .i64 x.d, .int .i64 x.j, .int .i64 x.q, .int .i64 x.p] 26))).c6
    rw [hW4] at x6 ⊢
    have y6 : W4.cell? ⟨wr.heap.size, 6, none⟩ = some (.int .i64 x.p) := T4.c6
    clear hW4 c0 c1 c2 c3 c4 c5 c6 T4 H1 H2 HB
    generalize wr.heap.size = bt at *
    have D1 := Lib.hid D1
    have D2 := Lib.hid D2
    have hB4 := Lib.hid hB4
    have CL := Lib.hid (fun W => calls_same (lower1_any x.p xi.p W))
    have hn0 : (0 : Int) ≤ (n : Int) := by omega
    refine region_quiet_l (C := fun v => Below W4.heap.size W4 v) (by kernel_rfl) (by kernel_rfl) (below_drew _) ?_
    repeat (first
     | (refine wq_skip (by rfl) ?_; (try simp only [Act.put, List.setIfInBounds_toArray, List.set_cons_zero, List.set_cons_succ]))
     | (refine wq_val _ (by rfl) (by intro v hC; have z9 := (hC.cell (p := ⟨bt, 6, none⟩) hbt).trans y6; have zi := (hC.cell (p := ⟨b, o + n * 7 + 6, none⟩) hbl2).trans x6; clear hC; go_simp; (try rfl)) ?_; (try simp only [Act.put, List.setIfInBounds_toArray, List.set_cons_zero, List.set_cons_succ]))
     | (with_reducible fail))
    refine wq_call (fun W _ => CL.out W) lt_step (by rfl) (by intro v _; go_simp) ?_
    (try simp only [Act.put, List.setIfInBounds_toArray, List.set_cons_zero, List.set_cons_succ])
    refine wpQuiet_nil ?_
    intro W5 hW5
    have E1 := D1.out.later hW5
    have E2 := D2.out.later hW5
    have hB5 := Lib.hid (hB4.out.trans (hW5.mono hns))
    clear hW5 D1 D2 hB4 x6 y6
    cases hfk : f k
    ·have h5 : decide (xi.p < x.p) = false := by rw [← HF.out]; exact hfk
     have HN := Lib.hid (cutF_no hfk)
     have E1 := Lib.hid E1
     have E2 := Lib.hid E2
     clear hfk
     rw [h5]
     go_wp2
     exact ⟨⟨k + 1, by omega, by go_num, E1.out, by rw [← HN.out]; exact E2.out, hB5.out⟩, by simp [intOf]; omega⟩
    ·have h5 : decide (xi.p < x.p) = true := by rw [← HF.out]; exact hfk
     have hlt5 := of_decide_eq_true h5
     have HN := Lib.hid (cutF_yes hfk)
     have WI := Lib.hid (fun W => with_any (cutF f k) (k : Int) W (by omega) (by omega))
     clear hfk
     rw [h5]
     go_wp2_with (first
      | ((with_reducible show wpList _ _ _ (⟨some 39, _, _, _, _, _⟩ :: _) _ _); refine wpList_load_mid rfl 82 _ rfl _ _ rfl _ _ E2.range Tryz.underlying82 rfl (info26 _) ?_)
      | (go_at_call 57; (with_reducible refine (WI.out _).mono ?_); rintro e w6 ⟨rfl, h6⟩; have F1 := E1.later h6; have F2 := E2.later h6; have hB6 := Lib.hid (hB5.out.trans (h6.mono (Below.size hB5.out))); clear h6)
      | ((with_reducible show wpList _ _ _ (⟨none, Op.store 82 _ _, _, _, _, _⟩ :: _) _ _); refine wpList_store_mid rfl 82 _ _ rfl _ _ (cellsL (insMM (cutF f k) (k : Int))).toArray rfl rfl (F2.there _) (info26' _) (cellsL_all _) ?_))
     go_roundw
     case rel =>
      have HR : ∃ k' : Nat, k' ≤ m ∧ Value.int .i64 ((k : Int) + 1) = .int .i64 k' ∧ Box (w6.setCells (w.heap.size + 1) 0 (cellsL (insMM (cutF f k) (k : Int)))) w.heap.size noneF ∧ Box (w6.setCells (w.heap.size + 1) 0 (cellsL (insMM (cutF f k) (k : Int)))) (w.heap.size + 1) (cutF f k') ∧ Below w.heap.size w (w6.setCells (w.heap.size + 1) 0 (cellsL (insMM (cutF f k) (k : Int)))) := ⟨k + 1, by omega, by go_num, F1.setCells_other F2 _ (by omega), by rw [← HN.out]; exact F2.setCells _, below_setCells hB6.out F2 _ (by omega)⟩
      exact HR
     case measure => simp [intOf]; omega
   ·obtain rfl : k = m := by omega
    have HB := Lib.hid hB
    clear hB
    go_wp2_with (first
     | ((with_reducible show wpList _ _ _ (⟨some 43, _, _, _, _, _⟩ :: _) _ _); refine wpList_load_mid rfl 82 _ rfl _ _ rfl _ _ H2.range Tryz.underlying82 rfl (info26 _) ?_)
     | ((with_reducible show wpList _ _ _ (⟨none, Op.store 82 _ _, _, _, _, _⟩ :: _) _ _); refine wpList_store_mid rfl 82 _ _ rfl _ _ (cellsL (cutF f k)).toArray rfl rfl (H1.there _) (info26' _) (cellsL_all _) ?_)
     | ((with_reducible show bodyPost _ _ _ _ _ _); exact bodyPost_ret (results_box rfl _ _ _ _ rfl (H1.setCells _)) rfl ⟨by rw [HEQ.out], below_setCells HB.out H1 _ (Nat.le_refl _)⟩))
 ·have hno : pAt l i = none := pAt_none (by omega)
  rw [lowerF_none hno]
  clear hno
  by_cases h0 : i < 0
  ·clear hin
   go_enter Tryz.func59, Tryz.ntmps59
   go_upto_region 2 with (fail)
   rw [HW0.out]
   go_wp2_with (first
    | ((with_reducible show wpList _ _ _ (⟨some 18, _, _, _, _, _⟩ :: _) _ _); refine wpList_load_mid rfl 82 _ rfl _ _ rfl _ _ G2.range Tryz.underlying82 rfl (info26 _) ?_)
    | ((with_reducible show wpList _ _ _ (⟨none, Op.store 82 _ _, _, _, _, _⟩ :: _) _ _); refine wpList_store_mid rfl 82 _ _ rfl _ _ (cellsL noneF).toArray rfl rfl (G1.there _) (info26' _) (cellsL_all _) ?_)
    | ((with_reducible show bodyPost _ _ _ _ _ _); exact bodyPost_ret (results_box rfl _ _ _ _ rfl (G1.setCells _)) rfl ⟨rfl, below_setCells B0 G1 _ (Nat.le_refl _)⟩))
  ·have h0' : decide (i < 0) = false := decide_eq_false h0
   have h1 : (l.length : Int) ≤ i := by omega
   clear hin
   go_enter Tryz.func59, Tryz.ntmps59
   go_upto_region 2 with (fail)
   rw [HW0.out]
   go_wp2_with (first
    | ((with_reducible show wpList _ _ _ (⟨some 18, _, _, _, _, _⟩ :: _) _ _); refine wpList_load_mid rfl 82 _ rfl _ _ rfl _ _ G2.range Tryz.underlying82 rfl (info26 _) ?_)
    | ((with_reducible show wpList _ _ _ (⟨none, Op.store 82 _ _, _, _, _, _⟩ :: _) _ _); refine wpList_store_mid rfl 82 _ _ rfl _ _ (cellsL noneF).toArray rfl rfl (G1.there _) (info26' _) (cellsL_all _) ?_)
    | ((with_reducible show bodyPost _ _ _ _ _ _); exact bodyPost_ret (results_box rfl _ _ _ _ rfl (G1.setCells _)) rfl ⟨rfl, below_setCells B0 G1 _ (Nat.le_refl _)⟩))
theorem tlower_any (A : Option Addr) (cap : Nat) (l : List Ts) (i : Int) (w : World) (hR : Row w A cap l) (hi : in64 i) :
  Calls Tryz.prog 58 #[.slice A l.length cap, .int .i64 i] w fun e w' => e = .returned (setV (lowerF l i)) ∧ Below w.heap.size w w' := by
 have b1 := zero_box w
 have hb := (Below.refl w.heap.size w).alloc (Nat.le_refl _) (.cells #[.int .u64 0, .int .u64 0, .int .u64 0, .int .u64 0, .int .u64 0, .int .u64 0, .int .u64 0, .int .u64 0, .int .u64 0, .int .u64 0, .int .u64 0, .int .u64 0, .int .u64 0, .int .u64 0, .int .u64 0, .int .u64 0] 82)
 have WH := Lib.hid (fun W hR => where_lower A cap l i W hR hi)
 have ROW := Lib.hid (hR.later hb)
 clear hR
 go_enter Tryz.func58, Tryz.ntmps58
 go_upto_region 1 with (fail)
 generalize w.alloc (.cells #[.int .u64 0, .int .u64 0, .int .u64 0, .int .u64 0, .int .u64 0, .int .u64 0, .int .u64 0, .int .u64 0, .int .u64 0, .int .u64 0, .int .u64 0, .int .u64 0, .int .u64 0, .int .u64 0, .int .u64 0, .int .u64 0] 82) = W1 at *
 go_wp2_with (first
  | (go_at_call 59; (with_reducible refine (WH.out _ ROW.out).mono ?_); rintro e w2 ⟨rfl, h2⟩; have b2 := b1.later h2; have hb2 := hb.trans (h2.mono hb.size))
  | ((with_reducible show wpList _ _ _ (⟨none, Op.store 82 _ _, _, _, _, _⟩ :: _) _ _); refine wpList_store_mid rfl 82 _ _ rfl _ _ (cellsL (lowerF l i)).toArray rfl rfl (b2.there _) (info26' _) (cellsL_all _) ?_)
  | ((with_reducible show bodyPost _ _ _ _ _ _); exact bodyPost_ret (results_box rfl _ _ _ _ rfl (b2.setCells _)) rfl ⟨rfl, below_setCells hb2 b2 _ (Nat.le_refl _)⟩))
end
section
open Go.RowKit Go.Shelf
attribute [local go_sem] Oper.semAt_some
theorem wpIn_named {F : Fence} {n : Nat} {P : Program} {c : Code} {Q : Exit → Act → World → Prop} {a : Act} {w : World} (h : ∀ a', a' = a → Code.wpIn F n P c Q a' w) : Code.wpIn F n P c Q a w := h a rfl
def P1 (B0 : Nat) (T0 : TypeId) (k : Nat) (T : TypeId) : Prop := k ≠ B0 ∨ T ≠ T0
theorem p1_set {B0 : Nat} {T0 : TypeId} {V : World} {v : Value} (h : Boxed V B0 T0 v) (u : Value) : KeepG (P1 B0 T0) V (V.setCell ⟨B0, 0, none⟩ u) :=
 KeepG.setCell u fun cs T fr hc => by
  have : V.heap[B0]? = some (.cells #[v] T0 (0, 0)) := h
  rw [this] at hc
  simp only [Option.some.injEq, Obj.cells.injEq] at hc
  rintro (h | h)
  ·exact h rfl
  ·exact h hc.2.1.symm
theorem boxed_later2 {W W' : World} {b : Nat} {t : TypeId} {v : Value} (h : Boxed W b t v) (hb : Below W.heap.size W W') : Boxed W' b t v := (hb.block b h.lt).trans h
end
section
open Go.RowKit
abbrev TJs : TypeId := 37
abbrev TJb : TypeId := 74
structure PutS (B jb : Nat) (js : List Fv) (W : World) : Prop where
 jb0 : B ≤ jb
 le : js.length ≤ 4096
 is : ∃ A cap gs, Boxed W jb TJs (.slice A js.length cap) ∧ js.length ≤ cap ∧ cap ≤ maxLen ∧ FOwn TJb B W (.slice A js.length cap) gs ∧ gs.map (·.x) = js ∧ gs.length = js.length
theorem boxed_kt {S : List TypeId} {W W' : World} {b : Nat} {T : TypeId} {v : Value} (hk : KT S W W') (h : Boxed W b T v) (hT : T ∉ S) : Boxed W' b T v := hk.blk b _ T h hT
theorem PutS.later {B jb : Nat} {js : List Fv} {W W' : World} (h : PutS B jb js W) (hb : Below W.heap.size W W') : PutS B jb js W' := by
 obtain ⟨A, cap, gs, h1, h2, h3, h4, h5, h6⟩ := h.is
 exact ⟨h.jb0, h.le, A, cap, gs, boxed_later2 h1 hb, h2, h3, h4.later hb, h5, h6⟩
theorem box_int {w : World} {b i : Nat} {T : TypeId} {v : Value} {x : Int} (h : Boxed w b T v) (hv : ∀ x, v ≠ .int .i64 x) : w.cell? ⟨b, i, none⟩ ≠ some (.int .i64 x) := by
 have h' : w.heap[b]? = some (.cells #[v] T (0, 0)) := h
 cases i with
 | zero => simp only [World.cell?, h']; intro e; exact hv x (by simpa using e)
 | succ i => simp [World.cell?, h']
theorem GOk.setB {e : TypeId} {B jb : Nat} {w : World} {g : Gv} {T : TypeId} {v : Value} (h : GOk e B w g) (hb : Boxed w jb T v) (hv : ∀ x, v ≠ .int .i64 x) (u : Value) : GOk e B (w.setCell ⟨jb, 0, none⟩ u) g := by
 have hne : ∀ (i : Nat) (x : Int), g.x.c[i]? = some x → ∀ (b o : Nat), g.A = some ⟨b, o, none⟩ → b ≠ jb := by
  rintro i x hx b o hA rfl
  obtain ⟨b', o', hA', hc⟩ := h.s.at_ i x hx
  rw [hA] at hA'
  cases hA'
  exact box_int hb hv hc
 refine ⟨h.wf, ⟨h.s.le, h.s.mx, h.s.wf, fun i x hx => ?_⟩, fun hc a ha => ?_⟩
 ·obtain ⟨b, o, hA, hcl⟩ := h.s.at_ i x hx
  exact ⟨b, o, hA, (World.cell?_of_block (w := w) (a := ⟨b, o + i, none⟩) (heap_setCell_other w ⟨jb, 0, none⟩ b u (hne i x hx b o hA))).trans hcl⟩
 ·rcases h.safe hc a ha with h1 | ⟨cs, T', fr, h1, h2⟩
  ·exact .inl h1
  ·obtain ⟨b, o, x, hA, hx, _, _, _⟩ := h.s.get (k := 0) (by rcases Nat.eq_zero_or_pos g.x.c.length with h0 | h0; exact absurd (List.length_eq_zero_iff.1 h0) hc; exact h0)
   rw [ha] at hA
   cases hA
   exact .inr ⟨cs, T', fr, (heap_setCell_other w ⟨jb, 0, none⟩ b u (hne 0 x hx b o ha)).trans h1, h2⟩
theorem FOwn.setB {e : TypeId} {B jb : Nat} {w : World} {v v0 : Value} {gs : List Gv} {T : TypeId} (h : FOwn e B w v gs) (hb : Boxed w jb T v0) (hv : ∀ x, v0 ≠ .int .i64 x) (hT : T ≠ e) (u : Value) : FOwn e B (w.setCell ⟨jb, 0, none⟩ u) v gs :=
 ⟨((Kept.refl [jb] w).set jb 0 u (by simp)).row h.row (fun g hg hm => own_ne h.row (b := jb) hb hT (by rw [List.mem_singleton] at hm; rw [hg, hm])), fun g hg => (h.each g hg).setB hb hv u⟩
def PJ (B : Nat) (k : Nat) (T : TypeId) : Prop := (T ≠ TJs ∧ T ≠ TJb) ∨ k < B
theorem put_fin {B jb n cap cap' : Nat} {W w4 : World} {A A' : Option Addr} {gs : List Gv} {g : Gv} {o : Obj} (hjb : B ≤ jb) (hb : Boxed W jb TJs (.slice A n cap)) (hO : FOwn TJb B W (.slice A n cap) gs) (hG : GOk TJb B W g) (h6 : gs.length = n) (hB : B ≤ W.heap.size)
  (hown : w4.ownsRow B TJb 5 (.slice A' (n + 1) cap') (n + 1) (gvC gs ++ fvL g.x g.A g.cap)) (hgr : (W.alloc o).grownBy w4 (Value.slice A n cap).ownBlock) :
  Boxed w4 jb TJs (.slice A n cap) ∧ Below B W (w4.setCell ⟨jb, 0, none⟩ (.slice A' (n + 1) cap')) ∧ KT [TJs, TJb] W (w4.setCell ⟨jb, 0, none⟩ (.slice A' (n + 1) cap')) ∧ Boxed (w4.setCell ⟨jb, 0, none⟩ (.slice A' (n + 1) cap')) jb TJs (.slice A' (n + 1) cap') ∧ FOwn TJb B (w4.setCell ⟨jb, 0, none⟩ (.slice A' (n + 1) cap')) (.slice A' (n + 1) cap') (gs ++ [g]) ∧ KeepsOthers W (w4.setCell ⟨jb, 0, none⟩ (.slice A' (n + 1) cap')) ∧ KeepG (PJ B) W (w4.setCell ⟨jb, 0, none⟩ (.slice A' (n + 1) cap')) := by
 have hBa : Below W.heap.size W (W.alloc o) := (Below.refl _ _).alloc (Nat.le_refl _) _
 have hb2 : Boxed (W.alloc o) jb TJs (.slice A n cap) := boxed_later2 hb hBa
 have hO2 := hO.later hBa
 have hG2 : GOk TJb B (W.alloc o) g := hG.kept fun b hl _ => hBa.block b hl
 have hb4 : Boxed w4 jb TJs (.slice A n cap) := (hgr.block jb hb2.lt (fun h => own_ne hO2.row (b := jb) hb2 (by decide) h.symm)).trans hb2
 have hO4 : FOwn TJb B w4 (.slice A' (n + 1) cap') (gs ++ [g]) := hO2.push hG2 (by rw [h6]; exact hown) hgr
 have hBel : Below B W w4 := (hBa.mono hB).grown hgr (by simp; omega) (fun k hk => (hO2.row.lt k hk).1)
 refine ⟨hb4, hBel.setCell (p := ⟨jb, 0, none⟩) hjb _, ?_, Boxed.set _ hb4, hO4.setB hb4 (fun x h => by cases h) (by decide) _, ?_, ?_⟩
 ·refine KT.trans (w' := w4) ?_ (KT.set hb4 (by simp))
  refine (KT.of hBa).trans ⟨hgr.size, fun b cs T hbk hT => (hgr.block b (Array.getElem?_eq_some_iff.1 hbk).1 (fun h => ?_)).trans hbk⟩
  exact own_ne hO2.row (b := b) hbk (fun e => hT (by rw [e]; simp)) h.symm
 ·refine ((KeepsOthers.alloc _ _).trans (KeepsOthers.of_grownBy hgr fun j o' hj ho => ?_)).trans (KeepsOthers.setCell _ _ _)
  rcases hO2.row.2 with ⟨hv, _⟩ | ⟨g', cap'', cur, hv, _, hh, _⟩
  ·rw [hv] at hj; simp [Value.ownBlock] at hj
  ·rw [hv] at hj
   simp only [Value.ownBlock, Option.some.injEq] at hj
   subst hj
   rw [hh] at ho
   cases ho
   rfl
 ·refine ((KeepG.below hBa).trans (B := W.alloc o) ⟨hgr.size, fun k cs T fr hP hk => (hgr.block k (Array.getElem?_eq_some_iff.1 hk).1 (fun h => ?_)).trans hk⟩).trans (KeepG.setCell _ fun cs T fr hc hP => ?_)
  ·rcases hP with hP | hP
   ·exact own_ne hO2.row (b := k) hk hP.2 h.symm
   ·have := (hO2.row.lt k h.symm).1; omega
  ·have hc' : w4.heap[jb]? = some (.cells #[.slice A n cap] TJs (0, 0)) := hb4
   rw [hc'] at hc
   simp only [Option.some.injEq, Obj.cells.injEq] at hc
   rcases hP with hP | hP
   ·exact hP.1 hc.2.1.symm
   ·exact absurd hP (by show ¬ jb < B; omega)
theorem put_full (B jb : Nat) (js : List Fv) (x : Fv) (C : Option Addr) (cc : Nat) (w : World) (h : PutS B jb js w) (hl : js.length = 4096) :
  Calls Tryz.prog 33 #[fvV x C cc, .pointer (some ⟨jb, 0, none⟩)] w fun e w' => e = .returned (.bool false) ∧ Below w.heap.size w w' := by
 obtain ⟨A, cap, gs, h1, h2, h3, h4, h5, h6⟩ := h.is
 rw [hl] at h1
 have B0 := Lib.hid (box_job w x C cc)
 have hb1 := boxed_later2 h1 B0.out
 have c1 := hb1.cell
 clear h h1 h2 h3 h4 h5 h6 hb1
 go_enter Tryz.func33, Tryz.ntmps33
 go_wp2
 go_ret
 exact ⟨rfl, B0.out⟩
theorem put_more (B jb : Nat) (js : List Fv) (x : Fv) (C : Option Addr) (cc : Nat) (w : World) (h : PutS B jb js w) (hg : GOk TJb B w ⟨x, C, cc⟩) (hl : js.length < 4096) :
  Calls Tryz.prog 33 #[fvV x C cc, .pointer (some ⟨jb, 0, none⟩)] w fun e w' => e = .returned (.bool true) ∧ Below B w w' ∧ KT [TJs, TJb] w w' ∧ KeepsOthers w w' ∧ KeepG (PJ B) w w' ∧ PutS B jb (js ++ [x]) w' := by
 obtain ⟨i0, hi, hz0, hz1, hz2⟩ := info_parts infoJs
 obtain ⟨A, cap, gs, h1, h2, h3, h4, h5, h6⟩ := h.is
 have hjb := h.jb0
 have hjl := h1.lt
 obtain ⟨n, hn⟩ : ∃ n, js.length = n := ⟨_, rfl⟩
 rw [hn] at h1 h2 h4 h6 hl
 have B0 := Lib.hid (box_job w x C cc)
 obtain ⟨W, hW⟩ : ∃ W, w.alloc (.cells #[.int .i64 x.t, .int .i64 x.a, .int .i64 x.r, .int .i64 x.k, .slice C x.c.length cc] TJb) = W := ⟨_, rfl⟩
 have hF := FAt.new w x C cc TJb hg.wf hg.s
 have hs1 : W.heap.size = w.heap.size + 1 := by rw [← hW]; simp
 rw [hW] at hF
 have hBW : Below w.heap.size w W := by rw [← hW]; exact B0.out
 have hb1 := boxed_later2 h1 hBW
 have hO := h4.later hBW
 have hgW : GOk TJb B W ⟨x, C, cc⟩ := hg.kept fun b hl _ => hBW.block b hl
 have c1 := hb1.cell
 have f1 := hb1.frozen
 obtain ⟨z0, z1, z2, z3, z4⟩ := hF.z
 have l1 := hF.loadJ
 have hBs : B ≤ w.heap.size := by omega
 have hN : decide ((n : Int) = 4096) = false := decide_eq_false (by omega)
 have hN2 : ((n : Int) == 4096) = false := by simp; omega
 have HB1 := Lib.hid hb1
 have HO := Lib.hid hO
 have HG := Lib.hid hgW
 have HBW := Lib.hid hBW
 have H5 := Lib.hid h5
 have H6 := Lib.hid h6
 have HN := Lib.hid hn
 have HFN := Lib.hid (fun (V : World) => FAt.new V x C cc TJb hg.wf)
 have HGS := Lib.hid hg.s
 clear h h1 h2 h4 h5 h6 hb1 hO hgW hF hg B0 hn
 go_enter Tryz.func33, Tryz.ntmps33
 go_upto_region 1 with (fail)
 have HS1 := Lib.hid hs1
 clear hW hs1
 go_upto_region 3 with (fail)
 go_wp2_with (at_builtin; refine wpList_append_own _ rfl _ _ 37 rfl B 74 i0 _ 5 56 Tryz.underlying37 hi hz0 hz1 hz2 rfl (by decide) _ n (gvC gs) rfl (by have := HO.out.row; rw [H6.out] at this; exact this.alloc _) ⟨W.heap.size, 0, none⟩ 1 1 (fvL x C cc) rfl rfl (by intro j u hj; rw [add_none, Nat.zero_add, cell_of_row _ _ j _ _ _ (heap_alloc_new W _)]; simpa [fvL] using hj) (fvL_one _ _ _) (by unfold maxLen; omega) (by omega) (by have := HBW.out.size; simp; omega) ?_; intro v' w4 hown' hgrow hnil'; obtain ⟨A', cap', rfl, hle', hmx'⟩ := own_len hown'; obtain ⟨q1, q2, q3, q4, q5, q6, q7⟩ := put_fin hjb HB1.out HO.out HG.out H6.out (by have := HBW.out.size; omega) hown' hgrow; have c4 := q1.cell; have f4 := q1.frozen; have Q2 := Lib.hid q2; have Q3 := Lib.hid q3; have Q4 := Lib.hid q4; have Q5 := Lib.hid q5; have Q6 := Lib.hid q6; have Q7 := Lib.hid q7; clear q1 q2 q3 q4 q5 q6 q7 hown' hgrow hnil')
 go_ret
 refine ⟨rfl, (HBW.out.mono hBs).trans Q2.out, (KT.of HBW.out).trans Q3.out, KeepsOthers.trans ⟨HBW.out.size, fun k o hk ho => (HBW.out.block k (Array.getElem?_eq_some_iff.1 hk).1).trans hk⟩ Q6.out, (KeepG.below HBW.out).trans Q7.out, ?_⟩
 have hln : (js ++ [x]).length = n + 1 := by rw [List.length_append, HN.out]; rfl
 refine ⟨hjb, by omega, A', cap', gs ++ [⟨x, C, cc⟩], ?_, by omega, hmx', ?_, ?_, ?_⟩
 ·rw [hln]; exact Q4.out
 ·rw [hln]; exact Q5.out
 ·rw [List.map_append, H5.out]; rfl
 ·rw [hln, List.length_append, H6.out]; rfl
end
end Go.Proofs.YthfkbbiaemmndaaGreatDoor
