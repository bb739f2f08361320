/- Texts about the program, one after the other: Row, Spec, EFin, YRef, YRbk, YRgS. -/
import Derived.Deep.Quiet
import Derived.Deep.MidRow
import Derived.WalkKit
import Derived.ProofKit
import Derived.Handy
import Derived.Lib.Hide
import Derived.Deep.QuietTactic
import Derived.BigQuiet
import Derived.Deep.RegionHeld3
import Derived.Laws.Externs
import Derived.RangeFuncBox
import Derived.Deep.CutBlock
import Derived.RangeFuncNested
import Derived.RangeFuncBound
import Derived.RangeFuncCalls
import Derived.RangeFuncLeaves
import Derived.RangeFuncWrites
import Derived.Shelf.Abstract
import Derived.OwnWalkIn
import Derived.TacticsInMore
import Derived.LoopNIn
import Derived.LoopIn
import Derived.Shelf.Small.Bits
import Derived.Shelf.Small.Strs
import Derived.Shelf.Small.Wraps
import Derived.Shelf.Strconv.Itoa0
import Derived.Shelf.LaysM
import Derived.Shelf.Strconv.Clone
import Derived.Shelf.Strings.Search1
import Derived.Shelf.Bits.Mul64
import Derived.Ground.Names2Prog
import Derived.Shelf.Slices.SearchI
import Derived.Maps.AppendAt
import Derived.Laws.AppendOwn
import Derived.Test.YthfkbbiaemmndaaGreatDoorRows
import Derived.Test.YthfkbbiaemmndaaGreatDoorProg
import Derived.Below
import Derived.ChangeOld
import Derived.OpenShut
import Derived.LaidMore
import Derived.Deep.LoopGhost
import Derived.WalkMore
import Derived.Laws.CopyOwn
import Derived.IntWalk
import Derived.OwnWalk
import Derived.Deep.RegionLaw
import Derived.BigRegion
import Derived.Deep.DrawnRows
import Derived.Deep.RegionHeldLaw
import Derived.StillTailTactics
import Derived.Lib.SliceRun
import Derived.Deep.AppendSrc
import Derived.Deep.Upon
import Derived.Deep.DeepAppendWide
import Derived.OrdersIn
import Derived.Sort.LoopGhostIn
import Derived.Laws.OwnMore
import Derived.Laws.BytesString
import Derived.RangeFuncRecord
import Derived.MapKept
import Derived.Deep.CutRange
import Derived.Laws.ShiftsVarLaws
import Derived.Outline
import Derived.Laws.Bits128
import Derived.Deep.RegionWith
import Derived.Shelf.RegionOpen
import Derived.Laws.AppendOwnNone
import Derived.Stop.RegionWithIn
import Derived.Deep.RegionHeld
import Derived.Test.YthfkbbiaemmndaaGreatDoorG4
import Derived.Test.YthfkbbiaemmndaaGreatDoorG5
import Derived.Test.YthfkbbiaemmndaaGreatDoorG6
import Derived.Test.YthfkbbiaemmndaaGreatDoorG7
import Derived.Test.YthfkbbiaemmndaaGreatDoorG8
import Derived.Test.YthfkbbiaemmndaaGreatDoorG9
import Derived.Test.YthfkbbiaemmndaaGreatDoorG10
import Derived.Test.YthfkbbiaemmndaaGreatDoorG11
import Derived.Test.YthfkbbiaemmndaaGreatDoorG12
import Derived.Test.YthfkbbiaemmndaaGreatDoorG13
import Derived.Test.YthfkbbiaemmndaaGreatDoorG14
import Derived.Test.YthfkbbiaemmndaaGreatDoorG28
import Derived.Test.YthfkbbiaemmndaaGreatDoorG30
set_option linter.unusedVariables false
set_option linter.unusedSimpArgs false
set_option maxRecDepth 100000
set_option maxHeartbeats 16000000
namespace Go.Proofs.YthfkbbiaemmndaaGreatDoor
section
open Go.RowKit
theorem lt_drew (W : World) : Lt W W.drew := below_drew W
end
section
open Go.RowKit
section
open Go.ChangeShapes Go.WideShapes Go.ChangeAt
variable {H : Type} {enc : TypeId × Value → H} {W : World} {base : Nat} {sp : Nat → Bool} {hd : Bool}
theorem read_tasks {fuel : Nat} {v : Value} {y : DataW H × List MemPlace} (h : DataW.trod enc Tryz.prog W base sp hd fuel 23 [v] = some y) :
  ∃ A cap l, v = .slice A l.length cap ∧ Row W A cap l := by
 rcases DataW.trod_slice Tryz.underlying23 h with ⟨hcs, _⟩ | ⟨a, len, cap, elems, rest, n, _, hcs, _, _, hl', hm, hlen, hel, _, _⟩
 ·obtain rfl : v = .slice none 0 0 := by simpa using hcs
  exact ⟨none, 0, [], rfl, Row.nil _ _ (by omega)⟩
 ·obtain rfl : v = .slice (some a) len cap := by simpa using hcs
  have c7 : Tryz.prog.cellsOf 26 = 7 := by kernel_rfl
  rw [c7] at hel
  unfold maxLen at hm
  rcases Nat.eq_zero_or_pos len with h0 | h0
  ·subst h0
   exact ⟨_, cap, [], rfl, Row.nil _ _ hm⟩
  have hsp := slice_spot hlen h0 (by omega) hel
  obtain ⟨ab, ao, asp⟩ := a
  obtain rfl : asp = none := by injection hsp
  clear hsp
  have key : ∀ i, i < len → ∃ x : Ts, TsW x ∧ TAt W ab (ao + i * 7) x := by
   intro i hi
   have h1 := hel i hi
   have ci : Tryz.prog.cellsOf 3 = 1 := by kernel_rfl
   have ch : Tryz.prog.cellsOf 2 = 1 := by kernel_rfl
   have cs : Tryz.prog.cellsOf 9 = 1 := by kernel_rfl
   rw [List.getElem?_eq_getElem (by omega)] at h1
   obtain ⟨cl, hcs2, ht⟩ := Option.bind_eq_some_iff.1 h1
   obtain ⟨_, hcl, hat⟩ := World.cells?_some hcs2
   obtain ⟨ys, n', _, _, _, hyl, hf⟩ := DataW.trod_struct Tryz.underlying26 ht
   match cl, hcl, hat, hf with
   | [v0, v1, v2, v3, v4, v5, v6], _, hat, hf =>
     have g0 : DataW.trod enc Tryz.prog W base sp hd n' 9 [v0] = ys[0]? := by
      have e : DataW.trod enc Tryz.prog W base sp hd n' 9 (([v0, v1, v2, v3, v4, v5, v6].drop 0).take (Tryz.prog.cellsOf 9)) = ys[0]? := hf 0 _ rfl
      rw [cs] at e
      exact e
     have g1 : DataW.trod enc Tryz.prog W base sp hd n' 2 [v1] = ys[1]? := by
      have e : DataW.trod enc Tryz.prog W base sp hd n' 2 (([v0, v1, v2, v3, v4, v5, v6].drop 1).take (Tryz.prog.cellsOf 2)) = ys[1]? := hf 1 _ rfl
      rw [ch] at e
      exact e
     have g2 : DataW.trod enc Tryz.prog W base sp hd n' 2 [v2] = ys[2]? := by
      have e : DataW.trod enc Tryz.prog W base sp hd n' 2 (([v0, v1, v2, v3, v4, v5, v6].drop 2).take (Tryz.prog.cellsOf 2)) = ys[2]? := hf 2 _ rfl
      rw [ch] at e
      exact e
     have g3 : DataW.trod enc Tryz.prog W base sp hd n' 2 [v3] = ys[3]? := by
      have e : DataW.trod enc Tryz.prog W base sp hd n' 2 (([v0, v1, v2, v3, v4, v5, v6].drop 3).take (Tryz.prog.cellsOf 2)) = ys[3]? := hf 3 _ rfl
      rw [ch] at e
      exact e
     have g4 : DataW.trod enc Tryz.prog W base sp hd n' 2 [v4] = ys[4]? := by
      have e : DataW.trod enc Tryz.prog W base sp hd n' 2 (([v0, v1, v2, v3, v4, v5, v6].drop 4).take (Tryz.prog.cellsOf 2)) = ys[4]? := hf 4 _ rfl
      rw [ch] at e
      exact e
     have g5 : DataW.trod enc Tryz.prog W base sp hd n' 2 [v5] = ys[5]? := by
      have e : DataW.trod enc Tryz.prog W base sp hd n' 2 (([v0, v1, v2, v3, v4, v5, v6].drop 5).take (Tryz.prog.cellsOf 2)) = ys[5]? := hf 5 _ rfl
      rw [ch] at e
      exact e
     have g6 : DataW.trod enc Tryz.prog W base sp hd n' 3 [v6] = ys[6]? := by
      have e : DataW.trod enc Tryz.prog W base sp hd n' 3 (([v0, v1, v2, v3, v4, v5, v6].drop 6).take (Tryz.prog.cellsOf 3)) = ys[6]? := hf 6 _ rfl
      rw [ci] at e
      exact e
     have hy7 : ys.length = 7 := hyl
     rw [List.getElem?_eq_getElem (by omega)] at g0 g1 g2 g3 g4 g5 g6
     obtain ⟨z0, e0, _, w0⟩ := DataW.trod_string Tryz.underlying9 g0
     obtain ⟨z1, e1, _, w1⟩ := DataW.trod_int Tryz.underlying2 g1
     obtain ⟨z2, e2, _, w2⟩ := DataW.trod_int Tryz.underlying2 g2
     obtain ⟨z3, e3, _, w3⟩ := DataW.trod_int Tryz.underlying2 g3
     obtain ⟨z4, e4, _, w4⟩ := DataW.trod_int Tryz.underlying2 g4
     obtain ⟨z5, e5, _, w5⟩ := DataW.trod_int Tryz.underlying2 g5
     obtain ⟨z6, e6, _, w6⟩ := DataW.trod_int Tryz.underlying3 g6
     obtain rfl : v0 = .string z0 := by simpa using e0
     obtain rfl : v1 = .int .i64 z1 := by simpa using e1
     obtain rfl : v2 = .int .i64 z2 := by simpa using e2
     obtain rfl : v3 = .int .i64 z3 := by simpa using e3
     obtain rfl : v4 = .int .i64 z4 := by simpa using e4
     obtain rfl : v5 = .int .i64 z5 := by simpa using e5
     obtain rfl : v6 = .int .i64 z6 := by simpa using e6
     refine ⟨⟨z0, z1, z2, z3, z4, z5, z6⟩, ⟨by simpa [maxLen] using w0, in64_of w1, in64_of w2, in64_of w3, in64_of w4, in64_of w5, in64_of w6⟩, ⟨fun j u hu => ?_⟩⟩
     have hj : j < 7 := by
      rcases Nat.lt_or_ge j 7 with h | h
      ·exact h
      ·rw [List.getElem?_eq_none (by simp [tsL]; omega)] at hu; cases hu
     have := hat j (by simpa using hj)
     simp only [add_none] at this
     rw [this]
     rw [← hu]
     rfl
  obtain ⟨l, hl, hp⟩ := list_of len key
  subst hl
  refine ⟨some ⟨ab, ao, none⟩, cap, l, rfl, ⟨hl', hm, fun x hx => ?_, fun i x hx => ⟨ab, ao, rfl, (hp i x hx).2⟩⟩⟩
  obtain ⟨i, hi, rfl⟩ := List.getElem_of_mem hx
  exact (hp i _ (List.getElem?_eq_getElem hi)).1
end
end
section
def lftC (js : List Fv) (dn : List Int) : Nat := (List.range js.length).countP fun i => decide (kO dn i < (jb js i).k)
section
variable {ts : List Ts} {js : List Fv}
theorem lftC_zero {dn : List Int} (h0 : ∀ i, i < js.length → kO dn i ≤ (jb js i).k) : lftC js dn = 0 ↔ ∀ i, i < js.length → kO dn i = (jb js i).k := by
 unfold lftC
 rw [List.countP_eq_zero]
 constructor
 ·intro h i hi
  have := h i (List.mem_range.2 hi)
  have := h0 i hi
  simp at *
  omega
 ·intro h i hi
  have := h i (List.mem_range.1 hi)
  simp; omega
theorem countP_one (f g : Nat → Bool) (i : Nat) : ∀ l : List Nat, l.Nodup → i ∈ l → f i = true → g i = false → (∀ j, j ≠ i → g j = f j) → l.countP f = l.countP g + 1
 | [], _, h, _, _, _ => by simp at h
 | a :: l, hn, h, hf, hg, he => by
   have hnd := List.nodup_cons.1 hn
   by_cases ha : a = i
   ·subst ha
    rw [List.countP_cons_of_pos hf, List.countP_cons_of_neg (by simp [hg])]
    congr 1
    refine List.countP_congr fun j hj => ?_
    rw [he j (fun e => hnd.1 (by rw [← e]; exact hj))]
   ·have hi : i ∈ l := by
     rcases List.mem_cons.1 h with h | h
     ·exact absurd h.symm ha
     ·exact h
    have := countP_one f g i l hnd.2 hi hf hg he
    rw [List.countP_cons, List.countP_cons, he a ha, this]
    omega
theorem lftC_set {dn : List Int} {i : Nat} {v : Int} (hl : dn.length = js.length) (hi : i < js.length) (hk : kO dn i < (jb js i).k) : lftC js (dn.set i v) + (if v < (jb js i).k then 0 else 1) = lftC js dn := by
 unfold lftC
 by_cases hv : v < (jb js i).k
 ·rw [if_pos hv]
  refine List.countP_congr fun j hj => ?_
  rw [kO_set _ _ (by omega)]
  by_cases e : j = i
  ·subst e; simp [hv, hk]
  ·simp [e]
 ·rw [if_neg hv]
  symm
  refine countP_one _ _ i _ List.nodup_range (List.mem_range.2 hi) (by simp [hk]) ?_ (fun j hj => ?_)
  ·rw [kO_set _ _ (by omega), if_pos rfl]; simp; omega
  ·rw [kO_set _ _ (by omega), if_neg hj]
theorem lftC_init (hl : Lg js) : lftC js (tst ts js 0).dn = js.length := by
 unfold lftC
 rw [List.countP_eq_length.2]
 ·simp
 ·intro i hi
  have hi := List.mem_range.1 hi
  have := hl.k1 i hi
  have e : kO (tst ts js 0).dn i = 0 := kO_rep _ _ _ hi
  exact decide_eq_true (by rw [e]; omega)
end
end
section
open Go.RowKit
def stF (ts : List Ts) (i : Int) (n : Nat) : Int := ((List.range n).filter (hpB ts i)).foldl (fun (m : Int) (k : Nat) => max m (tk ts (k : Int)).j) (tk ts i).j
theorem stF_step (ts : List Ts) (i : Int) (n : Nat) : stF ts i (n + 1) = if hpB ts i n then max (stF ts i n) (tk ts (n : Int)).j else stF ts i n := by
 unfold stF
 rw [List.range_succ, List.filter_append, List.foldl_append]
 cases h : hpB ts i n
 ·rw [List.filter_cons_of_neg (by simp [h])]; rfl
 ·rw [List.filter_cons_of_pos h]; rfl
theorem stF_bd {ts : List Ts} (hv : Vs ts) (i : Int) (n : Nat) : 0 ≤ stF ts i n ∧ stF ts i n ≤ 2147483647 := by
 have h := fold_jb (ts := ts) hv ((List.range n).filter (hpB ts i)) (tk ts i).j (hv.tk i).j1
 have h2 := (fold_j (ts := ts) ((List.range n).filter (hpB ts i)) (tk ts i).j).1
 have := (hv.tk i).j0
 unfold stF
 omega
def bkI : Option Nat → Int
 | none => -1
 | some b => (b : Int)
def bkO (ts : List Ts) (i : Int) (n : Nat) : Option Nat := (List.range n).foldl (blk1 ts i) none
theorem bkO_step (ts : List Ts) (i : Int) (n : Nat) : bkO ts i (n + 1) = blk1 ts i (bkO ts i n) n := by
 unfold bkO
 rw [List.range_succ, List.foldl_append]; rfl
theorem rstt_any (A : Option Addr) (cap : Nat) (l : List Ts) (ki : Nat) (y : Ts) (w : World) (hR : Row w A cap l) (hc : (chkAll l).2 = 0) (hy : l[ki]? = some y) :
  Calls Tryz.prog 81 #[.slice A l.length cap, .int .i64 (ki : Int)] w fun e w' => e = .returned (.int .i64 (startS l (ki : Int))) ∧ Below w.heap.size w w' := by
 have hki := (List.getElem?_eq_some_iff.1 hy).1
 have hv := vs_of hc
 have hvl := hv.n1
 have K0 := ris_any A cap l (ki : Int) w hR ⟨by omega, by omega⟩
 rw [isB_at hc hy] at K0
 have K := Lib.hid K0
 have hle := hR.le
 have hmx := hR.mx
 have ety : tk l (ki : Int) = y := tk_get hy
 show Calls Tryz.prog 81 #[.slice A l.length cap, .int .i64 (ki : Int)] w fun e w' => e = .returned (.int .i64 (1 + stF l (ki : Int) l.length)) ∧ Below w.heap.size w w'
 have HS := Lib.hid (stF_step l (ki : Int))
 have HBD := Lib.hid (fun n => stF_bd hv (ki : Int) n)
 have HS0 : Hid (stF l (ki : Int) 0 = y.j) := Lib.hid (by unfold stF; rw [ety]; rfl)
 have HHP := Lib.hid (fun (k : Nat) (x : Ts) (hx : l[k]? = some x) => (show hpB l (ki : Int) k = decide (x.p < y.p) by unfold hpB; rw [tk_get hx, ety]))
 obtain ⟨b0, o0, y', rfl, hy', _, _, hTy⟩ := hR.get hki
 obtain rfl : y = y' := by rw [hy] at hy'; simpa using hy'
 have HTY := Lib.hid hTy
 have ROW := Lib.hid hR
 clear hR hc hv K0 hy' hTy ety
 generalize hN : l.length = N at *
 have HN := Lib.hid hN
 have HVN := Lib.hid hvl
 clear hN hvl
 have hI0 : (0 : Int) ≤ (ki : Int) := by omega
 have hI1 : (ki : Int) < ((N : Nat) : Int) := by omega
 go_enter Tryz.func81, Tryz.ntmps81
 go_upto_region 4 with (go_at_call 46; (with_reducible refine K.out.mono ?_); rintro e w1 ⟨rfl, h⟩; have HW1 := Lib.hid h; have c4 := (HTY.out.later h).c4; clear h)
 go_wp2
 go_loopw [6, 7] (fun b j wr => ∃ k : Nat, k ≤ N ∧ j = .int .i64 k ∧ b = .int .i64 (stF l (ki : Int) k) ∧ Hid (Lt w wr)) (fun _ j _ => N - (intOf j).toNat)
 case atStart => exact ⟨0, Nat.zero_le _, rfl, by rw [HS0.out], Lib.hid HW1.out⟩
 case round =>
  obtain ⟨k, hk, rfl, rfl, HL⟩ := hrel
  by_cases hlt : k < N
  ·obtain ⟨b', o, x, e, hx, hxw, hbl, hT⟩ := ROW.out.get (k := k) (by rw [HN.out]; exact hlt)
   cases e
   have hTr := hT.later HL.out
   have d4 := hTr.c4
   have d6 := hTr.c6
   have e6 := (HTY.out.later HL.out).c6
   have hi0 : (0 : Int) ≤ (k : Int) := by omega
   have hi1 : (k : Int) < ((N : Nat) : Int) := by omega
   have hst := HS.out k
   rw [HHP.out k x hx, tk_get hx] at hst
   have hbd := HBD.out k
   have hbd1 := HBD.out (k + 1)
   obtain ⟨m, hm⟩ : ∃ m, stF l (ki : Int) k = m := ⟨_, rfl⟩
   obtain ⟨m', hm'⟩ : ∃ m', stF l (ki : Int) (k + 1) = m' := ⟨_, rfl⟩
   rw [hm, hm'] at hst
   rw [hm] at hbd ⊢
   have HM := Lib.hid hm'
   have HII := Lib.hid hlt
   have hw1 : IntKind.i64.wrap ((k : Int) + 1) = (k : Int) + 1 := by have := HVN.out; rw [IntKind.wrap_i64]; omega
   clear hm hm' hbd1 hT hx hxw
   by_cases hp : x.p < y.p
   ·have u1 : decide (x.p < y.p) = true := decide_eq_true hp
    rw [u1, if_pos rfl] at hst
    clear hlt
    go_upto_region 8 with (fail)
    go_quiet (fail)
    go_wp2
    rw [← hst]
    go_roundw
    case rel => exact ⟨k + 1, by have := HII.out; omega, by go_num, by rw [HM.out], Lib.hid (lt_step _ _ HL.out (below_drewN2 _ _))⟩
    case measure => have := HII.out; simp [intOf]; omega
   ·have u1 : decide (x.p < y.p) = false := decide_eq_false hp
    rw [u1, if_neg (by decide)] at hst
    clear hlt
    go_upto_region 8 with (fail)
    go_quiet (fail)
    go_wp2
    rw [← hst]
    go_roundw
    case rel => exact ⟨k + 1, by have := HII.out; omega, by go_num, by rw [HM.out], Lib.hid (lt_step _ _ HL.out (below_drewN2 _ _))⟩
    case measure => have := HII.out; simp [intOf]; omega
  ·obtain rfl : k = N := by omega
   have hbd := HBD.out k
   have e1 : wrap64 (1 + stF l (ki : Int) k) = 1 + stF l (ki : Int) k := IntWalk.wrap64_in _ (by omega)
   go_wp2
   go_ret
   exact ⟨rfl, HL.out⟩
end
section
open Go.RowKit
theorem bkO_lt {ts : List Ts} {i : Int} {n b : Nat} (h : bkO ts i n = some b) : b < n := ((blocker_spec (ts := ts) (i := i) n).2 b h).1
theorem rblk_any (A : Option Addr) (cap : Nat) (l : List Ts) (ki : Nat) (y : Ts) (w : World) (hR : Row w A cap l) (hc : (chkAll l).2 = 0) (hy : l[ki]? = some y) :
  Calls Tryz.prog 82 #[.slice A l.length cap, .int .i64 (ki : Int)] w fun e w' => e = .returned (.int .i64 (bkI (blockerS l (ki : Int)))) ∧ Below w.heap.size w w' := by
 have hki := (List.getElem?_eq_some_iff.1 hy).1
 have hv := vs_of hc
 have hvl := hv.n1
 have K0 := ris_any A cap l (ki : Int) w hR ⟨by omega, by omega⟩
 rw [isB_at hc hy] at K0
 have K := Lib.hid K0
 have hle := hR.le
 have hmx := hR.mx
 have ety : tk l (ki : Int) = y := tk_get hy
 show Calls Tryz.prog 82 #[.slice A l.length cap, .int .i64 (ki : Int)] w fun e w' => e = .returned (.int .i64 (bkI (bkO l (ki : Int) l.length))) ∧ Below w.heap.size w w'
 have HS := Lib.hid (bkO_step l (ki : Int))
 have HLT := Lib.hid (fun n b h => bkO_lt (ts := l) (i := (ki : Int)) (n := n) (b := b) h)
 have HB1 := Lib.hid (fun (best : Option Nat) (k : Nat) (x : Ts) (hx : l[k]? = some x) => (show blk1 l (ki : Int) best k = if (decide (y.p < x.p) && decide (1 < x.q)) && (match best with | none => true | some b => decide ((tk l (b : Int)).q < x.q)) then some k else best by unfold blk1; rw [tk_get hx, ety]; cases best <;> rfl))
 obtain ⟨b0, o0, y', rfl, hy', _, _, hTy⟩ := hR.get hki
 obtain rfl : y = y' := by rw [hy] at hy'; simpa using hy'
 have HTY := Lib.hid hTy
 have ROW := Lib.hid hR
 clear hR hc hv K0 hy' hTy ety
 generalize hN : l.length = N at *
 have HN := Lib.hid hN
 have HVN := Lib.hid hvl
 clear hN hvl
 have hI0 : (0 : Int) ≤ (ki : Int) := by omega
 have hI1 : (ki : Int) < ((N : Nat) : Int) := by omega
 go_enter Tryz.func82, Tryz.ntmps82
 go_wp2_with (go_at_call 46; (with_reducible refine K.out.mono ?_); rintro e w1 ⟨rfl, h⟩; have HW1 := Lib.hid h; clear h)
 go_loopw [6, 7] (fun b j wr => ∃ (k : Nat) (bv : Int), k ≤ N ∧ j = .int .i64 k ∧ b = .int .i64 bv ∧ Hid (bv = bkI (bkO l (ki : Int) k)) ∧ Hid (Lt w wr)) (fun _ j _ => N - (intOf j).toNat)
 case atStart => exact ⟨0, -1, Nat.zero_le _, rfl, rfl, Lib.hid rfl, Lib.hid HW1.out⟩
 case round =>
  obtain ⟨k, bv, hk, rfl, rfl, HBV, HL⟩ := hrel
  by_cases hlt : k < N
  ·obtain ⟨b', o, x, e, hx, hxw, hbl, hT⟩ := ROW.out.get (k := k) (by rw [HN.out]; exact hlt)
   cases e
   have hTr := hT.later HL.out
   have d5 := hTr.c5
   have d6 := hTr.c6
   have e6 := (HTY.out.later HL.out).c6
   have hi0 : (0 : Int) ≤ (k : Int) := by omega
   have hi1 : (k : Int) < ((N : Nat) : Int) := by omega
   have hst := HS.out k
   rw [HB1.out _ k x hx] at hst
   have HII := Lib.hid hlt
   have hw1 : IntKind.i64.wrap ((k : Int) + 1) = (k : Int) + 1 := by have := HVN.out; rw [IntKind.wrap_i64]; omega
   have hb9 := HBV.out
   obtain ⟨best, hbest⟩ : ∃ best, bkO l (ki : Int) k = best := ⟨_, rfl⟩
   rw [hbest] at hst hb9
   have hlb := HLT.out k
   rw [hbest] at hlb
   clear hbest hT hTr hx hxw hlt
   by_cases hp : y.p < x.p
   ·have u1 : decide (x.p > y.p) = true := decide_eq_true hp
    have u1' : decide (y.p < x.p) = true := decide_eq_true hp
    by_cases hq : 1 < x.q
    ·have u2 : decide (x.q > 1) = true := decide_eq_true hq
     have u2' : decide (1 < x.q) = true := decide_eq_true hq
     cases best with
     | none =>
       have u3 : decide (bv < 0) = true := decide_eq_true (by rw [hb9]; decide)
       have HST : Hid (bkO l (ki : Int) (k + 1) = some k) := Lib.hid (by rw [hst, u1', u2']; rfl)
       clear hst hb9 hlb hp hq
       go_upto_region 6 with (fail)
       go_quiet (fail)
       go_wp2
       go_roundw
       case rel => exact ⟨k + 1, (k : Int), by have := HII.out; omega, by go_num, rfl, Lib.hid (by rw [HST.out]; rfl), Lib.hid (lt_step _ _ HL.out (below_drewN2 _ _))⟩
       case measure => have := HII.out; simp [intOf]; omega
     | some b =>
       have hbk := hlb b rfl
       obtain ⟨b2, o2, z, e, hz, _, _, hTz⟩ := ROW.out.get (k := b) (by rw [HN.out]; have := HII.out; omega)
       cases e
       have f5 := (hTz.later HL.out).c5
       obtain rfl : bv = (b : Int) := hb9
       have u3 : decide ((b : Int) < 0) = false := decide_eq_false (by omega)
       have j0 : (0 : Int) ≤ (b : Int) := by omega
       have j1 : (b : Int) < ((N : Nat) : Int) := by have := HII.out; omega
       clear hlb hTz
       by_cases hqq : z.q < x.q
       ·have u4 : decide (x.q > z.q) = true := decide_eq_true hqq
        have u4' : decide (z.q < x.q) = true := decide_eq_true hqq
        have HST : Hid (bkO l (ki : Int) (k + 1) = some k) := Lib.hid (by rw [hst, u1', u2']; show (if decide ((tk l (b : Int)).q < x.q) = true then some k else some b) = some k; rw [tk_get hz, u4', if_pos rfl])
        clear hst hp hq hz hqq hbk
        go_upto_region 6 with (fail)
        go_quiet (fail)
        go_wp2
        go_roundw
        case rel => exact ⟨k + 1, (k : Int), by have := HII.out; omega, by go_num, rfl, Lib.hid (by rw [HST.out]; rfl), Lib.hid (lt_step _ _ HL.out (below_drewN2 _ _))⟩
        case measure => have := HII.out; simp [intOf]; omega
       ·have u4 : decide (x.q > z.q) = false := decide_eq_false hqq
        have u4' : decide (z.q < x.q) = false := decide_eq_false hqq
        have HST : Hid (bkO l (ki : Int) (k + 1) = some b) := Lib.hid (by rw [hst, u1', u2']; show (if decide ((tk l (b : Int)).q < x.q) = true then some k else some b) = some b; rw [tk_get hz, u4', if_neg (by decide)])
        clear hst hp hq hz hqq hbk
        go_upto_region 6 with (fail)
        go_quiet (fail)
        go_wp2
        go_roundw
        case rel => exact ⟨k + 1, (b : Int), by have := HII.out; omega, by go_num, rfl, Lib.hid (by rw [HST.out]; rfl), Lib.hid (lt_step _ _ HL.out (below_drewN2 _ _))⟩
        case measure => have := HII.out; simp [intOf]; omega
    ·have u2 : decide (x.q > 1) = false := decide_eq_false hq
     have u2' : decide (1 < x.q) = false := decide_eq_false hq
     rw [u2', Bool.and_false, Bool.false_and, if_neg (by decide)] at hst
     have HST := Lib.hid hst
     have HB9 := Lib.hid hb9
     clear hst hb9 hlb hp hq
     go_upto_region 6 with (fail)
     go_quiet (fail)
     go_wp2
     go_roundw
     case rel => exact ⟨k + 1, bv, by have := HII.out; omega, by go_num, rfl, Lib.hid (by rw [HST.out]; exact HB9.out), Lib.hid (lt_step _ _ HL.out (below_drewN2 _ _))⟩
     case measure => have := HII.out; simp [intOf]; omega
   ·have u1 : decide (x.p > y.p) = false := decide_eq_false hp
    have u1' : decide (y.p < x.p) = false := decide_eq_false hp
    rw [u1', Bool.false_and, Bool.false_and, if_neg (by decide)] at hst
    have HST := Lib.hid hst
    have HB9 := Lib.hid hb9
    clear hst hb9 hlb hp
    go_upto_region 6 with (fail)
    go_quiet (fail)
    go_wp2
    go_roundw
    case rel => exact ⟨k + 1, bv, by have := HII.out; omega, by go_num, rfl, Lib.hid (by rw [HST.out]; exact HB9.out), Lib.hid (lt_step _ _ HL.out (below_drewN2 _ _))⟩
    case measure => have := HII.out; simp [intOf]; omega
  ·obtain rfl : k = N := by omega
   go_wp2
   go_ret
   exact ⟨by rw [HBV.out]; rfl, HL.out⟩
end
section
open Go.RowKit
abbrev TGo15 : TypeId := 106
def RB0 (rb : Nat) (W : World) : Prop := W.heap[rb]? = some (.cells #[.slice none 0 0, .int .i64 0, .int .i64 0] TGo15 (0, 0))
structure GJ (B gb rb : Nat) (js : List Fv) (a : Int) (W : World) : Prop where
 gB : B ≤ gb
 rn : gb ≠ rb
 rc : RB0 rb W
 is : ∃ A cap gs, W.heap[gb]? = some (.cells #[.slice A js.length cap, .int .i64 a, .int .i64 0] TGo15 (0, 0)) ∧ js.length ≤ cap ∧ cap ≤ maxLen ∧ FOwn TJb B W (.slice A js.length cap) gs ∧ gs.map (·.x) = js ∧ gs.length = js.length ∧ ∀ g ∈ gs, ∀ o, g.A ≠ some ⟨gb, o, none⟩ ∧ g.A ≠ some ⟨rb, o, none⟩
theorem RB0.later {rb : Nat} {W W' : World} (h : RB0 rb W) (hb : Below W.heap.size W W') : RB0 rb W' := (hb.block rb (Array.getElem?_eq_some_iff.1 h).1).trans h
theorem GJ.later {B gb rb : Nat} {js : List Fv} {a : Int} {W W' : World} (h : GJ B gb rb js a W) (hb : Below W.heap.size W W') : GJ B gb rb js a W' := by
 obtain ⟨A, cap, gs, h1, h2, h3, h4, h5, h6, h7⟩ := h.is
 exact ⟨h.gB, h.rn, h.rc.later hb, A, cap, gs, (hb.block gb (Array.getElem?_eq_some_iff.1 h1).1).trans h1, h2, h3, h4.later hb, h5, h6, h7⟩
theorem got_cells {W : World} {gb : Nat} {v0 v1 v2 : Value} {T : TypeId} (h : W.heap[gb]? = some (.cells #[v0, v1, v2] T (0, 0))) : W.cell? ⟨gb, 0, none⟩ = some v0 ∧ W.cell? ⟨gb, 1, none⟩ = some v1 ∧ W.cell? ⟨gb, 2, none⟩ = some v2 ∧ W.frozen? ⟨gb, 0, none⟩ = false ∧ W.frozen? ⟨gb, 1, none⟩ = false ∧ W.frozen? ⟨gb, 2, none⟩ = false := by
 refine ⟨?_, ?_, ?_, ?_, ?_, ?_⟩ <;> simp [World.cell?, World.frozen?, h]
theorem got_set0 {W : World} {gb : Nat} {v0 v1 v2 : Value} {T : TypeId} (h : W.heap[gb]? = some (.cells #[v0, v1, v2] T (0, 0))) (u : Value) : (W.setCell ⟨gb, 0, none⟩ u).heap[gb]? = some (.cells #[u, v1, v2] T (0, 0)) := by
 rw [setCell_eq_setRow W gb 0 _ T (0, 0) u h]
 exact setRow_heap W gb _ _ T _ h
theorem got_set1 {W : World} {gb : Nat} {v0 v1 v2 : Value} {T : TypeId} (h : W.heap[gb]? = some (.cells #[v0, v1, v2] T (0, 0))) (u : Value) : (W.setCell ⟨gb, 1, none⟩ u).heap[gb]? = some (.cells #[v0, u, v2] T (0, 0)) := by
 rw [setCell_eq_setRow W gb 1 _ T (0, 0) u h]
 exact setRow_heap W gb _ _ T _ h
theorem GOk.setG {e : TypeId} {B gb i : Nat} {w : World} {g : Gv} (h : GOk e B w g) (hn : ∀ o, g.A ≠ some ⟨gb, o, none⟩) (u : Value) : GOk e B (w.setCell ⟨gb, i, none⟩ u) g := by
 have hne : ∀ (b o : Nat), g.A = some ⟨b, o, none⟩ → b ≠ gb := by
  rintro b o hA rfl
  exact hn o hA
 refine ⟨h.wf, ⟨h.s.le, h.s.mx, h.s.wf, fun j x hx => ?_⟩, fun hc a ha => ?_⟩
 ·obtain ⟨b, o, hA, hcl⟩ := h.s.at_ j x hx
  exact ⟨b, o, hA, (World.cell?_of_block (w := w) (a := ⟨b, o + j, none⟩) (heap_setCell_other w ⟨gb, i, none⟩ b u (hne b o hA))).trans hcl⟩
 ·rcases h.safe hc a ha with h1 | ⟨cs2, T', fr, h1, h2⟩
  ·exact .inl h1
  ·obtain ⟨b, o, x, hA, hx, _, _, _⟩ := h.s.get (k := 0) (by rcases Nat.eq_zero_or_pos g.x.c.length with h0 | h0; exact absurd (List.length_eq_zero_iff.1 h0) hc; exact h0)
   rw [ha] at hA
   cases hA
   exact .inr ⟨cs2, T', fr, (heap_setCell_other w ⟨gb, i, none⟩ b u (hne b o ha)).trans h1, h2⟩
theorem FOwn.setG {e : TypeId} {B gb i : Nat} {w : World} {v : Value} {gs : List Gv} {T : TypeId} {cs : Array Value} (h : FOwn e B w v gs) (hT : T ≠ e) (hb : w.heap[gb]? = some (.cells cs T (0, 0))) (hn : ∀ g ∈ gs, ∀ o, g.A ≠ some ⟨gb, o, none⟩) (u : Value) : FOwn e B (w.setCell ⟨gb, i, none⟩ u) v gs :=
 ⟨((Kept.refl [gb] w).set gb i u (by simp)).row h.row (fun g hg hm => own_ne h.row (b := gb) hb hT (by rw [List.mem_singleton] at hm; rw [hg, hm])), fun g hg => (h.each g hg).setG (hn g hg) u⟩
theorem gj_fin {B gb rb n cap cap' : Nat} {a : Int} {W w4 : World} {A A' : Option Addr} {js : List Fv} {gs : List Gv} {g : Gv} (hgB : B ≤ gb) (hrn : gb ≠ rb) (hrc : RB0 rb W) (hb : W.heap[gb]? = some (.cells #[.slice A n cap, .int .i64 a, .int .i64 0] TGo15 (0, 0))) (hO : FOwn TJb B W (.slice A n cap) gs) (hG : GOk TJb B W g) (h5 : gs.map (·.x) = js) (h6 : gs.length = n) (h7 : ∀ g ∈ gs, ∀ o, g.A ≠ some ⟨gb, o, none⟩ ∧ g.A ≠ some ⟨rb, o, none⟩) (h8 : ∀ o, g.A ≠ some ⟨gb, o, none⟩ ∧ g.A ≠ some ⟨rb, o, none⟩) (hB : B ≤ W.heap.size) (hle : n + 1 ≤ cap') (hmx : cap' ≤ maxLen)
  (hown : w4.ownsRow B TJb 5 (.slice A' (n + 1) cap') (n + 1) (gvC gs ++ fvL g.x g.A g.cap)) (hgr : W.grownBy w4 (Value.slice A n cap).ownBlock) :
  w4.heap[gb]? = some (.cells #[.slice A n cap, .int .i64 a, .int .i64 0] TGo15 (0, 0)) ∧ Below B W w4 ∧ Below B W (w4.setCell ⟨gb, 0, none⟩ (.slice A' (n + 1) cap')) ∧ GJ B gb rb (js ++ [g.x]) a (w4.setCell ⟨gb, 0, none⟩ (.slice A' (n + 1) cap')) := by
 have hb4 : w4.heap[gb]? = some (.cells #[.slice A n cap, .int .i64 a, .int .i64 0] TGo15 (0, 0)) := (hgr.block gb (Array.getElem?_eq_some_iff.1 hb).1 (fun h => own_ne hO.row (b := gb) hb (by decide) h.symm)).trans hb
 have hO4 : FOwn TJb B w4 (.slice A' (n + 1) cap') (gs ++ [g]) := hO.push hG (by rw [h6]; exact hown) hgr
 have hBel : Below B W w4 := (Below.refl B W).grown hgr hB (fun k hk => (hO.row.lt k hk).1)
 have hb5 := got_set0 hb4 (.slice A' (n + 1) cap')
 have hr4 : RB0 rb w4 := (hgr.block rb (Array.getElem?_eq_some_iff.1 hrc).1 (fun h => own_ne hO.row (b := rb) hrc (by decide) h.symm)).trans hrc
 have hr5 : RB0 rb (w4.setCell ⟨gb, 0, none⟩ (.slice A' (n + 1) cap')) := (heap_setCell_other w4 ⟨gb, 0, none⟩ rb _ (Ne.symm hrn)).trans hr4
 have hl : (js ++ [g.x]).length = n + 1 := by rw [← h5, List.length_append, List.length_map, h6]; rfl
 have h9 : ∀ x ∈ gs ++ [g], ∀ o, x.A ≠ some ⟨gb, o, none⟩ ∧ x.A ≠ some ⟨rb, o, none⟩ := fun x hx => by
  rcases List.mem_append.1 hx with hx | hx
  ·exact h7 x hx
  ·rw [List.mem_singleton.1 hx]; exact h8
 refine ⟨hb4, hBel, hBel.setCell (p := ⟨gb, 0, none⟩) hgB _, hgB, hrn, hr5, A', cap', gs ++ [g], ?_, ?_, hmx, ?_, ?_, ?_, h9⟩
 ·rw [hl]; exact hb5
 ·rw [hl]; exact hle
 ·rw [hl]
  exact hO4.setG (by decide) hb4 (fun g hg o => (h9 g hg o).1) _
 ·rw [List.map_append, h5]; rfl
 ·rw [hl, List.length_append, h6]; rfl
theorem GJ.at1 {B gb rb : Nat} {js : List Fv} {a : Int} {W : World} (h : GJ B gb rb js a W) (u : Int) : GJ B gb rb js u (W.setCell ⟨gb, 1, none⟩ (.int .i64 u)) := by
 obtain ⟨A, cap, gs, h1, h2, h3, h4, h5, h6, h7⟩ := h.is
 exact ⟨h.gB, h.rn, (heap_setCell_other W ⟨gb, 1, none⟩ rb _ (Ne.symm h.rn)).trans h.rc, A, cap, gs, got_set1 h1 _, h2, h3, h4.setG (by decide) h1 (fun g hg o => (h7 g hg o).1) _, h5, h6, h7⟩
def RgC (b q : Nat) (x : Ts) (W : World) : Prop := W.cell? ⟨b, q + 1, none⟩ = some (.int .i64 x.c) ∧ W.cell? ⟨b, q + 4, none⟩ = some (.int .i64 x.j) ∧ W.cell? ⟨b, q + 5, none⟩ = some (.int .i64 x.q)
theorem RgC.of {w V : World} {b o cap n : Nat} {l : List Ts} {x : Ts} (h : Below w.heap.size w V) (hR : Row w (some ⟨b, o, none⟩) cap l) (hx : l[n]? = some x) : RgC b (o + n * 7) x V := by
 obtain ⟨b', o', x', e, hx', _, hl, hT⟩ := hR.get (List.getElem?_eq_some_iff.1 hx).1
 cases e
 obtain rfl : x = x' := by rw [hx] at hx'; simpa using hx'
 have hT2 : TAt V b (o + n * 7) x := ⟨fun j v hv => (h.cell (p := ⟨b, o + n * 7 + j, none⟩) hl).trans (hT.r j v hv)⟩
 exact ⟨hT2.c1, hT2.c4, hT2.c5⟩
structure GX (B gb rb n : Nat) (a : Int) (A : Option Addr) (c : Nat) (gs : List Gv) (W : World) : Prop where
 hr : RB0 rb W
 hc : W.heap[gb]? = some (.cells #[.slice A n c, .int .i64 a, .int .i64 0] TGo15 (0, 0))
 ho : FOwn TJb B W (.slice A n c) gs
theorem GX.later {B gb rb n c : Nat} {a : Int} {A : Option Addr} {gs : List Gv} {W W' : World} (h : GX B gb rb n a A c gs W) (hb : Below W.heap.size W W') : GX B gb rb n a A c gs W' :=
 ⟨h.hr.later hb, (hb.block gb (Array.getElem?_eq_some_iff.1 h.hc).1).trans h.hc, h.ho.later hb⟩
theorem step_append_jb {ops : Array Oper} {o : Oper} {a : Act} {w : World} {K : Act → World → Prop} {Q : Exit → Act → World → Prop} {E : Prop}
  (hg : o.guard = none) (s x : Operand) (hop : o.op = Op.call { callee := Callee.builtin Builtin.append, args := #[s, x], argTypes := #[37, 37] })
  (base : Nat) (v : Value) (n : Nat) (xs : List Value) (hs : a.eval s = v) (hown : w.ownsRow base 74 5 v n xs)
  (ad : Addr) (m c : Nat) (news : List Value) (hx : a.eval x = .slice (some ad) m c) (hn : news.length = m * 5) (hc : ∀ j u, news[j]? = some u → w.cell? (ad.add j) = some u) (h1c : ∀ u ∈ news, u.oneCell' = true)
  (b1 : n + m ≤ 3000000000) (hbase : base ≤ w.heap.size)
  (hK : ∀ v' w', w'.ownsRow base 74 5 v' (n + m) (xs ++ news) → w.grownBy w' v.ownBlock → K (a.put o.dst v') w') :
  if Region.wanted o (yielded ops a.tmps) = true then Oper.wp Tryz.prog o a w K Q else E := by
 have hw : Region.wanted o (yielded ops a.tmps) = true := by simp [Region.wanted, hg]
 obtain ⟨i0, hi, hz0, hz1, hz2⟩ := info_parts infoJs
 rw [if_pos hw]
 obtain ⟨v', w', hrun, r1, r2, _⟩ := run_append_own (P := Tryz.prog) w base 37 o.type 74 i0 _ 5 56 Tryz.underlying37 hi hz0 hz1 hz2 rfl (by omega) v n xs hown ad m c news (by omega) hc h1c (by unfold maxLen; omega) (by omega) hbase
 unfold Oper.wp
 simp [execOp, hop, resolve, invoke, builtin, hs, hx, hrun, Result.andThen]
 exact hK v' w' r1 r2
theorem fv_new (W : World) (x : Fv) (C : Option Addr) (cc : Nat) : ∀ j u, (fvL x C cc)[j]? = some u → (W.alloc (.cells #[.int .i64 x.t, .int .i64 x.a, .int .i64 x.r, .int .i64 x.k, .slice C x.c.length cc] TJb)).cell? ((⟨W.heap.size, 0, none⟩ : Addr).add j) = some u := by
 intro j u hj
 rw [add_none, Nat.zero_add, cell_of_row _ _ j _ _ _ (heap_alloc_new W _)]
 simpa [fvL] using hj
theorem gok_one {B N : Nat} {W : World} {x : Fv} {q : Int} (hx : FvW x) (hc : x.c = [q]) (hq : in64 q) (hb : Boxed W N T64s (.int .i64 q)) : GOk TJb B W ⟨x, some ⟨N, 0, none⟩, 1⟩ := by
 refine ⟨hx, ?_, fun _ a ha => .inr (by cases ha; exact ⟨_, _, _, hb, by decide⟩)⟩
 show CRow W (some ⟨N, 0, none⟩) 1 x.c
 rw [hc]
 exact ⟨by simp, by decide, by intro v hv; rw [List.mem_singleton.1 hv]; exact hq, by
  intro i v hv
  cases i with
  | zero => obtain rfl : q = v := by simpa using hv
            exact ⟨N, 0, rfl, hb.cell⟩
  | succ i => simp at hv⟩
theorem got_set2 {W : World} {gb : Nat} {v0 v1 v2 : Value} {T : TypeId} (h : W.heap[gb]? = some (.cells #[v0, v1, v2] T (0, 0))) (u : Value) : (W.setCell ⟨gb, 2, none⟩ u).heap[gb]? = some (.cells #[v0, v1, u] T (0, 0)) := by
 rw [setCell_eq_setRow W gb 2 _ T (0, 0) u h]
 exact setRow_heap W gb _ _ T _ h
theorem rb_fin {B rb : Nat} {W : World} {v : Value} {gs : List Gv} {x y z : Value} (hB : B ≤ rb) (hr : RB0 rb W) (ho : FOwn TJb B W v gs) (hn : ∀ g ∈ gs, ∀ o, g.A ≠ some ⟨rb, o, none⟩) :
  (((W.setCell ⟨rb, 0, none⟩ x).setCell ⟨rb, 1, none⟩ y).setCell ⟨rb, 2, none⟩ z).heap[rb]? = some (.cells #[x, y, z] TGo15 (0, 0)) ∧ FOwn TJb B (((W.setCell ⟨rb, 0, none⟩ x).setCell ⟨rb, 1, none⟩ y).setCell ⟨rb, 2, none⟩ z) v gs ∧ Below B W (((W.setCell ⟨rb, 0, none⟩ x).setCell ⟨rb, 1, none⟩ y).setCell ⟨rb, 2, none⟩ z) := by
 have h1 := got_set0 hr x
 have h2 := got_set1 h1 y
 have h3 := got_set2 h2 z
 refine ⟨h3, ((ho.setG (by decide) hr hn x).setG (by decide) h1 hn y).setG (by decide) h2 hn z, ?_⟩
 exact (((Below.refl B W).setCell (p := ⟨rb, 0, none⟩) hB x).setCell (p := ⟨rb, 1, none⟩) hB y).setCell (p := ⟨rb, 2, none⟩) hB z
theorem infoG15 : (Tryz.prog.info? TGo15).map (·.size) = some 3 := by kernel_rfl
theorem results_got15 {fn : Func} {p : Tmp} (h : fn.results = #[.cell p TGo15]) (tmps : Array Value) (w : World) (b : Nat) {x y z : Value} (hp : tmps.getD p undef = .pointer (some ⟨b, 0, none⟩)) (hb : w.heap[b]? = some (.cells #[x, y, z] TGo15 (0, 0))) :
  (results fn tmps).run Tryz.prog w = .ok (.agg #[x, y, z]) w :=
 results_cell_row h tmps w b _ _ _ _ hp hb Tryz.underlying106 rfl infoG15
theorem flat_snoc {l : List Ts} {i : Int} {FL : Nat → List Fv} {x : Nat} (h : hpB l i x = true) : ((List.range (x + 1)).filter (hpB l i)).flatMap FL = ((List.range x).filter (hpB l i)).flatMap FL ++ FL x := by
 rw [List.range_succ, List.filter_append, List.filter_cons_of_pos h, List.flatMap_append]
 simp
theorem flat_skip {l : List Ts} {i : Int} {FL : Nat → List Fv} {x : Nat} (h : hpB l i x = false) : ((List.range (x + 1)).filter (hpB l i)).flatMap FL = ((List.range x).filter (hpB l i)).flatMap FL := by
 rw [List.range_succ, List.filter_append, List.filter_cons_of_neg (by simp [h]), List.filter_nil, List.append_nil]
theorem flat_len {l : List Ts} {i : Int} {FL : Nat → List Fv} {BS : List Fv} {x N : Nat} (hx : x < l.length) (h : hpB l i x = true) (hN : (FL x).length = N) : (BS ++ ((List.range x).filter (hpB l i)).flatMap FL).length + N ≤ (BS ++ ((List.range l.length).filter (hpB l i)).flatMap FL).length := by
 have e : List.range l.length = List.range (x + 1) ++ List.range' (x + 1) (l.length - (x + 1)) := by
  have h9 := @List.range'_append 0 (x + 1) (l.length - (x + 1)) 1
  rw [Nat.one_mul, Nat.zero_add, show x + 1 + (l.length - (x + 1)) = l.length by omega] at h9
  rw [List.range_eq_range', List.range_eq_range', h9]
 have h2 := flat_snoc (FL := FL) h
 rw [e, List.filter_append, List.flatMap_append, h2]
 simp only [List.length_append]
 omega
end
end Go.Proofs.YthfkbbiaemmndaaGreatDoor
