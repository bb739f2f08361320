/- Texts about the program, one after the other: EFin, DRef. -/
import Derived.WalkKit
import Derived.ProofKit
import Derived.Handy
import Derived.Lib.Hide
import Derived.Deep.MidRow
import Derived.Deep.QuietTactic
import Derived.BigQuiet
import Derived.Deep.RegionHeld3
import Derived.Laws.Externs
import Derived.RangeFuncBox
import Derived.Deep.CutBlock
import Derived.Deep.LoopGhost
import Derived.WalkMore
import Derived.Below
import Derived.LaidMore
import Derived.Laws.AppendOwn
import Derived.Laws.CopyOwn
import Derived.IntWalk
import Derived.OwnWalk
import Derived.Deep.RegionLaw
import Derived.BigRegion
import Derived.Deep.DrawnRows
import Derived.Deep.Quiet
import Derived.Deep.RegionHeldLaw
import Derived.LoopIn
import Derived.LoopNIn
import Derived.TacticsInMore
import Derived.OwnWalkIn
import Derived.RangeFuncNested
import Derived.RangeFuncBound
import Derived.RangeFuncCalls
import Derived.RangeFuncLeaves
import Derived.RangeFuncWrites
import Derived.Shelf.Abstract
import Derived.StillTailTactics
import Derived.Lib.SliceRun
import Derived.Deep.AppendSrc
import Derived.Deep.Upon
import Derived.Deep.DeepAppendWide
import Derived.OrdersIn
import Derived.Sort.LoopGhostIn
import Derived.Laws.OwnMore
import Derived.Laws.BytesString
import Derived.RangeFuncRecord
import Derived.MapKept
import Derived.Shelf.Small.Bits
import Derived.Shelf.Small.Strs
import Derived.Shelf.Small.Wraps
import Derived.Shelf.Strconv.Itoa0
import Derived.Shelf.LaysM
import Derived.Shelf.Strconv.Clone
import Derived.Shelf.Strings.Search1
import Derived.Shelf.Bits.Mul64
import Derived.Ground.Names2Prog
import Derived.Shelf.Slices.SearchI
import Derived.ChangeOld
import Derived.OpenShut
import Derived.Maps.AppendAt
import Derived.Test.YthfkbbiaemmndaaGreatDoorRows
import Derived.Test.YthfkbbiaemmndaaGreatDoorProg
import Derived.Deep.CutRange
import Derived.Laws.AppendOwnNone
import Derived.Test.YthfkbbiaemmndaaGreatDoorG4
import Derived.Test.YthfkbbiaemmndaaGreatDoorG5
import Derived.Test.YthfkbbiaemmndaaGreatDoorG6
import Derived.Test.YthfkbbiaemmndaaGreatDoorG7
import Derived.Test.YthfkbbiaemmndaaGreatDoorG8
import Derived.Test.YthfkbbiaemmndaaGreatDoorG9
import Derived.Test.YthfkbbiaemmndaaGreatDoorG27
set_option linter.unusedVariables false
set_option linter.unusedSimpArgs false
set_option maxRecDepth 100000
set_option maxHeartbeats 16000000
namespace Go.Proofs.YthfkbbiaemmndaaGreatDoor
section
section
variable {ts : List Ts} {js : List Fv}
theorem done_by (hl : Lg js) (R : Nat) (hR : ∀ i, i < js.length → (jb js i).r ≤ R) : ∀ m : Nat, (∀ i, i < js.length → kO (tst ts js (R + m)).dn i = (jb js i).k) ∨ (m : Int) ≤ (tst ts js (R + m)).dn.sum
 | 0 => by
   right
   have hI := ti_all (ts := ts) hl R
   have := sum_le (List.replicate js.length 0) (tst ts js R).dn (by simp [hI.ld]) (fun i hi => by
    have hi' : i < js.length := by simpa using hi
    rw [kO_rep _ _ _ hi']
    exact (hI.d0 i hi').1)
   simpa using this
 | m + 1 => by
   have hI := ti_all (ts := ts) hl (R + m)
   rcases done_by hl R hR m with h | h
   ·left
    have := (run_done hl h 1).1
    intro i hi
    rw [← Nat.add_assoc, this]
    exact h i hi
   ·by_cases hd : ∀ i, i < js.length → kO (tst ts js (R + m)).dn i = (jb js i).k
    ·left
     have := (run_done hl hd 1).1
     intro i hi
     rw [← Nat.add_assoc, this]
     exact hd i hi
    ·right
     rw [← Nat.add_assoc, tst_succ]
     cases hw : whoS ts js (tst ts js (R + m)) ((R + m : Nat) : Int) with
     | none =>
       exfalso
       apply hd
       intro i hi
       exact not_rdy (hI.d0 i hi).2 (hI.who_none hl hw i hi) (by have := hR i hi; omega)
     | some i =>
       rw [tstep_some hw]
       simp only [runM]
       rw [sum_set _ _ _ (by rw [hI.ld]; exact (hI.who_some hl hw).1)]
       omega
theorem done_at (hl : Lg js) (R S : Nat) (hR : ∀ i, i < js.length → (jb js i).r ≤ R) (hS : (js.map (·.k)).sum ≤ S) : ∀ i, i < js.length → kO (tst ts js (R + (S + 1))).dn i = (jb js i).k := by
 rcases done_by (ts := ts) hl R hR (S + 1) with h | h
 ·exact h
 ·exfalso
  have hI := ti_all (ts := ts) hl (R + (S + 1))
  have h2 := sum_le (tst ts js (R + (S + 1))).dn (js.map (·.k)) (by rw [hI.ld, List.length_map]) (fun i hi => by
   have hi' : i < js.length := by rw [← hI.ld]; exact hi
   have := (hI.d0 i hi').2
   have e : kO (js.map (·.k)) i = (jb js i).k := by simp [kO, jb, hi']
   omega)
  omega
theorem done_later (hl : Lg js) {a b : Nat} (hab : a ≤ b) (h : ∀ i, i < js.length → kO (tst ts js a).dn i = (jb js i).k) : (tst ts js b).dn = (tst ts js a).dn ∧ (tst ts js b).sp = (tst ts js a).sp ∧ (tst ts js b).en = (tst ts js a).en := by
 have := run_done (ts := ts) hl h (b - a)
 rwa [show a + (b - a) = b by omega] at this
end
end
section
open Go.RowKit
theorem got_fieldD (a q : Int) (w : World) : (Instr.field 103 (.agg #[.int .i64 a, .int .i64 q]) 1).run Tryz.prog w = .ok (.int .i64 q) w := by rfl
theorem ris_any (A : Option Addr) (cap : Nat) (l : List Ts) (i : Int) (w : World) (hR : Row w A cap l) (hi : in64 i) :
  Calls Tryz.prog 46 #[.slice A l.length cap, .int .i64 i] w fun e w' => e = .returned (.bool (isB l i)) ∧ Below w.heap.size w w' := by
 have K := Lib.hid (rcheckAll_any A cap l w hR)
 have HE : Hid (isB l i = (decide ((chkAll l).2 = 0) && (decide (0 ≤ i) && decide (i < (l.length : Int))))) := Lib.hid rfl
 have hmx := Nat.le_trans hR.le hR.mx
 have hgf := got_fieldD
 generalize isB l i = b at *
 generalize (chkAll l).1 = a at *
 generalize (chkAll l).2 = ce at *
 generalize l.length = N at *
 clear hR
 by_cases h1 : ce = 0
 ·subst h1
  by_cases h2 : 0 ≤ i
  ·have u2 : decide (i ≥ 0) = true := decide_eq_true h2
   by_cases h3 : i < (N : Int)
   ·have u3 : decide (i < (N : Int)) = true := decide_eq_true h3
    have HB : Hid (b = true) := Lib.hid (by rw [HE.out, decide_eq_true h2, u3]; rfl)
    go_enter Tryz.func46, Tryz.ntmps46
    go_wp2_with (go_at_call 49; (with_reducible refine K.out.mono ?_); rintro e w1 ⟨rfl, h⟩)
    go_ret
    exact ⟨by rw [HB.out]; rfl, h⟩
   ·have u3 : decide (i < (N : Int)) = false := decide_eq_false h3
    have HB : Hid (b = false) := Lib.hid (by rw [HE.out, u3]; simp)
    go_enter Tryz.func46, Tryz.ntmps46
    go_wp2_with (go_at_call 49; (with_reducible refine K.out.mono ?_); rintro e w1 ⟨rfl, h⟩)
    go_ret
    exact ⟨by rw [HB.out]; rfl, h⟩
  ·have u2 : decide (i ≥ 0) = false := decide_eq_false h2
   have u2' : decide (0 ≤ i) = false := decide_eq_false h2
   have HB : Hid (b = false) := Lib.hid (by rw [HE.out, u2']; simp)
   go_enter Tryz.func46, Tryz.ntmps46
   go_wp2_with (go_at_call 49; (with_reducible refine K.out.mono ?_); rintro e w1 ⟨rfl, h⟩)
   go_ret
   exact ⟨by rw [HB.out]; rfl, h⟩
 ·have u1 : (ce == 0) = false := by simpa using h1
  have HB : Hid (b = false) := Lib.hid (by rw [HE.out, decide_eq_false h1]; rfl)
  go_enter Tryz.func46, Tryz.ntmps46
  go_wp2_with (go_at_call 49; (with_reducible refine K.out.mono ?_); rintro e w1 ⟨rfl, h⟩)
  go_ret
  exact ⟨by rw [HB.out]; rfl, h⟩
end
end Go.Proofs.YthfkbbiaemmndaaGreatDoor
