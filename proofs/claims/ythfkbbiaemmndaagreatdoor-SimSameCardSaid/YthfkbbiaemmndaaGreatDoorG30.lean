/- Texts about the program, one after the other: Row, DOwn. -/
import Derived.Deep.Quiet
import Derived.Deep.MidRow
import Derived.WalkKit
import Derived.ProofKit
import Derived.Handy
import Derived.Lib.Hide
import Derived.Deep.QuietTactic
import Derived.BigQuiet
import Derived.Deep.RegionHeld3
import Derived.Laws.Externs
import Derived.RangeFuncBox
import Derived.Deep.CutBlock
import Derived.RangeFuncNested
import Derived.RangeFuncBound
import Derived.RangeFuncCalls
import Derived.RangeFuncLeaves
import Derived.RangeFuncWrites
import Derived.Shelf.Abstract
import Derived.OwnWalkIn
import Derived.TacticsInMore
import Derived.LoopNIn
import Derived.LoopIn
import Derived.Shelf.Small.Bits
import Derived.Shelf.Small.Strs
import Derived.Shelf.Small.Wraps
import Derived.Shelf.Strconv.Itoa0
import Derived.Shelf.LaysM
import Derived.Shelf.Strconv.Clone
import Derived.Shelf.Strings.Search1
import Derived.Shelf.Bits.Mul64
import Derived.Ground.Names2Prog
import Derived.Shelf.Slices.SearchI
import Derived.Maps.AppendAt
import Derived.Laws.AppendOwn
import Derived.Test.YthfkbbiaemmndaaGreatDoorRows
import Derived.Test.YthfkbbiaemmndaaGreatDoorProg
import Derived.Laws.OwnMore
import Derived.Deep.LoopGhost
import Derived.WalkMore
import Derived.Laws.BytesString
import Derived.RangeFuncRecord
import Derived.MapKept
import Derived.Below
import Derived.ChangeOld
import Derived.OpenShut
import Derived.LaidMore
import Derived.Test.YthfkbbiaemmndaaGreatDoorG4
import Derived.Test.YthfkbbiaemmndaaGreatDoorG6
set_option linter.unusedVariables false
set_option linter.unusedSimpArgs false
set_option maxRecDepth 100000
set_option maxHeartbeats 16000000
namespace Go.Proofs.YthfkbbiaemmndaaGreatDoor
section
open Go.RowKit
theorem Row.nil {w : World} (A : Option Addr) (cap : Nat) (h : cap ≤ 9223372036854775807) : Row w A cap [] := ⟨by simp, h, by simp, by simp⟩
end
section
open Go.RowKit
theorem SetIn.rowR {B : Nat} {w : World} {v : Value} {k : Nat} {ts : List Ts} (h : SetIn B w v k ts) : ∃ A cap, v = .slice A ts.length cap ∧ Row w A cap ts := by
 rcases Nat.eq_zero_or_pos k with h0 | h0
 ·subst h0
  obtain rfl := List.eq_nil_of_length_eq_zero h.len
  obtain ⟨A, cap, hv, hl, hm⟩ := Go.Proofs.YthfkbbiaemmndaaGreatDoor.own_len h.row
  exact ⟨A, cap, hv, Row.nil _ _ (by unfold maxLen at hm; omega)⟩
 ·obtain ⟨g, cap, hv, hO⟩ := h.own h0
  exact ⟨_, cap, by rw [h.len]; exact hv, hO.row⟩
theorem SetIn.snoc {B : Nat} {w w' : World} {v v' : Value} {k : Nat} {ts : List Ts} {x : Ts} (h : SetIn B w v k ts) (hx : TsW x) (ho : w'.ownsRow B 26 7 v' (k + 1) (tsCells ts ++ tsL x)) : SetIn B w' v' (k + 1) (ts ++ [x]) :=
 ⟨by simp [h.len], fun y hy => by
  rcases List.mem_append.1 hy with hy | hy
  ·exact h.wf y hy
  ·obtain rfl := List.mem_singleton.1 hy
   exact hx, by rw [tsCells_snoc]; exact ho⟩
end
end Go.Proofs.YthfkbbiaemmndaaGreatDoor
