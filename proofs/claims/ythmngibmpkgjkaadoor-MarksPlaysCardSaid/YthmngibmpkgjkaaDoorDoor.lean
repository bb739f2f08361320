/- What the rows' condition on math/bits' table gives the walks, and the heap that meets it. -/
import Derived.Test.YthmngibmpkgjkaaDoorTz
import Derived.LaidMore
import Derived.Lib.LaidTab
import Derived.Stop.Joined
namespace Go.Proofs.YthmngibmpkgjkaaDoor
open Go.ChangeShapes Go.WideShapes Go.ChangeAt Go.RowKit
set_option linter.unusedVariables false

theorem own : ownKnob Tryd.prog.godebug = none := by kernel_rfl
theorem laidOut : laidOutB Tryd.prog = true := by kernel_rfl
/-- The condition's list, as the rows bear it. -/
abbrev LL : List (String × DataW Unit) := Rows.marksBelowRow.laid
theorem door_met (os : Os) (args : Array Value) : laidMetH Tryd.prog LL ((World.doorLaid Tryd.prog 4000 os).forCall (fun _ _ => 0) ⟨#[], args, []⟩).memory :=
  laidMetH_of_parts3 (fuel := 8) (laidMet_of_run' 8 (by kernel_rfl) (by kernel_rfl)) (by kernel_rfl) (by kernel_rfl)
theorem tab_of_laid {W : World} (h : laidMetH Tryd.prog LL W) : Tab W := by
  rw [MakeChecks.laidMetH_plain _ _ _ (by kernel_rfl)] at h
  have ht := Lib.tabIs_of_head (P := Tryd.prog) (W := W) (k := .u8) (zs := deB.map fun n : Nat => (n : Int)) (rest := []) (g := 0) (t := 62) (e := 5) (n := 64) (by kernel_rfl) (by kernel_rfl) Tryd.underlying62 Tryd.underlying5 (by kernel_rfl) (by kernel_rfl) h
  intro i v hv
  have := World.var?_cell (g := 0) (by kernel_rfl) ht i
  rw [this]
  simp [hv]
end Go.Proofs.YthmngibmpkgjkaaDoor
