/- From when on a job may arrive; what keeps it; sections; a job of raw numbers. -/
import Derived.Test.YtngmaiiibinkaaaJOps
import Derived.Sort.LoopGhostIn
namespace Go.Proofs.Ytngmaiiibinkaaa
open Go.RowKit
set_option linter.unusedVariables false
set_option linter.unusedSimpArgs false

def soonV (f : Int → Option Int) (ts : List Ts) (p : Int) : Int := match f p with | none => 0 | some a => a + (tk ts p).t
def SecPost (sl : List Int) (w : World) (e : Ending) (w' : World) : Prop :=
  ∃ C cc, e = .returned (.slice C sl.length cc) ∧ CRow w' C cc sl ∧ (sl ≠ [] → ∀ a, C = some a → w.heap.size ≤ a.block ∧ ∃ cs fr, w'.heap[a.block]? = some (.cells cs 2 fr)) ∧ Below w.heap.size w w'
/-- Sections so far. -/
structure SecIn (B : Nat) (w : World) (v : Value) (pre : List Int) : Prop where
  row : w.ownsRow B 2 1 v pre.length (numL pre)
  wf : ∀ x ∈ pre, in64 x
theorem numL_snoc (l : List Int) (x : Int) : numL (l ++ [x]) = numL l ++ [.int .i64 x] := by simp [numL]
theorem secs_post {q k : Int} {l pre : List Int} {v : Value} {w w1 : World} (h : SecIn w.heap.size w1 v pre) (hq : secs q k l = pre) (hL : Below w.heap.size w w1) : SecPost (secs q k l) w (.returned v) w1 := by
  obtain ⟨C, cc, hv, _, hC, hs⟩ := crow_own h.row h.wf
  rw [SecPost, hq]
  exact ⟨C, cc, by rw [hv], hC, hs, hL⟩
end Go.Proofs.Ytngmaiiibinkaaa
