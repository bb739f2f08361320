/- Whether two rows of jobs are the same: of two that are. -/
import Derived.Test.YtngmaiiibinkaaaJArr
import Derived.StillTailTactics
namespace Go.Proofs.Ytngmaiiibinkaaa
open Go.RowKit
set_option linter.unusedVariables false
set_option linter.unusedSimpArgs false

theorem same_drewN (w : World) (n : Nat) : Below w.heap.size w (w.drewN n) := ⟨rfl, rfl, rfl, Nat.le_refl _, fun _ _ => rfl⟩
end Go.Proofs.Ytngmaiiibinkaaa
