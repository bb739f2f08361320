/- Whether cuts fit; the closures that ask whether a job is right. -/
import Derived.Test.YtngmaiiibinkaaaJArr
import Derived.StillTailTactics
import Derived.Deep.RegionHeldLaw
namespace Go.Proofs.Ytngmaiiibinkaaa
open Go.RowKit
set_option linter.unusedVariables false
set_option linter.unusedSimpArgs false

theorem fitB_cons (q left c : Int) (r : List Int) : fitB q left (c :: r) = (inB c 1 (min q left) && fitB q (left - c) r) := rfl
end Go.Proofs.Ytngmaiiibinkaaa
