/- The law's checks, and its turned. -/
import Derived.Test.YtngmaiiibinkaaaRChk
namespace Go.Proofs.Ytngmaiiibinkaaa
open Go.RowKit
set_option linter.unusedVariables false
set_option linter.unusedSimpArgs false

end Go.Proofs.Ytngmaiiibinkaaa
