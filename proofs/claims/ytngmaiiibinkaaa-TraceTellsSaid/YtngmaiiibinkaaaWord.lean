/- Word's contract. -/
import Derived.Test.YtngmaiiibinkaaaToks
namespace Go.Proofs.Ytngmaiiibinkaaa
open Go.RowKit Go.Shelf
set_option linter.unusedVariables false
attribute [local go_sem] Oper.semAt_some

/-- Is the text one word? -/
def wordB (s : ByteArray) : Bool := match tokL s with
  | [] => false
  | x :: _ => decide (x.k = 1) && decide (x.t.length = s.size)

end Go.Proofs.Ytngmaiiibinkaaa
