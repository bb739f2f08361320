/- The pieces of a text, told one by one. -/
import Derived.Test.YtngmaiiibinkaaaRange
namespace Go.Proofs.Ytngmaiiibinkaaa
open Go.RowKit Go.Shelf
set_option linter.unusedVariables false
attribute [local go_sem] Oper.semAt_some

/-- The pieces of a whole text. -/
abbrev pieceL (s : ByteArray) : List Tk := pcs 0 s.data.toList
theorem tkOf_len (i : Nat) (c : UInt8) (r : List UInt8) : (tkOf i c r).t.length = 1 + runLen (kind c) r := by
  have := runLen_le (kind c) r
  simp only [tkOf, List.length_cons, List.length_take]
  omega

end Go.Proofs.Ytngmaiiibinkaaa
