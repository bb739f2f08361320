/- The law's checks, and its turned. -/
import Derived.Test.YthfiodjhjhpiaaaRChk
namespace Go.Proofs.Ythfiodjhjhpiaaa
open Go.RowKit
set_option linter.unusedVariables false
set_option linter.unusedSimpArgs false

theorem checkAll_any (A : Option Addr) (cap : Nat) (l : List Ts) (w : World) (hR : Row w A cap l) :
    Calls Try.prog 43 #[.slice A l.length cap] w fun e w' => e = .returned (.tuple #[.int .i64 ((chkAll l).1 : Int), .int .i64 (chkAll l).2]) ∧ Below w.heap.size w w' := by
  by_cases h : l.length = 0 ∨ 1024 < l.length
  · have := checkAll_many A cap l w h (Nat.le_trans hR.le hR.mx)
    rw [chkAll, if_pos h]
    exact this
  · exact checkAll_few A cap l w hR (by omega) (by omega)

end Go.Proofs.Ythfiodjhjhpiaaa
