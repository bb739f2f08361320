/- The law's own parses, short, spoilt, awake. -/
import Derived.Test.YtlelnoalajeihaaDoorLaw0
namespace Go.Proofs.YtlelnoalajeihaaDoor
open Go.RowKit
set_option linter.unusedVariables false
set_option linter.unusedSimpArgs false

/-! ### short, spoilt -/
def shortS (s : ByteArray) : ByteArray := if 200 < s.size then s.extract 0 200 else s
theorem shortS_size (s : ByteArray) : (shortS s).size ≤ 200 := by
  unfold shortS
  split
  · simp; omega
  · omega
set_option maxHeartbeats 1000000 in
theorem short_any (s : ByteArray) (w : World) (hs : s.size ≤ maxLen) : Calls Tryd.prog 15 #[.string s] w fun e w' => e = .returned (.string (shortS s)) ∧ w = w' := by
  unfold maxLen at hs
  by_cases h : 200 < s.size
  · have e : shortS s = s.extract 0 200 := by rw [shortS, if_pos h]
    rw [e]
    go_enter Tryd.func15, Tryd.ntmps15
    go_wp2
    go_ret
    exact ⟨rfl, rfl⟩
  · have e : shortS s = s := by rw [shortS, if_neg h]
    rw [e]
    go_enter Tryd.func15, Tryd.ntmps15
    go_wp2
    go_ret
    exact ⟨rfl, rfl⟩
end Go.Proofs.YtlelnoalajeihaaDoor
