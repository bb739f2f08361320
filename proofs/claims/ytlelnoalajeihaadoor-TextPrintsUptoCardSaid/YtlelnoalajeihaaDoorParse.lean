/- Parse: what it tells, and its walk. -/
import Derived.Test.YtlelnoalajeihaaDoorRead
import Derived.Test.YtlelnoalajeihaaDoorChecks
namespace Go.Proofs.YtlelnoalajeihaaDoor
open Go.RowKit
set_option linter.unusedVariables false
set_option linter.unusedSimpArgs false

/-- What Parse tells: tasks, a place, an error. -/
def parseS (s : ByteArray) : List Ts × Nat × Int :=
  if (readS s).2.2 = 0 then
    (if (chkAll (readS s).1).2 = 0 then ((readS s).1, (chkAll (readS s).1).1, 0) else ([], (chkAll (readS s).1).1, (chkAll (readS s).1).2))
  else ([], (readS s).2.1, ((readS s).2.2 : Int))
def ParsePost (s : ByteArray) (w : World) (e : Ending) (w' : World) : Prop := ∃ A cap, e = .returned (.tuple #[.slice A (parseS s).1.length cap, .int .i64 ((parseS s).2.1 : Int), .int .i64 (parseS s).2.2]) ∧ Row w' A cap (parseS s).1 ∧ Below w.heap.size w w'
set_option maxRecDepth 100000 in
set_option maxHeartbeats 4000000 in
theorem parse_any (s : ByteArray) (w : World) (hs : s.size ≤ 100000) : Calls Tryd.prog 19 #[.string s] w (ParsePost s w) := by
  have R := Lib.hid (read_any s w hs)
  have hP : parseS s = if (readS s).2.2 = 0 then
    (if (chkAll (readS s).1).2 = 0 then ((readS s).1, (chkAll (readS s).1).1, 0) else ([], (chkAll (readS s).1).1, (chkAll (readS s).1).2))
    else ([], (readS s).2.1, ((readS s).2.2 : Int)) := rfl
  unfold ReadPost at R
  unfold ParsePost
  rcases hr : readS s with ⟨l, at', er⟩
  rw [hr] at R hP
  simp only at R hP
  clear hr
  by_cases h0 : er = 0
  · subst h0
    rw [if_pos rfl] at hP
    rcases hc : chkAll l with ⟨n, e⟩
    rw [hc] at hP
    simp only at hP
    have CK := fun A cap W hR => checkAll_any A cap l W hR
    rw [hc] at CK
    simp only at CK
    have CK := Lib.hid CK
    clear hc
    by_cases he : e = 0
    · subst he
      rw [if_pos rfl] at hP
      rw [hP]
      clear hP
      go_enter Tryd.func19, Tryd.ntmps19
      go_upto_region 4 with (go_at_call 17; (with_reducible refine R.out.mono ?_); rintro e W1 ⟨A, cap, rfl, hR, hB⟩)
      have HR := Lib.hid hR
      clear hR
      go_wp2_with (go_at_call 30; (with_reducible refine (CK.out _ _ _ HR.out).mono ?_); rintro e W2 ⟨rfl, hB2⟩)
      go_ret3
      exact ⟨A, cap, rfl, HR.out.later hB2, hB.trans (hB2.mono hB.size)⟩
    · rw [if_neg he] at hP
      rw [hP]
      have t1 : (e != 0) = true := by simpa using he
      have HE := Lib.hid he
      clear hP he
      go_enter Tryd.func19, Tryd.ntmps19
      go_upto_region 4 with (go_at_call 17; (with_reducible refine R.out.mono ?_); rintro e W1 ⟨A, cap, rfl, hR, hB⟩)
      have HR := Lib.hid hR
      clear hR
      go_wp2_with (go_at_call 30; (with_reducible refine (CK.out _ _ _ HR.out).mono ?_); rintro e W2 ⟨rfl, hB2⟩)
      go_ret3
      exact ⟨none, 0, rfl, Row.nil _ _ (by omega), hB.trans (hB2.mono hB.size)⟩
  · rw [if_neg h0] at hP
    rw [hP]
    have t1 : ((er : Int) != 0) = true := by simp; omega
    clear hP
    go_enter Tryd.func19, Tryd.ntmps19
    go_wp2_with (go_at_call 17; (with_reducible refine R.out.mono ?_); rintro e W1 ⟨A, cap, rfl, hR, hB⟩)
    go_ret3
    exact ⟨none, 0, rfl, Row.nil _ _ (by omega), hB⟩
end Go.Proofs.YtlelnoalajeihaaDoor
