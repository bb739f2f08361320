/- Functions over texts: their contracts. -/
import Derived.Test.YtngmaiiibinkaaaBase
namespace Go.Proofs.Ytngmaiiibinkaaa
open Go.RowKit
set_option linter.unusedVariables false

theorem ret_int {k : IntKind} {a b : Int} (h : a = b) : Ending.returned (.int k a) = .returned (.int k b) := by rw [h]
theorem drop_get (s : ByteArray) (i : Nat) (h : i < s.size) : s.data.toList.drop i = s[i] :: s.data.toList.drop (i + 1) := by
  have h' : i < s.data.toList.length := by rw [← Lib.size_eq]; exact h
  rw [List.drop_eq_getElem_cons h']
  rfl
theorem noteLen_ten (c : UInt8) (r : List UInt8) (h : c.toNat = 10) : noteLen (c :: r) = 0 := by rw [noteLen, if_pos h]
theorem noteLen_not (c : UInt8) (r : List UInt8) (h : c.toNat ≠ 10) : noteLen (c :: r) = noteLen r + 1 := by rw [noteLen, if_neg h]
theorem is10 (c : UInt8) : (c == 10) = decide (c.toNat = 10) := by
  rw [Bool.eq_iff_iff]
  simp [← UInt8.toNat_inj]
theorem indexByte_note (l : List UInt8) : Lib.indexByte l 10 = if noteLen l < l.length then (noteLen l : Int) else -1 := by
  induction l with
  | nil => rfl
  | cons c r ih =>
    unfold Lib.indexByte
    rw [is10]
    by_cases h : c.toNat = 10
    · rw [noteLen_ten c r h]; simp [h]
    · rw [noteLen_not c r h, ih]
      simp only [h, decide_false, Bool.false_eq_true, if_false, List.length_cons]
      by_cases h2 : noteLen r < r.length
      · rw [if_pos h2, if_neg (show ¬ (((noteLen r : Nat) : Int) == -1) = true by simp), if_pos (show noteLen r + 1 < r.length + 1 by omega)]; rfl
      · rw [if_neg h2, if_neg (show ¬ noteLen r + 1 < r.length + 1 by omega)]; rfl

theorem take_snoc (l : List UInt8) (k : Nat) (h : k < l.length) : l.take (k + 1) = l.take k ++ [l[k]] := List.take_succ_eq_append_getElem h
theorem bs_get (l : List UInt8) (k : Nat) (h : k < l.length) (h' : k < (bs l).size) : (bs l)[k] = l[k] := by
  show l.toArray[k]'(by simpa using h) = l[k]
  rw [List.getElem_toArray]
  rfl

theorem extract_tok (s : ByteArray) (i j : Nat) (hi : i < s.size) (hij : i + 1 ≤ j) : s.extract i j = bs (s[i] :: (s.data.toList.drop (i + 1)).take (j - (i + 1))) := by
  rw [Lib.extract_eq, drop_get s i hi, show j - i = (j - (i + 1)) + 1 by omega, List.take_succ_cons]
  rfl
end Go.Proofs.Ytngmaiiibinkaaa
