/- Functions over texts: their contracts. -/
import Derived.Test.YthfiodjhjhpiaaaBase
namespace Go.Proofs.Ythfiodjhjhpiaaa
open Go.RowKit
set_option linter.unusedVariables false

theorem ret_int {k : IntKind} {a b : Int} (h : a = b) : Ending.returned (.int k a) = .returned (.int k b) := by rw [h]
theorem drop_get (s : ByteArray) (i : Nat) (h : i < s.size) : s.data.toList.drop i = s[i] :: s.data.toList.drop (i + 1) := by
  have h' : i < s.data.toList.length := by rw [← Lib.size_eq]; exact h
  rw [List.drop_eq_getElem_cons h']
  rfl
theorem noteLen_ten (c : UInt8) (r : List UInt8) (h : c.toNat = 10) : noteLen (c :: r) = 0 := by rw [noteLen, if_pos h]
theorem noteLen_not (c : UInt8) (r : List UInt8) (h : c.toNat ≠ 10) : noteLen (c :: r) = noteLen r + 1 := by rw [noteLen, if_neg h]
theorem is10 (c : UInt8) : (c == 10) = decide (c.toNat = 10) := by
  rw [Bool.eq_iff_iff]
  simp [← UInt8.toNat_inj]
theorem indexByte_note (l : List UInt8) : Lib.indexByte l 10 = if noteLen l < l.length then (noteLen l : Int) else -1 := by
  induction l with
  | nil => rfl
  | cons c r ih =>
    unfold Lib.indexByte
    rw [is10]
    by_cases h : c.toNat = 10
    · rw [noteLen_ten c r h]; simp [h]
    · rw [noteLen_not c r h, ih]
      simp only [h, decide_false, Bool.false_eq_true, if_false, List.length_cons]
      by_cases h2 : noteLen r < r.length
      · rw [if_pos h2, if_neg (show ¬ (((noteLen r : Nat) : Int) == -1) = true by simp), if_pos (show noteLen r + 1 < r.length + 1 by omega)]; rfl
      · rw [if_neg h2, if_neg (show ¬ noteLen r + 1 < r.length + 1 by omega)]; rfl

set_option maxHeartbeats 1000000 in
theorem lineEnd_any (s : ByteArray) (i : Nat) (w : World) (hi : i ≤ s.size) (hs : s.size ≤ 100000) : Calls Try.prog 63 #[.string s, .int .i64 (i : Int)] w fun e w' => e = .returned (.int .i64 ((i + noteLen (s.data.toList.drop i) : Nat) : Int)) ∧ w = w' := by
  have h0 := Try.strings_IndexByte (s.extract i s.size) 10 w
  have e0 : (s.extract i s.size).data.toList = s.data.toList.drop i := by
    rw [Lib.extract_data, List.take_of_length_le (by rw [List.length_drop, ← Lib.size_eq]; exact Nat.le_refl _)]
  have e1 : ((10 : Int).toNat.toUInt8) = 10 := rfl
  have hl : (s.data.toList.drop i).length = s.size - i := by rw [List.length_drop, ← Lib.size_eq]
  have hn := noteLen_le (s.data.toList.drop i)
  rw [e0, e1, indexByte_note, hl] at h0
  rw [hl] at hn
  clear e0 e1 hl
  generalize noteLen (s.data.toList.drop i) = n at *
  by_cases hlt : n < s.size - i
  · rw [if_pos hlt] at h0
    have H := Lib.hid h0
    clear h0
    go_enter Try.func63, Try.ntmps63
    go_wp2_with (go_at_call 65; refine H.out.mono ?_; rintro e w' ⟨rfl, rfl⟩)
    go_ret
    exact ⟨ret_int (by omega), rfl⟩
  · rw [if_neg hlt] at h0
    have H := Lib.hid h0
    clear h0
    go_enter Try.func63, Try.ntmps63
    go_wp2_with (go_at_call 65; refine H.out.mono ?_; rintro e w' ⟨rfl, rfl⟩)
    go_ret
    exact ⟨ret_int (by omega), rfl⟩

theorem take_snoc (l : List UInt8) (k : Nat) (h : k < l.length) : l.take (k + 1) = l.take k ++ [l[k]] := List.take_succ_eq_append_getElem h
theorem bs_get (l : List UInt8) (k : Nat) (h : k < l.length) (h' : k < (bs l).size) : (bs l)[k] = l[k] := by
  show l.toArray[k]'(by simpa using h) = l[k]
  rw [List.getElem_toArray]
  rfl

set_option maxHeartbeats 1000000 in
theorem number_any (l : List UInt8) (w : World) (hd : ∀ c ∈ l, dgt c = true) (hs : l.length ≤ 100000) : Calls Try.prog 69 #[.string (bs l)] w fun e w' => e = .returned (.int .i64 (numOf l : Int)) ∧ w = w' := by
  have HS := Lib.hid (bs_size l)
  have HD := Lib.hid hd
  clear hd
  go_enter Try.func69, Try.ntmps69
  go_wp2
  go_loop [3, 7] (fun n i => ∃ k : Nat, k ≤ (bs l).size ∧ i = .int .i64 k ∧ n = .int .i64 (numOf (l.take k) : Int)) (fun _ i => (bs l).size - (intOf i).toNat)
  case atStart => exact ⟨0, Nat.zero_le _, rfl, by simp [numOf]⟩
  case round =>
    obtain ⟨k, hk, rfl, rfl⟩ := hrel
    have hle := numOf_le (l.take k)
    by_cases hlt : k < (bs l).size
    · have hlt' : k < l.length := by rw [← HS.out]; exact hlt
      have h1 := numOf_snoc (l.take k) l[k]
      rw [← take_snoc l k hlt'] at h1
      have hg := bs_get l k hlt' hlt
      have hdk := HD.out l[k] (List.getElem_mem hlt')
      have hbig : k ≤ 100000 := by omega
      generalize l[k] = c at *
      have H1 := Lib.hid h1
      have hc : 48 ≤ c.toNat ∧ c.toNat ≤ 57 := by simpa [dgt] using hdk
      obtain ⟨hc1, hc2⟩ := hc
      clear h1 hdk
      generalize numOf (l.take k) = m at *
      go_wp2
      all_goals
        go_round
        case rel => exact ⟨k + 1, by omega, by go_num, by rw [H1.out]; go_num⟩
        case measure => simp [intOf]; omega
    · go_wp2
      go_ret
      exact ⟨ret_int (by rw [List.take_of_length_le (by rw [← HS.out]; omega)]), rfl⟩

set_option maxHeartbeats 1000000 in
theorem clone_any (s : ByteArray) (w : World) (hs : s.size ≤ 100000) : Calls Try.prog 68 #[.string s] w fun e w' => e = .returned (.string s) ∧ Below w.heap.size w w' := by
  have H := Lib.hid (Try.stringslite_Clone s w (by omega))
  go_enter Try.func68, Try.ntmps68
  go_wp2_with (go_at_call 73; refine H.out.mono ?_; rintro e w' ⟨rfl, hb⟩)
  go_ret
  exact ⟨rfl, hb⟩
theorem extract_tok (s : ByteArray) (i j : Nat) (hi : i < s.size) (hij : i + 1 ≤ j) : s.extract i j = bs (s[i] :: (s.data.toList.drop (i + 1)).take (j - (i + 1))) := by
  rw [Lib.extract_eq, drop_get s i hi, show j - i = (j - (i + 1)) + 1 by omega, List.take_succ_cons]
  rfl
end Go.Proofs.Ythfiodjhjhpiaaa
