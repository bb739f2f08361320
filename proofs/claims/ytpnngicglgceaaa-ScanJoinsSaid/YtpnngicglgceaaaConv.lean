/- One byte as a text. -/
import Derived.Test.YtpnngicglgceaaaTells
import Derived.Laws.BytesString
namespace Go.Proofs.Ytpnngicglgceaaa
open Go.RowKit
set_option linter.unusedVariables false

theorem conv_byte (W : World) (c : UInt8) : (convert 40 9 (.slice (some ⟨W.heap.size, 0, none⟩) 1 1)).run Try.prog (W.alloc (.cells #[.int .u8 (c.toNat : Int)] 5)) = .ok (.string (bs [c])) (W.alloc (.cells #[.int .u8 (c.toNat : Int)] 5)) := by
  rw [run_convert_bytes_string _ 40 9 5 _ _ _ Try.underlying40 Try.underlying5 Try.underlying9]
  rw [run_bytesToString (ns := [(c.toNat : Int)])]
  · congr 2
    apply ByteArray.ext
    simp [bs, ByteArray.push]
  · go_simp

/-! ### A word and one more byte -/
theorem runLen_full {k : Nat} : ∀ {r : List UInt8}, runLen k r = r.length → ∀ c, runLen k (r ++ [c]) = if goes k c then r.length + 1 else r.length
  | [], _, c => by simp [runLen]
  | d :: r, h, c => by
    unfold runLen at h
    by_cases hg : goes k d = true
    · rw [if_pos hg, List.length_cons] at h
      have ih := runLen_full (k := k) (r := r) (by omega) c
      rw [List.cons_append, runLen, if_pos hg, ih]
      split <;> simp
    · rw [if_neg hg, List.length_cons] at h; omega
/-- What a word is. -/
theorem word_is {s : ByteArray} (h : wordB s = true) : ∃ d r, s.data.toList = d :: r ∧ kind d = 1 ∧ runLen 1 r = r.length := by
  cases hl : s.data.toList with
  | nil => rw [wordB_nil hl] at h; cases h
  | cons d r =>
    rw [wordB_cons hl] at h
    simp only [Bool.and_eq_true, decide_eq_true_eq] at h
    obtain ⟨h1, h2⟩ := h
    have hk : kind d = 1 := by
      unfold oneT at h1
      split at h1
      · simp at h1
      · exact h1
    have hs : s.size = r.length + 1 := by rw [Lib.size_eq, hl]; rfl
    rw [oneT, if_neg (by omega), tkOf_len, hk, hs] at h2
    exact ⟨d, r, rfl, hk, by omega⟩
theorem goes_1 (c : UInt8) : goes 1 c = decide ((97 ≤ c.toNat ∧ c.toNat ≤ 122) ∨ (65 ≤ c.toNat ∧ c.toNat ≤ 90) ∨ (48 ≤ c.toNat ∧ c.toNat ≤ 57) ∨ c.toNat = 95 ∨ c.toNat = 46 ∨ c.toNat = 45) := by
  rw [Bool.eq_iff_iff]
  simp [goes, ltr, dgt]
  omega
theorem pieces_word {d : UInt8} {r : List UInt8} (hk : kind d = 1) (hr : runLen 1 r = r.length) : pcs 0 (d :: r) = [⟨1, 0, d :: r, 0⟩] := by
  rw [pcs_tok (by omega), hk, hr, List.drop_length, pcs_nil, tkOf, hk, hr, List.take_length, if_neg (by omega)]
theorem word_pieces {s : ByteArray} {d : UInt8} {r : List UInt8} (h : s.data.toList = d :: r) (hk : kind d = 1) (hr : runLen 1 r = r.length) : lexT s = [⟨1, 0, s.data.toList, 0⟩] ∧ errP s = 0 := by
  have hp : pieceL s = [⟨1, 0, d :: r, 0⟩] := by rw [pieceL, h, pieces_word hk hr]
  have hb : badP s = none := badP_none (by rw [hp]; simp)
  exact ⟨by rw [lexT, hb, h]; exact hp, by rw [errP, hb]⟩
/-- A word, and one more byte behind it: its first token. -/
theorem word_more {s t : ByteArray} {c d : UInt8} {r : List UInt8} (h : s.data.toList = d :: r) (hk : kind d = 1) (hr : runLen 1 r = r.length) (ht : t.data.toList = s.data.toList ++ [c]) :
    wordB t = goes 1 c ∧ ∃ rest, tokL t = ⟨1, 0, if goes 1 c then t.data.toList else s.data.toList, 0⟩ :: rest := by
  have hf := runLen_full hr c
  have ht' : t.data.toList = d :: (r ++ [c]) := by rw [ht, h]; rfl
  have hto : tkOf 0 d (r ++ [c]) = ⟨1, 0, if goes 1 c then t.data.toList else s.data.toList, 0⟩ := by
    rw [tkOf, hk, hf, if_neg (show ¬ (1 : Nat) = 2 by omega)]
    congr 1
    cases hg : goes 1 c
    · simp [h]
    · rw [ht', if_pos rfl, if_pos rfl, List.take_of_length_le (by simp)]
  have htk : tokL t = ⟨1, 0, if goes 1 c then t.data.toList else s.data.toList, 0⟩ :: toksOf (pcs (0 + 1 + runLen 1 (r ++ [c])) ((r ++ [c]).drop (runLen 1 (r ++ [c])))) := by
    rw [tokL, pieceL, ht', pcs_tok (by omega), toksOf, List.takeWhile_cons_of_pos (by simp [tkOf, hk]), hto, hk, ht']
    rfl
  refine ⟨?_, _, htk⟩
  rw [wordB, htk]
  have hs : t.size = r.length + 2 := by rw [Lib.size_eq, ht']; simp
  have hs2 : s.data.toList.length = r.length + 1 := by rw [h]; rfl
  cases hg : goes 1 c
  · simp [hs, h]
  · simp [hs, ht']
end Go.Proofs.Ytpnngicglgceaaa
