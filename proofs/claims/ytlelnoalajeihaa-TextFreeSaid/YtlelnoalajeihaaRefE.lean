/- The document's own answer: all tokens; one word. -/
import Derived.Test.YtlelnoalajeihaaRef
import Derived.Test.YtlelnoalajeihaaOne
import Derived.Test.YtlelnoalajeihaaLex
import Derived.Test.YtlelnoalajeihaaWord
namespace Go.Proofs.Ytlelnoalajeihaa
open Go.RowKit
set_option linter.unusedVariables false

theorem pcs_skip : ∀ (l : List UInt8) (a : Nat), pcs a l = pcs (a + skip l) (l.drop (skip l))
  | [], a => by simp [skip]
  | c :: r, a => by
    by_cases hb : blank c = true
    · rw [skip_blank hb, pcs_blank hb, pcs_skip r (a + 1), List.drop_succ_cons, show a + (skip r + 1) = a + 1 + skip r by omega]
    · by_cases h : c.toNat = 35
      · rw [skip_hash h, pcs_hash h, List.drop_succ_cons, show a + (noteLen r + 1) = a + 1 + noteLen r by omega]
      · rw [skip_none hb h]; rfl
theorem skip_note : ∀ l : List UInt8, skip (l.drop (noteLen l)) = 0
  | [] => rfl
  | c :: r => by
    by_cases h : c.toNat = 10
    · rw [noteLen_ten c r h, List.drop_zero, skip_none (by simp [blank]; omega) (by omega)]
    · rw [noteLen_not c r h, List.drop_succ_cons]; exact skip_note r
theorem skip_skip : ∀ l : List UInt8, skip (l.drop (skip l)) = 0
  | [] => rfl
  | c :: r => by
    by_cases hb : blank c = true
    · rw [skip_blank hb, List.drop_succ_cons]; exact skip_skip r
    · by_cases h : c.toNat = 35
      · rw [skip_hash h, List.drop_succ_cons]; exact skip_note r
      · rw [skip_none hb h, List.drop_zero, skip_none hb h]
theorem skip_0 {c : UInt8} {r : List UInt8} (h : skip (c :: r) = 0) : ¬ blank c = true ∧ c.toNat ≠ 35 := by
  constructor
  · intro hb; rw [skip_blank hb] at h; omega
  · intro h35; rw [skip_hash h35] at h; omega

/-- What stands between two rounds of the document's own walk: pre has come, at is where the next one would begin. -/
structure Mid (s : ByteArray) (pre : List Tk) (e : Nat) : Prop where
  le : e ≤ s.size
  eq : pieceL s = pre ++ pcs e (s.data.toList.drop e)
  ok : ∀ y ∈ pre, y.k ≠ 0
  at' : skip (s.data.toList.drop e) = 0
theorem Mid.start (s : ByteArray) : Mid s [] (skip s.data.toList) :=
  ⟨by have := skip_le s.data.toList; rw [← Lib.size_eq] at this; exact this, by have := pcs_skip s.data.toList 0; rw [Nat.zero_add] at this; simpa using this, by simp, skip_skip _⟩
theorem Mid.next {s : ByteArray} {pre : List Tk} {e : Nat} {c : UInt8} (h : Mid s pre e) (hlt : e < s.size) (hc : s[e] = c) (hk : kind c ≠ 0) :
    Mid s (pre ++ [tkOf e c (s.data.toList.drop (e + 1))]) (e + (tkOf e c (s.data.toList.drop (e + 1))).t.length + skip (s.data.toList.drop (e + (tkOf e c (s.data.toList.drop (e + 1))).t.length))) := by
  have hd := drop_get s e hlt
  rw [hc] at hd
  have hl : (tkOf e c (s.data.toList.drop (e + 1))).t.length = 1 + runLen (kind c) (s.data.toList.drop (e + 1)) := by
    have := runLen_le (kind c) (s.data.toList.drop (e + 1))
    simp only [tkOf, List.length_cons, List.length_take]
    omega
  have hr := runLen_le (kind c) (s.data.toList.drop (e + 1))
  have hs := skip_le (s.data.toList.drop (e + (1 + runLen (kind c) (s.data.toList.drop (e + 1)))))
  rw [List.length_drop, ← Lib.size_eq] at hr hs
  have heq := h.eq
  rw [hd, pcs_tok hk, List.drop_drop, show e + 1 + runLen (kind c) (s.data.toList.drop (e + 1)) = e + (1 + runLen (kind c) (s.data.toList.drop (e + 1))) by omega] at heq
  rw [hl]
  have hX : e + (1 + runLen (kind c) (s.data.toList.drop (e + 1))) ≤ s.size := by omega
  generalize e + (1 + runLen (kind c) (s.data.toList.drop (e + 1))) = X at *
  refine ⟨by omega, ?_, ?_, ?_⟩
  · rw [heq, List.append_assoc, List.singleton_append, pcs_skip (s.data.toList.drop X) X, List.drop_drop]
  · intro y hy
    rw [List.mem_append, List.mem_singleton] at hy
    rcases hy with hy | rfl
    · exact h.ok y hy
    · exact hk
  · rw [← List.drop_drop]; exact skip_skip _
/-- Its end: none begins. -/
theorem Mid.bad {s : ByteArray} {pre : List Tk} {e : Nat} {c : UInt8} (h : Mid s pre e) (hlt : e < s.size) (hc : s[e] = c) (hk : kind c = 0) : tokL s = pre ∧ endP s = e := by
  have hd := drop_get s e hlt
  rw [hc] at hd
  have heq := h.eq
  have h0 := h.at'
  rw [hd] at h0 heq
  rw [pcs_none (by simpa using (skip_0 h0).1) (skip_0 h0).2 hk] at heq
  have h1 : badP s = some ⟨0, e, [], 0⟩ := badP_some ⟨[], by rw [List.append_nil]; exact heq.symm⟩ h.ok rfl
  refine ⟨?_, by rw [endP, h1]⟩
  have := toksOf_stop (q := pre) (r := []) (x := ⟨0, e, [], 0⟩) h.ok rfl
  rw [List.append_nil] at this
  rw [tokL, heq, this]
theorem Mid.done {s : ByteArray} {pre : List Tk} {e : Nat} (h : Mid s pre e) (he : s.size ≤ e) : tokL s = pre ∧ endP s = e ∧ e = s.size := by
  have heq := h.eq
  rw [List.drop_of_length_le (by rw [← Lib.size_eq]; exact he), pcs_nil, List.append_nil] at heq
  have h1 : badP s = none := badP_none (by rw [heq]; exact h.ok)
  have := h.le
  exact ⟨by rw [tokL, heq, toksOf_all h.ok], by rw [endP, h1]; show s.size = e; omega, by omega⟩
end Go.Proofs.Ytlelnoalajeihaa
