/- A set that may be, printed and parsed: plain facts. -/
import Derived.Test.YtlelnoalajeihaaDoorBack
import Derived.Test.YtlelnoalajeihaaDoorParse
namespace Go.Proofs.YtlelnoalajeihaaDoor
open Go.RowKit
set_option linter.unusedVariables false

theorem chk_ok : ∀ (l pre : List Ts), (chkFrom pre l).2 = 0 → (∀ x ∈ l, checkE x = 0) ∧ (chkFrom pre l).1 = pre.length + l.length
  | [], pre, _ => ⟨by simp, by simp [chkFrom]⟩
  | x :: l, pre, h => by
    rw [chkFrom] at h ⊢
    by_cases hx : checkE x ≠ 0
    · rw [if_pos hx] at h; exact absurd h hx
    · rw [if_neg hx] at h ⊢
      by_cases hd : (nameIn pre x || prioIn pre x) = true
      · rw [if_pos hd] at h; simp at h
      · rw [if_neg hd] at h ⊢
        obtain ⟨h1, h2⟩ := chk_ok l (pre ++ [x]) h
        refine ⟨fun y hy => ?_, by rw [h2]; simp; omega⟩
        rcases List.mem_cons.1 hy with rfl | hy
        · omega
        · exact h1 y hy
theorem all_ok {l : List Ts} (h : (chkAll l).2 = 0) : (∀ x ∈ l, checkE x = 0) ∧ (chkAll l).1 = l.length := by
  unfold chkAll at h ⊢
  by_cases h0 : l.length = 0 ∨ 1024 < l.length
  · rw [if_pos h0] at h; simp at h
  · rw [if_neg h0] at h ⊢
    obtain ⟨h1, h2⟩ := chk_ok l [] h
    exact ⟨h1, by rw [h2]; simp⟩
theorem word_name {s : ByteArray} (h : wordB s = true) : ∃ c r, s.data.toList = c :: r ∧ kind c = 1 ∧ runLen 1 r = r.length := by
  cases hs : s.data.toList with
  | nil =>
    have : tokL s = [] := by simp [tokL, pieceL, hs, pcs_nil, toksOf]
    rw [wordB, this] at h
    simp at h
  | cons c r =>
    rw [wordB_cons hs, oneT] at h
    have hz : s.size = r.length + 1 := by rw [Lib.size_eq, hs]; rfl
    by_cases h0 : kind c = 0
    · rw [if_pos h0] at h; simp at h
    · rw [if_neg h0] at h
      simp only [Bool.and_eq_true, decide_eq_true_eq] at h
      obtain ⟨h1, h2⟩ := h
      have h1 : kind c = 1 := h1
      rw [tkOf_len, h1, hz] at h2
      exact ⟨c, r, rfl, h1, by omega⟩
theorem tidy_of {x : Ts} (h : checkE x = 0) : Tidy x ∧ x.n.size ≤ 32 := by
  unfold checkE at h
  by_cases hb : (namedB x && rangedB x) = true
  · simp only [Bool.and_eq_true, namedB, rangedB, inB_iff, decide_eq_true_eq] at hb
    obtain ⟨⟨n1, n2⟩, ⟨a1, a2⟩, ⟨b1, b2⟩, ⟨c1, c2⟩, ⟨d1, d2⟩, ⟨e1, e2⟩, f1, f2⟩ := hb
    refine ⟨⟨word_name n2, fun k hk => ?_⟩, n1⟩
    rcases (by omega : k = 0 ∨ k = 1 ∨ k = 2 ∨ k = 3 ∨ k = 4 ∨ k = 5) with rfl | rfl | rfl | rfl | rfl | rfl <;> (simp only [numI]; omega)
  · rw [if_neg hb] at h; simp at h
/-- What is printed of a set that may be is parsed to it. -/
theorem parse_back {l : List Ts} (h : (chkAll l).2 = 0) {s : ByteArray} (hs : s = printS l) : parseS s = (l, l.length, 0) := by
  obtain ⟨h1, h2⟩ := all_ok h
  have hr := print_read (fun x hx => (tidy_of (h1 x hx)).1) hs
  unfold parseS
  rw [hr]
  simp only [if_true, h, h2]
/-- What is parsed may be. -/
theorem parse_may {s : ByteArray} (h : (parseS s).2.2 = 0) : (chkAll (parseS s).1).2 = 0 := by
  unfold parseS at h ⊢
  by_cases h0 : (readS s).2.2 = 0
  · rw [if_pos h0] at h ⊢
    by_cases h1 : (chkAll (readS s).1).2 = 0
    · rw [if_pos h1]; exact h1
    · rw [if_neg h1] at h; exact absurd h h1
  · rw [if_neg h0] at h
    simp at h; omega
end Go.Proofs.YtlelnoalajeihaaDoor
