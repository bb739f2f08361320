/- The document's own Word. -/
import Derived.Test.YtngmaiiibinkaaaOne
import Derived.Test.YtngmaiiibinkaaaWord
namespace Go.Proofs.Ytngmaiiibinkaaa
open Go.RowKit
set_option linter.unusedVariables false

theorem pcs_bound : ∀ (n a : Nat) (l : List UInt8), l.length ≤ n → ∀ y ∈ pcs a l, a ≤ y.at' ∧ y.at' + y.t.length ≤ a + l.length := by
  intro n
  induction n with
  | zero => intro a l h y hy; have : l = [] := List.eq_nil_of_length_eq_zero (by omega); subst this; rw [pcs_nil] at hy; simp at hy
  | succ n ih =>
    intro a l h y hy
    cases l with
    | nil => rw [pcs_nil] at hy; simp at hy
    | cons c r =>
      simp only [List.length_cons] at h ⊢
      have hn := noteLen_le r
      have hr := runLen_le (kind c) r
      by_cases hb : blank c = true
      · rw [pcs_blank hb] at hy
        have := ih (a + 1) r (by omega) y hy
        omega
      · by_cases h35 : c.toNat = 35
        · rw [pcs_hash h35] at hy
          have := ih (a + 1 + noteLen r) (r.drop (noteLen r)) (by simp; omega) y hy
          simp at this
          omega
        · by_cases hk : kind c = 0
          · rw [pcs_none (by simpa using hb) h35 hk, List.mem_singleton] at hy
            subst hy
            simp
          · rw [pcs_tok hk, List.mem_cons] at hy
            rcases hy with rfl | hy
            · simp only [tkOf, List.length_cons, List.length_take]; omega
            · have := ih (a + 1 + runLen (kind c) r) (r.drop (runLen (kind c) r)) (by simp; omega) y hy
              simp at this
              omega
theorem wordB_nil {s : ByteArray} (h : s.data.toList = []) : wordB s = false := by simp [wordB, tokL, pieceL, h, pcs_nil, toksOf]
theorem wordB_late {s : ByteArray} {a : Nat} {l : List UInt8} (h : pieceL s = pcs a l) (hl : l.length < s.size) : wordB s = false := by
  unfold wordB tokL
  cases hp : toksOf (pieceL s) with
  | nil => rfl
  | cons x r =>
    have hx : x ∈ pcs a l := by
      rw [← h]
      exact (toksOf_prefix _).subset (by rw [hp]; simp)
    have := pcs_bound _ a l (Nat.le_refl _) x hx
    have h2 : ¬ x.t.length = s.size := by omega
    simp [h2]
theorem wordB_cons {s : ByteArray} {c : UInt8} {r : List UInt8} (h : s.data.toList = c :: r) : wordB s = (decide ((oneT 0 c r).k = 1) && decide ((oneT 0 c r).t.length = s.size)) := by
  have hs : s.size = r.length + 1 := by rw [Lib.size_eq, h]; rfl
  by_cases hk : kind c = 0
  · have hf : (decide ((oneT 0 c r).k = 1) && decide ((oneT 0 c r).t.length = s.size)) = false := by rw [oneT, if_pos hk]; simp
    rw [hf]
    by_cases hb : blank c = true
    · exact wordB_late (a := 1) (l := r) (by rw [pieceL, h, pcs_blank hb]) (by omega)
    · by_cases h35 : c.toNat = 35
      · exact wordB_late (a := 0 + 1 + noteLen r) (l := r.drop (noteLen r)) (by rw [pieceL, h, pcs_hash h35]) (by rw [List.length_drop]; omega)
      · rw [wordB, tokL, pieceL, h, pcs_none (by simpa using hb) h35 hk]
        rfl
  · have : tokL s = tkOf 0 c r :: toksOf (pcs (0 + 1 + runLen (kind c) r) (r.drop (runLen (kind c) r))) := by
      rw [tokL, pieceL, h, pcs_tok hk, toksOf, List.takeWhile_cons_of_pos (by simp [tkOf, hk])]
      rfl
    rw [wordB, this, oneT, if_neg hk]
theorem oneT_text {c : UInt8} {r : List UInt8} (h : (oneT 0 c r).k ≠ 0) : (oneT 0 c r).t <+: c :: r := by
  unfold oneT at *
  by_cases hk : kind c = 0
  · rw [if_pos hk] at h; exact absurd rfl h
  · rw [if_neg hk]; exact (List.cons_prefix_cons).2 ⟨rfl, List.take_prefix _ _⟩

theorem text_eq {x : List UInt8} {s : ByteArray} (h : x <+: s.data.toList) : ((bs x).toList == s.toList) = decide (x.length = s.size) := by
  rw [Lib.toList_data, Lib.toList_data, bs_toList, Bool.eq_iff_iff]
  simp only [beq_iff_eq, decide_eq_true_eq]
  constructor
  · intro e; rw [e, Lib.size_eq]
  · intro e; exact h.eq_of_length (by rw [e, Lib.size_eq])

set_option maxHeartbeats 2000000 in
theorem rword_any (s : ByteArray) (w : World) (hs : s.size ≤ 9223372036854775807) : Calls Try.prog 39 #[.string s] w fun e w' => e = .returned (.bool (wordB s)) ∧ Below w.heap.size w w' := by
  by_cases h0 : s.size = 0
  · have he : s.data.toList = [] := List.eq_nil_of_length_eq_zero (by rw [← Lib.size_eq]; exact h0)
    have hs0 : s = ByteArray.empty := by
      apply ByteArray.ext
      apply Array.toList_inj.1
      exact he
    rw [wordB_nil he]
    subst hs0
    clear he
    go_enter Try.func39, Try.ntmps39
    go_wp2
    go_ret
    exact ⟨rfl, Below.refl _ _⟩
  · obtain ⟨c, hc⟩ : ∃ c, s[0]'(by omega) = c := ⟨_, rfl⟩
    have hd := drop_get s 0 (by omega)
    rw [List.drop_zero, hc, Nat.zero_add] at hd
    have o : ∀ w, Calls Try.prog 42 #[.string s, .int .i64 0] w fun e w' => e = .returned (tkV (oneT 0 c (s.data.toList.drop 1))) ∧ Below w.heap.size w w' := fun w => by
      have := one_any s 0 w (by omega) hs
      rw [hc, Nat.zero_add] at this
      exact this
    have hne : s.toList ≠ [] := by rw [Lib.toList_data, hd]; simp
    have hne2 : (s.toList == []) = false := by simpa using hne
    rw [wordB_cons hd]
    have htx := fun h => oneT_text (c := c) (r := s.data.toList.drop 1) h
    rw [← hd] at htx
    generalize oneT 0 c (s.data.toList.drop 1) = x at *
    have O := Lib.hid o
    have HT := Lib.hid htx
    clear o htx hd hc
    by_cases hk : x.k = 1
    · have t0 : ((x.k : Int) == 1) = true := by simp; omega
      have HK := Lib.hid hk
      clear hk
      go_enter Try.func39, Try.ntmps39
      go_upto_region 4 with (go_at_call 42; (with_reducible refine (O.out _).mono ?_); rintro e' w2 ⟨rfl, h2⟩)
      obtain ⟨W3, hW3, T3, B3⟩ : ∃ W3, w2.alloc (.cells #[.int .i64 (x.k : Int), .int .i64 (x.at' : Int), .string (bs x.t), .int .i64 (x.n : Int)] 89) = W3 ∧ TB W3 w2.heap.size x ∧ Below w.heap.size w W3 := ⟨_, rfl, TB.new w2 x, h2.trans ((Below.refl _ _).alloc h2.size _)⟩
      rw [hW3]
      clear hW3 h2
      have c0 := T3.c0
      have c2 := T3.c2
      go_wp2
      go_ret
      exact ⟨by rw [text_eq (HT.out (by rw [HK.out]; decide)), HK.out]; simp, B3⟩
    · have t0 : ((x.k : Int) == 1) = false := by simp; omega
      have HK := Lib.hid hk
      clear hk
      go_enter Try.func39, Try.ntmps39
      go_upto_region 4 with (go_at_call 42; (with_reducible refine (O.out _).mono ?_); rintro e' w2 ⟨rfl, h2⟩)
      obtain ⟨W3, hW3, T3, B3⟩ : ∃ W3, w2.alloc (.cells #[.int .i64 (x.k : Int), .int .i64 (x.at' : Int), .string (bs x.t), .int .i64 (x.n : Int)] 89) = W3 ∧ TB W3 w2.heap.size x ∧ Below w.heap.size w W3 := ⟨_, rfl, TB.new w2 x, h2.trans ((Below.refl _ _).alloc h2.size _)⟩
      rw [hW3]
      clear hW3 h2
      have c0 := T3.c0
      go_wp2
      go_ret
      exact ⟨by simp [HK.out], B3⟩
end Go.Proofs.Ytngmaiiibinkaaa
