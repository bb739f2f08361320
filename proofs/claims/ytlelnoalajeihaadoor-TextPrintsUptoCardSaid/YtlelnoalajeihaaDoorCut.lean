/- A text cut behind a line's end: plain facts. -/
import Derived.Test.YtlelnoalajeihaaDoorParse
namespace Go.Proofs.YtlelnoalajeihaaDoor
open Go.RowKit
set_option linter.unusedVariables false

/-- What a run, or a note, does not reach beyond. -/
theorem run_cut {k : Nat} (v v' : List UInt8) : ∀ u : List UInt8, runLen k (u ++ 10 :: v) = runLen k (u ++ 10 :: v') ∧ runLen k (u ++ 10 :: v) ≤ u.length
  | [] => by
    have h : goes k 10 = false := by simp [goes, dgt, ltr]
    simp [runLen, h]
  | c :: u => by
    have ih := run_cut (k := k) v v' u
    by_cases h : goes k c = true
    · rw [List.cons_append, List.cons_append, runLen, runLen, if_pos h, if_pos h, List.length_cons]; omega
    · rw [List.cons_append, List.cons_append, runLen, runLen, if_neg h, if_neg h, List.length_cons]; omega
theorem note_cut (v v' : List UInt8) : ∀ u : List UInt8, noteLen (u ++ 10 :: v) = noteLen (u ++ 10 :: v') ∧ noteLen (u ++ 10 :: v) ≤ u.length
  | [] => by simp [noteLen]
  | c :: u => by
    have ih := note_cut v v' u
    simp only [List.cons_append, noteLen, List.length_cons]
    split <;> omega
theorem drop_cut (u v : List UInt8) (m : Nat) (h : m ≤ u.length) : (u ++ 10 :: v).drop m = u.drop m ++ 10 :: v := by
  rw [List.drop_append_of_le_length h]
/-- All is right in what was cut off, or nothing comes behind. -/
theorem pcs_cut : ∀ (n a : Nat) (u v : List UInt8), u.length ≤ n → (∀ y ∈ pcs a (u ++ 10 :: v), y.k ≠ 0) →
    ∃ P, pcs a (u ++ [10]) = P ++ [⟨4, a + u.length, [10], 0⟩] ∧ pcs a (u ++ 10 :: v) = P ++ ⟨4, a + u.length, [10], 0⟩ :: pcs (a + u.length + 1) v ∧ ∀ y ∈ P, y.at' < a + u.length := by
  intro n
  induction n with
  | zero =>
    intro a u v h hk
    have : u = [] := List.eq_nil_of_length_eq_zero (by omega)
    subst this
    refine ⟨[], ?_, ?_, by simp⟩
    · rw [List.nil_append, pcs_tok (by decide +kernel)]
      have e1 : runLen (kind 10) ([] : List UInt8) = 0 := rfl
      rw [e1]
      simp only [List.drop_zero, pcs_nil]
      rfl
    · rw [List.nil_append, pcs_tok (by decide +kernel)]
      have hk10 : kind 10 = 4 := by decide +kernel
      have e1 : runLen (kind 10) v = 0 := by
        cases v with
        | nil => rfl
        | cons c r => rw [hk10, runLen, if_neg (by rw [goes_4]; simp)]
      rw [e1, tkOf, e1, hk10]
      simp
  | succ n ih =>
    intro a u v h hk
    cases u with
    | nil => exact ih a [] v (by simp) hk
    | cons c u =>
      simp only [List.length_cons] at h
      rw [List.cons_append] at hk
      rw [List.cons_append, List.cons_append]
      by_cases hb : blank c = true
      · rw [pcs_blank hb] at hk
        obtain ⟨P, h1, h2, h3⟩ := ih (a + 1) u v (by omega) hk
        rw [pcs_blank hb, pcs_blank hb]
        rw [show a + 1 + u.length = a + (c :: u).length by simp; omega] at h1 h2 h3
        exact ⟨P, h1, h2, h3⟩
      · by_cases h35 : c.toNat = 35
        · rw [pcs_hash h35] at hk
          obtain ⟨n1, n2⟩ := note_cut v [] u
          rw [drop_cut u v _ n2] at hk
          obtain ⟨P, h1, h2, h3⟩ := ih (a + 1 + noteLen (u ++ 10 :: v)) (u.drop (noteLen (u ++ 10 :: v))) v (by simp; omega) hk
          rw [show a + 1 + noteLen (u ++ 10 :: v) + (u.drop (noteLen (u ++ 10 :: v))).length = a + (c :: u).length by simp; omega] at h1 h2 h3
          rw [pcs_hash h35, pcs_hash h35, drop_cut u v _ n2, ← n1, drop_cut u [] _ n2]
          exact ⟨P, h1, h2, h3⟩
        · by_cases hk0 : kind c = 0
          · rw [pcs_none (by simpa using hb) h35 hk0] at hk
            exact absurd rfl (hk _ (List.mem_singleton.2 rfl))
          · rw [pcs_tok hk0] at hk
            obtain ⟨n1, n2⟩ := run_cut (k := kind c) v [] u
            have hk' := fun y hy => hk y (List.mem_cons_of_mem _ hy)
            rw [drop_cut u v _ n2] at hk'
            obtain ⟨P, h1, h2, h3⟩ := ih (a + 1 + runLen (kind c) (u ++ 10 :: v)) (u.drop (runLen (kind c) (u ++ 10 :: v))) v (by simp; omega) hk'
            rw [show a + 1 + runLen (kind c) (u ++ 10 :: v) + (u.drop (runLen (kind c) (u ++ 10 :: v))).length = a + (c :: u).length by simp; omega] at h1 h2 h3
            have et : tkOf a c (u ++ [10]) = tkOf a c (u ++ 10 :: v) := by
              unfold tkOf
              rw [← n1, List.take_append_of_le_length n2, List.take_append_of_le_length n2]
            rw [pcs_tok hk0, pcs_tok hk0, drop_cut u v _ n2, ← n1, drop_cut u [] _ n2, et, h1, h2]
            refine ⟨tkOf a c (u ++ 10 :: v) :: P, rfl, rfl, fun y hy => ?_⟩
            rcases List.mem_cons.1 hy with rfl | hy
            · show a < _
              simp
            · exact h3 y hy

/-- Fields look no further than the line's end. -/
theorem fields_cut : ∀ (n : Nat) (X : List Tk) (F : Fl), X.length ≤ n → Ends X → ∃ b F' X3, (∀ Z, fieldsS (X ++ Z) F = (b, F', X3 ++ Z)) ∧ (∃ pre, X = pre ++ X3) ∧ X3.length ≤ X.length ∧ (b = true → X3 = [] ∨ Ends X3) ∧ (b = false → X3 ≠ []) := by
  intro n
  induction n with
  | zero => intro X F h hE; obtain ⟨x, r, rfl⟩ := hE.cons; simp at h
  | succ n ih =>
    intro X F h hE
    obtain ⟨x, r, rfl⟩ := hE.cons
    simp only [List.length_cons] at h
    by_cases h4 : x.k = 4
    · cases hf : full F with
      | true => exact ⟨true, F, r, fun Z => by rw [List.cons_append, fieldsS_end h4 hf], ⟨[x], rfl⟩, by simp, fun _ => hE.more, by simp⟩
      | false => exact ⟨false, F, x :: r, fun Z => by rw [List.cons_append, fieldsS_early h4 hf], ⟨[], rfl⟩, by simp, by simp, by simp⟩
    · cases hi : fieldIx x.t with
      | none => exact ⟨false, F, x :: r, fun Z => by rw [List.cons_append, fieldsS_not h4 hi], ⟨[], rfl⟩, by simp, by simp, by simp⟩
      | some k =>
        cases hk : (F k).isSome with
        | true => exact ⟨false, F, x :: r, fun Z => by rw [List.cons_append, fieldsS_twice h4 hi hk], ⟨[], rfl⟩, by simp, by simp, by simp⟩
        | false =>
          have hE1 := hE.next h4
          obtain ⟨y, r2, rfl⟩ := hE1.cons
          by_cases hy : y.k = 3
          · have hE2 := hE1.next (by omega)
            obtain ⟨z, r3, rfl⟩ := hE2.cons
            by_cases hz : z.k = 2
            · have hE3 := hE2.next (by omega)
              obtain ⟨b, F', X3, g1, ⟨pre, g2⟩, g3, g4, g5⟩ := ih r3 (fset F k z.n) (by simp at h; omega) hE3
              exact ⟨b, F', X3, fun Z => by rw [List.cons_append, List.cons_append, List.cons_append, fieldsS_go h4 hi hk hy hz, g1], ⟨x :: y :: z :: pre, by rw [g2]; rfl⟩, by simp; omega, g4, g5⟩
            · exact ⟨false, F, z :: r3, fun Z => by rw [List.cons_append, List.cons_append, List.cons_append, fieldsS_num h4 hi hk hy hz], ⟨[x, y], rfl⟩, by simp only [List.length_cons]; omega, by simp, by simp⟩
          · exact ⟨false, F, y :: r2, fun Z => by rw [List.cons_append, List.cons_append, fieldsS_eq h4 hi hk hy], ⟨[x], rfl⟩, by simp only [List.length_cons]; omega, by simp, by simp⟩
/-- Whole lines: all of them are read, or it stops within them. -/
theorem tasks_cut : ∀ (n : Nat) (X : List Tk), X.length ≤ n → (X = [] ∨ Ends X) →
    (∃ l, ∀ Z, tasksS (X ++ Z) = (l ++ (tasksS Z).1, (tasksS Z).2)) ∨ (∃ l x X3, (∃ pre, X = pre ++ x :: X3) ∧ ∀ Z, tasksS (X ++ Z) = (l, x :: X3 ++ Z)) := by
  intro n
  induction n with
  | zero => intro X h hE; have : X = [] := List.eq_nil_of_length_eq_zero (by omega); subst this; exact .inl ⟨[], fun Z => by simp⟩
  | succ n ih =>
    intro X h hE
    rcases hE with rfl | hE
    · exact .inl ⟨[], fun Z => by simp⟩
    obtain ⟨x, r, rfl⟩ := hE.cons
    simp only [List.length_cons] at h
    by_cases h4 : x.k = 4
    · rcases ih r (by omega) hE.more with ⟨l, hl⟩ | ⟨l, x', X3, ⟨pre, hp⟩, hl⟩
      · exact .inl ⟨l, fun Z => by rw [List.cons_append, tasksS_line h4, hl]⟩
      · exact .inr ⟨l, x', X3, ⟨x :: pre, by rw [hp]; rfl⟩, fun Z => by rw [List.cons_append, tasksS_line h4, hl]⟩
    · by_cases ht : x.t = taskW
      · have hE1 := hE.next h4
        obtain ⟨y, r2, rfl⟩ := hE1.cons
        by_cases hy : y.k = 1
        · have hE2 := hE1.next (by omega)
          obtain ⟨b, F', X3, g1, ⟨pre, g2⟩, g3, g4, g5⟩ := fields_cut r2.length r2 fnone (Nat.le_refl _) hE2
          cases b with
          | true =>
            rcases ih X3 (by simp at h; omega) (g4 rfl) with ⟨l, hl⟩ | ⟨l, x', X4, ⟨pre', hp⟩, hl⟩
            · exact .inl ⟨taskOf y.t F' :: l, fun Z => by rw [List.cons_append, List.cons_append, tasksS_ok h4 ht hy (g1 Z), hl]; rfl⟩
            · exact .inr ⟨taskOf y.t F' :: l, x', X4, ⟨x :: y :: (pre ++ pre'), by rw [g2, hp]; simp⟩, fun Z => by rw [List.cons_append, List.cons_append, tasksS_ok h4 ht hy (g1 Z), hl]⟩
          | false =>
            obtain ⟨z, X4, rfl⟩ : ∃ z X4, X3 = z :: X4 := by
              cases X3 with
              | nil => exact absurd rfl (g5 rfl)
              | cons z X4 => exact ⟨z, X4, rfl⟩
            exact .inr ⟨[], z, X4, ⟨x :: y :: pre, by rw [g2]; rfl⟩, fun Z => by rw [List.cons_append, List.cons_append, tasksS_bad h4 ht hy (g1 Z)]⟩
        · exact .inr ⟨[], y, r2, ⟨[x], rfl⟩, fun Z => by rw [List.cons_append, List.cons_append, tasksS_name h4 ht hy]⟩
      · exact .inr ⟨[], x, r, ⟨[], rfl⟩, fun Z => by rw [List.cons_append, tasksS_word h4 ht]⟩
end Go.Proofs.YtlelnoalajeihaaDoor
