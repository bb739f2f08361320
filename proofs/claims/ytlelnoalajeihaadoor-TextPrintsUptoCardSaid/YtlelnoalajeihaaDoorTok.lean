/- What lines of tokens tell: bounds, and what is left: plain words. -/
import Derived.Test.YtlelnoalajeihaaDoorPars
import Derived.Test.YtlelnoalajeihaaDoorSpec
namespace Go.Proofs.YtlelnoalajeihaaDoor
open Go.RowKit
set_option linter.unusedVariables false
set_option linter.unusedSimpArgs false

/-- Tokens that are not too long, nor tell too much. -/
def Small (l : List Tk) : Prop := ∀ x ∈ l, x.t.length ≤ 100000 ∧ x.n ≤ 1099511627776
def FlW (F : Fl) : Prop := ∀ k n, F k = some n → n ≤ 1099511627776
theorem flw_none : FlW fnone := fun k n h => by cases h
theorem FlW.set {F : Fl} (h : FlW F) {k n : Nat} (hn : n ≤ 1099511627776) : FlW (fset F k n) := by
  intro i m hi
  unfold fset at hi
  split at hi
  · cases hi; exact hn
  · exact h i m hi
theorem Small.tail {x : Tk} {r : List Tk} (h : Small (x :: r)) : Small r := fun y hy => h y (List.mem_cons_of_mem _ hy)
theorem fv_bd {F : Fl} (h : FlW F) (k : Nat) : 0 ≤ fv F k ∧ fv F k ≤ 1099511627776 := fv_le h k
theorem taskOf_wf {nm : List UInt8} {F : Fl} (hn : nm.length ≤ 100000) (h : FlW F) : TsW (taskOf nm F) := by
  have b := fv_bd h
  refine ⟨by show (bs nm).size ≤ _; rw [bs_size]; omega, ?_, ?_, ?_, ?_, ?_, ?_⟩
  · have := b 0; exact ⟨by show _ ≤ fv F 0; omega, by show fv F 0 ≤ _; omega⟩
  · have := b 1; exact ⟨by show _ ≤ fv F 1; omega, by show fv F 1 ≤ _; omega⟩
  · have := b 1; have := b 2
    show in64 (if (F 2).isNone then fv F 1 else fv F 2)
    split <;> exact ⟨by omega, by omega⟩
  · have := b 3; exact ⟨by show _ ≤ fv F 3; omega, by show fv F 3 ≤ _; omega⟩
  · have := b 4
    show in64 (if (F 4).isNone then 1 else fv F 4)
    split <;> exact ⟨by omega, by omega⟩
  · have := b 5; exact ⟨by show _ ≤ fv F 5; omega, by show fv F 5 ≤ _; omega⟩
/-- Of what is left all is as it was, and the numbers are not too great. -/
theorem fieldsS_left : ∀ (n : Nat) (l : List Tk) (F : Fl), l.length ≤ n → (∃ q, l = q ++ (fieldsS l F).2.2) ∧ (Small l → FlW F → FlW (fieldsS l F).2.1) := by
  intro n
  induction n with
  | zero => intro l F h; have : l = [] := List.eq_nil_of_length_eq_zero (by omega); subst this; exact ⟨⟨[], by simp [fieldsS]⟩, fun _ h => by simpa [fieldsS] using h⟩
  | succ n ih =>
    intro l F h
    cases l with
    | nil => exact ⟨⟨[], by simp [fieldsS]⟩, fun _ h => by simpa [fieldsS] using h⟩
    | cons x r =>
      by_cases h4 : x.k = 4
      · cases hf : full F
        · rw [fieldsS_early h4 hf]; exact ⟨⟨[], rfl⟩, fun _ h => h⟩
        · rw [fieldsS_end h4 hf]; exact ⟨⟨[x], rfl⟩, fun _ h => h⟩
      · cases hx : fieldIx x.t with
        | none => rw [fieldsS_not h4 hx]; exact ⟨⟨[], rfl⟩, fun _ h => h⟩
        | some k =>
          cases hk : (F k).isSome
          · cases r with
            | nil => rw [fieldsS.eq_def]; simp only [if_neg h4, hx, hk]; exact ⟨⟨[x], by simp⟩, fun _ h => by simpa using h⟩
            | cons y r2 =>
              by_cases h3 : y.k = 3
              · cases r2 with
                | nil => rw [fieldsS.eq_def]; simp only [if_neg h4, hx, hk, if_pos h3]; exact ⟨⟨[x, y], by simp⟩, fun _ h => by simpa using h⟩
                | cons z r3 =>
                  by_cases h2 : z.k = 2
                  · rw [fieldsS_go h4 hx hk h3 h2]
                    obtain ⟨⟨q, hq⟩, hw⟩ := ih r3 (fset F k z.n) (by simp at h; omega)
                    exact ⟨⟨x :: y :: z :: q, by simpa using hq⟩, fun hs hF => hw hs.tail.tail.tail (hF.set (hs z (by simp)).2)⟩
                  · rw [fieldsS_num h4 hx hk h3 h2]; exact ⟨⟨[x, y], rfl⟩, fun _ h => h⟩
              · rw [fieldsS_eq h4 hx hk h3]; exact ⟨⟨[x], rfl⟩, fun _ h => h⟩
          · rw [fieldsS_twice h4 hx hk]; exact ⟨⟨[], rfl⟩, fun _ h => h⟩
theorem Rds.left {q l : List Tk} (h : Rds (q ++ l)) : Rds l := by
  induction q with
  | nil => exact h
  | cons a q ih => exact ih (Rds.tail h)
theorem Small.left {q l : List Tk} (h : Small (q ++ l)) : Small l := fun y hy => h y (by simp [hy])
theorem fields_rds {l r : List Tk} {F G : Fl} {b : Bool} (h : Rds l) (hf : fieldsS l F = (b, G, r)) : Rds r := by
  obtain ⟨⟨q, hq⟩, _⟩ := fieldsS_left l.length l F (Nat.le_refl _)
  rw [hf] at hq
  exact Rds.left (hq ▸ h)
theorem fields_small {l r : List Tk} {F G : Fl} {b : Bool} (h : Small l) (hf : fieldsS l F = (b, G, r)) : Small r := by
  obtain ⟨⟨q, hq⟩, _⟩ := fieldsS_left l.length l F (Nat.le_refl _)
  rw [hf] at hq
  exact Small.left (hq ▸ h)
theorem fields_flw {l r : List Tk} {F G : Fl} {b : Bool} (h : Small l) (hF : FlW F) (hf : fieldsS l F = (b, G, r)) : FlW G := by
  have := (fieldsS_left l.length l F (Nat.le_refl _)).2 h hF
  rwa [hf] at this
theorem tasks_wf : ∀ (n : Nat) (l : List Tk), l.length ≤ n → Small l → ∀ x ∈ (tasksS l).1, TsW x := by
  intro n
  induction n with
  | zero => intro l h _; have : l = [] := List.eq_nil_of_length_eq_zero (by omega); subst this; rw [tasksS_nil]; simp
  | succ n ih =>
    intro l h hs
    cases l with
    | nil => rw [tasksS_nil]; simp
    | cons x r =>
      by_cases h4 : x.k = 4
      · rw [tasksS_line h4]; exact ih r (by simp at h; omega) hs.tail
      · by_cases ht : x.t = taskW
        · cases r with
          | nil => rw [tasksS.eq_def]; simp only [if_neg h4, if_pos ht]; simp
          | cons y r2 =>
            by_cases hy : y.k = 1
            · rcases e : fieldsS r2 fnone with ⟨b, F, l2⟩
              cases b
              · rw [tasksS_bad h4 ht hy e]; simp
              · rw [tasksS_ok h4 ht hy e]
                have hl := fieldsS_len r2.length r2 fnone (Nat.le_refl _)
                rw [e] at hl
                intro t ht
                rcases List.mem_cons.1 ht with rfl | ht
                · exact taskOf_wf (hs y (by simp)).1 (fields_flw hs.tail.tail flw_none e)
                · exact ih l2 (by simp at h hl ⊢; omega) (fields_small hs.tail.tail e) t ht
            · rw [tasksS_name h4 ht hy]; simp
        · rw [tasksS_word h4 ht]; simp
theorem tasks_count : ∀ (n : Nat) (l : List Tk), l.length ≤ n → (tasksS l).1.length ≤ l.length := by
  intro n
  induction n with
  | zero => intro l h; have : l = [] := List.eq_nil_of_length_eq_zero (by omega); subst this; rw [tasksS_nil]; simp
  | succ n ih =>
    intro l h
    cases l with
    | nil => rw [tasksS_nil]; simp
    | cons x r =>
      by_cases h4 : x.k = 4
      · rw [tasksS_line h4]; have := ih r (by simp at h; omega); simp; omega
      · by_cases ht : x.t = taskW
        · cases r with
          | nil => rw [tasksS.eq_def]; simp only [if_neg h4, if_pos ht]; simp
          | cons y r2 =>
            by_cases hy : y.k = 1
            · rcases e : fieldsS r2 fnone with ⟨b, F, l2⟩
              cases b
              · rw [tasksS_bad h4 ht hy e]; simp
              · rw [tasksS_ok h4 ht hy e]
                have hl := fieldsS_len r2.length r2 fnone (Nat.le_refl _)
                rw [e] at hl
                have := ih l2 (by simp at h hl ⊢; omega)
                simp at h hl ⊢
                omega
            · rw [tasksS_name h4 ht hy]; simp
        · rw [tasksS_word h4 ht]; simp
end Go.Proofs.YtlelnoalajeihaaDoor
