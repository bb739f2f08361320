/- Texts of tasks, over tokens: plain words. -/
import Derived.Test.YtlelnoalajeihaaDoorTsk
namespace Go.Proofs.YtlelnoalajeihaaDoor
open Go.RowKit
set_option linter.unusedVariables false
set_option linter.unusedSimpArgs false

/-- The words of fields, in order: c, t, d, j, q, p. -/
def wordAt : Nat → List UInt8
  | 0 => [99]
  | 1 => [116]
  | 2 => [100]
  | 3 => [106]
  | 4 => [113]
  | _ => [112]
def taskW : List UInt8 := [116, 97, 115, 107]
/-- Which field it is that a word names. -/
def fieldIx (t : List UInt8) : Option Nat :=
  if t = [99] then some 0 else if t = [116] then some 1 else if t = [100] then some 2 else if t = [106] then some 3 else if t = [113] then some 4 else if t = [112] then some 5 else none
theorem fieldIx_some {t : List UInt8} {k : Nat} (h : fieldIx t = some k) : k < 6 ∧ t = wordAt k := by
  unfold fieldIx at h
  repeat (first | (split at h) | (cases h; rename_i e; exact ⟨by omega, e⟩) | (cases h))
theorem fieldIx_word : ∀ k, k < 6 → fieldIx (wordAt k) = some k := by decide
theorem wordAt_inj : ∀ i, i < 6 → ∀ j, j < 6 → wordAt i = wordAt j → i = j := by decide
theorem fieldIx_none {t : List UInt8} (h : fieldIx t = none) : ∀ k, k < 6 → t ≠ wordAt k := by
  intro k hk e
  rw [e, fieldIx_word k hk] at h
  cases h

/-- The numbers of fields that were there. -/
abbrev Fl := Nat → Option Nat
def fnone : Fl := fun _ => none
def fset (F : Fl) (k n : Nat) : Fl := fun i => if i = k then some n else F i
def full (F : Fl) : Bool := (F 0).isSome && ((F 1).isSome && (F 5).isSome)
/-- A field's number, or 0. -/
def fv (F : Fl) (k : Nat) : Int := ((F k).getD 0 : Nat)
/-- A task as far as it was read. -/
def partT (nm : List UInt8) (F : Fl) : Ts := ⟨bs nm, fv F 0, fv F 1, fv F 2, fv F 3, fv F 4, fv F 5⟩
/-- A task that was read. -/
def taskOf (nm : List UInt8) (F : Fl) : Ts :=
  ⟨bs nm, fv F 0, fv F 1, if (F 2).isNone then fv F 1 else fv F 2, fv F 3, if (F 4).isNone then 1 else fv F 4, fv F 5⟩

/-- A line's fields: whether all goes well; the numbers; what is left. -/
def fieldsS : List Tk → Fl → Bool × Fl × List Tk
  | [], F => (false, F, [])
  | x :: r, F =>
    if x.k = 4 then (if full F then (true, F, r) else (false, F, x :: r))
    else match fieldIx x.t with
      | none => (false, F, x :: r)
      | some k =>
        if (F k).isSome then (false, F, x :: r)
        else match r with
          | [] => (false, F, [])
          | y :: r2 =>
            if y.k = 3 then match r2 with
              | [] => (false, F, [])
              | z :: r3 => if z.k = 2 then fieldsS r3 (fset F k z.n) else (false, F, z :: r3)
            else (false, F, y :: r2)
theorem fieldsS_end {x : Tk} {r : List Tk} {F : Fl} (h : x.k = 4) (hf : full F = true) : fieldsS (x :: r) F = (true, F, r) := by rw [fieldsS, if_pos h, if_pos hf]
theorem fieldsS_early {x : Tk} {r : List Tk} {F : Fl} (h : x.k = 4) (hf : full F = false) : fieldsS (x :: r) F = (false, F, x :: r) := by rw [fieldsS, if_pos h, if_neg (by rw [hf]; simp)]
theorem fieldsS_not {x : Tk} {r : List Tk} {F : Fl} (h : x.k ≠ 4) (hf : fieldIx x.t = none) : fieldsS (x :: r) F = (false, F, x :: r) := by rw [fieldsS, if_neg h, hf]
theorem fieldsS_twice {x : Tk} {r : List Tk} {F : Fl} {k : Nat} (h : x.k ≠ 4) (hf : fieldIx x.t = some k) (hk : (F k).isSome = true) : fieldsS (x :: r) F = (false, F, x :: r) := by
  cases r <;> (rw [fieldsS.eq_def]; simp only [if_neg h, hf, if_pos hk])
theorem fieldsS_eq {x y : Tk} {r : List Tk} {F : Fl} {k : Nat} (h : x.k ≠ 4) (hf : fieldIx x.t = some k) (hk : (F k).isSome = false) (hy : y.k ≠ 3) : fieldsS (x :: y :: r) F = (false, F, y :: r) := by
  rw [fieldsS.eq_def]; simp only [if_neg h, hf, hk, if_neg hy]; simp
theorem fieldsS_num {x y z : Tk} {r : List Tk} {F : Fl} {k : Nat} (h : x.k ≠ 4) (hf : fieldIx x.t = some k) (hk : (F k).isSome = false) (hy : y.k = 3) (hz : z.k ≠ 2) : fieldsS (x :: y :: z :: r) F = (false, F, z :: r) := by
  rw [fieldsS.eq_def]; simp only [if_neg h, hf, hk, if_pos hy, if_neg hz]; simp
theorem fieldsS_go {x y z : Tk} {r : List Tk} {F : Fl} {k : Nat} (h : x.k ≠ 4) (hf : fieldIx x.t = some k) (hk : (F k).isSome = false) (hy : y.k = 3) (hz : z.k = 2) : fieldsS (x :: y :: z :: r) F = fieldsS r (fset F k z.n) := by
  rw [fieldsS.eq_def]; simp only [if_neg h, hf, hk, if_pos hy, if_pos hz]; simp
theorem fieldsS_len : ∀ (n : Nat) (l : List Tk) (F : Fl), l.length ≤ n → (fieldsS l F).2.2.length ≤ l.length := by
  intro n
  induction n with
  | zero => intro l F h; have : l = [] := List.eq_nil_of_length_eq_zero (by omega); subst this; simp [fieldsS]
  | succ n ih =>
    intro l F h
    rw [fieldsS.eq_def]
    split
    · simp
    · rename_i x r
      split
      · split <;> simp
      · split
        · simp
        · split
          · simp
          · split
            · simp
            · split
              · split
                · simp
                · split
                  · rename_i z r3 _
                    have := ih r3 (fset F ‹Nat› z.n) (by simp at h; omega)
                    simp; omega
                  · simp
              · simp

/-- All lines: the tasks, and what is left where a token can't stand. -/
def tasksS : List Tk → List Ts × List Tk
  | [] => ([], [])
  | x :: r =>
    if x.k = 4 then tasksS r
    else if x.t = taskW then match r with
      | [] => ([], [])
      | y :: r2 =>
        if y.k = 1 then
          (if (fieldsS r2 fnone).1 = true then (taskOf y.t (fieldsS r2 fnone).2.1 :: (tasksS (fieldsS r2 fnone).2.2).1, (tasksS (fieldsS r2 fnone).2.2).2)
          else ([], (fieldsS r2 fnone).2.2))
        else ([], y :: r2)
    else ([], x :: r)
termination_by l => l.length
decreasing_by
  all_goals first
    | (simp; done)
    | (have := fieldsS_len r2.length r2 fnone (Nat.le_refl _); simp; omega)
theorem tasksS_nil : tasksS [] = ([], []) := by rw [tasksS]
theorem tasksS_line {x : Tk} {r : List Tk} (h : x.k = 4) : tasksS (x :: r) = tasksS r := by rw [tasksS.eq_def]; simp only [if_pos h]
theorem tasksS_word {x : Tk} {r : List Tk} (h : x.k ≠ 4) (ht : x.t ≠ taskW) : tasksS (x :: r) = ([], x :: r) := by rw [tasksS.eq_def]; simp only [if_neg h, if_neg ht]
theorem tasksS_name {x y : Tk} {r : List Tk} (h : x.k ≠ 4) (ht : x.t = taskW) (hy : y.k ≠ 1) : tasksS (x :: y :: r) = ([], y :: r) := by rw [tasksS.eq_def]; simp only [if_neg h, if_pos ht, if_neg hy]
theorem tasksS_bad {x y : Tk} {r : List Tk} (h : x.k ≠ 4) (ht : x.t = taskW) (hy : y.k = 1) {F : Fl} {l : List Tk} (hf : fieldsS r fnone = (false, F, l)) : tasksS (x :: y :: r) = ([], l) := by
  rw [tasksS.eq_def]; simp only [if_neg h, if_pos ht, if_pos hy, hf]; simp
theorem tasksS_ok {x y : Tk} {r : List Tk} (h : x.k ≠ 4) (ht : x.t = taskW) (hy : y.k = 1) {F : Fl} {l : List Tk} (hf : fieldsS r fnone = (true, F, l)) : tasksS (x :: y :: r) = (taskOf y.t F :: (tasksS l).1, (tasksS l).2) := by
  rw [tasksS.eq_def]; simp only [if_neg h, if_pos ht, if_pos hy, hf]; simp

/-- A token whose text is a word's just if it is one. -/
def Good (x : Tk) : Prop := x.k = 1 ∨ ∀ c r, x.t = c :: r → ltr c = false
theorem Good.field {x : Tk} {k : Nat} (h : Good x) (hf : fieldIx x.t = some k) : x.k = 1 := by
  rcases h with h | h
  · exact h
  · obtain ⟨hk, ht⟩ := fieldIx_some hf
    have : ∀ k, k < 6 → ∃ c, wordAt k = [c] ∧ ltr c = true := by
      intro k hk
      rcases (by omega : k = 0 ∨ k = 1 ∨ k = 2 ∨ k = 3 ∨ k = 4 ∨ k = 5) with rfl | rfl | rfl | rfl | rfl | rfl <;> exact ⟨_, rfl, by decide⟩
    obtain ⟨c, hc, hl⟩ := this k hk
    rw [h c [] (ht.trans hc)] at hl
    cases hl
theorem Good.task {x : Tk} (h : Good x) (hf : x.t = taskW) : x.k = 1 := by
  rcases h with h | h
  · exact h
  · have := h 116 [97, 115, 107] hf
    exact absurd this (by decide)
/-- It ends with a line's end. -/
def Ends (l : List Tk) : Prop := ∃ q z, l = q ++ [z] ∧ z.k = 4
theorem Ends.next {x : Tk} {r : List Tk} (h : Ends (x :: r)) (hx : x.k ≠ 4) : Ends r := by
  obtain ⟨q, z, e, hz⟩ := h
  cases q with
  | nil => simp at e; exact absurd (e.1 ▸ hz) hx
  | cons a q => simp at e; exact ⟨q, z, e.2, hz⟩
theorem Ends.cons {l : List Tk} (h : Ends l) : ∃ x r, l = x :: r := by
  obtain ⟨q, z, rfl, _⟩ := h
  cases q <;> exact ⟨_, _, rfl⟩
theorem Ends.more {x : Tk} {r : List Tk} (h : Ends (x :: r)) : r = [] ∨ Ends r := by
  obtain ⟨q, z, e, hz⟩ := h
  cases q with
  | nil => simp at e; exact .inl e.2
  | cons a q => simp at e; exact .inr ⟨q, z, e.2, hz⟩
/-- Tokens as a reader has them. -/
structure Rds (l : List Tk) : Prop where
  good : ∀ x ∈ l, Good x
  ends : l = [] ∨ Ends l
theorem Rds.tail {x : Tk} {r : List Tk} (h : Rds (x :: r)) : Rds r :=
  ⟨fun y hy => h.good y (List.mem_cons_of_mem _ hy), by rcases h.ends with h | h; exact absurd h (by simp); exact h.more⟩
theorem Rds.next {x : Tk} {r : List Tk} (h : Rds (x :: r)) (hx : x.k ≠ 4) : ∃ y r2, r = y :: r2 := by
  rcases h.ends with h | h
  · exact absurd h (by simp)
  · exact (h.next hx).cons
theorem fset_same (F : Fl) (k n : Nat) : fset F k n k = some n := by simp [fset]
theorem fset_other (F : Fl) {k i : Nat} (n : Nat) (h : i ≠ k) : fset F k n i = F i := by simp [fset, h]
theorem fv_le {F : Fl} (h : ∀ k n, F k = some n → n ≤ 1099511627776) (k : Nat) : 0 ≤ fv F k ∧ fv F k ≤ 1099511627776 := by
  unfold fv
  cases e : F k with
  | none => simp
  | some n => have := h k n e; simp; omega

/-- What Read tells: the tasks, a place, an error. -/
def endTk (n : Nat) : Tk := ⟨4, n, [], 0⟩
end Go.Proofs.YtlelnoalajeihaaDoor
