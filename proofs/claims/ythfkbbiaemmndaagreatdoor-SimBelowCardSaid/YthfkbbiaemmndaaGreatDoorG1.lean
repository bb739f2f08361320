/- Texts about the program, one after the other: Bytes. -/
set_option linter.unusedVariables false
set_option linter.unusedSimpArgs false
set_option maxRecDepth 100000
set_option maxHeartbeats 16000000
namespace Go.Proofs.YthfkbbiaemmndaaGreatDoor
section
def ltr (c : UInt8) : Bool := decide ((97 ≤ c.toNat ∧ c.toNat ≤ 122) ∨ (65 ≤ c.toNat ∧ c.toNat ≤ 90) ∨ c.toNat = 95)
def dgt (c : UInt8) : Bool := decide (48 ≤ c.toNat ∧ c.toNat ≤ 57)
def kind (c : UInt8) : Nat := if ltr c then 1 else if dgt c then 2 else if c.toNat = 61 then 3 else if c.toNat = 10 then 4 else 0
def goes (k : Nat) (c : UInt8) : Bool := (dgt c && (decide (k = 1) || decide (k = 2))) || (decide (k = 1) && (ltr c || decide (c.toNat = 46) || decide (c.toNat = 45)))
def blank (c : UInt8) : Bool := decide (c.toNat = 32) || decide (c.toNat = 9)
theorem kind_le (c : UInt8) : kind c ≤ 4 := by unfold kind; repeat (first | omega | split)
theorem kind_blank {c : UInt8} (h : blank c = true) : kind c = 0 := by
 simp [blank] at h
 have a : ltr c = false := by simp [ltr]; omega
 have b : dgt c = false := by simp [dgt]; omega
 unfold kind
 rw [a, b, if_neg (by simp), if_neg (by simp), if_neg (by omega), if_neg (by omega)]
theorem kind_hash {c : UInt8} (h : c.toNat = 35) : kind c = 0 := by
 have a : ltr c = false := by simp [ltr]; omega
 have b : dgt c = false := by simp [dgt]; omega
 unfold kind
 rw [a, b, if_neg (by simp), if_neg (by simp), if_neg (by omega), if_neg (by omega)]
theorem blank_hash {c : UInt8} (h : c.toNat = 35) : blank c = false := by simp [blank]; omega
def noteLen : List UInt8 → Nat
 | [] => 0
 | c :: r => if c.toNat = 10 then 0 else noteLen r + 1
def runLen (k : Nat) : List UInt8 → Nat
 | [] => 0
 | c :: r => if goes k c then runLen k r + 1 else 0
theorem noteLen_le : ∀ l : List UInt8, noteLen l ≤ l.length
 | [] => Nat.le_refl _
 | c :: r => by have := noteLen_le r; unfold noteLen; split <;> simp <;> omega
theorem runLen_le (k : Nat) : ∀ l : List UInt8, runLen k l ≤ l.length
 | [] => Nat.le_refl _
 | c :: r => by have := runLen_le k r; unfold runLen; split <;> simp <;> omega
def numOf (l : List UInt8) : Nat := l.foldl (fun n c => min (n * 10 + (c.toNat - 48)) 1099511627776) 0
theorem numOf_snoc (l : List UInt8) (c : UInt8) : numOf (l ++ [c]) = min (numOf l * 10 + (c.toNat - 48)) 1099511627776 := by simp [numOf]
theorem numOf_le (l : List UInt8) : numOf l ≤ 1099511627776 := by
 rcases List.eq_nil_or_concat l with rfl | ⟨r, c, rfl⟩
 ·simp [numOf]
 ·rw [List.concat_eq_append, numOf_snoc]; omega
structure Tk where
 k : Nat
 at' : Nat
 t : List UInt8
 n : Nat
def tkOf (at' : Nat) (c : UInt8) (r : List UInt8) : Tk :=
 ⟨kind c, at', c :: r.take (runLen (kind c) r), if kind c = 2 then numOf (c :: r.take (runLen (kind c) r)) else 0⟩
theorem take_goes (k : Nat) : ∀ l : List UInt8, ∀ d ∈ l.take (runLen k l), goes k d = true
 | [], d, h => by simp at h
 | c :: r, d, h => by
   unfold runLen at h
   by_cases hg : goes k c = true
   ·rw [if_pos hg, List.take_succ_cons, List.mem_cons] at h
    rcases h with rfl | h
    ·exact hg
    ·exact take_goes k r d h
   ·rw [if_neg hg] at h; simp at h
theorem goes_2 (c : UInt8) : goes 2 c = dgt c := by simp [goes]
theorem kind_2 {c : UInt8} (h : kind c = 2) : dgt c = true := by
 unfold kind at h
 by_cases h1 : ltr c = true
 ·rw [if_pos h1] at h; omega
 ·rw [if_neg h1] at h
  by_cases h2 : dgt c = true
  ·exact h2
  ·rw [if_neg h2] at h
   split at h
   ·omega
   ·split at h <;> omega
theorem tkOf_digits {i : Nat} {c : UInt8} {r : List UInt8} (h : kind c = 2) : ∀ d ∈ (tkOf i c r).t, dgt d = true := by
 intro d hd
 simp only [tkOf, List.mem_cons] at hd
 rcases hd with rfl | hd
 ·exact kind_2 h
 ·rw [← goes_2]; rw [h] at hd; exact take_goes 2 r d hd
def pcs (at' : Nat) : List UInt8 → List Tk
 | [] => []
 | c :: r =>
   if blank c then pcs (at' + 1) r
   else if c.toNat = 35 then pcs (at' + 1 + noteLen r) (r.drop (noteLen r))
   else if kind c = 0 then [⟨0, at', [], 0⟩]
   else tkOf at' c r :: pcs (at' + 1 + runLen (kind c) r) (r.drop (runLen (kind c) r))
termination_by l => l.length
decreasing_by all_goals (simp only [List.length_cons, List.length_drop]; omega)
theorem pcs_nil (a : Nat) : pcs a [] = [] := by rw [pcs]
theorem pcs_blank {a : Nat} {c : UInt8} {r : List UInt8} (h : blank c = true) : pcs a (c :: r) = pcs (a + 1) r := by rw [pcs, if_pos h]
theorem pcs_hash {a : Nat} {c : UInt8} {r : List UInt8} (h : c.toNat = 35) : pcs a (c :: r) = pcs (a + 1 + noteLen r) (r.drop (noteLen r)) := by
 rw [pcs, if_neg (by rw [blank_hash h]; simp), if_pos h]
theorem pcs_none {a : Nat} {c : UInt8} {r : List UInt8} (h1 : blank c = false) (h2 : c.toNat ≠ 35) (h3 : kind c = 0) : pcs a (c :: r) = [⟨0, a, [], 0⟩] := by
 rw [pcs, if_neg (by rw [h1]; simp), if_neg h2, if_pos h3]
theorem kind_pos {c : UInt8} (h : kind c ≠ 0) : blank c = false ∧ c.toNat ≠ 35 :=
 ⟨by cases hb : blank c with
  | false => rfl
  | true => exact absurd (kind_blank hb) h,
  fun e => h (kind_hash e)⟩
theorem pcs_tok {a : Nat} {c : UInt8} {r : List UInt8} (h : kind c ≠ 0) : pcs a (c :: r) = tkOf a c r :: pcs (a + 1 + runLen (kind c) r) (r.drop (runLen (kind c) r)) := by
 rw [pcs, if_neg (by rw [(kind_pos h).1]; simp), if_neg (kind_pos h).2, if_neg h]
theorem pcs_length : ∀ (n a : Nat) (l : List UInt8), l.length ≤ n → (pcs a l).length ≤ l.length := by
 intro n
 induction n with
 | zero => intro a l h; have : l = [] := List.eq_nil_of_length_eq_zero (by omega); subst this; rw [pcs_nil]; simp
 | succ n ih =>
   intro a l h
   cases l with
   | nil => rw [pcs_nil]; simp
   | cons c r =>
     simp only [List.length_cons] at h
     rw [pcs]
     split
     ·have := ih (a + 1) r (by omega); simp; omega
     ·split
      ·have := ih (a + 1 + noteLen r) (r.drop (noteLen r)) (by simp; omega); simp at this ⊢; omega
      ·split
       ·simp
       ·have := ih (a + 1 + runLen (kind c) r) (r.drop (runLen (kind c) r)) (by simp; omega); simp at this ⊢; omega
def toksOf (ps : List Tk) : List Tk := ps.takeWhile fun x => decide (x.k ≠ 0)
end
end Go.Proofs.YthfkbbiaemmndaaGreatDoor
