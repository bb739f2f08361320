/- Find, and the law's finds. -/
import Derived.Test.YtghijgpelkjohaaRow
namespace Go.Proofs.Ytghijgpelkjohaa
open Go.RowKit
set_option linter.unusedVariables false
set_option linter.unusedSimpArgs false

/-- The first place of a task of that name. -/
def fnd : List Ts → ByteArray → Option Nat
  | [], _ => none
  | x :: r, s => if x.n = s then some 0 else (fnd r s).map (· + 1)
theorem drop_ts {l : List Ts} {k : Nat} {x : Ts} (h : l[k]? = some x) : l.drop k = x :: l.drop (k + 1) := by
  obtain ⟨hk, e⟩ := List.getElem?_eq_some_iff.1 h
  rw [List.drop_eq_getElem_cons hk, e]
theorem fnd_hit {l : List Ts} {s : ByteArray} {k : Nat} {x : Ts} (h : fnd l s = (fnd (l.drop k) s).map (· + k)) (hx : l[k]? = some x) (he : x.n = s) : fnd l s = some k := by
  rw [h, drop_ts hx, fnd, if_pos he]; simp
theorem fnd_miss {l : List Ts} {s : ByteArray} {k : Nat} {x : Ts} (h : fnd l s = (fnd (l.drop k) s).map (· + k)) (hx : l[k]? = some x) (he : x.n ≠ s) : fnd l s = (fnd (l.drop (k + 1)) s).map (· + (k + 1)) := by
  rw [h, drop_ts hx, fnd, if_neg he, Option.map_map]
  congr 1
  funext m
  simp; omega
theorem fnd_end {l : List Ts} {s : ByteArray} (h : fnd l s = (fnd (l.drop l.length) s).map (· + l.length)) : fnd l s = none := by
  rw [h, List.drop_length]; rfl
theorem fnd_self : ∀ {l : List Ts} {k : Nat} {x : Ts}, l[k]? = some x → ∃ m y, fnd l x.n = some m ∧ m ≤ k ∧ l[m]? = some y ∧ y.n = x.n
  | [], k, x, h => by simp at h
  | a :: r, k, x, h => by
    by_cases ha : a.n = x.n
    · exact ⟨0, a, by rw [fnd, if_pos ha], Nat.zero_le _, rfl, ha⟩
    · cases k with
      | zero => exact absurd (by simpa using congrArg (Option.map Ts.n) h) ha
      | succ k =>
        obtain ⟨m, y, h1, h2, h3, h4⟩ := fnd_self (l := r) (k := k) (x := x) (by simpa using h)
        exact ⟨m + 1, y, by rw [fnd, if_neg ha, h1]; rfl, by omega, by simpa using h3, h4⟩
theorem fnd_lt : ∀ {l : List Ts} {s : ByteArray} {m : Nat}, fnd l s = some m → m < l.length
  | [], s, m, h => by cases h
  | a :: r, s, m, h => by
    unfold fnd at h
    by_cases ha : a.n = s
    · rw [if_pos ha] at h; cases h; simp
    · rw [if_neg ha] at h
      cases hr : fnd r s with
      | none => rw [hr] at h; cases h
      | some k => rw [hr] at h; have := fnd_lt hr; simp at h; simp; omega

end Go.Proofs.Ytghijgpelkjohaa
