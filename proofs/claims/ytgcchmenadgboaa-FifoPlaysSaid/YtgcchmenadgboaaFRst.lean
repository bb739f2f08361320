/- Rests; rows that came in; what lies in order. -/
import Derived.Test.YtgcchmenadgboaaFAwk
namespace Go.Proofs.Ytgcchmenadgboaa
open Go.RowKit Go.Shelf
set_option linter.unusedVariables false
set_option linter.unusedSimpArgs false
attribute [local go_sem ↓] Go.wp_at_zero Go.wp_at_succ
/-- A slice of numbers that came in. -/
def IntRow (w : World) (a : Option Addr) (len cap : Nat) (zs : List Int) : Prop :=
  (a = none ∧ len = 0 ∧ cap = 0 ∧ zs = []) ∨
  ∃ x, a = some x ∧ len ≤ cap ∧ cap ≤ maxLen ∧ zs.length = cap ∧ (∀ i, i < zs.length → w.cell? (x.add i) = some (.int .i64 (zs.getD i 0))) ∧ ∀ n ∈ zs, (Lit.int .i64 n).wf = true
theorem in64_w {n : Int} (h : (Lit.int .i64 n).wf = true) : in64 n := by
  simp [Lit.wf, IntKind.min, IntKind.max, IntKind.bits, IntKind.signed] at h
  unfold in64
  omega
theorem IntRow.row {w : World} {A : Option Addr} {n cap : Nat} {z : List Int} (h : IntRow w A n cap z) : RowOI w A n cap (z.take n) ∧ n ≤ cap ∧ cap ≤ 9223372036854775807 ∧ ∀ x ∈ z, in64 x := by
  rcases h with ⟨rfl, rfl, rfl, rfl⟩ | ⟨a, rfl, h1, h2, h3, h4, h5⟩
  · exact ⟨⟨rfl, fun _ => ⟨rfl, rfl⟩, fun a e => by cases e⟩, Nat.le_refl _, by omega, by simp⟩
  · unfold maxLen at h2
    refine ⟨⟨by simp; omega, fun e => (by cases e), fun b e => ?_⟩, h1, by omega, fun x hx => in64_w (h5 x hx)⟩
    cases e
    intro i x hx
    have hi : i < z.length := by
      have := (List.getElem?_eq_some_iff.1 hx).1
      simp at this; omega
    have hz : z[i]? = some x := by
      rw [List.getElem?_take] at hx
      split at hx
      · exact hx
      · cases hx
    have hg := h4 i hi
    rw [List.getD_eq_getElem?_getD, hz] at hg
    exact hg
theorem RowOI.cut {w : World} {A : Option Addr} {n c m : Nat} {xs : List Int} (h : RowOI w A n c xs) (hm : m ≤ n) : RowOI w A m c (xs.take m) := by
  refine ⟨by rw [List.length_take, h.len]; omega, fun e => ?_, fun a e i x hx => ?_⟩
  · have := h.nil e; omega
  · rw [List.getElem?_take] at hx
    split at hx
    · exact h.row a e i x hx
    · cases hx
def restI (x n : Int) : Int := (wrap64 (x.tmod n + n)).tmod n
theorem restI_bd (x n : Int) (hn : 0 < n) (hn2 : n ≤ 100000) : 0 ≤ restI x n ∧ restI x n < n := by
  have ha : -n < x.tmod n ∧ x.tmod n < n := by
    rcases Int.le_total 0 x with h | h
    · rw [Int.tmod_eq_emod_of_nonneg h]
      have := Int.emod_nonneg x (show n ≠ 0 by omega)
      have := Int.emod_lt_of_pos x hn
      omega
    · obtain ⟨m, rfl⟩ : ∃ m, x = -m := ⟨-x, by omega⟩
      rw [Int.neg_tmod, Int.tmod_eq_emod_of_nonneg (by omega)]
      have := Int.emod_nonneg m (show n ≠ 0 by omega)
      have := Int.emod_lt_of_pos m hn
      omega
  unfold restI
  generalize x.tmod n = a at *
  rw [IntWalk.wrap64_in _ (by omega), Int.tmod_eq_emod_of_nonneg (by omega)]
  exact ⟨Int.emod_nonneg _ (by omega), Int.emod_lt_of_pos _ hn⟩
set_option maxHeartbeats 1000000 in
theorem rest_any (x n : Int) (w : World) (hx : in64 x) (hn : 0 < n) (hn2 : n ≤ 100000) : Calls Try.prog 11 #[.int .i64 x, .int .i64 n] w fun e w' => e = .returned (.int .i64 (restI x n)) ∧ w = w' := by
  obtain ⟨h1, h2⟩ := hx
  unfold restI
  go_enter Try.func11, Try.ntmps11
  go_wp2
  go_ret
  exact ⟨rfl, rfl⟩

/-- n numbers from a on. -/
def seqI (a : Nat) : Nat → List Int
  | 0 => []
  | n + 1 => (a : Int) :: seqI (a + 1) n
theorem seqI_length (a n : Nat) : (seqI a n).length = n := by
  induction n generalizing a with
  | zero => rfl
  | succ n ih => simp [seqI, ih]
theorem seqI_snoc (a n : Nat) : seqI a n ++ [((a + n : Nat) : Int)] = seqI a (n + 1) := by
  induction n generalizing a with
  | zero => rfl
  | succ n ih =>
    rw [seqI, List.cons_append, show a + (n + 1) = (a + 1) + n by omega, ih (a + 1)]
    rfl
end Go.Proofs.Ytgcchmenadgboaa
