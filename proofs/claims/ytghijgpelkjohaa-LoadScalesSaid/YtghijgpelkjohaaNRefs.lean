/- Contracts of the document's own answers (package cadencyref01), of Ceil, and of Sum. -/
import Derived.Test.YtghijgpelkjohaaNBase
namespace Go.Proofs.Ytghijgpelkjohaa
open Go.RowKit
set_option linter.unusedVariables false

set_option maxHeartbeats 400000 in
theorem refAdd_any (a b : Int) (ha : 0 ≤ a) (ha1 : a ≤ 18446744073709551615) (hb : 0 ≤ b) (hb1 : b ≤ 18446744073709551615) (w : World) :
    Calls Try.prog 48 #[.int .u64 a, .int .u64 b] w fun e w' => e = .returned (.agg #[.int .u64 (addN a b), .bool (addB a b)]) ∧ Below w.heap.size w w' := by
  by_cases h : a + b ≤ 18446744073709551615
  · have e1 : addN a b = a + b := by simp [addN, h]
    have e2 : addB a b = true := by simp [addB, h]
    have h' : ¬ 18446744073709551615 - b < a := by omega
    rw [e1, e2]
    clear e1 e2
    go_enter Try.func48, Try.ntmps48
    go_wp2
    go_returns
    exact ⟨rfl, by go_grown⟩
  · have e1 : addN a b = 0 := by simp [addN, h]
    have e2 : addB a b = false := by simp [addB, h]
    have h' : 18446744073709551615 - b < a := by omega
    rw [e1, e2]
    clear e1 e2
    go_enter Try.func48, Try.ntmps48
    go_wp2
    go_returns
    exact ⟨rfl, by go_grown⟩

theorem mul_over (a b : Int) (hb : 0 < b) (h : 18446744073709551615 / b < a) : ¬ a * b ≤ 18446744073709551615 := by
  intro hle
  have := (Int.le_ediv_iff_mul_le hb).2 hle
  omega
theorem mul_under (a b : Int) (hb : 0 < b) (h : ¬ 18446744073709551615 / b < a) : a * b ≤ 18446744073709551615 :=
  (Int.le_ediv_iff_mul_le hb).1 (by omega)

set_option maxHeartbeats 400000 in
theorem refMul_any (a b : Int) (ha : 0 ≤ a) (ha1 : a ≤ 18446744073709551615) (hb : 0 ≤ b) (hb1 : b ≤ 18446744073709551615) (w : World) :
    Calls Try.prog 47 #[.int .u64 a, .int .u64 b] w fun e w' => e = .returned (.agg #[.int .u64 (mulN a b), .bool (mulB a b)]) ∧ Below w.heap.size w w' := by
  by_cases hb0 : 0 < b
  · by_cases h : 18446744073709551615 / b < a
    · have e1 : mulN a b = 0 := by simp [mulN, mul_over a b hb0 h]
      have e2 : mulB a b = false := by simp [mulB, mul_over a b hb0 h]
      rw [e1, e2]
      clear e1 e2
      go_enter Try.func47, Try.ntmps47
      go_wp2
      go_returns
      exact ⟨rfl, by go_grown⟩
    · have hm := mul_under a b hb0 h
      have e1 : mulN a b = a * b := by simp [mulN, hm]
      have e2 : mulB a b = true := by simp [mulB, hm]
      have hp := mul_nonneg' a b ha hb
      rw [e1, e2]
      clear e1 e2
      go_enter Try.func47, Try.ntmps47
      go_wp2
      go_returns
      exact ⟨rfl, by go_grown⟩
  · obtain rfl : b = 0 := by omega
    have e1 : mulN a 0 = 0 := by simp [mulN]
    have e2 : mulB a 0 = true := by simp [mulB]
    rw [e1, e2]
    clear e1 e2
    go_enter Try.func47, Try.ntmps47
    go_wp2
    go_returns
    exact ⟨by simp, by go_grown⟩

theorem quo_le (a b : Int) (ha : 0 ≤ a) : 0 ≤ b → 0 ≤ a / b ∧ a / b ≤ a := fun hb => ⟨Int.ediv_nonneg ha hb, Int.ediv_le_self _ ha⟩
theorem quo_lt (a b : Int) (ha : 0 ≤ a) (ha1 : a ≤ 18446744073709551615) (hb : 0 < b) (h : a % b ≠ 0) : a / b + 1 ≤ 18446744073709551615 := by
  have h1 : b ≠ 1 := by intro e; subst e; omega
  have h0 : 0 ≤ a / b := Int.ediv_nonneg ha (by omega)
  have h2 : a / b * 2 ≤ a / b * b := Int.mul_le_mul_of_nonneg_left (by omega) h0
  have h3 := Int.ediv_mul_le a (b := b) (by omega)
  omega

/-! ### Sum -/
def satAdd (s n : Int) : Int := if s + n ≤ 18446744073709551615 then s + n else 18446744073709551615
def satSum (s : Int) (l : List Int) : Int := l.foldl satAdd s
theorem satSum_top : ∀ (l : List Int), (∀ n ∈ l, 0 ≤ n) → satSum 18446744073709551615 l = 18446744073709551615
  | [], _ => rfl
  | n :: l, h => by
    have h0 := h n (by simp)
    have : satAdd 18446744073709551615 n = 18446744073709551615 := by unfold satAdd; split <;> omega
    rw [satSum, List.foldl_cons, this]
    exact satSum_top l fun m hm => h m (by simp [hm])
theorem satSum_bd : ∀ (l : List Int) (s : Int), 0 ≤ s → s ≤ 18446744073709551615 → (∀ n ∈ l, 0 ≤ n) → 0 ≤ satSum s l ∧ satSum s l ≤ 18446744073709551615
  | [], s, h0, h1, _ => ⟨h0, h1⟩
  | n :: l, s, h0, h1, h => by
    have h2 := h n (by simp)
    rw [satSum, List.foldl_cons]
    exact satSum_bd l _ (by unfold satAdd; split <;> omega) (by unfold satAdd; split <;> omega) fun m hm => h m (by simp [hm])
theorem take_one (zs : List Int) (k : Nat) (h : k < zs.length) : zs.take (k + 1) = zs.take k ++ [zs.getD k 0] := by
  rw [List.take_succ_eq_append_getElem h]; simp [List.getD_eq_getElem?_getD, h]
theorem satSum_snoc (s : Int) (zs : List Int) (k : Nat) (h : k < zs.length) : satSum s (zs.take (k + 1)) = satAdd (satSum s (zs.take k)) (zs.getD k 0) := by
  rw [take_one zs k h, satSum, List.foldl_append]; rfl
theorem satSum_over (s : Int) (zs : List Int) (k : Nat) (hn : ∀ n ∈ zs, 0 ≤ n) (h : k < zs.length) (ho : ¬ satSum s (zs.take k) + zs.getD k 0 ≤ 18446744073709551615) : satSum s zs = 18446744073709551615 := by
  have e : zs = zs.take (k + 1) ++ zs.drop (k + 1) := (List.take_append_drop _ _).symm
  have : satSum s zs = satSum (satSum s (zs.take (k + 1))) (zs.drop (k + 1)) := by
    conv => lhs; rw [e]
    rw [satSum, List.foldl_append]; rfl
  rw [this, satSum_snoc s zs k h, satAdd, if_neg ho]
  exact satSum_top _ fun n hm => hn n (List.mem_of_mem_drop hm)
theorem ret_u64 {a b : Int} (h : a = b) : Ending.returned (.int .u64 a) = .returned (.int .u64 b) := by rw [h]

end Go.Proofs.Ytghijgpelkjohaa
