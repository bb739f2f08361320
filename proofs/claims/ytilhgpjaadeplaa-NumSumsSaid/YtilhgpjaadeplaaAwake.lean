/- The chapter's examples hold. -/
import Derived.Test.YtilhgpjaadeplaaFits
import Derived.Deep.QuietTactic
import Derived.BigQuiet
import Derived.Deep.RegionHeld3
namespace Go.Proofs.Ytilhgpjaadeplaa
open Go.RowKit
set_option linter.unusedVariables false

theorem drewN_below {B : Nat} {a w : World} (h : Below B a w) (n : Nat) : Below B a (w.drewN n) := h.trans ⟨rfl, rfl, rfl, Nat.le_refl _, fun _ _ => rfl⟩
theorem ceil_7_2 : ceilN 7 2 = 4 ∧ ceilB 2 = true := by decide
theorem lcm_4_6 : lcmN 4 6 = 12 ∧ lcmB 4 6 = true := by decide
theorem shift_5 : shN 5 (-1) = 2 ∧ shB 5 (-1) = true := by decide
theorem fit_128 : fitN (-128) 127 128 = 0 ∧ inB (-128) 127 128 = false := by decide
theorem sum_top : satSum 18446744073709551615 [2] = 18446744073709551615 := by decide
theorem two_cells (w : World) : ∀ i, i < 1 → (w.alloc (.cells #[.int .u64 2] 22)).cell? ((⟨w.heap.size, 0, none⟩ : Addr).add i) = some (.int .u64 ([2].getD i 0)) := by
  intro i hi
  obtain rfl : i = 0 := by omega
  simp [Addr.add]
theorem ceil_ex (w : World) : Calls Try.prog 20 #[.int .u64 7, .int .u64 2] w fun e w' => e = .returned (.tuple #[.int .u64 4, .bool true]) ∧ w = w' := by
  have h := ceil_any 7 2 (by omega) (by omega) (by omega) (by omega) w
  rwa [ceil_7_2.1, ceil_7_2.2] at h
theorem lcm_ex (w : World) : Calls Try.prog 16 #[.int .u64 4, .int .u64 6] w fun e w' => e = .returned (.tuple #[.int .u64 12, .bool true]) ∧ w = w' := by
  have h := lcm_any 4 6 (by omega) (by omega) (by omega) (by omega) w
  rwa [lcm_4_6.1, lcm_4_6.2] at h
theorem shift_ex (w : World) : Calls Try.prog 13 #[.int .u64 5, .int .i64 (-1)] w fun e w' => e = .returned (.tuple #[.int .u64 2, .bool true]) ∧ w = w' := by
  have h := shift_any 5 (-1) (by omega) (by omega) (by omega) (by omega) w
  rwa [shift_5.1, shift_5.2] at h
theorem fit_ex (w : World) : Calls Try.prog 25 #[.int .i64 128] w fun e w' => e = .returned (.tuple #[.int .i8 0, .bool false]) ∧ w = w' := by
  have h := fit8_any 128 (by omega) (by omega) w
  rwa [fit_128.1, fit_128.2] at h
theorem sum_ex (w : World) : Calls Try.prog 18 #[.int .u64 18446744073709551615, .slice (some ⟨w.heap.size, 0, none⟩) 1 1] (w.alloc (.cells #[.int .u64 2] 22)) fun e w' => e = .returned (.int .u64 18446744073709551615) ∧ w.alloc (.cells #[.int .u64 2] 22) = w' := by
  have h := sum_any 18446744073709551615 ⟨w.heap.size, 0, none⟩ 1 1 [2] (by omega) (by omega) rfl (by omega) (by unfold maxLen; omega) (w.alloc (.cells #[.int .u64 2] 22)) (two_cells w) (by simp)
  rwa [sum_top] at h

set_option maxHeartbeats 1000000 in
theorem awake_any (w : World) : Calls Try.prog 11 #[] w fun e w' => e = .returned (.bool true) ∧ Below w.heap.size w w' := by
  go_enter Try.func11, Try.ntmps11
  go_wp2_with (first
    | (go_at_call 20; refine (ceil_ex _).mono ?_; rintro e w' ⟨rfl, rfl⟩)
    | (go_at_call 16; refine (lcm_ex _).mono ?_; rintro e w' ⟨rfl, rfl⟩)
    | (go_at_call 13; refine (shift_ex _).mono ?_; rintro e w' ⟨rfl, rfl⟩)
    | (go_at_call 25; refine (fit_ex _).mono ?_; rintro e w' ⟨rfl, rfl⟩)
    | (go_at_call 18; refine (sum_ex _).mono ?_; rintro e w' ⟨rfl, rfl⟩))
  go_ret
  exact ⟨rfl, by go_grown⟩

theorem one_le_pow (m : Nat) : (1 : Int) ≤ 2 ^ m := by rw [pow_int]; have := Nat.two_pow_pos m; omega
theorem shr_i64 (a : Int) (m : Nat) (h : -9223372036854775808 ≤ a ∧ a ≤ 9223372036854775807) : -9223372036854775808 ≤ a / 2 ^ m ∧ a / 2 ^ m ≤ 9223372036854775807 := by
  have hp := one_le_pow m
  by_cases h0 : 0 ≤ a
  · have h1 : 0 ≤ a / 2 ^ m := Int.ediv_nonneg h0 (by omega)
    have h2 : a / 2 ^ m ≤ a := Int.ediv_le_self _ h0
    omega
  · have h1 : a / 2 ^ m < 0 := Int.ediv_neg_of_neg_of_pos (by omega) (by omega)
    have h2 : a ≤ a / 2 ^ m := (Int.le_ediv_iff_mul_le (by omega)).2 (by
      have := Int.mul_le_mul_of_nonpos_left (a := a) (by omega) hp
      omega)
    omega
theorem shr_u64 (a : Int) (m : Nat) (h : 0 ≤ a ∧ a ≤ 18446744073709551615) : 0 ≤ a / 2 ^ m ∧ a / 2 ^ m ≤ 18446744073709551615 := half_bd a m h.1 h.2
end Go.Proofs.Ytilhgpjaadeplaa
