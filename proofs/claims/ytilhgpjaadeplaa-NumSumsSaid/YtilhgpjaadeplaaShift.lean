/- Contracts of Shift, of the program and of the document's own answer. -/
import Derived.Test.YtilhgpjaadeplaaGcd
namespace Go.Proofs.Ytilhgpjaadeplaa
open Go.RowKit
set_option linter.unusedVariables false

/-! ### Plain facts on bits -/
theorem bitLenAux_lt : ∀ (f x : Nat), x < 2 ^ f → x < 2 ^ Lib.bitLenAux f x
  | 0, x, h => by simpa [Lib.bitLenAux] using h
  | f + 1, x, h => by
    simp only [Lib.bitLenAux]
    split
    · subst_vars; simp
    · have := bitLenAux_lt f (x / 2) (by rw [Nat.pow_succ] at h; omega)
      rw [Nat.add_comm, Nat.pow_succ]
      omega
theorem bitLen_lt (x : Nat) (h : x < 18446744073709551616) : x < 2 ^ Lib.bitLen x := bitLenAux_lt 64 x h
theorem bitLen_64 (x : Nat) (h : x < 18446744073709551616) : Lib.bitLen x ≤ 64 := Lib.bitLen_le x 64 (Nat.le_refl _) h
theorem pow_le_pow (m n : Nat) (h : m ≤ n) : 2 ^ m ≤ 2 ^ n := Nat.pow_le_pow_right (by omega) h
theorem shl_over (x n : Nat) (hx : 0 < x) (h64 : x < 18446744073709551616) (h : 65 ≤ n + Lib.bitLen x) : 18446744073709551616 ≤ x * 2 ^ n := by
  have hl := bitLen_lt x h64
  have hle := bitLen_64 x h64
  have hb : 1 ≤ Lib.bitLen x := by
    by_cases h0 : Lib.bitLen x = 0
    · rw [h0] at hl; simp at hl; omega
    · omega
  have h2 : 2 ^ (Lib.bitLen x - 1) ≤ x := by
    by_cases hc : x < 2 ^ (Lib.bitLen x - 1)
    · have := Lib.bitLen_le x (Lib.bitLen x - 1) (by omega) hc
      omega
    · omega
  have h3 : 2 ^ (Lib.bitLen x - 1) * 2 ^ n ≤ x * 2 ^ n := Nat.mul_le_mul_right _ h2
  rw [← Nat.pow_add] at h3
  have h4 : 2 ^ 64 ≤ 2 ^ (Lib.bitLen x - 1 + n) := pow_le_pow _ _ (by omega)
  have h5 : (2 : Nat) ^ 64 = 18446744073709551616 := by decide
  omega
theorem shl_under (x n : Nat) (h64 : x < 18446744073709551616) (h : n + Lib.bitLen x ≤ 64) : x * 2 ^ n < 18446744073709551616 := by
  have hl := bitLen_lt x h64
  have h3 : x * 2 ^ n < 2 ^ Lib.bitLen x * 2 ^ n := Nat.mul_lt_mul_of_pos_right hl (Nat.two_pow_pos n)
  rw [← Nat.pow_add] at h3
  have h4 : 2 ^ (Lib.bitLen x + n) ≤ 2 ^ 64 := pow_le_pow _ _ (by omega)
  have h5 : (2 : Nat) ^ 64 = 18446744073709551616 := by decide
  omega

/-! ### What Shift answers -/
def shB (a n : Int) : Bool := if n < 0 then true else decide (a * 2 ^ n.toNat ≤ 18446744073709551615)
def shN (a n : Int) : Int := if n < 0 then a / 2 ^ (-n).toNat else if a * 2 ^ n.toNat ≤ 18446744073709551615 then a * 2 ^ n.toNat else 0
theorem shl_over_int (a n : Int) (ha : 0 < a) (ha1 : a ≤ 18446744073709551615) (hn : 0 ≤ n) (h : 64 - (Lib.bitLen a.toNat : Int) < n) : ¬ a * 2 ^ n.toNat ≤ 18446744073709551615 := by
  obtain ⟨x, rfl⟩ := Int.eq_ofNat_of_zero_le (Int.le_of_lt ha)
  rw [Int.toNat_natCast] at h
  have := shl_over x n.toNat (by omega) (by omega) (by omega)
  have e : ((x : Int) * 2 ^ n.toNat) = ((x * 2 ^ n.toNat : Nat) : Int) := by simp
  rw [e]; omega
theorem shl_under_int (a n : Int) (ha : 0 ≤ a) (ha1 : a ≤ 18446744073709551615) (hn : 0 ≤ n) (h : ¬ 64 - (Lib.bitLen a.toNat : Int) < n) : 0 ≤ a * 2 ^ n.toNat ∧ a * 2 ^ n.toNat ≤ 18446744073709551615 := by
  obtain ⟨x, rfl⟩ := Int.eq_ofNat_of_zero_le ha
  rw [Int.toNat_natCast] at h
  have := shl_under x n.toNat (by omega) (by omega)
  have e : ((x : Int) * 2 ^ n.toNat) = ((x * 2 ^ n.toNat : Nat) : Int) := by simp
  rw [e]; omega
theorem shr_nothing (a : Int) (n : Nat) (ha : 0 ≤ a) (ha1 : a ≤ 18446744073709551615) (hn : 64 ≤ n) : a / 2 ^ n = 0 := by
  obtain ⟨x, rfl⟩ := Int.eq_ofNat_of_zero_le ha
  have h4 : 2 ^ 64 ≤ 2 ^ n := pow_le_pow _ _ hn
  have h5 : (2 : Nat) ^ 64 = 18446744073709551616 := by decide
  have : x / 2 ^ n = 0 := Nat.div_eq_of_lt (by omega)
  have e : ((x : Int) / 2 ^ n) = ((x / 2 ^ n : Nat) : Int) := by simp
  rw [e, this]; rfl

set_option maxHeartbeats 800000 in
theorem shift_any (a n : Int) (ha : 0 ≤ a) (ha1 : a ≤ 18446744073709551615) (hn : -9223372036854775808 ≤ n) (hn1 : n ≤ 9223372036854775807) (w : World) :
    Calls Try.prog 13 #[.int .u64 a, .int .i64 n] w fun e w' => e = .returned (.tuple #[.int .u64 (shN a n), .bool (shB a n)]) ∧ w = w' := by
  by_cases h0 : a = 0
  · subst h0
    have e1 : shN 0 n = 0 := by simp [shN]
    have e2 : shB 0 n = true := by simp [shB]
    rw [e1, e2]
    clear e1 e2
    go_enter Try.func13, Try.ntmps13
    go_wp2_with fail
    go_ret2
    exact ⟨rfl, rfl⟩
  · have ez : (a == 0) = false := by simp; exact h0
    by_cases hlow : n ≤ -64
    · have e1 : shN a n = 0 := by simp only [shN]; rw [if_pos (by omega)]; exact shr_nothing a _ ha ha1 (by omega)
      have e2 : shB a n = true := by simp only [shB]; rw [if_pos (by omega)]
      rw [e1, e2]
      clear e1 e2 h0
      go_enter Try.func13, Try.ntmps13
      go_wp2_with fail
      go_ret2
      exact ⟨rfl, rfl⟩
    · by_cases hneg : n < 0
      · have e1 : shN a n = a / 2 ^ (-n).toNat := by simp only [shN]; rw [if_pos hneg]
        have e2 : shB a n = true := by simp only [shB]; rw [if_pos hneg]
        rw [e1, e2]
        clear e1 e2 h0
        go_enter Try.func13, Try.ntmps13
        go_wp2_with fail
        go_ret2
        exact ⟨rfl, rfl⟩
      · have hlz := Try.bits_LeadingZeros64 a w ha ha1
        have hbl : Lib.bitLen a.toNat ≤ 64 := bitLen_64 _ (by omega)
        by_cases hov : 64 - (Lib.bitLen a.toNat : Int) < n
        · have hno := shl_over_int a n (by omega) ha1 (by omega) hov
          have e1 : shN a n = 0 := by simp only [shN]; rw [if_neg hneg, if_neg hno]
          have e2 : shB a n = false := by simp only [shB]; rw [if_neg hneg, decide_eq_false hno]
          rw [e1, e2]
          have HL := Lib.hid hlz
          clear e1 e2 h0 hno hlz
          generalize Lib.bitLen a.toNat = bl at *
          go_enter Try.func13, Try.ntmps13
          go_wp2_with (go_at_call 30; refine HL.out.mono ?_; rintro e w' ⟨rfl, rfl⟩)
          go_ret2
          exact ⟨rfl, rfl⟩
        · have hyes := shl_under_int a n ha ha1 (by omega) hov
          have e1 : shN a n = a * 2 ^ n.toNat := by simp only [shN]; rw [if_neg hneg, if_pos hyes.2]
          have e2 : shB a n = true := by simp only [shB]; rw [if_neg hneg, decide_eq_true hyes.2]
          rw [e1, e2]
          have HL := Lib.hid hlz
          have hbl1 : 0 ≤ (Lib.bitLen a.toNat : Int) := by omega
          clear e1 e2 h0 hlz
          generalize Lib.bitLen a.toNat = bl at *
          go_enter Try.func13, Try.ntmps13
          go_wp2_with (go_at_call 30; refine HL.out.mono ?_; rintro e w' ⟨rfl, rfl⟩)
          go_ret2
          exact ⟨rfl, rfl⟩
end Go.Proofs.Ytilhgpjaadeplaa
