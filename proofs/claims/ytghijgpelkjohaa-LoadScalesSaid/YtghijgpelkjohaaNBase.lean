/- Contracts of package num's functions and of the document's own answers, over this seat's translation. -/
import Derived.WalkKit
import Derived.ProofKit
import Derived.Handy
import Derived.Lib.Hide
import Derived.Laws.Externs
import Derived.Test.YtghijgpelkjohaaSet
namespace Go.Proofs.Ytghijgpelkjohaa
open Go.RowKit

/-! ### Plain answers -/
def addB (a b : Int) : Bool := decide (a + b ≤ 18446744073709551615)
def addN (a b : Int) : Int := if a + b ≤ 18446744073709551615 then a + b else 0
def mulB (a b : Int) : Bool := decide (a * b ≤ 18446744073709551615)
def mulN (a b : Int) : Int := if a * b ≤ 18446744073709551615 then a * b else 0
def ceilB (b : Int) : Bool := decide (b ≠ 0)
def ceilN (a b : Int) : Int := if b = 0 then 0 else if a % b = 0 then a / b else a / b + 1
def endN (ok : Bool) (n : Int) : Int := if ok then n else 18446744073709551615

theorem run_add64f (a b : Int) (ha : 0 ≤ a) (hb : 0 ≤ b) (w : World) :
    (callFunc 46 #[.int .u64 a, .int .u64 b, .int .u64 0]).run Try.prog w =
      .ok (.value (.tuple #[.int .u64 ((a + b) % 18446744073709551616), .int .u64 ((a + b) / 18446744073709551616)])) w := by
  rw [run_callFunc_extern Try.func46 (by kernel_rfl) (by kernel_rfl) (by kernel_rfl) (e := add64Entry) (by kernel_rfl), run_add64 a b 0 ha hb (by omega) (by omega)]
  simp only [Result.andThen, Int.add_zero]

set_option maxHeartbeats 400000 in
theorem add_any (a b : Int) (ha : 0 ≤ a) (ha1 : a ≤ 18446744073709551615) (hb : 0 ≤ b) (hb1 : b ≤ 18446744073709551615) (w : World) :
    Calls Try.prog 38 #[.int .u64 a, .int .u64 b] w fun e w' => e = .returned (.tuple #[.int .u64 (addN a b), .bool (addB a b)]) ∧ w = w' := by
  have hr := run_add64f a b ha hb
  by_cases h : a + b ≤ 18446744073709551615
  · have e1 : addN a b = a + b := by simp [addN, h]
    have e2 : addB a b = true := by simp [addB, h]
    have q1 : (a + b) / 18446744073709551616 = 0 := by omega
    have q2 : (a + b) % 18446744073709551616 = a + b := by omega
    rw [e1, e2]
    rw [q1, q2] at hr
    clear q1 q2 e1 e2
    go_enter Try.func38, Try.ntmps38
    go_wp2
    go_ret2
    exact ⟨rfl, rfl⟩
  · have e1 : addN a b = 0 := by simp [addN, h]
    have e2 : addB a b = false := by simp [addB, h]
    have q1 : (a + b) / 18446744073709551616 = 1 := by omega
    rw [e1, e2]
    rw [q1] at hr
    clear q1 e1 e2
    go_enter Try.func38, Try.ntmps38
    go_wp2
    go_ret2
    exact ⟨rfl, rfl⟩


theorem mul64_any (a b : Int) (ha : 0 ≤ a) (ha1 : a ≤ 18446744073709551615) (hb : 0 ≤ b) (hb1 : b ≤ 18446744073709551615) (w : World) :
    Calls Try.prog 26 #[.int .u64 a, .int .u64 b] w fun e w' => e = .returned (.tuple #[.int .u64 (a * b / 18446744073709551616), .int .u64 (a * b % 18446744073709551616)]) ∧ w = w' := by
  obtain ⟨x, rfl⟩ := Int.eq_ofNat_of_zero_le ha
  obtain ⟨y, rfl⟩ := Int.eq_ofNat_of_zero_le hb
  refine (Try.bits_Mul64 x y (by omega) (by omega) w).mono fun e w' ⟨he, hw⟩ => ⟨?_, hw.symm⟩
  rw [he, ← Int.natCast_mul]
  rfl

theorem mul_nonneg' (a b : Int) (ha : 0 ≤ a) (hb : 0 ≤ b) : 0 ≤ a * b := Int.mul_nonneg ha hb

set_option maxHeartbeats 400000 in
theorem mul_any (a b : Int) (ha : 0 ≤ a) (ha1 : a ≤ 18446744073709551615) (hb : 0 ≤ b) (hb1 : b ≤ 18446744073709551615) (w : World) :
    Calls Try.prog 35 #[.int .u64 a, .int .u64 b] w fun e w' => e = .returned (.tuple #[.int .u64 (mulN a b), .bool (mulB a b)]) ∧ w = w' := by
  have hc := mul64_any a b ha ha1 hb hb1 w
  have hp := mul_nonneg' a b ha hb
  unfold mulN mulB
  generalize a * b = p at *
  by_cases h : p ≤ 18446744073709551615
  · have q1 : p / 18446744073709551616 = 0 := by omega
    have q2 : p % 18446744073709551616 = p := by omega
    rw [if_pos h, decide_eq_true h]
    rw [q1, q2] at hc
    clear q1 q2
    have H := Lib.hid hc
    clear hc
    go_enter Try.func35, Try.ntmps35
    go_wp2_with (go_at_call 26; refine H.out.mono ?_; rintro e w' ⟨rfl, rfl⟩)
    go_ret2
    exact ⟨rfl, rfl⟩
  · rw [if_neg h, decide_eq_false h]
    have q1 : (p / 18446744073709551616 == 0) = false := by simp; omega
    have H := Lib.hid hc
    clear hc
    go_enter Try.func35, Try.ntmps35
    go_wp2_with (go_at_call 26; refine H.out.mono ?_; rintro e w' ⟨rfl, rfl⟩)
    go_ret2
    exact ⟨rfl, rfl⟩

end Go.Proofs.Ytghijgpelkjohaa
