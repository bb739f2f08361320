/- Contracts of Fit at the six narrow types; of the law's own small functions; and that the chapter's examples hold (awake). -/
import Derived.Test.YtilhgpjaadeplaaRefShift
namespace Go.Proofs.Ytilhgpjaadeplaa
open Go.RowKit
set_option linter.unusedVariables false

def inB (lo hi n : Int) : Bool := decide (lo ≤ n ∧ n ≤ hi)
def fitN (lo hi n : Int) : Int := if lo ≤ n ∧ n ≤ hi then n else 0
theorem i8_range (n : Int) : -128 ≤ IntKind.i8.wrap n ∧ IntKind.i8.wrap n ≤ 127 := by
  simp only [IntKind.wrap, IntKind.bits, IntKind.signed]; simp; split <;> omega
theorem i16_range (n : Int) : -32768 ≤ IntKind.i16.wrap n ∧ IntKind.i16.wrap n ≤ 32767 := by
  simp only [IntKind.wrap, IntKind.bits, IntKind.signed]; simp; split <;> omega
theorem i32_range (n : Int) : -2147483648 ≤ IntKind.i32.wrap n ∧ IntKind.i32.wrap n ≤ 2147483647 := by
  rw [IntKind.wrap_i32]; omega
theorem u8_range (n : Int) : 0 ≤ IntKind.u8.wrap n ∧ IntKind.u8.wrap n ≤ 255 := by
  rw [IntKind.wrap_u8]; omega
theorem u16_range (n : Int) : 0 ≤ IntKind.u16.wrap n ∧ IntKind.u16.wrap n ≤ 65535 := by
  simp [IntKind.wrap, IntKind.bits, IntKind.signed]; omega
theorem u32_range (n : Int) : 0 ≤ IntKind.u32.wrap n ∧ IntKind.u32.wrap n ≤ 4294967295 := by
  rw [IntKind.wrap_u32]; omega
theorem fitN_bd (lo hi n : Int) (h : lo ≤ 0 ∧ 0 ≤ hi) : lo ≤ fitN lo hi n ∧ fitN lo hi n ≤ hi := by unfold fitN; split <;> omega

theorem fit8_any (n : Int) (h0 : -9223372036854775808 ≤ n) (h1 : n ≤ 9223372036854775807) (w : World) :
    Calls Try.prog 25 #[.int .i64 n] w fun e w' => e = .returned (.tuple #[.int .i8 (fitN (-128) 127 n), .bool (inB (-128) 127 n)]) ∧ w = w' := by
  have hr := i8_range n
  by_cases h : -128 ≤ n ∧ n ≤ 127
  · have e1 : fitN (-128) 127 n = n := by simp [fitN, h]
    have e2 : inB (-128) 127 n = true := by simp [inB, h]
    rw [e1, e2]
    clear e1 e2 hr
    go_enter Try.func25, Try.ntmps25
    go_wp2
    go_ret2
    exact ⟨rfl, rfl⟩
  · have e1 : fitN (-128) 127 n = 0 := by simp only [fitN]; rw [if_neg h]
    have e2 : inB (-128) 127 n = false := by simp only [inB]; rw [decide_eq_false h]
    have e3 : (IntKind.i8.wrap n == n) = false := by simp; omega
    rw [e1, e2]
    clear e1 e2 h
    go_enter Try.func25, Try.ntmps25
    go_wp2
    go_ret2
    exact ⟨rfl, rfl⟩

theorem fit16_any (n : Int) (h0 : -9223372036854775808 ≤ n) (h1 : n ≤ 9223372036854775807) (w : World) :
    Calls Try.prog 33 #[.int .i64 n] w fun e w' => e = .returned (.tuple #[.int .i16 (fitN (-32768) 32767 n), .bool (inB (-32768) 32767 n)]) ∧ w = w' := by
  have hr := i16_range n
  by_cases h : -32768 ≤ n ∧ n ≤ 32767
  · have e1 : fitN (-32768) 32767 n = n := by simp [fitN, h]
    have e2 : inB (-32768) 32767 n = true := by simp [inB, h]
    rw [e1, e2]
    clear e1 e2 hr
    go_enter Try.func33, Try.ntmps33
    go_wp2
    go_ret2
    exact ⟨rfl, rfl⟩
  · have e1 : fitN (-32768) 32767 n = 0 := by simp only [fitN]; rw [if_neg h]
    have e2 : inB (-32768) 32767 n = false := by simp only [inB]; rw [decide_eq_false h]
    have e3 : (IntKind.i16.wrap n == n) = false := by simp; omega
    rw [e1, e2]
    clear e1 e2 h
    go_enter Try.func33, Try.ntmps33
    go_wp2
    go_ret2
    exact ⟨rfl, rfl⟩

theorem fit32_any (n : Int) (h0 : -9223372036854775808 ≤ n) (h1 : n ≤ 9223372036854775807) (w : World) :
    Calls Try.prog 34 #[.int .i64 n] w fun e w' => e = .returned (.tuple #[.int .i32 (fitN (-2147483648) 2147483647 n), .bool (inB (-2147483648) 2147483647 n)]) ∧ w = w' := by
  have hr : -2147483648 ≤ wrap32 n ∧ wrap32 n ≤ 2147483647 := by unfold wrap32; omega
  by_cases h : -2147483648 ≤ n ∧ n ≤ 2147483647
  · have e1 : fitN (-2147483648) 2147483647 n = n := by simp [fitN, h]
    have e2 : inB (-2147483648) 2147483647 n = true := by simp [inB, h]
    rw [e1, e2]
    clear e1 e2 hr
    go_enter Try.func34, Try.ntmps34
    go_wp2
    go_ret2
    exact ⟨rfl, rfl⟩
  · have e1 : fitN (-2147483648) 2147483647 n = 0 := by simp only [fitN]; rw [if_neg h]
    have e2 : inB (-2147483648) 2147483647 n = false := by simp only [inB]; rw [decide_eq_false h]
    have e3 : (wrap32 n == n) = false := by have := i32_range n; rw [IntKind.wrap_i32] at this; simp [wrap32]; omega
    rw [e1, e2]
    clear e1 e2 h
    go_enter Try.func34, Try.ntmps34
    go_wp2
    go_ret2
    exact ⟨rfl, rfl⟩

theorem fitu8_any (n : Int) (h0 : -9223372036854775808 ≤ n) (h1 : n ≤ 9223372036854775807) (w : World) :
    Calls Try.prog 35 #[.int .i64 n] w fun e w' => e = .returned (.tuple #[.int .u8 (fitN 0 255 n), .bool (inB 0 255 n)]) ∧ w = w' := by
  have hr := u8_range n
  by_cases h : 0 ≤ n ∧ n ≤ 255
  · have e1 : fitN 0 255 n = n := by simp [fitN, h]
    have e2 : inB 0 255 n = true := by simp [inB, h]
    rw [e1, e2]
    clear e1 e2 hr
    go_enter Try.func35, Try.ntmps35
    go_wp2
    go_ret2
    exact ⟨rfl, rfl⟩
  · have e1 : fitN 0 255 n = 0 := by simp only [fitN]; rw [if_neg h]
    have e2 : inB 0 255 n = false := by simp only [inB]; rw [decide_eq_false h]
    have e3 : (n % 256 == n) = false := by simp; omega
    rw [e1, e2]
    clear e1 e2 h
    go_enter Try.func35, Try.ntmps35
    go_wp2
    go_ret2
    exact ⟨rfl, rfl⟩

theorem fitu16_any (n : Int) (h0 : -9223372036854775808 ≤ n) (h1 : n ≤ 9223372036854775807) (w : World) :
    Calls Try.prog 36 #[.int .i64 n] w fun e w' => e = .returned (.tuple #[.int .u16 (fitN 0 65535 n), .bool (inB 0 65535 n)]) ∧ w = w' := by
  have hr := u16_range n
  by_cases h : 0 ≤ n ∧ n ≤ 65535
  · have e1 : fitN 0 65535 n = n := by simp [fitN, h]
    have e2 : inB 0 65535 n = true := by simp [inB, h]
    rw [e1, e2]
    clear e1 e2 hr
    go_enter Try.func36, Try.ntmps36
    go_wp2
    go_ret2
    exact ⟨rfl, rfl⟩
  · have e1 : fitN 0 65535 n = 0 := by simp only [fitN]; rw [if_neg h]
    have e2 : inB 0 65535 n = false := by simp only [inB]; rw [decide_eq_false h]
    have e3 : (IntKind.u16.wrap n == n) = false := by simp; omega
    rw [e1, e2]
    clear e1 e2 h
    go_enter Try.func36, Try.ntmps36
    go_wp2
    go_ret2
    exact ⟨rfl, rfl⟩

theorem fitu32_any (n : Int) (h0 : -9223372036854775808 ≤ n) (h1 : n ≤ 9223372036854775807) (w : World) :
    Calls Try.prog 37 #[.int .i64 n] w fun e w' => e = .returned (.tuple #[.int .u32 (fitN 0 4294967295 n), .bool (inB 0 4294967295 n)]) ∧ w = w' := by
  have hr := u32_range n
  by_cases h : 0 ≤ n ∧ n ≤ 4294967295
  · have e1 : fitN 0 4294967295 n = n := by simp [fitN, h]
    have e2 : inB 0 4294967295 n = true := by simp [inB, h]
    rw [e1, e2]
    clear e1 e2 hr
    go_enter Try.func37, Try.ntmps37
    go_wp2
    go_ret2
    exact ⟨rfl, rfl⟩
  · have e1 : fitN 0 4294967295 n = 0 := by simp only [fitN]; rw [if_neg h]
    have e2 : inB 0 4294967295 n = false := by simp only [inB]; rw [decide_eq_false h]
    have e3 : (n % 4294967296 == n) = false := by simp; omega
    rw [e1, e2]
    clear e1 e2 h
    go_enter Try.func37, Try.ntmps37
    go_wp2
    go_ret2
    exact ⟨rfl, rfl⟩


theorem in_any (n lo hi : Int) (w : World) : Calls Try.prog 38 #[.int .i64 n, .int .i64 lo, .int .i64 hi] w fun e w' => e = .returned (.bool (inB lo hi n)) ∧ w = w' := by
  by_cases h1 : lo ≤ n
  · by_cases h2 : n ≤ hi
    · have e : inB lo hi n = true := by simp [inB, h1, h2]
      rw [e]; clear e
      go_enter Try.func38, Try.ntmps38
      go_wp2
      go_ret
      exact ⟨rfl, rfl⟩
    · have e : inB lo hi n = false := by simp [inB, h1, h2]
      rw [e]; clear e
      go_enter Try.func38, Try.ntmps38
      go_wp2
      go_ret
      exact ⟨rfl, rfl⟩
  · have e : inB lo hi n = false := by simp [inB, h1]
    rw [e]; clear e
    go_enter Try.func38, Try.ntmps38
    go_wp2
    go_ret
    exact ⟨rfl, rfl⟩

theorem is_any (lo hi n : Int) (w : World) : Calls Try.prog 39 #[.int .i64 (fitN lo hi n), .int .i64 n, .bool (inB lo hi n)] w fun e w' => e = .returned (.bool true) ∧ w = w' := by
  by_cases h : lo ≤ n ∧ n ≤ hi
  · have e1 : fitN lo hi n = n := by simp [fitN, h]
    have e2 : inB lo hi n = true := by simp [inB, h]
    rw [e1, e2]
    clear e1 e2 h
    go_enter Try.func39, Try.ntmps39
    go_wp2
    go_ret
    exact ⟨by simp, rfl⟩
  · have e1 : fitN lo hi n = 0 := by simp only [fitN]; rw [if_neg h]
    have e2 : inB lo hi n = false := by simp only [inB]; rw [decide_eq_false h]
    rw [e1, e2]
    clear e1 e2 h
    go_enter Try.func39, Try.ntmps39
    go_wp2
    go_ret
    exact ⟨rfl, rfl⟩

set_option maxHeartbeats 1000000 in
set_option maxRecDepth 100000 in
theorem fits_any (n : Int) (h0 : -9223372036854775808 ≤ n) (h1 : n ≤ 9223372036854775807) (w : World) :
    Calls Try.prog 21 #[.int .i64 n] w fun e w' => e = .returned (.bool true) ∧ w = w' := by
  have b1 := fitN_bd (-128) 127 n (by omega)
  have b2 := fitN_bd (-32768) 32767 n (by omega)
  have b3 := fitN_bd (-2147483648) 2147483647 n (by omega)
  have b4 := fitN_bd 0 255 n (by omega)
  have b5 := fitN_bd 0 65535 n (by omega)
  have b6 := fitN_bd 0 4294967295 n (by omega)
  go_enter Try.func21, Try.ntmps21
  go_wp2_with (first
    | (go_at_call 25; refine (fit8_any _ h0 h1 _).mono ?_; rintro e w' ⟨rfl, rfl⟩)
    | (go_at_call 33; refine (fit16_any _ h0 h1 _).mono ?_; rintro e w' ⟨rfl, rfl⟩)
    | (go_at_call 34; refine (fit32_any _ h0 h1 _).mono ?_; rintro e w' ⟨rfl, rfl⟩)
    | (go_at_call 35; refine (fitu8_any _ h0 h1 _).mono ?_; rintro e w' ⟨rfl, rfl⟩)
    | (go_at_call 36; refine (fitu16_any _ h0 h1 _).mono ?_; rintro e w' ⟨rfl, rfl⟩)
    | (go_at_call 37; refine (fitu32_any _ h0 h1 _).mono ?_; rintro e w' ⟨rfl, rfl⟩)
    | (go_at_call 38; refine (in_any _ _ _ _).mono ?_; rintro e w' ⟨rfl, rfl⟩)
    | (go_at_call 39; refine (is_any _ _ _ _).mono ?_; rintro e w' ⟨rfl, rfl⟩))
  go_ret
  exact ⟨rfl, rfl⟩
end Go.Proofs.Ytilhgpjaadeplaa
