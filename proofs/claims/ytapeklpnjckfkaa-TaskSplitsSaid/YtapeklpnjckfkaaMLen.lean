/- The contract of Len. -/
import Derived.Test.YtapeklpnjckfkaaMCount
namespace Go.Proofs.Ytapeklpnjckfkaa
open Go.RowKit
set_option linter.unusedVariables false

/-! ### Len -/
/-- How many of the first i words' numbers f holds of. -/
def cnt (f : Nat → Bool) : Nat → Nat
  | 0 => 0
  | i + 1 => cnt f i + pc (word f i) 64
theorem cnt_le (f : Nat → Bool) (i : Nat) : cnt f i ≤ 64 * i := by
  induction i with
  | zero => simp [cnt]
  | succ i ih => have := pc_le (word f i) 64; simp only [cnt]; omega

set_option maxHeartbeats 1000000 in
theorem len_any (f : Nat → Bool) (w : World) :
    Calls Try.prog 21 #[setV f] w fun e w' => e = .returned (.int .i64 ((cnt f 16 : Nat) : Int)) ∧ Below w.heap.size w w' := by
  have b1 := Box.new w f
  have hb := (Below.refl w.heap.size w).alloc (Nat.le_refl _) (.cells (cellsL f).toArray 41)
  go_enter Try.func21, Try.ntmps21
  go_wp2_with ((with_reducible show wpList _ _ _ (⟨some 6, _, _, _, _, _⟩ :: _) _ _); refine wpList_load_mid rfl 41 _ rfl _ _ rfl _ _ b1.range Try.underlying41 rfl (info26 _) ?_)
  generalize w.alloc (.cells (cellsL f).toArray 41) = W at *
  go_loop [3, 7] (fun c i => ∃ k : Nat, k ≤ 16 ∧ i = .int .i64 k ∧ c = .int .i64 ((cnt f k : Nat) : Int)) (fun _ i => 16 - (intOf i).toNat)
  case atStart => exact ⟨0, by omega, rfl, rfl⟩
  case round =>
    obtain ⟨k, hk, rfl, rfl⟩ := hrel
    have hle := cnt_le f k
    have hb' := Lib.hid hb
    clear hb b1
    by_cases hlt : k < 16
    · have e0 := run_idx f k hlt
      have hx := word_le f k
      have hn : cnt f (k + 1) = cnt f k + pc (word f k) 64 := rfl
      have hpc := pc_le (word f k) 64
      have O := Lib.hid (fun w => ones_any (word f k) w (by omega))
      generalize word f k = x at *
      generalize pc x 64 = p at *
      generalize hC : cnt f k = c at *
      have HN := Lib.hid hn
      clear hn hC
      go_wp2_with (go_at_call 40; refine (O.out _).mono ?_; rintro e w' ⟨rfl, rfl⟩)
      go_round
      case rel => exact ⟨k + 1, by omega, by go_num, by rw [HN.out]; go_num⟩
      case measure => simp [intOf]; omega
    · obtain rfl : k = 16 := by omega
      go_wp2
      go_ret
      exact ⟨rfl, hb'.out⟩
end Go.Proofs.Ytapeklpnjckfkaa
