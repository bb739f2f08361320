/- The contract of math/bits.TrailingZeros64, where its table reads as it is laid. -/
import Derived.Test.YthmngibmpkgjkaaDoorCount
namespace Go.Proofs.YthmngibmpkgjkaaDoor
open Go.RowKit
set_option linter.unusedVariables false

/-- The table of math/bits reads as the program's text lays it. -/
def Tab (w : World) : Prop := ∀ i v : Nat, deB[i]? = some v → w.cell? ⟨0, i, none⟩ = some (.int .u8 (v : Int))
theorem Tab.pos {w : World} (h : Tab w) : 0 < w.heap.size := World.block_lt_of_cell? w _ (h 0 0 rfl)
theorem Tab.below {w w' : World} (h : Tab w) (hb : Below w.heap.size w w') : Tab w' := fun i v hv => by
  rw [hb.cell (p := ⟨0, i, none⟩) h.pos]; exact h i v hv

theorem pow_lt_lit (t : Nat) (ht : t < 64) : 2 ^ t < 18446744073709551616 := by
  have := Nat.pow_lt_pow_right (a := 2) (by omega) ht
  have e : (18446744073709551616 : Nat) = 2 ^ 64 := by decide
  rw [e]; exact this

theorem tz_mul (p y : Nat) (hy : p * 285870213051353865 % 18446744073709551616 = y) : IntKind.u64.wrap ((p : Int) * 285870213051353865) = (y : Int) := by
  rw [IntKind.wrap_u64]
  subst hy
  rw [Int.natCast_emod, Int.natCast_mul]
  rfl
theorem tz_neg (x : Nat) (h0 : 0 < x) (hx : x < 18446744073709551616) : IntKind.u64.wrap (-(x : Int)) = ((18446744073709551616 - x : Nat) : Int) := by rw [IntKind.wrap_u64]; omega

set_option maxRecDepth 100000 in
set_option maxHeartbeats 1000000 in
/-- The walk, over plain facts. -/
theorem tz_walk (t x y i p nx : Nat) (w : World) (hx : x < 18446744073709551616) (h0 : 0 < x) (hi : i < 64) (ht : t < 64)
    (hz : ((x : Int) == 0) = false) (hc : w.cell? ⟨0, i, none⟩ = some (.int .u8 (t : Int)))
    (s1 : Op.shift .shr .u64 (y : Int) .u64 58 = pure (.int .u64 (i : Int)))
    (m1 : IntKind.u64.wrap ((p : Int) * 285870213051353865) = (y : Int)) (c1 : bits .and .u64 (x : Int) (nx : Int) = (p : Int)) (n1 : IntKind.u64.wrap (-(x : Int)) = (nx : Int)) :
    Calls Tryd.prog 35 #[.int .u64 (x : Int)] w fun e w' => e = .returned (.int .i64 (t : Int)) ∧ w = w' := by
  go_enter Tryd.func35, Tryd.ntmps35
  go_wp2
  go_ret
  exact ⟨rfl, rfl⟩

theorem shr58 (y i : Nat) (h : y / 288230376151711744 = i) : Op.shift .shr .u64 (y : Int) .u64 58 = pure (.int .u64 (i : Int)) := by
  subst h
  exact shr_lit y 58 58 288230376151711744 rfl (by decide) (by omega)
theorem tz_any (t m x : Nat) (w : World) (ht : t < 64) (hxe : x = 2 ^ t * (2 * m + 1)) (hx : x < 18446744073709551616) (hT : Tab w) :
    Calls Tryd.prog 35 #[.int .u64 (x : Int)] w fun e w' => e = .returned (.int .i64 (t : Int)) ∧ w = w' := by
  have h0 : 0 < x := by subst hxe; exact Nat.mul_pos (Nat.two_pow_pos t) (by omega)
  have hd := deB_tz t ht
  have hl := low_and_lit t m x ht hx hxe
  have hp := pow_lt_lit t ht
  have c1 := u64_and_nat x (18446744073709551616 - x) hx (by omega)
  rw [hl] at c1
  clear hl hxe
  generalize 2 ^ t = p at *
  generalize hy : p * 285870213051353865 % 18446744073709551616 = y at *
  generalize hi : y / 288230376151711744 = i at *
  exact tz_walk t x y i p _ w hx h0 hd.1 ht (by simp; omega) (hT _ _ hd.2) (shr58 y i hi) (tz_mul p y hy) c1 (tz_neg x h0 hx)

/-! ### Len -/
/-- How many of the first i words' numbers f holds of. -/
def cnt (f : Nat → Bool) : Nat → Nat
  | 0 => 0
  | i + 1 => cnt f i + pc (word f i) 64
theorem cnt_le (f : Nat → Bool) (i : Nat) : cnt f i ≤ 64 * i := by
  induction i with
  | zero => simp [cnt]
  | succ i ih => have := pc_le (word f i) 64; simp only [cnt]; omega

set_option maxHeartbeats 1000000 in
theorem len_any (f : Nat → Bool) (w : World) :
    Calls Tryd.prog 21 #[setV f] w fun e w' => e = .returned (.int .i64 ((cnt f 16 : Nat) : Int)) ∧ Below w.heap.size w w' := by
  have b1 := Box.new w f
  have hb := (Below.refl w.heap.size w).alloc (Nat.le_refl _) (.cells (cellsL f).toArray 26)
  go_enter Tryd.func21, Tryd.ntmps21
  go_wp2_with ((with_reducible show wpList _ _ _ (⟨some 6, _, _, _, _, _⟩ :: _) _ _); refine wpList_load_mid rfl 26 _ rfl _ _ rfl _ _ b1.range Tryd.underlying26 rfl (info26 _) ?_)
  generalize w.alloc (.cells (cellsL f).toArray 26) = W at *
  go_loop [3, 7] (fun c i => ∃ k : Nat, k ≤ 16 ∧ i = .int .i64 k ∧ c = .int .i64 ((cnt f k : Nat) : Int)) (fun _ i => 16 - (intOf i).toNat)
  case atStart => exact ⟨0, by omega, rfl, rfl⟩
  case round =>
    obtain ⟨k, hk, rfl, rfl⟩ := hrel
    have hle := cnt_le f k
    have hb' := Lib.hid hb
    clear hb b1
    by_cases hlt : k < 16
    · have e0 := run_idx f k hlt
      have hx := word_le f k
      have hn : cnt f (k + 1) = cnt f k + pc (word f k) 64 := rfl
      have hpc := pc_le (word f k) 64
      have O := Lib.hid (fun w => ones_any (word f k) w (by omega))
      generalize word f k = x at *
      generalize pc x 64 = p at *
      generalize hC : cnt f k = c at *
      have HN := Lib.hid hn
      clear hn hC
      go_wp2_with (go_at_call 33; refine (O.out _).mono ?_; rintro e w' ⟨rfl, rfl⟩)
      go_round
      case rel => exact ⟨k + 1, by omega, by go_num, by rw [HN.out]; go_num⟩
      case measure => simp [intOf]; omega
    · obtain rfl : k = 16 := by omega
      go_wp2
      go_ret
      exact ⟨rfl, hb'.out⟩
end Go.Proofs.YthmngibmpkgjkaaDoor
