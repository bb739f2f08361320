/- Contracts of package marks' functions: With, Without, Has. -/
import Derived.Test.YtapeklpnjckfkaaMBase
import Derived.Outline
import Derived.Laws.Bits128
import Derived.Deep.RegionWith
namespace Go.Proofs.Ytapeklpnjckfkaa
open Go.RowKit
set_option linter.unusedVariables false

/-! ### Bits in the model's words -/
theorem i64_and_pow (n : Int) (m : Nat) (c : Int) (hc : (BitVec.ofInt 64 c).toNat = 2 ^ m - 1) (hm : m < 63) : bits .and .i64 n c = n % (2 ^ m : Nat) := by
  have key : (BitVec.ofInt 64 n &&& BitVec.ofInt 64 c).toNat = (n % ((2 ^ 64 : Nat) : Int)).toNat % 2 ^ m := by
    rw [BitVec.toNat_and, BitVec.toNat_ofInt, hc, Nat.and_two_pow_sub_one_eq_mod]
  show IntKind.i64.wrap ((BitVec.ofInt 64 n &&& BitVec.ofInt 64 c).toNat : Nat) = _
  rw [key, IntKind.wrap_i64]
  have hp : 2 ^ m < 2 ^ 63 := Nat.pow_lt_pow_right (by omega) hm
  have h0 : 0 < 2 ^ m := Nat.two_pow_pos m
  have hl : (n % ((2 ^ 64 : Nat) : Int)).toNat % 2 ^ m < 2 ^ m := Nat.mod_lt _ h0
  have hd : ((2 ^ m : Nat) : Int) ∣ ((2 ^ 64 : Nat) : Int) := Int.natCast_dvd_natCast.2 (Nat.pow_dvd_pow 2 (by omega))
  have e : ((((n % ((2 ^ 64 : Nat) : Int)).toNat % 2 ^ m : Nat) : Int)) = n % (2 ^ m : Nat) := by
    rw [Int.natCast_emod, Int.toNat_of_nonneg (Int.emod_nonneg _ (by omega)), Int.emod_emod_of_dvd _ hd]
  omega
theorem and63 (k : Nat) : bits .and .i64 (k : Int) 63 = ((k % 64 : Nat) : Int) := by
  rw [i64_and_pow _ 6 _ (by decide) (by decide)]; rfl
theorem and1023 (n : Int) : bits .and .i64 n 1023 = n % 1024 := i64_and_pow n 10 1023 (by decide) (by decide)
theorem shl1 (c : Nat) (h : c < 64) : Op.shift .shl .u64 1 .i64 (c : Int) = pure (.int .u64 ((2 ^ c : Nat) : Int)) := by
  rw [shift_shl .u64 .i64 1 (c : Int) (by omega) (by simp [IntKind.bits]; omega)]
  have hp : 2 ^ c < 2 ^ 64 := Nat.pow_lt_pow_right (by omega) h
  have e : (1 : Int) * 2 ^ (c : Int).toNat = ((2 ^ c : Nat) : Int) := by simp
  rw [e, IntKind.wrap_u64]
  generalize 2 ^ c = p at *
  have e2 : (p : Int) % 18446744073709551616 = (p : Int) := by omega
  rw [e2]
theorem shr6 (k : Nat) : Op.shift .shr .i64 (k : Int) .u64 6 = pure (.int .i64 ((k / 64 : Nat) : Int)) := by
  rw [shift_shr .i64 .u64 (k : Int) 6 (by omega) (by decide)]
  rfl

/-! ### may, bit -/
def mayB (n : Int) : Bool := decide (0 ≤ n ∧ n < 1024)
theorem may_any (n : Int) (w : World) (h0 : -9223372036854775808 ≤ n) (h1 : n ≤ 9223372036854775807) :
    Calls Try.prog 38 #[.int .i64 n] w fun e w' => e = .returned (.bool (mayB n)) ∧ w = w' := by
  by_cases hn : 0 ≤ n
  · by_cases hm : n < 1024
    · have e : mayB n = true := by simp [mayB, hn, hm]
      rw [e]
      clear e
      go_enter Try.func38, Try.ntmps38
      go_wp2
      go_ret
      exact ⟨rfl, rfl⟩
    · have e : mayB n = false := by simp [mayB, hn, hm]
      rw [e]
      clear e
      go_enter Try.func38, Try.ntmps38
      go_wp2
      go_ret
      exact ⟨by simp, rfl⟩
  · have e : mayB n = false := by simp [mayB, hn]
    rw [e]
    clear e
    go_enter Try.func38, Try.ntmps38
    go_wp2
    go_ret
    exact ⟨by simp, rfl⟩
theorem mayB_nat (k : Nat) (h : k < 1024) : mayB (k : Int) = true := by simp [mayB]; omega

theorem bit_any (k : Nat) (w : World) (h1 : k < 1024) :
    Calls Try.prog 39 #[.int .i64 (k : Int)] w fun e w' => e = .returned (.int .u64 ((2 ^ (k % 64) : Nat) : Int)) ∧ w = w' := by
  have a1 := and63 k
  have a2 := shl1 (k % 64) (by omega)
  generalize 2 ^ (k % 64) = p at *
  generalize k % 64 = c at *
  go_enter Try.func39, Try.ntmps39
  go_wp2
  go_ret
  exact ⟨rfl, rfl⟩

/-! ### With, Without -/
theorem zero_box (w : World) : Box (w.alloc (.cells #[.int .u64 0, .int .u64 0, .int .u64 0, .int .u64 0, .int .u64 0, .int .u64 0, .int .u64 0, .int .u64 0, .int .u64 0, .int .u64 0, .int .u64 0, .int .u64 0, .int .u64 0, .int .u64 0, .int .u64 0, .int .u64 0] 41)) w.heap.size noneF := by
  have h := Box.new w noneF
  rwa [cellsL_none] at h
theorem entry1 (w : World) (f : Nat → Bool) : ∃ W, (w.alloc (.cells (cellsL f).toArray 41)).alloc (.cells #[.int .u64 0, .int .u64 0, .int .u64 0, .int .u64 0, .int .u64 0, .int .u64 0, .int .u64 0, .int .u64 0, .int .u64 0, .int .u64 0, .int .u64 0, .int .u64 0, .int .u64 0, .int .u64 0, .int .u64 0, .int .u64 0] 41) = W ∧
    Box W w.heap.size f ∧ Box W (w.heap.size + 1) noneF ∧ Below w.heap.size w W := by
  have b2 := zero_box (w.alloc (.cells (cellsL f).toArray 41))
  rw [World.size_alloc] at b2
  exact ⟨_, rfl, (Box.new w f).alloc _, b2, ((Below.refl w.heap.size w).alloc (Nat.le_refl _) _).alloc (by simp) _⟩
theorem entry2 (w : World) (f g : Nat → Bool) : ∃ W, ((w.alloc (.cells (cellsL f).toArray 41)).alloc (.cells (cellsL g).toArray 41)).alloc (.cells #[.int .u64 0, .int .u64 0, .int .u64 0, .int .u64 0, .int .u64 0, .int .u64 0, .int .u64 0, .int .u64 0, .int .u64 0, .int .u64 0, .int .u64 0, .int .u64 0, .int .u64 0, .int .u64 0, .int .u64 0, .int .u64 0] 41) = W ∧
    Box W w.heap.size f ∧ Box W (w.heap.size + 1) g ∧ Box W (w.heap.size + 1 + 1) noneF ∧ Below w.heap.size w W := by
  obtain ⟨W, hW, b1, b2, hb⟩ := entry1 (w.alloc (.cells (cellsL f).toArray 41)) g
  rw [World.size_alloc] at b1 b2 hb
  refine ⟨_, hW, (Box.new w f).below hb (by omega), b1, b2, ((Below.refl w.heap.size w).alloc (Nat.le_refl _) _).trans (hb.mono (by omega))⟩

set_option maxHeartbeats 1000000 in
theorem with_any (f : Nat → Bool) (n : Int) (w : World) (h0 : -9223372036854775808 ≤ n) (h1 : n ≤ 9223372036854775807) :
    Calls Try.prog 48 #[setV f, .int .i64 n] w fun e w' => e = .returned (setV (ins f n)) ∧ Below w.heap.size w w' := by
  have M := Lib.hid (may_any n)
  obtain ⟨W, hW, b1, b2, hb⟩ := entry1 w f
  have HW := Lib.hid hW
  clear hW
  by_cases hn : 0 ≤ n ∧ n < 1024
  · obtain ⟨k, rfl⟩ := Int.eq_ofNat_of_zero_le hn.1
    have hk : k < 1024 := by omega
    rw [mayB_nat k hk] at M
    have B := Lib.hid (fun w => bit_any k w hk)
    go_enter Try.func48, Try.ntmps48
    go_wp2_with (go_at_call 38; refine (M.out _ h0 h1).mono ?_; rintro e w' ⟨rfl, rfl⟩)
    rw [HW.out]
    have c1 := b1.cell (k / 64) (by omega)
    have c2 := b1.frozen (k / 64)
    have a1 := shr6 k
    have hq : k / 64 < 16 := by omega
    have hx := word_le f (k / 64)
    have hp : 2 ^ (k % 64) < 18446744073709551616 := Nat.pow_lt_pow_right (a := 2) (n := 64) (by omega) (by omega)
    have a2 := u64_or_nat (word f (k / 64)) (2 ^ (k % 64)) (by omega) hp
    generalize hX : word f (k / 64) = x at *
    generalize hP : 2 ^ (k % 64) = p at *
    generalize hQ : k / 64 = q at *
    have HX := Lib.hid hX
    have HP := Lib.hid hP
    have HQ := Lib.hid hQ
    clear hX hP hQ
    generalize hV : x ||| p = v at *
    have HV := Lib.hid hV
    clear hV
    go_region_with (go_at_call 39; refine (B.out _).mono ?_; rintro e w' ⟨rfl, rfl⟩)
    all_goals
      have b3 : Box ((W.setCell ⟨w.heap.size, q, none⟩ (.int .u64 (v : Int))).drew) w.heap.size (ins f k) :=
        (b1.set q v (by rw [← HV.out, ← HX.out, ← HP.out, ← HQ.out]; exact word_ins f k) (fun j hj hne => (word_ins_other f k j (by rw [HQ.out]; exact hne)).symm)).drew
      have b4 : Box ((W.setCell ⟨w.heap.size, q, none⟩ (.int .u64 (v : Int))).drew) (w.heap.size + 1) noneF := (b2.setCell _ _ (by simp)).drew
      have hb2 : Below w.heap.size w ((W.setCell ⟨w.heap.size, q, none⟩ (.int .u64 (v : Int))).drew) := (hb.setCell (p := ⟨w.heap.size, q, none⟩) (Nat.le_refl _) _).drew
      generalize (W.setCell ⟨w.heap.size, q, none⟩ (.int .u64 (v : Int))).drew = W2 at *
      clear b1 b2 hb c1 c2
      go_wp2_with (first
        | ((with_reducible show wpList _ _ _ (⟨some 15, _, _, _, _, _⟩ :: _) _ _); refine wpList_load_mid rfl 41 _ rfl _ _ rfl _ _ b3.range Try.underlying41 rfl (info26 _) ?_)
        | ((with_reducible show wpList _ _ _ (⟨none, _, _, _, _, _⟩ :: _) _ _); refine wpList_store_mid rfl 41 _ _ rfl _ _ (cellsL (ins f k)).toArray rfl rfl (b4.there _) (info26' _) (cellsL_all _) ?_)
        | ((with_reducible show bodyPost _ _ _ _ _ _); exact bodyPost_ret (results_box rfl _ _ _ _ rfl (b4.setCells _)) rfl ⟨rfl, below_setCells hb2 b4 _ (by simp)⟩))
  · have e : mayB n = false := by simpa [mayB] using hn
    rw [e] at M
    clear e
    have e2 : setV (ins f n) = setV f := by rw [setV, (cellsL_ext fun i hi => word_ins_far f n i hi (by omega) : cellsL (ins f n) = cellsL f)]
    rw [e2]
    clear e2 hn
    go_enter Try.func48, Try.ntmps48
    go_wp2_with (first
      | (go_at_call 38; refine (M.out _ h0 h1).mono ?_; rintro e w' ⟨rfl, rfl⟩)
      | ((with_reducible show wpList _ _ _ (⟨some 15, _, _, _, _, _⟩ :: _) _ _); rw [HW.out]; refine wpList_load_mid rfl 41 _ rfl _ _ rfl _ _ b1.range Try.underlying41 rfl (info26 _) ?_)
      | ((with_reducible show wpList _ _ _ (⟨none, _, _, _, _, _⟩ :: _) _ _); refine wpList_store_mid rfl 41 _ _ rfl _ _ (cellsL f).toArray rfl rfl (b2.there _) (info26' _) (cellsL_all _) ?_)
      | ((with_reducible show bodyPost _ _ _ _ _ _); exact bodyPost_ret (results_box rfl _ _ _ _ rfl (b2.setCells _)) rfl ⟨rfl, below_setCells hb b2 _ (by simp)⟩))

end Go.Proofs.Ytapeklpnjckfkaa
