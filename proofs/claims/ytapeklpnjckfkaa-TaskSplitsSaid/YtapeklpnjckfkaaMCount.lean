/- Contracts of math/bits' two functions, and of Len. -/
import Derived.Test.YtapeklpnjckfkaaMOps2
namespace Go.Proofs.Ytapeklpnjckfkaa
open Go.RowKit
set_option linter.unusedVariables false

theorem shr_lit (x m : Nat) (M : Int) (d : Nat) (hM : M = (m : Int)) (hd : d = 2 ^ m) (hm : m ≤ 64) : Op.shift .shr .u64 (x : Int) .u64 M = pure (.int .u64 ((x / d : Nat) : Int)) := by
  subst hM hd
  rw [shift_shr .u64 .u64 (x : Int) (m : Int) (by omega) (by simp [IntKind.bits]; omega)]
  simp

set_option maxRecDepth 100000 in
set_option maxHeartbeats 1000000 in
theorem ones_any (x : Nat) (w : World) (hx : x < 18446744073709551616) :
    Calls Try.prog 40 #[.int .u64 (x : Int)] w fun e w' => e = .returned (.int .i64 ((pc x 64 : Nat) : Int)) ∧ w = w' := by
  obtain ⟨x1, x2, x3, h1, l1, h2, l2, l23, h3, l3, hf⟩ := ones x hx
  obtain ⟨l6, hr⟩ := hf _ _ _ rfl rfl rfl
  clear hf
  have s1 : Op.shift .shr .u64 (x : Int) .u64 1 = _ := shr_lit x 1 1 2 rfl rfl (by omega)
  have s2 : Op.shift .shr .u64 (x1 : Int) .u64 2 = _ := shr_lit x1 2 2 4 rfl rfl (by omega)
  have s3 : Op.shift .shr .u64 (x2 : Int) .u64 4 = _ := shr_lit x2 4 4 16 rfl rfl (by omega)
  have s4 : Op.shift .shr .u64 (x3 : Int) .u64 8 = _ := shr_lit x3 8 8 256 rfl rfl (by omega)
  generalize hx4 : x3 + x3 / 256 = x4 at *
  have s5 : Op.shift .shr .u64 (x4 : Int) .u64 16 = _ := shr_lit x4 16 16 65536 rfl rfl (by omega)
  generalize hx5 : x4 + x4 / 65536 = x5 at *
  have s6 : Op.shift .shr .u64 (x5 : Int) .u64 32 = _ := shr_lit x5 32 32 4294967296 rfl rfl (by omega)
  generalize hx6 : x5 + x5 / 4294967296 = x6 at *
  have c1 : bits .and .u64 ((x / 2 : Nat) : Int) 6148914691236517205 = _ := u64_and_nat (x / 2) 6148914691236517205 (by omega) (by omega)
  have c2 : bits .and .u64 (x : Int) 6148914691236517205 = _ := u64_and_nat x 6148914691236517205 (by omega) (by omega)
  have c3 : bits .and .u64 ((x1 / 4 : Nat) : Int) 3689348814741910323 = _ := u64_and_nat (x1 / 4) 3689348814741910323 (by omega) (by omega)
  have c4 : bits .and .u64 (x1 : Int) 3689348814741910323 = _ := u64_and_nat x1 3689348814741910323 (by omega) (by omega)
  have c5 : bits .and .u64 ((x2 / 16 + x2 : Nat) : Int) 1085102592571150095 = _ := u64_and_nat (x2 / 16 + x2) 1085102592571150095 (by omega) (by omega)
  have c6 : bits .and .i64 (x6 : Int) 127 = ((pc x 64 : Nat) : Int) := by rw [← hr, i64_and127]; omega
  rw [← h3] at c5
  generalize ha : x / 2 &&& 6148914691236517205 = a at *
  generalize hb : x &&& 6148914691236517205 = b at *
  generalize hc : x1 / 4 &&& 3689348814741910323 = c at *
  generalize hd : x1 &&& 3689348814741910323 = d at *
  have b1 : x5 ≤ 18446744073709551615 := by omega
  have b2 : x4 ≤ 18446744073709551615 := by omega
  have b3 : x3 ≤ 18446744073709551615 := by omega
  have b4 : x2 ≤ 18446744073709551615 := by omega
  have b5 : x1 ≤ 18446744073709551615 := by omega
  generalize hg : x2 / 16 + x2 = g at *
  have b6 : g ≤ 18446744073709551615 := by omega
  have t1 : (a : Int) + (b : Int) = (x1 : Int) := by omega
  have t2 : (c : Int) + (d : Int) = (x2 : Int) := by omega
  have t3 : ((x2 / 16 : Nat) : Int) + (x2 : Int) = (g : Int) := by omega
  have t4 : (x3 : Int) + ((x3 / 256 : Nat) : Int) = (x4 : Int) := by omega
  have t5 : (x4 : Int) + ((x4 / 65536 : Nat) : Int) = (x5 : Int) := by omega
  have t6 : (x5 : Int) + ((x5 / 4294967296 : Nat) : Int) = (x6 : Int) := by omega
  clear ha hb hc hd hg h1 h2 h3 hx4 hx5 hx6 hr
  generalize x / 2 = y1 at *
  generalize x1 / 4 = y2 at *
  generalize x2 / 16 = y3 at *
  generalize x3 / 256 = y4 at *
  generalize x4 / 65536 = y5 at *
  generalize x5 / 4294967296 = y6 at *
  generalize pc x 64 = r at *
  go_enter Try.func40, Try.ntmps40
  go_wp2
  go_outline
  go_ret
  exact ⟨rfl, rfl⟩
end Go.Proofs.Ytapeklpnjckfkaa
