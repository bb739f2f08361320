/- Texts about the program, one after the other: RDv3, RPrt, RSeq, RStp. -/
import Derived.WalkKit
import Derived.ProofKit
import Derived.Handy
import Derived.Lib.Hide
import Derived.Deep.MidRow
import Derived.Deep.QuietTactic
import Derived.BigQuiet
import Derived.Deep.RegionHeld3
import Derived.Laws.Externs
import Derived.RangeFuncBox
import Derived.Deep.CutBlock
import Derived.Laws.ShiftsVarLaws
import Derived.Laws.Bits64b
import Derived.Deep.CutRange
import Derived.Shelf.Small.Bits
import Derived.Shelf.Small.Strs
import Derived.Shelf.Small.Wraps
import Derived.Shelf.Strconv.Itoa0
import Derived.Shelf.LaysM
import Derived.Shelf.Strconv.Clone
import Derived.Shelf.Strings.Search1
import Derived.Shelf.Bits.Mul64
import Derived.Ground.Names2Prog
import Derived.Shelf.Slices.SearchI
import Derived.Test.YthfkbbiaemmndaaGreatDoorRows
import Derived.Test.YthfkbbiaemmndaaGreatDoorProg
import Derived.Deep.LoopGhost
import Derived.WalkMore
import Derived.OrdersIn
import Derived.Stop.RegionWithIn
import Derived.Deep.RegionLaw
import Derived.Laws.OwnMore
import Derived.Deep.Quiet
import Derived.Deep.RegionHeld
import Derived.Laws.AppendOwn
import Derived.Below
import Derived.LaidMore
import Derived.Laws.CopyOwn
import Derived.IntWalk
import Derived.OwnWalk
import Derived.BigRegion
import Derived.Deep.DrawnRows
import Derived.Deep.RegionHeldLaw
import Derived.LoopIn
import Derived.LoopNIn
import Derived.TacticsInMore
import Derived.OwnWalkIn
import Derived.RangeFuncNested
import Derived.RangeFuncBound
import Derived.RangeFuncCalls
import Derived.RangeFuncLeaves
import Derived.RangeFuncWrites
import Derived.Shelf.Abstract
import Derived.StillTailTactics
import Derived.Lib.SliceRun
import Derived.Deep.AppendSrc
import Derived.Deep.Upon
import Derived.Deep.DeepAppendWide
import Derived.Sort.LoopGhostIn
import Derived.Outline
import Derived.Laws.Bits128
import Derived.Deep.RegionWith
import Derived.Shelf.RegionOpen
import Derived.Laws.BytesString
import Derived.RangeFuncRecord
import Derived.MapKept
import Derived.Maps.AppendAt
import Derived.Laws.AppendOwnNone
import Derived.ChangeOld
import Derived.OpenShut
import Derived.Test.YthfkbbiaemmndaaGreatDoorG2
import Derived.Test.YthfkbbiaemmndaaGreatDoorG3
import Derived.Test.YthfkbbiaemmndaaGreatDoorG4
import Derived.Test.YthfkbbiaemmndaaGreatDoorG5
import Derived.Test.YthfkbbiaemmndaaGreatDoorG6
import Derived.Test.YthfkbbiaemmndaaGreatDoorG7
import Derived.Test.YthfkbbiaemmndaaGreatDoorG9
import Derived.Test.YthfkbbiaemmndaaGreatDoorG10
import Derived.Test.YthfkbbiaemmndaaGreatDoorG11
import Derived.Test.YthfkbbiaemmndaaGreatDoorG13
import Derived.Test.YthfkbbiaemmndaaGreatDoorG25
import Derived.Test.YthfkbbiaemmndaaGreatDoorG29
import Derived.Test.YthfkbbiaemmndaaGreatDoorG31
import Derived.Test.YthfkbbiaemmndaaGreatDoorG32
set_option linter.unusedVariables false
set_option linter.unusedSimpArgs false
set_option maxRecDepth 100000
set_option maxHeartbeats 16000000
namespace Go.Proofs.YthfkbbiaemmndaaGreatDoor
section
open Go.RowKit
theorem or_add (h P l s : Nat) (hP : P = 2 ^ s) (hl : l < P) (hs : h * P + l < 18446744073709551616) : bits .or .u64 ((h * P : Nat) : Int) (l : Int) = ((h * P + l : Nat) : Int) := by
 have e := bits_or_u64_nat (h * P) l (by omega) (by omega)
 rw [e]
 subst hP
 have := Nat.two_pow_add_eq_or_of_lt hl h
 rw [Nat.mul_comm h, this]
theorem div_fin {hi lo y P y2 c x1 d1 d0 q1 q0 c2 : Nat} (hP : 0 < P) (h1 : y2 = y * P) (h2 : c * 18446744073709551616 + x1 = (hi * 18446744073709551616 + lo) * P) (h3 : x1 = d1 * 4294967296 + d0) (h4 : c2 + q1 * y2 = c * 4294967296 + d1) (h5 : q0 * y2 ≤ c2 * 4294967296 + d0) :
  (q1 * 4294967296 + q0) * y ≤ hi * 18446744073709551616 + lo := by
 have e1 : (q1 * 4294967296 + q0) * y2 = q1 * y2 * 4294967296 + q0 * y2 := by rw [Nat.add_mul, Nat.mul_right_comm]
 have e2 : (q1 * 4294967296 + q0) * y2 ≤ (hi * 18446744073709551616 + lo) * P := by
  rw [← h2, e1]
  generalize q1 * y2 = m at *
  generalize q0 * y2 = n at *
  omega
 rw [h1, ← Nat.mul_assoc] at e2
 exact Nat.le_of_mul_le_mul_right e2 hP
theorem add_step {c2 m d0 n B : Nat} (h5 : c2 * B + d0 < n) : (c2 + m) * B + d0 < m * B + n := by
 rw [Nat.add_mul]; omega
theorem div_fin2 {hi lo y P y2 c x1 d1 d0 q1 q0 c2 : Nat} (hP : 0 < P) (h1 : y2 = y * P) (h2 : c * 18446744073709551616 + x1 = (hi * 18446744073709551616 + lo) * P) (h3 : x1 = d1 * 4294967296 + d0) (h4 : c2 + q1 * y2 = c * 4294967296 + d1) (h5 : c2 * 4294967296 + d0 < (q0 + 1) * y2) :
  hi * 18446744073709551616 + lo < (q1 * 4294967296 + q0 + 1) * y := by
 have e1 : (q1 * 4294967296 + q0 + 1) * y2 = q1 * y2 * 4294967296 + (q0 + 1) * y2 := by rw [Nat.add_assoc, Nat.add_mul, Nat.mul_right_comm]
 have e2 : (hi * 18446744073709551616 + lo) * P < (q1 * 4294967296 + q0 + 1) * y2 := by
  rw [← h2, e1]
  clear e1 h1 hP
  obtain ⟨m, hm⟩ : ∃ m, q1 * y2 = m := ⟨_, rfl⟩
  obtain ⟨n, hn⟩ : ∃ n, (q0 + 1) * y2 = n := ⟨_, rfl⟩
  rw [hm] at h4 ⊢
  rw [hn] at h5 ⊢
  clear hm hn h2
  have e9 : c * 18446744073709551616 + x1 = (c * 4294967296 + d1) * 4294967296 + d0 := by omega
  rw [e9, ← h4]
  exact add_step h5
 rw [h1, ← Nat.mul_assoc] at e2
 exact Nat.lt_of_mul_lt_mul_right e2
theorem div_is {z y h : Nat} {q : Int} (hq : q = ((z : Nat) : Int) % 18446744073709551616) (h0 : z * y ≤ h) (h1 : h < (z + 1) * y) (hh : h < 18446744073709551616 * y) : q = ((h / y : Nat) : Int) := by
 have hy : 0 < y := by rcases Nat.eq_zero_or_pos y with e | e; · subst e; omega
                       ·exact e
 have e : h / y = z := Nat.le_antisymm (Nat.le_of_lt_succ ((Nat.div_lt_iff_lt_mul hy).2 h1)) ((Nat.le_div_iff_mul_le hy).2 h0)
 have e2 : h / y < 18446744073709551616 := (Nat.div_lt_iff_lt_mul hy).2 hh
 omega
theorem div64_any (hi lo y : Nat) (w : World) (h1 : hi < y) (h2 : y < 18446744073709551616) (hlo : lo < 18446744073709551616) :
  Calls Tryz.prog 117 #[.int .u64 (hi : Int), .int .u64 (lo : Int), .int .u64 (y : Int)] w fun e w' => (∃ r : Int, e = .returned (.tuple #[.int .u64 (((hi * 18446744073709551616 + lo) / y : Nat) : Int), .int .u64 r])) ∧ Below w.heap.size w w' := by
 have t0 : ((y : Int) == 0) = false := by simp; omega
 have t1 : decide (y ≤ hi) = false := decide_eq_false (by omega)
 by_cases hz : hi = 0
 ·subst hz
  have t3 : ¬ y = 0 := by omega
  have e1 : lo / y ≤ lo := Nat.div_le_self _ _
  rw [Nat.zero_mul, Nat.zero_add]
  have q1 : IntKind.u64.wrap ((lo : Int) / (y : Int)) = ((lo / y : Nat) : Int) := u64_in (Int.natCast_ediv _ _).symm (by omega)
  generalize lo / y = qv at *
  clear e1 h1
  go_enter Tryz.func117, Tryz.ntmps117
  go_upto_region 6 with fail
  go_quiet (fail)
  go_wp2
  go_ret2
  exact ⟨⟨_, rfl⟩, below_drewN (Below.refl _ _) nq⟩
 ·obtain ⟨b1, b2, b3⟩ := lead y (by omega) h2
  have K := Tryz.bits_LeadingZeros64 (y : Int) w (by omega) (by omega)
  obtain ⟨s, hs⟩ : ∃ s, 64 - Lib.bitLen y = s := ⟨_, rfl⟩
  have hbl := (bitLen_bds 64 y (by omega) h2 (Nat.le_refl _)).1
  have es : (64 : Int) - (Lib.bitLen (y : Int).toNat : Int) = (s : Int) := by rw [Int.toNat_natCast]; omega
  rw [es] at K
  rw [hs] at b2 b3
  have hP : 0 < 2 ^ s := Nat.two_pow_pos s
  have hPe : 2 ^ (64 - s) * 2 ^ s = 18446744073709551616 := by rw [← Nat.pow_add, show 64 - s + s = 64 by omega]
  obtain ⟨P, hPP⟩ : ∃ P, 2 ^ s = P := ⟨_, rfl⟩
  obtain ⟨R, hR⟩ : ∃ R, 2 ^ (64 - s) = R := ⟨_, rfl⟩
  have hsI : (2 : Int) ^ (s : Int).toNat = (P : Int) := by rw [Int.toNat_natCast, ← hPP]; simp
  have hrI : (2 : Int) ^ ((64 - s : Nat) : Int).toNat = (R : Int) := by rw [Int.toNat_natCast, ← hR]; simp
  rw [hPP, hR] at hPe
  rw [hPP] at b2 b3 hP
  have hR0 : 0 < R := by rcases Nat.eq_zero_or_pos R with h | h; · subst h; omega
                         ·exact h
  -- lo shifted
  have l1 : lo / R < P := (Nat.div_lt_iff_lt_mul hR0).2 (by rw [Nat.mul_comm]; omega)
  have l2 : lo * P / 18446744073709551616 = lo / R := by rw [← hPe, Nat.mul_div_mul_right _ _ hP]
  have l3 := Nat.div_add_mod (lo * P) 18446744073709551616
  rw [l2] at l3
  have hhi : (hi + 1) * P ≤ y * P := Nat.mul_le_mul_right P h1
  rw [Nat.add_mul, Nat.one_mul] at hhi
  obtain ⟨x1, hx1⟩ : ∃ x1, lo * P % 18446744073709551616 = x1 := ⟨_, rfl⟩
  have hx2 : x1 < 18446744073709551616 := by omega
  have oo := or_add hi P (lo / R) s hPP.symm l1 (by omega)
  have hcx : (hi * P + lo / R) * 18446744073709551616 + x1 = (hi * 18446744073709551616 + lo) * P := by
   rw [Nat.add_mul, Nat.add_mul, Nat.mul_right_comm]
   omega
  have hN : DigN (y * P) (y * P / 4294967296) (y * P % 4294967296) (hi * P + lo / R) (x1 / 4294967296) := ⟨by omega, by omega, by omega, by omega, by omega, by omega⟩
  refine (div_walk hi lo y s (y * P) (y * P / 4294967296) (y * P % 4294967296) (hi * P) (64 - s) (lo / R) (hi * P + lo / R) x1 (x1 / 4294967296) (x1 % 4294967296) w hN (by omega) hlo b3 t0 t1 (by simpa using hz) (by omega) (u64_in rfl (by omega)) ?_ ?_ ?_ ?_ ?_ ?_ oo ?_ ?_ ?_ ?_ K).mono ?_
  ·rw [shift_shl .u64 .u64 (y : Int) (s : Int) (by omega) (by simp [IntKind.bits]; omega), hsI, u64_in (Int.natCast_mul y P).symm b3]
  ·exact (shift_shr .u64 .u64 ((y * P : Nat) : Int) 32 (by omega) (by decide)).trans (by congr 2)
  ·exact Mul64.maskN _ b3
  ·rw [shift_shl .u64 .u64 (hi : Int) (s : Int) (by omega) (by simp [IntKind.bits]; omega), hsI, u64_in (Int.natCast_mul hi P).symm (by omega)]
  ·exact u64_in (by omega) (by omega)
  ·rw [shift_shr .u64 .u64 (lo : Int) ((64 - s : Nat) : Int) (by omega) (by simp [IntKind.bits]; omega), hrI]
   rfl
  ·rw [shift_shl .u64 .u64 (lo : Int) (s : Int) (by omega) (by simp [IntKind.bits]; omega), hsI, u64_of (n := x1) (by rw [← Int.natCast_mul]; omega)]
  ·exact (shift_shr .u64 .u64 (x1 : Int) 32 (by omega) (by decide)).trans (by congr 2)
  ·exact Mul64.maskN _ hx2
  ·exact fun x => ⟨_, shift_shr .u64 .u64 x (s : Int) (by omega) (by simp [IntKind.bits]; omega)⟩
  ·rintro e w' ⟨⟨q, r, rfl, hq⟩, rfl⟩
   obtain ⟨q1, q0, c2, e1, e2, e3, e4⟩ := hq.out
   have hm : hi * 18446744073709551616 + lo < 18446744073709551616 * y := by
    have := Nat.mul_le_mul_left 18446744073709551616 (show hi + 1 ≤ y from h1)
    omega
   rw [div_is e4 (div_fin hP rfl hcx (by omega) e2 e3.1) (div_fin2 hP rfl hcx (by omega) e2 e3.2.1) hm]
   exact ⟨⟨r, rfl⟩, Below.refl _ _⟩
end
section
open Go.RowKit
def partI (a b : Int) : Int := if b ≤ a / 2 then 18446744073709551615 else 9223372036854775808 * a / b
theorem partI_nat (x y : Nat) (h : ¬ y ≤ x / 2) : partI (x : Int) (y : Int) = ((9223372036854775808 * x / y : Nat) : Int) := by
 unfold partI
 rw [if_neg (by omega), Int.natCast_ediv, Int.natCast_mul]
 rfl
theorem part_bd {a b : Int} (ha : U a) (hb : U b) : U (partI a b) ∧ partI a b * b ≤ 9223372036854775808 * a := by
 obtain ⟨x, rfl⟩ : ∃ x : Nat, a = (x : Int) := ⟨a.toNat, by have := ha.1; omega⟩
 obtain ⟨y, rfl⟩ : ∃ y : Nat, b = (y : Int) := ⟨b.toNat, by have := hb.1; omega⟩
 by_cases h : y ≤ x / 2
 ·have e : partI (x : Int) (y : Int) = 18446744073709551615 := by unfold partI; rw [if_pos (by omega)]
  rw [e]
  exact ⟨⟨by decide, by decide⟩, by omega⟩
 ·rw [partI_nat x y h]
  have h1 := Nat.div_mul_le_self (9223372036854775808 * x) y
  have h2 : 9223372036854775808 * x / y < 18446744073709551616 := (Nat.div_lt_iff_lt_mul (by omega)).2 (by omega)
  generalize 9223372036854775808 * x / y = q at *
  refine ⟨⟨by omega, by omega⟩, ?_⟩
  rw [← Int.natCast_mul]
  omega
theorem part_any (a b : Int) (w : World) (ha : U a) (hb : U b) :
  Calls Tryz.prog 89 #[.int .u64 a, .int .u64 b] w fun e w' => e = .returned (.int .u64 (partI a b)) ∧ Below w.heap.size w w' := by
 obtain ⟨x, rfl⟩ : ∃ x : Nat, a = (x : Int) := ⟨a.toNat, by have := ha.1; omega⟩
 obtain ⟨y, rfl⟩ : ∃ y : Nat, b = (y : Int) := ⟨b.toNat, by have := hb.1; omega⟩
 have hx := ha.2
 have hy := hb.2
 have KM : Calls Tryz.prog 116 #[.int .u64 9223372036854775808, .int .u64 (x : Int)] w fun e w' => e = .returned (.tuple #[.int .u64 ((9223372036854775808 * x / 18446744073709551616 : Nat) : Int), .int .u64 ((9223372036854775808 * x % 18446744073709551616 : Nat) : Int)]) ∧ w' = w := Tryz.bits_Mul64 9223372036854775808 x (by omega) (by omega) w
 have e1 : 9223372036854775808 * x / 18446744073709551616 = x / 2 := by omega
 obtain ⟨lo, hlo⟩ : ∃ lo, 9223372036854775808 * x % 18446744073709551616 = lo := ⟨_, rfl⟩
 rw [e1, hlo] at KM
 obtain ⟨h, hh⟩ : ∃ h, x / 2 = h := ⟨_, rfl⟩
 rw [hh] at KM
 have hl : lo < 18446744073709551616 := by omega
 have hhx : h * 18446744073709551616 + lo = 9223372036854775808 * x := by omega
 by_cases hc : y ≤ h
 ·have t1 : decide ((h : Int) ≥ (y : Int)) = true := decide_eq_true (by omega)
  have t2 : decide (y ≤ h) = true := decide_eq_true hc
  have e : partI (x : Int) (y : Int) = 18446744073709551615 := by unfold partI; rw [if_pos (by omega)]
  rw [e]
  clear hc hh hhx hl hlo e1 ha hb e
  go_enter Tryz.func89, Tryz.ntmps89
  go_wp2_with (first
   | (go_at_call 116; (with_reducible refine KM.mono ?_); rintro e w1 ⟨rfl, rfl⟩)
   | fail)
  go_ret
  exact ⟨rfl, Below.refl _ _⟩
 ·have t1 : decide ((h : Int) ≥ (y : Int)) = false := decide_eq_false (by omega)
  have t2 : decide (y ≤ h) = false := decide_eq_false hc
  have KD := Lib.hid (fun W => div64_any h lo y W (by omega) (by omega) hl)
  rw [partI_nat x y (by omega)]
  rw [hhx] at KD
  generalize 9223372036854775808 * x / y = q at *
  clear hc hh hhx hl hlo e1 ha hb
  go_enter Tryz.func89, Tryz.ntmps89
  go_wp2_with (first
   | (go_at_call 116; (with_reducible refine KM.mono ?_); rintro e w1 ⟨rfl, rfl⟩)
   | (go_at_call 117; (with_reducible refine (KD.out _).mono ?_); rintro e w2 ⟨⟨r, rfl⟩, hb⟩)
   | fail)
  go_ret
  exact ⟨rfl, hb⟩
theorem most_any (x : Ts) (w : World) (h1 : 0 ≤ x.d - x.j) (h2 : x.d - x.j ≤ 4611686018427387904) :
  Calls Tryz.prog 56 #[tsV x] w fun e w' => e = .returned (.int .u64 (x.d - x.j)) ∧ Below w.heap.size w w' := by
 obtain ⟨w1, w2⟩ := w64 (z := x.d - x.j) (by omega) h2
 have w3 : IntKind.u64.wrap (x.d - x.j) = x.d - x.j := by rw [IntKind.wrap_u64]; omega
 have HT := TAt.new w x
 have c3 := HT.c3
 have c4 := HT.c4
 have hb : Below w.heap.size w (w.alloc (.cells #[.string x.n, .int .i64 x.c, .int .i64 x.t, .int .i64 x.d, .int .i64 x.j, .int .i64 x.q, .int .i64 x.p] 26)) := (Below.refl _ _).alloc (Nat.le_refl _) _
 clear h1 h2 HT
 go_enter Tryz.func56, Tryz.ntmps56
 go_wp2
 go_ret
 exact ⟨rfl, hb⟩
theorem rmay_any (A : Option Addr) (cap : Nat) (l : List Ts) (i : Int) (w : World) (hR : Row w A cap l) (hi : in64 i) :
  Calls Tryz.prog 29 #[.slice A l.length cap, .int .i64 i] w fun e w' => e = .returned (.bool (isB l i)) ∧ Below w.heap.size w w' := by
 have K := Lib.hid (checkAll_any A cap l w hR)
 have HE : Hid (isB l i = (decide ((chkAll l).2 = 0) && (decide (0 ≤ i) && decide (i < (l.length : Int))))) := Lib.hid rfl
 have hmx := Nat.le_trans hR.le hR.mx
 generalize isB l i = b at *
 generalize (chkAll l).1 = a at *
 generalize (chkAll l).2 = ce at *
 generalize l.length = N at *
 clear hR
 by_cases h1 : i < 0
 ·have u1 : decide (i < 0) = true := decide_eq_true h1
  have hb : b = false := by rw [HE.out, decide_eq_false (show ¬ 0 ≤ i by omega)]; simp
  rw [hb]
  clear hb HE
  go_enter Tryz.func29, Tryz.ntmps29
  go_wp2
  go_ret
  exact ⟨rfl, Below.refl _ _⟩
 ·have u1 : decide (i < 0) = false := decide_eq_false h1
  by_cases h2 : i < (N : Int)
  ·have u2 : decide (i ≥ (N : Int)) = false := decide_eq_false (by omega)
   have u2' : decide ((N : Int) ≤ i) = false := decide_eq_false (by omega)
   have hb : b = (ce == 0) := by rw [HE.out, decide_eq_true (show 0 ≤ i by omega), decide_eq_true h2, Bool.and_true, Bool.and_true]; rfl
   rw [hb]
   clear hb HE
   go_enter Tryz.func29, Tryz.ntmps29
   go_wp2_with (go_at_call 42; (with_reducible refine K.out.mono ?_); rintro e w1 ⟨rfl, h⟩)
   go_ret
   exact ⟨rfl, h⟩
  ·have u2 : decide (i ≥ (N : Int)) = true := decide_eq_true (by omega)
   have u2' : decide ((N : Int) ≤ i) = true := decide_eq_true (by omega)
   have hb : b = false := by rw [HE.out, decide_eq_false h2]; simp
   rw [hb]
   clear hb HE
   go_enter Tryz.func29, Tryz.ntmps29
   go_wp2
   go_ret
   exact ⟨rfl, Below.refl _ _⟩
end
section
open Go.RowKit Go.Shelf
attribute [local go_sem] Oper.semAt_some
def LeAll (N : Int → Int) (M v : Int) : Prop := ∀ w : Int, 1 ≤ w → w ≤ M → N w ≤ w → v ≤ w
theorem leall_next {N : Int → Int} (h : Rises N) {M v : Int} (h0 : 0 ≤ v) (hl : LeAll N M v) : LeAll N M (N v) := fun w h1 h2 he => Int.le_trans (h.mono h0 (hl w h1 h2 he)) he
theorem leall_up {N : Int → Int} (h : Rises N) {M v : Int} (h0 : 0 ≤ v) (hM : v ≤ M) (hl : LeAll N M v) : v ≤ N v := by
 rcases Int.lt_or_le (N v) v with h1 | h1
 ·have hp := h.pos h0
  have := hl (N v) hp (by omega) (h.mono (by omega) (by omega))
  omega
 ·exact h1
def eachT (N : Int → Int) (M : Int) : Nat → Int → List Int
 | 0, w => []
 | f + 1, w => if w > M ∨ N w = w then [] else eachF N M f (N w)
theorem each_head (N : Int → Int) (M : Int) : ∀ (f : Nat) (w : Int), eachF N M f w = w :: eachT N M f w
 | 0, w => rfl
 | f + 1, w => by
   rw [eachF, eachT]
   split <;> rfl
theorem eachT_big {N : Int → Int} {M : Int} {f : Nat} {w : Int} (h : M < w) : eachT N M f w = [] := by
 cases f with
 | zero => rfl
 | succ f => rw [eachT, if_pos (.inl h)]
theorem eachT_rest {N : Int → Int} {M : Int} {f : Nat} {w : Int} (h : N w = w) : eachT N M f w = [] := by
 cases f with
 | zero => rfl
 | succ f => rw [eachT, if_pos (.inr h)]
theorem eachT_go {N : Int → Int} {M : Int} {f : Nat} {w : Int} (h1 : w ≤ M) (h2 : N w ≠ w) (hf : M - w < (f : Int)) : ∃ g, eachT N M f w = eachF N M g (N w) ∧ f = g + 1 := by
 cases f with
 | zero => omega
 | succ g => exact ⟨g, by rw [eachT, if_neg (by omega)], rfl⟩
theorem leall_last {N : Int → Int} (h : Rises N) (M : Nat) : ∀ (f : Nat) (v : Int), 0 ≤ v → LeAll N M v → (M : Int) - v < (f : Int) → ∃ z, (eachF N M f v).getLast? = some z ∧ ((z > (M : Int) ∧ leastF N M = none) ∨ (z ≤ (M : Int) ∧ leastF N M = some z.toNat ∧ N z = z ∧ 1 ≤ z)) := by
 intro f
 induction f with
 | zero =>
   intro v h0 hl hf
   refine ⟨v, rfl, .inl ⟨by omega, leastF_not fun u h1 h2 => ?_⟩⟩
   rcases Int.lt_or_le (u : Int) (N u) with h9 | h9
   ·exact h9
   ·have := hl u (by omega) (by omega) h9; omega
 | succ f ih =>
   intro v h0 hl hf
   rw [each_head, eachT]
   split
   ·rename_i hc
    refine ⟨v, rfl, ?_⟩
    rcases Int.lt_or_le (M : Int) v with hg | hg
    ·refine .inl ⟨hg, leastF_not fun u h1 h2 => ?_⟩
     rcases Int.lt_or_le (u : Int) (N u) with h9 | h9
     ·exact h9
     ·have := hl u (by omega) (by omega) h9; omega
    ·have he : N v = v := by rcases hc with hc | hc; · omega
                             ·exact hc
     have hp := h.pos h0
     have e : ((v.toNat : Nat) : Int) = v := by omega
     refine .inr ⟨hg, leastF_is (by omega) (by omega) (by rw [e, he]; exact Int.le_refl _) fun u h1 h2 => ?_, he, by omega⟩
     rcases Int.lt_or_le (u : Int) (N u) with h9 | h9
     ·exact h9
     ·have := hl u (by omega) (by omega) h9; omega
   ·rename_i hc
    have hu := leall_up h h0 (by omega) hl
    have hne : N v ≠ v := fun e => hc (.inr e)
    have hp := h.pos h0
    obtain ⟨z, hz, h2⟩ := ih (N v) (by omega) (leall_next h h0 hl) (by omega)
    refine ⟨z, ?_, h2⟩
    rw [List.getLast?_cons, hz]
    rfl
abbrev numU (x : Int) : Array Value := #[.int .u64 x]
structure NmS (w : World) (A : Option Addr) (cap : Nat) (l : List Ts) (k : Nat) (bl bi : Nat) : Prop where
 lx : Boxed w bl 23 (.slice A l.length cap)
 ix : Boxed w bi 3 (.int .i64 (k : Int))
 rw_ : Row w A cap l
 tb : Tab w
structure NmK (P : Nat → TypeId → Prop) (A : Option Addr) (bl bi : Nat) : Prop where
 l : ∀ T, P bl T
 i : ∀ T, P bi T
 t : ∀ T, P 0 T
 r : ∀ b o, A = some ⟨b, o, none⟩ → ∀ T, P b T
theorem NmS.keep {P : Nat → TypeId → Prop} {A : Option Addr} {cap bl bi k : Nat} {l : List Ts} {w w' : World} (h : NmS w A cap l k bl bi) (hP : NmK P A bl bi) (hk : KeepG P w w') : NmS w' A cap l k bl bi :=
 ⟨hk.boxed h.lx (hP.l _), hk.boxed h.ix (hP.i _), h.rw_.keepG hk hP.r, hk.tab h.tb hP.t⟩
theorem NmS.later {A : Option Addr} {cap bl bi k : Nat} {l : List Ts} {w w' : World} (h : NmS w A cap l k bl bi) (hb : Below w.heap.size w w') : NmS w' A cap l k bl bi :=
 h.keep (P := fun _ _ => True) ⟨fun _ => trivial, fun _ => trivial, fun _ => trivial, fun _ _ _ _ => trivial⟩ (KeepG.below hb)
theorem need_U {l : List Ts} {k : Nat} {y : Ts} (hc : (chkAll l).2 = 0) (hy : l[k]? = some y) {v : Int} (hv : U v) : U (needI l (k : Int) v) := by
 rw [need_form hc hy]
 have hv' := vs_of hc
 have h0 := (hv'.all y (List.mem_of_getElem? hy)).c0
 have hb := blockI_bd l (k : Int)
 have e : blockI l (k : Int) = blkU y.p l := by unfold blockI; rw [isB_at hc hy, if_pos rfl, (pOf_get hy).1]
 rw [e] at hb
 exact satAdd_u (satAdd_u (satAdd_u (by omega) (by omega)).1 hb.1).1 (hiU_nonneg hv' hv.1)
theorem numbers1_seq (n : Nat) (hn1 : 1 ≤ n) (A : Option Addr) (cap : Nat) (l : List Ts) (k : Nat) (y : Ts) (v0 : Int) (bw bl bi : Nat) (P : Nat → TypeId → Prop) (w : World) (hS : NmS w A cap l k bl bi) (hB : Boxed w bw 80 (.int .u64 v0)) (hP : NmK P A bl bi) (hc : (chkAll l).2 = 0) (hy : l[k]? = some y) (hv0 : U v0) (hl0 : LeAll (needI l (k : Int)) (y.d - y.j) v0) (f0 : Nat) (hf0 : y.d - y.j - v0 < (f0 : Int)) :
  SeqG numU n 87 #[.pointer (some ⟨bw, 0, none⟩), .pointer (some ⟨bl, 0, none⟩), .pointer (some ⟨bi, 0, none⟩)] P (eachF (needI l (k : Int)) (y.d - y.j) f0 v0) w := by
 intro lp J Jx W hW hO hOx hY hJ
 have hm := mOf_get hc hy
 have hR := need_rises (isB_at hc hy)
 have hM1 : 0 ≤ y.d - y.j := by omega
 have hM2 : y.d - y.j ≤ 2147483647 := by omega
 have hk := (List.getElem?_eq_some_iff.1 hy).1
 have HNU := Lib.hid (fun v hv => need_U hc hy (v := v) hv)
 obtain ⟨N, hN⟩ : ∃ N, needI l (k : Int) = N := ⟨_, rfl⟩
 have KN := Lib.hid (fun v hv V hR hT => need_any A cap l (k : Int) v V hR ⟨by omega, by have := hR.le; have := hR.mx; omega⟩ hv hT)
 rw [hN] at hl0 hY HNU hR KN ⊢
 have KM := Lib.hid (fun V => most_any y V hM1 (by omega))
 obtain ⟨M, hMM⟩ : ∃ M, y.d - y.j = M := ⟨_, rfl⟩
 rw [hMM] at hl0 hY hM1 hM2 KM hf0 ⊢
 have HS0 := Lib.hid (hS.later hW)
 have HB0 := Lib.hid (boxed_later2 hB (hW.mono (Nat.le_refl _)))
 have HY := Lib.hid hY
 have HP := Lib.hid hP
 have HRS := Lib.hid hR
 have HJ0 := Lib.hid hJ
 have HO := Lib.hid hO
 have HM := Lib.hid (And.intro hM1 hM2)
 have HL0 := Lib.hid (And.intro hv0 (And.intro hl0 hf0))
 have HYY := Lib.hid hy
 have cb := HB0.out.cell
 clear hS hY hP hR hJ hO hOx hM1 hM2 hm hN hMM hl0 hf0 hv0 hc hy
 refine callsIn_of_wp Tryz.func87 rfl trivial ?_ rfl
 simp only [Tryz.ntmps87, List.size_toArray, List.length_cons, List.length_nil, Nat.reduceAdd, Nat.reduceSub, Array.replicate_succ, Array.replicate_zero, List.push_toArray, List.append_toArray, List.nil_append, List.cons_append]
 gi_wp2
 gi_loopw [5] (fun s5 wr => ∃ (v : Int) (pre : List Int) (f : Nat), s5 = .int .u64 v ∧ Hid (U v ∧ LeAll N M v ∧ M - v < (f : Int)) ∧ Hid (eachF N M f0 v0 = pre ++ eachF N M f v) ∧ Hid (J pre wr) ∧ Hid (NmS wr A cap l k bl bi) ∧ Hid (W.heap.size ≤ wr.heap.size)) (fun s5 _ => (M + 1 - intOf s5).toNat)
 case atStart => exact ⟨v0, [], f0, rfl, HL0, Lib.hid rfl, HJ0, HS0, Lib.hid (Nat.le_refl _)⟩
 case round =>
  obtain ⟨v, pre, f, rfl, HV, HL, HJ, HS, HSz⟩ := hrel
  clear HJ0 HS0 HL0 cb HB0
  obtain ⟨tl, htl⟩ : ∃ tl, eachT N M f v = tl := ⟨_, rfl⟩
  have hL := HL.out
  rw [each_head N M f v, htl] at hL
  have HT := Lib.hid htl
  obtain ⟨fn, tmps, assign, body, hy, hR⟩ := HY.out pre v _ wr HJ.out hL
  have HLL := Lib.hid hL
  clear hL htl
  simp only [numU] at hy
  gi_wp2
  refine hR.mono ?_
  rintro e W3 (⟨rfl, hJ4, hk4, -⟩ | ⟨rfl, hJx4, -⟩)
  ·have HJ := Lib.hid hJ4
   have HS := Lib.hid (HS.out.keep HP.out hk4)
   have HSz := Lib.hid (Nat.le_trans HSz.out hk4.size)
   clear hJ4 hk4 hR hy
   obtain ⟨b, o, x, rfl, hx, -, hbl, hTk⟩ := HS.out.rw_.get hk
   obtain rfl : y = x := by have := HYY.out.symm.trans hx; simpa using this
   have hle := HS.out.rw_.le
   have hmx := HS.out.rw_.mx
   have c0 := hTk.c0
   have c1 := hTk.c1
   have c2 := hTk.c2
   have c3 := hTk.c3
   have c4 := hTk.c4
   have c5 := hTk.c5
   have c6 := hTk.c6
   have cl := HS.out.lx.cell
   have ci := HS.out.ix.cell
   have i0 : (0 : Int) ≤ (k : Int) := by omega
   have i1 : (k : Int) < (l.length : Int) := by omega
   clear hx hbl hTk
   by_cases hvM : v ≤ M
   ·have u1 : decide (v ≤ M) = true := decide_eq_true hvM
    have hvu := HV.out.1
    have KNv := Lib.hid (fun V h1 h2 => KN.out v hvu V h1 h2)
    have HNv := Lib.hid (HNU.out v hvu)
    have HG := Lib.hid (fun h2 : N v ≠ v => eachT_go (f := f) hvM h2 HV.out.2.2)
    have HE := Lib.hid (fun h2 : N v = v => eachT_rest (M := M) (f := f) h2)
    have HUP := Lib.hid (leall_up HRS.out hvu.1 hvM HV.out.2.1)
    have HNX := Lib.hid (leall_next HRS.out hvu.1 HV.out.2.1)
    have HVM := Lib.hid hvM
    clear hvM hvu
    obtain ⟨x, hx⟩ : ∃ x, N v = x := ⟨_, rfl⟩
    rw [hx] at KNv HNv HG HE HUP HNX
    by_cases hnx : x = v
    ·have u2 : (x == v) = true := by simpa using hnx
     have HD := Lib.hid (HE.out hnx)
     have HXV := Lib.hid hnx
     clear hnx hx
     gi_wp2_with (first
      | (refine ⟨trivial, ?_⟩; gi_at_call 56; refine (callsIn_wide.2 (KM.out _)).mono ?_; rintro e w5 ⟨rfl, hb⟩; have HJ := Lib.hid (own_below HO.out HJ.out hb); have HS := Lib.hid (HS.out.later hb); have cl := HS.out.lx.cell; have ci := HS.out.ix.cell; clear hb)
      | (refine ⟨trivial, ?_⟩; gi_at_call 88; refine (callsIn_wide.2 (KNv.out _ HS.out.rw_ HS.out.tb)).mono ?_; rintro e w6 ⟨rfl, hb⟩; have HJ := Lib.hid (own_below HO.out HJ.out hb); clear hb)
      | fail)
     refine bodyPost_ret (results_none rfl _ _ _) rfl ?_
     refine ⟨⟨_, rfl⟩, .inl ?_⟩
     have hd := HT.out.symm.trans HD.out
     have hl := HLL.out
     rw [hd] at hl
     rw [hl]
     exact HJ.out
    ·have u2 : (x == v) = false := by simpa using hnx
     obtain ⟨g, hg1, hg2⟩ := HG.out hnx
     have HG := Lib.hid (And.intro hg1 hg2)
     have HNX2 := Lib.hid hnx
     clear hnx hx hg1 hg2
     gi_wp2_with (first
      | (refine ⟨trivial, ?_⟩; gi_at_call 56; refine (callsIn_wide.2 (KM.out _)).mono ?_; rintro e w5 ⟨rfl, hb⟩; have HJ := Lib.hid (own_below HO.out HJ.out hb); have HS := Lib.hid (HS.out.later hb); have HSz := Lib.hid (Nat.le_trans HSz.out hb.size); have cl := HS.out.lx.cell; have ci := HS.out.ix.cell; clear hb)
      | (refine ⟨trivial, ?_⟩; gi_at_call 88; refine (callsIn_wide.2 (KNv.out _ HS.out.rw_ HS.out.tb)).mono ?_; rintro e w6 ⟨rfl, hb⟩; have HJ := Lib.hid (own_below HO.out HJ.out hb); have HS := Lib.hid (HS.out.later hb); have HSz := Lib.hid (Nat.le_trans HSz.out hb.size); clear hb)
      | fail)
     go_roundw
     case rel =>
      refine ⟨x, pre ++ [v], g, rfl, Lib.hid ⟨HNv.out, HNX.out, ?_⟩, Lib.hid ?_, HJ, HS, HSz⟩
      ·have h1 := HUP.out
       have h2 := HNX2.out
       have h3 := HV.out.2.2
       have h4 := HG.out.2
       omega
      ·rw [HLL.out, ← HT.out, HG.out.1]
       simp
     case measure =>
      have h1 := HUP.out
      have h2 := HNX2.out
      have h3 := HVM.out
      have h4 := HV.out.1.1
      simp only [intOf]
      omega
   ·have u1 : decide (v ≤ M) = false := decide_eq_false hvM
    have HD := Lib.hid (eachT_big (N := N) (f := f) (show M < v by omega))
    clear hvM
    gi_wp2_with (first
     | (refine ⟨trivial, ?_⟩; gi_at_call 56; refine (callsIn_wide.2 (KM.out _)).mono ?_; rintro e w5 ⟨rfl, hb⟩; have HJ := Lib.hid (own_below HO.out HJ.out hb); have HS := Lib.hid (HS.out.later hb); have HSz := Lib.hid (Nat.le_trans HSz.out hb.size); have cl := HS.out.lx.cell; have ci := HS.out.ix.cell; clear hb)
     | fail)
    go_end0
    refine ⟨⟨_, rfl⟩, .inl ?_⟩
    have hd := HT.out.symm.trans HD.out
    have hl := HLL.out
    rw [hd] at hl
    rw [hl]
    exact HJ.out
  ·gi_wp2
   refine ⟨trivial, ?_⟩
   gi_wp2
   go_end0
   exact ⟨⟨_, rfl⟩, .inr ⟨pre, v, _, HLL.out, hJx4⟩⟩
end
section
def frF (f : Int) (x : Ts) : Int := f - min f (partI x.c x.t)
theorem frF_bd {f : Int} {x : Ts} (h0 : 0 ≤ f) (h1 : f ≤ 9223372036854775808) (hp : 0 ≤ partI x.c x.t) : 0 ≤ frF f x ∧ frF f x ≤ f := by
 unfold frF
 omega
theorem satAdd_low {a b : Int} (h : satAdd a b < 1099511627776) : satAdd a b = a + b := by
 unfold satAdd at *
 split at h
 ·rename_i h1; rw [if_pos h1]
 ·omega
theorem satMul_low {a b : Int} (h : satMul a b < 1099511627776) : satMul a b = a * b := by
 by_cases h1 : a * b ≤ 18446744073709551615
 ·exact satMul_fit h1
 ·have e : satMul a b = 18446744073709551615 := by
   unfold satMul endN mulB mulN
   rw [if_neg h1, decide_eq_false h1]
   rfl
  rw [e] at h
  omega
theorem hF_ge {w s : Int} {x : Ts} (hx : TsOk x) (hw : U w) (hs : U s) : s ≤ hF w s x := satAdd_ge hs.2 (satMul_u (by have := hx.c0; omega) (relS_u hx.rel hw).1).1
theorem hF_fold_ge {w : Int} (hw : U w) : ∀ (L : List Ts) (s : Int), (∀ x ∈ L, TsOk x) → U s → s ≤ L.foldl (hF w) s
 | [], s, _, _ => Int.le_refl _
 | x :: L, s, h, hs => Int.le_trans (hF_ge (h x (by simp)) hw hs) (hF_fold_ge hw L _ (fun y hy => h y (by simp [hy])) (hF_u (h x (by simp)) hw hs))
theorem part_work {x : Ts} (hx : TsOk x) {w s : Int} (hw0 : 1 ≤ w) (hw1 : w ≤ 2147483647) (hs : U s) (hl : hF w s x < 1099511627776) : w * partI x.c x.t ≤ 9223372036854775808 * (hF w s x - s) := by
 have c0 := hx.c0; have c1 := hx.c1; have t0 := hx.t0; have t1 := hx.t1; have j0 := hx.j0; have j1 := hx.j1
 have hru := relS_u hx.rel (w := w) ⟨by omega, by omega⟩
 have e1 : hF w s x = s + satMul x.c (relSD x w) := satAdd_low hl
 have hmu := satMul_u (a := x.c) (b := relSD x w) (by omega) hru.1
 have e2 : satMul x.c (relSD x w) = x.c * relSD x w := satMul_low (by have := hs.1; omega)
 have e3 : relSD x w = ceilI (w + x.j) x.t := by
  unfold relSD oftS
  rw [if_neg (by omega), satAdd_fit (by omega), ceil_is (by omega) t0]
 have e4 := (ceilI_bds (a := w + x.j) t0).1
 have e5 := ceilI_nonneg (a := w + x.j) (by omega) t0
 obtain ⟨q0, q1⟩ := part_bd (a := x.c) (b := x.t) ⟨by omega, by omega⟩ ⟨by omega, by omega⟩
 rw [e1, e2, e3]
 generalize ceilI (w + x.j) x.t = m at *
 generalize partI x.c x.t = p at *
 have f1 : w * p ≤ m * x.t * p := Int.mul_le_mul_of_nonneg_right (by omega) q0.1
 have f2 : p * x.t * m ≤ 9223372036854775808 * x.c * m := Int.mul_le_mul_of_nonneg_right q1 e5
 have f3 : m * x.t * p = p * x.t * m := by rw [Int.mul_comm (m * x.t), Int.mul_comm m, Int.mul_assoc]
 have f4 : 9223372036854775808 * x.c * m = 9223372036854775808 * (x.c * m) := Int.mul_assoc _ _ _
 generalize x.c * m = u at *
 omega
theorem free_fold {w : Int} (hw0 : 1 ≤ w) (hw1 : w ≤ 2147483647) : ∀ (L : List Ts) (f s : Int), (∀ x ∈ L, TsOk x) → 0 ≤ f → f ≤ 9223372036854775808 → U s → L.foldl (hF w) s < 1099511627776 →
  0 ≤ L.foldl frF f ∧ L.foldl frF f ≤ f ∧ w * (f - L.foldl frF f) ≤ 9223372036854775808 * (L.foldl (hF w) s - s)
 | [], f, s, _, h0, h1, _, _ => by
   refine ⟨h0, Int.le_refl _, ?_⟩
   show w * (f - f) ≤ 9223372036854775808 * (s - s)
   rw [Int.sub_self, Int.sub_self, Int.mul_zero, Int.mul_zero]
   exact Int.le_refl _
 | x :: L, f, s, h, h0, h1, hs, hl => by
   have hx := h x (by simp)
   have hU : U w := ⟨by omega, by omega⟩
   have hsu := hF_u hx hU hs
   have hge := hF_fold_ge hU L (hF w s x) (fun y hy => h y (by simp [hy])) hsu
   have hpw := part_work hx hw0 hw1 hs (Int.lt_of_le_of_lt hge hl)
   have hp0 := (part_bd (a := x.c) (b := x.t) ⟨by have := hx.c0; omega, by have := hx.c1; omega⟩ ⟨by have := hx.t0; omega, by have := hx.t1; omega⟩).1.1
   obtain ⟨b0, b1⟩ := frF_bd h0 h1 hp0
   obtain ⟨a0, a1, a2⟩ := free_fold hw0 hw1 L (frF f x) (hF w s x) (fun y hy => h y (by simp [hy])) b0 (by omega) hsu hl
   have hd : f - frF f x ≤ partI x.c x.t := by unfold frF; omega
   have g1 : w * (f - frF f x) ≤ w * partI x.c x.t := Int.mul_le_mul_of_nonneg_left hd (by omega)
   show 0 ≤ L.foldl frF (frF f x) ∧ L.foldl frF (frF f x) ≤ f ∧ w * (f - L.foldl frF (frF f x)) ≤ 9223372036854775808 * (L.foldl (hF w) (hF w s x) - s)
   refine ⟨a0, by omega, ?_⟩
   have e : f - L.foldl frF (frF f x) = (f - frF f x) + (frF f x - L.foldl frF (frF f x)) := by omega
   rw [e, Int.mul_add]
   omega
theorem free_bd : ∀ (L : List Ts) (f : Int), (∀ x ∈ L, TsOk x) → 0 ≤ f → f ≤ 9223372036854775808 → 0 ≤ L.foldl frF f ∧ L.foldl frF f ≤ f
 | [], f, _, h0, _ => ⟨h0, Int.le_refl _⟩
 | x :: L, f, h, h0, h1 => by
   have hx := h x (by simp)
   have hp0 := (part_bd (a := x.c) (b := x.t) ⟨by have := hx.c0; omega, by have := hx.c1; omega⟩ ⟨by have := hx.t0; omega, by have := hx.t1; omega⟩).1.1
   obtain ⟨b0, b1⟩ := frF_bd h0 h1 hp0
   obtain ⟨a0, a1⟩ := free_bd L (frF f x) (fun y hy => h y (by simp [hy])) b0 (by omega)
   exact ⟨a0, Int.le_trans a1 b1⟩
def freeI (p : Int) (l : List Ts) : Int := (l.filter (fun x => decide (x.p < p))).foldl frF 9223372036854775808
def startI (l : List Ts) (k : Nat) (y : Ts) : Int := partI (needI l (k : Int) 0) (freeI y.p l)
theorem freeI_bd {l : List Ts} (hc : (chkAll l).2 = 0) (p : Int) : 0 ≤ freeI p l ∧ freeI p l ≤ 9223372036854775808 :=
 free_bd _ _ (fun x hx => (vs_of hc).all x (List.mem_filter.1 hx).1) (by decide) (by decide)
theorem start_U {l : List Ts} {k : Nat} {y : Ts} (hc : (chkAll l).2 = 0) (hy : l[k]? = some y) : U (startI l k y) ∧ startI l k y * freeI y.p l ≤ 9223372036854775808 * needI l (k : Int) 0 :=
 part_bd (need_U hc hy ⟨by decide, by decide⟩) ⟨(freeI_bd hc _).1, by have := (freeI_bd hc y.p).2; omega⟩
theorem need_zero {l : List Ts} {k : Nat} {y : Ts} (hc : (chkAll l).2 = 0) (hy : l[k]? = some y) : needI l (k : Int) 0 = y.c + blkU y.p l ∧ 0 ≤ blkU y.p l ∧ blkU y.p l ≤ 2147483647 := by
 have hv := (vs_of hc).all y (List.mem_of_getElem? hy)
 have h0 := hv.c0
 have h1 := hv.c1
 have hb := blockI_bd l (k : Int)
 have e : blockI l (k : Int) = blkU y.p l := by unfold blockI; rw [isB_at hc hy, if_pos rfl, (pOf_get hy).1]
 rw [e] at hb
 rw [need_form hc hy, show hiU y.p 0 l = 0 from rfl, satAdd_fit (a := 0) (by omega), satAdd_fit (a := 0 + y.c) (by omega), satAdd_fit (by omega)]
 omega
theorem start_le {l : List Ts} {k : Nat} {y : Ts} (hc : (chkAll l).2 = 0) (hy : l[k]? = some y) : LeAll (needI l (k : Int)) (y.d - y.j) (startI l k y) := by
 intro w h1 h2 he
 have hm := mOf_get hc hy
 have hv := vs_of hc
 obtain ⟨n0, n1, n2⟩ := need_zero hc hy
 have hp := (need_rises (isB_at hc hy)).pos (w := 0) (Int.le_refl _)
 have hw : U w := ⟨by omega, by omega⟩
 obtain ⟨s1, s2⟩ := start_U hc hy
 have hcy := (hv.all y (List.mem_of_getElem? hy)).c0
 have hcy1 := (hv.all y (List.mem_of_getElem? hy)).c1
 have hnn := hiU_nonneg (p := y.p) hv hw.1
 rw [need_form hc hy, satAdd_fit (a := 0) (by omega), satAdd_fit (a := 0 + y.c) (by omega)] at he
 have e1 := satAdd_low (show satAdd (0 + y.c + blkU y.p l) (hiU y.p w l) < 1099511627776 by omega)
 rw [e1] at he
 have hf := higher_fold y.p w l
 have hff := free_fold h1 (by omega) (l.filter (fun x => decide (x.p < y.p))) 9223372036854775808 0 (fun x hx => hv.all x (List.mem_filter.1 hx).1) (by decide) (by decide) ⟨by decide, by decide⟩ (by rw [hf]; omega)
 rw [hf] at hff
 obtain ⟨f0, f1, f2⟩ := hff
 change 0 ≤ freeI y.p l at f0
 change freeI y.p l ≤ _ at f1
 change w * (9223372036854775808 - freeI y.p l) ≤ _ at f2
 rw [Int.mul_sub] at f2
 rw [n0] at s2
 generalize freeI y.p l = f at *
 generalize hiU y.p w l = h at *
 generalize blkU y.p l = b at *
 have key : 9223372036854775808 * (y.c + b) ≤ w * f := by omega
 rcases Int.lt_or_le 0 f with h9 | h9
 ·exact Int.le_of_mul_le_mul_right (Int.le_trans s2 key) h9
 ·obtain rfl : f = 0 := by omega
  rw [Int.mul_zero] at key
  omega
end
end Go.Proofs.YthfkbbiaemmndaaGreatDoor
