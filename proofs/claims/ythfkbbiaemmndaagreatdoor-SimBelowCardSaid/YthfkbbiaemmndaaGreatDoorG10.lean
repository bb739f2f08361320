/- Texts about the program, one after the other: MMath, MBase, MOps, MCount, MTz, MSeq, DRg, DAll. -/
import Derived.WalkKit
import Derived.ProofKit
import Derived.Handy
import Derived.Lib.Hide
import Derived.Deep.MidRow
import Derived.Deep.QuietTactic
import Derived.BigQuiet
import Derived.Deep.RegionHeld3
import Derived.Laws.Externs
import Derived.Laws.ShiftsVarLaws
import Derived.Test.YthfkbbiaemmndaaGreatDoorRows
import Derived.Outline
import Derived.Laws.Bits128
import Derived.Deep.RegionWith
import Derived.RangeFuncNested
import Derived.RangeFuncBound
import Derived.RangeFuncCalls
import Derived.RangeFuncLeaves
import Derived.Shelf.Abstract
import Derived.Shelf.RegionOpen
import Derived.OwnWalkIn
import Derived.TacticsInMore
import Derived.LoopNIn
import Derived.LoopIn
import Derived.RangeFuncBox
import Derived.Deep.CutBlock
import Derived.RangeFuncWrites
import Derived.Deep.Quiet
import Derived.Shelf.Small.Bits
import Derived.Shelf.Small.Strs
import Derived.Shelf.Small.Wraps
import Derived.Shelf.Strconv.Itoa0
import Derived.Shelf.LaysM
import Derived.Shelf.Strconv.Clone
import Derived.Shelf.Strings.Search1
import Derived.Shelf.Bits.Mul64
import Derived.Ground.Names2Prog
import Derived.Shelf.Slices.SearchI
import Derived.Maps.AppendAt
import Derived.Laws.AppendOwn
import Derived.Test.YthfkbbiaemmndaaGreatDoorProg
import Derived.Test.YthfkbbiaemmndaaGreatDoorG3
set_option linter.unusedVariables false
set_option linter.unusedSimpArgs false
set_option maxRecDepth 100000
set_option maxHeartbeats 16000000
namespace Go.Proofs.YthfkbbiaemmndaaGreatDoor
section
theorem odd_form : ∀ (n x : Nat), x ≠ 0 → x < 2 ^ n → ∃ t m, t < n ∧ x = 2 ^ t * (2 * m + 1) := by
 intro n
 induction n with
 | zero => intro x h0 h; simp at h; omega
 | succ n ih =>
   intro x h0 h
   by_cases he : x % 2 = 0
   ·obtain ⟨t, m, ht, hx⟩ := ih (x / 2) (by omega) (by rw [Nat.pow_succ] at h; omega)
    refine ⟨t + 1, m, by omega, ?_⟩
    rw [Nat.pow_succ, Nat.mul_comm (2 ^ t) 2, Nat.mul_assoc, ← hx]
    omega
   ·exact ⟨0, x / 2, by omega, by simp; omega⟩
theorem testBit_form (t m j : Nat) : (2 ^ t * (2 * m + 1)).testBit j = (decide (t ≤ j) && (2 * m + 1).testBit (j - t)) := by
 rw [Nat.testBit_two_pow_mul]
theorem low_bit (t m : Nat) : (2 ^ t * (2 * m + 1)).testBit t = true := by
 rw [testBit_form]; simp [Nat.testBit_zero]
theorem low_below (t m j : Nat) (h : j < t) : (2 ^ t * (2 * m + 1)).testBit j = false := by
 rw [testBit_form]; simp; omega
theorem low_and (t m : Nat) (ht : t < 64) (hx : 2 ^ t * (2 * m + 1) < 2 ^ 64) : 2 ^ t * (2 * m + 1) &&& (2 ^ 64 - 2 ^ t * (2 * m + 1)) = 2 ^ t := by
 apply Nat.eq_of_testBit_eq
 intro j
 have hpos : 0 < 2 ^ t * (2 * m + 1) := Nat.mul_pos (Nat.two_pow_pos t) (by omega)
 obtain ⟨y, hy⟩ : ∃ y, 2 ^ t * (2 * m + 1) = y + 1 := ⟨2 ^ t * (2 * m + 1) - 1, by omega⟩
 rw [hy, Nat.testBit_and, Nat.testBit_two_pow_sub_succ (by omega), Nat.testBit_two_pow]
 -- y = 2 ^ t * (2 * m) + (2 ^ t - 1)
 have hy2 : y = 2 ^ t * (2 * m) + (2 ^ t - 1) := by
  have := Nat.two_pow_pos t
  rw [Nat.mul_add, Nat.mul_one] at hy
  omega
 have hyb : y.testBit j = if j < t then true else (2 * m).testBit (j - t) := by
  have hlt : 2 ^ t - 1 < 2 ^ t := by have := Nat.two_pow_pos t; omega
  rw [hy2, Nat.testBit_two_pow_mul_add _ hlt]
  by_cases hj : j < t
  ·simp [hj]
  ·simp [hj]
 rw [← hy, testBit_form, hyb]
 by_cases hj : j < t
 ·simp [hj]; omega
 ·by_cases hj2 : j = t
  ·subst hj2; simp [Nat.testBit_zero, ht]
  ·have : (2 * m).testBit (j - t) = (2 * m + 1).testBit (j - t) := by
    obtain ⟨k, hk⟩ : ∃ k, j - t = k + 1 := ⟨j - t - 1, by omega⟩
    rw [hk, Nat.testBit_succ, Nat.testBit_succ]
    congr 1; omega
   rw [this]
   have hne : ¬ t = j := by omega
   simp only [hj, if_false, hne, decide_false]
   cases (2 * m + 1).testBit (j - t) <;> simp
theorem low_and_lit (t m x : Nat) (ht : t < 64) (hx : x < 18446744073709551616) (hxe : x = 2 ^ t * (2 * m + 1)) : x &&& (18446744073709551616 - x) = 2 ^ t := by
 have e : (18446744073709551616 : Nat) = 2 ^ 64 := by decide
 rw [e] at hx ⊢
 subst hxe
 exact low_and t m ht hx
theorem pred_and (t m : Nat) : 2 ^ t * (2 * m + 1) &&& (2 ^ t * (2 * m + 1) - 1) = 2 ^ t * (2 * m) := by
 apply Nat.eq_of_testBit_eq
 intro j
 have hlt : 2 ^ t - 1 < 2 ^ t := by have := Nat.two_pow_pos t; omega
 have hy2 : 2 ^ t * (2 * m + 1) - 1 = 2 ^ t * (2 * m) + (2 ^ t - 1) := by
  have := Nat.two_pow_pos t
  rw [Nat.mul_add, Nat.mul_one]
  omega
 rw [hy2, Nat.testBit_and, testBit_form, Nat.testBit_two_pow_mul_add _ hlt, Nat.testBit_two_pow_mul]
 by_cases hj : j < t
 ·simp [hj, show ¬ t ≤ j by omega]
 ·by_cases hj2 : j = t
  ·subst hj2; simp [Nat.testBit_zero]
  ·have : (2 * m).testBit (j - t) = (2 * m + 1).testBit (j - t) := by
    obtain ⟨k, hk⟩ : ∃ k, j - t = k + 1 := ⟨j - t - 1, by omega⟩
    rw [hk, Nat.testBit_succ, Nat.testBit_succ]
    congr 1; omega
   simp only [hj, if_false, this]
   cases (2 * m + 1).testBit (j - t) <;> simp
def deB : List Nat := [0, 1, 56, 2, 57, 49, 28, 3, 61, 58, 42, 50, 38, 29, 17, 4, 62, 47, 59, 36, 45, 43, 51, 22, 53, 39, 33, 30, 24, 18, 12, 5, 63, 55, 48, 27, 60, 41, 37, 16, 46, 35, 44, 21, 52, 32, 23, 11, 54, 26, 40, 15, 34, 20, 31, 10, 25, 14, 19, 9, 13, 8, 7, 6]
theorem deB_tz : ∀ t, t < 64 → 2 ^ t * 285870213051353865 % 18446744073709551616 / 288230376151711744 < 64 ∧ deB[2 ^ t * 285870213051353865 % 18446744073709551616 / 288230376151711744]? = some t := by decide +kernel
def wordTo (f : Nat → Bool) (i : Nat) : Nat → Nat
 | 0 => 0
 | k + 1 => wordTo f i k + if f (64 * i + k) then 2 ^ k else 0
def word (f : Nat → Bool) (i : Nat) : Nat := wordTo f i 64
theorem wordTo_lt (f : Nat → Bool) (i k : Nat) : wordTo f i k < 2 ^ k := by
 induction k with
 | zero => simp [wordTo]
 | succ k ih => simp only [wordTo, Nat.pow_succ]; split <;> omega
theorem testBit_wordTo (f : Nat → Bool) (i : Nat) : ∀ k j, (wordTo f i k).testBit j = (decide (j < k) && f (64 * i + j)) := by
 intro k
 induction k with
 | zero => simp [wordTo]
 | succ k ih =>
   intro j
   have hlt := wordTo_lt f i k
   simp only [wordTo]
   have e : (wordTo f i k + if f (64 * i + k) then 2 ^ k else 0) = 2 ^ k * (f (64 * i + k)).toNat + wordTo f i k := by
    cases f (64 * i + k) <;> simp [Nat.add_comm]
   rw [e, Nat.testBit_two_pow_mul_add _ hlt, ih]
   by_cases hj : j < k
   ·simp [hj]; omega
   ·by_cases hj2 : j = k
    ·subst hj2; cases f (64 * i + j) <;> simp
    ·have h1 : ¬ j < k + 1 := by omega
     simp only [hj, if_false, h1, decide_false, Bool.false_and]
     obtain ⟨d, hd⟩ : ∃ d, j - k = d + 1 := ⟨j - k - 1, by omega⟩
     rw [hd, Nat.testBit_succ]
     cases f (64 * i + k) <;> simp
theorem word_lt (f : Nat → Bool) (i : Nat) : word f i < 2 ^ 64 := wordTo_lt f i 64
theorem word_le (f : Nat → Bool) (i : Nat) : word f i ≤ 18446744073709551615 := by have := word_lt f i; omega
theorem testBit_word (f : Nat → Bool) (i j : Nat) : (word f i).testBit j = (decide (j < 64) && f (64 * i + j)) := testBit_wordTo f i 64 j
theorem word_ext {f g : Nat → Bool} {i : Nat} (h : ∀ j, j < 64 → f (64 * i + j) = g (64 * i + j)) : word f i = word g i := by
 apply Nat.eq_of_testBit_eq
 intro j
 rw [testBit_word, testBit_word]
 by_cases hj : j < 64
 ·simp [hj, h j hj]
 ·simp [hj]
theorem eq_word {x : Nat} {f : Nat → Bool} {i : Nat} (hx : x < 2 ^ 64) (h : ∀ j, j < 64 → x.testBit j = f (64 * i + j)) : x = word f i := by
 apply Nat.eq_of_testBit_eq
 intro j
 rw [testBit_word]
 by_cases hj : j < 64
 ·simp [hj, h j hj]
 ·rw [Nat.testBit_lt_two_pow (Nat.lt_of_lt_of_le hx (Nat.pow_le_pow_right (by omega) (by omega)))]; simp [hj]
def insMM (f : Nat → Bool) (n : Int) : Nat → Bool := fun k => f k || decide ((k : Int) = n)
def noneF : Nat → Bool := fun _ => false
theorem word_ins (f : Nat → Bool) (k : Nat) : word f (k / 64) ||| 2 ^ (k % 64) = word (insMM f k) (k / 64) :=
 eq_word (Nat.or_lt_two_pow (word_lt f _) (Nat.pow_lt_pow_right (by omega) (Nat.mod_lt _ (by omega)))) fun j hj => by
  have : (64 * (k / 64) + j = k) ↔ k % 64 = j := by omega
  simp only [Nat.testBit_or, testBit_word, hj, decide_true, Bool.true_and, insMM, Nat.testBit_two_pow, Int.natCast_inj, this]
theorem word_ins_other (f : Nat → Bool) (k i : Nat) (h : i ≠ k / 64) : word (insMM f k) i = word f i :=
 word_ext fun j hj => by
  have : ¬ 64 * i + j = k := by omega
  simp only [insMM, Int.natCast_inj, this, decide_false, Bool.or_false]
theorem word_ins_far (f : Nat → Bool) (n : Int) (i : Nat) (hi : i < 16) (h : n < 0 ∨ 1024 ≤ n) : word (insMM f n) i = word f i :=
 word_ext fun j hj => by
  have : ¬ ((64 * i + j : Nat) : Int) = n := by omega
  simp only [insMM, this, decide_false, Bool.or_false]
end
section
open Go.RowKit
def cellsL (f : Nat → Bool) : List Value := (List.range 16).map fun i => .int .u64 (word f i : Int)
theorem cellsL_length (f : Nat → Bool) : (cellsL f).length = 16 := by simp [cellsL]
theorem cellsL_get (f : Nat → Bool) (i : Nat) (h : i < 16) : (cellsL f)[i]? = some (.int .u64 (word f i : Int)) := by
 simp [cellsL, h]
theorem cellsL_one (f : Nat → Bool) : ∀ v ∈ cellsL f, v.oneCell' = true := by
 intro v hv
 simp only [cellsL, List.mem_map] at hv
 obtain ⟨i, _, rfl⟩ := hv
 rfl
theorem cellsL_all (f : Nat → Bool) : (cellsL f).toArray.all (·.oneCell') = true := all_oneCell_toArray (cellsL_one f)
theorem cellsL_none : (cellsL noneF).toArray = #[.int .u64 0, .int .u64 0, .int .u64 0, .int .u64 0, .int .u64 0, .int .u64 0, .int .u64 0, .int .u64 0, .int .u64 0, .int .u64 0, .int .u64 0, .int .u64 0, .int .u64 0, .int .u64 0, .int .u64 0, .int .u64 0] := by
 have h : ∀ i, word noneF i = 0 := fun i => (eq_word (by omega) (by simp [noneF])).symm
 simp [cellsL, h, List.range_succ]
theorem cellsL_ext {f g : Nat → Bool} (h : ∀ i, i < 16 → word f i = word g i) : cellsL f = cellsL g := by
 simp only [cellsL]
 exact List.map_congr_left fun i hi => by rw [h i (by simpa using hi)]
theorem cellsL_set (f g : Nat → Bool) (i : Nat) (v : Nat) (hv : v = word g i) (h : ∀ j, j < 16 → j ≠ i → word f j = word g j) : (cellsL f).set i (.int .u64 v) = cellsL g := by
 apply List.ext_getElem?
 intro j
 by_cases hj : j < 16
 ·rw [List.getElem?_set, cellsL_get g j hj, cellsL_get f j hj, cellsL_length]
  by_cases e : i = j
  ·subst e; simp [hj, hv]
  ·rw [if_neg e, h j hj (fun e' => e e'.symm)]
 ·rw [List.getElem?_eq_none (by simp [cellsL_length]; omega), List.getElem?_eq_none (by simp [cellsL_length]; omega)]
theorem info26 (f : Nat → Bool) : (Tryz.prog.info? 82).map (·.size) = some (cellsL f).length := by rw [cellsL_length]; kernel_rfl
theorem info26' (f : Nat → Bool) : (Tryz.prog.info? 82).map (·.size) = some (cellsL f).toArray.size := by rw [List.size_toArray]; exact info26 f
abbrev setV (f : Nat → Bool) : Value := .agg (cellsL f).toArray
structure Box (w : World) (b : Nat) (f : Nat → Bool) : Prop where
 is : w.heap[b]? = some (.cells (cellsL f).toArray 82 (0, 0))
theorem Box.range {w : World} {b : Nat} {f : Nat → Bool} (h : Box w b f) : w.rangeAt b 0 (cellsL f) := fun j v hv => by
 rw [Nat.zero_add, cell_of_row w b j _ _ _ h.is]; simpa using hv
theorem Box.there {w : World} {b : Nat} {f : Nat → Bool} (h : Box w b f) (g : Nat → Bool) : w.there b 0 (cellsL g).toArray.size := fun j hj => by
 rw [Nat.zero_add, cell_of_row w b j _ _ _ h.is, frozen_of_row w b j _ _ h.is]
 simp [cellsL_length] at hj ⊢; omega
theorem Box.cell {w : World} {b : Nat} {f : Nat → Bool} (h : Box w b f) (i : Nat) (hi : i < 16) : w.cell? ⟨b, i, none⟩ = some (.int .u64 (word f i : Int)) := by
 rw [cell_of_row w b i _ _ _ h.is]; simpa using cellsL_get f i hi
theorem Box.frozen {w : World} {b : Nat} {f : Nat → Bool} (h : Box w b f) (i : Nat) : w.frozen? ⟨b, i, none⟩ = false := frozen_of_row w b i _ _ h.is
theorem Box.lt {w : World} {b : Nat} {f : Nat → Bool} (h : Box w b f) : b < w.heap.size := (Array.getElem?_eq_some_iff.1 h.is).1
theorem Box.new (w : World) (f : Nat → Bool) : Box (w.alloc (.cells (cellsL f).toArray 82)) w.heap.size f := ⟨heap_alloc_new w _⟩
theorem Box.below {w w' : World} {b B : Nat} {f : Nat → Bool} (h : Box w b f) (hb : Below B w w') (hB : b < B) : Box w' b f := ⟨(hb.block b hB).trans h.is⟩
theorem Box.alloc {w : World} {b : Nat} {f : Nat → Bool} (h : Box w b f) (o : Obj) : Box (w.alloc o) b f := ⟨(Below.heap_alloc w o b h.lt).trans h.is⟩
theorem Box.drew {w : World} {b : Nat} {f : Nat → Bool} (h : Box w b f) : Box w.drew b f := ⟨h.is⟩
theorem Box.setCell {w : World} {b : Nat} {f : Nat → Bool} (h : Box w b f) (a : Addr) (v : Value) (hb : b ≠ a.block) : Box (w.setCell a v) b f := ⟨(heap_setCell_other w a b v hb).trans h.is⟩
theorem Box.set {w : World} {b : Nat} {f g : Nat → Bool} (h : Box w b f) (i : Nat) (v : Nat) (hv : v = word g i) (hg : ∀ j, j < 16 → j ≠ i → word f j = word g j) : Box (w.setCell ⟨b, i, none⟩ (.int .u64 v)) b g := by
 refine ⟨?_⟩
 rw [heap_setCell_same w b i _ _ _ h.is]
 simp only [List.setIfInBounds_toArray]
 rw [cellsL_set f g i v hv hg]
theorem Box.stored {w : World} {b : Nat} {f : Nat → Bool} (h : Box w b f) (g : Nat → Bool) : w.setCells b 0 (cellsL g) = w.setRow b (cellsL g).toArray := by
 have h1 := run_storeVar_mid (P := Tryz.prog) w b 0 82 (cellsL g).toArray (h.there g) (info26' g) (cellsL_all g)
 have h2 := run_storeVar_row (P := Tryz.prog) w b 82 82 (cellsL f).toArray (cellsL g).toArray h.is (info26' g) (by simp [cellsL_length]) (cellsL_all g)
 rw [h1] at h2
 simpa using h2
theorem Box.setCells {w : World} {b : Nat} {f : Nat → Bool} (h : Box w b f) (g : Nat → Bool) : Box (w.setCells b 0 (cellsL g)) b g := by
 rw [h.stored g]; exact ⟨setRow_heap w b _ _ _ _ h.is⟩
theorem Box.setCells_other {w : World} {b b' : Nat} {f f' : Nat → Bool} (h : Box w b f) (h' : Box w b' f') (g : Nat → Bool) (hne : b ≠ b') : Box (w.setCells b' 0 (cellsL g)) b f := by
 rw [h'.stored g]; exact ⟨(setRow_other w b' b _ hne).trans h.is⟩
theorem below_setCells {B : Nat} {a w : World} {b : Nat} {f : Nat → Bool} (hb : Below B a w) (h : Box w b f) (g : Nat → Bool) (hB : B ≤ b) : Below B a (w.setCells b 0 (cellsL g)) := by
 rw [h.stored g]
 exact hb.trans ⟨rfl, rfl, rfl, by simp, fun k hk => setRow_other w b k _ (by omega)⟩
theorem results_box {fn : Func} {p : Tmp} (h : fn.results = #[.cell p 82]) (tmps : Array Value) (w : World) (b : Nat) (f : Nat → Bool) (hp : tmps.getD p undef = .pointer (some ⟨b, 0, none⟩)) (hb : Box w b f) :
  (results fn tmps).run Tryz.prog w = .ok (setV f) w :=
 results_cell_row h tmps w b _ _ _ _ hp hb.is Tryz.underlying82 rfl (info26' f)
end
section
open Go.RowKit
theorem i64_and_pow (n : Int) (m : Nat) (c : Int) (hc : (BitVec.ofInt 64 c).toNat = 2 ^ m - 1) (hm : m < 63) : bits .and .i64 n c = n % (2 ^ m : Nat) := by
 have key : (BitVec.ofInt 64 n &&& BitVec.ofInt 64 c).toNat = (n % ((2 ^ 64 : Nat) : Int)).toNat % 2 ^ m := by
  rw [BitVec.toNat_and, BitVec.toNat_ofInt, hc, Nat.and_two_pow_sub_one_eq_mod]
 show IntKind.i64.wrap ((BitVec.ofInt 64 n &&& BitVec.ofInt 64 c).toNat : Nat) = _
 rw [key, IntKind.wrap_i64]
 have hp : 2 ^ m < 2 ^ 63 := Nat.pow_lt_pow_right (by omega) hm
 have h0 : 0 < 2 ^ m := Nat.two_pow_pos m
 have hl : (n % ((2 ^ 64 : Nat) : Int)).toNat % 2 ^ m < 2 ^ m := Nat.mod_lt _ h0
 have hd : ((2 ^ m : Nat) : Int) ∣ ((2 ^ 64 : Nat) : Int) := Int.natCast_dvd_natCast.2 (Nat.pow_dvd_pow 2 (by omega))
 have e : ((((n % ((2 ^ 64 : Nat) : Int)).toNat % 2 ^ m : Nat) : Int)) = n % (2 ^ m : Nat) := by
  rw [Int.natCast_emod, Int.toNat_of_nonneg (Int.emod_nonneg _ (by omega)), Int.emod_emod_of_dvd _ hd]
 omega
theorem and63 (k : Nat) : bits .and .i64 (k : Int) 63 = ((k % 64 : Nat) : Int) := by
 rw [i64_and_pow _ 6 _ (by decide) (by decide)]; rfl
theorem shl1 (c : Nat) (h : c < 64) : Op.shift .shl .u64 1 .i64 (c : Int) = pure (.int .u64 ((2 ^ c : Nat) : Int)) := by
 rw [shift_shl .u64 .i64 1 (c : Int) (by omega) (by simp [IntKind.bits]; omega)]
 have hp : 2 ^ c < 2 ^ 64 := Nat.pow_lt_pow_right (by omega) h
 have e : (1 : Int) * 2 ^ (c : Int).toNat = ((2 ^ c : Nat) : Int) := by simp
 rw [e, IntKind.wrap_u64]
 generalize 2 ^ c = p at *
 have e2 : (p : Int) % 18446744073709551616 = (p : Int) := by omega
 rw [e2]
theorem shr6 (k : Nat) : Op.shift .shr .i64 (k : Int) .u64 6 = pure (.int .i64 ((k / 64 : Nat) : Int)) := by
 rw [shift_shr .i64 .u64 (k : Int) 6 (by omega) (by decide)]
 rfl
def mayB (n : Int) : Bool := decide (0 ≤ n ∧ n < 1024)
theorem may_any (n : Int) (w : World) (h0 : -9223372036854775808 ≤ n) (h1 : n ≤ 9223372036854775807) :
  Calls Tryz.prog 90 #[.int .i64 n] w fun e w' => e = .returned (.bool (mayB n)) ∧ w = w' := by
 by_cases hn : 0 ≤ n
 ·by_cases hm : n < 1024
  ·have e : mayB n = true := by simp [mayB, hn, hm]
   rw [e]
   clear e
   go_enter Tryz.func90, Tryz.ntmps90
   go_wp2
   go_ret
   exact ⟨rfl, rfl⟩
  ·have e : mayB n = false := by simp [mayB, hn, hm]
   rw [e]
   clear e
   go_enter Tryz.func90, Tryz.ntmps90
   go_wp2
   go_ret
   exact ⟨by simp, rfl⟩
 ·have e : mayB n = false := by simp [mayB, hn]
  rw [e]
  clear e
  go_enter Tryz.func90, Tryz.ntmps90
  go_wp2
  go_ret
  exact ⟨by simp, rfl⟩
theorem mayB_nat (k : Nat) (h : k < 1024) : mayB (k : Int) = true := by simp [mayB]; omega
theorem bit_any (k : Nat) (w : World) (h1 : k < 1024) :
  Calls Tryz.prog 91 #[.int .i64 (k : Int)] w fun e w' => e = .returned (.int .u64 ((2 ^ (k % 64) : Nat) : Int)) ∧ w = w' := by
 have a1 := and63 k
 have a2 := shl1 (k % 64) (by omega)
 generalize 2 ^ (k % 64) = p at *
 generalize k % 64 = c at *
 go_enter Tryz.func91, Tryz.ntmps91
 go_wp2
 go_ret
 exact ⟨rfl, rfl⟩
theorem zero_box (w : World) : Box (w.alloc (.cells #[.int .u64 0, .int .u64 0, .int .u64 0, .int .u64 0, .int .u64 0, .int .u64 0, .int .u64 0, .int .u64 0, .int .u64 0, .int .u64 0, .int .u64 0, .int .u64 0, .int .u64 0, .int .u64 0, .int .u64 0, .int .u64 0] 82)) w.heap.size noneF := by
 have h := Box.new w noneF
 rwa [cellsL_none] at h
theorem entry1 (w : World) (f : Nat → Bool) : ∃ W, (w.alloc (.cells (cellsL f).toArray 82)).alloc (.cells #[.int .u64 0, .int .u64 0, .int .u64 0, .int .u64 0, .int .u64 0, .int .u64 0, .int .u64 0, .int .u64 0, .int .u64 0, .int .u64 0, .int .u64 0, .int .u64 0, .int .u64 0, .int .u64 0, .int .u64 0, .int .u64 0] 82) = W ∧
  Box W w.heap.size f ∧ Box W (w.heap.size + 1) noneF ∧ Below w.heap.size w W := by
 have b2 := zero_box (w.alloc (.cells (cellsL f).toArray 82))
 rw [World.size_alloc] at b2
 exact ⟨_, rfl, (Box.new w f).alloc _, b2, ((Below.refl w.heap.size w).alloc (Nat.le_refl _) _).alloc (by simp) _⟩
theorem with_any (f : Nat → Bool) (n : Int) (w : World) (h0 : -9223372036854775808 ≤ n) (h1 : n ≤ 9223372036854775807) :
  Calls Tryz.prog 57 #[setV f, .int .i64 n] w fun e w' => e = .returned (setV (insMM f n)) ∧ Below w.heap.size w w' := by
 have M := Lib.hid (may_any n)
 obtain ⟨W, hW, b1, b2, hb⟩ := entry1 w f
 have HW := Lib.hid hW
 clear hW
 by_cases hn : 0 ≤ n ∧ n < 1024
 ·obtain ⟨k, rfl⟩ := Int.eq_ofNat_of_zero_le hn.1
  have hk : k < 1024 := by omega
  rw [mayB_nat k hk] at M
  have B := Lib.hid (fun w => bit_any k w hk)
  go_enter Tryz.func57, Tryz.ntmps57
  go_wp2_with (go_at_call 90; refine (M.out _ h0 h1).mono ?_; rintro e w' ⟨rfl, rfl⟩)
  rw [HW.out]
  have c1 := b1.cell (k / 64) (by omega)
  have c2 := b1.frozen (k / 64)
  have a1 := shr6 k
  have hq : k / 64 < 16 := by omega
  have hx := word_le f (k / 64)
  have hp : 2 ^ (k % 64) < 18446744073709551616 := Nat.pow_lt_pow_right (a := 2) (n := 64) (by omega) (by omega)
  have a2 := u64_or_nat (word f (k / 64)) (2 ^ (k % 64)) (by omega) hp
  generalize hX : word f (k / 64) = x at *
  generalize hP : 2 ^ (k % 64) = p at *
  generalize hQ : k / 64 = q at *
  have HX := Lib.hid hX
  have HP := Lib.hid hP
  have HQ := Lib.hid hQ
  clear hX hP hQ
  generalize hV : x ||| p = v at *
  have HV := Lib.hid hV
  clear hV
  go_region_with (go_at_call 91; refine (B.out _).mono ?_; rintro e w' ⟨rfl, rfl⟩)
  all_goals
   have b3 : Box ((W.setCell ⟨w.heap.size, q, none⟩ (.int .u64 (v : Int))).drew) w.heap.size (insMM f k) :=
    (b1.set q v (by rw [← HV.out, ← HX.out, ← HP.out, ← HQ.out]; exact word_ins f k) (fun j hj hne => (word_ins_other f k j (by rw [HQ.out]; exact hne)).symm)).drew
   have b4 : Box ((W.setCell ⟨w.heap.size, q, none⟩ (.int .u64 (v : Int))).drew) (w.heap.size + 1) noneF := (b2.setCell _ _ (by simp)).drew
   have hb2 : Below w.heap.size w ((W.setCell ⟨w.heap.size, q, none⟩ (.int .u64 (v : Int))).drew) := (hb.setCell (p := ⟨w.heap.size, q, none⟩) (Nat.le_refl _) _).drew
   generalize (W.setCell ⟨w.heap.size, q, none⟩ (.int .u64 (v : Int))).drew = W2 at *
   clear b1 b2 hb c1 c2
   go_wp2_with (first
    | ((with_reducible show wpList _ _ _ (⟨some 15, _, _, _, _, _⟩ :: _) _ _); refine wpList_load_mid rfl 82 _ rfl _ _ rfl _ _ b3.range Tryz.underlying82 rfl (info26 _) ?_)
    | ((with_reducible show wpList _ _ _ (⟨none, _, _, _, _, _⟩ :: _) _ _); refine wpList_store_mid rfl 82 _ _ rfl _ _ (cellsL (insMM f k)).toArray rfl rfl (b4.there _) (info26' _) (cellsL_all _) ?_)
    | ((with_reducible show bodyPost _ _ _ _ _ _); exact bodyPost_ret (results_box rfl _ _ _ _ rfl (b4.setCells _)) rfl ⟨rfl, below_setCells hb2 b4 _ (by simp)⟩))
 ·have e : mayB n = false := by simpa [mayB] using hn
  rw [e] at M
  clear e
  have e2 : setV (insMM f n) = setV f := by rw [setV, (cellsL_ext fun i hi => word_ins_far f n i hi (by omega) : cellsL (insMM f n) = cellsL f)]
  rw [e2]
  clear e2 hn
  go_enter Tryz.func57, Tryz.ntmps57
  go_wp2_with (first
   | (go_at_call 90; refine (M.out _ h0 h1).mono ?_; rintro e w' ⟨rfl, rfl⟩)
   | ((with_reducible show wpList _ _ _ (⟨some 15, _, _, _, _, _⟩ :: _) _ _); rw [HW.out]; refine wpList_load_mid rfl 82 _ rfl _ _ rfl _ _ b1.range Tryz.underlying82 rfl (info26 _) ?_)
   | ((with_reducible show wpList _ _ _ (⟨none, _, _, _, _, _⟩ :: _) _ _); refine wpList_store_mid rfl 82 _ _ rfl _ _ (cellsL f).toArray rfl rfl (b2.there _) (info26' _) (cellsL_all _) ?_)
   | ((with_reducible show bodyPost _ _ _ _ _ _); exact bodyPost_ret (results_box rfl _ _ _ _ rfl (b2.setCells _)) rfl ⟨rfl, below_setCells hb b2 _ (by simp)⟩))
end
section
open Go.RowKit
theorem shr_lit (x m : Nat) (M : Int) (d : Nat) (hM : M = (m : Int)) (hd : d = 2 ^ m) (hm : m ≤ 64) : Op.shift .shr .u64 (x : Int) .u64 M = pure (.int .u64 ((x / d : Nat) : Int)) := by
 subst hM hd
 rw [shift_shr .u64 .u64 (x : Int) (m : Int) (by omega) (by simp [IntKind.bits]; omega)]
 simp
end
section
open Go.RowKit
def Tab (w : World) : Prop := ∀ i v : Nat, deB[i]? = some v → w.cell? ⟨0, i, none⟩ = some (.int .u8 (v : Int))
theorem Tab.pos {w : World} (h : Tab w) : 0 < w.heap.size := World.block_lt_of_cell? w _ (h 0 0 rfl)
theorem Tab.below {w w' : World} (h : Tab w) (hb : Below w.heap.size w w') : Tab w' := fun i v hv => by
 rw [hb.cell (p := ⟨0, i, none⟩) h.pos]; exact h i v hv
theorem pow_lt_lit (t : Nat) (ht : t < 64) : 2 ^ t < 18446744073709551616 := by
 have := Nat.pow_lt_pow_right (a := 2) (by omega) ht
 have e : (18446744073709551616 : Nat) = 2 ^ 64 := by decide
 rw [e]; exact this
theorem tz_mul (p y : Nat) (hy : p * 285870213051353865 % 18446744073709551616 = y) : IntKind.u64.wrap ((p : Int) * 285870213051353865) = (y : Int) := by
 rw [IntKind.wrap_u64]
 subst hy
 rw [Int.natCast_emod, Int.natCast_mul]
 rfl
theorem tz_neg (x : Nat) (h0 : 0 < x) (hx : x < 18446744073709551616) : IntKind.u64.wrap (-(x : Int)) = ((18446744073709551616 - x : Nat) : Int) := by rw [IntKind.wrap_u64]; omega
theorem tz_walk (t x y i p nx : Nat) (w : World) (hx : x < 18446744073709551616) (h0 : 0 < x) (hi : i < 64) (ht : t < 64)
  (hz : ((x : Int) == 0) = false) (hc : w.cell? ⟨0, i, none⟩ = some (.int .u8 (t : Int)))
  (s1 : Op.shift .shr .u64 (y : Int) .u64 58 = pure (.int .u64 (i : Int)))
  (m1 : IntKind.u64.wrap ((p : Int) * 285870213051353865) = (y : Int)) (c1 : bits .and .u64 (x : Int) (nx : Int) = (p : Int)) (n1 : IntKind.u64.wrap (-(x : Int)) = (nx : Int)) :
  Calls Tryz.prog 62 #[.int .u64 (x : Int)] w fun e w' => e = .returned (.int .i64 (t : Int)) ∧ w = w' := by
 go_enter Tryz.func62, Tryz.ntmps62
 go_wp2
 go_ret
 exact ⟨rfl, rfl⟩
theorem shr58 (y i : Nat) (h : y / 288230376151711744 = i) : Op.shift .shr .u64 (y : Int) .u64 58 = pure (.int .u64 (i : Int)) := by
 subst h
 exact shr_lit y 58 58 288230376151711744 rfl (by decide) (by omega)
theorem tz_any (t m x : Nat) (w : World) (ht : t < 64) (hxe : x = 2 ^ t * (2 * m + 1)) (hx : x < 18446744073709551616) (hT : Tab w) :
  Calls Tryz.prog 62 #[.int .u64 (x : Int)] w fun e w' => e = .returned (.int .i64 (t : Int)) ∧ w = w' := by
 have h0 : 0 < x := by subst hxe; exact Nat.mul_pos (Nat.two_pow_pos t) (by omega)
 have hd := deB_tz t ht
 have hl := low_and_lit t m x ht hx hxe
 have hp := pow_lt_lit t ht
 have c1 := u64_and_nat x (18446744073709551616 - x) hx (by omega)
 rw [hl] at c1
 clear hl hxe
 generalize 2 ^ t = p at *
 generalize hy : p * 285870213051353865 % 18446744073709551616 = y at *
 generalize hi : y / 288230376151711744 = i at *
 exact tz_walk t x y i p _ w hx h0 hd.1 ht (by simp; omega) (hT _ _ hd.2) (shr58 y i hi) (tz_mul p y hy) c1 (tz_neg x h0 hx)
end
section
open Go.RowKit Go.Shelf
attribute [local go_sem] Oper.semAt_some
def numsIn (f : Nat → Bool) (a n : Nat) : List Nat := (List.range' a n).filter f
def nums (f : Nat → Bool) : List Nat := numsIn f 0 1024
def numsFrom (f : Nat → Bool) (k : Nat) : List Nat := numsIn f (64 * k) (64 * (16 - k))
def bitsOf (k x : Nat) : List Nat := numsIn (fun n => x.testBit (n - 64 * k)) (64 * k) 64
theorem numsIn_append (f : Nat → Bool) (a m n : Nat) : numsIn f a (m + n) = numsIn f a m ++ numsIn f (a + m) n := by
 have := @List.range'_append a m n 1
 rw [Nat.one_mul] at this
 rw [numsIn, ← this, List.filter_append]; rfl
theorem numsIn_congr {f g : Nat → Bool} {a n : Nat} (h : ∀ j, a ≤ j → j < a + n → f j = g j) : numsIn f a n = numsIn g a n :=
 List.filter_congr fun j hj => by
  rw [List.mem_range'_1] at hj
  exact h j hj.1 hj.2
theorem numsIn_none {f : Nat → Bool} {a n : Nat} (h : ∀ j, a ≤ j → j < a + n → f j = false) : numsIn f a n = [] := by
 rw [numsIn, List.filter_eq_nil_iff]
 intro j hj
 rw [List.mem_range'_1] at hj
 rw [h j hj.1 hj.2]; simp
theorem numsFrom_0 (f : Nat → Bool) : numsFrom f 0 = nums f := rfl
theorem numsFrom_16 (f : Nat → Bool) : numsFrom f 16 = [] := rfl
theorem numsFrom_step (f : Nat → Bool) (k : Nat) (hk : k < 16) : numsFrom f k = numsIn f (64 * k) 64 ++ numsFrom f (k + 1) := by
 unfold numsFrom
 rw [show 64 * (16 - k) = 64 + 64 * (16 - (k + 1)) by omega, numsIn_append, show 64 * k + 64 = 64 * (k + 1) by omega]
theorem bitsOf_0 (k : Nat) : bitsOf k 0 = [] := numsIn_none (by simp)
theorem bitsOf_word (f : Nat → Bool) (k : Nat) : bitsOf k (word f k) = numsIn f (64 * k) 64 :=
 numsIn_congr fun j h1 h2 => by
  rw [testBit_word, show 64 * k + (j - 64 * k) = j by omega]
  simp; omega
theorem bitsOf_step (k t m : Nat) (ht : t < 64) : bitsOf k (2 ^ t * (2 * m + 1)) = (64 * k + t) :: bitsOf k (2 ^ t * (2 * m)) := by
 unfold bitsOf
 have e : 64 = t + (1 + (63 - t)) := by omega
 have split : ∀ g : Nat → Bool, numsIn g (64 * k) 64 = numsIn g (64 * k) t ++ (numsIn g (64 * k + t) 1 ++ numsIn g (64 * k + t + 1) (63 - t)) := fun g => by
  rw [← numsIn_append, ← numsIn_append, ← e]
 rw [split, split]
 have a1 : ∀ y, (∀ j, j < t → (y : Nat).testBit j = false) → numsIn (fun n => y.testBit (n - 64 * k)) (64 * k) t = [] := fun y hy =>
  numsIn_none fun j h1 h2 => hy _ (by omega)
 rw [a1 _ (fun j hj => low_below t m j hj), a1 (2 ^ t * (2 * m)) (fun j hj => by rw [Nat.testBit_two_pow_mul]; simp; omega)]
 have b1 : numsIn (fun n => (2 ^ t * (2 * m + 1)).testBit (n - 64 * k)) (64 * k + t) 1 = [64 * k + t] := by
  simp [numsIn, List.range', low_bit, Nat.add_sub_cancel_left]
 have b2 : numsIn (fun n => (2 ^ t * (2 * m)).testBit (n - 64 * k)) (64 * k + t) 1 = [] :=
  numsIn_none fun j h1 h2 => by
   rw [show j = 64 * k + t by omega, Nat.add_sub_cancel_left, Nat.testBit_two_pow_mul]
   simp
 have b3 : numsIn (fun n => (2 ^ t * (2 * m + 1)).testBit (n - 64 * k)) (64 * k + t + 1) (63 - t) = numsIn (fun n => (2 ^ t * (2 * m)).testBit (n - 64 * k)) (64 * k + t + 1) (63 - t) :=
  numsIn_congr fun j h1 h2 => by
   rw [Nat.testBit_two_pow_mul, Nat.testBit_two_pow_mul]
   obtain ⟨d, hd⟩ : ∃ d, j - 64 * k - t = d + 1 := ⟨j - 64 * k - t - 1, by omega⟩
   rw [hd, Nat.testBit_succ, Nat.testBit_succ, show (2 * m + 1) / 2 = 2 * m / 2 by omega]
 rw [b1, b2, b3]
 rfl
theorem mem_nums (f : Nat → Bool) (n : Nat) : n ∈ nums f ↔ n < 1024 ∧ f n = true := by
 simp [nums, numsIn, List.mem_filter, List.mem_range'_1]
theorem all_any (f : Nat → Bool) (w : World) :
  Calls Tryz.prog 37 #[setV f] w fun e w' => e = .returned (.func (.func 61) #[] #[.pointer (some ⟨w.heap.size, 0, none⟩)]) ∧ w' = w.alloc (.cells (cellsL f).toArray 82) := by
 have hmf : ∀ (fn : Fn) (first cap : Array Value) (w : World), (Instr.makeFunc fn first cap).run Tryz.prog w = .ok (.func fn first cap) w := fun _ _ _ _ => rfl
 go_enter Tryz.func37, Tryz.ntmps37
 go_wp2
 go_ret
 exact ⟨rfl, rfl⟩
theorem shl6 (k : Nat) (h : k < 16) : Op.shift .shl .i64 (k : Int) .u64 6 = pure (.int .i64 ((64 * k : Nat) : Int)) := by
 rw [shift_shl .i64 .u64 (k : Int) 6 (by omega) (by decide)]
 have e : (k : Int) * 2 ^ (6 : Int).toNat = ((64 * k : Nat) : Int) := by
  show (k : Int) * 64 = _
  omega
 rw [e, IntKind.wrap_i64]
 have e2 : (((64 * k : Nat) : Int) + 9223372036854775808) % 18446744073709551616 - 9223372036854775808 = ((64 * k : Nat) : Int) := by omega
 first | rw [e2] | (congr 2; omega)
end
section
open Go.RowKit Go.Shelf
structure KeepG (P : Nat → TypeId → Prop) (W W' : World) : Prop where
 size : W.heap.size ≤ W'.heap.size
 block : ∀ k cs T fr, P k T → W.heap[k]? = some (.cells cs T fr) → W'.heap[k]? = some (.cells cs T fr)
theorem KeepG.refl (P : Nat → TypeId → Prop) (W : World) : KeepG P W W := ⟨Nat.le_refl _, fun _ _ _ _ _ h => h⟩
theorem KeepG.trans {P : Nat → TypeId → Prop} {A B C : World} (h : KeepG P A B) (k : KeepG P B C) : KeepG P A C := ⟨Nat.le_trans h.size k.size, fun i cs T fr hx hi => k.block i cs T fr hx (h.block i cs T fr hx hi)⟩
theorem KeepG.below {P : Nat → TypeId → Prop} {A B : World} (h : Below A.heap.size A B) : KeepG P A B := ⟨h.size, fun i cs T fr _ hi => (h.block i (Array.getElem?_eq_some_iff.1 hi).1).trans hi⟩
theorem KeepG.weak {P P' : Nat → TypeId → Prop} {A B : World} (h : KeepG P A B) (hP : ∀ k cs T fr, A.heap[k]? = some (.cells cs T fr) → P' k T → P k T) : KeepG P' A B := ⟨h.size, fun i cs T fr hp hi => h.block i cs T fr (hP i cs T fr hi hp) hi⟩
theorem KeepG.put {P : Nat → TypeId → Prop} {W : World} {l : Nat} {o : Obj} (o' : Obj) (h : W.heap[l]? = some o) (ho : o.isCells = false) : KeepG P W (W.putObj l o') := by
 refine ⟨by simp, fun i cs T fr hx hi => ?_⟩
 have hne : i ≠ l := by
  rintro rfl
  rw [h] at hi
  cases hi
  simp [Obj.isCells] at ho
 exact (World.putObj_heap_other hne).trans hi
theorem KeepG.setCell {P : Nat → TypeId → Prop} {W : World} {a : Addr} (v : Value) (h : ∀ cs T fr, W.heap[a.block]? = some (.cells cs T fr) → ¬ P a.block T) : KeepG P W (W.setCell a v) := by
 refine ⟨by simp, fun i cs T fr hx hi => ?_⟩
 by_cases e : i = a.block
 ·subst e; exact absurd hx (h cs T fr hi)
 ·exact (heap_setCell_other W a i v e).trans hi
theorem KeepG.cell {P : Nat → TypeId → Prop} {A B : World} (h : KeepG P A B) {b i : Nat} {v : Value} (hc : A.cell? ⟨b, i, none⟩ = some v) (hx : ∀ T, P b T) : B.cell? ⟨b, i, none⟩ = some v := by
 have hl := World.block_lt_of_cell? A _ hc
 cases ho : A.heap[b]? with
 | none => simp [World.cell?, ho] at hc
 | some o =>
   cases o with
   | cells cs T fr => rw [World.cell?_of_block (w := A) (a := ⟨b, i, none⟩) ((h.block b cs T fr (hx T) ho).trans ho.symm)]; exact hc
   | _ => simp [World.cell?, ho] at hc
def postG {E : Type} (B : Nat) (P : Nat → TypeId → Prop) (I : List E → World → Prop) (Ix : Code → List E → World → Prop) (xs : List E) (W : World) : Exit → Act → World → Prop
 | .normal, _, W' => KeepsFrom B W W' ∧ KeepG P W W' ∧ I xs W'
 | .ret, _, W' => KeepsFrom B W W' ∧ Ix .ret xs W'
 | .exit id, _, W' => KeepsFrom B W W' ∧ Ix (.exit id) xs W'
 | .goto t, _, W' => KeepsFrom B W W' ∧ Ix (.goto t) xs W'
 | .panic _, _, _ => False
 | .outgrown, _, _ => False
def SeqG {E : Type} (vals : E → Array Value) (n g : Nat) (lb : Array Value) (P : Nat → TypeId → Prop) (L : List E) (w : World) : Prop :=
 ∀ (l : Nat) (J Jx : List E → World → Prop) (W : World), Below w.heap.size w W → OwnFrom W.heap.size J → OwnFrom W.heap.size Jx →
  (∀ pre x r W1, J pre W1 → L = pre ++ x :: r → YieldAt Fence.wide (n - 1) Tryz.prog l (vals x) W1 fun e W' =>
   (e = .returned (.bool true) ∧ J (pre ++ [x]) W' ∧ KeepG P W1 W' ∧ KeepsFrom W.heap.size W1 W') ∨ (e = .returned (.bool false) ∧ Jx (pre ++ [x]) W' ∧ KeepsFrom W.heap.size W1 W')) →
  J [] W →
  CallsIn Fence.wide n Tryz.prog g (#[.func (.yield l) #[] #[]] ++ lb) W fun e W' => (∃ v, e = .returned v) ∧ (J L W' ∨ (∃ pre x r, L = pre ++ x :: r ∧ Jx (pre ++ [x]) W'))
theorem rangeG {E : Type} {vals : E → Array Value} {P : Nat → TypeId → Prop} {L : List E} {g : Operand} {ps : Array Tmp} {assign body : Code} {Q : Exit → Act → World → Prop} {a : Act} {w w0 : World} {n gf : Nat} {lb : Array Value} 
  (hg : a.eval g = .func (.func gf) #[] lb) (eg : ∀ args w, (callFunc gf args).run Tryz.prog w = .ok (.enter gf args) w)
  (hseq : SeqG vals (n - 1) gf lb P L w0) (hb0 : Below w0.heap.size w0 w) (hps : ∀ x, (vals x).size = ps.size)
  (I : List E → World → Prop) (Ix : Code → List E → World → Prop) (hI : OwnFrom w.heap.size I) (hIx : ∀ c, OwnFrom w.heap.size (Ix c)) (h0 : I [] w)
  (Ax : E → Act → World → Prop) (hAx : ∀ x a', OwnFrom w.heap.size (fun (_ : Unit) W => Ax x a' W))
  (hassign : ∀ (l : Nat) (pre : List E) (x : E) (W : World) (K : Act → World → Prop), I pre W → (∀ a' W', KeepsFrom w.heap.size W W' → KeepG P W W' → I pre W' → Ax x a' W' → K a' W') →
   assign.wpIn (Fence.wide.inRound l) (n - 1 - 1) Tryz.prog (Exit.then K (fun _ _ _ => False)) { tmps := (ps.zip (vals x)).foldl (fun t (p, v) => t.setIfInBounds p v) a.tmps, defers := [] } W)
  (hbody : ∀ (l : Nat) (pre : List E) (x : E) (a' : Act) (W : World), I pre W → Ax x a' W → (∃ r, L = pre ++ x :: r) →
   body.wpIn (Fence.wide.inRound l) (n - 1 - 1) Tryz.prog (postG w.heap.size P I Ix (pre ++ [x]) W) a' W)
  (hdone : ∀ (D : Nat) (W : World), w.heap.size ≤ D → I L W → W.heap[D]? = some (.deferred (some [])) → Q .normal { a with defers := { target := .collected D, args := #[] } :: a.defers } W)
  (hstop : ∀ (D : Nat) (c : Code) (pre : List E) (x : E) (W : World), w.heap.size ≤ D → (∃ r, L = pre ++ x :: r) → Ix c (pre ++ [x]) W → W.heap[D]? = some (.deferred (some [])) → c.wpIn Fence.wide n Tryz.prog Q { a with defers := { target := .collected D, args := #[] } :: a.defers } W) :
  (Code.rangeFunc g ps assign body).wpIn Fence.wide n Tryz.prog Q a w := by
 refine wpIn_rangeFunc fun fn hfn => ?_
 obtain ⟨D, hD⟩ : ∃ D, D = w.heap.size := ⟨_, rfl⟩
 obtain ⟨rc, hrc⟩ : ∃ rc : LoopState → Option Code → Loop, rc = fun st pe => { state := st, pending := pe, fn, tmps := a.tmps, params := ps, assign, body, defers := D } := ⟨_, rfl⟩
 obtain ⟨V, hV⟩ : ∃ V, (w.alloc (.deferred (some []))).alloc (.loop (rc .ready none)) = V := ⟨_, rfl⟩
 have hVs : V.heap.size = D + 2 := by rw [← hV, hD]; simp
 have hV2 : Two D (rc .ready none) V := by
  rw [← hV, hD]
  refine ⟨(Below.heap_alloc _ _ _ (by simp)).trans (World.alloc_heap_new w _), ?_⟩
  have := World.alloc_heap_new (w.alloc (.deferred (some []))) (.loop (rc .ready none))
  rwa [World.size_alloc] at this
 have hVI : I [] V := by rw [← hV]; exact hI.alloc _ (hI.alloc _ h0)
 have hVb : Below w0.heap.size w0 V := by
  rw [← hV]
  exact hb0.trans ((((Below.refl _ w).alloc (Nat.le_refl _) _).alloc (by simp) _).mono hb0.size)
 have nc : ∀ {X : World} {row : Option Nat}, (∀ r, row = some r → V.heap.size ≤ r ∧ ∃ o : Obj, X.heap[r]? = some o ∧ o.isCells = false) → (∀ r, row = some r → w.heap.size ≤ r ∧ ∃ o : Obj, X.heap[r]? = some o ∧ o.isCells = false) :=
  fun h r e => ⟨by have := (h r e).1; omega, (h r e).2⟩
 have far : ∀ {X : World} {row : Option Nat}, (∀ r, row = some r → V.heap.size ≤ r ∧ ∃ o : Obj, X.heap[r]? = some o ∧ o.isCells = false) → ∀ r, row = some r → V.heap.size ≤ r := fun h r e => (h r e).1
 have put : ∀ {pre : List E} {W : World} {r : Loop} (r' : Loop), I pre W → Two D r W → I pre (W.putObj (D + 1) (.loop r')) := fun r' hi h2 => hI.putObj _ hi (by omega) h2.l rfl
 have putx : ∀ {c : Code} {pre : List E} {W : World} {r : Loop} (r' : Loop), Ix c pre W → Two D r W → Ix c pre (W.putObj (D + 1) (.loop r')) := fun r' hi h2 => (hIx _).putObj _ hi (by omega) h2.l rfl
 refine ⟨D + 1, [{ target := .collected D, args := #[] }], V, { target := .fn (.func gf) lb, args := #[.func (.yield (D + 1)) #[] #[]] }, V, gf, #[.func (.yield (D + 1)) #[] #[]] ++ lb, V, ?_, ?_, ?_, ?_, ?_, ?_⟩
 ·rw [← hV, hrc, hD]; exact run_enterLoop_outer _ _ _ _ _
 ·simp only [resolve, hg]
  simp [go_sem]
 ·intro f' _; trivial
 ·simp [invoke, go_sem, eg]
 ·intro h; cases h
 ·refine (hseq (D + 1) (fun pre W => I pre W ∧ Two D (rc .ready none) W) (fun pre W => ∃ c, Ix c pre W ∧ Two D (rc .done (some c)) W) V hVb
   (fun s X Y row hs hg' hr => ⟨hI s X Y row hs.1 hg' (nc hr), hs.2.kept hg' (by omega) (far hr)⟩)
   (fun s X Y row ⟨c, hs, h2⟩ hg' hr => ⟨c, hIx c s X Y row hs hg' (nc hr), h2.kept hg' (by omega) (far hr)⟩)
   ?_ ⟨hVI, hV2⟩).mono ?_
  ·rintro pre x r W ⟨hi, h2⟩ hL
   have hy := run_yield (P := Tryz.prog) (args := (vals x)) h2.l (by rw [hrc]; exact hps x)
   rw [hrc] at hy
   refine ⟨fn, _, assign, body, hy, roundIn_of_wpIn trivial (hassign _ pre x W _ hi ?_)⟩
   clear hy
   intro a' Wa hkf hkp hia hax
   rw [← hD] at hkf
   have h2a := h2.from hkf
   refine ⟨_, run_beginRound h2a.l (by rw [hrc]), ?_⟩
   have hfb := (keepsFrom_up hkf (show D ≤ V.heap.size by omega)).trans (keepsFrom_put V.heap.size Wa (D + 1) (.loop { rc .ready none with state := .busy }) (by omega))
   have h2b := h2a.put { rc .ready none with state := .busy }
   have hkb := hkp.trans (KeepG.put (P := P) (.loop { rc .ready none with state := .busy }) h2a.l rfl)
   refine wpIn_mono (hbody _ pre x a' _ (put _ hia h2a) ((hAx x a').putObj (s := ()) _ hax (by omega) h2a.l rfl) ⟨r, hL⟩) ?_
   generalize Wa.putObj (D + 1) (.loop { rc .ready none with state := .busy }) = Wb at *
   rw [← hD]
   have fin : ∀ (jump : Option Code) (W3 : World), KeepsFrom D Wb W3 →
     (Instr.endRound (D + 1) jump).run Tryz.prog W3 = .ok (.bool jump.isNone) (W3.putObj (D + 1) (.loop (rc (if jump.isNone then .ready else .done) jump))) ∧ Two D { rc .ready none with state := .busy } W3 ∧ ∀ o, KeepsFrom V.heap.size W (W3.putObj (D + 1) o) := fun jump W3 hk3 => by
    have h3 := h2b.from hk3
    have := run_endRound (P := Tryz.prog) jump h3.l
    rw [hrc] at this h3 ⊢
    exact ⟨this, h3, fun o => (hfb.trans (keepsFrom_up hk3 (show D ≤ V.heap.size by omega))).trans (keepsFrom_put V.heap.size W3 (D + 1) o (by omega))⟩
   rintro e a3 W3 hp
   cases e with
   | normal =>
     obtain ⟨hk3, hkp3, hi3⟩ := hp
     obtain ⟨hr, h3, hf3⟩ := fin none W3 hk3
     exact ⟨_, _, hr, .inl ⟨rfl, ⟨put _ hi3 h3, h3.put _⟩, (hkb.trans hkp3).trans (KeepG.put _ h3.l rfl), hf3 _⟩⟩
   | ret =>
     obtain ⟨hk3, hi3⟩ := hp
     obtain ⟨hr, h3, hf3⟩ := fin (some .ret) W3 hk3
     exact ⟨_, _, hr, .inr ⟨rfl, ⟨.ret, putx _ hi3 h3, h3.put _⟩, hf3 _⟩⟩
   | exit id =>
     obtain ⟨hk3, hi3⟩ := hp
     obtain ⟨hr, h3, hf3⟩ := fin (some (.exit id)) W3 hk3
     exact ⟨_, _, hr, .inr ⟨rfl, ⟨.exit id, putx _ hi3 h3, h3.put _⟩, hf3 _⟩⟩
   | goto t =>
     obtain ⟨hk3, hi3⟩ := hp
     obtain ⟨hr, h3, hf3⟩ := fin (some (.goto t)) W3 hk3
     exact ⟨_, _, hr, .inr ⟨rfl, ⟨.goto t, putx _ hi3 h3, h3.put _⟩, hf3 _⟩⟩
   | panic ch => exact hp.elim
   | outgrown => exact hp.elim
  ·rintro e W2 ⟨⟨v, rfl⟩, (⟨hi, h2⟩ | ⟨pre, x, r, hL, c, hi, h2⟩)⟩
   ·have he := run_endLoop (P := Tryz.prog) h2.l (by rw [hrc]; simp)
    rw [hrc] at he
    exact ⟨none, _, he, hdone D _ (Nat.le_of_eq hD.symm) (put _ hi h2) ((World.putObj_heap_other (by omega)).trans h2.d)⟩
   ·have he := run_endLoop (P := Tryz.prog) h2.l (by rw [hrc]; simp)
    rw [hrc] at he
    exact ⟨some c, _, he, hstop D c pre x _ (Nat.le_of_eq hD.symm) ⟨r, hL⟩ (putx _ hi h2) ((World.putObj_heap_other (by omega)).trans h2.d)⟩
end
section
open Go.RowKit Go.Shelf
attribute [local go_sem] Oper.semAt_some
abbrev numV (x : Nat) : Array Value := #[.int .i64 (x : Int)]
theorem KeepG.box {P : Nat → TypeId → Prop} {W W' : World} {b : Nat} {f : Nat → Bool} (h : KeepG P W W') (hb : Box W b f) (hx : P b 82) : Box W' b f := ⟨h.block b _ _ _ hx hb.is⟩
theorem KeepG.tab {P : Nat → TypeId → Prop} {W W' : World} (h : KeepG P W W') (hT : Tab W) (hx : ∀ T, P 0 T) : Tab W' := fun i v hv => h.cell (b := 0) (hT i v hv) hx
theorem all2_in (l Bn : Nat) (f : Nat → Bool) (J Jx : List Nat → World → Prop) (n : Nat) (hn : 1 ≤ n)
  (hY : ∀ pre (x : Nat) r W, J pre W → nums f = pre ++ x :: r → YieldAt Fence.wide (n - 1) Tryz.prog l #[.int .i64 (x : Int)] W fun e W' =>
   (e = .returned (.bool true) ∧ J (pre ++ [x]) W' ∧ (Box W Bn f → Box W' Bn f) ∧ (Tab W → Tab W')) ∨ (e = .returned (.bool false) ∧ Jx (pre ++ [x]) W'))
  (W : World) (hB : Box W Bn f) (hT : Tab W) (hJ : J [] W) :
  CallsIn Fence.wide n Tryz.prog 61 #[.func (.yield l) #[] #[], .pointer (some ⟨Bn, 0, none⟩)] W fun e W' => (∃ v, e = .returned v) ∧
   (J (nums f) W' ∨ (∃ pre x r, nums f = pre ++ x :: r ∧ Jx (pre ++ [x]) W')) := by
 refine callsIn_of_wp Tryz.func61 rfl trivial ?_ rfl
 simp only [Tryz.ntmps61, List.size_toArray, List.length_cons, List.length_nil, Nat.reduceAdd, Nat.reduceSub, Array.replicate_succ, Array.replicate_zero, List.push_toArray, List.append_toArray, List.nil_append, List.cons_append]
 gi_wp2
 gi_loopw [5] (fun i wr => ∃ (k : Nat) (pre : List Nat), k ≤ 16 ∧ i = .int .i64 k ∧ nums f = pre ++ numsFrom f k ∧ J pre wr ∧ Box wr Bn f ∧ Tab wr) (fun i _ => 16 - (intOf i).toNat)
 case atStart => exact ⟨0, [], by omega, rfl, by simp [numsFrom_0], hJ, hB, hT⟩
 case round =>
  obtain ⟨k, pre, hk, rfl, hx, hJ1, hB1, hT1⟩ := hrel
  have HX := Lib.hid hx
  clear hx hJ hB hT
  by_cases hlt : k < 16
  ·have d1 := hB1.cell k hlt
   have q0 : nums f = pre ++ (bitsOf k (word f k) ++ numsFrom f (k + 1)) := by rw [HX.out, numsFrom_step f k hlt, bitsOf_word]
   have Q0 := Lib.hid q0
   have hdk : decide ((k : Int) < 16) = true := decide_eq_true (by omega)
   have hw := word_le f k
   clear q0 HX
   generalize word f k = y0 at *
   gi_wp2
   gi_loopw [4] (fun x wr => ∃ (y : Nat) (pre : List Nat), y ≤ 18446744073709551615 ∧ x = .int .u64 y ∧ Hid (nums f = pre ++ (bitsOf k y ++ numsFrom f (k + 1))) ∧ J pre wr ∧ Box wr Bn f ∧ Tab wr) (fun x _ => (intOf x).toNat)
   case atStart => exact ⟨y0, pre, hw, rfl, Q0, hJ1, hB1, hT1⟩
   case round =>
    clear hJ1 Q0 hw hB1 hT1 d1
    obtain ⟨y, pre, hy, rfl, Q0, hJ1, hB1, hT1⟩ := hrel
    by_cases hy0 : y = 0
    ·subst hy0
     have q0 := Q0.out
     rw [bitsOf_0, List.nil_append] at q0
     have Q1 := Lib.hid q0
     clear q0 Q0
     gi_wp2
     go_roundw
     case rel => exact ⟨k + 1, pre, by omega, by go_num, Q1.out, hJ1, hB1, hT1⟩
     case measure => simp [intOf]; omega
    ·obtain ⟨t, m, ht, hym⟩ := odd_form 64 y hy0 (by omega)
     have hq := Q0.out
     have hlen : (nums f).length ≤ 1024 := by
      have := List.length_filter_le f (List.range' 0 1024)
      rw [List.length_range'] at this
      exact this
     rw [hym, bitsOf_step k t m ht] at hq
     have hpl : pre.length < 1024 := by rw [hq] at hlen; simp at hlen; omega
     have T := Lib.hid (fun w hT => tz_any t m y w ht hym (by omega) hT)
     obtain ⟨fn, tmps, assign, body, hy, hR⟩ := hY pre (64 * k + t) _ wr hJ1 hq
     have e1 := pred_and t m
     rw [← hym] at e1
     have c1 := u64_and_nat y (y - 1) (by omega) (by omega)
     rw [e1] at c1
     have e2 : (y : Int) - 1 = ((y - 1 : Nat) : Int) := by omega
     have hlt2 : 2 ^ t * (2 * m) < y := by have := Nat.two_pow_pos t; rw [hym, Nat.mul_add]; omega
     have s6 := shl6 k hlt
     have e3 : ((64 * k : Nat) : Int) + (t : Int) = ((64 * k + t : Nat) : Int) := by omega
     have hz : ((y : Int) != 0) = true := by simp; omega
     have hq2 : nums f = (pre ++ [64 * k + t]) ++ (bitsOf k (2 ^ t * (2 * m)) ++ numsFrom f (k + 1)) := by rw [hq]; simp
     have Q2 := Lib.hid hq2
     have Q3 : Hid (∃ r, nums f = pre ++ (64 * k + t) :: r) := ⟨_, hq⟩
     clear hq hq2 hym e1 hlen Q0
     generalize 2 ^ t * (2 * m) = y2 at *
     have hk64 : 64 * k ≤ 1024 := by omega
     generalize 64 * k + t = x at *
     generalize 64 * k = k6 at *
     generalize y - 1 = y1 at *
     gi_wp2_with (refine ⟨trivial, ?_⟩; gi_at_call 62; refine (callsIn_wide.2 (T.out _ hT1)).mono ?_; rintro e w' ⟨rfl, rfl⟩)
     refine hR.mono ?_
     rintro e W3 (⟨rfl, hJ3, hk3, hk4⟩ | ⟨rfl, hJx3⟩)
     ·have hB3 := hk3 hB1
      have hT3 := hk4 hT1
      gi_wp2
      go_roundw
      case rel => exact ⟨y2, pre ++ [x], by omega, by go_num, Q2, hJ3, hB3, hT3⟩
      case measure => simp [intOf]; omega
     ·gi_wp2
      refine bodyPost_ret (results_none rfl _ _ _) rfl ?_
      obtain ⟨rr, hrr⟩ := Q3.out
      exact ⟨⟨_, rfl⟩, .inr ⟨pre, x, rr, hrr, hJx3⟩⟩
  ·obtain rfl : k = 16 := by omega
   gi_wp2
   go_end0
   have hpre : pre = nums f := by simpa [numsFrom_16] using HX.out.symm
   exact ⟨⟨_, rfl⟩, .inl (hpre ▸ hJ1)⟩
theorem all2_seq (n : Nat) (hn : 1 ≤ n) (f : Nat → Bool) (Bn : Nat) (P : Nat → TypeId → Prop) (w : World) (hB : Box w Bn f) (hT : Tab w) (hP : P Bn 82) (hP0 : ∀ T, P 0 T) :
  SeqG numV n 61 #[.pointer (some ⟨Bn, 0, none⟩)] P (nums f) w := fun l J Jx W hW hJ hJx hY hJ0 =>
 all2_in l Bn f J Jx n hn (fun pre x r W1 h1 h2 => by
  obtain ⟨fn, tmps, assign, body, hy, hR⟩ := hY pre x r W1 h1 h2
  refine ⟨fn, tmps, assign, body, hy, hR.mono ?_⟩
  rintro e W' (⟨h3, h4, h5, _⟩ | ⟨h3, h4, _⟩)
  ·exact .inl ⟨h3, h4, fun hb => h5.box hb hP, fun ht => h5.tab ht hP0⟩
  ·exact .inr ⟨h3, h4⟩) W (hB.below hW hB.lt) (hT.below hW) hJ0
end
end Go.Proofs.YthfkbbiaemmndaaGreatDoor
