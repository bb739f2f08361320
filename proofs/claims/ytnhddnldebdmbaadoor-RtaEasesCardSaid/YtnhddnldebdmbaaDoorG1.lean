/- Texts about the program, one after the other: Shelf, MMath, MBase, RDiv, RDv2, Bytes, Base, Strs. -/
import Derived.Shelf.Small.Bits
import Derived.Shelf.Small.Strs
import Derived.Shelf.Strconv.Itoa0
import Derived.Shelf.LaysM
import Derived.Shelf.Strconv.Clone
import Derived.Shelf.Strings.Search1
import Derived.Shelf.Bits.Mul64
import Derived.Test.YtnhddnldebdmbaaDoorProg
import Derived.Test.YtnhddnldebdmbaaDoorRows
import Derived.WalkKit
import Derived.ProofKit
import Derived.Handy
import Derived.Lib.Hide
import Derived.Deep.MidRow
import Derived.Deep.QuietTactic
import Derived.BigQuiet
import Derived.Deep.RegionHeld3
import Derived.Laws.Externs
import Derived.Laws.ShiftsVarLaws
import Derived.Laws.Bits64b
import Derived.Deep.CutBlock
import Derived.Deep.CutRange
/- The library's contracts of IndexByte, Clone, Mul64, LeadingZeros64, Len64, laid at this seat's translation. -/
namespace Go.Proofs
open Go.Shelf
def Tryd.lays134_ren : Go.Shelf.Ren := ⟨fun | 134 => 80 | 129 => 84 | n => n, fun | 53 => 36 | 3 => 3 | 4 => 4 | 46 => 102 | 5 => 5 | 9 => 9 | n => n, fun | n => n⟩
theorem Tryd.lays134 : Go.Proofs.Lays.n134 Tryd.prog Tryd.lays134_ren := {
  mixed := by kernel_rfl
  f129 := Tryd.func84.trans (congrArg some (by kernel_rfl))
  f134 := Tryd.func80.trans (congrArg some (by kernel_rfl))
  t3 := Tryd.underlying3
  a3 := Tryd.isAgg3
  z3 := Tryd.sizeOf3
  v3 := Tryd.zeroValue3
  t4 := Tryd.underlying4
  a4 := Tryd.isAgg4
  z4 := Tryd.sizeOf4
  v4 := Tryd.zeroValue4
  t5 := Tryd.underlying5
  a5 := Tryd.isAgg5
  z5 := Tryd.sizeOf5
  v5 := Tryd.zeroValue5
  t9 := Tryd.underlying9
  a9 := Tryd.isAgg9
  z9 := Tryd.sizeOf9
  v9 := Tryd.zeroValue9
  t46 := Tryd.underlying102
  a46 := Tryd.isAgg102
  z46 := Tryd.sizeOf102
  v46 := Tryd.zeroValue102
  t53 := Tryd.underlying36
  a53 := Tryd.isAgg36
  z53 := Tryd.sizeOf36
  v53 := Tryd.zeroValue36 }
theorem Tryd.bits_LeadingZeros64 (x : Int) (w : World) (h0 : 0 ≤ x) (h1 : x ≤ 18446744073709551615) :
    Calls Tryd.prog 80 #[.int .u64 x] w fun e w' => e = .returned (.int .i64 (64 - (Lib.bitLen x.toNat : Int))) ∧ w' = w := Any.bits_LeadingZeros64 Tryd.lays134 x w h0 h1
def Tryd.lays137_ren : Go.Shelf.Ren := ⟨fun | 137 => 90 | 217 => 95 | 266 => 99 | n => n, fun | 9 => 9 | 5 => 5 | 3 => 3 | n => n, fun | n => n⟩
theorem Tryd.lays137 : Go.Proofs.Lays.n137 Tryd.prog Tryd.lays137_ren := {
  mixed := by kernel_rfl
  f137 := Tryd.func90.trans (congrArg some (by kernel_rfl))
  f217 := Tryd.func95.trans (congrArg some (by kernel_rfl))
  f266 := Tryd.func99.trans (congrArg some (by kernel_rfl))
  t3 := Tryd.underlying3
  a3 := Tryd.isAgg3
  z3 := Tryd.sizeOf3
  v3 := Tryd.zeroValue3
  t5 := Tryd.underlying5
  a5 := Tryd.isAgg5
  z5 := Tryd.sizeOf5
  v5 := Tryd.zeroValue5
  t9 := Tryd.underlying9
  a9 := Tryd.isAgg9
  z9 := Tryd.sizeOf9
  v9 := Tryd.zeroValue9 }
open Go.RowKit in
theorem Tryd.strings_IndexByte (s : ByteArray) (c : Int) (w : World) :
    Calls Tryd.prog 90 #[.string s, .int .u8 c] w fun e w' => e = .returned (.int .i64 (Lib.indexByte s.data.toList c.toNat.toUInt8)) ∧ w' = w := Any.strings_IndexByte Tryd.lays137 s c w
def Tryd.lays129_ren : Go.Shelf.Ren := ⟨fun | 129 => 84 | n => n, fun | 53 => 36 | 3 => 3 | 4 => 4 | 46 => 102 | 5 => 5 | 9 => 9 | n => n, fun | n => n⟩
theorem Tryd.lays129 : Go.Proofs.Lays.n129 Tryd.prog Tryd.lays129_ren := {
  mixed := by kernel_rfl
  f129 := Tryd.func84.trans (congrArg some (by kernel_rfl))
  t3 := Tryd.underlying3
  a3 := Tryd.isAgg3
  z3 := Tryd.sizeOf3
  v3 := Tryd.zeroValue3
  t4 := Tryd.underlying4
  a4 := Tryd.isAgg4
  z4 := Tryd.sizeOf4
  v4 := Tryd.zeroValue4
  t5 := Tryd.underlying5
  a5 := Tryd.isAgg5
  z5 := Tryd.sizeOf5
  v5 := Tryd.zeroValue5
  t9 := Tryd.underlying9
  a9 := Tryd.isAgg9
  z9 := Tryd.sizeOf9
  v9 := Tryd.zeroValue9
  t46 := Tryd.underlying102
  a46 := Tryd.isAgg102
  z46 := Tryd.sizeOf102
  v46 := Tryd.zeroValue102
  t53 := Tryd.underlying36
  a53 := Tryd.isAgg36
  z53 := Tryd.sizeOf36
  v53 := Tryd.zeroValue36 }
theorem Tryd.bits_Len64 (x : Int) (w : World) (h0 : 0 ≤ x) (h1 : x ≤ 18446744073709551615) :
    Calls Tryd.prog 84 #[.int .u64 x] w fun e w' => e = .returned (.int .i64 (Lib.bitLen x.toNat)) ∧ w' = w := Any.bits_Len64 Tryd.lays129 x w h0 h1
def Tryd.laysM316_ren : Go.Shelf.Ren := ⟨fun | 316 => 98 | n => n, fun | 9 => 9 | 3 => 3 | 4 => 4 | 37 => 48 | 0 => 0 | 127 => 122 | 5 => 5 | n => n, fun | n => n⟩
theorem Tryd.laysM316 : Go.Proofs.LaysM.n316 Tryd.prog Tryd.laysM316_ren := {
  mixed := by kernel_rfl
  f316 := Tryd.func98.trans (congrArg some (by kernel_rfl))
  t0 := Tryd.underlying0
  a0 := Tryd.isAgg0
  z0 := Tryd.sizeOf0
  v0 := Tryd.zeroValue0
  t3 := Tryd.underlying3
  a3 := Tryd.isAgg3
  z3 := Tryd.sizeOf3
  v3 := Tryd.zeroValue3
  t4 := Tryd.underlying4
  a4 := Tryd.isAgg4
  z4 := Tryd.sizeOf4
  v4 := Tryd.zeroValue4
  t9 := Tryd.underlying9
  a9 := Tryd.isAgg9
  z9 := Tryd.sizeOf9
  v9 := Tryd.zeroValue9
  t37 := Tryd.underlying48
  a37 := Tryd.isAgg48
  z37 := Tryd.sizeOf48
  v37 := Tryd.zeroValue48
  t127 := Tryd.underlying122
  a127 := Tryd.isAgg122
  z127 := Tryd.sizeOf122
  v127 := Tryd.zeroValue122
  t5 := Tryd.underlying5
  a5 := Tryd.isAgg5
  z5 := Tryd.sizeOf5
  v5 := Tryd.zeroValue5
  i0 := by kernel_rfl
  i3 := by kernel_rfl
  i4 := by kernel_rfl
  i5 := by kernel_rfl
  i9 := by kernel_rfl
  i37 := by kernel_rfl
  i127 := by kernel_rfl }
open Go.RowKit in
theorem Tryd.stringslite_Clone (s : ByteArray) (w : World) (hlim : s.size ≤ 281474976710656) :
    Calls Tryd.prog 98 #[.string s] w fun e w' => e = .returned (.string s) ∧ Below w.heap.size w w' := Any.stringslite_Clone Tryd.laysM316 s w hlim
def Tryd.lays217_ren : Go.Shelf.Ren := ⟨fun | 217 => 95 | 266 => 99 | n => n, fun | 9 => 9 | 5 => 5 | 3 => 3 | n => n, fun | n => n⟩
theorem Tryd.lays217 : Go.Proofs.Lays.n217 Tryd.prog Tryd.lays217_ren := {
  mixed := by kernel_rfl
  f217 := Tryd.func95.trans (congrArg some (by kernel_rfl))
  f266 := Tryd.func99.trans (congrArg some (by kernel_rfl))
  t3 := Tryd.underlying3
  a3 := Tryd.isAgg3
  z3 := Tryd.sizeOf3
  v3 := Tryd.zeroValue3
  t5 := Tryd.underlying5
  a5 := Tryd.isAgg5
  z5 := Tryd.sizeOf5
  v5 := Tryd.zeroValue5
  t9 := Tryd.underlying9
  a9 := Tryd.isAgg9
  z9 := Tryd.sizeOf9
  v9 := Tryd.zeroValue9 }
open Go.RowKit Go.Lib in
theorem Tryd.stringslite_IndexByte (s : ByteArray) (c : Int) (w : World) :
    Calls Tryd.prog 95 #[.string s, .int .u8 c] w fun e w' => e = .returned (.int .i64 (Lib.indexByte s.data.toList c.toNat.toUInt8)) ∧ w' = w := Any.stringslite_IndexByte Tryd.lays217 s c w
def Tryd.lays264_ren : Go.Shelf.Ren := ⟨fun | 264 => 74 | n => n, fun | 53 => 36 | 46 => 102 | n => n, fun | n => n⟩
theorem Tryd.lays264 : Go.Proofs.Lays.n264 Tryd.prog Tryd.lays264_ren := {
  mixed := by kernel_rfl
  f264 := Tryd.func74.trans (congrArg some (by kernel_rfl))
  t46 := Tryd.underlying102
  a46 := Tryd.isAgg102
  z46 := Tryd.sizeOf102
  v46 := Tryd.zeroValue102
  t53 := Tryd.underlying36
  a53 := Tryd.isAgg36
  z53 := Tryd.sizeOf36
  v53 := Tryd.zeroValue36 }
open Go.RowKit Go.Lib in
theorem Tryd.bits_Mul64 (x y : Nat) (hx : x < 18446744073709551616) (hy : y < 18446744073709551616) (w : World) :
    Calls Tryd.prog 74 #[.int .u64 x, .int .u64 y] w fun e w' => e = .returned (.tuple #[.int .u64 ((x * y / 18446744073709551616 : Nat) : Int), .int .u64 ((x * y % 18446744073709551616 : Nat) : Int)]) ∧ w' = w := Any.bits_Mul64 Tryd.lays264 x y hx hy w
end Go.Proofs
/- Plain numbers: bits of words, and sets of small numbers as words. -/
namespace Go.Proofs.YtnhddnldebdmbaaDoor
set_option linter.unusedVariables false
set_option linter.unusedSimpArgs false
/-- As many of the lowest k bits as are set. -/
def pc (x : Nat) : Nat → Nat
  | 0 => 0
  | k + 1 => pc x k + (x.testBit k).toNat

theorem pc_le (x k : Nat) : pc x k ≤ k := by
  induction k with
  | zero => simp [pc]
  | succ k ih => simp only [pc]; have : (x.testBit k).toNat ≤ 1 := by cases x.testBit k <;> simp
                 omega

theorem pc_add (x a b : Nat) : pc x (a + b) = pc x a + pc (x / 2 ^ a) b := by
  induction b with
  | zero => simp [pc]
  | succ b ih =>
    rw [← Nat.add_assoc]
    simp only [pc, ih, Nat.testBit_div_two_pow, Nat.add_assoc]
    rw [Nat.add_comm b a]

theorem pc_congr {x y k : Nat} (h : ∀ j, j < k → x.testBit j = y.testBit j) : pc x k = pc y k := by
  induction k with
  | zero => rfl
  | succ k ih => simp only [pc]; rw [ih (fun j hj => h j (by omega)), h k (by omega)]

theorem pc_mod (x k : Nat) : pc (x % 2 ^ k) k = pc x k :=
  pc_congr fun j hj => by simp [Nat.testBit_mod_two_pow, hj]

/-! ### A byte at a time -/
theorem and_byte (h b m c : Nat) (hb : b < 256) (hc : c < 256) : (256 * h + b) &&& (256 * m + c) = 256 * (h &&& m) + (b &&& c) := by
  have e : ∀ x y : Nat, y < 256 → 256 * x + y = x <<< 8 ||| y := fun x y hy => by
    rw [← Nat.shiftLeft_add_eq_or_of_lt (i := 8) (by omega), Nat.shiftLeft_eq]; omega
  have hbc : b &&& c < 256 := Nat.lt_of_le_of_lt Nat.and_le_left hb
  rw [e h b hb, e m c hc, e (h &&& m) (b &&& c) hbc]
  apply Nat.eq_of_testBit_eq
  intro i
  simp only [Nat.testBit_and, Nat.testBit_or, Nat.testBit_shiftLeft]
  by_cases hi : 8 ≤ i
  · have h1 : b.testBit i = false := Nat.testBit_lt_two_pow (Nat.lt_of_lt_of_le hb (by have := Nat.pow_le_pow_right (n := 2) (by omega) hi; omega))
    have h2 : c.testBit i = false := Nat.testBit_lt_two_pow (Nat.lt_of_lt_of_le hc (by have := Nat.pow_le_pow_right (n := 2) (by omega) hi; omega))
    simp [hi, h1, h2]
  · simp [hi]

def s1 (b : Nat) : Nat := (b / 2 &&& 85) + (b &&& 85)
def s2 (b : Nat) : Nat := (b / 4 &&& 51) + (b &&& 51)
def s3 (b : Nat) : Nat := (b / 16 + b) &&& 15

set_option maxRecDepth 100000 in
theorem byte1 : ∀ b, b < 256 → ∀ t, t < 2 → (128 * t + b / 2) &&& 85 = b / 2 &&& 85 := by decide +kernel
set_option maxRecDepth 100000 in
theorem byte2 : ∀ b, b < 256 → ∀ t, t < 4 → (64 * t + b / 4) &&& 51 = b / 4 &&& 51 := by decide +kernel
set_option maxRecDepth 100000 in
theorem byte3 : ∀ b, b < 69 → ∀ t, t < 5 → (16 * t + (b / 16 + b)) &&& 15 = (b / 16 + b) &&& 15 := by decide +kernel
set_option maxRecDepth 100000 in
theorem byte_pc : ∀ b, b < 256 → s1 b < 256 ∧ s2 (s1 b) < 69 ∧ s2 (s1 b) % 16 < 5 ∧ s3 (s2 (s1 b)) = pc b 8 := by decide +kernel

def B : List Nat → Nat
  | [] => 0
  | b :: l => 256 * B l + b

theorem B_add (f g : Nat → Nat) (l : List Nat) : B (l.map f) + B (l.map g) = B (l.map fun b => f b + g b) := by
  induction l with
  | nil => rfl
  | cons b l ih => simp only [List.map_cons, B]; omega

theorem B_and (c : Nat) (hc : c < 256) (l : List Nat) (h : ∀ b ∈ l, b < 256) : B l &&& B (List.replicate l.length c) = B (l.map (· &&& c)) := by
  induction l with
  | nil => simp [B]
  | cons b l ih =>
    simp only [List.length_cons, List.replicate_succ, List.map_cons, B]
    rw [and_byte _ _ _ _ (h b (by simp)) hc, ih (fun x hx => h x (by simp [hx]))]

theorem B_1 (l : List Nat) (h : ∀ b ∈ l, b < 256) : (B l / 2) &&& B (List.replicate l.length 85) = B (l.map fun b => b / 2 &&& 85) := by
  induction l with
  | nil => rfl
  | cons b l ih =>
    have hb := h b (by simp)
    simp only [List.length_cons, List.replicate_succ, List.map_cons, B]
    rw [show (256 * B l + b) / 2 = 256 * (B l / 2) + (128 * (B l % 2) + b / 2) by omega, and_byte _ _ _ _ (by omega) (by omega), ih (fun x hx => h x (by simp [hx])), byte1 b hb _ (by omega)]

theorem B_2 (l : List Nat) (h : ∀ b ∈ l, b < 256) : (B l / 4) &&& B (List.replicate l.length 51) = B (l.map fun b => b / 4 &&& 51) := by
  induction l with
  | nil => rfl
  | cons b l ih =>
    have hb := h b (by simp)
    simp only [List.length_cons, List.replicate_succ, List.map_cons, B]
    rw [show (256 * B l + b) / 4 = 256 * (B l / 4) + (64 * (B l % 4) + b / 4) by omega, and_byte _ _ _ _ (by omega) (by omega), ih (fun x hx => h x (by simp [hx])), byte2 b hb _ (by omega)]

theorem B_mod (l : List Nat) (h : ∀ b ∈ l, b < 69 ∧ b % 16 < 5) : B l % 16 < 5 := by
  cases l with
  | nil => simp [B]
  | cons b l => have := h b (by simp); simp only [B]; omega

theorem B_3 (l : List Nat) (h : ∀ b ∈ l, b < 69 ∧ b % 16 < 5) : (B l / 16 + B l) &&& B (List.replicate l.length 15) = B (l.map s3) := by
  induction l with
  | nil => rfl
  | cons b l ih =>
    have hb := h b (by simp)
    have hm := B_mod l (fun x hx => h x (by simp [hx]))
    simp only [List.length_cons, List.replicate_succ, List.map_cons, B]
    rw [show (256 * B l + b) / 16 + (256 * B l + b) = 256 * (B l / 16 + B l) + (16 * (B l % 16) + (b / 16 + b)) by omega, and_byte _ _ _ _ (by omega) (by omega), ih (fun x hx => h x (by simp [hx])), byte3 b hb.1 _ hm]
    rfl

theorem B_pc (l : List Nat) (h : ∀ b ∈ l, b < 256) : pc (B l) (8 * l.length) = (l.map (pc · 8)).sum := by
  induction l with
  | nil => rfl
  | cons b l ih =>
    have hb := h b (by simp)
    rw [show 8 * (b :: l).length = 8 + 8 * l.length by simp; omega, pc_add]
    simp only [B, List.map_cons, List.sum_cons]
    rw [show (256 * B l + b) / 2 ^ 8 = B l by omega, ih (fun x hx => h x (by simp [hx])), ← pc_mod (256 * B l + b), show (256 * B l + b) % 2 ^ 8 = b by omega]

theorem bytes (n : Nat) : ∀ x, x < 256 ^ n → ∃ l : List Nat, l.length = n ∧ (∀ b ∈ l, b < 256) ∧ B l = x := by
  induction n with
  | zero => intro x h; exact ⟨[], rfl, by simp, by simp at h; simp [B, h]⟩
  | succ n ih =>
    intro x h
    obtain ⟨l, h1, h2, h3⟩ := ih (x / 256) (by rw [Nat.pow_succ] at h; omega)
    exact ⟨x % 256 :: l, by simp [h1], by simp; exact ⟨by omega, h2⟩, by simp only [B, h3]; omega⟩

theorem fold8 (p0 p1 p2 p3 p4 p5 p6 p7 x3 x4 x5 x6 : Nat) (hle : p0 ≤ 8 ∧ p1 ≤ 8 ∧ p2 ≤ 8 ∧ p3 ≤ 8 ∧ p4 ≤ 8 ∧ p5 ≤ 8 ∧ p6 ≤ 8 ∧ p7 ≤ 8)
    (h3 : x3 = 256 * (256 * (256 * (256 * (256 * (256 * (256 * p7 + p6) + p5) + p4) + p3) + p2) + p1) + p0)
    (h4 : x4 = x3 + x3 / 256) (h5 : x5 = x4 + x4 / 65536) (h6 : x6 = x5 + x5 / 4294967296) :
    x6 < 9223372036854775808 ∧ x6 % 128 = p0 + (p1 + (p2 + (p3 + (p4 + (p5 + (p6 + p7)))))) := by
  have q4 : x3 / 256 = 256 * (256 * (256 * (256 * (256 * (256 * p7 + p6) + p5) + p4) + p3) + p2) + p1 := by omega
  rw [q4] at h4
  clear q4
  subst h3
  have q5 : x4 / 65536 = 256 * (256 * (256 * (256 * (256 * p7 + (p6 + p7)) + (p5 + p6)) + (p4 + p5)) + (p3 + p4)) + (p2 + p3) := by omega
  rw [q5] at h5
  clear q5
  subst h4
  have q6 : x5 / 4294967296 = 256 * (256 * (256 * p7 + (p6 + p7)) + (p5 + p6 + p7)) + (p4 + p5 + p6 + p7) := by omega
  rw [q6] at h6
  clear q6
  subst h5
  omega

/-- **math/bits.OnesCount64's own reckoning, on plain numbers.** -/
theorem ones (x : Nat) (hx : x < 18446744073709551616) : ∃ x1 x2 x3 : Nat, x1 = (x / 2 &&& 6148914691236517205) + (x &&& 6148914691236517205) ∧ x1 < 18446744073709551616 ∧
    x2 = (x1 / 4 &&& 3689348814741910323) + (x1 &&& 3689348814741910323) ∧ x2 < 18446744073709551616 ∧ x2 / 16 + x2 < 18446744073709551616 ∧
    x3 = (x2 / 16 + x2) &&& 1085102592571150095 ∧ x3 ≤ 578721382704613384 ∧
    (∀ x4 x5 x6 : Nat, x4 = x3 + x3 / 256 → x5 = x4 + x4 / 65536 → x6 = x5 + x5 / 4294967296 → x6 < 9223372036854775808 ∧ x6 % 128 = pc x 64) := by
  obtain ⟨l, hl, hb, rfl⟩ := bytes 8 x (by simpa using hx)
  have m85 : 6148914691236517205 = B (List.replicate l.length 85) := by rw [hl]; rfl
  have m51 : 3689348814741910323 = B (List.replicate l.length 51) := by rw [hl]; rfl
  have m15 : 1085102592571150095 = B (List.replicate l.length 15) := by rw [hl]; rfl
  have e1 : (B l / 2 &&& 6148914691236517205) + (B l &&& 6148914691236517205) = B (l.map s1) := by rw [m85, B_1 l hb, B_and 85 (by omega) l hb, B_add]; rfl
  have h1 : ∀ b ∈ l.map s1, b < 256 := by simp; exact fun b h => (byte_pc b (hb b h)).1
  have e2 : (B (l.map s1) / 4 &&& 3689348814741910323) + (B (l.map s1) &&& 3689348814741910323) = B ((l.map s1).map s2) := by
    rw [m51, show l.length = (l.map s1).length by simp, B_2 _ h1, B_and 51 (by omega) _ h1, B_add]; rfl
  have h2 : ∀ b ∈ (l.map s1).map s2, b < 69 ∧ b % 16 < 5 := by simp; exact fun b h => ⟨(byte_pc b (hb b h)).2.1, (byte_pc b (hb b h)).2.2.1⟩
  have e3 : (B ((l.map s1).map s2) / 16 + B ((l.map s1).map s2)) &&& 1085102592571150095 = B (l.map (pc · 8)) := by
    rw [m15, show l.length = ((l.map s1).map s2).length by simp, B_3 _ h2]
    congr 1
    simp only [List.map_map]
    exact List.map_congr_left fun b h => (byte_pc b (hb b h)).2.2.2
  have hp := B_pc l hb
  rw [hl] at hp
  have hle : ∀ b ∈ l, pc b 8 ≤ 8 := fun b _ => pc_le b 8
  refine ⟨_, _, _, rfl, ?_, rfl, ?_, ?_, rfl, ?_, ?_⟩
  all_goals simp only [e1, e2, e3]
  all_goals clear e1 e2 e3 m85 m51 m15
  all_goals rw [show 8 * 8 = 64 from rfl] at hp
  all_goals
    match l, hl with
    | [b0, b1, b2, b3, b4, b5, b6, b7], _ => ?_
  all_goals simp only [List.map_cons, List.map_nil, B, List.sum_cons, List.sum_nil, List.forall_mem_cons] at *
  all_goals generalize B [b0, b1, b2, b3, b4, b5, b6, b7] = x at *
  · omega
  · omega
  · omega
  · omega
  · intro x4 x5 x6 h4 h5 h6
    generalize pc b0 8 = p0 at *
    generalize pc b1 8 = p1 at *
    generalize pc b2 8 = p2 at *
    generalize pc b3 8 = p3 at *
    generalize pc b4 8 = p4 at *
    generalize pc b5 8 = p5 at *
    generalize pc b6 8 = p6 at *
    generalize pc b7 8 = p7 at *
    clear h1 h2 hb
    rw [hp]
    refine fold8 p0 p1 p2 p3 p4 p5 p6 p7 _ x4 x5 x6 ⟨hle.1, hle.2.1, hle.2.2.1, hle.2.2.2.1, hle.2.2.2.2.1, hle.2.2.2.2.2.1, hle.2.2.2.2.2.2.1, hle.2.2.2.2.2.2.2.1⟩ (by omega) h4 h5 h6

/-! ### The lowest one -/
theorem odd_form : ∀ (n x : Nat), x ≠ 0 → x < 2 ^ n → ∃ t m, t < n ∧ x = 2 ^ t * (2 * m + 1) := by
  intro n
  induction n with
  | zero => intro x h0 h; simp at h; omega
  | succ n ih =>
    intro x h0 h
    by_cases he : x % 2 = 0
    · obtain ⟨t, m, ht, hx⟩ := ih (x / 2) (by omega) (by rw [Nat.pow_succ] at h; omega)
      refine ⟨t + 1, m, by omega, ?_⟩
      rw [Nat.pow_succ, Nat.mul_comm (2 ^ t) 2, Nat.mul_assoc, ← hx]
      omega
    · exact ⟨0, x / 2, by omega, by simp; omega⟩

theorem testBit_form (t m j : Nat) : (2 ^ t * (2 * m + 1)).testBit j = (decide (t ≤ j) && (2 * m + 1).testBit (j - t)) := by
  rw [Nat.testBit_two_pow_mul]

theorem low_bit (t m : Nat) : (2 ^ t * (2 * m + 1)).testBit t = true := by
  rw [testBit_form]; simp [Nat.testBit_zero]
theorem low_below (t m j : Nat) (h : j < t) : (2 ^ t * (2 * m + 1)).testBit j = false := by
  rw [testBit_form]; simp; omega

theorem low_and (t m : Nat) (ht : t < 64) (hx : 2 ^ t * (2 * m + 1) < 2 ^ 64) : 2 ^ t * (2 * m + 1) &&& (2 ^ 64 - 2 ^ t * (2 * m + 1)) = 2 ^ t := by
  apply Nat.eq_of_testBit_eq
  intro j
  have hpos : 0 < 2 ^ t * (2 * m + 1) := Nat.mul_pos (Nat.two_pow_pos t) (by omega)
  obtain ⟨y, hy⟩ : ∃ y, 2 ^ t * (2 * m + 1) = y + 1 := ⟨2 ^ t * (2 * m + 1) - 1, by omega⟩
  rw [hy, Nat.testBit_and, Nat.testBit_two_pow_sub_succ (by omega), Nat.testBit_two_pow]
  -- y = 2 ^ t * (2 * m) + (2 ^ t - 1)
  have hy2 : y = 2 ^ t * (2 * m) + (2 ^ t - 1) := by
    have := Nat.two_pow_pos t
    rw [Nat.mul_add, Nat.mul_one] at hy
    omega
  have hyb : y.testBit j = if j < t then true else (2 * m).testBit (j - t) := by
    have hlt : 2 ^ t - 1 < 2 ^ t := by have := Nat.two_pow_pos t; omega
    rw [hy2, Nat.testBit_two_pow_mul_add _ hlt]
    by_cases hj : j < t
    · simp [hj]
    · simp [hj]
  rw [← hy, testBit_form, hyb]
  by_cases hj : j < t
  · simp [hj]; omega
  · by_cases hj2 : j = t
    · subst hj2; simp [Nat.testBit_zero, ht]
    · have : (2 * m).testBit (j - t) = (2 * m + 1).testBit (j - t) := by
        obtain ⟨k, hk⟩ : ∃ k, j - t = k + 1 := ⟨j - t - 1, by omega⟩
        rw [hk, Nat.testBit_succ, Nat.testBit_succ]
        congr 1; omega
      rw [this]
      have hne : ¬ t = j := by omega
      simp only [hj, if_false, hne, decide_false]
      cases (2 * m + 1).testBit (j - t) <;> simp

theorem low_and_lit (t m x : Nat) (ht : t < 64) (hx : x < 18446744073709551616) (hxe : x = 2 ^ t * (2 * m + 1)) : x &&& (18446744073709551616 - x) = 2 ^ t := by
  have e : (18446744073709551616 : Nat) = 2 ^ 64 := by decide
  rw [e] at hx ⊢
  subst hxe
  exact low_and t m ht hx

theorem pred_and (t m : Nat) : 2 ^ t * (2 * m + 1) &&& (2 ^ t * (2 * m + 1) - 1) = 2 ^ t * (2 * m) := by
  apply Nat.eq_of_testBit_eq
  intro j
  have hlt : 2 ^ t - 1 < 2 ^ t := by have := Nat.two_pow_pos t; omega
  have hy2 : 2 ^ t * (2 * m + 1) - 1 = 2 ^ t * (2 * m) + (2 ^ t - 1) := by
    have := Nat.two_pow_pos t
    rw [Nat.mul_add, Nat.mul_one]
    omega
  rw [hy2, Nat.testBit_and, testBit_form, Nat.testBit_two_pow_mul_add _ hlt, Nat.testBit_two_pow_mul]
  by_cases hj : j < t
  · simp [hj, show ¬ t ≤ j by omega]
  · by_cases hj2 : j = t
    · subst hj2; simp [Nat.testBit_zero]
    · have : (2 * m).testBit (j - t) = (2 * m + 1).testBit (j - t) := by
        obtain ⟨k, hk⟩ : ∃ k, j - t = k + 1 := ⟨j - t - 1, by omega⟩
        rw [hk, Nat.testBit_succ, Nat.testBit_succ]
        congr 1; omega
      simp only [hj, if_false, this]
      cases (2 * m + 1).testBit (j - t) <;> simp

def deB : List Nat := [0, 1, 56, 2, 57, 49, 28, 3, 61, 58, 42, 50, 38, 29, 17, 4, 62, 47, 59, 36, 45, 43, 51, 22, 53, 39, 33, 30, 24, 18, 12, 5, 63, 55, 48, 27, 60, 41, 37, 16, 46, 35, 44, 21, 52, 32, 23, 11, 54, 26, 40, 15, 34, 20, 31, 10, 25, 14, 19, 9, 13, 8, 7, 6]
theorem deB_tz : ∀ t, t < 64 → 2 ^ t * 285870213051353865 % 18446744073709551616 / 288230376151711744 < 64 ∧ deB[2 ^ t * 285870213051353865 % 18446744073709551616 / 288230376151711744]? = some t := by decide +kernel

/-! ### Sets -/
/-- The word of those that f holds of, of the numbers from 64 * i on. -/
def wordTo (f : Nat → Bool) (i : Nat) : Nat → Nat
  | 0 => 0
  | k + 1 => wordTo f i k + if f (64 * i + k) then 2 ^ k else 0
def word (f : Nat → Bool) (i : Nat) : Nat := wordTo f i 64

theorem wordTo_lt (f : Nat → Bool) (i k : Nat) : wordTo f i k < 2 ^ k := by
  induction k with
  | zero => simp [wordTo]
  | succ k ih => simp only [wordTo, Nat.pow_succ]; split <;> omega

theorem testBit_wordTo (f : Nat → Bool) (i : Nat) : ∀ k j, (wordTo f i k).testBit j = (decide (j < k) && f (64 * i + j)) := by
  intro k
  induction k with
  | zero => simp [wordTo]
  | succ k ih =>
    intro j
    have hlt := wordTo_lt f i k
    simp only [wordTo]
    have e : (wordTo f i k + if f (64 * i + k) then 2 ^ k else 0) = 2 ^ k * (f (64 * i + k)).toNat + wordTo f i k := by
      cases f (64 * i + k) <;> simp [Nat.add_comm]
    rw [e, Nat.testBit_two_pow_mul_add _ hlt, ih]
    by_cases hj : j < k
    · simp [hj]; omega
    · by_cases hj2 : j = k
      · subst hj2; cases f (64 * i + j) <;> simp
      · have h1 : ¬ j < k + 1 := by omega
        simp only [hj, if_false, h1, decide_false, Bool.false_and]
        obtain ⟨d, hd⟩ : ∃ d, j - k = d + 1 := ⟨j - k - 1, by omega⟩
        rw [hd, Nat.testBit_succ]
        cases f (64 * i + k) <;> simp

theorem word_lt (f : Nat → Bool) (i : Nat) : word f i < 2 ^ 64 := wordTo_lt f i 64
theorem word_le (f : Nat → Bool) (i : Nat) : word f i ≤ 18446744073709551615 := by have := word_lt f i; omega
theorem testBit_word (f : Nat → Bool) (i j : Nat) : (word f i).testBit j = (decide (j < 64) && f (64 * i + j)) := testBit_wordTo f i 64 j

theorem word_ext {f g : Nat → Bool} {i : Nat} (h : ∀ j, j < 64 → f (64 * i + j) = g (64 * i + j)) : word f i = word g i := by
  apply Nat.eq_of_testBit_eq
  intro j
  rw [testBit_word, testBit_word]
  by_cases hj : j < 64
  · simp [hj, h j hj]
  · simp [hj]
theorem eq_word {x : Nat} {f : Nat → Bool} {i : Nat} (hx : x < 2 ^ 64) (h : ∀ j, j < 64 → x.testBit j = f (64 * i + j)) : x = word f i := by
  apply Nat.eq_of_testBit_eq
  intro j
  rw [testBit_word]
  by_cases hj : j < 64
  · simp [hj, h j hj]
  · rw [Nat.testBit_lt_two_pow (Nat.lt_of_lt_of_le hx (Nat.pow_le_pow_right (by omega) (by omega)))]; simp [hj]

def ins (f : Nat → Bool) (n : Int) : Nat → Bool := fun k => f k || decide ((k : Int) = n)
def del (f : Nat → Bool) (n : Int) : Nat → Bool := fun k => f k && !decide ((k : Int) = n)
def orF (f g : Nat → Bool) : Nat → Bool := fun k => f k || g k
def minusF (f g : Nat → Bool) : Nat → Bool := fun k => f k && !g k
def belowF (n : Int) : Nat → Bool := fun k => decide ((k : Int) < n)
def noneF : Nat → Bool := fun _ => false

theorem word_or (f g : Nat → Bool) (i : Nat) : word f i ||| word g i = word (orF f g) i :=
  eq_word (Nat.or_lt_two_pow (word_lt f i) (word_lt g i)) fun j hj => by simp [testBit_word, hj, orF]
theorem word_ins (f : Nat → Bool) (k : Nat) : word f (k / 64) ||| 2 ^ (k % 64) = word (ins f k) (k / 64) :=
  eq_word (Nat.or_lt_two_pow (word_lt f _) (Nat.pow_lt_pow_right (by omega) (Nat.mod_lt _ (by omega)))) fun j hj => by
    have : (64 * (k / 64) + j = k) ↔ k % 64 = j := by omega
    simp only [Nat.testBit_or, testBit_word, hj, decide_true, Bool.true_and, ins, Nat.testBit_two_pow, Int.natCast_inj, this]
theorem word_ins_other (f : Nat → Bool) (k i : Nat) (h : i ≠ k / 64) : word (ins f k) i = word f i :=
  word_ext fun j hj => by
    have : ¬ 64 * i + j = k := by omega
    simp only [ins, Int.natCast_inj, this, decide_false, Bool.or_false]
theorem word_ins_far (f : Nat → Bool) (n : Int) (i : Nat) (hi : i < 16) (h : n < 0 ∨ 1024 ≤ n) : word (ins f n) i = word f i :=
  word_ext fun j hj => by
    have : ¬ ((64 * i + j : Nat) : Int) = n := by omega
    simp only [ins, this, decide_false, Bool.or_false]
theorem word_del_other (f : Nat → Bool) (k i : Nat) (h : i ≠ k / 64) : word (del f k) i = word f i :=
  word_ext fun j hj => by
    have : ¬ 64 * i + j = k := by omega
    simp only [del, Int.natCast_inj, this, decide_false, Bool.not_false, Bool.and_true]
theorem word_del_far (f : Nat → Bool) (n : Int) (i : Nat) (hi : i < 16) (h : n < 0 ∨ 1024 ≤ n) : word (del f n) i = word f i :=
  word_ext fun j hj => by
    have : ¬ ((64 * i + j : Nat) : Int) = n := by omega
    simp only [del, this, decide_false, Bool.not_false, Bool.and_true]
/-- and-not, on 64 bits. -/
theorem andNot_word (f : Nat → Bool) (x i : Nat) (hx : x < 2 ^ 64) : word f i &&& (2 ^ 64 - 1 - x) = word (fun k => f k && !(x.testBit (k - 64 * i))) i :=
  eq_word (Nat.lt_of_le_of_lt Nat.and_le_left (word_lt f i)) fun j hj => by
    rw [Nat.testBit_and, testBit_word, show 2 ^ 64 - 1 - x = 2 ^ 64 - (x + 1) by omega, Nat.testBit_two_pow_sub_succ hx]
    simp [hj, Nat.add_sub_cancel_left]
theorem word_minus (f g : Nat → Bool) (i : Nat) : word f i &&& (2 ^ 64 - 1 - word g i) = word (minusF f g) i := by
  rw [andNot_word f _ i (word_lt g i)]
  exact word_ext fun j hj => by simp [testBit_word, hj, minusF, Nat.add_sub_cancel_left]
theorem word_del (f : Nat → Bool) (k : Nat) : word f (k / 64) &&& (2 ^ 64 - 1 - 2 ^ (k % 64)) = word (del f k) (k / 64) := by
  rw [andNot_word f _ _ (Nat.pow_lt_pow_right (by omega) (Nat.mod_lt _ (by omega)))]
  refine word_ext fun j hj => ?_
  have : (64 * (k / 64) + j = k) ↔ k % 64 = j := by omega
  simp only [Nat.add_sub_cancel_left, Nat.testBit_two_pow, del, Int.natCast_inj, this]
theorem word_has (f : Nat → Bool) (k : Nat) : (word f (k / 64) &&& 2 ^ (k % 64)) = if f k then 2 ^ (k % 64) else 0 := by
  apply Nat.eq_of_testBit_eq
  intro j
  rw [Nat.testBit_and, testBit_word, Nat.testBit_two_pow]
  by_cases h : k % 64 = j
  · subst h
    have e : 64 * (k / 64) + k % 64 = k := by omega
    rw [e]
    have : k % 64 < 64 := by omega
    cases f k <;> simp [this]
  · have h2 : (if f k then 2 ^ (k % 64) else 0).testBit j = false := by
      cases f k <;> simp [h]
    rw [h2]; simp [h]
theorem word_below (n : Nat) (i : Nat) : word (belowF n) i = if 64 * i + 64 ≤ n then 2 ^ 64 - 1 else if n ≤ 64 * i then 0 else 2 ^ (n - 64 * i) - 1 := by
  symm
  refine eq_word ?_ fun j hj => ?_
  · split
    · omega
    · split
      · omega
      · have := Nat.pow_lt_pow_right (a := 2) (by omega) (show n - 64 * i < 64 by omega); omega
  · simp only [belowF]
    split
    · rw [show (2 : Nat) ^ 64 - 1 = 2 ^ 64 - (0 + 1) from rfl, Nat.testBit_two_pow_sub_succ (by omega)]
      simp [hj]; omega
    · split
      · simp; omega
      · rw [Nat.testBit_two_pow_sub_one]
        simp only [decide_eq_decide]; omega
end Go.Proofs.YtnhddnldebdmbaaDoor
/- Sets as values and as blocks of memory: the words that the walk goes by. -/
namespace Go.Proofs.YtnhddnldebdmbaaDoor
open Go.RowKit
set_option linter.unusedVariables false

/-- The cells of the set of f. -/
def cellsL (f : Nat → Bool) : List Value := (List.range 16).map fun i => .int .u64 (word f i : Int)
theorem cellsL_length (f : Nat → Bool) : (cellsL f).length = 16 := by simp [cellsL]
theorem cellsL_get (f : Nat → Bool) (i : Nat) (h : i < 16) : (cellsL f)[i]? = some (.int .u64 (word f i : Int)) := by
  simp [cellsL, h]
theorem cellsL_one (f : Nat → Bool) : ∀ v ∈ cellsL f, v.oneCell' = true := by
  intro v hv
  simp only [cellsL, List.mem_map] at hv
  obtain ⟨i, _, rfl⟩ := hv
  rfl
theorem cellsL_all (f : Nat → Bool) : (cellsL f).toArray.all (·.oneCell') = true := all_oneCell_toArray (cellsL_one f)
theorem cellsL_none : (cellsL noneF).toArray = #[.int .u64 0, .int .u64 0, .int .u64 0, .int .u64 0, .int .u64 0, .int .u64 0, .int .u64 0, .int .u64 0, .int .u64 0, .int .u64 0, .int .u64 0, .int .u64 0, .int .u64 0, .int .u64 0, .int .u64 0, .int .u64 0] := by
  have h : ∀ i, word noneF i = 0 := fun i => (eq_word (by omega) (by simp [noneF])).symm
  simp [cellsL, h, List.range_succ]
theorem cellsL_ext {f g : Nat → Bool} (h : ∀ i, i < 16 → word f i = word g i) : cellsL f = cellsL g := by
  simp only [cellsL]
  exact List.map_congr_left fun i hi => by rw [h i (by simpa using hi)]
theorem cellsL_set (f g : Nat → Bool) (i : Nat) (v : Nat) (hv : v = word g i) (h : ∀ j, j < 16 → j ≠ i → word f j = word g j) : (cellsL f).set i (.int .u64 v) = cellsL g := by
  apply List.ext_getElem?
  intro j
  by_cases hj : j < 16
  · rw [List.getElem?_set, cellsL_get g j hj, cellsL_get f j hj, cellsL_length]
    by_cases e : i = j
    · subst e; simp [hj, hv]
    · rw [if_neg e, h j hj (fun e' => e e'.symm)]
  · rw [List.getElem?_eq_none (by simp [cellsL_length]; omega), List.getElem?_eq_none (by simp [cellsL_length]; omega)]
theorem info26 (f : Nat → Bool) : (Tryd.prog.info? 75).map (·.size) = some (cellsL f).length := by rw [cellsL_length]; kernel_rfl
theorem info26' (f : Nat → Bool) : (Tryd.prog.info? 75).map (·.size) = some (cellsL f).toArray.size := by rw [List.size_toArray]; exact info26 f

/-- The set as a value. -/
abbrev setV (f : Nat → Bool) : Value := .agg (cellsL f).toArray

/-! ### Blocks of memory that hold a set -/
/-- Block b holds the set f, and may be written. -/
structure Box (w : World) (b : Nat) (f : Nat → Bool) : Prop where
  is : w.heap[b]? = some (.cells (cellsL f).toArray 75 (0, 0))

theorem Box.range {w : World} {b : Nat} {f : Nat → Bool} (h : Box w b f) : w.rangeAt b 0 (cellsL f) := fun j v hv => by
  rw [Nat.zero_add, cell_of_row w b j _ _ _ h.is]; simpa using hv
theorem Box.there {w : World} {b : Nat} {f : Nat → Bool} (h : Box w b f) (g : Nat → Bool) : w.there b 0 (cellsL g).toArray.size := fun j hj => by
  rw [Nat.zero_add, cell_of_row w b j _ _ _ h.is, frozen_of_row w b j _ _ h.is]
  simp [cellsL_length] at hj ⊢; omega
theorem Box.cell {w : World} {b : Nat} {f : Nat → Bool} (h : Box w b f) (i : Nat) (hi : i < 16) : w.cell? ⟨b, i, none⟩ = some (.int .u64 (word f i : Int)) := by
  rw [cell_of_row w b i _ _ _ h.is]; simpa using cellsL_get f i hi
theorem Box.frozen {w : World} {b : Nat} {f : Nat → Bool} (h : Box w b f) (i : Nat) : w.frozen? ⟨b, i, none⟩ = false := frozen_of_row w b i _ _ h.is
theorem Box.lt {w : World} {b : Nat} {f : Nat → Bool} (h : Box w b f) : b < w.heap.size := (Array.getElem?_eq_some_iff.1 h.is).1
theorem Box.new (w : World) (f : Nat → Bool) : Box (w.alloc (.cells (cellsL f).toArray 75)) w.heap.size f := ⟨heap_alloc_new w _⟩
theorem Box.below {w w' : World} {b B : Nat} {f : Nat → Bool} (h : Box w b f) (hb : Below B w w') (hB : b < B) : Box w' b f := ⟨(hb.block b hB).trans h.is⟩
theorem Box.alloc {w : World} {b : Nat} {f : Nat → Bool} (h : Box w b f) (o : Obj) : Box (w.alloc o) b f := ⟨(Below.heap_alloc w o b h.lt).trans h.is⟩
theorem Box.drew {w : World} {b : Nat} {f : Nat → Bool} (h : Box w b f) : Box w.drew b f := ⟨h.is⟩
theorem Box.setCell {w : World} {b : Nat} {f : Nat → Bool} (h : Box w b f) (a : Addr) (v : Value) (hb : b ≠ a.block) : Box (w.setCell a v) b f := ⟨(heap_setCell_other w a b v hb).trans h.is⟩
theorem Box.set {w : World} {b : Nat} {f g : Nat → Bool} (h : Box w b f) (i : Nat) (v : Nat) (hv : v = word g i) (hg : ∀ j, j < 16 → j ≠ i → word f j = word g j) : Box (w.setCell ⟨b, i, none⟩ (.int .u64 v)) b g := by
  refine ⟨?_⟩
  rw [heap_setCell_same w b i _ _ _ h.is]
  simp only [List.setIfInBounds_toArray]
  rw [cellsL_set f g i v hv hg]
theorem Box.stored {w : World} {b : Nat} {f : Nat → Bool} (h : Box w b f) (g : Nat → Bool) : w.setCells b 0 (cellsL g) = w.setRow b (cellsL g).toArray := by
  have h1 := run_storeVar_mid (P := Tryd.prog) w b 0 75 (cellsL g).toArray (h.there g) (info26' g) (cellsL_all g)
  have h2 := run_storeVar_row (P := Tryd.prog) w b 75 75 (cellsL f).toArray (cellsL g).toArray h.is (info26' g) (by simp [cellsL_length]) (cellsL_all g)
  rw [h1] at h2
  simpa using h2
theorem Box.setCells {w : World} {b : Nat} {f : Nat → Bool} (h : Box w b f) (g : Nat → Bool) : Box (w.setCells b 0 (cellsL g)) b g := by
  rw [h.stored g]; exact ⟨setRow_heap w b _ _ _ _ h.is⟩
theorem Box.setCells_other {w : World} {b b' : Nat} {f f' : Nat → Bool} (h : Box w b f) (h' : Box w b' f') (g : Nat → Bool) (hne : b ≠ b') : Box (w.setCells b' 0 (cellsL g)) b f := by
  rw [h'.stored g]; exact ⟨(setRow_other w b' b _ hne).trans h.is⟩
theorem below_setCells {B : Nat} {a w : World} {b : Nat} {f : Nat → Bool} (hb : Below B a w) (h : Box w b f) (g : Nat → Bool) (hB : B ≤ b) : Below B a (w.setCells b 0 (cellsL g)) := by
  rw [h.stored g]
  exact hb.trans ⟨rfl, rfl, rfl, by simp, fun k hk => setRow_other w b k _ (by omega)⟩
theorem Box.load {w : World} {b : Nat} {f : Nat → Bool} (h : Box w b f) : (loadVar 75 ⟨b, 0, none⟩).run Tryd.prog w = .ok (setV f) w :=
  run_loadVar_mid w b 0 75 (cellsL f) _ h.range Tryd.underlying75 rfl (info26 f)
/-- The result of a function that hands a set back out of a block. -/
theorem results_box {fn : Func} {p : Tmp} (h : fn.results = #[.cell p 75]) (tmps : Array Value) (w : World) (b : Nat) (f : Nat → Bool) (hp : tmps.getD p undef = .pointer (some ⟨b, 0, none⟩)) (hb : Box w b f) :
    (results fn tmps).run Tryd.prog w = .ok (setV f) w :=
  results_cell_row h tmps w b _ _ _ _ hp hb.is Tryd.underlying75 rfl (info26' f)
theorem drewN_below {B : Nat} {a w : World} (h : Below B a w) (n : Nat) : Below B a (w.drewN n) := h.trans ⟨rfl, rfl, rfl, Nat.le_refl _, fun _ _ => rfl⟩
end Go.Proofs.YtnhddnldebdmbaaDoor
/- math/bits.Div64: what its quotient is not above. -/
namespace Go.Proofs.YtnhddnldebdmbaaDoor
open Go.RowKit
set_option linter.unusedVariables false
set_option linter.unusedSimpArgs false
/-! ### One digit -/
/-- What the search for one digit of 32 bits keeps. -/
structure Dig (y a b c d q r : Nat) : Prop where
  sum : q * a + r = c
  low : c * 4294967296 + d < (q + 1) * y
  top : q ≤ 4294967297
/-- The numbers that are divided. -/
structure DigN (y a b c d : Nat) : Prop where
  ye : y = a * 4294967296 + b
  a0 : 2147483648 ≤ a
  a1 : a < 4294967296
  b1 : b < 4294967296
  c1 : c < y
  d1 : d < 4294967296
theorem dig_start {y a b c d : Nat} (h : DigN y a b c d) : Dig y a b c d (c / a) (c % a) ∧ c % a < 4294967296 := by
  have ha := h.a0; have ha1 := h.a1
  have hy := h.ye
  have hc := h.c1
  have hb := h.b1
  have hd := h.d1
  have e1 := Nat.div_add_mod c a
  have e2 := Nat.mod_lt c (show 0 < a by omega)
  have e3 : c / a ≤ 4294967297 := by
    rcases Nat.lt_or_ge 4294967297 (c / a) with h9 | h9
    · have := Nat.mul_le_mul_right a (show 4294967298 ≤ c / a from h9)
      rw [Nat.mul_comm (c / a)] at this
      omega
    · exact h9
  refine ⟨⟨by rw [Nat.mul_comm]; exact e1, ?_, e3⟩, by omega⟩
  have e4 : c + 1 ≤ (c / a + 1) * a := by rw [Nat.add_mul, Nat.one_mul, Nat.mul_comm]; omega
  have e5 := Nat.mul_le_mul_right 4294967296 e4
  have e6 : (c / a + 1) * y = (c / a + 1) * a * 4294967296 + (c / a + 1) * b := by rw [hy, Nat.mul_add, Nat.mul_assoc]
  omega
theorem dig_big {y a b c d q r : Nat} (h : DigN y a b c d) (g : Dig y a b c d q r) (hq : 4294967296 ≤ q ∨ 4294967296 * r + d < q * b) : 1 ≤ q ∧ c * 4294967296 + d < q * y := by
  have hy := h.ye
  have hc := h.c1
  have hd := h.d1
  rcases hq with hq | hq
  · have e := Nat.mul_le_mul_right y hq
    omega
  · have e1 : q * y = q * a * 4294967296 + q * b := by rw [hy, Nat.mul_add, Nat.mul_assoc]
    have e2 := g.sum
    rcases Nat.eq_zero_or_pos q with h0 | h0
    · subst h0; omega
    · omega
theorem dig_down {y a b c d q r : Nat} (h : DigN y a b c d) (g : Dig y a b c d q r) (hq : 4294967296 ≤ q ∨ 4294967296 * r + d < q * b) : Dig y a b c d (q - 1) (r + a) := by
  obtain ⟨h1, h2⟩ := dig_big h g hq
  obtain ⟨p, rfl⟩ : ∃ p, q = p + 1 := ⟨q - 1, by omega⟩
  have e := g.sum
  rw [Nat.add_mul, Nat.one_mul] at e
  exact ⟨by rw [Nat.add_sub_cancel]; omega, by rw [Nat.add_sub_cancel]; exact h2, by have := g.top; omega⟩
theorem dig_end {y a b c d q r : Nat} (h : DigN y a b c d) (g : Dig y a b c d q r) (hq : q * b ≤ 4294967296 * r + d) : q * y ≤ c * 4294967296 + d := by
  have e1 : q * y = q * a * 4294967296 + q * b := by rw [h.ye, Nat.mul_add, Nat.mul_assoc]
  have e2 := g.sum
  omega
theorem dig_far {y a b c d q r : Nat} (h : DigN y a b c d) (g : Dig y a b c d q r) (h0 : q ≤ 4294967296) (hr : 4294967296 ≤ r) : q * y ≤ c * 4294967296 + d := by
  refine dig_end h g ?_
  have hb := h.b1
  have e := Nat.mul_le_mul h0 (show b ≤ 4294967295 by omega)
  omega
theorem dig_qb {y a b c d q : Nat} (h : DigN y a b c d) (hq : q < 4294967296) : q * b < 18446744073709551616 := by
  have hb := h.b1
  have e := Nat.mul_le_mul (show q ≤ 4294967295 by omega) (show b ≤ 4294967295 by omega)
  omega
/-! ### How many bits -/
theorem bitLen_bds : ∀ (f x : Nat), x ≠ 0 → x < 2 ^ f → f ≤ 64 → 1 ≤ Lib.bitLen x ∧ Lib.bitLen x ≤ f ∧ x < 2 ^ Lib.bitLen x ∧ 2 ^ (Lib.bitLen x - 1) ≤ x
  | 0, x, h0, h, _ => by rw [Nat.pow_zero] at h; omega
  | f + 1, x, h0, h, hf => by
    have hx : x < 2 ^ 64 := Nat.lt_of_lt_of_le h (Nat.pow_le_pow_right (by omega) hf)
    have e := Lib.bitLen_half x h0 hx
    rw [Nat.pow_succ] at h
    by_cases h2 : x / 2 = 0
    · have : x = 1 := by omega
      subst this
      have e1 : Lib.bitLen 1 = 1 := by decide
      rw [e1]
      exact ⟨by omega, by omega, by decide, by decide⟩
    · obtain ⟨a1, a2, a3, a4⟩ := bitLen_bds f (x / 2) h2 (by omega) (by omega)
      obtain ⟨n, hn⟩ : ∃ n, Lib.bitLen (x / 2) = n + 1 := ⟨Lib.bitLen (x / 2) - 1, by omega⟩
      rw [hn, Nat.pow_succ] at a3
      rw [hn, Nat.add_sub_cancel] at a4
      rw [e, hn]
      refine ⟨by omega, by omega, ?_, ?_⟩
      · rw [show 1 + (n + 1) = n + 1 + 1 by omega, Nat.pow_succ, Nat.pow_succ]; omega
      · rw [show 1 + (n + 1) - 1 = n + 1 by omega, Nat.pow_succ]; omega
/-- The shift that makes a number great. -/
theorem lead (y : Nat) (h0 : y ≠ 0) (h1 : y < 18446744073709551616) : Lib.bitLen y ≤ 64 ∧ 9223372036854775808 ≤ y * 2 ^ (64 - Lib.bitLen y) ∧ y * 2 ^ (64 - Lib.bitLen y) < 18446744073709551616 := by
  obtain ⟨a1, a2, a3, a4⟩ := bitLen_bds 64 y h0 h1 (Nat.le_refl _)
  refine ⟨a2, ?_, ?_⟩
  · have := Nat.mul_le_mul_right (2 ^ (64 - Lib.bitLen y)) a4
    rw [← Nat.pow_add, show Lib.bitLen y - 1 + (64 - Lib.bitLen y) = 63 by omega] at this
    exact this
  · have := Nat.mul_lt_mul_of_pos_right a3 (Nat.two_pow_pos (64 - Lib.bitLen y))
    rw [← Nat.pow_add, show Lib.bitLen y + (64 - Lib.bitLen y) = 64 by omega] at this
    exact this
end Go.Proofs.YtnhddnldebdmbaaDoor
/- math/bits.Div64: the walk. -/
namespace Go.Proofs.YtnhddnldebdmbaaDoor
open Go.RowKit
set_option linter.unusedVariables false
set_option linter.unusedSimpArgs false
theorem u64_of {z : Int} {n : Nat} (h : z % 18446744073709551616 = (n : Int)) : IntKind.u64.wrap z = (n : Int) := by rw [IntKind.wrap_u64]; exact h
theorem u64_in {z : Int} {n : Nat} (h : z = (n : Int)) (hn : n < 18446744073709551616) : IntKind.u64.wrap z = (n : Int) := by rw [IntKind.wrap_u64]; omega
/-- What holds behind the search for a digit. -/
def DigE (y c d q : Nat) : Prop := q * y ≤ c * 4294967296 + d ∧ c * 4294967296 + d < (q + 1) * y ∧ q ≤ 4294967297
/-- The rest behind a digit. -/
theorem dig_next {y c d q : Nat} (h : DigE y c d q) (hc : c < 18446744073709551616) (hd : d < 4294967296) (hy : y < 18446744073709551616) : ∃ z1 z2 z3 c2 : Nat,
    IntKind.u64.wrap ((c : Int) * 4294967296) = (z1 : Int) ∧ IntKind.u64.wrap ((z1 : Int) + (d : Int)) = (z2 : Int) ∧ IntKind.u64.wrap ((q : Int) * (y : Int)) = (z3 : Int) ∧ IntKind.u64.wrap ((z2 : Int) - (z3 : Int)) = (c2 : Int) ∧ c2 + q * y = c * 4294967296 + d ∧ c2 < y := by
  obtain ⟨h1, h2, h3⟩ := h
  rw [Nat.add_mul, Nat.one_mul] at h2
  have e : (q : Int) * (y : Int) = ((q * y : Nat) : Int) := (Int.natCast_mul q y).symm
  generalize q * y = m at *
  refine ⟨c * 4294967296 % 18446744073709551616, (c * 4294967296 + d) % 18446744073709551616, m % 18446744073709551616, c * 4294967296 + d - m, u64_of (by omega), u64_of (by omega), ?_, u64_of (by omega), by omega, by omega⟩
  rw [e]
  exact u64_of (by omega)
theorem u64_mod (z : Int) : ∃ n : Nat, IntKind.u64.wrap z = (n : Int) ∧ (n : Int) = z % 18446744073709551616 ∧ n < 18446744073709551616 := by
  refine ⟨(z % 18446744073709551616).toNat, ?_, ?_, ?_⟩
  · rw [IntKind.wrap_u64]; omega
  · omega
  · omega
set_option maxRecDepth 100000 in
set_option maxHeartbeats 4000000 in
theorem div_walk (hi lo y s y2 a b h2 s64 l2 c x1 d1 d0 : Nat) (w : World) (hH : DigN y2 a b c d1) (hd0 : d0 < 4294967296) (hlo : lo < 18446744073709551616) (hy2 : y2 < 18446744073709551616)
    (t0 : ((y : Int) == 0) = false) (t1 : decide (y ≤ hi) = false) (t2 : ((hi : Int) == 0) = false) (ta : ¬ a = 0)
    (w1 : IntKind.u64.wrap (s : Int) = (s : Int))
    (o1 : Op.shift .shl .u64 (y : Int) .u64 (s : Int) = pure (.int .u64 (y2 : Int)))
    (o2 : Op.shift .shr .u64 (y2 : Int) .u64 32 = pure (.int .u64 (a : Int)))
    (o3 : bits .and .u64 (y2 : Int) 4294967295 = (b : Int))
    (o4 : Op.shift .shl .u64 (hi : Int) .u64 (s : Int) = pure (.int .u64 (h2 : Int)))
    (o5 : IntKind.u64.wrap (64 - (s : Int)) = (s64 : Int))
    (o6 : Op.shift .shr .u64 (lo : Int) .u64 (s64 : Int) = pure (.int .u64 (l2 : Int)))
    (o7 : bits .or .u64 (h2 : Int) (l2 : Int) = (c : Int))
    (o8 : Op.shift .shl .u64 (lo : Int) .u64 (s : Int) = pure (.int .u64 (x1 : Int)))
    (o9 : Op.shift .shr .u64 (x1 : Int) .u64 32 = pure (.int .u64 (d1 : Int)))
    (o10 : bits .and .u64 (x1 : Int) 4294967295 = (d0 : Int))
    (o11 : ∀ x : Int, ∃ z : Int, Op.shift .shr .u64 x .u64 (s : Int) = pure (.int .u64 z))
    (K : Calls Tryd.prog 80 #[.int .u64 (y : Int)] w fun e w' => e = .returned (.int .i64 (s : Int)) ∧ w' = w) :
    Calls Tryd.prog 75 #[.int .u64 (hi : Int), .int .u64 (lo : Int), .int .u64 (y : Int)] w fun e w' => (∃ q r : Int, e = .returned (.tuple #[.int .u64 q, .int .u64 r]) ∧ Hid (∃ q1 q0 c2 : Nat, DigE y2 c d1 q1 ∧ c2 + q1 * y2 = c * 4294967296 + d1 ∧ DigE y2 c2 d0 q0 ∧ q = ((q1 * 4294967296 + q0 : Nat) : Int) % 18446744073709551616)) ∧ w' = w := by
  have O11 := Lib.hid o11
  clear o11
  have HH := Lib.hid hH
  have hc1 := Nat.lt_trans hH.c1 hy2
  have ha1 := hH.a1
  have hb1 := hH.b1
  have hdd := hH.d1
  clear hH
  go_enter Tryd.func75, Tryd.ntmps75
  have cH := HH.out
  obtain ⟨HDqa, hrqa⟩ := dig_start cH
  have hmqa := Nat.div_add_mod c a
  obtain ⟨qa, hqa⟩ : ∃ q, c / a = q := ⟨_, rfl⟩
  obtain ⟨ra, hra⟩ : ∃ r, c % a = r := ⟨_, rfl⟩
  rw [hqa, hra] at HDqa hmqa
  rw [hra] at hrqa
  obtain ⟨mqa, hmmqa⟩ : ∃ m, qa * a = m := ⟨_, rfl⟩
  have f1qa : IntKind.u64.wrap ((c : Int) / (a : Int)) = (qa : Int) := u64_in (by rw [← hqa]; exact (Int.natCast_ediv _ _).symm) (by have := HDqa.top; omega)
  have f2qa : IntKind.u64.wrap ((qa : Int) * (a : Int)) = (mqa : Int) := u64_in (by rw [← hmmqa]; exact (Int.natCast_mul _ _).symm) (by rw [Nat.mul_comm] at hmqa; omega)
  have f3qa : IntKind.u64.wrap ((c : Int) - (mqa : Int)) = (ra : Int) := u64_in (by rw [Nat.mul_comm] at hmqa; omega) (by omega)
  have HDqa := Lib.hid (And.intro HDqa hrqa)
  clear hqa hra hmqa hmmqa hrqa
  clear cH
  go_upto_block 0 with (first
    | (go_at_call 80; (with_reducible refine K.mono ?_); rintro e w1 ⟨rfl, rfl⟩)
    | fail)
  clear f1qa f2qa f3qa
  go_cut [15, 16] from 67 to 85 (fun s15 s16 wx => ∃ q : Nat, s15 = .int .u64 (q : Int) ∧ Hid (DigE y2 c d1 q) ∧ wx = w1)
  case first =>
    go_wp2_with fail
    go_loopw [15, 16] (fun s15 s16 wr => ∃ q r : Nat, s15 = .int .u64 (q : Int) ∧ s16 = .int .u64 (r : Int) ∧ Hid (Dig y2 a b c d1 q r ∧ r < 4294967296) ∧ wr = w1) (fun s15 _ _ => (intOf s15).toNat)
    case atStart => exact ⟨qa, ra, rfl, rfl, HDqa, rfl⟩
    case round =>
      obtain ⟨q, r, rfl, rfl, HD, rfl⟩ := hrel
      have hq9 := HD.out.1.top
      have hr9 := HD.out.2
      obtain ⟨r2, hr2⟩ : ∃ r2, r + a = r2 := ⟨_, rfl⟩
      have g1 : IntKind.u64.wrap ((r : Int) + (a : Int)) = (r2 : Int) := u64_in (by omega) (by omega)
      have HR2 := Lib.hid hr2
      clear hr2
      by_cases h1 : 4294967296 ≤ q
      · have HDN := Lib.hid (dig_down HH.out HD.out.1 (.inl h1))
        rw [HR2.out] at HDN
        obtain ⟨p, hp⟩ : ∃ p, q - 1 = p := ⟨_, rfl⟩
        rw [hp] at HDN
        have g2 : IntKind.u64.wrap ((q : Int) - 1) = (p : Int) := u64_in (by omega) (by omega)
        have k1 : decide ((q : Int) ≥ 4294967296) = true := decide_eq_true (by omega)
        have k1' : decide (4294967296 ≤ (q : Int)) = true := decide_eq_true (by omega)
        have hpq : p < q := by omega
        have hp4 : p ≤ 4294967296 := by omega
        clear hp h1
        by_cases h3 : 4294967296 ≤ r2
        · have k3 : decide ((r2 : Int) ≥ 4294967296) = true := decide_eq_true (by omega)
          have k3' : decide (4294967296 ≤ (r2 : Int)) = true := decide_eq_true (by omega)
          have HE := Lib.hid (show DigE y2 c d1 p from ⟨dig_far HH.out HDN.out hp4 h3, HDN.out.low, by omega⟩)
          clear h3
          go_wp2_with fail
          go_meet
          exact ⟨p, rfl, HE, rfl⟩
        · have k3 : decide ((r2 : Int) ≥ 4294967296) = false := decide_eq_false (by omega)
          have k3' : decide (4294967296 ≤ (r2 : Int)) = false := decide_eq_false (by omega)
          have H3 := Lib.hid h3
          clear h3
          go_wp2_with fail
          go_roundw
          case rel => exact ⟨p, r2, rfl, rfl, Lib.hid ⟨HDN.out, by have := H3.out; omega⟩, by first | rfl | trivial⟩
          case measure => simp [intOf]; omega
      · have k1 : decide ((q : Int) ≥ 4294967296) = false := decide_eq_false (by omega)
        have k1' : decide (4294967296 ≤ (q : Int)) = false := decide_eq_false (by omega)
        have hqb := dig_qb HH.out (q := q) (by omega)
        obtain ⟨m, hm⟩ : ∃ m, q * b = m := ⟨_, rfl⟩
        obtain ⟨n, hn⟩ : ∃ n, 4294967296 * r = n := ⟨_, rfl⟩
        obtain ⟨n2, hn2⟩ : ∃ n2, n + d1 = n2 := ⟨_, rfl⟩
        have g3 : IntKind.u64.wrap ((q : Int) * (b : Int)) = (m : Int) := u64_in (by rw [← hm]; exact (Int.natCast_mul _ _).symm) (by omega)
        have g4 : IntKind.u64.wrap (4294967296 * (r : Int)) = (n : Int) := u64_in (by omega) (by omega)
        have g5 : IntKind.u64.wrap ((n : Int) + (d1 : Int)) = (n2 : Int) := u64_in (by omega) (by omega)
        by_cases h2 : n2 < m
        · have HDN := Lib.hid (dig_down HH.out HD.out.1 (.inr (by omega)))
          rw [HR2.out] at HDN
          have q1 := (dig_big HH.out HD.out.1 (.inr (by omega))).1
          obtain ⟨p, hp⟩ : ∃ p, q - 1 = p := ⟨_, rfl⟩
          rw [hp] at HDN
          have g2 : IntKind.u64.wrap ((q : Int) - 1) = (p : Int) := u64_in (by omega) (by omega)
          have k2 : decide ((m : Int) > (n2 : Int)) = true := decide_eq_true (by omega)
          have k2' : decide (n2 < m) = true := decide_eq_true h2
          have hpq : p < q := by omega
          have hp4 : p ≤ 4294967296 := by omega
          clear hp h1 h2 hm hn hn2 hqb
          by_cases h3 : 4294967296 ≤ r2
          · have k3 : decide ((r2 : Int) ≥ 4294967296) = true := decide_eq_true (by omega)
            have k3' : decide (4294967296 ≤ (r2 : Int)) = true := decide_eq_true (by omega)
            have HE := Lib.hid (show DigE y2 c d1 p from ⟨dig_far HH.out HDN.out hp4 h3, HDN.out.low, by omega⟩)
            clear h3
            go_wp2_with fail
            go_meet
            exact ⟨p, rfl, HE, rfl⟩
          · have k3 : decide ((r2 : Int) ≥ 4294967296) = false := decide_eq_false (by omega)
            have k3' : decide (4294967296 ≤ (r2 : Int)) = false := decide_eq_false (by omega)
            have H3 := Lib.hid h3
            clear h3
            go_wp2_with fail
            go_roundw
            case rel => exact ⟨p, r2, rfl, rfl, Lib.hid ⟨HDN.out, by have := H3.out; omega⟩, by first | rfl | trivial⟩
            case measure => simp [intOf]; omega
        · have k2 : decide ((m : Int) > (n2 : Int)) = false := decide_eq_false (by omega)
          have k2' : decide (n2 < m) = false := decide_eq_false h2
          have HE := Lib.hid (show DigE y2 c d1 q from ⟨dig_end HH.out HD.out.1 (by omega), HD.out.1.low, hq9⟩)
          clear h1 h2 hm hn hn2 hqb
          go_wp2_with fail
          go_meet
          exact ⟨q, rfl, HE, rfl⟩
  clear HDqa
  obtain ⟨q1, rfl, HE1, rfl⟩ := hcut
  obtain ⟨z1, z2, z3, c2, n1, n2, n3, n4, n5, n6⟩ := dig_next HE1.out hc1 hdd hy2
  have HH1 := HH
  have HH : Hid (DigN y2 a b c2 d0) := Lib.hid ⟨HH1.out.ye, HH1.out.a0, HH1.out.a1, HH1.out.b1, n6, hd0⟩
  have hc2 : c2 < 18446744073709551616 := by omega
  have N5 := Lib.hid n5
  clear n5 n6
  have c2H := HH.out
  obtain ⟨HDqb, hrqb⟩ := dig_start c2H
  have hmqb := Nat.div_add_mod c2 a
  obtain ⟨qb, hqb⟩ : ∃ q, c2 / a = q := ⟨_, rfl⟩
  obtain ⟨rb, hrb⟩ : ∃ r, c2 % a = r := ⟨_, rfl⟩
  rw [hqb, hrb] at HDqb hmqb
  rw [hrb] at hrqb
  obtain ⟨mqb, hmmqb⟩ : ∃ m, qb * a = m := ⟨_, rfl⟩
  have f1qb : IntKind.u64.wrap ((c2 : Int) / (a : Int)) = (qb : Int) := u64_in (by rw [← hqb]; exact (Int.natCast_ediv _ _).symm) (by have := HDqb.top; omega)
  have f2qb : IntKind.u64.wrap ((qb : Int) * (a : Int)) = (mqb : Int) := u64_in (by rw [← hmmqb]; exact (Int.natCast_mul _ _).symm) (by rw [Nat.mul_comm] at hmqb; omega)
  have f3qb : IntKind.u64.wrap ((c2 : Int) - (mqb : Int)) = (rb : Int) := u64_in (by rw [Nat.mul_comm] at hmqb; omega) (by omega)
  have HDqb := Lib.hid (And.intro HDqb hrqb)
  clear hqb hrb hmqb hmmqb hrqb
  clear c2H
  go_upto_block 2 with (first
    | (go_at_call 80; (with_reducible refine K.mono ?_); rintro e w1 ⟨rfl, rfl⟩)
    | fail)
  clear f1qb f2qb f3qb
  go_cut [16, 18] from 102 to 120 (fun s16 s18 wx => ∃ q : Nat, s18 = .int .u64 (q : Int) ∧ Hid (DigE y2 c2 d0 q) ∧ wx = wc)
  case first =>
    go_wp2_with fail
    go_loopw [16, 18] (fun s16 s18 wr => ∃ q r : Nat, s18 = .int .u64 (q : Int) ∧ s16 = .int .u64 (r : Int) ∧ Hid (Dig y2 a b c2 d0 q r ∧ r < 4294967296) ∧ wr = wc) (fun _ s18 _ => (intOf s18).toNat)
    case atStart => exact ⟨qb, rb, rfl, rfl, HDqb, rfl⟩
    case round =>
      obtain ⟨q, r, rfl, rfl, HD, rfl⟩ := hrel
      have hq9 := HD.out.1.top
      have hr9 := HD.out.2
      obtain ⟨r2, hr2⟩ : ∃ r2, r + a = r2 := ⟨_, rfl⟩
      have g1 : IntKind.u64.wrap ((r : Int) + (a : Int)) = (r2 : Int) := u64_in (by omega) (by omega)
      have HR2 := Lib.hid hr2
      clear hr2
      by_cases h1 : 4294967296 ≤ q
      · have HDN := Lib.hid (dig_down HH.out HD.out.1 (.inl h1))
        rw [HR2.out] at HDN
        obtain ⟨p, hp⟩ : ∃ p, q - 1 = p := ⟨_, rfl⟩
        rw [hp] at HDN
        have g2 : IntKind.u64.wrap ((q : Int) - 1) = (p : Int) := u64_in (by omega) (by omega)
        have k1 : decide ((q : Int) ≥ 4294967296) = true := decide_eq_true (by omega)
        have k1' : decide (4294967296 ≤ (q : Int)) = true := decide_eq_true (by omega)
        have hpq : p < q := by omega
        have hp4 : p ≤ 4294967296 := by omega
        clear hp h1
        by_cases h3 : 4294967296 ≤ r2
        · have k3 : decide ((r2 : Int) ≥ 4294967296) = true := decide_eq_true (by omega)
          have k3' : decide (4294967296 ≤ (r2 : Int)) = true := decide_eq_true (by omega)
          have HE := Lib.hid (show DigE y2 c2 d0 p from ⟨dig_far HH.out HDN.out hp4 h3, HDN.out.low, by omega⟩)
          clear h3
          go_wp2_with fail
          go_meet
          exact ⟨p, rfl, HE, rfl⟩
        · have k3 : decide ((r2 : Int) ≥ 4294967296) = false := decide_eq_false (by omega)
          have k3' : decide (4294967296 ≤ (r2 : Int)) = false := decide_eq_false (by omega)
          have H3 := Lib.hid h3
          clear h3
          go_wp2_with fail
          go_roundw
          case rel => exact ⟨p, r2, rfl, rfl, Lib.hid ⟨HDN.out, by have := H3.out; omega⟩, by first | rfl | trivial⟩
          case measure => simp [intOf]; omega
      · have k1 : decide ((q : Int) ≥ 4294967296) = false := decide_eq_false (by omega)
        have k1' : decide (4294967296 ≤ (q : Int)) = false := decide_eq_false (by omega)
        have hqb := dig_qb HH.out (q := q) (by omega)
        obtain ⟨m, hm⟩ : ∃ m, q * b = m := ⟨_, rfl⟩
        obtain ⟨n, hn⟩ : ∃ n, 4294967296 * r = n := ⟨_, rfl⟩
        obtain ⟨n2, hn2⟩ : ∃ n2, n + d0 = n2 := ⟨_, rfl⟩
        have g3 : IntKind.u64.wrap ((q : Int) * (b : Int)) = (m : Int) := u64_in (by rw [← hm]; exact (Int.natCast_mul _ _).symm) (by omega)
        have g4 : IntKind.u64.wrap (4294967296 * (r : Int)) = (n : Int) := u64_in (by omega) (by omega)
        have g5 : IntKind.u64.wrap ((n : Int) + (d0 : Int)) = (n2 : Int) := u64_in (by omega) (by omega)
        by_cases h2 : n2 < m
        · have HDN := Lib.hid (dig_down HH.out HD.out.1 (.inr (by omega)))
          rw [HR2.out] at HDN
          have q1 := (dig_big HH.out HD.out.1 (.inr (by omega))).1
          obtain ⟨p, hp⟩ : ∃ p, q - 1 = p := ⟨_, rfl⟩
          rw [hp] at HDN
          have g2 : IntKind.u64.wrap ((q : Int) - 1) = (p : Int) := u64_in (by omega) (by omega)
          have k2 : decide ((m : Int) > (n2 : Int)) = true := decide_eq_true (by omega)
          have k2' : decide (n2 < m) = true := decide_eq_true h2
          have hpq : p < q := by omega
          have hp4 : p ≤ 4294967296 := by omega
          clear hp h1 h2 hm hn hn2 hqb
          by_cases h3 : 4294967296 ≤ r2
          · have k3 : decide ((r2 : Int) ≥ 4294967296) = true := decide_eq_true (by omega)
            have k3' : decide (4294967296 ≤ (r2 : Int)) = true := decide_eq_true (by omega)
            have HE := Lib.hid (show DigE y2 c2 d0 p from ⟨dig_far HH.out HDN.out hp4 h3, HDN.out.low, by omega⟩)
            clear h3
            go_wp2_with fail
            go_meet
            exact ⟨p, rfl, HE, rfl⟩
          · have k3 : decide ((r2 : Int) ≥ 4294967296) = false := decide_eq_false (by omega)
            have k3' : decide (4294967296 ≤ (r2 : Int)) = false := decide_eq_false (by omega)
            have H3 := Lib.hid h3
            clear h3
            go_wp2_with fail
            go_roundw
            case rel => exact ⟨p, r2, rfl, rfl, Lib.hid ⟨HDN.out, by have := H3.out; omega⟩, by first | rfl | trivial⟩
            case measure => simp [intOf]; omega
        · have k2 : decide ((m : Int) > (n2 : Int)) = false := decide_eq_false (by omega)
          have k2' : decide (n2 < m) = false := decide_eq_false h2
          have HE := Lib.hid (show DigE y2 c2 d0 q from ⟨dig_end HH.out HD.out.1 (by omega), HD.out.1.low, hq9⟩)
          clear h1 h2 hm hn hn2 hqb
          go_wp2_with fail
          go_meet
          exact ⟨q, rfl, HE, rfl⟩
  clear HDqb
  obtain ⟨q0, rfl, HE0, rfl⟩ := hcut
  obtain ⟨v1, v1e, v1z, v1n⟩ := u64_mod ((q1 : Int) * 4294967296)
  obtain ⟨v2, v2e, v2z, v2n⟩ := u64_mod ((v1 : Int) + (q0 : Int))
  obtain ⟨v3, v3e, v3z, v3n⟩ := u64_mod ((c2 : Int) * 4294967296)
  obtain ⟨v4, v4e, v4z, v4n⟩ := u64_mod ((v3 : Int) + (d0 : Int))
  obtain ⟨v5, v5e, v5z, v5n⟩ := u64_mod ((q0 : Int) * (y2 : Int))
  obtain ⟨v6, v6e, v6z, v6n⟩ := u64_mod ((v4 : Int) - (v5 : Int))
  obtain ⟨v7, v7e⟩ := O11.out (v6 : Int)
  have FIN := Lib.hid (show (v2 : Int) = ((q1 * 4294967296 + q0 : Nat) : Int) % 18446744073709551616 by omega)
  clear v1z v2z v3z v4z v5z v6z
  go_wp2_with fail
  go_ret2
  exact ⟨⟨_, _, rfl, Lib.hid ⟨q1, q0, c2, HE1.out, N5.out, HE0.out, FIN.out⟩⟩, rfl⟩
end Go.Proofs.YtnhddnldebdmbaaDoor
/- Bytes, tokens, and what is left out: plain words, of no program. -/
namespace Go.Proofs.YtnhddnldebdmbaaDoor
set_option linter.unusedVariables false

/-- By which a word may begin. -/
def ltr (c : UInt8) : Bool := decide ((97 ≤ c.toNat ∧ c.toNat ≤ 122) ∨ (65 ≤ c.toNat ∧ c.toNat ≤ 90) ∨ c.toNat = 95)
def dgt (c : UInt8) : Bool := decide (48 ≤ c.toNat ∧ c.toNat ≤ 57)
/-- Which token begins with it; 0: none. -/
def kind (c : UInt8) : Nat := if ltr c then 1 else if dgt c then 2 else if c.toNat = 61 then 3 else if c.toNat = 10 then 4 else 0
/-- Does one of that kind go on with it? -/
def goes (k : Nat) (c : UInt8) : Bool := (dgt c && (decide (k = 1) || decide (k = 2))) || (decide (k = 1) && (ltr c || decide (c.toNat = 46) || decide (c.toNat = 45)))
def blank (c : UInt8) : Bool := decide (c.toNat = 32) || decide (c.toNat = 9)

theorem kind_le (c : UInt8) : kind c ≤ 4 := by unfold kind; repeat (first | omega | split)
theorem goes_3 (c : UInt8) : goes 3 c = false := by simp [goes]
theorem goes_4 (c : UInt8) : goes 4 c = false := by simp [goes]
theorem goes_0 (c : UInt8) : goes 0 c = false := by simp [goes]
theorem kind_blank {c : UInt8} (h : blank c = true) : kind c = 0 := by
  simp [blank] at h
  have a : ltr c = false := by simp [ltr]; omega
  have b : dgt c = false := by simp [dgt]; omega
  unfold kind
  rw [a, b, if_neg (by simp), if_neg (by simp), if_neg (by omega), if_neg (by omega)]
theorem kind_hash {c : UInt8} (h : c.toNat = 35) : kind c = 0 := by
  have a : ltr c = false := by simp [ltr]; omega
  have b : dgt c = false := by simp [dgt]; omega
  unfold kind
  rw [a, b, if_neg (by simp), if_neg (by simp), if_neg (by omega), if_neg (by omega)]
theorem blank_hash {c : UInt8} (h : c.toNat = 35) : blank c = false := by simp [blank]; omega

/-- How many bytes stand up to the next line feed, or the end. -/
def noteLen : List UInt8 → Nat
  | [] => 0
  | c :: r => if c.toNat = 10 then 0 else noteLen r + 1
/-- How many bytes go on. -/
def runLen (k : Nat) : List UInt8 → Nat
  | [] => 0
  | c :: r => if goes k c then runLen k r + 1 else 0
/-- How many bytes are left out. -/
def skip : List UInt8 → Nat
  | [] => 0
  | c :: r => if blank c then skip r + 1 else if c.toNat = 35 then noteLen r + 1 else 0
theorem noteLen_le : ∀ l : List UInt8, noteLen l ≤ l.length
  | [] => Nat.le_refl _
  | c :: r => by have := noteLen_le r; unfold noteLen; split <;> simp <;> omega
theorem runLen_le (k : Nat) : ∀ l : List UInt8, runLen k l ≤ l.length
  | [] => Nat.le_refl _
  | c :: r => by have := runLen_le k r; unfold runLen; split <;> simp <;> omega
theorem skip_le : ∀ l : List UInt8, skip l ≤ l.length
  | [] => Nat.le_refl _
  | c :: r => by
    have := skip_le r
    have := noteLen_le r
    unfold skip
    split
    · simp; omega
    · split <;> simp <;> omega

/-- Digits as a number, or 2^40. -/
def numOf (l : List UInt8) : Nat := l.foldl (fun n c => min (n * 10 + (c.toNat - 48)) 1099511627776) 0
theorem numOf_snoc (l : List UInt8) (c : UInt8) : numOf (l ++ [c]) = min (numOf l * 10 + (c.toNat - 48)) 1099511627776 := by simp [numOf]
theorem numOf_le (l : List UInt8) : numOf l ≤ 1099511627776 := by
  rcases List.eq_nil_or_concat l with rfl | ⟨r, c, rfl⟩
  · simp [numOf]
  · rw [List.concat_eq_append, numOf_snoc]; omega

/-- A token. -/
structure Tk where
  k : Nat
  at' : Nat
  t : List UInt8
  n : Nat
/-- The token of kind k (not 0) that begins with c, ahead of r. -/
def tkOf (at' : Nat) (c : UInt8) (r : List UInt8) : Tk :=
  ⟨kind c, at', c :: r.take (runLen (kind c) r), if kind c = 2 then numOf (c :: r.take (runLen (kind c) r)) else 0⟩
theorem take_goes (k : Nat) : ∀ l : List UInt8, ∀ d ∈ l.take (runLen k l), goes k d = true
  | [], d, h => by simp at h
  | c :: r, d, h => by
    unfold runLen at h
    by_cases hg : goes k c = true
    · rw [if_pos hg, List.take_succ_cons, List.mem_cons] at h
      rcases h with rfl | h
      · exact hg
      · exact take_goes k r d h
    · rw [if_neg hg] at h; simp at h
theorem goes_2 (c : UInt8) : goes 2 c = dgt c := by simp [goes]
theorem kind_2 {c : UInt8} (h : kind c = 2) : dgt c = true := by
  unfold kind at h
  by_cases h1 : ltr c = true
  · rw [if_pos h1] at h; omega
  · rw [if_neg h1] at h
    by_cases h2 : dgt c = true
    · exact h2
    · rw [if_neg h2] at h
      split at h
      · omega
      · split at h <;> omega
theorem tkOf_digits {i : Nat} {c : UInt8} {r : List UInt8} (h : kind c = 2) : ∀ d ∈ (tkOf i c r).t, dgt d = true := by
  intro d hd
  simp only [tkOf, List.mem_cons] at hd
  rcases hd with rfl | hd
  · exact kind_2 h
  · rw [← goes_2]; rw [h] at hd; exact take_goes 2 r d hd
/-- The pieces of a text from a place on; where none begins one of kind 0, and nothing behind it. -/
def pcs (at' : Nat) : List UInt8 → List Tk
  | [] => []
  | c :: r =>
    if blank c then pcs (at' + 1) r
    else if c.toNat = 35 then pcs (at' + 1 + noteLen r) (r.drop (noteLen r))
    else if kind c = 0 then [⟨0, at', [], 0⟩]
    else tkOf at' c r :: pcs (at' + 1 + runLen (kind c) r) (r.drop (runLen (kind c) r))
termination_by l => l.length
decreasing_by all_goals (simp only [List.length_cons, List.length_drop]; omega)

theorem pcs_nil (a : Nat) : pcs a [] = [] := by rw [pcs]
theorem pcs_blank {a : Nat} {c : UInt8} {r : List UInt8} (h : blank c = true) : pcs a (c :: r) = pcs (a + 1) r := by rw [pcs, if_pos h]
theorem pcs_hash {a : Nat} {c : UInt8} {r : List UInt8} (h : c.toNat = 35) : pcs a (c :: r) = pcs (a + 1 + noteLen r) (r.drop (noteLen r)) := by
  rw [pcs, if_neg (by rw [blank_hash h]; simp), if_pos h]
theorem pcs_none {a : Nat} {c : UInt8} {r : List UInt8} (h1 : blank c = false) (h2 : c.toNat ≠ 35) (h3 : kind c = 0) : pcs a (c :: r) = [⟨0, a, [], 0⟩] := by
  rw [pcs, if_neg (by rw [h1]; simp), if_neg h2, if_pos h3]
theorem kind_pos {c : UInt8} (h : kind c ≠ 0) : blank c = false ∧ c.toNat ≠ 35 :=
  ⟨by cases hb : blank c with
    | false => rfl
    | true => exact absurd (kind_blank hb) h,
   fun e => h (kind_hash e)⟩
theorem pcs_tok {a : Nat} {c : UInt8} {r : List UInt8} (h : kind c ≠ 0) : pcs a (c :: r) = tkOf a c r :: pcs (a + 1 + runLen (kind c) r) (r.drop (runLen (kind c) r)) := by
  rw [pcs, if_neg (by rw [(kind_pos h).1]; simp), if_neg (kind_pos h).2, if_neg h]
theorem pcs_length : ∀ (n a : Nat) (l : List UInt8), l.length ≤ n → (pcs a l).length ≤ l.length := by
  intro n
  induction n with
  | zero => intro a l h; have : l = [] := List.eq_nil_of_length_eq_zero (by omega); subst this; rw [pcs_nil]; simp
  | succ n ih =>
    intro a l h
    cases l with
    | nil => rw [pcs_nil]; simp
    | cons c r =>
      simp only [List.length_cons] at h
      rw [pcs]
      split
      · have := ih (a + 1) r (by omega); simp; omega
      · split
        · have := ih (a + 1 + noteLen r) (r.drop (noteLen r)) (by simp; omega); simp at this ⊢; omega
        · split
          · simp
          · have := ih (a + 1 + runLen (kind c) r) (r.drop (runLen (kind c) r)) (by simp; omega); simp at this ⊢; omega

/-- The tokens, up to where none begins. -/
def toksOf (ps : List Tk) : List Tk := ps.takeWhile fun x => decide (x.k ≠ 0)
def toks (l : List UInt8) : List Tk := toksOf (pcs 0 l)
end Go.Proofs.YtnhddnldebdmbaaDoor
/- Small functions: their contracts; tokens as values. -/
namespace Go.Proofs.YtnhddnldebdmbaaDoor
open Go.RowKit
set_option linter.unusedVariables false

/-- Bytes as a string. -/
def bs (l : List UInt8) : ByteArray := ⟨l.toArray⟩
theorem bs_toList (l : List UInt8) : (bs l).data.toList = l := by simp [bs]
theorem bs_size (l : List UInt8) : (bs l).size = l.length := by simp [bs, ByteArray.size]
theorem bs_of (s : ByteArray) : bs s.data.toList = s := by simp [bs]
/-- A token as a value. -/
abbrev tkV (x : Tk) : Value := .agg #[.int .i64 (x.k : Int), .int .i64 (x.at' : Int), .string (bs x.t), .int .i64 (x.n : Int)]

/-- The same word, the other way round (the quiet walk wants it so). -/
theorem same_of {P : Program} {f : FuncId} {args : Array Value} {w : World} {v : Value} (h : Calls P f args w fun e w' => e = .returned v ∧ w = w') : Calls P f args w fun e w' => e = .returned v ∧ w' = w := h.mono fun _ _ h => ⟨h.1, h.2.symm⟩
/-- A byte's number, for the walk. -/
theorem byte_nat (c : UInt8) : ∃ n : Nat, n = c.toNat ∧ n < 256 := ⟨_, rfl, c.toNat_lt⟩

set_option maxHeartbeats 400000 in
theorem letter_any (c : UInt8) (w : World) : Calls Tryd.prog 96 #[.int .u8 (c.toNat : Int)] w fun e w' => e = .returned (.bool (ltr c)) ∧ w = w' := by
  obtain ⟨n, hn, hc⟩ := byte_nat c
  have hl : ltr c = decide ((97 ≤ n ∧ n ≤ 122) ∨ (65 ≤ n ∧ n ≤ 90) ∨ n = 95) := by rw [hn]; rfl
  rw [hl]
  rw [← hn]
  clear hl hn
  go_enter Tryd.func96, Tryd.ntmps96
  by_cases h1 : 97 ≤ n <;> by_cases h2 : n ≤ 122 <;> by_cases h3 : 65 ≤ n <;> by_cases h4 : n ≤ 90 <;> by_cases h5 : n = 95 <;> first | omega | (go_wp2; go_ret; simp [*]; try omega)

set_option maxHeartbeats 400000 in
theorem rletter_any (c : UInt8) (w : World) : Calls Tryd.prog 77 #[.int .u8 (c.toNat : Int)] w fun e w' => e = .returned (.bool (ltr c)) ∧ w = w' := by
  obtain ⟨n, hn, hc⟩ := byte_nat c
  have hl : ltr c = decide ((97 ≤ n ∧ n ≤ 122) ∨ (65 ≤ n ∧ n ≤ 90) ∨ n = 95) := by rw [hn]; rfl
  rw [hl]
  rw [← hn]
  clear hl hn
  go_enter Tryd.func77, Tryd.ntmps77
  by_cases h1 : 97 ≤ n <;> by_cases h2 : n ≤ 122 <;> by_cases h3 : 65 ≤ n <;> by_cases h4 : n ≤ 90 <;> by_cases h5 : n = 95 <;> first | omega | (go_wp2; go_ret; simp [*]; try omega)

set_option maxHeartbeats 400000 in
theorem digit_any (c : UInt8) (w : World) : Calls Tryd.prog 97 #[.int .u8 (c.toNat : Int)] w fun e w' => e = .returned (.bool (dgt c)) ∧ w = w' := by
  obtain ⟨n, hn, hc⟩ := byte_nat c
  have hl : dgt c = decide (48 ≤ n ∧ n ≤ 57) := by rw [hn]; rfl
  rw [hl]
  rw [← hn]
  clear hl hn
  go_enter Tryd.func97, Tryd.ntmps97
  by_cases h1 : 48 ≤ n <;> by_cases h2 : n ≤ 57 <;> first | omega | (go_wp2; go_ret; simp [*]; try omega)

set_option maxHeartbeats 400000 in
theorem rdigit_any (c : UInt8) (w : World) : Calls Tryd.prog 78 #[.int .u8 (c.toNat : Int)] w fun e w' => e = .returned (.bool (dgt c)) ∧ w = w' := by
  obtain ⟨n, hn, hc⟩ := byte_nat c
  have hl : dgt c = decide (48 ≤ n ∧ n ≤ 57) := by rw [hn]; rfl
  rw [hl]
  rw [← hn]
  clear hl hn
  go_enter Tryd.func78, Tryd.ntmps78
  by_cases h1 : 48 ≤ n <;> by_cases h2 : n ≤ 57 <;> first | omega | (go_wp2; go_ret; simp [*]; try omega)

set_option maxHeartbeats 400000 in
theorem kindOf_any (c : UInt8) (w : World) : Calls Tryd.prog 91 #[.int .u8 (c.toNat : Int)] w fun e w' => e = .returned (.int .i64 (kind c : Int)) ∧ w = w' := by
  obtain ⟨n, hn, hc⟩ := byte_nat c
  have L := Lib.hid (fun w => letter_any c w)
  have D := Lib.hid (fun w => digit_any c w)
  have hk : kind c = if ltr c then 1 else if dgt c then 2 else if n = 61 then 3 else if n = 10 then 4 else 0 := by rw [hn]; rfl
  rw [hk]
  rw [← hn] at L D ⊢
  clear hk hn
  generalize ltr c = a at *
  generalize dgt c = b at *
  go_enter Tryd.func91, Tryd.ntmps91
  cases a <;> cases b <;> by_cases h3 : n = 61 <;> by_cases h4 : n = 10 <;> first | omega | (
    (try subst h3)
    (try subst h4)
    go_wp2_with (first
      | (go_at_call 96; refine (L.out _).mono ?_; rintro e w' ⟨rfl, rfl⟩)
      | (go_at_call 97; refine (D.out _).mono ?_; rintro e w' ⟨rfl, rfl⟩))
    all_goals (first | (go_ret; simp [*]; try omega) | omega))

set_option maxHeartbeats 400000 in
theorem goesOn_any (k : Nat) (c : UInt8) (w : World) : Calls Tryd.prog 92 #[.int .i64 (k : Int), .int .u8 (c.toNat : Int)] w fun e w' => e = .returned (.bool (goes k c)) ∧ w = w' := by
  obtain ⟨n, hn, hc⟩ := byte_nat c
  have L := Lib.hid (fun w => letter_any c w)
  have D := Lib.hid (fun w => digit_any c w)
  have hk : goes k c = ((dgt c && (decide (k = 1) || decide (k = 2))) || (decide (k = 1) && (ltr c || decide (n = 46) || decide (n = 45)))) := by rw [hn]; rfl
  rw [hk]
  rw [← hn] at L D ⊢
  clear hk hn
  generalize ltr c = a at *
  generalize dgt c = b at *
  go_enter Tryd.func92, Tryd.ntmps92
  cases a <;> cases b <;> by_cases h1 : k = 1 <;> by_cases h2 : k = 2 <;> by_cases h3 : n = 46 <;> by_cases h4 : n = 45 <;> first | omega | (
    (try subst h1)
    (try subst h2)
    (try subst h3)
    (try subst h4)
    go_wp2_with (first
      | (go_at_call 96; refine (L.out _).mono ?_; rintro e w' ⟨rfl, rfl⟩)
      | (go_at_call 97; refine (D.out _).mono ?_; rintro e w' ⟨rfl, rfl⟩))
    all_goals (first | (go_ret; simp [*]; try omega) | omega))
end Go.Proofs.YtnhddnldebdmbaaDoor
/- Functions over texts: their contracts. -/
namespace Go.Proofs.YtnhddnldebdmbaaDoor
open Go.RowKit
set_option linter.unusedVariables false

theorem ret_int {k : IntKind} {a b : Int} (h : a = b) : Ending.returned (.int k a) = .returned (.int k b) := by rw [h]
theorem drop_get (s : ByteArray) (i : Nat) (h : i < s.size) : s.data.toList.drop i = s[i] :: s.data.toList.drop (i + 1) := by
  have h' : i < s.data.toList.length := by rw [← Lib.size_eq]; exact h
  rw [List.drop_eq_getElem_cons h']
  rfl
theorem noteLen_ten (c : UInt8) (r : List UInt8) (h : c.toNat = 10) : noteLen (c :: r) = 0 := by rw [noteLen, if_pos h]
theorem noteLen_not (c : UInt8) (r : List UInt8) (h : c.toNat ≠ 10) : noteLen (c :: r) = noteLen r + 1 := by rw [noteLen, if_neg h]
theorem is10 (c : UInt8) : (c == 10) = decide (c.toNat = 10) := by
  rw [Bool.eq_iff_iff]
  simp [← UInt8.toNat_inj]
theorem indexByte_note (l : List UInt8) : Lib.indexByte l 10 = if noteLen l < l.length then (noteLen l : Int) else -1 := by
  induction l with
  | nil => rfl
  | cons c r ih =>
    unfold Lib.indexByte
    rw [is10]
    by_cases h : c.toNat = 10
    · rw [noteLen_ten c r h]; simp [h]
    · rw [noteLen_not c r h, ih]
      simp only [h, decide_false, Bool.false_eq_true, if_false, List.length_cons]
      by_cases h2 : noteLen r < r.length
      · rw [if_pos h2, if_neg (show ¬ (((noteLen r : Nat) : Int) == -1) = true by simp), if_pos (show noteLen r + 1 < r.length + 1 by omega)]; rfl
      · rw [if_neg h2, if_neg (show ¬ noteLen r + 1 < r.length + 1 by omega)]; rfl

set_option maxHeartbeats 1000000 in
theorem lineEnd_any (s : ByteArray) (i : Nat) (w : World) (hi : i ≤ s.size) (hs : s.size ≤ 100000) : Calls Tryd.prog 88 #[.string s, .int .i64 (i : Int)] w fun e w' => e = .returned (.int .i64 ((i + noteLen (s.data.toList.drop i) : Nat) : Int)) ∧ w = w' := by
  have h0 := Tryd.strings_IndexByte (s.extract i s.size) 10 w
  have e0 : (s.extract i s.size).data.toList = s.data.toList.drop i := by
    rw [Lib.extract_data, List.take_of_length_le (by rw [List.length_drop, ← Lib.size_eq]; exact Nat.le_refl _)]
  have e1 : ((10 : Int).toNat.toUInt8) = 10 := rfl
  have hl : (s.data.toList.drop i).length = s.size - i := by rw [List.length_drop, ← Lib.size_eq]
  have hn := noteLen_le (s.data.toList.drop i)
  rw [e0, e1, indexByte_note, hl] at h0
  rw [hl] at hn
  clear e0 e1 hl
  generalize noteLen (s.data.toList.drop i) = n at *
  by_cases hlt : n < s.size - i
  · rw [if_pos hlt] at h0
    have H := Lib.hid h0
    clear h0
    go_enter Tryd.func88, Tryd.ntmps88
    go_wp2_with (go_at_call 90; refine H.out.mono ?_; rintro e w' ⟨rfl, rfl⟩)
    go_ret
    exact ⟨ret_int (by omega), rfl⟩
  · rw [if_neg hlt] at h0
    have H := Lib.hid h0
    clear h0
    go_enter Tryd.func88, Tryd.ntmps88
    go_wp2_with (go_at_call 90; refine H.out.mono ?_; rintro e w' ⟨rfl, rfl⟩)
    go_ret
    exact ⟨ret_int (by omega), rfl⟩

theorem take_snoc (l : List UInt8) (k : Nat) (h : k < l.length) : l.take (k + 1) = l.take k ++ [l[k]] := List.take_succ_eq_append_getElem h
theorem bs_get (l : List UInt8) (k : Nat) (h : k < l.length) (h' : k < (bs l).size) : (bs l)[k] = l[k] := by
  show l.toArray[k]'(by simpa using h) = l[k]
  rw [List.getElem_toArray]
  rfl

set_option maxHeartbeats 1000000 in
theorem number_any (l : List UInt8) (w : World) (hd : ∀ c ∈ l, dgt c = true) (hs : l.length ≤ 100000) : Calls Tryd.prog 94 #[.string (bs l)] w fun e w' => e = .returned (.int .i64 (numOf l : Int)) ∧ w = w' := by
  have HS := Lib.hid (bs_size l)
  have HD := Lib.hid hd
  clear hd
  go_enter Tryd.func94, Tryd.ntmps94
  go_wp2
  go_loop [3, 7] (fun n i => ∃ k : Nat, k ≤ (bs l).size ∧ i = .int .i64 k ∧ n = .int .i64 (numOf (l.take k) : Int)) (fun _ i => (bs l).size - (intOf i).toNat)
  case atStart => exact ⟨0, Nat.zero_le _, rfl, by simp [numOf]⟩
  case round =>
    obtain ⟨k, hk, rfl, rfl⟩ := hrel
    have hle := numOf_le (l.take k)
    by_cases hlt : k < (bs l).size
    · have hlt' : k < l.length := by rw [← HS.out]; exact hlt
      have h1 := numOf_snoc (l.take k) l[k]
      rw [← take_snoc l k hlt'] at h1
      have hg := bs_get l k hlt' hlt
      have hdk := HD.out l[k] (List.getElem_mem hlt')
      have hbig : k ≤ 100000 := by omega
      generalize l[k] = c at *
      have H1 := Lib.hid h1
      have hc : 48 ≤ c.toNat ∧ c.toNat ≤ 57 := by simpa [dgt] using hdk
      obtain ⟨hc1, hc2⟩ := hc
      clear h1 hdk
      generalize numOf (l.take k) = m at *
      go_wp2
      all_goals
        go_round
        case rel => exact ⟨k + 1, by omega, by go_num, by rw [H1.out]; go_num⟩
        case measure => simp [intOf]; omega
    · go_wp2
      go_ret
      exact ⟨ret_int (by rw [List.take_of_length_le (by rw [← HS.out]; omega)]), rfl⟩

set_option maxHeartbeats 1000000 in
theorem clone_any (s : ByteArray) (w : World) (hs : s.size ≤ 100000) : Calls Tryd.prog 93 #[.string s] w fun e w' => e = .returned (.string s) ∧ Below w.heap.size w w' := by
  have H := Lib.hid (Tryd.stringslite_Clone s w (by omega))
  go_enter Tryd.func93, Tryd.ntmps93
  go_wp2_with (go_at_call 98; refine H.out.mono ?_; rintro e w' ⟨rfl, hb⟩)
  go_ret
  exact ⟨rfl, hb⟩
theorem extract_tok (s : ByteArray) (i j : Nat) (hi : i < s.size) (hij : i + 1 ≤ j) : s.extract i j = bs (s[i] :: (s.data.toList.drop (i + 1)).take (j - (i + 1))) := by
  rw [Lib.extract_eq, drop_get s i hi, show j - i = (j - (i + 1)) + 1 by omega, List.take_succ_cons]
  rfl
end Go.Proofs.YtnhddnldebdmbaaDoor
