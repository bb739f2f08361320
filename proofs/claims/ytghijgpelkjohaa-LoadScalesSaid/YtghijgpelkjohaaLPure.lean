/- Fractions and sums of them: plain words. -/
import Derived.Test.YtghijgpelkjohaaGcd
namespace Go.Proofs.Ytghijgpelkjohaa
open Go.RowKit
set_option linter.unusedVariables false
set_option linter.unusedSimpArgs false

/-- A fraction. -/
structure Fr where
  n : Int
  d : Int
deriving DecidableEq
abbrev frV (x : Fr) : Value := .agg #[.int .u64 x.n, .int .u64 x.d]
abbrev U (n : Int) : Prop := 0 ≤ n ∧ n ≤ 18446744073709551615
structure FrW (x : Fr) : Prop where
  n : U x.n
  d : U x.d
def formF (a b : Int) : Fr := ⟨a / gcdI a b, b / gcdI a b⟩
def noF (c t : Int) : Bool := decide (c < 0 ∨ t < 1)
def ofF (c t : Int) : Fr := if c < 0 ∨ t < 1 then ⟨0, 0⟩ else formF c t
theorem gcdI_dvd (a b : Int) (ha : 0 ≤ a) (hb : 0 ≤ b) : gcdI a b ∣ a ∧ gcdI a b ∣ b := by
  unfold gcdI
  obtain ⟨x, rfl⟩ := Int.eq_ofNat_of_zero_le ha
  obtain ⟨y, rfl⟩ := Int.eq_ofNat_of_zero_le hb
  simp only [Int.toNat_natCast]
  exact ⟨Int.natCast_dvd_natCast.2 (Nat.gcd_dvd_left _ _), Int.natCast_dvd_natCast.2 (Nat.gcd_dvd_right _ _)⟩
theorem formF_w {a b : Int} (ha : U a) (hb : 0 < b) (hb1 : b ≤ 18446744073709551615) : FrW (formF a b) ∧ 0 < (formF a b).d := by
  obtain ⟨a0, a1⟩ := ha
  have hg := gcdI_le a b a0 (by omega) (by omega)
  have h1 := quo_le a (gcdI a b) a0 (by omega)
  have h2 := quo_le b (gcdI a b) (by omega) (by omega)
  have hd := (gcdI_dvd a b a0 (by omega)).2
  have h3 : 0 < b / gcdI a b := Int.ediv_pos_of_pos_of_dvd hb (by omega) hd
  exact ⟨⟨⟨h1.1, by show a / gcdI a b ≤ _; omega⟩, ⟨h2.1, by show b / gcdI a b ≤ _; omega⟩⟩, h3⟩
theorem ofF_w {c t : Int} (hc : in64 c) (ht : in64 t) : FrW (ofF c t) := by
  obtain ⟨c0, c1⟩ := hc
  obtain ⟨t0, t1⟩ := ht
  unfold ofF
  by_cases h : c < 0 ∨ t < 1
  · rw [if_pos h]; exact ⟨⟨by decide, by decide⟩, ⟨by decide, by decide⟩⟩
  · rw [if_neg h]; exact (formF_w ⟨by omega, by omega⟩ (by omega) (by omega)).1
theorem ofF_d {c t : Int} (hc : in64 c) (ht : in64 t) (h : noF c t = false) : 0 < (ofF c t).d := by
  obtain ⟨c0, c1⟩ := hc
  obtain ⟨t0, t1⟩ := ht
  have h' : ¬ (c < 0 ∨ t < 1) := by simpa [noF] using h
  unfold ofF
  rw [if_neg h']
  exact (formF_w ⟨by omega, by omega⟩ (by omega) (by omega)).2
theorem noF_eq {c t : Int} (hc : in64 c) (ht : in64 t) : noF c t = decide (ofF c t = ⟨0, 0⟩) := by
  cases h : noF c t
  · have := ofF_d hc ht h
    rw [eq_comm, decide_eq_false_iff_not]
    intro e
    rw [e] at this
    exact absurd this (by decide)
  · have h' : c < 0 ∨ t < 1 := by simpa [noF] using h
    rw [eq_comm, decide_eq_true_eq, ofF, if_pos h']
/-! ### Sums -/
def numF (x y : Fr) : Int := addN (mulN x.n (lcmN x.d y.d / x.d)) (mulN y.n (lcmN x.d y.d / y.d))
def okF (x y : Fr) : Bool := lcmB x.d y.d && (mulB x.n (lcmN x.d y.d / x.d) && (mulB y.n (lcmN x.d y.d / y.d) && addB (mulN x.n (lcmN x.d y.d / x.d)) (mulN y.n (lcmN x.d y.d / y.d))))
def plusF (x y : Fr) : Fr := formF (numF x y) (lcmN x.d y.d)
/-- The sum from s on, if it is told. -/
def sumO (s : Fr) : List Ts → Option Fr
  | [] => some s
  | x :: l => if okF s (ofF x.c x.t) then sumO (plusF s (ofF x.c x.t)) l else none
def sumE (l : List Ts) : Int := if l.any (fun x => noF x.c x.t) then 1 else if (sumO ⟨0, 1⟩ l).isSome then 0 else 17
def sumF (l : List Ts) : Fr := if l.any (fun x => noF x.c x.t) then ⟨0, 0⟩ else (sumO ⟨0, 1⟩ l).getD ⟨0, 0⟩
theorem mulN_u (a b : Int) (ha : 0 ≤ a) (hb : 0 ≤ b) : U (mulN a b) := by
  have := mul_nonneg' a b ha hb
  unfold mulN
  split
  · exact ⟨by omega, by omega⟩
  · exact ⟨by decide, by decide⟩
theorem addN_u (a b : Int) (ha : 0 ≤ a) (hb : 0 ≤ b) : U (addN a b) := by
  unfold addN
  split
  · exact ⟨by omega, by omega⟩
  · exact ⟨by decide, by decide⟩
theorem lcmN_u (a b : Int) (ha : 0 ≤ a) (hb : 0 ≤ b) : U (lcmN a b) := by
  unfold lcmN
  split
  · exact ⟨by decide, by decide⟩
  · have hg := gcdI_nonneg a b
    exact mulN_u _ _ (Int.ediv_nonneg ha hg) hb
theorem lcmN_pos {a b : Int} (ha : 0 < a) (hb : 0 < b) (h : lcmB a b = true) : 0 < lcmN a b := by
  have hg := gcdI_le a b (by omega) (by omega) (by omega)
  have hd := (gcdI_dvd a b (by omega) (by omega)).1
  have h3 : 0 < a / gcdI a b := Int.ediv_pos_of_pos_of_dvd ha (by omega) hd
  have hn : ¬ (a = 0 ∨ b = 0) := by omega
  unfold lcmB at h
  unfold lcmN
  rw [if_neg hn] at h ⊢
  have h4 : a / gcdI a b * b ≤ 18446744073709551615 := by simpa [mulB] using h
  rw [mulN, if_pos h4]
  exact Int.mul_pos h3 hb
theorem quo_u {a b : Int} (ha : U a) (hb : 0 ≤ b) : U (a / b) := by
  have := quo_le a b ha.1 hb
  exact ⟨this.1, by have := ha.2; omega⟩
theorem plusF_w {x y : Fr} (hx : FrW x) (hy : FrW y) (hxd : 0 < x.d) (hyd : 0 < y.d) (h : okF x y = true) : FrW (plusF x y) ∧ 0 < (plusF x y).d := by
  have hl : lcmB x.d y.d = true := by
    unfold okF at h
    simp only [Bool.and_eq_true] at h
    exact h.1
  have hm := lcmN_u x.d y.d (by omega) (by omega)
  refine formF_w (addN_u _ _ ?_ ?_) (lcmN_pos hxd hyd hl) hm.2
  · exact (mulN_u _ _ hx.n.1 (quo_u hm (by omega)).1).1
  · exact (mulN_u _ _ hy.n.1 (quo_u hm (by omega)).1).1
/-! ### What holds of two -/
def cmpI (a b : Int) : Int := if a < b then -1 else if a > b then 1 else 0
def cmpF (x y : Fr) : Int := if x.d = 0 ∨ y.d = 0 then 0 else cmpI (x.n * y.d) (y.n * x.d)
/-! ### Periods -/
def pdB (p : Int) : List Ts → Bool
  | [] => true
  | x :: l => if x.t < 1 then false else if lcmB p x.t then pdB (lcmN p x.t) l else false
def pdN (p : Int) : List Ts → Int
  | [] => p
  | x :: l => if x.t < 1 then 0 else if lcmB p x.t then pdN (lcmN p x.t) l else 0
end Go.Proofs.Ytghijgpelkjohaa
