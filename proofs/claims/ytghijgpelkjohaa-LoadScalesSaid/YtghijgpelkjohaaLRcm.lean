/- The document's own Compare. -/
import Derived.Test.YtghijgpelkjohaaLCmp
namespace Go.Proofs.Ytghijgpelkjohaa
open Go.RowKit
set_option linter.unusedVariables false
set_option linter.unusedSimpArgs false
theorem cmpI_lt {a b : Int} (h : a < b) : cmpI a b = -1 := by unfold cmpI; rw [if_pos h]
theorem cmpI_gt {a b : Int} (h : b < a) : cmpI a b = 1 := by unfold cmpI; rw [if_neg (by omega), if_pos h]
theorem cmpI_eq (a : Int) : cmpI a a = 0 := by unfold cmpI; rw [if_neg (by omega), if_neg (by omega)]
theorem cmpI_add (a b c : Int) : cmpI (a + c) (b + c) = cmpI a b := by
  unfold cmpI
  repeat (first | omega | split)
theorem cmpF_pos {x y : Fr} (hx : 0 < x.d) (hy : 0 < y.d) : cmpF x y = cmpI (x.n * y.d) (y.n * x.d) := by unfold cmpF; rw [if_neg (by omega)]
theorem part_lt {xn xd yn yd : Int} (hx : 0 < xd) (hy : 0 < yd) (h : xn / xd < yn / yd) : xn * yd < yn * xd := by
  have a1 := Int.lt_mul_ediv_self_add (x := xn) hx
  have a2 := Int.mul_ediv_self_le (x := yn) (k := yd) (by omega)
  have a3 : xd * (xn / xd) + xd ≤ xd * (yn / yd) := by
    have := Int.mul_le_mul_of_nonneg_left (show xn / xd + 1 ≤ yn / yd by omega) (show 0 ≤ xd by omega)
    rw [Int.mul_add, Int.mul_one] at this
    exact this
  have a4 : xn < xd * (yn / yd) := by omega
  have a5 := Int.mul_lt_mul_of_pos_right a4 hy
  have a6 := Int.mul_le_mul_of_nonneg_right a2 (show 0 ≤ xd by omega)
  have e : xd * (yn / yd) * yd = yd * (yn / yd) * xd := by
    rw [Int.mul_comm xd, Int.mul_comm yd, Int.mul_assoc, Int.mul_assoc, Int.mul_comm xd yd]
  omega
theorem part_eq {xn xd yn yd : Int} (h : xn / xd = yn / yd) : cmpI (xn * yd) (yn * xd) = cmpI (xn % xd * yd) (yn % yd * xd) := by
  have e1 := Int.emod_add_mul_ediv xn xd
  have e2 := Int.emod_add_mul_ediv yn yd
  rw [h] at e1
  have f1 : xn * yd = xn % xd * yd + xd * (yn / yd) * yd := by rw [← Int.add_mul, e1]
  have f2 : yn * xd = yn % yd * xd + xd * (yn / yd) * yd := by
    have : xd * (yn / yd) * yd = yd * (yn / yd) * xd := by
      rw [Int.mul_comm xd, Int.mul_comm yd, Int.mul_assoc, Int.mul_assoc, Int.mul_comm xd yd]
    rw [this, ← Int.add_mul, e2]
  rw [f1, f2, cmpI_add]
theorem part_left {xn xd yn yd : Int} (hy : 0 < yn % yd) (hx : 0 < xd) (hp : xn % xd = 0) : cmpI (xn % xd * yd) (yn % yd * xd) = -1 := by
  rw [hp, Int.zero_mul]
  exact cmpI_lt (Int.mul_pos hy hx)
theorem part_right {xn xd yn yd : Int} (hx : 0 < xn % xd) (hy : 0 < yd) (hq : yn % yd = 0) : cmpI (xn % xd * yd) (yn % yd * xd) = 1 := by
  rw [hq, Int.zero_mul]
  exact cmpI_gt (Int.mul_pos hx hy)
theorem ret_i64 {a b : Int} (h : a = b) : Ending.returned (.int .i64 a) = .returned (.int .i64 b) := by rw [h]

set_option maxRecDepth 100000 in
set_option maxHeartbeats 4000000 in
theorem rcompare_nat : ∀ (m : Nat) (x y : Fr), x.d.toNat + y.d.toNat ≤ m → FrW x → FrW y → ∀ w : World,
    Calls Try.prog 29 #[frV x, frV y] w fun e w' => e = .returned (.int .i64 (cmpF x y)) ∧ Below w.heap.size w w'
  | m, x, y, hm, hx, hy, w => by
    obtain ⟨xn, xd⟩ := x
    obtain ⟨yn, yd⟩ := y
    obtain ⟨⟨xn0, xn1⟩, xd0, xd1⟩ := hx
    obtain ⟨⟨yn0, yn1⟩, yd0, yd1⟩ := hy
    simp only at *
    by_cases h1 : xd = 0
    · have HE : Hid (cmpF ⟨xn, xd⟩ ⟨yn, yd⟩ = 0) := Lib.hid (by unfold cmpF; rw [if_pos (.inl h1)])
      rw [HE.out]
      subst h1
      clear HE hm
      go_enter Try.func29, Try.ntmps29
      go_wp2_with (fail)
      go_ret
      exact ⟨rfl, by go_grown⟩
    have t1 : (xd == 0) = false := by simpa using h1
    by_cases h2 : yd = 0
    · have HE : Hid (cmpF ⟨xn, xd⟩ ⟨yn, yd⟩ = 0) := Lib.hid (by unfold cmpF; rw [if_pos (.inr h2)])
      rw [HE.out]
      subst h2
      clear HE hm
      go_enter Try.func29, Try.ntmps29
      go_wp2_with (fail)
      go_ret
      exact ⟨rfl, by go_grown⟩
    have t2 : (yd == 0) = false := by simpa using h2
    have px : 0 < xd := by omega
    have py : 0 < yd := by omega
    rw [cmpF_pos (x := ⟨xn, xd⟩) (y := ⟨yn, yd⟩) px py]
    simp only
    have qx := Int.ediv_nonneg xn0 xd0
    have qy := Int.ediv_nonneg yn0 yd0
    have rx0 := Int.emod_nonneg xn h1
    have ry0 := Int.emod_nonneg yn h2
    have rx1 := Int.emod_lt_of_pos xn px
    have ry1 := Int.emod_lt_of_pos yn py
    rcases Int.lt_trichotomy (xn / xd) (yn / yd) with hl | he | hl
    · rw [cmpI_lt (part_lt px py hl)]
      have u1 : (xn / xd != yn / yd) = true := by simp; omega
      have u2 : decide (xn / xd < yn / yd) = true := decide_eq_true hl
      clear hm h1 h2 hl
      go_enter Try.func29, Try.ntmps29
      go_wp2_with (fail)
      go_ret
      exact ⟨rfl, by go_grown⟩
    · rw [part_eq he]
      have u1 : (xn / xd != yn / yd) = false := by simp; omega
      by_cases hp : xn % xd = 0
      · have v1 : (xn % xd == 0) = true := by simpa using hp
        by_cases hq : yn % yd = 0
        · rw [hp, hq, Int.zero_mul, Int.zero_mul, cmpI_eq]
          have v2 : (yn % yd == 0) = true := by simpa using hq
          have v3 : (xn % xd == yn % yd) = true := by simp; omega
          clear hm h1 h2 hp hq he
          go_enter Try.func29, Try.ntmps29
          go_wp2_with (fail)
          go_ret
          exact ⟨rfl, by go_grown⟩
        · rw [part_left (by omega) px hp]
          have v3 : (xn % xd == yn % yd) = false := by simp; omega
          clear hm h1 h2 hp hq he
          go_enter Try.func29, Try.ntmps29
          go_wp2_with (fail)
          go_ret
          exact ⟨rfl, by go_grown⟩
      · have v1 : (xn % xd == 0) = false := by simpa using hp
        by_cases hq : yn % yd = 0
        · rw [part_right (by omega) py hq]
          have v2 : (yn % yd == 0) = true := by simpa using hq
          have v3 : (xn % xd == yn % yd) = false := by simp; omega
          clear hm h1 h2 hp hq he
          go_enter Try.func29, Try.ntmps29
          go_wp2_with (fail)
          go_ret
          exact ⟨rfl, by go_grown⟩
        · have v2 : (yn % yd == 0) = false := by simpa using hq
          obtain ⟨m', rfl⟩ : ∃ m', m = m' + 1 := ⟨m - 1, by omega⟩
          have HC := Lib.hid (rcompare_nat m' ⟨yd, yn % yd⟩ ⟨xd, xn % xd⟩ (by simp only; omega) ⟨⟨by simp only; omega, by simp only; omega⟩, ⟨by simp only; omega, by simp only; omega⟩⟩ ⟨⟨by simp only; omega, by simp only; omega⟩, ⟨by simp only; omega, by simp only; omega⟩⟩)
          have HE : Hid (cmpF ⟨yd, yn % yd⟩ ⟨xd, xn % xd⟩ = cmpI (xn % xd * yd) (yn % yd * xd)) := Lib.hid (by rw [cmpF_pos (by simp only; omega) (by simp only; omega)]; simp only; rw [Int.mul_comm yd, Int.mul_comm xd])
          rw [HE.out] at HC
          generalize cmpI (xn % xd * yd) (yn % yd * xd) = r at *
          clear hm h1 h2 hp hq he HE
          go_enter Try.func29, Try.ntmps29
          go_wp2_with (go_at_call 29; (with_reducible refine (HC.out _).mono ?_); rintro e w1 ⟨rfl, hbel⟩)
          go_ret
          exact ⟨rfl, (((Below.refl _ _).alloc (Nat.le_refl _) _).alloc (by simp) _).trans (hbel.mono (by simp; omega))⟩
    · rw [cmpI_gt (part_lt py px hl)]
      have u1 : (xn / xd != yn / yd) = true := by simp; omega
      have u2 : decide (xn / xd < yn / yd) = false := decide_eq_false (by omega)
      clear hm h1 h2 hl
      go_enter Try.func29, Try.ntmps29
      go_wp2_with (fail)
      go_ret
      exact ⟨rfl, by go_grown⟩
theorem rcompare_any (x y : Fr) (hx : FrW x) (hy : FrW y) (w : World) :
    Calls Try.prog 29 #[frV x, frV y] w fun e w' => e = .returned (.int .i64 (cmpF x y)) ∧ Below w.heap.size w w' := rcompare_nat _ x y (Nat.le_refl _) hx hy w
end Go.Proofs.Ytghijgpelkjohaa
