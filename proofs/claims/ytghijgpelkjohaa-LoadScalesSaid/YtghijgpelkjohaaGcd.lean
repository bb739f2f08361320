/- Contracts of Gcd and Lcm, of the program and of the document's own answer. -/
import Derived.Test.YtghijgpelkjohaaNRefs
namespace Go.Proofs.Ytghijgpelkjohaa
open Go.RowKit
set_option linter.unusedVariables false

def gcdI (a b : Int) : Int := (Nat.gcd a.toNat b.toNat : Nat)
theorem gcdI_zero_left (b : Int) (h : 0 ≤ b) : gcdI 0 b = b := by unfold gcdI; simp; omega
theorem gcdI_zero_right (a : Int) (h : 0 ≤ a) : gcdI a 0 = a := by unfold gcdI; simp; omega
theorem toNat_mod (a b : Int) (ha : 0 ≤ a) (hb : 0 ≤ b) : (a % b).toNat = a.toNat % b.toNat := Int.toNat_emod ha hb
theorem gcdI_mod_right (a b : Int) (ha : 0 ≤ a) (hb : 0 ≤ b) : gcdI a (b % a) = gcdI a b := by
  unfold gcdI; rw [toNat_mod b a hb ha, Nat.gcd_comm, ← Nat.gcd_rec]
theorem gcdI_mod_left (a b : Int) (ha : 0 ≤ a) (hb : 0 ≤ b) : gcdI (a % b) b = gcdI a b := by
  unfold gcdI; rw [toNat_mod a b ha hb, ← Nat.gcd_rec, Nat.gcd_comm]
theorem gcdI_nonneg (a b : Int) : 0 ≤ gcdI a b := by unfold gcdI; omega
theorem gcdI_le (a b : Int) (ha : 0 ≤ a) (hb : 0 ≤ b) (hp : 0 < a + b) : 1 ≤ gcdI a b ∧ gcdI a b ≤ a + b := by
  unfold gcdI
  by_cases h : 0 < a.toNat
  · have h1 := Nat.gcd_le_left b.toNat h
    have h2 := Nat.gcd_pos_of_pos_left b.toNat h
    omega
  · have h3 : 0 < b.toNat := by omega
    have h1 := Nat.gcd_le_right a.toNat h3
    have h2 := Nat.gcd_pos_of_pos_right a.toNat h3
    omega

set_option maxHeartbeats 800000 in
theorem gcd_any (a b : Int) (ha : 0 ≤ a) (ha1 : a ≤ 18446744073709551615) (hb : 0 ≤ b) (hb1 : b ≤ 18446744073709551615) (w : World) :
    Calls Try.prog 45 #[.int .u64 a, .int .u64 b] w fun e w' => e = .returned (.int .u64 (gcdI a b)) ∧ w = w' := by
  go_enter Try.func45, Try.ntmps45
  go_wp2
  go_step3
  go_wp2
  go_step3
  go_wp2
  go_loop [0, 1] (fun u v => ∃ x y : Int, 0 ≤ x ∧ x ≤ 18446744073709551615 ∧ 0 ≤ y ∧ y ≤ 18446744073709551615 ∧ gcdI x y = gcdI a b ∧ u = .int .u64 x ∧ v = .int .u64 y) (fun u v => (intOf u).toNat + (intOf v).toNat)
  case atStart => exact ⟨a, b, ha, ha1, hb, hb1, rfl, rfl, rfl⟩
  case round =>
    obtain ⟨x, y, hx, hx1, hy, hy1, hg, rfl, rfl⟩ := hrel
    have HG := Lib.hid hg
    clear hg
    by_cases h0 : x = 0
    · subst h0
      go_wp2
      try rw [Exit.noGoto_ret]
      go_ret
      exact ⟨ret_u64 (by rw [← HG.out, gcdI_zero_left y hy]), rfl⟩
    · by_cases h1 : y = 0
      · subst h1
        have hb0 : (x == 0) = false := by simp; exact h0
        go_wp2
        try rw [Exit.noGoto_ret]
        go_ret
        exact ⟨ret_u64 (by rw [← HG.out, gcdI_zero_right x hx]), rfl⟩
      · have hb0 : (x == 0) = false := by simp; exact h0
        have hb1 : (y == 0) = false := by simp; exact h1
        have hxp : 0 < x := by omega
        have hyp : 0 < y := by omega
        by_cases hlt : x < y
        · have hm := Int.emod_lt_of_pos y hxp
          have hn := Int.emod_nonneg y h0
          have HR := Lib.hid (gcdI_mod_right x y hx hy)
          clear h0 h1
          go_wp2
          go_round
          case rel => exact ⟨x, y % x, by omega, by omega, by omega, by omega, by rw [HR.out]; exact HG.out, rfl, rfl⟩
          case measure => simp [intOf]; omega
        · have hm := Int.emod_lt_of_pos x hyp
          have hn := Int.emod_nonneg x h1
          have HR := Lib.hid (gcdI_mod_left x y hx hy)
          clear h0 h1
          go_wp2
          go_round
          case rel => exact ⟨x % y, y, by omega, by omega, by omega, by omega, by rw [HR.out]; exact HG.out, rfl, rfl⟩
          case measure => simp [intOf]; omega

theorem refGcd_nat : ∀ (n : Nat) (a b : Int), b.toNat ≤ n → 0 ≤ a → a ≤ 18446744073709551615 → 0 ≤ b → b ≤ 18446744073709551615 → ∀ w : World,
    Calls Try.prog 49 #[.int .u64 a, .int .u64 b] w fun e w' => e = .returned (.int .u64 (gcdI a b)) ∧ w = w'
  | 0, a, b, hn, ha, ha1, hb, hb1, w => by
    obtain rfl : b = 0 := by omega
    rw [gcdI_zero_right a ha]
    go_enter Try.func49, Try.ntmps49
    go_wp2_with fail
    go_ret
    exact ⟨rfl, rfl⟩
  | n + 1, a, b, hn, ha, ha1, hb, hb1, w => by
    by_cases h0 : b = 0
    · subst h0
      rw [gcdI_zero_right a ha]
      go_enter Try.func49, Try.ntmps49
      go_wp2_with fail
      go_ret
      exact ⟨rfl, rfl⟩
    · have hz : (b == 0) = false := by simp; exact h0
      have hp : 0 < b := by omega
      have hm := Int.emod_lt_of_pos a hp
      have hq := Int.emod_nonneg a h0
      have hc := refGcd_nat n b (a % b) (by omega) hb hb1 hq (by omega) w
      have e : gcdI b (a % b) = gcdI a b := by rw [gcdI_mod_right b a hb ha]; unfold gcdI; rw [Nat.gcd_comm]
      rw [e] at hc
      have HC := Lib.hid hc
      clear hc e h0
      go_enter Try.func49, Try.ntmps49
      go_wp2_with (go_at_call 49; refine HC.out.mono ?_; rintro e w' ⟨rfl, rfl⟩)
      go_ret
      exact ⟨rfl, rfl⟩
theorem refGcd_any (a b : Int) (ha : 0 ≤ a) (ha1 : a ≤ 18446744073709551615) (hb : 0 ≤ b) (hb1 : b ≤ 18446744073709551615) (w : World) :
    Calls Try.prog 49 #[.int .u64 a, .int .u64 b] w fun e w' => e = .returned (.int .u64 (gcdI a b)) ∧ w = w' := refGcd_nat _ a b (Nat.le_refl _) ha ha1 hb hb1 w

/-! ### Lcm -/
def lcmB (a b : Int) : Bool := if a = 0 ∨ b = 0 then false else mulB (a / gcdI a b) b
def lcmN (a b : Int) : Int := if a = 0 ∨ b = 0 then 0 else mulN (a / gcdI a b) b

set_option maxHeartbeats 800000 in
theorem lcm_any (a b : Int) (ha : 0 ≤ a) (ha1 : a ≤ 18446744073709551615) (hb : 0 ≤ b) (hb1 : b ≤ 18446744073709551615) (w : World) :
    Calls Try.prog 33 #[.int .u64 a, .int .u64 b] w fun e w' => e = .returned (.tuple #[.int .u64 (lcmN a b), .bool (lcmB a b)]) ∧ w = w' := by
  by_cases h0 : a = 0
  · subst h0
    have e1 : lcmN 0 b = 0 := by simp [lcmN]
    have e2 : lcmB 0 b = false := by simp [lcmB]
    rw [e1, e2]
    clear e1 e2
    go_enter Try.func33, Try.ntmps33
    go_wp2_with fail
    go_ret2
    exact ⟨rfl, rfl⟩
  · have ez : (a == 0) = false := by simp; exact h0
    by_cases h1 : b = 0
    · subst h1
      have e1 : lcmN a 0 = 0 := by simp [lcmN]
      have e2 : lcmB a 0 = false := by simp [lcmB]
      rw [e1, e2]
      clear e1 e2 h0
      go_enter Try.func33, Try.ntmps33
      go_wp2_with fail
      go_ret2
      exact ⟨rfl, rfl⟩
    · have ez1 : (b == 0) = false := by simp; exact h1
      have e1 : lcmN a b = mulN (a / gcdI a b) b := by simp [lcmN, h0, h1]
      have e2 : lcmB a b = mulB (a / gcdI a b) b := by simp [lcmB, h0, h1]
      have hg := gcd_any a b ha ha1 hb hb1 w
      have hb3 := gcdI_le a b ha hb (by omega)
      have hq := quo_le a (gcdI a b) ha (by omega)
      have hm := mul_any (a / gcdI a b) b hq.1 (by omega) hb hb1 w
      have hgp : 0 < gcdI a b := by omega
      have hgz : (gcdI a b == 0) = false := by simp; omega
      rw [e1, e2]
      have HG := Lib.hid hg
      have HM := Lib.hid hm
      clear e1 e2 h0 h1 hg hm
      generalize gcdI a b = g at *
      go_enter Try.func33, Try.ntmps33
      go_wp2_with (first
        | (go_at_call 45; refine HG.out.mono ?_; rintro e w' ⟨rfl, rfl⟩)
        | (go_at_call 35; refine HM.out.mono ?_; rintro e w' ⟨rfl, rfl⟩))
      go_ret2
      exact ⟨rfl, rfl⟩

set_option maxHeartbeats 800000 in
theorem refLcm_any (a b : Int) (ha : 0 ≤ a) (ha1 : a ≤ 18446744073709551615) (hb : 0 ≤ b) (hb1 : b ≤ 18446744073709551615) (w : World) :
    Calls Try.prog 41 #[.int .u64 a, .int .u64 b] w fun e w' => e = .returned (.agg #[.int .u64 (lcmN a b), .bool (lcmB a b)]) ∧ Below w.heap.size w w' := by
  by_cases h0 : a = 0
  · subst h0
    have e1 : lcmN 0 b = 0 := by simp [lcmN]
    have e2 : lcmB 0 b = false := by simp [lcmB]
    rw [e1, e2]
    clear e1 e2
    go_enter Try.func41, Try.ntmps41
    go_wp2_with fail
    go_returns
    exact ⟨rfl, by go_grown⟩
  · have ez : (a == 0) = false := by simp; exact h0
    by_cases h1 : b = 0
    · subst h1
      have e1 : lcmN a 0 = 0 := by simp [lcmN]
      have e2 : lcmB a 0 = false := by simp [lcmB]
      rw [e1, e2]
      clear e1 e2 h0
      go_enter Try.func41, Try.ntmps41
      go_wp2_with fail
      go_returns
      exact ⟨rfl, by go_grown⟩
    · have ez1 : (b == 0) = false := by simp; exact h1
      have e1 : lcmN a b = mulN (a / gcdI a b) b := by simp [lcmN, h0, h1]
      have e2 : lcmB a b = mulB (a / gcdI a b) b := by simp [lcmB, h0, h1]
      have hg := refGcd_any a b ha ha1 hb hb1
      have hb3 := gcdI_le a b ha hb (by omega)
      have hq := quo_le a (gcdI a b) ha (by omega)
      have hm := refMul_any (a / gcdI a b) b hq.1 (by omega) hb hb1
      have hgp : 0 < gcdI a b := by omega
      have hgz : (gcdI a b == 0) = false := by simp; omega
      rw [e1, e2]
      have HG := Lib.hid hg
      have HM := Lib.hid hm
      clear e1 e2 h0 h1 hg hm
      generalize gcdI a b = g at *
      generalize mulN (a / g) b = n at *
      generalize mulB (a / g) b = k at *
      go_enter Try.func41, Try.ntmps41
      go_wp2_with (first
        | (go_at_call 49; refine (HG.out _).mono ?_; rintro e w' ⟨rfl, rfl⟩)
        | (go_at_call 47; refine (HM.out _).mono ?_; rintro e w' ⟨rfl, hbel⟩; obtain ⟨hcl, hfr⟩ := bcell hbel; have c0 : w'.cell? ⟨w.heap.size, 0, none⟩ = some (.int .u64 0) := (by rw [hcl _ _ (by simp)]; simp); have c1 : w'.cell? ⟨w.heap.size, 1, none⟩ = some (.bool false) := (by rw [hcl _ _ (by simp)]; simp)))
      refine bodyPost_ret (v := .agg #[.int .u64 n, .bool k]) (by simp [results, Try.results41, go_sem, c0, c1]) rfl ⟨rfl, ?_⟩
      exact ((((Below.refl _ _).alloc (Nat.le_refl _) _).trans (hbel.mono (by simp))).setCell (by simp) _).setCell (by simp) _
end Go.Proofs.Ytghijgpelkjohaa
