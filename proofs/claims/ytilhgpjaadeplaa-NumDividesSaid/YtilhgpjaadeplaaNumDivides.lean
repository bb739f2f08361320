/- The statement Rows.NumDividesSaid is proved: whatever the input, the call returns true and its arguments read as before. No further condition. -/
import Derived.Test.YtilhgpjaadeplaaRows
import Derived.WalkKit
import Derived.Below
import Derived.ChangeOld
import Derived.Test.YtilhgpjaadeplaaAwake
import Derived.ProofKit
import Derived.OpenShut
import Derived.ShutString
namespace Go.Proofs.Ytilhgpjaadeplaa.numDivides
open Go.ChangeShapes Go.WideShapes Go.ChangeAt Go.RowKit
open Go.ChangeMaps (open_string shut_string)
set_option linter.unusedVariables false      -- a walk need not use every 'w<i>' (that an integer argument fits its kind)

theorem own : ownKnob Try.prog.godebug = none := by kernel_rfl

theorem gcdI_cast (X Y : Nat) : gcdI (X : Int) (Y : Int) = ((Nat.gcd X Y : Nat) : Int) := by simp [gcdI]
theorem div_facts (x y : Int) (hx : 1 ≤ x) (hx1 : x ≤ 4294967295) (hy : 1 ≤ y) (hy1 : y ≤ 4294967295) :
    1 ≤ gcdI x y ∧ gcdI x y ≤ 4294967295 ∧ x % gcdI x y = 0 ∧ y % gcdI x y = 0 ∧ lcmB x y = true ∧ 1 ≤ lcmN x y ∧ lcmN x y ≤ 18446744073709551615 ∧ lcmN x y % x = 0 ∧ lcmN x y % y = 0 ∧ lcmN x y / x * gcdI x y = y := by
  obtain ⟨X, rfl⟩ := Int.eq_ofNat_of_zero_le (show 0 ≤ x by omega)
  obtain ⟨Y, rfl⟩ := Int.eq_ofNat_of_zero_le (show 0 ≤ y by omega)
  have hX : 0 < X := by omega
  have hY : 0 < Y := by omega
  have hgp : 0 < Nat.gcd X Y := Nat.gcd_pos_of_pos_left Y hX
  have hgl : Nat.gcd X Y ≤ X := Nat.gcd_le_left Y hX
  obtain ⟨P, hP⟩ := Nat.gcd_dvd_left X Y
  obtain ⟨Q, hQ⟩ := Nat.gcd_dvd_right X Y
  have hN : lcmN (X : Int) (Y : Int) = mulN ((X : Int) / gcdI X Y) Y := by simp [lcmN]; omega
  have hB : lcmB (X : Int) (Y : Int) = mulB ((X : Int) / gcdI X Y) Y := by simp [lcmB]; omega
  rw [hN, hB, gcdI_cast]
  generalize Nat.gcd X Y = g at *
  have hdiv : X / g = P := by rw [hP]; exact Nat.mul_div_cancel_left P hgp
  have hPX : P ≤ X := by rw [← hdiv]; exact Nat.div_le_self X g
  have hcast : (X : Int) / (g : Int) = (P : Int) := by rw [← hdiv]; rfl
  rw [hcast]
  have hPY : P * Y ≤ 4294967295 * 4294967295 := Nat.mul_le_mul (by omega) (by omega)
  have hPp : 0 < P := by
    by_cases h : P = 0
    · rw [h] at hP; omega
    · omega
  have hPYp : 0 < P * Y := Nat.mul_pos hPp hY
  have hle : ((P : Int) * (Y : Int)) ≤ 18446744073709551615 := by rw [← Int.natCast_mul]; omega
  have eN : mulN (P : Int) (Y : Int) = ((P * Y : Nat) : Int) := by simp [mulN, hle]
  have eB : mulB (P : Int) (Y : Int) = true := by simp [mulB, hle]
  rw [eN, eB]
  have e1 : P * Y = X * Q := by rw [hQ, hP, Nat.mul_left_comm, Nat.mul_assoc]
  have e2 : P * Y / X = Q := by rw [e1]; exact Nat.mul_div_cancel_left Q hX
  refine ⟨by omega, by omega, ?_, ?_, rfl, by omega, by omega, ?_, ?_, ?_⟩
  · rw [hP, Int.natCast_mul]; exact Int.mul_emod_right _ _
  · rw [hQ, Int.natCast_mul]; exact Int.mul_emod_right _ _
  · rw [e1, Int.natCast_mul]; exact Int.mul_emod_right _ _
  · rw [Int.natCast_mul]; exact Int.mul_emod_left _ _
  · have : ((P * Y : Nat) : Int) / (X : Int) = (Q : Int) := by rw [← e2]; rfl
    rw [this, ← Int.natCast_mul, hQ, Nat.mul_comm]
theorem common (x y d : Int) (hx : 1 ≤ x) (hy : 1 ≤ y) (hd : 1 ≤ d) : (x % d = 0 ∧ y % d = 0) ↔ gcdI x y % d = 0 := by
  obtain ⟨X, rfl⟩ := Int.eq_ofNat_of_zero_le (show 0 ≤ x by omega)
  obtain ⟨Y, rfl⟩ := Int.eq_ofNat_of_zero_le (show 0 ≤ y by omega)
  obtain ⟨D, rfl⟩ := Int.eq_ofNat_of_zero_le (show 0 ≤ d by omega)
  rw [gcdI_cast]
  have k : ∀ m : Nat, ((m : Int) % (D : Int) = 0) ↔ D ∣ m := fun m => by
    rw [← Int.natCast_emod, Nat.dvd_iff_mod_eq_zero]
    omega
  rw [k, k, k]
  exact (Nat.dvd_gcd_iff).symm
/-! ### The walk -/
theorem walk (a0 : Int) (a1 : Int) (a2 : Int) (w0 : (Lit.int .u64 a0).wf = true) (w1 : (Lit.int .u64 a1).wf = true) (w2 : (Lit.int .u64 a2).wf = true) (w : World) :
    Calls Try.prog 5 #[.int .u64 a0, .int .u64 a1, .int .u64 a2] w fun e w' => e = .returned (.bool true) ∧ Below w.heap.size w w' := by
  have g0 := bounds_u64 w0
  have g1 := bounds_u64 w1
  have g2 := bounds_u64 w2
  have b0 : 0 ≤ a0 / 4294967296 ∧ a0 / 4294967296 ≤ 4294967295 := by omega
  have b1 : 0 ≤ a1 / 4294967296 ∧ a1 / 4294967296 ≤ 4294967295 := by omega
  have b2 : 1 ≤ a2 / 281474976710656 + 1 ∧ a2 / 281474976710656 + 1 ≤ 65536 := by omega
  go_enter Try.func5, Try.ntmps5
  go_wp2_with (go_at_call 11; refine (awake_any _).mono ?_; rintro e w' ⟨rfl, hb⟩)
  generalize a0 / 4294967296 = x at *
  generalize a1 / 4294967296 = y at *
  generalize a2 / 281474976710656 + 1 = d at *
  refine (gcd_any x y b0.1 (by omega) b1.1 (by omega) _).mono ?_
  rintro e w1 ⟨rfl, rfl⟩
  by_cases hx : x = 0
  · subst hx
    have eL : lcmN 0 y = 0 ∧ lcmB 0 y = false := by simp [lcmN, lcmB]
    rw [gcdI_zero_left y b1.1]
    go_wp2_with fail
    refine (lcm_any 0 y b0.1 (by omega) b1.1 (by omega) _).mono ?_
    rw [eL.1, eL.2]
    clear eL
    rintro e w1 ⟨rfl, rfl⟩
    go_wp2_with fail
    go_ret
    exact ⟨rfl, hb⟩
  · by_cases hy : y = 0
    · subst hy
      have eL : lcmN x 0 = 0 ∧ lcmB x 0 = false := by simp [lcmN, lcmB]
      have hxb : (x == 0) = false := by simp; exact hx
      rw [gcdI_zero_right x b0.1]
      clear hx
      go_wp2_with fail
      refine (lcm_any x 0 b0.1 (by omega) b1.1 (by omega) _).mono ?_
      rw [eL.1, eL.2]
      clear eL
      rintro e w1 ⟨rfl, rfl⟩
      go_wp2_with fail
      go_ret
      exact ⟨rfl, hb⟩
    · have hf := div_facts x y (by omega) (by omega) (by omega) (by omega)
      have hc := common x y d (by omega) (by omega) (by omega)
      have HL := Lib.hid (lcm_any x y b0.1 (by omega) b1.1 (by omega))
      generalize gcdI x y = g at *
      obtain ⟨f1, f2, f3, f4, f5, f6, f7, f8, f9, f10⟩ := hf
      rw [f5] at HL
      generalize lcmN x y = m at *
      have hxb : (x == 0) = false := by simp; exact hx
      have hyb : (y == 0) = false := by simp; exact hy
      have hgb : (g == 0) = false := by simp; omega
      have t6 : 0 ≤ m / x * g ∧ m / x * g ≤ 18446744073709551615 := by rw [f10]; omega
      have hx1 : 1 ≤ x := by omega
      have hy1 : 1 ≤ y := by omega
      clear f5 hx hy
      go_wp2_with fail
      refine (HL.out _).mono ?_
      rintro e w1 ⟨rfl, rfl⟩
      have HC := Lib.hid hc
      clear hc
      go_wp2_with fail
      by_cases q1 : x % d = 0
      · by_cases q2 : y % d = 0
        · have q3 : g % d = 0 := HC.out.1 ⟨q1, q2⟩
          go_quiet (fail)
          go_wp2
          go_ret
          exact ⟨rfl, drewN_below hb _⟩
        · have q3 : (g % d == 0) = false := by simp; exact fun h => q2 (HC.out.2 h).2
          have q4 : (y % d == 0) = false := by simp; exact q2
          clear q2
          go_quiet (fail)
          go_wp2
          go_ret
          exact ⟨rfl, drewN_below hb _⟩
      · have q3 : (g % d == 0) = false := by simp; exact fun h => q1 (HC.out.2 h).1
        have q4 : (x % d == 0) = false := by simp; exact q1
        clear q1
        go_quiet (fail)
        go_wp2
        go_ret
        exact ⟨rfl, drewN_below hb _⟩

/-! ### The row's step -/
set_option maxRecDepth 100000 in
theorem lifted (os : Os) (started : os.Started) (H : Type) (enc : TypeId × Value → H) :
    ReturnsInHanded {} Try.checked os 5 .any (Rows.numDividesSpec.pre6 enc Try.prog Try.f5 Rows.numDividesRow.domain false) (Rows.numDividesSpec.post enc Try.prog Try.f5 false true false false) := by
  refine returnsInHanded_of_change (C := Try.checked) own started (by kernel_rfl) Try.func5
    (ChangeSpec.witness6 (enc := enc) (C := Try.checked) false ⟨#[], #[.int .u64 0, .int .u64 0, .int .u64 0], []⟩ 8 (by kernel_rfl) (by kernel_rfl) (by kernel_rfl) (by kernel_rfl)) ?_
  intro W base args ds gs before hval0 hW hcnd _
  have hval : ∀ (j : Nat) t v, Try.f5.params[j]? = some t → args[j]? = some v → Value.okWide Try.prog W .any base t v := hval0
  have hW' := hW
  obtain ⟨p, q, hA0, hV, rfl, hfz, hnd⟩ := hW
  have hA : DataW.TrodAll enc Try.prog W 0 (fun _ => true) true Try.f5.params.toList args.toList ds p := hA0
  rw [Try.params5] at hA hval
  obtain ⟨v0, vs0, d0, ds0, p0, q0, hargs, rfl, rfl, h0, r0⟩ := trodAll_cons hA
  obtain ⟨v1, vs1, d1, ds1, p1, q1, rfl, rfl, rfl, h1, r1⟩ := trodAll_cons r0
  obtain ⟨v2, vs2, d2, ds2, p2, q2, rfl, rfl, rfl, h2, r2⟩ := trodAll_cons r1
  obtain ⟨rfl, rfl, rfl⟩ := trodAll_nil r2
  obtain rfl : args = #[v0, v1, v2] := by cases args; simp_all
  obtain ⟨rfl, rfl⟩ := trodVars_none hV
  obtain ⟨a0, rfl, rfl, rfl, w0⟩ := open_int Try.underlying22 (hval 0 22 v0 rfl rfl) h0
  obtain ⟨a1, rfl, rfl, rfl, w1⟩ := open_int Try.underlying22 (hval 1 22 v1 rfl rfl) h1
  obtain ⟨a2, rfl, rfl, rfl, w2⟩ := open_int Try.underlying22 (hval 2 22 v2 rfl rfl) h2
  clear hA0 hval0
  simp only [List.append_nil] at hW'
  refine (walk a0 a1 a2 w0 w1 w2 W).mono fun e W' ⟨he, bel⟩ => ?_
  subst he
  exact ⟨_, rfl, _, _, _, [], [], [], hW', trodAll_mk1 (shut_bool Try.underlying4 _), (trodAll_cons_mk (shut_int Try.underlying22 w0) (trodAll_cons_mk (shut_int Try.underlying22 w1) (trodAll_cons_mk (shut_int Try.underlying22 w2) trodAll_mk0))), rfl, bel.frame _, fun h => by cases h⟩

theorem over : Rows.numDividesRow.holds Try.pinned (OpenSpec.ofChange Rows.numDividesSpec) :=
  OpenClaim.holds_of_wide 5 Try.f5 rfl rfl rfl rfl rfl rfl rfl ⟨rfl, rfl, rfl, rfl, rfl⟩ rfl rfl rfl rfl rfl (by kernel_rfl) Try.func5 (by kernel_rfl)
    (of_decide_eq_true (by kernel_rfl)) (by unfold Func.isWrapper; first | (rw [if_pos (by decide +kernel)]; kernel_rfl) | (rw [if_neg (by decide +kernel)]; exact ⟨rfl, rfl⟩))
    (fun os started H enc _ => lifted os started H enc)

theorem proved : Rows.NumDividesSaid :=
  over
#print axioms proved
end Go.Proofs.Ytilhgpjaadeplaa.numDivides
