/- The statement Rows.NumCeilsSaid is proved: whatever the input, the call returns true and its arguments read as before. No further condition. -/
import Derived.Test.YtilhgpjaadeplaaRows
import Derived.WalkKit
import Derived.Below
import Derived.ChangeOld
import Derived.Test.YtilhgpjaadeplaaAwake
import Derived.ProofKit
import Derived.OpenShut
import Derived.ShutString
namespace Go.Proofs.Ytilhgpjaadeplaa.numCeils
open Go.ChangeShapes Go.WideShapes Go.ChangeAt Go.RowKit
open Go.ChangeMaps (open_string shut_string)
set_option linter.unusedVariables false      -- a walk need not use every 'w<i>' (that an integer argument fits its kind)

theorem own : ownKnob Try.prog.godebug = none := by kernel_rfl

theorem ceil_facts (x y : Int) (hx : 0 ≤ x) (hx1 : x ≤ 9223372036854775807) (hy : 1 ≤ y) (hy1 : y ≤ 2147483648) :
    0 ≤ ceilN x y ∧ ceilN x y ≤ x ∧ x ≤ ceilN x y * y ∧ ceilN x y * y ≤ 18446744073709551615 ∧ (1 ≤ ceilN x y → 0 ≤ (ceilN x y - 1) * y ∧ (ceilN x y - 1) * y < x) := by
  have hyne : y ≠ 0 := by omega
  have hq := quo_le x y hx (by omega)
  have hm := Int.mul_ediv_add_emod x y
  have hr := Int.emod_nonneg x hyne
  have hl := Int.emod_lt_of_pos x (show 0 < y by omega)
  rw [Int.mul_comm] at hm
  have hqy : 0 ≤ x / y * y := Int.mul_nonneg hq.1 (by omega)
  have hqq : x / y * 1 ≤ x / y * y := Int.mul_le_mul_of_nonneg_left hy hq.1
  by_cases h : x % y = 0
  · have e : ceilN x y = x / y := by simp [ceilN, hyne, h]
    rw [e]
    have h4 : (x / y - 1) * y = x / y * y - y := by rw [Int.sub_mul, Int.one_mul]
    rw [h4]
    refine ⟨hq.1, hq.2, by omega, by omega, fun h1 => ?_⟩
    have h5 : 1 * y ≤ x / y * y := Int.mul_le_mul_of_nonneg_right h1 (by omega)
    omega
  · have e : ceilN x y = x / y + 1 := by simp [ceilN, hyne, h]
    rw [e]
    have h4 : (x / y + 1) * y = x / y * y + y := by rw [Int.add_mul, Int.one_mul]
    have h5 : (x / y + 1 - 1) * y = x / y * y := by rw [Int.add_sub_cancel]
    rw [h4, h5]
    refine ⟨by omega, by omega, by omega, by omega, fun h1 => by omega⟩
theorem ceil_none (x : Int) : ceilN x 0 = 0 ∧ ceilB 0 = false := by simp [ceilN, ceilB]
/-! ### The walk -/
theorem walk (a0 : Int) (a1 : Int) (w0 : (Lit.int .u64 a0).wf = true) (w1 : (Lit.int .u64 a1).wf = true) (w : World) :
    Calls Try.prog 8 #[.int .u64 a0, .int .u64 a1] w fun e w' => e = .returned (.bool true) ∧ Below w.heap.size w w' := by
  have g0 := bounds_u64 w0
  have g1 := bounds_u64 w1
  have b0 : 0 ≤ a0 / 2 ∧ a0 / 2 ≤ 9223372036854775807 := by omega
  have b1 : 1 ≤ a1 / 8589934592 + 1 ∧ a1 / 8589934592 + 1 ≤ 2147483648 := by omega
  go_enter Try.func8, Try.ntmps8
  go_wp2_with (go_at_call 11; refine (awake_any _).mono ?_; rintro e w' ⟨rfl, hb⟩)
  generalize a0 / 2 = x at *
  generalize a1 / 8589934592 + 1 = y at *
  have hf := ceil_facts x y b0.1 b0.2 b1.1 b1.2
  refine (ceil_any _ _ b0.1 (by omega) (by omega) (by omega) _).mono ?_
  have hB : ceilB y = true := by simp [ceilB]; omega
  rw [hB]
  rintro e w1 ⟨rfl, rfl⟩
  clear hB
  generalize ceilN x y = N at *
  go_wp2_with fail
  refine (ceil_any x 0 b0.1 (by omega) (by omega) (by omega) _).mono ?_
  rw [(ceil_none x).1, (ceil_none x).2]
  rintro e w1 ⟨rfl, rfl⟩
  by_cases h1 : 1 ≤ N
  · have hf2 := hf.2.2.2.2 h1
    have hne : (N == 0) = false := by simp; omega
    obtain ⟨f1, f2, f3, f4, _⟩ := hf
    go_wp2_with fail
    go_ret
    exact ⟨rfl, hb⟩
  · obtain rfl : N = 0 := by omega
    obtain ⟨f1, f2, f3, f4, _⟩ := hf
    go_wp2_with fail
    go_ret
    exact ⟨rfl, hb⟩

/-! ### The row's step -/
set_option maxRecDepth 100000 in
theorem lifted (os : Os) (started : os.Started) (H : Type) (enc : TypeId × Value → H) :
    ReturnsInHanded {} Try.checked os 8 .any (Rows.numCeilsSpec.pre6 enc Try.prog Try.f8 Rows.numCeilsRow.domain false) (Rows.numCeilsSpec.post enc Try.prog Try.f8 false true false false) := by
  refine returnsInHanded_of_change (C := Try.checked) own started (by kernel_rfl) Try.func8
    (ChangeSpec.witness6 (enc := enc) (C := Try.checked) false ⟨#[], #[.int .u64 0, .int .u64 0], []⟩ 8 (by kernel_rfl) (by kernel_rfl) (by kernel_rfl) (by kernel_rfl)) ?_
  intro W base args ds gs before hval0 hW hcnd _
  have hval : ∀ (j : Nat) t v, Try.f8.params[j]? = some t → args[j]? = some v → Value.okWide Try.prog W .any base t v := hval0
  have hW' := hW
  obtain ⟨p, q, hA0, hV, rfl, hfz, hnd⟩ := hW
  have hA : DataW.TrodAll enc Try.prog W 0 (fun _ => true) true Try.f8.params.toList args.toList ds p := hA0
  rw [Try.params8] at hA hval
  obtain ⟨v0, vs0, d0, ds0, p0, q0, hargs, rfl, rfl, h0, r0⟩ := trodAll_cons hA
  obtain ⟨v1, vs1, d1, ds1, p1, q1, rfl, rfl, rfl, h1, r1⟩ := trodAll_cons r0
  obtain ⟨rfl, rfl, rfl⟩ := trodAll_nil r1
  obtain rfl : args = #[v0, v1] := by cases args; simp_all
  obtain ⟨rfl, rfl⟩ := trodVars_none hV
  obtain ⟨a0, rfl, rfl, rfl, w0⟩ := open_int Try.underlying22 (hval 0 22 v0 rfl rfl) h0
  obtain ⟨a1, rfl, rfl, rfl, w1⟩ := open_int Try.underlying22 (hval 1 22 v1 rfl rfl) h1
  clear hA0 hval0
  simp only [List.append_nil] at hW'
  refine (walk a0 a1 w0 w1 W).mono fun e W' ⟨he, bel⟩ => ?_
  subst he
  exact ⟨_, rfl, _, _, _, [], [], [], hW', trodAll_mk1 (shut_bool Try.underlying4 _), (trodAll_cons_mk (shut_int Try.underlying22 w0) (trodAll_cons_mk (shut_int Try.underlying22 w1) trodAll_mk0)), rfl, bel.frame _, fun h => by cases h⟩

theorem over : Rows.numCeilsRow.holds Try.pinned (OpenSpec.ofChange Rows.numCeilsSpec) :=
  OpenClaim.holds_of_wide 8 Try.f8 rfl rfl rfl rfl rfl rfl rfl ⟨rfl, rfl, rfl, rfl, rfl⟩ rfl rfl rfl rfl rfl (by kernel_rfl) Try.func8 (by kernel_rfl)
    (of_decide_eq_true (by kernel_rfl)) (by unfold Func.isWrapper; first | (rw [if_pos (by decide +kernel)]; kernel_rfl) | (rw [if_neg (by decide +kernel)]; exact ⟨rfl, rfl⟩))
    (fun os started H enc _ => lifted os started H enc)

theorem proved : Rows.NumCeilsSaid :=
  over
#print axioms proved
end Go.Proofs.Ytilhgpjaadeplaa.numCeils
