/- The statement Rows.NumShiftsSaid is proved: whatever the input, the call returns true and its arguments read as before. No further condition. -/
import Derived.Test.YtilhgpjaadeplaaRows
import Derived.WalkKit
import Derived.Below
import Derived.ChangeOld
import Derived.Test.YtilhgpjaadeplaaAwake
import Derived.ProofKit
import Derived.OpenShut
import Derived.ShutString
namespace Go.Proofs.Ytilhgpjaadeplaa.numShifts
open Go.ChangeShapes Go.WideShapes Go.ChangeAt Go.RowKit
open Go.ChangeMaps (open_string shut_string)
set_option linter.unusedVariables false      -- a walk need not use every 'w<i>' (that an integer argument fits its kind)

theorem own : ownKnob Try.prog.godebug = none := by kernel_rfl

theorem tmod_71 (n : Int) : -70 ≤ n.tmod 71 ∧ n.tmod 71 ≤ 70 := by
  by_cases h : 0 ≤ n
  · rw [Int.tmod_eq_emod_of_nonneg h]; omega
  · have e : n.tmod 71 = -((-n).tmod 71) := by rw [Int.neg_tmod]; omega
    rw [e, Int.tmod_eq_emod_of_nonneg (by omega)]; omega
theorem shN_bd (a n : Int) (ha : 0 ≤ a) (ha1 : a ≤ 18446744073709551615) : 0 ≤ shN a n ∧ shN a n ≤ 18446744073709551615 := by
  unfold shN
  have h0 : 0 ≤ a * 2 ^ n.toNat := Int.mul_nonneg ha (Int.pow_nonneg (by omega))
  have h1 := half_bd a (-n).toNat ha ha1
  split
  · exact h1
  · split <;> omega
theorem shift_back (a k : Int) (ha : 0 ≤ a) (ha1 : a ≤ 18446744073709551615) (hk : 0 ≤ k) (h : shB a k = true) : shB (shN a k) (-k) = true ∧ shN (shN a k) (-k) = a := by
  have hg : ¬ k < 0 := by omega
  have hle : a * 2 ^ k.toNat ≤ 18446744073709551615 := by simpa [shB, hg] using h
  have e : shN a k = a * 2 ^ k.toNat := by simp only [shN]; rw [if_neg hg, if_pos hle]
  rw [e]
  have hp := one_le_pow k.toNat
  by_cases h0 : k = 0
  · subst h0
    simp [shB, shN, ha1]
  · have hn : -k < 0 := by omega
    simp only [shB, shN]
    rw [if_pos hn, if_pos hn, Int.neg_neg]
    exact ⟨rfl, Int.mul_ediv_cancel _ (by omega)⟩
/-! ### The walk -/
theorem walk (a0 : Int) (a1 : Int) (w0 : (Lit.int .u64 a0).wf = true) (w1 : (Lit.int .i64 a1).wf = true) (w : World) :
    Calls Try.prog 4 #[.int .u64 a0, .int .i64 a1] w fun e w' => e = .returned (.bool true) ∧ Below w.heap.size w w' := by
  have g0 := bounds_u64 w0
  have g1 := bounds_i64 w1
  have b1 := tmod_71 a1
  go_enter Try.func4, Try.ntmps4
  go_wp2_with (go_at_call 11; refine (awake_any _).mono ?_; rintro e w' ⟨rfl, hb⟩)
  refine (shift_any _ _ g0.1 g0.2 g1.1 g1.2 _).mono ?_
  rintro e w2 ⟨rfl, rfl⟩
  go_wp2_with fail
  generalize a1.tmod 71 = k at *
  have HB := Lib.hid (shift_back a0 k g0.1 g0.2)
  have HC := Lib.hid (shN_bd a0 k g0.1 g0.2)
  have H2 := Lib.hid (refShift_any a0 k g0.1 g0.2 (by omega) (by omega))
  have H1 := Lib.hid (refShift_any a0 a1 g0.1 g0.2 g1.1 g1.2)
  have H3 : Hid (0 ≤ k → shB a0 k = true → ∀ w, Calls Try.prog 13 #[.int .u64 (shN a0 k), .int .i64 (-k)] w fun e w' => e = .returned (.tuple #[.int .u64 a0, .bool true]) ∧ w = w') := Lib.hid (by
    intro h0 h1 w
    have h := shift_any (shN a0 k) (-k) HC.out.1 HC.out.2 (by omega) (by omega) w
    rw [(HB.out h0 h1).1, (HB.out h0 h1).2] at h
    exact h)
  refine (shift_any _ _ g0.1 g0.2 (by omega) (by omega) _).mono ?_
  rintro e w2 ⟨rfl, rfl⟩
  generalize shN a0 k = y at *
  generalize shB a0 k = two at *
  generalize shN a0 a1 = x at *
  generalize shB a0 a1 = one at *
  go_wp2_with fail
  refine (H1.out _).mono ?_
  rintro e w3 ⟨rfl, hb3⟩
  go_wp2_with fail
  refine (H2.out _).mono ?_
  rintro e w4 ⟨rfl, hb4⟩
  have s3 := hb3.size
  have s4 := hb4.size
  have hbel : Below w.heap.size w w4 := ((hb.trans (hb3.mono hb.size)).alloc (by have := hb.size; omega) _).trans (hb4.mono (by have := hb.size; simp; omega))
  obtain ⟨hcl, hfr⟩ := bcell hb4
  have c0 : w4.cell? ⟨w3.heap.size, 0, none⟩ = some (.int .u64 x) := by rw [hcl _ _ (by simp)]; simp
  have c1 : w4.cell? ⟨w3.heap.size, 1, none⟩ = some (.bool one) := by rw [hcl _ _ (by simp)]; simp
  have s5 : w3.heap.size < w4.heap.size := by simp at s4; omega
  have s6 : w.heap.size ≤ w4.heap.size := hbel.size
  have HL := Lib.hid (hbel.alloc s6 (.cells #[.int .u64 y, .bool two] 30))
  clear hcl hfr hb4 hb3 hb hbel s3 s4
  by_cases hk : 0 ≤ k
  · cases two
    · go_wp2_with fail
      go_ret
      exact ⟨rfl, HL.out⟩
    · have H4 := Lib.hid (H3.out hk rfl)
      go_wp2_with fail
      refine (H4.out _).mono ?_
      rintro e w5 ⟨rfl, rfl⟩
      go_wp2_with fail
      go_ret
      exact ⟨rfl, HL.out⟩
  · go_wp2_with fail
    go_ret
    exact ⟨rfl, HL.out⟩

/-! ### The row's step -/
set_option maxRecDepth 100000 in
theorem lifted (os : Os) (started : os.Started) (H : Type) (enc : TypeId × Value → H) :
    ReturnsInHanded {} Try.checked os 4 .any (Rows.numShiftsSpec.pre6 enc Try.prog Try.f4 Rows.numShiftsRow.domain false) (Rows.numShiftsSpec.post enc Try.prog Try.f4 false true false false) := by
  refine returnsInHanded_of_change (C := Try.checked) own started (by kernel_rfl) Try.func4
    (ChangeSpec.witness6 (enc := enc) (C := Try.checked) false ⟨#[], #[.int .u64 0, .int .i64 0], []⟩ 8 (by kernel_rfl) (by kernel_rfl) (by kernel_rfl) (by kernel_rfl)) ?_
  intro W base args ds gs before hval0 hW hcnd _
  have hval : ∀ (j : Nat) t v, Try.f4.params[j]? = some t → args[j]? = some v → Value.okWide Try.prog W .any base t v := hval0
  have hW' := hW
  obtain ⟨p, q, hA0, hV, rfl, hfz, hnd⟩ := hW
  have hA : DataW.TrodAll enc Try.prog W 0 (fun _ => true) true Try.f4.params.toList args.toList ds p := hA0
  rw [Try.params4] at hA hval
  obtain ⟨v0, vs0, d0, ds0, p0, q0, hargs, rfl, rfl, h0, r0⟩ := trodAll_cons hA
  obtain ⟨v1, vs1, d1, ds1, p1, q1, rfl, rfl, rfl, h1, r1⟩ := trodAll_cons r0
  obtain ⟨rfl, rfl, rfl⟩ := trodAll_nil r1
  obtain rfl : args = #[v0, v1] := by cases args; simp_all
  obtain ⟨rfl, rfl⟩ := trodVars_none hV
  obtain ⟨a0, rfl, rfl, rfl, w0⟩ := open_int Try.underlying22 (hval 0 22 v0 rfl rfl) h0
  obtain ⟨a1, rfl, rfl, rfl, w1⟩ := open_int Try.underlying3 (hval 1 3 v1 rfl rfl) h1
  clear hA0 hval0
  simp only [List.append_nil] at hW'
  refine (walk a0 a1 w0 w1 W).mono fun e W' ⟨he, bel⟩ => ?_
  subst he
  exact ⟨_, rfl, _, _, _, [], [], [], hW', trodAll_mk1 (shut_bool Try.underlying4 _), (trodAll_cons_mk (shut_int Try.underlying22 w0) (trodAll_cons_mk (shut_int Try.underlying3 w1) trodAll_mk0)), rfl, bel.frame _, fun h => by cases h⟩

theorem over : Rows.numShiftsRow.holds Try.pinned (OpenSpec.ofChange Rows.numShiftsSpec) :=
  OpenClaim.holds_of_wide 4 Try.f4 rfl rfl rfl rfl rfl rfl rfl ⟨rfl, rfl, rfl, rfl, rfl⟩ rfl rfl rfl rfl rfl (by kernel_rfl) Try.func4 (by kernel_rfl)
    (of_decide_eq_true (by kernel_rfl)) (by unfold Func.isWrapper; first | (rw [if_pos (by decide +kernel)]; kernel_rfl) | (rw [if_neg (by decide +kernel)]; exact ⟨rfl, rfl⟩))
    (fun os started H enc _ => lifted os started H enc)

theorem proved : Rows.NumShiftsSaid :=
  over
#print axioms proved
end Go.Proofs.Ytilhgpjaadeplaa.numShifts
