/- The statement Rows.NumChainsSaid is proved: whatever the input, the call returns true and its arguments read as before. No further condition. -/
import Derived.Test.YtilhgpjaadeplaaRows
import Derived.WalkKit
import Derived.Below
import Derived.ChangeOld
import Derived.ProofKit
import Derived.OpenShut
import Derived.ShutString
import Derived.Laws.IdiomArrays
import Derived.Test.YtilhgpjaadeplaaAwake
namespace Go.Proofs.Ytilhgpjaadeplaa.numChains
open Go.ChangeShapes Go.WideShapes Go.ChangeAt Go.RowKit
set_option linter.unusedVariables false

theorem own : ownKnob Try.prog.godebug = none := by kernel_rfl
theorem laidOut : laidOutB Try.prog = true := by kernel_rfl
theorem cells42 : Try.prog.cellsOf 42 = 3 := by kernel_rfl
theorem cells22 : Try.prog.cellsOf 22 = 1 := by kernel_rfl

/-! ### Contracts where all fits -/
theorem add_fit (a b : Int) (ha : 0 ≤ a) (ha1 : a ≤ 18446744073709551615) (hb : 0 ≤ b) (hb1 : b ≤ 18446744073709551615) (h : a + b ≤ 18446744073709551615) (w : World) :
    Calls Try.prog 22 #[.int .u64 a, .int .u64 b] w fun e w' => e = .returned (.tuple #[.int .u64 (a + b), .bool true]) ∧ w = w' := by
  have hc := add_any a b ha ha1 hb hb1 w
  rw [show addN a b = a + b from if_pos h, show addB a b = true from decide_eq_true h] at hc
  exact hc
theorem mul_fit (a b : Int) (ha : 0 ≤ a) (ha1 : a ≤ 18446744073709551615) (hb : 0 ≤ b) (hb1 : b ≤ 18446744073709551615) (h : a * b ≤ 18446744073709551615) (w : World) :
    Calls Try.prog 23 #[.int .u64 a, .int .u64 b] w fun e w' => e = .returned (.tuple #[.int .u64 (a * b), .bool true]) ∧ w = w' := by
  have hc := mul_any a b ha ha1 hb hb1 w
  rw [show mulN a b = a * b from if_pos h, show mulB a b = true from decide_eq_true h] at hc
  exact hc
theorem times_fit (a b : Int) (ha : 0 ≤ a) (ha1 : a ≤ 18446744073709551615) (hb : 0 ≤ b) (hb1 : b ≤ 18446744073709551615) (h : a * b ≤ 18446744073709551615) (w : World) :
    Calls Try.prog 24 #[.int .u64 a, .int .u64 b] w fun e w' => e = .returned (.int .u64 (a * b)) ∧ w = w' := by
  have hc := times_any a b ha ha1 hb hb1 w
  rw [show mulN a b = a * b from if_pos h, show mulB a b = true from decide_eq_true h] at hc
  exact hc
theorem sum_one (a b : Int) (B : Nat) (W : World) (ha : 0 ≤ a) (ha1 : a ≤ 18446744073709551615) (hb : 0 ≤ b) (hb1 : b ≤ 18446744073709551615) (hc : W.cell? ⟨B, 0, none⟩ = some (.int .u64 b)) :
    Calls Try.prog 18 #[.int .u64 a, .slice (some ⟨B, 0, none⟩) 1 1] W fun e w' => e = .returned (.int .u64 (satAdd a b)) ∧ W = w' := by
  have h0 : ∀ i, i < 1 → W.cell? ((⟨B, 0, none⟩ : Addr).add i) = some (.int .u64 ([b].getD i 0)) := by
    intro i hi
    obtain rfl : i = 0 := by omega
    simpa [Addr.add] using hc
  exact sum_any a ⟨B, 0, none⟩ 1 1 [b] ha ha1 rfl (by omega) (by unfold maxLen; omega) W h0 (by simp; omega)
theorem sat_ge (a b : Int) (ha : 0 ≤ a) (ha1 : a ≤ 18446744073709551615) (hb : 0 ≤ b) (hb1 : b ≤ 18446744073709551615) : a ≤ satAdd a b ∧ b ≤ satAdd a b := by
  unfold satAdd; split <;> omega
theorem times_ge (a b : Int) (ha : 1 ≤ a) (hb : 0 ≤ b) (hb1 : b ≤ 18446744073709551615) : b ≤ endN (mulB a b) (mulN a b) := by
  by_cases h : a * b ≤ 18446744073709551615
  · have hm : 1 * b ≤ a * b := Int.mul_le_mul_of_nonneg_right ha hb
    rw [show mulN a b = a * b from if_pos h, show mulB a b = true from decide_eq_true h]
    simp only [endN]; simp; omega
  · rw [show mulB a b = false from decide_eq_false h]; simp only [endN]; simpa using hb1
theorem prod_small (a b A B : Int) (ha : 0 ≤ a) (hA : a ≤ A) (hb : 0 ≤ b) (hB : b ≤ B) : 0 ≤ a * b ∧ a * b ≤ A * B :=
  ⟨Int.mul_nonneg ha hb, Int.mul_le_mul hA hB hb (Int.le_trans ha hA)⟩
set_option maxHeartbeats 1600000 in
set_option maxRecDepth 100000 in
theorem walk (q0 q1 q2 a b : Int) (hq0 : 0 ≤ q0 ∧ q0 ≤ 18446744073709551615) (hq1 : 0 ≤ q1 ∧ q1 ≤ 18446744073709551615) (hq2 : 0 ≤ q2 ∧ q2 ≤ 18446744073709551615)
    (ha : 0 ≤ a ∧ a ≤ 18446744073709551615) (hb : 0 ≤ b ∧ b ≤ 18446744073709551615) (w : World) :
    Calls Try.prog 10 #[.agg #[.int .u64 q0, .int .u64 q1, .int .u64 q2], .int .u64 a, .int .u64 b] w fun e w' => e = .returned (.bool true) ∧ Below w.heap.size w w' := by
  have bx : 0 ≤ q0 / 8796093022208 ∧ q0 / 8796093022208 ≤ 2097151 := by omega
  have hy : 0 ≤ q1 / 8796093022208 ∧ q1 / 8796093022208 ≤ 2097151 := by omega
  have bz : 0 ≤ q2 / 8796093022208 ∧ q2 / 8796093022208 ≤ 2097151 := by omega
  go_enter Try.func10, Try.ntmps10
  go_wp2_with fail
  refine (awake_any _).mono ?_
  rintro e w1 ⟨rfl, hb1⟩
  obtain ⟨hcl, hfr⟩ := bcell hb1
  have c0 : w1.cell? ⟨w.heap.size, 0, none⟩ = some (.int .u64 q0) := by rw [hcl _ _ (by simp)]; simp
  have c1 : w1.cell? ⟨w.heap.size, 1, none⟩ = some (.int .u64 q1) := by rw [hcl _ _ (by simp)]; simp
  have c2 : w1.cell? ⟨w.heap.size, 2, none⟩ = some (.int .u64 q2) := by rw [hcl _ _ (by simp)]; simp
  have hbel : Below w.heap.size w w1 := ((Below.refl _ _).alloc (Nat.le_refl _) _).trans (hb1.mono (by simp))
  have hsz := hbel.size
  have HB := Lib.hid hbel
  clear hcl hfr hb1 hbel
  go_wp2_with fail
  generalize q0 / 8796093022208 = x at *
  generalize q1 / 8796093022208 = y at *
  generalize q2 / 8796093022208 = z at *
  have pxy := prod_small x y 2097151 2097151 bx.1 bx.2 hy.1 hy.2
  have pxz := prod_small x z 2097151 2097151 bx.1 bx.2 bz.1 bz.2
  have pyz := prod_small y z 2097151 2097151 hy.1 hy.2 bz.1 bz.2
  have pxs := prod_small x (y + z) 2097151 4194302 bx.1 bx.2 (by omega) (by omega)
  have pt := prod_small (x * y) z 4398042316801 2097151 pxy.1 (by omega) bz.1 bz.2
  have pu := prod_small x (y * z) 2097151 4398042316801 bx.1 bx.2 pyz.1 (by omega)
  have E1 := Lib.hid (show x * (y + z) = x * y + x * z from Int.mul_add x y z)
  have E2 := Lib.hid (show x * y * z = x * (y * z) from Int.mul_assoc x y z)
  have H1 := Lib.hid (add_fit y z hy.1 (by omega) bz.1 (by omega) (by omega))
  have H2 := Lib.hid (mul_fit x (y + z) bx.1 (by omega) (by omega) (by omega) (by omega))
  have H3 := Lib.hid (mul_fit x y bx.1 (by omega) hy.1 (by omega) (by omega))
  have H4 := Lib.hid (mul_fit x z bx.1 (by omega) bz.1 (by omega) (by omega))
  have H5 := Lib.hid (mul_fit (x * y) z pxy.1 (by omega) bz.1 (by omega) (by omega))
  have H6 := Lib.hid (times_fit y z hy.1 (by omega) bz.1 (by omega) (by omega))
  have H7 := Lib.hid (mul_fit x (y * z) bx.1 (by omega) pyz.1 (by omega) (by omega))
  generalize x * (y + z) = p at *
  generalize x * y * z = t at *
  generalize x * (y * z) = u at *
  generalize x * y = xy at *
  generalize x * z = xz at *
  generalize y * z = yz at *
  have s1 : (p == xy + xz) = true := by simp [E1.out]
  have s2 : (t == u) = true := by simp [E2.out]
  refine (H1.out _).mono ?_
  rintro e w2 ⟨rfl, rfl⟩
  go_wp2_with fail
  refine (H2.out _).mono ?_
  rintro e w2 ⟨rfl, rfl⟩
  go_wp2_with fail
  refine (H3.out _).mono ?_
  rintro e w2 ⟨rfl, rfl⟩
  go_wp2_with fail
  refine (H4.out _).mono ?_
  rintro e w2 ⟨rfl, rfl⟩
  go_wp2_with fail
  refine (H5.out _).mono ?_
  rintro e w2 ⟨rfl, rfl⟩
  go_wp2_with fail
  refine (H6.out _).mono ?_
  rintro e w2 ⟨rfl, rfl⟩
  go_wp2_with fail
  refine (H7.out _).mono ?_
  rintro e w2 ⟨rfl, rfl⟩
  have sg := sat_ge a b ha.1 ha.2 hb.1 hb.2
  have S1 := Lib.hid (fun B W => sum_one a b B W ha.1 ha.2 hb.1 hb.2)
  generalize satAdd a b = s at *
  go_wp2_with fail
  refine (S1.out _ _ (by simp)).mono ?_
  rintro e w2 ⟨rfl, rfl⟩
  go_wp2_with fail
  refine (S1.out _ _ (by simp)).mono ?_
  rintro e w2 ⟨rfl, rfl⟩
  have HW : Hid (Below w.heap.size w ((w1.alloc (.cells #[.int .u64 b] 22)).alloc (.cells #[.int .u64 b] 22))) := Lib.hid ((HB.out.alloc hsz _).alloc (by simp; omega) _)
  by_cases hz : a = 0
  · subst hz
    go_wp2_with fail
    go_ret
    exact ⟨rfl, HW.out⟩
  · have hzb : (a == 0) = false := by simp; exact hz
    have T1 := Lib.hid (times_any a b ha.1 ha.2 hb.1 hb.2)
    have hge := times_ge a b (by omega) hb.1 hb.2
    generalize endN (mulB a b) (mulN a b) = tt at *
    clear hz
    go_wp2_with fail
    refine (T1.out _).mono ?_
    rintro e w2 ⟨rfl, rfl⟩
    go_wp2_with fail
    go_ret
    exact ⟨rfl, HW.out⟩

/-! ### The row's step -/
theorem list3 (l : List Value) (h : l.length = 3) : ∃ a b c, l = [a, b, c] := by
  match l, h with
  | [a, b, c], _ => exact ⟨a, b, c, rfl⟩
set_option maxRecDepth 100000 in
theorem lifted (os : Os) (started : os.Started) (H : Type) (enc : TypeId × Value → H) :
    ReturnsInHanded {} Try.checked os 10 .any (Rows.numChainsSpec.pre6 enc Try.prog Try.f10 Rows.numChainsRow.domain false) (Rows.numChainsSpec.post enc Try.prog Try.f10 false true false false) := by
  refine returnsInHanded_of_change (C := Try.checked) own started (by kernel_rfl) Try.func10
    (ChangeSpec.witness6 (enc := enc) (C := Try.checked) false ⟨#[], #[.agg #[.int .u64 0, .int .u64 0, .int .u64 0], .int .u64 0, .int .u64 0], []⟩ 8 (by kernel_rfl) (by kernel_rfl) (by kernel_rfl) (by kernel_rfl)) ?_
  intro W base args ds gs before hval0 hW hcnd _
  have hval : ∀ (j : Nat) t v, Try.f10.params[j]? = some t → args[j]? = some v → Value.okWide Try.prog W .any base t v := hval0
  have hW' := hW
  obtain ⟨p, q, hA0, hV, rfl, hfz, hnd⟩ := hW
  have hA : DataW.TrodAll enc Try.prog W 0 (fun _ => true) true Try.f10.params.toList args.toList ds p := hA0
  rw [Try.params10] at hA hval
  obtain ⟨v0, vs0, d0, ds0, p0, q0, hargs, rfl, rfl, h0, r0⟩ := trodAll_cons hA
  obtain ⟨v1, vs1, d1, ds1, p1, q1, rfl, rfl, rfl, h1, r1⟩ := trodAll_cons r0
  obtain ⟨v2, vs2, d2, ds2, p2, q2, rfl, rfl, rfl, h2, r2⟩ := trodAll_cons r1
  obtain ⟨rfl, rfl, rfl⟩ := trodAll_nil r2
  obtain rfl : args = #[v0, v1, v2] := by cases args; simp_all
  obtain ⟨rfl, rfl⟩ := trodVars_none hV
  have k0 := h0
  have lt0 : ∀ x ∈ p0, x.block < W.heap.size := by obtain ⟨m, hm⟩ := k0; exact DataW.trod_lt m _ _ _ hm
  obtain ⟨cs, rfl, hsz, _⟩ : ∃ cs, v0 = .agg cs ∧ cs.size = Try.prog.cellsOf 42 ∧ Row.okWide Try.prog W .any base 42 cs := by
    have := hval 0 42 v0 rfl rfl
    simpa [Value.okWide, Try.underlying42] using this
  rw [cells42] at hsz
  obtain ⟨l⟩ := cs
  obtain ⟨c0, c1, c2, rfl⟩ := list3 l hsz
  obtain ⟨x0, x1, x2, rfl, rfl, rfl, w0, w1, w2⟩ : ∃ x0 x1 x2 : Int, c0 = .int .u64 x0 ∧ c1 = .int .u64 x1 ∧ c2 = .int .u64 x2 ∧ (Lit.int .u64 x0).wf = true ∧ (Lit.int .u64 x1).wf = true ∧ (Lit.int .u64 x2).wf = true := by
    obtain ⟨fuel, hf⟩ := h0
    obtain ⟨y0, y1, y2, m, hx, hy0, hy1, hy2⟩ := trod_array3 Try.underlying42 cells22 hf
    obtain ⟨x0, e0, _, w0⟩ := DataW.trod_int Try.underlying22 hy0
    obtain ⟨x1, e1, _, w1⟩ := DataW.trod_int Try.underlying22 hy1
    obtain ⟨x2, e2, _, w2⟩ := DataW.trod_int Try.underlying22 hy2
    simp at e0 e1 e2
    exact ⟨x0, x1, x2, e0, e1, e2, w0, w1, w2⟩
  obtain ⟨a1, rfl, rfl, rfl, u1⟩ := open_int Try.underlying22 (hval 1 22 v1 rfl rfl) h1
  obtain ⟨a2, rfl, rfl, rfl, u2⟩ := open_int Try.underlying22 (hval 2 22 v2 rfl rfl) h2
  clear hA0 hval0
  refine (walk x0 x1 x2 a1 a2 (bounds_u64 w0) (bounds_u64 w1) (bounds_u64 w2) (bounds_u64 u1) (bounds_u64 u2) W).mono fun e W' ⟨he, bel⟩ => ?_
  subst he
  exact ⟨_, rfl, _, _, _, [], _, [], hW', trodAll_mk1 (shut_bool Try.underlying4 _), (trodAll_cons_mk (Below.trod laidOut (by kernel_rfl) (of_decide_eq_true (by kernel_rfl)) k0 bel lt0) (trodAll_cons_mk (shut_int Try.underlying22 u1) (trodAll_cons_mk (shut_int Try.underlying22 u2) trodAll_mk0))), rfl, bel.frame _, fun h => by cases h⟩

theorem over : Rows.numChainsRow.holds Try.pinned (OpenSpec.ofChange Rows.numChainsSpec) :=
  OpenClaim.holds_of_wide 10 Try.f10 rfl rfl rfl rfl rfl rfl rfl ⟨rfl, rfl, rfl, rfl, rfl⟩ rfl rfl rfl rfl rfl (by kernel_rfl) Try.func10 (by kernel_rfl)
    (of_decide_eq_true (by kernel_rfl)) (by unfold Func.isWrapper; first | (rw [if_pos (by decide +kernel)]; kernel_rfl) | (rw [if_neg (by decide +kernel)]; exact ⟨rfl, rfl⟩))
    (fun os started H enc _ => lifted os started H enc)

theorem proved : Rows.NumChainsSaid := over
#print axioms proved
end Go.Proofs.Ytilhgpjaadeplaa.numChains
