/- The statement Rows.TraceFitsSaid is proved: whatever the input, the call returns true and its arguments read as before. No further condition. -/
import Derived.Test.YtngmaiiibinkaaaGreatRows
import Derived.WalkKit
import Derived.Below
import Derived.ChangeOld
import Derived.ProofKit
import Derived.OpenShut
import Derived.ShutString
import Derived.Test.YtngmaiiibinkaaaGreatWTFi
namespace Go.Proofs.YtngmaiiibinkaaaGreat.traceFits
open Go.ChangeShapes Go.WideShapes Go.ChangeAt Go.RowKit
open Go.ChangeMaps (open_string shut_string)
set_option linter.unusedVariables false

theorem own : ownKnob Tryz.prog.godebug = none := by kernel_rfl
theorem laidOut : laidOutB Tryz.prog = true := by kernel_rfl
theorem array_ints2 {H : Type} {enc : TypeId × Value → H} {W : World} {b : Nat} {sp : Nat → Bool} {hd : Bool} {cs : List Value} {d : DataW H} {p : List MemPlace}
    (h : DataW.Trod enc Tryz.prog W b sp hd 51 (.agg ⟨cs⟩) d p) : ∃ x2_0 x2_1 : Int, cs = [.int .i64 x2_0, .int .i64 x2_1] ∧ (Lit.int .i64 x2_0).wf = true ∧ (Lit.int .i64 x2_1).wf = true := by
  have c1 : Tryz.prog.cellsOf 51 = 2 := by kernel_rfl
  have c2 : Tryz.prog.cellsOf 3 = 1 := by kernel_rfl
  obtain ⟨fuel, hf⟩ := h
  obtain ⟨ys, m, _, _, hlen, hys, hel⟩ := DataW.trod_array Tryz.underlying51 hf
  simp only [Value.cells, c1] at hlen
  rw [c2] at hel

  match cs, hlen with
  | [c0, c1], _ =>
    obtain ⟨y0, hy0⟩ : ∃ y, ys[0]? = some y := ⟨ys[0], List.getElem?_eq_getElem (by omega)⟩
    have g0 := hel 0 (by omega)
    rw [hy0] at g0
    obtain ⟨x0, e0, _, w0⟩ := DataW.trod_int Tryz.underlying3 g0
    simp [Value.cells] at e0
    obtain ⟨y1, hy1⟩ : ∃ y, ys[1]? = some y := ⟨ys[1], List.getElem?_eq_getElem (by omega)⟩
    have g1 := hel 1 (by omega)
    rw [hy1] at g1
    obtain ⟨x1, e1, _, w1⟩ := DataW.trod_int Tryz.underlying3 g1
    simp [Value.cells] at e1
    exact ⟨x0, x1, by simp [e0, e1], w0, w1⟩


theorem in64_w {n : Int} (h : (Lit.int .i64 n).wf = true) : in64 n := by
  simp [Lit.wf, IntKind.min, IntKind.max, IntKind.bits, IntKind.signed] at h
  unfold in64
  omega

/-! ### The walk -/
theorem walk (A0 : Option Addr) (cap0 : Nat) (l0 : List Sp) (A1 : Option Addr) (cap1 : Nat) (l1 : List Fv) (x2_0 x2_1 : Int) (w : World) (w0 : SRow w A0 cap0 l0) (w1 : FRow w A1 cap1 l1) (w2_0 : (Lit.int .i64 x2_0).wf = true) (w2_1 : (Lit.int .i64 x2_1).wf = true) :
    Calls Tryz.prog 5 #[.slice A0 l0.length cap0, .slice A1 l1.length cap1, .agg #[.int .i64 x2_0, .int .i64 x2_1]] w fun e w' => e = .returned (.bool true) ∧ Below w.heap.size w w' := by
  exact tfi_walk A0 cap0 l0 A1 cap1 l1 x2_0 x2_1 w w0 w1 (in64_w w2_0) (in64_w w2_1)

/-! ### The row's step -/
set_option maxRecDepth 100000 in
theorem lifted (os : Os) (started : os.Started) (H : Type) (enc : TypeId × Value → H) :
    ReturnsInHanded {} Tryz.checked os 5 .any (Rows.traceFitsSpec.pre6 enc Tryz.prog Tryz.f5 Rows.traceFitsRow.domain false) (Rows.traceFitsSpec.post enc Tryz.prog Tryz.f5 false true false false) := by
  refine returnsInHanded_of_change (C := Tryz.checked) own started (by kernel_rfl) Tryz.func5
    (ChangeSpec.witness6 (enc := enc) (C := Tryz.checked) false ⟨#[], #[.slice none 0 0, .slice none 0 0, .agg #[.int .i64 0, .int .i64 0]], []⟩ 8 (by kernel_rfl) (by kernel_rfl) (by kernel_rfl) (by kernel_rfl)) ?_
  intro W base args ds gs before hval0 hW hcnd _
  have hval : ∀ (j : Nat) t v, Tryz.f5.params[j]? = some t → args[j]? = some v → Value.okWide Tryz.prog W .any base t v := hval0
  have hW' := hW
  obtain ⟨p, q, hA0, hV, rfl, hfz, hnd⟩ := hW
  have hA : DataW.TrodAll enc Tryz.prog W 0 (fun _ => true) true Tryz.f5.params.toList args.toList ds p := hA0
  rw [Tryz.params5] at hA hval
  obtain ⟨v0, vs0, d0, ds0, p0, q0, hargs, rfl, rfl, h0, r0⟩ := trodAll_cons hA
  obtain ⟨v1, vs1, d1, ds1, p1, q1, rfl, rfl, rfl, h1, r1⟩ := trodAll_cons r0
  obtain ⟨v2, vs2, d2, ds2, p2, q2, rfl, rfl, rfl, h2, r2⟩ := trodAll_cons r1
  obtain ⟨rfl, rfl, rfl⟩ := trodAll_nil r2
  obtain rfl : args = #[v0, v1, v2] := by cases args; simp_all
  obtain ⟨rfl, rfl⟩ := trodVars_none hV
  obtain ⟨A00, len00, cap00, e00⟩ := okWide_slice Tryz.underlying22 (hval 0 22 v0 rfl rfl)
  have k0 := h0
  have lt0 : ∀ x ∈ p0, x.block < W.heap.size := by obtain ⟨m, hm⟩ := k0; exact DataW.trod_lt m _ _ _ hm
  obtain ⟨A0, cap0, l0, e0, w0⟩ : ∃ A cap l, v0 = .slice A l.length cap ∧ SRow W A cap l := by
    obtain ⟨fuel, hf⟩ := h0
    rw [e00] at hf
    obtain ⟨A, cap, l, e, ha⟩ := read_specs hf
    exact ⟨A, cap, l, by rw [e00, e], ha⟩
  subst e0
  obtain ⟨A01, len01, cap01, e01⟩ := okWide_slice Tryz.underlying23 (hval 1 23 v1 rfl rfl)
  have k1 := h1
  have lt1 : ∀ x ∈ p1, x.block < W.heap.size := by obtain ⟨m, hm⟩ := k1; exact DataW.trod_lt m _ _ _ hm
  obtain ⟨A1, cap1, l1, e1, w1⟩ : ∃ A cap l, v1 = .slice A l.length cap ∧ FRow W A cap l := by
    obtain ⟨fuel, hf⟩ := h1
    rw [e01] at hf
    obtain ⟨A, cap, l, e, ha⟩ := read_raws hf
    exact ⟨A, cap, l, by rw [e01, e], ha⟩
  subst e1
  have k2 := h2
  have lt2 : ∀ x ∈ p2, x.block < W.heap.size := by obtain ⟨m, hm⟩ := k2; exact DataW.trod_lt m _ _ _ hm
  obtain ⟨cs2, rfl, hsz2, _⟩ : ∃ cs, v2 = .agg cs ∧ cs.size = Tryz.prog.cellsOf 51 ∧ Row.okWide Tryz.prog W .any base 51 cs := by
    have := hval 2 51 v2 rfl rfl
    simpa [Value.okWide, Tryz.underlying51] using this
  obtain ⟨l2⟩ := cs2
  obtain ⟨x2_0, x2_1, rfl, w2_0, w2_1⟩ := array_ints2 h2
  clear hA0 hval0
  refine (walk A0 cap0 l0 A1 cap1 l1 x2_0 x2_1 W w0 w1 w2_0 w2_1).mono fun e W' ⟨he, bel⟩ => ?_
  subst he
  exact ⟨_, rfl, _, _, _, [], _, [], hW', trodAll_mk1 (shut_bool Tryz.underlying4 _), (trodAll_cons_mk (Below.trod laidOut (by kernel_rfl) (of_decide_eq_true (by kernel_rfl)) k0 bel lt0) (trodAll_cons_mk (Below.trod laidOut (by kernel_rfl) (of_decide_eq_true (by kernel_rfl)) k1 bel lt1) (trodAll_cons_mk (Below.trod laidOut (by kernel_rfl) (of_decide_eq_true (by kernel_rfl)) k2 bel lt2) trodAll_mk0))), rfl, bel.frame _, fun h => by cases h⟩

theorem over : Rows.traceFitsRow.holds Tryz.pinned (OpenSpec.ofChange Rows.traceFitsSpec) :=
  OpenClaim.holds_of_wide 5 Tryz.f5 rfl rfl rfl rfl rfl rfl rfl ⟨rfl, rfl, rfl, rfl, rfl⟩ rfl rfl rfl rfl rfl (by kernel_rfl) Tryz.func5 (by kernel_rfl)
    (of_decide_eq_true (by kernel_rfl)) (by unfold Func.isWrapper; first | (rw [if_pos (by decide +kernel)]; kernel_rfl) | (rw [if_neg (by decide +kernel)]; exact ⟨rfl, rfl⟩))
    (fun os started H enc _ => lifted os started H enc)

theorem proved : Rows.TraceFitsSaid := over
#print axioms proved
end Go.Proofs.YtngmaiiibinkaaaGreat.traceFits
