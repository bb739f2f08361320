/- The statement Rows.LoadComparesSaid is proved: whatever the input, the call returns true and its arguments read as before. No further condition. -/
import Derived.Test.YtghijgpelkjohaaRows
import Derived.WalkKit
import Derived.Below
import Derived.ChangeOld
import Derived.ProofKit
import Derived.OpenShut
import Derived.ShutString
import Derived.Test.YtghijgpelkjohaaLWCo
namespace Go.Proofs.Ytghijgpelkjohaa.loadCompares
open Go.ChangeShapes Go.WideShapes Go.ChangeAt Go.RowKit
open Go.ChangeMaps (open_string shut_string)
set_option linter.unusedVariables false

theorem own : ownKnob Try.prog.godebug = none := by kernel_rfl
theorem laidOut : laidOutB Try.prog = true := by kernel_rfl
theorem struct_ints1 {H : Type} {enc : TypeId × Value → H} {W : World} {b : Nat} {sp : Nat → Bool} {hd : Bool} {cs : List Value} {d : DataW H} {p : List MemPlace}
    (h : DataW.Trod enc Try.prog W b sp hd 32 (.agg ⟨cs⟩) d p) (hl : (⟨cs⟩ : Array Value).size = Try.prog.cellsOf 32) : ∃ x0 x1 : Int, cs = [.int .u64 x0, .int .u64 x1] ∧ (Lit.int .u64 x0).wf = true ∧ (Lit.int .u64 x1).wf = true := by
  have c0 : Try.prog.cellsOf 32 = 2 := by kernel_rfl
  rw [c0] at hl
  obtain ⟨fuel, hf⟩ := h
  obtain ⟨ys, n', _, _, _, hyl, hf⟩ := DataW.trod_struct Try.underlying32 hf
  have hyl' : ys.length = 2 := hyl
  match cs, hl, hf with
  | [v0, v1], _, hf =>
    have ci0 : Try.prog.cellsOf 30 = 1 := by kernel_rfl
    have g0 : DataW.trod enc Try.prog W b sp hd n' 30 [v0] = ys[0]? := by
      have e : DataW.trod enc Try.prog W b sp hd n' 30 (([v0, v1].drop 0).take (Try.prog.cellsOf 30)) = ys[0]? := hf 0 _ rfl
      rw [ci0] at e
      exact e
    rw [List.getElem?_eq_getElem (by omega)] at g0
    obtain ⟨z0, e0, _, w0⟩ := DataW.trod_int Try.underlying30 g0
    have ci1 : Try.prog.cellsOf 30 = 1 := by kernel_rfl
    have g1 : DataW.trod enc Try.prog W b sp hd n' 30 [v1] = ys[1]? := by
      have e : DataW.trod enc Try.prog W b sp hd n' 30 (([v0, v1].drop 1).take (Try.prog.cellsOf 30)) = ys[1]? := hf 1 _ rfl
      rw [ci1] at e
      exact e
    rw [List.getElem?_eq_getElem (by omega)] at g1
    obtain ⟨z1, e1, _, w1⟩ := DataW.trod_int Try.underlying30 g1
    obtain rfl : v0 = .int .u64 z0 := by simpa using e0
    obtain rfl : v1 = .int .u64 z1 := by simpa using e1
    exact ⟨z0, z1, rfl, w0, w1⟩

theorem struct_ints0 {H : Type} {enc : TypeId × Value → H} {W : World} {b : Nat} {sp : Nat → Bool} {hd : Bool} {cs : List Value} {d : DataW H} {p : List MemPlace}
    (h : DataW.Trod enc Try.prog W b sp hd 32 (.agg ⟨cs⟩) d p) (hl : (⟨cs⟩ : Array Value).size = Try.prog.cellsOf 32) : ∃ x0 x1 : Int, cs = [.int .u64 x0, .int .u64 x1] ∧ (Lit.int .u64 x0).wf = true ∧ (Lit.int .u64 x1).wf = true := by
  have c0 : Try.prog.cellsOf 32 = 2 := by kernel_rfl
  rw [c0] at hl
  obtain ⟨fuel, hf⟩ := h
  obtain ⟨ys, n', _, _, _, hyl, hf⟩ := DataW.trod_struct Try.underlying32 hf
  have hyl' : ys.length = 2 := hyl
  match cs, hl, hf with
  | [v0, v1], _, hf =>
    have ci0 : Try.prog.cellsOf 30 = 1 := by kernel_rfl
    have g0 : DataW.trod enc Try.prog W b sp hd n' 30 [v0] = ys[0]? := by
      have e : DataW.trod enc Try.prog W b sp hd n' 30 (([v0, v1].drop 0).take (Try.prog.cellsOf 30)) = ys[0]? := hf 0 _ rfl
      rw [ci0] at e
      exact e
    rw [List.getElem?_eq_getElem (by omega)] at g0
    obtain ⟨z0, e0, _, w0⟩ := DataW.trod_int Try.underlying30 g0
    have ci1 : Try.prog.cellsOf 30 = 1 := by kernel_rfl
    have g1 : DataW.trod enc Try.prog W b sp hd n' 30 [v1] = ys[1]? := by
      have e : DataW.trod enc Try.prog W b sp hd n' 30 (([v0, v1].drop 1).take (Try.prog.cellsOf 30)) = ys[1]? := hf 1 _ rfl
      rw [ci1] at e
      exact e
    rw [List.getElem?_eq_getElem (by omega)] at g1
    obtain ⟨z1, e1, _, w1⟩ := DataW.trod_int Try.underlying30 g1
    obtain rfl : v0 = .int .u64 z0 := by simpa using e0
    obtain rfl : v1 = .int .u64 z1 := by simpa using e1
    exact ⟨z0, z1, rfl, w0, w1⟩


theorem in64_w {n : Int} (h : (Lit.int .i64 n).wf = true) : in64 n := by
  simp [Lit.wf, IntKind.min, IntKind.max, IntKind.bits, IntKind.signed] at h
  unfold in64
  omega
theorem u_w {n : Int} (h : (Lit.int .u64 n).wf = true) : U n := by
  simp [Lit.wf, IntKind.min, IntKind.max, IntKind.bits, IntKind.signed] at h
  exact ⟨by omega, by omega⟩

/-! ### The walk -/
theorem walk (x0_0 x0_1 : Int) (x1_0 x1_1 : Int) (a2 : Int) (w : World) (w0_0 : (Lit.int .u64 x0_0).wf = true) (w0_1 : (Lit.int .u64 x0_1).wf = true) (w1_0 : (Lit.int .u64 x1_0).wf = true) (w1_1 : (Lit.int .u64 x1_1).wf = true) (w2 : (Lit.int .i64 a2).wf = true) :
    Calls Try.prog 4 #[.agg #[.int .u64 x0_0, .int .u64 x0_1], .agg #[.int .u64 x1_0, .int .u64 x1_1], .int .i64 a2] w fun e w' => e = .returned (.bool true) ∧ Below w.heap.size w w' := by
  exact lco_walk x0_0 x0_1 x1_0 x1_1 a2 w (u_w w0_0) (u_w w0_1) (u_w w1_0) (u_w w1_1) (in64_w w2)

/-! ### The row's step -/
set_option maxRecDepth 100000 in
theorem lifted (os : Os) (started : os.Started) (H : Type) (enc : TypeId × Value → H) :
    ReturnsInHanded {} Try.checked os 4 .any (Rows.loadComparesSpec.pre6 enc Try.prog Try.f4 Rows.loadComparesRow.domain false) (Rows.loadComparesSpec.post enc Try.prog Try.f4 false true false false) := by
  refine returnsInHanded_of_change (C := Try.checked) own started (by kernel_rfl) Try.func4
    (ChangeSpec.witness6 (enc := enc) (C := Try.checked) false ⟨#[], #[.agg #[.int .u64 0, .int .u64 0], .agg #[.int .u64 0, .int .u64 0], .int .i64 0], []⟩ 8 (by kernel_rfl) (by kernel_rfl) (by kernel_rfl) (by kernel_rfl)) ?_
  intro W base args ds gs before hval0 hW hcnd _
  have hval : ∀ (j : Nat) t v, Try.f4.params[j]? = some t → args[j]? = some v → Value.okWide Try.prog W .any base t v := hval0
  have hW' := hW
  obtain ⟨p, q, hA0, hV, rfl, hfz, hnd⟩ := hW
  have hA : DataW.TrodAll enc Try.prog W 0 (fun _ => true) true Try.f4.params.toList args.toList ds p := hA0
  rw [Try.params4] at hA hval
  obtain ⟨v0, vs0, d0, ds0, p0, q0, hargs, rfl, rfl, h0, r0⟩ := trodAll_cons hA
  obtain ⟨v1, vs1, d1, ds1, p1, q1, rfl, rfl, rfl, h1, r1⟩ := trodAll_cons r0
  obtain ⟨v2, vs2, d2, ds2, p2, q2, rfl, rfl, rfl, h2, r2⟩ := trodAll_cons r1
  obtain ⟨rfl, rfl, rfl⟩ := trodAll_nil r2
  obtain rfl : args = #[v0, v1, v2] := by cases args; simp_all
  obtain ⟨rfl, rfl⟩ := trodVars_none hV
  have k0 := h0
  have lt0 : ∀ x ∈ p0, x.block < W.heap.size := by obtain ⟨m, hm⟩ := k0; exact DataW.trod_lt m _ _ _ hm
  obtain ⟨cs0, rfl, hsz0, _⟩ : ∃ cs, v0 = .agg cs ∧ cs.size = Try.prog.cellsOf 32 ∧ Row.okWide Try.prog W .any base 32 cs := by
    have := hval 0 32 v0 rfl rfl
    simpa [Value.okWide, Try.underlying32] using this
  obtain ⟨l0⟩ := cs0
  obtain ⟨x0_0, x0_1, rfl, w0_0, w0_1⟩ := struct_ints0 h0 hsz0
  have k1 := h1
  have lt1 : ∀ x ∈ p1, x.block < W.heap.size := by obtain ⟨m, hm⟩ := k1; exact DataW.trod_lt m _ _ _ hm
  obtain ⟨cs1, rfl, hsz1, _⟩ : ∃ cs, v1 = .agg cs ∧ cs.size = Try.prog.cellsOf 32 ∧ Row.okWide Try.prog W .any base 32 cs := by
    have := hval 1 32 v1 rfl rfl
    simpa [Value.okWide, Try.underlying32] using this
  obtain ⟨l1⟩ := cs1
  obtain ⟨x1_0, x1_1, rfl, w1_0, w1_1⟩ := struct_ints1 h1 hsz1
  obtain ⟨a2, rfl, rfl, rfl, w2⟩ := open_int Try.underlying3 (hval 2 3 v2 rfl rfl) h2
  clear hA0 hval0
  refine (walk x0_0 x0_1 x1_0 x1_1 a2 W w0_0 w0_1 w1_0 w1_1 w2).mono fun e W' ⟨he, bel⟩ => ?_
  subst he
  exact ⟨_, rfl, _, _, _, [], _, [], hW', trodAll_mk1 (shut_bool Try.underlying4 _), (trodAll_cons_mk (Below.trod laidOut (by kernel_rfl) (of_decide_eq_true (by kernel_rfl)) k0 bel lt0) (trodAll_cons_mk (Below.trod laidOut (by kernel_rfl) (of_decide_eq_true (by kernel_rfl)) k1 bel lt1) (trodAll_cons_mk (shut_int Try.underlying3 w2) trodAll_mk0))), rfl, bel.frame _, fun h => by cases h⟩

theorem over : Rows.loadComparesRow.holds Try.pinned (OpenSpec.ofChange Rows.loadComparesSpec) :=
  OpenClaim.holds_of_wide 4 Try.f4 rfl rfl rfl rfl rfl rfl rfl ⟨rfl, rfl, rfl, rfl, rfl⟩ rfl rfl rfl rfl rfl (by kernel_rfl) Try.func4 (by kernel_rfl)
    (of_decide_eq_true (by kernel_rfl)) (by unfold Func.isWrapper; first | (rw [if_pos (by decide +kernel)]; kernel_rfl) | (rw [if_neg (by decide +kernel)]; exact ⟨rfl, rfl⟩))
    (fun os started H enc _ => lifted os started H enc)

theorem proved : Rows.LoadComparesSaid := over
#print axioms proved
end Go.Proofs.Ytghijgpelkjohaa.loadCompares
