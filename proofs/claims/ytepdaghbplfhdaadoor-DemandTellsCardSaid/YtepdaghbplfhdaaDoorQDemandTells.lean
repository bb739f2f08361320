/- The statement Rows.DemandTellsCardSaid is proved: whatever the input, the call returns true and its arguments read as before. No condition but the card's own: the table of the library that its row lists reads as the program's text lays it, and the card ties it to that text. -/
import Derived.Test.YtepdaghbplfhdaaDoorRows
import Derived.WalkKit
import Derived.Below
import Derived.ChangeOld
import Derived.ProofKit
import Derived.OpenShut
import Derived.ShutString
import Derived.Test.YtepdaghbplfhdaaDoorWDWTe
import Derived.Test.YtepdaghbplfhdaaDoorG7
import Derived.Test.YtepdaghbplfhdaaDoorTie
import Derived.Test.YtepdaghbplfhdaaDoorCards
import Derived.SevenTiedAt
import Derived.LaidMore
import Derived.Stop.Joined
namespace Go.Proofs.YtepdaghbplfhdaaDoor.demandTells
open Go.ChangeShapes Go.WideShapes Go.ChangeAt Go.RowKit
open Go.ChangeMaps (open_string shut_string)
set_option linter.unusedVariables false

set_option maxRecDepth 100000 in
theorem struct_ints2 {H : Type} {enc : TypeId × Value → H} {W : World} {b : Nat} {sp : Nat → Bool} {hd : Bool} {cs : List Value} {d : DataW H} {p : List MemPlace}
    (h : DataW.Trod enc Tryd.prog W b sp hd 26 (.agg ⟨cs⟩) d p) (hl : (⟨cs⟩ : Array Value).size = Tryd.prog.cellsOf 26) : ∃ x0 x1 : Int, cs = [.int .i64 x0, .int .u64 x1] ∧ (Lit.int .i64 x0).wf = true ∧ (Lit.int .u64 x1).wf = true := by
  have c0 : Tryd.prog.cellsOf 26 = 2 := by kernel_rfl
  rw [c0] at hl
  obtain ⟨fuel, hf⟩ := h
  obtain ⟨ys, n', _, _, _, hyl, hf⟩ := DataW.trod_struct Tryd.underlying26 hf
  have hyl' : ys.length = 2 := hyl
  match cs, hl, hf with
  | [v0, v1], _, hf =>
    have ci0 : Tryd.prog.cellsOf 3 = 1 := by kernel_rfl
    have g0 : DataW.trod enc Tryd.prog W b sp hd n' 3 [v0] = ys[0]? := by
      have e : DataW.trod enc Tryd.prog W b sp hd n' 3 (([v0, v1].drop 0).take (Tryd.prog.cellsOf 3)) = ys[0]? := hf 0 _ rfl
      rw [ci0] at e
      exact e
    rw [List.getElem?_eq_getElem (by omega)] at g0
    obtain ⟨z0, e0, _, w0⟩ := DataW.trod_int Tryd.underlying3 g0
    have ci1 : Tryd.prog.cellsOf 24 = 1 := by kernel_rfl
    have g1 : DataW.trod enc Tryd.prog W b sp hd n' 24 [v1] = ys[1]? := by
      have e : DataW.trod enc Tryd.prog W b sp hd n' 24 (([v0, v1].drop 1).take (Tryd.prog.cellsOf 24)) = ys[1]? := hf 1 _ rfl
      rw [ci1] at e
      exact e
    rw [List.getElem?_eq_getElem (by omega)] at g1
    obtain ⟨z1, e1, _, w1⟩ := DataW.trod_int Tryd.underlying24 g1
    obtain rfl : v0 = .int .i64 z0 := by simpa using e0
    obtain rfl : v1 = .int .u64 z1 := by simpa using e1
    exact ⟨z0, z1, rfl, w0, w1⟩


theorem in64_w {n : Int} (h : (Lit.int .i64 n).wf = true) : in64 n := by
  simp [Lit.wf, IntKind.min, IntKind.max, IntKind.bits, IntKind.signed] at h
  unfold in64
  omega
theorem u64_w {n : Int} (h : (Lit.int .u64 n).wf = true) : U n := by
  simp [Lit.wf, IntKind.min, IntKind.max, IntKind.bits, IntKind.signed] at h
  constructor <;> omega

/-! ### The walk -/
theorem walk (A0 : Option Addr) (cap0 : Nat) (l0 : List Sp) (A1 : Option Addr) (cap1 : Nat) (l1 : List Ts) (x2_0 x2_1 : Int) (w : World) (hT : Tab w) (w0 : SRow w A0 cap0 l0) (w1 : Row w A1 cap1 l1) (w2_0 : (Lit.int .i64 x2_0).wf = true) (w2_1 : (Lit.int .u64 x2_1).wf = true) :
    Calls Tryd.prog 3 #[.slice A0 l0.length cap0, .slice A1 l1.length cap1, .agg #[.int .i64 x2_0, .int .u64 x2_1]] w fun e w' => e = .returned (.bool true) ∧ Below w.heap.size w w' := by
  exact dte_walk A0 cap0 l0 A1 cap1 l1 x2_0 x2_1 w hT w0 w1 (in64_w w2_0) (u64_w w2_1)

/-! ### The row's step -/
set_option maxRecDepth 100000 in
theorem lifted (os : Os) (started : os.Started) (H : Type) (enc : TypeId × Value → H) :
    ReturnsInHanded {} Tryd.checked os 3 .any (fun w args => (Rows.demandTellsSpec.pre enc Tryd.prog Tryd.f3 [] false w args ∧ laidMetH Tryd.prog LL w) ∧ sizedMet enc Tryd.prog Tryd.f3 (OpenSpec.ofChange Rows.demandTellsSpec) false w args)
      (Rows.demandTellsSpec.post enc Tryd.prog Tryd.f3 false true false false) := by
  refine returnsInHanded_of_change_and (C := Tryd.checked) (X := fun w _ => laidMetH Tryd.prog LL w) (fun _ _ _ hh h => h.of_heap hh) own started (by kernel_rfl) Tryd.func3
    (ChangeSpec.witness_shaped (enc := enc) (C := Tryd.checked) (os := os) (X := fun w _ => laidMetH Tryd.prog LL w) false (World.doorLaid Tryd.prog 4000 os) #[.slice none 0 0, .slice none 0 0, .agg #[.int .i64 0, .int .u64 0]] 8 rfl (World.shaped_of_RefB (by kernel_rfl) (by kernel_rfl)) (by kernel_rfl) (by kernel_rfl) (by kernel_rfl) (door_met os _)) ?_
  intro W base args ds gs before hval0 hW _ _ hL _
  have hval : ∀ (j : Nat) t v, Tryd.f3.params[j]? = some t → args[j]? = some v → Value.okWide Tryd.prog W .any base t v := hval0
  have hW' := hW
  obtain ⟨p, q, hA0, hV, rfl, hfz, hnd⟩ := hW
  have hA : DataW.TrodAll enc Tryd.prog W 0 (fun _ => true) true Tryd.f3.params.toList args.toList ds p := hA0
  rw [Tryd.params3] at hA hval
  obtain ⟨v0, vs0, d0, ds0, p0, q0, hargs, rfl, rfl, h0, r0⟩ := trodAll_cons hA
  obtain ⟨v1, vs1, d1, ds1, p1, q1, rfl, rfl, rfl, h1, r1⟩ := trodAll_cons r0
  obtain ⟨v2, vs2, d2, ds2, p2, q2, rfl, rfl, rfl, h2, r2⟩ := trodAll_cons r1
  obtain ⟨rfl, rfl, rfl⟩ := trodAll_nil r2
  obtain rfl : args = #[v0, v1, v2] := by cases args; simp_all
  obtain ⟨rfl, rfl⟩ := trodVars_none hV
  have hT := tab_of_laid hL
  obtain ⟨A00, len00, cap00, e00⟩ := okWide_slice Tryd.underlying22 (hval 0 22 v0 rfl rfl)
  have k0 := h0
  have lt0 : ∀ x ∈ p0, x.block < W.heap.size := by obtain ⟨m, hm⟩ := k0; exact DataW.trod_lt m _ _ _ hm
  obtain ⟨A0, cap0, l0, e0, w0⟩ : ∃ A cap l, v0 = .slice A l.length cap ∧ SRow W A cap l := by
    obtain ⟨fuel, hf⟩ := h0
    rw [e00] at hf
    obtain ⟨A, cap, l, e, ha⟩ := read_specs hf
    exact ⟨A, cap, l, by rw [e00, e], ha⟩
  subst e0
  obtain ⟨A01, len01, cap01, e01⟩ := okWide_slice Tryd.underlying23 (hval 1 23 v1 rfl rfl)
  have k1 := h1
  have lt1 : ∀ x ∈ p1, x.block < W.heap.size := by obtain ⟨m, hm⟩ := k1; exact DataW.trod_lt m _ _ _ hm
  obtain ⟨A1, cap1, l1, e1, w1⟩ : ∃ A cap l, v1 = .slice A l.length cap ∧ Row W A cap l := by
    obtain ⟨fuel, hf⟩ := h1
    rw [e01] at hf
    obtain ⟨A, cap, l, e, ha⟩ := read_tasks hf
    exact ⟨A, cap, l, by rw [e01, e], ha⟩
  subst e1
  have k2 := h2
  have lt2 : ∀ x ∈ p2, x.block < W.heap.size := by obtain ⟨m, hm⟩ := k2; exact DataW.trod_lt m _ _ _ hm
  obtain ⟨cs2, rfl, hsz2, _⟩ : ∃ cs, v2 = .agg cs ∧ cs.size = Tryd.prog.cellsOf 26 ∧ Row.okWide Tryd.prog W .any base 26 cs := by
    have := hval 2 26 v2 rfl rfl
    simpa [Value.okWide, Tryd.underlying26] using this
  obtain ⟨l2⟩ := cs2
  obtain ⟨x2_0, x2_1, rfl, w2_0, w2_1⟩ := struct_ints2 h2 hsz2
  clear hA0 hval0
  refine (walk A0 cap0 l0 A1 cap1 l1 x2_0 x2_1 W hT w0 w1 w2_0 w2_1).mono fun e W' ⟨he, bel⟩ => ?_
  subst he
  exact ⟨_, rfl, _, _, _, [], _, [], hW', trodAll_mk1 (shut_bool Tryd.underlying4 _), (trodAll_cons_mk (Below.trod laidOut (by kernel_rfl) (of_decide_eq_true (by kernel_rfl)) k0 bel lt0) (trodAll_cons_mk (Below.trod laidOut (by kernel_rfl) (of_decide_eq_true (by kernel_rfl)) k1 bel lt1) (trodAll_cons_mk (Below.trod laidOut (by kernel_rfl) (of_decide_eq_true (by kernel_rfl)) k2 bel lt2) trodAll_mk0))), rfl, bel.frame _, fun h => by cases h⟩

theorem over : Rows.DemandTellsSaid :=
  OpenClaim.holds_of_wide 3 Tryd.f3 rfl rfl rfl rfl rfl rfl rfl ⟨rfl, rfl, rfl, rfl, rfl⟩ rfl rfl rfl rfl rfl (by kernel_rfl) Tryd.func3 (by kernel_rfl)
    (of_decide_eq_true (by kernel_rfl)) (by unfold Func.isWrapper; first | (rw [if_pos (by decide +kernel)]; kernel_rfl) | (rw [if_neg (by decide +kernel)]; exact ⟨rfl, rfl⟩))
    (fun os started H enc _ => lifted os started H enc)

theorem proved : Rows.DemandTellsCardSaid :=
  Claim7.holds_tied_plain_at .later [] [.data] true Rows.demandTellsCard.stood.harness false
    over (fun _ h => by cases h) (by kernel_rfl) (fun _ h => by cases h) demandTells_row_tie rfl ⟨rfl, rfl⟩ (by kernel_rfl) rfl
    (fun f fn hf hfn => by
      obtain rfl : f = 3 := Option.some.inj ((show Tryd.prog.funcNamed Rows.demandTellsRow.func = some 3 by kernel_rfl).symm.trans hf) |>.symm
      obtain rfl : fn = Tryd.f3 := (Option.some.inj (Tryd.func3.symm.trans hfn)).symm
      exact ⟨by kernel_rfl, fun j t ht => by
        rw [Tryd.params3] at ht
        have hm : t ∈ [22, 23, 26] := by simpa using Array.mem_of_getElem? ht
        have hall : ([22, 23, 26].all fun u => !Tryd.prog.wantsStandIn u) = true := by kernel_rfl
        exact (show Tryd.prog.wantsStandIn t = false by simpa using List.all_eq_true.1 hall t hm)⟩)
    (by kernel_rfl)
#print axioms proved
end Go.Proofs.YtepdaghbplfhdaaDoor.demandTells
