/- The statement Rows.SimBelowCardSaid is proved: whatever the input, the call returns true and its arguments read as before. No condition but the card's own: the table of the library that its row lists reads as the program's text lays it, and the card ties it to that text. -/
import Derived.WalkKit
import Derived.Below
import Derived.ChangeOld
import Derived.ProofKit
import Derived.OpenShut
import Derived.ShutString
import Derived.SevenTiedAt
import Derived.LaidMore
import Derived.Stop.Joined
import Derived.Handy
import Derived.Lib.Hide
import Derived.Deep.MidRow
import Derived.Deep.QuietTactic
import Derived.BigQuiet
import Derived.Deep.RegionHeld3
import Derived.Laws.Externs
import Derived.RangeFuncBox
import Derived.Deep.CutBlock
import Derived.Deep.LoopGhost
import Derived.WalkMore
import Derived.OrdersIn
import Derived.Stop.RegionWithIn
import Derived.Deep.RegionLaw
import Derived.Laws.OwnMore
import Derived.Deep.CutRange
import Derived.Deep.Quiet
import Derived.Deep.RegionHeld
import Derived.Laws.AppendOwn
import Derived.Lib.LaidTab
import Derived.Laws.CopyOwn
import Derived.IntWalk
import Derived.OwnWalk
import Derived.BigRegion
import Derived.Deep.DrawnRows
import Derived.Deep.RegionHeldLaw
import Derived.LoopIn
import Derived.LoopNIn
import Derived.TacticsInMore
import Derived.OwnWalkIn
import Derived.RangeFuncNested
import Derived.RangeFuncBound
import Derived.RangeFuncCalls
import Derived.RangeFuncLeaves
import Derived.RangeFuncWrites
import Derived.Shelf.Abstract
import Derived.StillTailTactics
import Derived.Lib.SliceRun
import Derived.Deep.AppendSrc
import Derived.Deep.Upon
import Derived.Deep.DeepAppendWide
import Derived.Sort.LoopGhostIn
import Derived.Laws.MakeOwn
import Derived.Shelf.SlGeneric
import Derived.Shelf.Spec.SlicesGrow
import Derived.Ground.Names8Prog
import Derived.Laws.AppendOwnNone
import Derived.Shelf.SlSortCmp.Whole1
import Derived.Ground.SlsfProg
import Derived.Ground.SlgnProg
import Derived.Laws.ShiftsVarLaws
import Derived.Outline
import Derived.Laws.Bits128
import Derived.Deep.RegionWith
import Derived.Shelf.RegionOpen
import Derived.Laws.BytesString
import Derived.RangeFuncRecord
import Derived.MapKept
import Derived.Maps.AppendAt
import Derived.Shelf.SlSortCmp.NoneTotal
import Derived.Laws.Bits64b
import Derived.Shelf.Small.Bits
import Derived.Shelf.Small.Strs
import Derived.Shelf.Small.Wraps
import Derived.Shelf.Strconv.Itoa0
import Derived.Shelf.LaysM
import Derived.Shelf.Strconv.Clone
import Derived.Shelf.Strings.Search1
import Derived.Shelf.Bits.Mul64
import Derived.Ground.Names2Prog
import Derived.Shelf.Slices.SearchI
import Derived.Deep.OwnRows
import Derived.Test.YthfkbbiaemmndaaGreatDoorRows
import Derived.Test.YthfkbbiaemmndaaGreatDoorTie
import Derived.Test.YthfkbbiaemmndaaGreatDoorCards
import Derived.Test.YthfkbbiaemmndaaGreatDoorProg
import Derived.Test.YthfkbbiaemmndaaGreatDoorG3
import Derived.Test.YthfkbbiaemmndaaGreatDoorG4
import Derived.Test.YthfkbbiaemmndaaGreatDoorG5
import Derived.Test.YthfkbbiaemmndaaGreatDoorG6
import Derived.Test.YthfkbbiaemmndaaGreatDoorG7
import Derived.Test.YthfkbbiaemmndaaGreatDoorG8
import Derived.Test.YthfkbbiaemmndaaGreatDoorG9
import Derived.Test.YthfkbbiaemmndaaGreatDoorG10
import Derived.Test.YthfkbbiaemmndaaGreatDoorG11
import Derived.Test.YthfkbbiaemmndaaGreatDoorG13
import Derived.Test.YthfkbbiaemmndaaGreatDoorG14
import Derived.Test.YthfkbbiaemmndaaGreatDoorG16
import Derived.Test.YthfkbbiaemmndaaGreatDoorG17
import Derived.Test.YthfkbbiaemmndaaGreatDoorG19
import Derived.Test.YthfkbbiaemmndaaGreatDoorG20
import Derived.Test.YthfkbbiaemmndaaGreatDoorG25
import Derived.Test.YthfkbbiaemmndaaGreatDoorG27
import Derived.Test.YthfkbbiaemmndaaGreatDoorG36
import Derived.Test.YthfkbbiaemmndaaGreatDoorG38
import Derived.Test.YthfkbbiaemmndaaGreatDoorG49
import Derived.Test.YthfkbbiaemmndaaGreatDoorG50
namespace Go.Proofs.YthfkbbiaemmndaaGreatDoor.simBelow
open Go.ChangeShapes Go.WideShapes Go.ChangeAt Go.RowKit
open Go.ChangeMaps (open_string shut_string)
set_option linter.unusedVariables false


theorem in64_w {n : Int} (h : (Lit.int .i64 n).wf = true) : in64 n := by
  simp [Lit.wf, IntKind.min, IntKind.max, IntKind.bits, IntKind.signed] at h
  unfold in64
  omega

/-! ### The walk -/
theorem walk (A0 : Option Addr) (cap0 : Nat) (l0 : List Sp) (A1 : Option Addr) (cap1 : Nat) (l1 : List Fv) (a2 : Int) (w : World) (hT : Tab w) (w0 : SRow w A0 cap0 l0) (w1 : FRow w A1 cap1 l1) (w2 : (Lit.int .i64 a2).wf = true) :
    Calls Tryz.prog 5 #[.slice A0 l0.length cap0, .slice A1 l1.length cap1, .int .i64 a2] w fun e w' => e = .returned (.bool true) ∧ Below w.heap.size w w' := by
  exact sbe_walk (fun ts hs E SP hE => scripts_any hs hE) A0 cap0 l0 A1 cap1 l1 a2 w hT w0 w1 (in64_w w2)

/-! ### The row's step -/
set_option maxRecDepth 100000 in
theorem lifted (os : Os) (started : os.Started) (H : Type) (enc : TypeId × Value → H) :
    ReturnsInHanded {} Tryz.checked os 5 .any (fun w args => (Rows.simBelowSpec.pre enc Tryz.prog Tryz.f5 [] false w args ∧ laidMetH Tryz.prog LL w) ∧ sizedMet enc Tryz.prog Tryz.f5 (OpenSpec.ofChange Rows.simBelowSpec) false w args)
      (Rows.simBelowSpec.post enc Tryz.prog Tryz.f5 false true false false) := by
  refine returnsInHanded_of_change_and (C := Tryz.checked) (X := fun w _ => laidMetH Tryz.prog LL w) (fun _ _ _ hh h => h.of_heap hh) own started (by kernel_rfl) Tryz.func5
    (ChangeSpec.witness_shaped (enc := enc) (C := Tryz.checked) (os := os) (X := fun w _ => laidMetH Tryz.prog LL w) false (World.doorLaid Tryz.prog 4000 os) #[.slice none 0 0, .slice none 0 0, .int .i64 0] 8 rfl (World.shaped_of_RefB (by kernel_rfl) (by kernel_rfl)) (by kernel_rfl) (by kernel_rfl) (by kernel_rfl) (door_met os _)) ?_
  intro W base args ds gs before hval0 hW _ _ hL _
  have hval : ∀ (j : Nat) t v, Tryz.f5.params[j]? = some t → args[j]? = some v → Value.okWide Tryz.prog W .any base t v := hval0
  have hW' := hW
  obtain ⟨p, q, hA0, hV, rfl, hfz, hnd⟩ := hW
  have hA : DataW.TrodAll enc Tryz.prog W 0 (fun _ => true) true Tryz.f5.params.toList args.toList ds p := hA0
  rw [Tryz.params5] at hA hval
  obtain ⟨v0, vs0, d0, ds0, p0, q0, hargs, rfl, rfl, h0, r0⟩ := trodAll_cons hA
  obtain ⟨v1, vs1, d1, ds1, p1, q1, rfl, rfl, rfl, h1, r1⟩ := trodAll_cons r0
  obtain ⟨v2, vs2, d2, ds2, p2, q2, rfl, rfl, rfl, h2, r2⟩ := trodAll_cons r1
  obtain ⟨rfl, rfl, rfl⟩ := trodAll_nil r2
  obtain rfl : args = #[v0, v1, v2] := by cases args; simp_all
  obtain ⟨rfl, rfl⟩ := trodVars_none hV
  have hT := tab_of_laid hL
  obtain ⟨A00, len00, cap00, e00⟩ := okWide_slice Tryz.underlying22 (hval 0 22 v0 rfl rfl)
  have k0 := h0
  have lt0 : ∀ x ∈ p0, x.block < W.heap.size := by obtain ⟨m, hm⟩ := k0; exact DataW.trod_lt m _ _ _ hm
  obtain ⟨A0, cap0, l0, e0, w0⟩ : ∃ A cap l, v0 = .slice A l.length cap ∧ SRow W A cap l := by
    obtain ⟨fuel, hf⟩ := h0
    rw [e00] at hf
    obtain ⟨A, cap, l, e, ha⟩ := read_specs hf
    exact ⟨A, cap, l, by rw [e00, e], ha⟩
  subst e0
  obtain ⟨A01, len01, cap01, e01⟩ := okWide_slice Tryz.underlying35 (hval 1 35 v1 rfl rfl)
  have k1 := h1
  have lt1 : ∀ x ∈ p1, x.block < W.heap.size := by obtain ⟨m, hm⟩ := k1; exact DataW.trod_lt m _ _ _ hm
  obtain ⟨A1, cap1, l1, e1, w1⟩ : ∃ A cap l, v1 = .slice A l.length cap ∧ FRow W A cap l := by
    obtain ⟨fuel, hf⟩ := h1
    rw [e01] at hf
    obtain ⟨A, cap, l, e, ha⟩ := read_raws hf
    exact ⟨A, cap, l, by rw [e01, e], ha⟩
  subst e1
  obtain ⟨a2, rfl, rfl, rfl, w2⟩ := open_int Tryz.underlying3 (hval 2 3 v2 rfl rfl) h2
  clear hA0 hval0
  refine (walk A0 cap0 l0 A1 cap1 l1 a2 W hT w0 w1 w2).mono fun e W' ⟨he, bel⟩ => ?_
  subst he
  exact ⟨_, rfl, _, _, _, [], _, [], hW', trodAll_mk1 (shut_bool Tryz.underlying4 _), (trodAll_cons_mk (Below.trod laidOut (by kernel_rfl) (of_decide_eq_true (by kernel_rfl)) k0 bel lt0) (trodAll_cons_mk (Below.trod laidOut (by kernel_rfl) (of_decide_eq_true (by kernel_rfl)) k1 bel lt1) (trodAll_cons_mk (shut_int Tryz.underlying3 w2) trodAll_mk0))), rfl, bel.frame _, fun h => by cases h⟩

theorem over : Rows.SimBelowSaid :=
  OpenClaim.holds_of_wide 5 Tryz.f5 rfl rfl rfl rfl rfl rfl rfl ⟨rfl, rfl, rfl, rfl, rfl⟩ rfl rfl rfl rfl rfl (by kernel_rfl) Tryz.func5 (by kernel_rfl)
    (of_decide_eq_true (by kernel_rfl)) (by unfold Func.isWrapper; first | (rw [if_pos (by decide +kernel)]; kernel_rfl) | (rw [if_neg (by decide +kernel)]; exact ⟨rfl, rfl⟩))
    (fun os started H enc _ => lifted os started H enc)

theorem proved : Rows.SimBelowCardSaid :=
  Claim7.holds_tied_plain_at .later [] [.data] true Rows.simBelowCard.stood.harness false
    over (fun _ h => by cases h) (by kernel_rfl) (fun _ h => by cases h) simBelow_row_tie rfl ⟨rfl, rfl⟩ (by kernel_rfl) rfl
    (fun f fn hf hfn => by
      obtain rfl : f = 5 := Option.some.inj ((show Tryz.prog.funcNamed Rows.simBelowRow.func = some 5 by kernel_rfl).symm.trans hf) |>.symm
      obtain rfl : fn = Tryz.f5 := (Option.some.inj (Tryz.func5.symm.trans hfn)).symm
      exact ⟨by kernel_rfl, fun j t ht => by
        rw [Tryz.params5] at ht
        have hm : t ∈ [22, 35, 3] := by simpa using Array.mem_of_getElem? ht
        have hall : ([22, 35, 3].all fun u => !Tryz.prog.wantsStandIn u) = true := by kernel_rfl
        exact (show Tryz.prog.wantsStandIn t = false by simpa using List.all_eq_true.1 hall t hm)⟩)
    (by kernel_rfl)
#print axioms proved
end Go.Proofs.YthfkbbiaemmndaaGreatDoor.simBelow
