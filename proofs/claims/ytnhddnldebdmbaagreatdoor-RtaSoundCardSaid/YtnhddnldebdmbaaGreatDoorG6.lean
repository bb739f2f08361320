/- Texts about the program, one after the other: JFewR, JRead, HPure, EBase, ESpn, EFin, EGen, FewT, FewE, ELaw, ESame. -/
import Derived.Test.YtnhddnldebdmbaaGreatDoorG5
import Derived.Below
import Derived.WalkKit
import Derived.WalkMore
import Derived.ProofKit
import Derived.LaidMore
import Derived.Laws.AppendOwn
import Derived.Laws.CopyOwn
import Derived.Lib.Hide
import Derived.IntWalk
import Derived.Handy
import Derived.OwnWalk
import Derived.RangeFuncBox
import Derived.Deep.QuietTactic
import Derived.BigQuiet
import Derived.Deep.RegionHeld3
import Derived.Deep.RegionLaw
import Derived.BigRegion
import Derived.Deep.CutBlock
import Derived.Deep.DrawnRows
import Derived.Deep.LoopGhost
import Derived.Deep.MidRow
import Derived.Deep.Quiet
import Derived.Deep.RegionHeldLaw
import Derived.LoopIn
import Derived.LoopNIn
import Derived.TacticsInMore
import Derived.OwnWalkIn
import Derived.RangeFuncNested
import Derived.RangeFuncBound
import Derived.RangeFuncCalls
import Derived.RangeFuncLeaves
import Derived.RangeFuncWrites
import Derived.Shelf.Abstract
import Derived.StillTailTactics
import Derived.Lib.SliceRun
import Derived.Deep.AppendSrc
import Derived.Deep.Upon
import Derived.Deep.DeepAppendWide
import Derived.OrdersIn
import Derived.Sort.LoopGhostIn
import Derived.Test.YtnhddnldebdmbaaGreatDoorG4
import Derived.Test.YtnhddnldebdmbaaGreatDoorG3
/- The law's few raw jobs. -/
namespace Go.Proofs.YtnhddnldebdmbaaGreatDoor
open Go.RowKit
set_option linter.unusedVariables false
set_option linter.unusedSimpArgs false

def fewRS1 (r : Fv) : Fv := { r with a := r.a % 12, c := r.c.take 5 }
def fewRS (rs : List Fv) : List Fv := (rs.take 12).map fewRS1
def fewRSPost (rs : List Fv) (w : World) (e : Ending) (w' : World) : Prop := ∃ v gs, e = .returned v ∧ FOwn 55 w.heap.size w' v gs ∧ gs.map (·.x) = fewRS rs ∧ Below w.heap.size w w'
structure fewRSIn (w wr : World) (v : Value) (rs : List Fv) : Prop where
  own : ∃ gs, FOwn 55 w.heap.size wr v gs ∧ gs.map (·.x) = rs.map fewRS1
  bel : Below w.heap.size w wr
set_option maxRecDepth 100000 in
set_option maxHeartbeats 8000000 in
theorem fewR_any (R : Option Addr) (rc : Nat) (rs : List Fv) (w : World) (hR : FRow w R rc rs) :
    Calls Tryz.prog 7 #[.slice R rs.length rc, .int .i64 12] w (fewRSPost rs w) := by
  obtain ⟨i0, hi, hz0, hz1, hz2⟩ := info_parts infoRs
  have hle := hR.le
  have hmx := hR.mx
  have RAW := Lib.hid hR
  clear hR
  go_enter Tryz.func7, Tryz.ntmps7
  go_wp2
  go_loopw [5, 6] (fun v i wr => ∃ k : Nat, k ≤ min rs.length 12 ∧ i = .int .i64 k ∧ Hid (fewRSIn w wr v (rs.take k))) (fun _ i _ => 12 - (intOf i).toNat)
  case atStart => exact ⟨0, Nat.zero_le _, rfl, Lib.hid ⟨⟨[], FOwn.nil _ _ _, rfl⟩, Below.refl _ _⟩⟩
  case round =>
    obtain ⟨k, hk, rfl, hI⟩ := hrel
    have hk1 : k ≤ rs.length := by omega
    have hk2 : k ≤ 12 := by omega
    by_cases hlt : k < rs.length ∧ k < 12
    · obtain ⟨hl1, hl2⟩ := hlt
      obtain ⟨rb, ro, x, C, cc, rfl, hx, hrb, hF0⟩ := RAW.out.get (k := k) (by omega)
      have hF := hF0.later hI.out.bel
      have c0 := hF.c0
      have c1 := hF.c1
      have c2 := hF.c2
      have c3 := hF.c3
      have c4 := hF.c4
      have g1 : decide ((k : Int) < (rs.length : Int)) = true := decide_eq_true (by omega)
      have g2 : decide ((k : Int) < 12) = true := decide_eq_true (by omega)
      have g2' : decide (k < 12) = true := decide_eq_true (by omega)
      have hi0 : (0 : Int) ≤ (k : Int) := by omega
      have hi1 : (k : Int) < (rs.length : Int) := by omega
      obtain ⟨gs, hG, hgs⟩ := hI.out.own
      have hgl : gs.length = k := by
        have := congrArg List.length hgs
        rw [List.length_map, List.length_map, List.length_take] at this
        omega
      have hlc := hF.s.le
      have hmc := hF.s.mx
      have HSF : Hid (Safe 55 w.heap.size w C x.c) := Lib.hid (fun hne a ha => by
        obtain ⟨b, o, n, hA, _, _, hbl, _⟩ := hF0.s.get (k := 0) (by rcases Nat.eq_zero_or_pos x.c.length with h0 | h0; exact absurd (List.length_eq_zero_iff.1 h0) hne; exact h0)
        rw [ha] at hA
        cases hA
        exact .inl hbl)
      have hgb := emod_bd x.a 12 (by omega)
      have HGB := Lib.hid hgb
      have KR0 := fun W => r8rest_any x.a 12 W hF.wf.a (by omega) (by omega)
      obtain ⟨ga, hga⟩ : ∃ ga, x.a % 12 = ga := ⟨_, rfl⟩
      have KR1 := KR0
      rw [hga] at KR1
      have KR := Lib.hid KR1
      have HGA0 := Lib.hid hga
      clear hgb KR0 KR1 hga
      have HX := Lib.hid hx
      have HF := Lib.hid hF
      have HG := Lib.hid hG
      have HGA := Lib.hid hG
      have HGS := Lib.hid hgs
      have HGL := Lib.hid hgl
      have HBW := Lib.hid hI.out.bel
      clear hF hF0 hx hG hgs hgl hI
      go_upto_region 6 with (fail)
      have F1 := Lib.hid (FB.new wr 55 (.int .i64 x.t) (.int .i64 x.a) (.int .i64 x.r) (.int .i64 x.k) (.slice C x.c.length cc))
      have B1 : Hid (Below wr.heap.size wr (wr.alloc (.cells #[.int .i64 x.t, .int .i64 x.a, .int .i64 x.r, .int .i64 x.k, .slice C x.c.length cc] 55))) := Lib.hid ((Below.refl _ _).alloc (Nat.le_refl _) _)
      generalize (wr.alloc (.cells #[.int .i64 x.t, .int .i64 x.a, .int .i64 x.r, .int .i64 x.k, .slice C x.c.length cc] 55)) = W1 at *
      obtain ⟨bx, hbx⟩ : ∃ bx, bx = wr.heap.size := ⟨_, rfl⟩
      have F1 : Hid (FB W1 bx 55 (.int .i64 x.t) (.int .i64 x.a) (.int .i64 x.r) (.int .i64 x.k) (.slice C x.c.length cc)) := by rw [hbx]; exact F1
      have HBX : Hid (wr.heap.size ≤ bx) := Lib.hid (by rw [hbx]; exact Nat.le_refl _)
      rw [← hbx]
      clear c0 c1 c2 c3 c4 hbx
      obtain ⟨z0, z1, z2, z3, z4⟩ := F1.out.z
      have y1 := F1.out.fz 1
      go_upto_region 7 with (go_at_call 15; (with_reducible refine (KR.out _).mono ?_); rintro e w2 ⟨rfl, rfl⟩)
      have F2 := Lib.hid (F1.out.set (i := 1) (.int .i64 ga) rfl)
      have B2 : Hid (Below wr.heap.size wr (W1.setCell ⟨bx, 1, none⟩ (.int .i64 ga))) := Lib.hid (B1.out.setCell (p := ⟨bx, 1, none⟩) HBX.out _)
      generalize W1.setCell ⟨bx, 1, none⟩ (.int .i64 ga) = W2 at *
      clear z0 z1 z2 z3 z4 y1
      obtain ⟨z0, z1, z2, z3, z4⟩ := F2.out.z
      have y1 := F2.out.fz 1
      by_cases hlong : 5 < x.c.length
      · have g5 : decide ((x.c.length : Int) > 5) = true := decide_eq_true (by omega)
        have g5' : decide (5 < x.c.length) = true := decide_eq_true hlong
        have hc6 : (5 : Int) ≤ (cc : Int) := by omega
        have hcz : cc ≠ 0 := by omega
        have y4 := F2.out.fz 4
        have HCL : Hid (x.c.take 5 = x.c.take 5) := Lib.hid rfl
        have hc66 : (x.c.take 5).length = 5 := by rw [List.length_take]; omega
        have HC66 := Lib.hid hc66
        clear hc66
        go_upto_region 9 with (fail)
        have F3 := Lib.hid (F2.out.set (i := 4) (.slice C 5 cc) rfl)
        have B3 : Hid (Below wr.heap.size wr (W2.setCell ⟨bx, 4, none⟩ (.slice C 5 cc))) := Lib.hid (B2.out.setCell (p := ⟨bx, 4, none⟩) HBX.out _)
        generalize W2.setCell ⟨bx, 4, none⟩ (.slice C 5 cc) = W3 at *
        clear z0 z1 z2 z3 z4 y1 y4
        have G3 : Hid (GOk 55 w.heap.size W3 ⟨⟨x.t, ga, x.r, x.k, x.c.take 5⟩, C, cc⟩) := Lib.hid ⟨⟨HF.out.wf.t, ⟨by show _ ≤ ga; have := HGB.out; have := HGA0.out; omega, by show ga ≤ _; have := HGB.out; have := HGA0.out; omega⟩, HF.out.wf.r, HF.out.wf.k⟩, (HF.out.s.later B3.out).take 5, fun hne a ha => by
          rcases HSF.out (by intro h0; rw [h0] at hne; exact hne (by simp)) a ha with h1 | ⟨cs, T, fr, h1, h2⟩
          · exact .inl h1
          · exact .inl (by have := (Array.getElem?_eq_some_iff.1 h1).1; exact this)⟩
        obtain ⟨z0, z1, z2, z3, z4⟩ := F3.out.z
        have hO := G3.out
        have HFA := Lib.hid (fun j u hu => by
          have := (FAt.new W3 ⟨x.t, ga, x.r, x.k, x.c.take 5⟩ C cc 55 hO.wf hO.s).r j u hu
          rw [Nat.zero_add] at this
          rw [add_none, Nat.zero_add]
          simp only [HC66.out] at this
          exact this : ∀ j u, (fvL ⟨x.t, ga, x.r, x.k, x.c.take 5⟩ C cc)[j]? = some u → (W3.alloc (.cells #[.int .i64 x.t, .int .i64 ga, .int .i64 x.r, .int .i64 x.k, .slice C 5 cc] 55)).cell? ((⟨W3.heap.size, 0, none⟩ : Addr).add j) = some u)
        have HG2 := Lib.hid (HGA.out.later B3.out)
        clear hO
        go_wp2_with (refine wpList_append_own _ rfl _ _ 23 rfl w.heap.size 55 i0 _ 5 56 Tryz.underlying23 hi hz0 hz1 hz2 rfl (by decide) _ gs.length (gvC gs) rfl (HG2.out.row.alloc _) ⟨W3.heap.size, 0, none⟩ 1 1 (fvL ⟨x.t, ga, x.r, x.k, x.c.take 5⟩ C cc) rfl rfl HFA.out (fvL_one _ _ _) (by have := HGL.out; unfold maxLen; omega) (by have := HGL.out; omega) (by have := HBW.out.size; have := B3.out.size; simp; omega) ?_; intro v' w8 hown' hgrow hnil')
        go_roundw
        case rel =>
          have ba : Below W3.heap.size W3 (W3.alloc (.cells #[.int .i64 x.t, .int .i64 ga, .int .i64 x.r, .int .i64 x.k, .slice C 5 cc] 55)) := (Below.refl _ _).alloc (Nat.le_refl _) _
          have hG8 := (HG2.out.later ba).push (G3.out.kept fun b hl _ => ba.block b hl) hown' hgrow
          have hB2 := HBW.out.trans (B3.out.mono HBW.out.size)
          have hL8 : Below w.heap.size w w8 := (hB2.trans (ba.mono hB2.size)).grown hgrow (by have := hB2.size; simp; omega) (fun q hq => (HG2.out.row.lt q hq).1)
          refine ⟨k + 1, by omega, by go_num, Lib.hid ⟨⟨_, hG8, ?_⟩, hL8⟩⟩
          rw [take_one HX.out, List.map_append, List.map_append, HGS.out]
          simp [fewRS1, HCL.out, HGA0.out]
        case measure => simp [intOf]; omega
      · have g5 : decide ((x.c.length : Int) > 5) = false := decide_eq_false (by omega)
        have g5' : decide (5 < x.c.length) = false := decide_eq_false hlong
        have HCL : Hid (x.c.take 5 = x.c) := Lib.hid (List.take_of_length_le (by omega))
        go_upto_region 9 with (fail)
        have F3 := F2
        have B3 := B2
        clear z0 z1 z2 z3 z4 y1
        have G3 : Hid (GOk 55 w.heap.size W2 ⟨⟨x.t, ga, x.r, x.k, x.c⟩, C, cc⟩) := Lib.hid ⟨⟨HF.out.wf.t, ⟨by show _ ≤ ga; have := HGB.out; have := HGA0.out; omega, by show ga ≤ _; have := HGB.out; have := HGA0.out; omega⟩, HF.out.wf.r, HF.out.wf.k⟩, HF.out.s.later B3.out, fun hne a ha => by
          rcases HSF.out hne a ha with h1 | ⟨cs, T, fr, h1, h2⟩
          · exact .inl h1
          · exact .inl (by have := (Array.getElem?_eq_some_iff.1 h1).1; exact this)⟩
        obtain ⟨z0, z1, z2, z3, z4⟩ := F3.out.z
        have hO := G3.out
        have HFA := Lib.hid (fun j u hu => by
          have := (FAt.new W2 ⟨x.t, ga, x.r, x.k, x.c⟩ C cc 55 hO.wf hO.s).r j u hu
          rw [Nat.zero_add] at this
          rw [add_none, Nat.zero_add]
          exact this : ∀ j u, (fvL ⟨x.t, ga, x.r, x.k, x.c⟩ C cc)[j]? = some u → (W2.alloc (.cells #[.int .i64 x.t, .int .i64 ga, .int .i64 x.r, .int .i64 x.k, .slice C x.c.length cc] 55)).cell? ((⟨W2.heap.size, 0, none⟩ : Addr).add j) = some u)
        have HG2 := Lib.hid (HGA.out.later B3.out)
        clear hO
        go_wp2_with (refine wpList_append_own _ rfl _ _ 23 rfl w.heap.size 55 i0 _ 5 56 Tryz.underlying23 hi hz0 hz1 hz2 rfl (by decide) _ gs.length (gvC gs) rfl (HG2.out.row.alloc _) ⟨W2.heap.size, 0, none⟩ 1 1 (fvL ⟨x.t, ga, x.r, x.k, x.c⟩ C cc) rfl rfl HFA.out (fvL_one _ _ _) (by have := HGL.out; unfold maxLen; omega) (by have := HGL.out; omega) (by have := HBW.out.size; have := B3.out.size; simp; omega) ?_; intro v' w8 hown' hgrow hnil')
        go_roundw
        case rel =>
          have ba : Below W2.heap.size W2 (W2.alloc (.cells #[.int .i64 x.t, .int .i64 ga, .int .i64 x.r, .int .i64 x.k, .slice C x.c.length cc] 55)) := (Below.refl _ _).alloc (Nat.le_refl _) _
          have hG8 := (HG2.out.later ba).push (G3.out.kept fun b hl _ => ba.block b hl) hown' hgrow
          have hB2 := HBW.out.trans (B3.out.mono HBW.out.size)
          have hL8 : Below w.heap.size w w8 := (hB2.trans (ba.mono hB2.size)).grown hgrow (by have := hB2.size; simp; omega) (fun q hq => (HG2.out.row.lt q hq).1)
          refine ⟨k + 1, by omega, by go_num, Lib.hid ⟨⟨_, hG8, ?_⟩, hL8⟩⟩
          rw [take_one HX.out, List.map_append, List.map_append, HGS.out]
          simp [fewRS1, HCL.out, HGA0.out]
        case measure => simp [intOf]; omega
    · obtain ⟨gs, hG, hgs⟩ := hI.out.own
      have HB := Lib.hid hI.out.bel
      have HG := Lib.hid hG
      have HGS := Lib.hid hgs
      clear hG hgs hI
      by_cases hkr : k < rs.length
      · have g1 : decide ((k : Int) < (rs.length : Int)) = true := decide_eq_true (by omega)
        have g2 : decide ((k : Int) < 12) = false := decide_eq_false (by omega)
        have g2' : decide (k < 12) = false := decide_eq_false (by omega)
        have HK : Hid (k = 12) := Lib.hid (by omega)
        go_wp2
        go_ret
        refine ⟨_, gs, rfl, HG.out, ?_, HB.out⟩
        rw [HGS.out, fewRS, HK.out]
      · have g1 : decide ((k : Int) < (rs.length : Int)) = false := decide_eq_false (by omega)
        have g1' : decide (k < rs.length) = false := decide_eq_false hkr
        have HK : Hid (rs.take 12 = rs.take k) := Lib.hid (by rw [List.take_of_length_le (by omega), List.take_of_length_le (by omega)])
        go_wp2
        go_ret
        refine ⟨_, gs, rfl, HG.out, ?_, HB.out⟩
        rw [HGS.out, fewRS, HK.out]
end Go.Proofs.YtnhddnldebdmbaaGreatDoor
/- Raw jobs that come in. -/
namespace Go.Proofs.YtnhddnldebdmbaaGreatDoor
open Go.RowKit
set_option linter.unusedVariables false
set_option linter.unusedSimpArgs false

section
open Go.ChangeShapes Go.WideShapes Go.ChangeAt
variable {H : Type} {enc : TypeId × Value → H} {W : World} {base : Nat} {sp : Nat → Bool} {hd : Bool}
set_option maxRecDepth 100000 in
theorem read_cuts {fuel : Nat} {v : Value} {y : DataW H × List MemPlace} (h : DataW.trod enc Tryz.prog W base sp hd fuel 42 [v] = some y) :
    ∃ A cap l, v = .slice A l.length cap ∧ CRow W A cap l := by
  rcases DataW.trod_slice Tryz.underlying42 h with ⟨hcs, _⟩ | ⟨a, len, cap, elems, rest, n, _, hcs, _, _, hl', hm, hlen, hel, _, _⟩
  · obtain rfl : v = .slice none 0 0 := by simpa using hcs
    exact ⟨none, 0, [], rfl, CRow.nil _ _ (by omega)⟩
  · obtain rfl : v = .slice (some a) len cap := by simpa using hcs
    have c1 : Tryz.prog.cellsOf 3 = 1 := by kernel_rfl
    rw [c1] at hel
    unfold maxLen at hm
    rcases Nat.eq_zero_or_pos len with h0 | h0
    · subst h0
      exact ⟨_, cap, [], rfl, CRow.nil _ _ hm⟩
    have hsp := slice_spot hlen h0 (by omega) hel
    obtain ⟨ab, ao, asp⟩ := a
    obtain rfl : asp = none := by injection hsp
    clear hsp
    have key : ∀ i, i < len → ∃ x : Int, in64 x ∧ W.cell? ⟨ab, ao + i, none⟩ = some (.int .i64 x) := by
      intro i hi
      have h1 := hel i hi
      rw [List.getElem?_eq_getElem (by omega)] at h1
      obtain ⟨cl, hcs2, ht⟩ := Option.bind_eq_some_iff.1 h1
      obtain ⟨_, hcl, hat⟩ := World.cells?_some hcs2
      match cl, hcl, hat, ht with
      | [v0], _, hat, ht =>
        obtain ⟨z0, e0, _, w0⟩ := DataW.trod_int Tryz.underlying3 ht
        obtain rfl : v0 = .int .i64 z0 := by simpa using e0
        have := hat 0 (by simp)
        simp only [add_none, Nat.mul_one, Nat.add_zero] at this
        exact ⟨z0, in64_of w0, by simpa using this⟩
    obtain ⟨l, hl, hp⟩ := list_of len key
    subst hl
    refine ⟨some ⟨ab, ao, none⟩, cap, l, rfl, ⟨hl', hm, fun x hx => ?_, fun i x hx => ⟨ab, ao, rfl, (hp i x hx).2⟩⟩⟩
    obtain ⟨i, hi, rfl⟩ := List.getElem_of_mem hx
    exact (hp i _ (List.getElem?_eq_getElem hi)).1
set_option maxRecDepth 100000 in
theorem read_raws {fuel : Nat} {v : Value} {y : DataW H × List MemPlace} (h : DataW.trod enc Tryz.prog W base sp hd fuel 23 [v] = some y) :
    ∃ A cap l, v = .slice A l.length cap ∧ FRow W A cap l := by
  rcases DataW.trod_slice Tryz.underlying23 h with ⟨hcs, _⟩ | ⟨a, len, cap, elems, rest, n, _, hcs, _, _, hl', hm, hlen, hel, _, _⟩
  · obtain rfl : v = .slice none 0 0 := by simpa using hcs
    exact ⟨none, 0, [], rfl, FRow.nil _ _ (by omega)⟩
  · obtain rfl : v = .slice (some a) len cap := by simpa using hcs
    have c5 : Tryz.prog.cellsOf 55 = 5 := by kernel_rfl
    rw [c5] at hel
    unfold maxLen at hm
    rcases Nat.eq_zero_or_pos len with h0 | h0
    · subst h0
      exact ⟨_, cap, [], rfl, FRow.nil _ _ hm⟩
    have hsp := slice_spot hlen h0 (by omega) hel
    obtain ⟨ab, ao, asp⟩ := a
    obtain rfl : asp = none := by injection hsp
    clear hsp
    have key : ∀ i, i < len → ∃ x : Fv, ∃ C cc, FAt W ab (ao + i * 5) x C cc := by
      intro i hi
      have h1 := hel i hi
      have ci : Tryz.prog.cellsOf 3 = 1 := by kernel_rfl
      have cs : Tryz.prog.cellsOf 42 = 1 := by kernel_rfl
      rw [List.getElem?_eq_getElem (by omega)] at h1
      obtain ⟨cl, hcs2, ht⟩ := Option.bind_eq_some_iff.1 h1
      obtain ⟨_, hcl, hat⟩ := World.cells?_some hcs2
      obtain ⟨ys, n', _, _, _, hyl, hf⟩ := DataW.trod_struct Tryz.underlying55 ht
      match cl, hcl, hat, hf with
      | [v0, v1, v2, v3, v4], _, hat, hf =>
        have g0 : DataW.trod enc Tryz.prog W base sp hd n' 3 [v0] = ys[0]? := by
          have e : DataW.trod enc Tryz.prog W base sp hd n' 3 (([v0, v1, v2, v3, v4].drop 0).take (Tryz.prog.cellsOf 3)) = ys[0]? := hf 0 _ rfl
          rw [ci] at e
          exact e
        have g1 : DataW.trod enc Tryz.prog W base sp hd n' 3 [v1] = ys[1]? := by
          have e : DataW.trod enc Tryz.prog W base sp hd n' 3 (([v0, v1, v2, v3, v4].drop 1).take (Tryz.prog.cellsOf 3)) = ys[1]? := hf 1 _ rfl
          rw [ci] at e
          exact e
        have g2 : DataW.trod enc Tryz.prog W base sp hd n' 3 [v2] = ys[2]? := by
          have e : DataW.trod enc Tryz.prog W base sp hd n' 3 (([v0, v1, v2, v3, v4].drop 2).take (Tryz.prog.cellsOf 3)) = ys[2]? := hf 2 _ rfl
          rw [ci] at e
          exact e
        have g3 : DataW.trod enc Tryz.prog W base sp hd n' 3 [v3] = ys[3]? := by
          have e : DataW.trod enc Tryz.prog W base sp hd n' 3 (([v0, v1, v2, v3, v4].drop 3).take (Tryz.prog.cellsOf 3)) = ys[3]? := hf 3 _ rfl
          rw [ci] at e
          exact e
        have g4 : DataW.trod enc Tryz.prog W base sp hd n' 42 [v4] = ys[4]? := by
          have e : DataW.trod enc Tryz.prog W base sp hd n' 42 (([v0, v1, v2, v3, v4].drop 4).take (Tryz.prog.cellsOf 42)) = ys[4]? := hf 4 _ rfl
          rw [cs] at e
          exact e
        have hy5 : ys.length = 5 := hyl
        rw [List.getElem?_eq_getElem (by omega)] at g0 g1 g2 g3 g4
        obtain ⟨z0, e0, _, w0⟩ := DataW.trod_int Tryz.underlying3 g0
        obtain ⟨z1, e1, _, w1⟩ := DataW.trod_int Tryz.underlying3 g1
        obtain ⟨z2, e2, _, w2⟩ := DataW.trod_int Tryz.underlying3 g2
        obtain ⟨z3, e3, _, w3⟩ := DataW.trod_int Tryz.underlying3 g3
        obtain ⟨C, cc, cl, e4, w4⟩ := read_cuts g4
        obtain rfl : v0 = .int .i64 z0 := by simpa using e0
        obtain rfl : v1 = .int .i64 z1 := by simpa using e1
        obtain rfl : v2 = .int .i64 z2 := by simpa using e2
        obtain rfl : v3 = .int .i64 z3 := by simpa using e3
        obtain rfl : v4 = .slice C cl.length cc := e4
        refine ⟨⟨z0, z1, z2, z3, cl⟩, C, cc, ⟨fun j u hu => ?_, ⟨in64_of w0, in64_of w1, in64_of w2, in64_of w3⟩, w4⟩⟩
        have hj : j < 5 := by
          rcases Nat.lt_or_ge j 5 with h | h
          · exact h
          · rw [List.getElem?_eq_none (by simp [fvL]; omega)] at hu; cases hu
        have := hat j (by simpa using hj)
        simp only [add_none] at this
        rw [this]
        rw [← hu]
        rfl
    obtain ⟨l, hl, hp⟩ := list_of len key
    subst hl
    refine ⟨some ⟨ab, ao, none⟩, cap, l, rfl, ⟨hl', hm, fun i x hx => ?_⟩⟩
    obtain ⟨C, cc, hF⟩ := hp i x hx
    exact ⟨ab, ao, C, cc, rfl, hF⟩
end
end Go.Proofs.YtnhddnldebdmbaaGreatDoor
/- Things of which the least goes first: rows that stand as trees; plain facts. -/
namespace Go.Proofs.YtnhddnldebdmbaaGreatDoor
set_option linter.unusedVariables false
set_option linter.unusedSimpArgs false
section
variable {E : Type} (key : E → Int)
/-- Of two things, does the first one go first? -/
def lexB (a b : E × Nat) : Bool := decide (key a.1 < key b.1) || (decide (key a.1 = key b.1) && decide (a.2 < b.2))
theorem lexB_true {a b : E × Nat} : lexB key a b = true ↔ key a.1 < key b.1 ∨ (key a.1 = key b.1 ∧ a.2 < b.2) := by simp [lexB]
theorem lexB_false {a b : E × Nat} : lexB key a b = false ↔ ¬ (key a.1 < key b.1 ∨ (key a.1 = key b.1 ∧ a.2 < b.2)) := by
  rw [← lexB_true, Bool.not_eq_true]
/-- As the program asks. -/
theorem lexB_first (a b : E × Nat) : lexB key a b = (if a.2 < b.2 then !decide (key b.1 < key a.1) else decide (key a.1 < key b.1)) := by
  rw [Bool.eq_iff_iff, lexB_true]
  split <;> simp <;> omega

/-- Each thing but the top one stands behind the one above it. -/
def Hp (l : List (E × Nat)) : Prop := ∀ i a b, 0 < i → l[i]? = some a → l[(i - 1) / 2]? = some b → lexB key a b = false
/-- .. but the one at 'at', which may go further up. -/
structure Up (l : List (E × Nat)) (k : Nat) : Prop where
  rest : ∀ i a b, 0 < i → i ≠ k → l[i]? = some a → l[(i - 1) / 2]? = some b → lexB key a b = false
  over : ∀ i a b, 0 < i → (i - 1) / 2 = k → 0 < k → l[i]? = some a → l[(k - 1) / 2]? = some b → lexB key a b = false
/-- .. but those under the one at k, which may go further down. -/
structure Dn (l : List (E × Nat)) (k : Nat) : Prop where
  rest : ∀ i a b, 0 < i → (i - 1) / 2 ≠ k → l[i]? = some a → l[(i - 1) / 2]? = some b → lexB key a b = false
  over : ∀ i a b, 0 < i → (i - 1) / 2 = k → 0 < k → l[i]? = some a → l[(k - 1) / 2]? = some b → lexB key a b = false
/-- Two places change what they hold. -/
def swp (l : List (E × Nat)) (i j : Nat) (x y : E × Nat) : List (E × Nat) := (l.set i y).set j x
variable {key}
theorem swp_length (l : List (E × Nat)) (i j : Nat) (x y : E × Nat) : (swp l i j x y).length = l.length := by simp [swp]
theorem swp_fst {l : List (E × Nat)} {i j : Nat} {x y : E × Nat} (hi : i < l.length) (h : i ≠ j) : (swp l i j x y)[i]? = some y := by
  unfold swp
  rw [List.getElem?_set_ne (Ne.symm h), List.getElem?_set_self hi]
theorem swp_snd {l : List (E × Nat)} {i j : Nat} {x y : E × Nat} (hj : j < l.length) : (swp l i j x y)[j]? = some x := by
  unfold swp
  rw [List.getElem?_set_self (by simpa using hj)]
theorem swp_oth {l : List (E × Nat)} {i j k : Nat} {x y : E × Nat} (hi : k ≠ i) (hj : k ≠ j) : (swp l i j x y)[k]? = l[k]? := by
  unfold swp
  rw [List.getElem?_set_ne (Ne.symm hj), List.getElem?_set_ne (Ne.symm hi)]
theorem set_perm {α : Type} : ∀ (l : List α) (i : Nat) (x y : α), l[i]? = some x → (y :: l).Perm (x :: l.set i y)
  | [], i, x, y, h => by simp at h
  | a :: l, 0, x, y, h => by
    simp at h; subst h
    exact List.Perm.swap _ _ _
  | a :: l, i + 1, x, y, h => by
    have ih := set_perm l i x y (by simpa using h)
    rw [List.set_cons_succ]
    exact (List.Perm.swap _ _ _).trans ((ih.cons a).trans (List.Perm.swap _ _ _))
theorem swp_perm {l : List (E × Nat)} {i j : Nat} {x y : E × Nat} (hx : l[i]? = some x) (hy : l[j]? = some y) (h : i ≠ j) : (swp l i j x y).Perm l := by
  have h1 := set_perm l i x y hx
  have h2 := set_perm (l.set i y) j y x (by rw [List.getElem?_set_ne h]; exact hy)
  -- y :: l ~ x :: l.set i y ~ y :: swp
  exact (List.Perm.cons_inv (h1.trans h2)).symm
theorem Hp.up_last {l : List (E × Nat)} {x : E × Nat} (h : Hp key l) : Up key (l ++ [x]) l.length := by
  refine ⟨fun i a b hi hk ha hb => ?_, fun i a b hi hk h0 ha hb => ?_⟩
  · have hl := (List.getElem?_eq_some_iff.1 ha).1
    simp at hl
    rw [List.getElem?_append_left (by omega)] at ha hb
    exact h i a b hi ha hb
  · have hl := (List.getElem?_eq_some_iff.1 ha).1
    simp at hl
    omega
theorem Up.top {l : List (E × Nat)} (h : Up key l 0) : Hp key l := fun i a b hi ha hb => h.rest i a b hi (by omega) ha hb
theorem Up.stop {l : List (E × Nat)} {k : Nat} {x y : E × Nat} (h : Up key l k) (hx : l[k]? = some x) (hy : l[(k - 1) / 2]? = some y) (hl : lexB key x y = false) : Hp key l := fun i a b hi ha hb => by
  by_cases hk : i = k
  · subst hk
    rw [hx] at ha; rw [hy] at hb
    cases ha; cases hb
    exact hl
  · exact h.rest i a b hi hk ha hb
theorem Up.step {l : List (E × Nat)} {k : Nat} {x y : E × Nat} (h : Up key l k) (h0 : 0 < k) (hx : l[k]? = some x) (hy : l[(k - 1) / 2]? = some y) (hl : lexB key x y = true) : Up key (swp l k ((k - 1) / 2) x y) ((k - 1) / 2) := by
  have kl := (List.getElem?_eq_some_iff.1 hx).1
  have hne : k ≠ (k - 1) / 2 := by omega
  rw [lexB_true] at hl
  refine ⟨fun i a b hi hk ha hb => ?_, fun i a b hi hk hk0 ha hb => ?_⟩
  · by_cases hik : i = k
    · subst hik
      rw [swp_fst kl hne] at ha
      rw [swp_snd (by omega)] at hb
      cases ha; cases hb
      rw [lexB_false]; omega
    · rw [swp_oth hik hk] at ha
      by_cases hp : (i - 1) / 2 = k
      · rw [hp, swp_fst kl hne] at hb
        cases hb
        exact h.over i a y hi hp h0 ha hy
      · by_cases hq : (i - 1) / 2 = (k - 1) / 2
        · rw [hq, swp_snd (by omega)] at hb
          cases hb
          have := h.rest i a y hi hik ha (by rw [hq]; exact hy)
          rw [lexB_false] at this ⊢
          omega
        · rw [swp_oth hp hq] at hb
          exact h.rest i a b hi hik ha hb
  · have hb' : l[((k - 1) / 2 - 1) / 2]? = some b := by
      rw [swp_oth (by omega) (by omega)] at hb
      exact hb
    have hyb := h.rest ((k - 1) / 2) y b hk0 (by omega) hy hb'
    by_cases hik : i = k
    · subst hik
      rw [swp_fst kl hne] at ha
      cases ha
      exact hyb
    · rw [swp_oth hik (by omega)] at ha
      have := h.rest i a y hi hik ha (by rw [hk]; exact hy)
      rw [lexB_false] at this hyb ⊢
      omega
theorem Hp.dn {l : List (E × Nat)} (h : Hp key l) (x : E × Nat) : Dn key (l.set 0 x) 0 := by
  refine ⟨fun i a b hi hk ha hb => ?_, fun i a b hi hk h0 => by omega⟩
  rw [List.getElem?_set_ne (by omega)] at ha
  rw [List.getElem?_set_ne (by omega)] at hb
  exact h i a b hi ha hb
theorem Dn.take {l : List (E × Nat)} {k n : Nat} (h : Dn key l k) : Dn key (l.take n) k := by
  have t : ∀ {i : Nat} {a : E × Nat}, (l.take n)[i]? = some a → l[i]? = some a := fun {i a} ha => by
    rw [List.getElem?_take] at ha
    split at ha
    · exact ha
    · cases ha
  exact ⟨fun i a b hi hk ha hb => h.rest i a b hi hk (t ha) (t hb), fun i a b hi hk h0 ha hb => h.over i a b hi hk h0 (t ha) (t hb)⟩
theorem Dn.bottom {l : List (E × Nat)} {k : Nat} (h : Dn key l k) (hk : l.length ≤ 2 * k + 1) : Hp key l := fun i a b hi ha hb => by
  have hl := (List.getElem?_eq_some_iff.1 ha).1
  exact h.rest i a b hi (by omega) ha hb
/-- The side that goes first of both. -/
def Side (key : E → Int) (l : List (E × Nat)) (k s : Nat) (y : E × Nat) : Prop := (s = 2 * k + 1 ∨ s = 2 * k + 2) ∧ l[s]? = some y ∧ ∀ i a, 0 < i → (i - 1) / 2 = k → l[i]? = some a → lexB key a y = false
theorem side_left {l : List (E × Nat)} {k : Nat} {y : E × Nat} (hy : l[2 * k + 1]? = some y) (h : l.length ≤ 2 * k + 2 ∨ ∃ z, l[2 * k + 2]? = some z ∧ lexB key z y = false) : Side key l k (2 * k + 1) y := by
  refine ⟨.inl rfl, hy, fun i a hi hk ha => ?_⟩
  have hl := (List.getElem?_eq_some_iff.1 ha).1
  rcases (by omega : i = 2 * k + 1 ∨ i = 2 * k + 2) with rfl | rfl
  · rw [hy] at ha; cases ha
    rw [lexB_false]; omega
  · rcases h with h | ⟨z, hz, h⟩
    · omega
    · rw [hz] at ha; cases ha
      exact h
theorem side_right {l : List (E × Nat)} {k : Nat} {y z : E × Nat} (hy : l[2 * k + 1]? = some y) (hz : l[2 * k + 2]? = some z) (h : lexB key z y = true) : Side key l k (2 * k + 2) z := by
  refine ⟨.inr rfl, hz, fun i a hi hk ha => ?_⟩
  rcases (by omega : i = 2 * k + 1 ∨ i = 2 * k + 2) with rfl | rfl
  · rw [hy] at ha; cases ha
    rw [lexB_true] at h
    rw [lexB_false]; omega
  · rw [hz] at ha; cases ha
    rw [lexB_false]; omega
theorem Dn.stop {l : List (E × Nat)} {k s : Nat} {x y : E × Nat} (h : Dn key l k) (hx : l[k]? = some x) (hs : Side key l k s y) (hl : lexB key x y = true) : Hp key l := fun i a b hi ha hb => by
  by_cases hp : (i - 1) / 2 = k
  · rw [hp, hx] at hb
    cases hb
    have := hs.2.2 i a hi hp ha
    rw [lexB_true] at hl
    rw [lexB_false] at this ⊢
    omega
  · exact h.rest i a b hi hp ha hb
theorem Dn.step {l : List (E × Nat)} {k s : Nat} {x y : E × Nat} (h : Dn key l k) (hx : l[k]? = some x) (hs : Side key l k s y) (hl : lexB key x y = false) : Dn key (swp l k s x y) s := by
  obtain ⟨hks, hy, hmin⟩ := hs
  have kl := (List.getElem?_eq_some_iff.1 hx).1
  have sl := (List.getElem?_eq_some_iff.1 hy).1
  have hne : k ≠ s := by omega
  have hps : (s - 1) / 2 = k := by omega
  refine ⟨fun i a b hi hk ha hb => ?_, fun i a b hi hk h0 ha hb => ?_⟩
  · by_cases his : i = s
    · subst his
      rw [swp_snd sl] at ha
      rw [hps, swp_fst kl hne] at hb
      cases ha; cases hb
      exact hl
    · by_cases hik : i = k
      · subst hik
        rw [swp_fst kl hne] at ha
        cases ha
        rw [swp_oth (by omega) hk] at hb
        exact h.over s y b (by omega) hps hi hy hb
      · rw [swp_oth hik his] at ha
        by_cases hp : (i - 1) / 2 = k
        · rw [hp, swp_fst kl hne] at hb
          cases hb
          exact hmin i a hi hp ha
        · rw [swp_oth hp hk] at hb
          exact h.rest i a b hi hp ha hb
  · rw [swp_oth (by omega) (by omega)] at ha
    rw [hps, swp_fst kl hne] at hb
    cases hb
    exact h.rest i a y hi (by omega) ha (by rw [hk]; exact hy)

/-! ### What goes first -/
/-- The order in which things go. -/
def Srt (key : E → Int) (s : List (E × Nat)) : Prop := s.Pairwise (fun a b => lexB key a b = true)
/-- Of a heap the top goes first. -/
theorem Hp.least {l : List (E × Nat)} (h : Hp key l) {x : E × Nat} (hx : l[0]? = some x) : ∀ (n i : Nat) (a : E × Nat), i ≤ n → l[i]? = some a → lexB key a x = false
  | _, 0, a, _, ha => by
    rw [hx] at ha; cases ha
    rw [lexB_false]; omega
  | 0, i + 1, a, hi, ha => by omega
  | n + 1, i + 1, a, hi, ha => by
    obtain ⟨b, hb⟩ : ∃ b, l[(i + 1 - 1) / 2]? = some b := by
      have hl := (List.getElem?_eq_some_iff.1 ha).1
      exact ⟨l[(i + 1 - 1) / 2]'(by omega), List.getElem?_eq_getElem (by omega)⟩
    have h1 := h (i + 1) a b (by omega) ha hb
    have h2 := h.least hx n ((i + 1 - 1) / 2) b (by omega) hb
    rw [lexB_false] at h1 h2 ⊢
    omega
theorem head_is {l s : List (E × Nat)} {x y : E × Nat} {r : List (E × Nat)} (h : Hp key l) (hp : s.Perm l) (hs : Srt key s) (hx : l[0]? = some x) (he : s = y :: r) : x = y := by
  subst he
  have hy : y ∈ l := hp.mem_iff.1 (by simp)
  have hxm : x ∈ y :: r := hp.mem_iff.2 (List.mem_of_getElem? hx)
  obtain ⟨i, hi⟩ := List.getElem?_of_mem hy
  have h1 := h.least hx i i y (Nat.le_refl _) hi
  rcases List.mem_cons.1 hxm with rfl | hm
  · rfl
  · have h2 : lexB key y x = true := (List.pairwise_cons.1 hs).1 x hm
    rw [h1] at h2; cases h2
/-- A thing is put in its place. -/
def ins (key : E → Int) (x : E) : List E → List E
  | [] => [x]
  | a :: l => if key x < key a then x :: a :: l else a :: ins key x l
def insT (key : E → Int) (x : E × Nat) : List (E × Nat) → List (E × Nat)
  | [] => [x]
  | a :: l => if key x.1 < key a.1 then x :: a :: l else a :: insT key x l
theorem insT_fst (x : E × Nat) : ∀ l : List (E × Nat), (insT key x l).map Prod.fst = ins key x.1 (l.map Prod.fst)
  | [] => rfl
  | a :: l => by
    unfold insT ins
    simp only [List.map_cons]
    split
    · simp
    · simp [insT_fst x l]
theorem insT_perm (x : E × Nat) : ∀ l : List (E × Nat), (insT key x l).Perm (x :: l)
  | [] => List.Perm.refl _
  | a :: l => by
    unfold insT
    split
    · exact List.Perm.refl _
    · exact ((insT_perm x l).cons a).trans (List.Perm.swap _ _ _)
theorem insT_srt {x : E × Nat} : ∀ {l : List (E × Nat)}, Srt key l → (∀ a ∈ l, a.2 < x.2) → Srt key (insT key x l)
  | [], _, _ => List.pairwise_singleton _ _
  | a :: l, h, hx => by
    unfold insT
    obtain ⟨h1, h2⟩ := List.pairwise_cons.1 h
    split
    · rename_i hk
      refine List.pairwise_cons.2 ⟨fun b hb => ?_, h⟩
      rw [lexB_true]
      rcases List.mem_cons.1 hb with rfl | hb
      · exact .inl hk
      · have := h1 b hb
        rw [lexB_true] at this
        omega
    · rename_i hk
      refine List.pairwise_cons.2 ⟨fun b hb => ?_, insT_srt h2 (fun c hc => hx c (by simp [hc]))⟩
      rcases List.mem_cons.1 ((insT_perm x l).mem_iff.1 hb) with rfl | hb
      · have := hx a (by simp)
        rw [lexB_true]
        omega
      · exact h1 b hb
/-- A heap's row l, of which c came: it tells L. -/
structure Tells (key : E → Int) (l : List (E × Nat)) (c : Nat) (L : List E) : Prop where
  hp : Hp key l
  ex : ∃ s, s.Perm l ∧ Srt key s ∧ s.map Prod.fst = L
  few : ∀ a ∈ l, a.2 < c
theorem Tells.nil (c : Nat) : Tells key [] c [] := ⟨fun i a b _ h => by simp at h, ⟨[], List.Perm.refl _, List.Pairwise.nil, rfl⟩, by simp⟩
theorem Tells.length {l : List (E × Nat)} {c : Nat} {L : List E} (h : Tells key l c L) : l.length = L.length := by
  obtain ⟨s, hp, _, rfl⟩ := h.ex
  rw [List.length_map, hp.length_eq]
theorem Tells.head {l : List (E × Nat)} {c : Nat} {L : List E} (h : Tells key l c L) {x : E × Nat} (hx : l[0]? = some x) : ∃ r, L = x.1 :: r := by
  obtain ⟨s, hp, hs, rfl⟩ := h.ex
  cases s with
  | nil => rw [List.nil_perm.1 hp] at hx; simp at hx
  | cons y r =>
    obtain rfl := head_is h.hp hp hs hx rfl
    exact ⟨r.map Prod.fst, rfl⟩
theorem Tells.push {l l' : List (E × Nat)} {c : Nat} {L : List E} {x : E} (h : Tells key l c L) (hp : l'.Perm (l ++ [(x, c)])) (hh : Hp key l') : Tells key l' (c + 1) (ins key x L) := by
  obtain ⟨s, h1, h2, rfl⟩ := h.ex
  refine ⟨hh, ⟨insT key (x, c) s, ?_, insT_srt h2 (fun a ha => h.few a (h1.mem_iff.1 ha)), insT_fst _ _⟩, fun a ha => ?_⟩
  · exact (insT_perm _ _).trans (((h1.cons _).trans (List.perm_append_singleton _ _).symm).trans hp.symm)
  · rcases List.mem_append.1 (hp.mem_iff.1 ha) with ha | ha
    · have := h.few a ha; omega
    · rw [List.mem_singleton.1 ha]; exact Nat.lt_succ_self c
theorem Tells.pop {l l' : List (E × Nat)} {c : Nat} {L : List E} {x : E × Nat} (h : Tells key l c L) (hx : l[0]? = some x) (hp : (x :: l').Perm l) (hh : Hp key l') : Tells key l' c L.tail := by
  obtain ⟨s, h1, h2, rfl⟩ := h.ex
  cases s with
  | nil => rw [List.nil_perm.1 h1] at hx; simp at hx
  | cons y r =>
    obtain rfl := head_is h.hp h1 h2 hx rfl
    refine ⟨hh, ⟨r, (List.Perm.cons_inv (h1.trans hp.symm)), (List.pairwise_cons.1 h2).2, rfl⟩, fun a ha => h.few a (hp.mem_iff.1 (by simp [ha]))⟩
/-- The last thing comes to the top: what is left. -/
theorem last_top {l : List (E × Nat)} {x y : E × Nat} (hx : l[0]? = some x) (hy : l[l.length - 1]? = some y) : (x :: (l.set 0 y).take (l.length - 1)).Perm l := by
  cases l with
  | nil => simp at hx
  | cons a r =>
    simp at hx; subst hx
    cases r with
    | nil => simp
    | cons b r =>
      have e : (b :: r) = (b :: r).dropLast ++ [y] := by
        have := List.dropLast_concat_getLast (l := b :: r) (by simp)
        have hg : (b :: r).getLast (by simp) = y := by
          rw [List.getLast_eq_getElem]
          simp at hy
          have h1 : (a :: b :: r)[r.length + 1]? = some y := by simpa using hy
          simpa using h1
        rw [hg] at this
        exact this.symm
      have e2 : ((a :: b :: r).set 0 y).take ((a :: b :: r).length - 1) = y :: (b :: r).dropLast := by
        simp [List.dropLast_eq_take]
      rw [e2]
      refine List.Perm.cons _ ?_
      conv => rhs; rw [e]
      exact (List.perm_append_singleton _ _).symm
end
end Go.Proofs.YtnhddnldebdmbaaGreatDoor
/- What the texts of this stage lean on: rows that are stored to. -/
namespace Go.Proofs.YtnhddnldebdmbaaGreatDoor
open Go.RowKit
set_option linter.unusedVariables false
set_option linter.unusedSimpArgs false
theorem below_drewN' (w : World) (n : Nat) : Below w.heap.size w (w.drewN n) := ⟨rfl, rfl, rfl, Nat.le_refl _, fun _ _ => rfl⟩
/-- A row cut behind its first m things. -/
theorem own_take {w : World} {B e size n m cap g : Nat} {xs : List Value} (h : w.ownsRow B e size (.slice (some ⟨g, 0, none⟩) n cap) n xs) (hm : m ≤ n) : w.ownsRow B e size (.slice (some ⟨g, 0, none⟩) m cap) m (xs.take (m * size)) := by
  obtain ⟨h1, h2⟩ := h
  have hle : m * size ≤ n * size := Nat.mul_le_mul_right _ hm
  rcases h2 with ⟨hv, _⟩ | ⟨g', cap', cur, hv, hb, hh, hn, hmx, hs, ht⟩
  · simp at hv
  · simp only [Value.slice.injEq, Option.some.injEq, Addr.mk.injEq, and_true, true_and] at hv
    obtain ⟨rfl, rfl⟩ := hv
    exact ⟨by rw [List.length_take]; omega, .inr ⟨g, cap, cur, rfl, hb, hh, by omega, hmx, hs, by rw [← ht, List.take_take, Nat.min_eq_left hle]⟩⟩
theorem kept_push {Y : List Nat} {g : Nat} {w w1 w3 w4 : World} (h1 : Below w.heap.size w w1) (h2 : Kept Y w1 w3) (h3 : Kept [g] w3 w4) (ho : g ∈ Y ∨ w.heap.size ≤ g) : Kept Y w w4 := by
  have h : Kept (g :: Y) w w4 := (((Kept.of Y h1).trans h2).mono (fun k hk => List.mem_cons_of_mem _ hk)).trans (h3.mono (by simp))
  exact h.less (fun k hk => by
    rcases List.mem_cons.1 hk with rfl | hk
    · exact ho
    · exact .inl hk)
/-- Its blocks. -/
def blk (b : Nat) (v : Value) : List Nat := b :: v.ownBlock.toList
def Ans (t : Bool) (w : World) (e : Ending) (w' : World) : Prop := e = .returned (.bool t) ∧ Below w.heap.size w w'
theorem take_set_same {α : Type} (l : List α) (m : Nat) (x : α) : (l.set m x).take m = l.take m := by
  rw [List.take_set, List.set_eq_of_length_le (by rw [List.length_take]; omega)]
def Told (v : Value) (w : World) (e : Ending) (w' : World) : Prop := e = .returned v ∧ Below w.heap.size w w'
theorem tmod_nat (a n : Nat) : (a : Int).tmod (n : Int) = ((a % n : Nat) : Int) := by
  rw [Int.tmod_eq_emod_of_nonneg (by omega)]; omega
theorem below_drewN2 (w : World) (n : Nat) : Below w.heap.size w (w.drewN n) := ⟨rfl, rfl, rfl, Nat.le_refl _, fun _ _ => rfl⟩
def Quiet (v : Value) (w : World) (e : Ending) (w' : World) : Prop := e = .returned v ∧ ∃ m, w' = w.drewN m
theorem Quiet.told {v : Value} {w : World} {e : Ending} {w' : World} (h : Quiet v w e w') : Told v w e w' := by
  obtain ⟨h1, m, rfl⟩ := h
  exact ⟨h1, below_drewN2 w m⟩
theorem below_drew2 (w : World) : Below w.heap.size w w.drew.drew := ⟨rfl, rfl, rfl, Nat.le_refl _, fun _ _ => rfl⟩
theorem own_base {w : World} {B B' e size n : Nat} {v : Value} {xs : List Value} (h : w.ownsRow B e size v n xs) (hB : B' ≤ B) : w.ownsRow B' e size v n xs := by
  refine ⟨h.1, h.2.imp id ?_⟩
  rintro ⟨g, cap, cur, h1, h2, r⟩
  exact ⟨g, cap, cur, h1, Nat.le_trans hB h2, r⟩
end Go.Proofs.YtnhddnldebdmbaaGreatDoor
/- What the document's run, and the executive's, both lean on: blocks by types, rows of spans, sums. -/
namespace Go.Proofs.YtnhddnldebdmbaaGreatDoor
open Go.RowKit
set_option linter.unusedVariables false
set_option linter.unusedSimpArgs false
abbrev TSp : TypeId := 151
abbrev T64 : TypeId := 2
abbrev TIn : TypeId := 3
/-- Of what was there nothing has turned but blocks of these types. -/
structure KT (S : List TypeId) (w w' : World) : Prop where
  size : w.heap.size ≤ w'.heap.size
  blk : ∀ (b : Nat) (cs : Array Value) (T : TypeId), w.heap[b]? = some (Obj.cells cs T (0, 0)) → T ∉ S → w'.heap[b]? = some (Obj.cells cs T (0, 0))
section
variable {S S' : List TypeId} {w w' w'' : World}
theorem KT.refl (S : List TypeId) (w : World) : KT S w w := ⟨Nat.le_refl _, fun _ _ _ h _ => h⟩
theorem KT.trans (h : KT S w w') (k : KT S w' w'') : KT S w w'' := ⟨Nat.le_trans h.size k.size, fun b cs T hb hT => k.blk b cs T (h.blk b cs T hb hT) hT⟩
theorem KT.mono (h : KT S w w') (hs : ∀ T ∈ S, T ∈ S') : KT S' w w' := ⟨h.size, fun b cs T hb hT => h.blk b cs T hb (fun hm => hT (hs T hm))⟩
theorem KT.of (h : Below w.heap.size w w') : KT S w w' := ⟨h.size, fun b cs T hb _ => (h.block b (Array.getElem?_eq_some_iff.1 hb).1).trans hb⟩
theorem KT.kept {X : List Nat} (h : Kept X w w') (hX : ∀ k ∈ X, ∃ cs T, w.heap[k]? = some (.cells cs T (0, 0)) ∧ T ∈ S) : KT S w w' := ⟨h.size, fun b cs T hb hT => (h.block b (Array.getElem?_eq_some_iff.1 hb).1 (fun hm => by
  obtain ⟨cs', T', h1, h2⟩ := hX b hm
  rw [hb] at h1
  simp only [Option.some.injEq, Obj.cells.injEq] at h1
  rw [h1.2.1] at hT; exact hT h2)).trans hb⟩
theorem KT.set {b i : Nat} {cs : Array Value} {T : TypeId} {v : Value} (hb : w.heap[b]? = some (.cells cs T (0, 0))) (hT : T ∈ S) : KT S w (w.setCell ⟨b, i, none⟩ v) :=
  KT.kept (X := [b]) ((Kept.refl [b] w).set b i v (by simp)) (fun k hk => by rw [List.mem_singleton.1 hk]; exact ⟨cs, T, hb, hT⟩)
theorem KT.cell (h : KT S w w') {b i : Nat} {cs : Array Value} {T : TypeId} {v : Value} (hb : w.heap[b]? = some (.cells cs T (0, 0))) (hT : T ∉ S) : w'.cell? ⟨b, i, none⟩ = w.cell? ⟨b, i, none⟩ :=
  World.cell?_of_block (w := w) ((h.blk b cs T hb hT).trans hb.symm)
theorem KT.row (h : KT S w w') {B e size n : Nat} {v : Value} {xs : List Value} (hr : w.ownsRow B e size v n xs) (he : e ∉ S) : w'.ownsRow B e size v n xs := by
  obtain ⟨h1, h2⟩ := hr
  refine ⟨h1, ?_⟩
  rcases h2 with h2 | ⟨g, cap, cur, hv, hg, hh, r⟩
  · exact .inl h2
  · exact .inr ⟨g, cap, cur, hv, hg, h.blk g cur e hh he, r⟩
end
/-- The row of a value's own block, if any, is of that type. -/
theorem own_ty {w : World} {B e size n : Nat} {v : Value} {xs : List Value} (hr : w.ownsRow B e size v n xs) {g : Nat} (hg : v.ownBlock = some g) : ∃ cs, w.heap[g]? = some (.cells cs e (0, 0)) := by
  rcases hr.2 with ⟨rfl, _⟩ | ⟨g', cap, cur, rfl, _, hh, _⟩
  · simp [Value.ownBlock] at hg
  · simp only [Value.ownBlock, Option.some.injEq] at hg
    subst hg
    exact ⟨cur, hh⟩
/-- Rows of spans. -/
def spC (l : List Spn) : List Value := l.flatMap fun x => [.int .i64 (x.j : Int), .int .i64 x.f, .int .i64 x.t]
theorem below_set {B b i : Nat} {w0 w : World} {v : Value} (h : Below B w0 w) (hb : B ≤ b) (hw : B ≤ w.heap.size) : Below B w0 (w.setCell ⟨b, i, none⟩ v) :=
  h.trans (((Kept.refl [b] w).set b i v (by simp)).below hw (fun k hk => by rw [List.mem_singleton.1 hk]; exact hb))
theorem infoSp : (Tryz.prog.info? TSp).map (fun i => (i.zero, i.size, i.bytes)) = some (some (.agg #[.int .i64 0, .int .i64 0, .int .i64 0]), 3, 24) := by kernel_rfl
def snL (x : Spn) : List Value := [.int .i64 (x.j : Int), .int .i64 x.f, .int .i64 x.t]
theorem spC_app (a b : List Spn) : spC (a ++ b) = spC a ++ spC b := by simp [spC]
theorem spC_one (x : Spn) : spC [x] = snL x := rfl
theorem spC_len : ∀ l : List Spn, (spC l).length = l.length * 3
  | [] => rfl
  | x :: l => by
    have := spC_len l
    rw [show x :: l = [x] ++ l from rfl, spC_app, List.length_append, this, List.length_append]
    simp [spC_one, snL]; omega
theorem sp_new (w : World) (x : Spn) : ∀ j u, (snL x)[j]? = some u → (w.alloc (.cells #[.int .i64 (x.j : Int), .int .i64 x.f, .int .i64 x.t] TSp)).cell? ((⟨w.heap.size, 0, none⟩ : Addr).add j) = some u := by
  intro j u hj
  rw [add_none, Nat.zero_add, cell_of_row _ _ j _ _ _ (heap_alloc_new w _)]
  simpa [snL] using hj
theorem sp_one (x : Spn) : ∀ u ∈ snL x, u.oneCell' = true := by
  intro u hu
  simp only [snL, List.mem_cons, List.not_mem_nil, or_false] at hu
  rcases hu with rfl | rfl | rfl <;> rfl
theorem sp_set (l : List Spn) (x : Spn) (t : Int) : (spC (l ++ [x])).set (l.length * 3 + 2) (.int .i64 t) = spC (l ++ [⟨x.j, x.f, t⟩]) := by
  rw [spC_app, spC_app, List.set_append_right _ _ (by rw [spC_len]; omega), spC_len]
  congr 1
  rw [show l.length * 3 + 2 - l.length * 3 = 2 by omega]
  rfl
/-- There are no more spans than ticks that were worked. -/
theorem sum_set : ∀ (l : List Int) (i : Nat) (v : Int), i < l.length → (l.set i (kO l i + v)).sum = l.sum + v
  | [], i, v, h => by simp at h
  | a :: l, 0, v, h => by simp [kO]; omega
  | a :: l, i + 1, v, h => by
    have := sum_set l i v (by simpa using h)
    have e : kO (a :: l) (i + 1) = kO l i := by simp [kO]
    rw [e, List.set_cons_succ, List.sum_cons, List.sum_cons, this]; omega
theorem addN_len (sp : List Spn) (i : Nat) (t m : Int) : (addN sp i t m).length ≤ sp.length + 1 := by
  unfold addN
  cases h : sp.getLast? with
  | none => simp
  | some x =>
    simp only
    split
    · simp <;> omega
    · simp
theorem spn_len {ts : List Ts} {js : List Fv} (hl : Lg js) : ∀ n : Nat, ((tst ts js n).sp.length : Int) ≤ (tst ts js n).dn.sum
  | 0 => by simp [tst]
  | n + 1 => by
    have ih := spn_len (ts := ts) hl n
    have hI := ti_all (ts := ts) hl n
    rw [tst_succ]
    cases hw : whoS ts js (tst ts js n) n with
    | none => rw [tstep_none hw]; exact ih
    | some i =>
      rw [tstep_some hw]
      have h1 := (hI.who_some hl hw).1
      have h2 := addN_len (tst ts js n).sp i n 1
      simp only [runM]
      rw [sum_set _ _ _ (by rw [hI.ld]; exact h1)]
      omega
theorem sum_le : ∀ (a b : List Int), a.length = b.length → (∀ i, i < a.length → kO a i ≤ kO b i) → a.sum ≤ b.sum
  | [], b, h, _ => by
    have : b = [] := List.eq_nil_of_length_eq_zero (by simpa using h.symm)
    subst this; simp
  | x :: a, [], h, _ => by simp at h
  | x :: a, y :: b, h, hk => by
    have h0 := hk 0 (by simp)
    have := sum_le a b (by simpa using h) (fun i hi => by
      have := hk (i + 1) (by simpa using hi)
      simpa [kO] using this)
    simp only [kO, List.getElem?_cons_zero, Option.getD_some] at h0
    rw [List.sum_cons, List.sum_cons]; omega
theorem spn_few {ts : List Ts} {js : List Fv} (hl : Lg js) (n : Nat) : ((tst ts js n).sp.length : Int) ≤ (js.map (·.k)).sum := by
  have h1 := spn_len (ts := ts) hl n
  have hI := ti_all (ts := ts) hl n
  have h2 := sum_le (tst ts js n).dn (js.map (·.k)) (by rw [hI.ld, List.length_map]) (fun i hi => by
    have hi' : i < js.length := by rw [← hI.ld]; exact hi
    have := (hI.d0 i hi').2
    have e : kO (js.map (·.k)) i = (jb js i).k := by simp [kO, jb, hi']
    omega)
  omega
theorem infoI64 : (Tryz.prog.info? T64).map (fun i => (i.zero, i.size, i.bytes)) = some (some (.int .i64 0), 1, 8) := by kernel_rfl
theorem make_64 (n : Nat) (hn : n ≤ 1000) (W : World) : (Instr.makeSlice 31 (.int .i64 (n : Int)) (.int .i64 (n : Int))).run Tryz.prog W = .ok (.slice (some ⟨W.heap.size, 0, none⟩) n n) (W.alloc (.cells (madeCells (Value.cells (.int .i64 0)) n) T64)) := by
  obtain ⟨i0, hi, hz0, hz1, hz2⟩ := info_parts infoI64
  have h := run_make (P := Tryz.prog) W 31 T64 i0 _ Tryz.underlying31 hi hz0 .i64 .i64 n n (by omega) (Int.le_refl _) (by rw [hz2]; omega) (by omega)
  simp only [Int.toNat_natCast, hz1, Nat.mul_one] at h
  exact h
theorem ltT {a b c : World} (h : Lt a b) (k : Lt b c) : Lt a c := by
  have h : Below a.heap.size a b := h
  have k : Below b.heap.size b c := k
  exact h.trans (k.mono h.size)
theorem ltR (a : World) : Lt a a := Below.refl _ _
theorem ltA {a b : World} (h : Lt a b) (o : Obj) : Lt a (b.alloc o) := ltT h ((Below.refl _ _).alloc (Nat.le_refl _) _)
theorem ltD {a b : World} (h : Lt a b) : Lt a b.drew := ltT h (below_drew b)
theorem ltN {a b : World} (h : Lt a b) (n : Nat) : Lt a (b.drewN n) := ltT h (below_drewN2 b n)
theorem heapLt {W W' : World} {g : Nat} {o : Obj} (h : W.heap[g]? = some o) (k : Lt W W') : W'.heap[g]? = some o := by
  have k : Below W.heap.size W W' := k
  exact (k.block g (Array.getElem?_eq_some_iff.1 h).1).trans h
theorem ownLt {W W' : World} {B e size n : Nat} {v : Value} {xs : List Value} (h : W.ownsRow B e size v n xs) (k : Lt W W') : W'.ownsRow B e size v n xs := by
  have k : Below W.heap.size W W' := k
  exact (Kept.of [] k).row h (by simp)
theorem own_mono {w : World} {B B' e size n : Nat} {v : Value} {xs : List Value} (h : w.ownsRow B' e size v n xs) (hB : B ≤ B') : w.ownsRow B e size v n xs := by
  refine ⟨h.1, ?_⟩
  rcases h.2 with h2 | ⟨g, cap, cur, h1, hb, r⟩
  · exact .inl h2
  · exact .inr ⟨g, cap, cur, h1, by omega, r⟩
theorem ltS {a b : World} (h : Lt a b) : a.heap.size ≤ b.heap.size := Below.size h
/-- Ends are being filled. -/
structure EnR (wc : World) (ge n k : Nat) (wr : World) : Prop where
  row : ∃ cur : Array Value, wr.heap[ge]? = some (Obj.cells cur T64 (0, 0)) ∧ cur.size = n ∧ ∀ j, j < k → cur[j]? = some (.int .i64 (-1))
  kp : Kept [ge] wc wr
theorem EnR.step {wc wr : World} {ge n k : Nat} (h : EnR wc ge n k wr) (hk : k < n) : EnR wc ge n (k + 1) (wr.setCell ⟨ge, k, none⟩ (.int .i64 (-1))) := by
  obtain ⟨cur, h1, h2, h3⟩ := h.row
  refine ⟨⟨cur.setIfInBounds k (.int .i64 (-1)), heap_setCell_same _ _ _ _ _ _ h1, by simp [h2], fun j hj => ?_⟩, h.kp.set ge k _ (by simp)⟩
  by_cases e : k = j
  · subst e; simp [h2, hk]
  · rw [Array.getElem?_setIfInBounds_ne e]; exact h3 j (by omega)
theorem EnR.cell {wc wr : World} {ge n k : Nat} (h : EnR wc ge n k wr) (hk : k < n) : (∃ v, wr.cell? ⟨ge, k, none⟩ = some v) ∧ wr.frozen? ⟨ge, k, none⟩ = false := by
  obtain ⟨cur, h1, h2, h3⟩ := h.row
  exact ⟨⟨cur[k], by rw [cell_of_row wr ge k _ _ _ h1]; exact Array.getElem?_eq_getElem (by omega)⟩, by simp [World.frozen?, h1]⟩
theorem EnR.own {B : Nat} {wc wr : World} {ge n : Nat} (h : EnR wc ge n n wr) (hB : B ≤ ge) (hn : n ≤ 1000) : wr.ownsRow B T64 1 (.slice (some ⟨ge, 0, none⟩) n n) n (numL (List.replicate n (-1))) := by
  obtain ⟨cur, h1, h2, h3⟩ := h.row
  refine ⟨by simp [numL], .inr ⟨ge, n, cur, rfl, hB, h1, Nat.le_refl _, by unfold maxLen; omega, by omega, ?_⟩⟩
  refine List.ext_getElem? fun j => ?_
  rw [List.getElem?_take]
  by_cases hj : j < n
  · rw [if_pos (by omega), Array.getElem?_toList, h3 j hj]
    simp [numL, hj]
  · rw [if_neg (by omega), List.getElem?_eq_none]
    simp [numL]; omega
end Go.Proofs.YtnhddnldebdmbaaGreatDoor
/- All end at some time. -/
namespace Go.Proofs.YtnhddnldebdmbaaGreatDoor
set_option linter.unusedVariables false
set_option linter.unusedSimpArgs false
/-- How many have not ended. -/
def lftC (js : List Fv) (dn : List Int) : Nat := (List.range js.length).countP fun i => decide (kO dn i < (jb js i).k)
section
variable {ts : List Ts} {js : List Fv}
theorem lftC_zero {dn : List Int} (h0 : ∀ i, i < js.length → kO dn i ≤ (jb js i).k) : lftC js dn = 0 ↔ ∀ i, i < js.length → kO dn i = (jb js i).k := by
  unfold lftC
  rw [List.countP_eq_zero]
  constructor
  · intro h i hi
    have := h i (List.mem_range.2 hi)
    have := h0 i hi
    simp at *
    omega
  · intro h i hi
    have := h i (List.mem_range.1 hi)
    simp; omega
theorem countP_one (f g : Nat → Bool) (i : Nat) : ∀ l : List Nat, l.Nodup → i ∈ l → f i = true → g i = false → (∀ j, j ≠ i → g j = f j) → l.countP f = l.countP g + 1
  | [], _, h, _, _, _ => by simp at h
  | a :: l, hn, h, hf, hg, he => by
    have hnd := List.nodup_cons.1 hn
    by_cases ha : a = i
    · subst ha
      rw [List.countP_cons_of_pos hf, List.countP_cons_of_neg (by simp [hg])]
      congr 1
      refine List.countP_congr fun j hj => ?_
      rw [he j (fun e => hnd.1 (by rw [← e]; exact hj))]
    · have hi : i ∈ l := by
        rcases List.mem_cons.1 h with h | h
        · exact absurd h.symm ha
        · exact h
      have := countP_one f g i l hnd.2 hi hf hg he
      rw [List.countP_cons, List.countP_cons, he a ha, this]
      omega
theorem lftC_set {dn : List Int} {i : Nat} {v : Int} (hl : dn.length = js.length) (hi : i < js.length) (hk : kO dn i < (jb js i).k) : lftC js (dn.set i v) + (if v < (jb js i).k then 0 else 1) = lftC js dn := by
  unfold lftC
  by_cases hv : v < (jb js i).k
  · rw [if_pos hv]
    refine List.countP_congr fun j hj => ?_
    rw [kO_set _ _ (by omega)]
    by_cases e : j = i
    · subst e; simp [hv, hk]
    · simp [e]
  · rw [if_neg hv]
    symm
    refine countP_one _ _ i _ List.nodup_range (List.mem_range.2 hi) (by simp [hk]) ?_ (fun j hj => ?_)
    · rw [kO_set _ _ (by omega), if_pos rfl]; simp; omega
    · rw [kO_set _ _ (by omega), if_neg hj]
theorem lftC_init (hl : Lg js) : lftC js (tst ts js 0).dn = js.length := by
  unfold lftC
  rw [List.countP_eq_length.2]
  · simp
  · intro i hi
    have hi := List.mem_range.1 hi
    have := hl.k1 i hi
    have e : kO (tst ts js 0).dn i = 0 := kO_rep _ _ _ hi
    exact decide_eq_true (by rw [e]; omega)
/-- By then all have ended. -/
theorem done_by (hl : Lg js) (R : Nat) (hR : ∀ i, i < js.length → (jb js i).r ≤ R) : ∀ m : Nat, (∀ i, i < js.length → kO (tst ts js (R + m)).dn i = (jb js i).k) ∨ (m : Int) ≤ (tst ts js (R + m)).dn.sum
  | 0 => by
    right
    have hI := ti_all (ts := ts) hl R
    have := sum_le (List.replicate js.length 0) (tst ts js R).dn (by simp [hI.ld]) (fun i hi => by
      have hi' : i < js.length := by simpa using hi
      rw [kO_rep _ _ _ hi']
      exact (hI.d0 i hi').1)
    simpa using this
  | m + 1 => by
    have hI := ti_all (ts := ts) hl (R + m)
    rcases done_by hl R hR m with h | h
    · left
      have := (run_done hl h 1).1
      intro i hi
      rw [← Nat.add_assoc, this]
      exact h i hi
    · by_cases hd : ∀ i, i < js.length → kO (tst ts js (R + m)).dn i = (jb js i).k
      · left
        have := (run_done hl hd 1).1
        intro i hi
        rw [← Nat.add_assoc, this]
        exact hd i hi
      · right
        rw [← Nat.add_assoc, tst_succ]
        cases hw : whoS ts js (tst ts js (R + m)) ((R + m : Nat) : Int) with
        | none =>
          exfalso
          apply hd
          intro i hi
          exact not_rdy (hI.d0 i hi).2 (hI.who_none hl hw i hi) (by have := hR i hi; omega)
        | some i =>
          rw [tstep_some hw]
          simp only [runM]
          rw [sum_set _ _ _ (by rw [hI.ld]; exact (hI.who_some hl hw).1)]
          omega
theorem done_at (hl : Lg js) (R S : Nat) (hR : ∀ i, i < js.length → (jb js i).r ≤ R) (hS : (js.map (·.k)).sum ≤ S) : ∀ i, i < js.length → kO (tst ts js (R + (S + 1))).dn i = (jb js i).k := by
  rcases done_by (ts := ts) hl R hR (S + 1) with h | h
  · exact h
  · exfalso
    have hI := ti_all (ts := ts) hl (R + (S + 1))
    have h2 := sum_le (tst ts js (R + (S + 1))).dn (js.map (·.k)) (by rw [hI.ld, List.length_map]) (fun i hi => by
      have hi' : i < js.length := by rw [← hI.ld]; exact hi
      have := (hI.d0 i hi').2
      have e : kO (js.map (·.k)) i = (jb js i).k := by simp [kO, jb, hi']
      omega)
    omega
theorem done_later (hl : Lg js) {a b : Nat} (hab : a ≤ b) (h : ∀ i, i < js.length → kO (tst ts js a).dn i = (jb js i).k) : (tst ts js b).dn = (tst ts js a).dn ∧ (tst ts js b).sp = (tst ts js a).sp ∧ (tst ts js b).en = (tst ts js a).en := by
  have := run_done (ts := ts) hl h (b - a)
  rwa [show a + (b - a) = b by omega] at this
end
end Go.Proofs.YtnhddnldebdmbaaGreatDoor
/- What is legal; runs of jobs that are made out of others. -/
namespace Go.Proofs.YtnhddnldebdmbaaGreatDoor
set_option linter.unusedVariables false
set_option linter.unusedSimpArgs false

/-! ### What is legal -/
theorem fitB_of (q : Int) : ∀ (left : Int) (l : List Int), Pos1 l → l.sum ≤ left → (∀ x ∈ l, x ≤ q) → fitB q left l = true
  | left, [], _, _, _ => rfl
  | left, c :: r, h1, h2, h3 => by
    rw [List.sum_cons] at h2
    have := h1.head
    have := h1.tail.sum
    have := h3 c (by simp)
    rw [fitB, fitB_of q (left - c) r h1.tail (by omega) (fun x hx => h3 x (List.mem_cons_of_mem _ hx)), decide_eq_true (by omega)]
    rfl
theorem leg_of {ts : List Ts} : ∀ js : List Fv, (∀ j ∈ js, LJ ts j) → js.Pairwise (fun x y => x.t = y.t → x.a + (tk ts x.t).t ≤ y.a) → legF ts [] js = true := by
  refine snoc_ind (fun _ _ => rfl) fun js j ih h1 h2 => ?_
  rw [List.pairwise_append] at h2
  have hj := h1 j (by simp)
  rw [legF_app, ih (fun x hx => h1 x (by simp [hx])) h2.1, List.nil_append, legF, legF, Bool.true_and, Bool.and_true]
  have hs : soonI ts js j.t ≤ j.a := by
    unfold soonI
    cases hl : lastT js j.t with
    | none => exact hj.a0
    | some l =>
      obtain ⟨m1, m2⟩ := lastT_mem hl
      have := h2.2.2 l m1 j (by simp) m2
      rw [m2] at this
      exact this
  rw [legJ, inB_yes ⟨hj.t0, by have := hj.t1; omega⟩, inB_yes ⟨hs, hj.a1⟩, inB_yes ⟨hj.r0, hj.r1⟩, inB_yes ⟨hj.k0, hj.k1⟩, fitB_of _ _ _ hj.pos hj.fit hj.q]
  rfl
theorem legS_of {ts : List Ts} {js : List Fv} (hc : (chkAll ts).2 = 0) (hl : js.length ≤ 4096) (h1 : ∀ j ∈ js, LJ ts j) (h2 : js.Pairwise (fun x y => x.t = y.t → x.a + (tk ts x.t).t ≤ y.a)) : legS ts js = true := by
  rw [legS, leg_of js h1 h2, decide_eq_true ⟨hc, hl⟩]
  rfl

/-! ### Who runs, of two rows of jobs -/
theorem pkN_congr {ts ts' : List Ts} {js js' : List Fv} {dn dn' : List Int} {t t' : Int} : ∀ n, (∀ i, i < n → rdy js' dn' t' i = rdy js dn t i) → (∀ i j, i < n → j < n → decide (prO ts' js' i < prO ts' js' j) = decide (prO ts js i < prO ts js j)) → pkN ts' js' dn' t' n = pkN ts js dn t n
  | 0, _, _ => rfl
  | n + 1, h1, h2 => by
    have e := pkN_congr n (fun i hi => h1 i (by omega)) (fun i j hi hj => h2 i j (by omega) (by omega))
    rw [pkN_succ, pkN_succ, e]
    unfold pk1
    rw [h1 n (by omega)]
    cases hp : pkN ts js dn t n with
    | none => rfl
    | some b =>
      have hb := ((pkN_spec n).2 b hp).1
      have h3 := h2 n b (by omega) (by omega)
      simp only [h3]
theorem jb_map {f : Fv → Fv} {js : List Fv} {i : Nat} (hi : i < js.length) : jb (js.map f) i = f (jb js i) := by
  have e : js[i]? = some js[i] := List.getElem?_eq_getElem hi
  rw [jb_get e, jb_get (x := f js[i]) (by rw [List.getElem?_map, e]; rfl)]
theorem jb_out {js : List Fv} {i : Nat} (hi : js.length ≤ i) : jb js i = ⟨0, 0, 0, 1, []⟩ := by
  have : js[i]? = none := List.getElem?_eq_none hi
  simp [jb, this]
theorem kO_map {f : Int → Int} {l : List Int} {i : Nat} (hi : i < l.length) : kO (l.map f) i = f (kO l i) := by
  simp [kO, hi]
theorem addN_map (f : Int → Int) (hf : ∀ a b, f a = f b → a = b) (sp : List Spn) (i : Nat) (t u m m' : Int) (ht : f t = u) (hm : f (t + m) = u + m') :
    addN (sp.map fun x => ⟨x.j, f x.f, f x.t⟩) i u m' = (addN sp i t m).map fun x => ⟨x.j, f x.f, f x.t⟩ := by
  rcases List.eq_nil_or_concat sp with h | ⟨l, x, h⟩
  · subst h
    simp [addN, ht, hm]
  · rw [List.concat_eq_append] at h
    subst h
    unfold addN
    rw [List.map_append, List.map_singleton]
    simp only [List.getLast?_concat, List.dropLast_concat]
    by_cases hc : x.j = i ∧ x.t = t
    · rw [if_pos hc, if_pos ⟨hc.1, by rw [hc.2, ht]⟩]
      simp [hm]
    · rw [if_neg hc, if_neg (fun h => hc ⟨h.1, hf _ _ (by rw [h.2, ht])⟩)]
      simp [ht, hm]
end Go.Proofs.YtnhddnldebdmbaaGreatDoor
/- The law's few raw jobs. -/
namespace Go.Proofs.YtnhddnldebdmbaaGreatDoor
open Go.RowKit
set_option linter.unusedVariables false
set_option linter.unusedSimpArgs false

def fewTS1 (r : Fv) : Fv := { r with a := r.a % 12, c := r.c.take 5 }
def fewTS (rs : List Fv) : List Fv := (rs.take 12).map fewTS1
def fewTSPost (rs : List Fv) (w : World) (e : Ending) (w' : World) : Prop := ∃ v gs, e = .returned v ∧ FOwn 55 w.heap.size w' v gs ∧ gs.map (·.x) = fewTS rs ∧ Below w.heap.size w w'
structure fewTSIn (w wr : World) (v : Value) (rs : List Fv) : Prop where
  own : ∃ gs, FOwn 55 w.heap.size wr v gs ∧ gs.map (·.x) = rs.map fewTS1
  bel : Below w.heap.size w wr
set_option maxRecDepth 100000 in
set_option maxHeartbeats 8000000 in
theorem fewT_any (R : Option Addr) (rc : Nat) (rs : List Fv) (w : World) (hR : FRow w R rc rs) :
    Calls Tryz.prog 7 #[.slice R rs.length rc, .int .i64 12] w (fewTSPost rs w) := by
  obtain ⟨i0, hi, hz0, hz1, hz2⟩ := info_parts infoRs
  have hle := hR.le
  have hmx := hR.mx
  have RAW := Lib.hid hR
  clear hR
  go_enter Tryz.func7, Tryz.ntmps7
  go_wp2
  go_loopw [5, 6] (fun v i wr => ∃ k : Nat, k ≤ min rs.length 12 ∧ i = .int .i64 k ∧ Hid (fewTSIn w wr v (rs.take k))) (fun _ i _ => 12 - (intOf i).toNat)
  case atStart => exact ⟨0, Nat.zero_le _, rfl, Lib.hid ⟨⟨[], FOwn.nil _ _ _, rfl⟩, Below.refl _ _⟩⟩
  case round =>
    obtain ⟨k, hk, rfl, hI⟩ := hrel
    have hk1 : k ≤ rs.length := by omega
    have hk2 : k ≤ 12 := by omega
    by_cases hlt : k < rs.length ∧ k < 12
    · obtain ⟨hl1, hl2⟩ := hlt
      obtain ⟨rb, ro, x, C, cc, rfl, hx, hrb, hF0⟩ := RAW.out.get (k := k) (by omega)
      have hF := hF0.later hI.out.bel
      have c0 := hF.c0
      have c1 := hF.c1
      have c2 := hF.c2
      have c3 := hF.c3
      have c4 := hF.c4
      have g1 : decide ((k : Int) < (rs.length : Int)) = true := decide_eq_true (by omega)
      have g2 : decide ((k : Int) < 12) = true := decide_eq_true (by omega)
      have g2' : decide (k < 12) = true := decide_eq_true (by omega)
      have hi0 : (0 : Int) ≤ (k : Int) := by omega
      have hi1 : (k : Int) < (rs.length : Int) := by omega
      obtain ⟨gs, hG, hgs⟩ := hI.out.own
      have hgl : gs.length = k := by
        have := congrArg List.length hgs
        rw [List.length_map, List.length_map, List.length_take] at this
        omega
      have hlc := hF.s.le
      have hmc := hF.s.mx
      have HSF : Hid (Safe 55 w.heap.size w C x.c) := Lib.hid (fun hne a ha => by
        obtain ⟨b, o, n, hA, _, _, hbl, _⟩ := hF0.s.get (k := 0) (by rcases Nat.eq_zero_or_pos x.c.length with h0 | h0; exact absurd (List.length_eq_zero_iff.1 h0) hne; exact h0)
        rw [ha] at hA
        cases hA
        exact .inl hbl)
      have hgb := emod_bd x.a 12 (by omega)
      have HGB := Lib.hid hgb
      have KR0 := fun W => r8rest_any x.a 12 W hF.wf.a (by omega) (by omega)
      obtain ⟨ga, hga⟩ : ∃ ga, x.a % 12 = ga := ⟨_, rfl⟩
      have KR1 := KR0
      rw [hga] at KR1
      have KR := Lib.hid KR1
      have HGA0 := Lib.hid hga
      clear hgb KR0 KR1 hga
      have HX := Lib.hid hx
      have HF := Lib.hid hF
      have HG := Lib.hid hG
      have HGA := Lib.hid hG
      have HGS := Lib.hid hgs
      have HGL := Lib.hid hgl
      have HBW := Lib.hid hI.out.bel
      clear hF hF0 hx hG hgs hgl hI
      go_upto_region 6 with (fail)
      have F1 := Lib.hid (FB.new wr 55 (.int .i64 x.t) (.int .i64 x.a) (.int .i64 x.r) (.int .i64 x.k) (.slice C x.c.length cc))
      have B1 : Hid (Below wr.heap.size wr (wr.alloc (.cells #[.int .i64 x.t, .int .i64 x.a, .int .i64 x.r, .int .i64 x.k, .slice C x.c.length cc] 55))) := Lib.hid ((Below.refl _ _).alloc (Nat.le_refl _) _)
      generalize (wr.alloc (.cells #[.int .i64 x.t, .int .i64 x.a, .int .i64 x.r, .int .i64 x.k, .slice C x.c.length cc] 55)) = W1 at *
      obtain ⟨bx, hbx⟩ : ∃ bx, bx = wr.heap.size := ⟨_, rfl⟩
      have F1 : Hid (FB W1 bx 55 (.int .i64 x.t) (.int .i64 x.a) (.int .i64 x.r) (.int .i64 x.k) (.slice C x.c.length cc)) := by rw [hbx]; exact F1
      have HBX : Hid (wr.heap.size ≤ bx) := Lib.hid (by rw [hbx]; exact Nat.le_refl _)
      rw [← hbx]
      clear c0 c1 c2 c3 c4 hbx
      obtain ⟨z0, z1, z2, z3, z4⟩ := F1.out.z
      have y1 := F1.out.fz 1
      go_upto_region 7 with (go_at_call 15; (with_reducible refine (KR.out _).mono ?_); rintro e w2 ⟨rfl, rfl⟩)
      have F2 := Lib.hid (F1.out.set (i := 1) (.int .i64 ga) rfl)
      have B2 : Hid (Below wr.heap.size wr (W1.setCell ⟨bx, 1, none⟩ (.int .i64 ga))) := Lib.hid (B1.out.setCell (p := ⟨bx, 1, none⟩) HBX.out _)
      generalize W1.setCell ⟨bx, 1, none⟩ (.int .i64 ga) = W2 at *
      clear z0 z1 z2 z3 z4 y1
      obtain ⟨z0, z1, z2, z3, z4⟩ := F2.out.z
      have y1 := F2.out.fz 1
      by_cases hlong : 5 < x.c.length
      · have g5 : decide ((x.c.length : Int) > 5) = true := decide_eq_true (by omega)
        have g5' : decide (5 < x.c.length) = true := decide_eq_true hlong
        have hc6 : (5 : Int) ≤ (cc : Int) := by omega
        have hcz : cc ≠ 0 := by omega
        have y4 := F2.out.fz 4
        have HCL : Hid (x.c.take 5 = x.c.take 5) := Lib.hid rfl
        have hc66 : (x.c.take 5).length = 5 := by rw [List.length_take]; omega
        have HC66 := Lib.hid hc66
        clear hc66
        go_upto_region 9 with (fail)
        have F3 := Lib.hid (F2.out.set (i := 4) (.slice C 5 cc) rfl)
        have B3 : Hid (Below wr.heap.size wr (W2.setCell ⟨bx, 4, none⟩ (.slice C 5 cc))) := Lib.hid (B2.out.setCell (p := ⟨bx, 4, none⟩) HBX.out _)
        generalize W2.setCell ⟨bx, 4, none⟩ (.slice C 5 cc) = W3 at *
        clear z0 z1 z2 z3 z4 y1 y4
        have G3 : Hid (GOk 55 w.heap.size W3 ⟨⟨x.t, ga, x.r, x.k, x.c.take 5⟩, C, cc⟩) := Lib.hid ⟨⟨HF.out.wf.t, ⟨by show _ ≤ ga; have := HGB.out; have := HGA0.out; omega, by show ga ≤ _; have := HGB.out; have := HGA0.out; omega⟩, HF.out.wf.r, HF.out.wf.k⟩, (HF.out.s.later B3.out).take 5, fun hne a ha => by
          rcases HSF.out (by intro h0; rw [h0] at hne; exact hne (by simp)) a ha with h1 | ⟨cs, T, fr, h1, h2⟩
          · exact .inl h1
          · exact .inl (by have := (Array.getElem?_eq_some_iff.1 h1).1; exact this)⟩
        obtain ⟨z0, z1, z2, z3, z4⟩ := F3.out.z
        have hO := G3.out
        have HFA := Lib.hid (fun j u hu => by
          have := (FAt.new W3 ⟨x.t, ga, x.r, x.k, x.c.take 5⟩ C cc 55 hO.wf hO.s).r j u hu
          rw [Nat.zero_add] at this
          rw [add_none, Nat.zero_add]
          simp only [HC66.out] at this
          exact this : ∀ j u, (fvL ⟨x.t, ga, x.r, x.k, x.c.take 5⟩ C cc)[j]? = some u → (W3.alloc (.cells #[.int .i64 x.t, .int .i64 ga, .int .i64 x.r, .int .i64 x.k, .slice C 5 cc] 55)).cell? ((⟨W3.heap.size, 0, none⟩ : Addr).add j) = some u)
        have HG2 := Lib.hid (HGA.out.later B3.out)
        clear hO
        go_wp2_with (refine wpList_append_own _ rfl _ _ 23 rfl w.heap.size 55 i0 _ 5 56 Tryz.underlying23 hi hz0 hz1 hz2 rfl (by decide) _ gs.length (gvC gs) rfl (HG2.out.row.alloc _) ⟨W3.heap.size, 0, none⟩ 1 1 (fvL ⟨x.t, ga, x.r, x.k, x.c.take 5⟩ C cc) rfl rfl HFA.out (fvL_one _ _ _) (by have := HGL.out; unfold maxLen; omega) (by have := HGL.out; omega) (by have := HBW.out.size; have := B3.out.size; simp; omega) ?_; intro v' w8 hown' hgrow hnil')
        go_roundw
        case rel =>
          have ba : Below W3.heap.size W3 (W3.alloc (.cells #[.int .i64 x.t, .int .i64 ga, .int .i64 x.r, .int .i64 x.k, .slice C 5 cc] 55)) := (Below.refl _ _).alloc (Nat.le_refl _) _
          have hG8 := (HG2.out.later ba).push (G3.out.kept fun b hl _ => ba.block b hl) hown' hgrow
          have hB2 := HBW.out.trans (B3.out.mono HBW.out.size)
          have hL8 : Below w.heap.size w w8 := (hB2.trans (ba.mono hB2.size)).grown hgrow (by have := hB2.size; simp; omega) (fun q hq => (HG2.out.row.lt q hq).1)
          refine ⟨k + 1, by omega, by go_num, Lib.hid ⟨⟨_, hG8, ?_⟩, hL8⟩⟩
          rw [take_one HX.out, List.map_append, List.map_append, HGS.out]
          simp [fewTS1, HCL.out, HGA0.out]
        case measure => simp [intOf]; omega
      · have g5 : decide ((x.c.length : Int) > 5) = false := decide_eq_false (by omega)
        have g5' : decide (5 < x.c.length) = false := decide_eq_false hlong
        have HCL : Hid (x.c.take 5 = x.c) := Lib.hid (List.take_of_length_le (by omega))
        go_upto_region 9 with (fail)
        have F3 := F2
        have B3 := B2
        clear z0 z1 z2 z3 z4 y1
        have G3 : Hid (GOk 55 w.heap.size W2 ⟨⟨x.t, ga, x.r, x.k, x.c⟩, C, cc⟩) := Lib.hid ⟨⟨HF.out.wf.t, ⟨by show _ ≤ ga; have := HGB.out; have := HGA0.out; omega, by show ga ≤ _; have := HGB.out; have := HGA0.out; omega⟩, HF.out.wf.r, HF.out.wf.k⟩, HF.out.s.later B3.out, fun hne a ha => by
          rcases HSF.out hne a ha with h1 | ⟨cs, T, fr, h1, h2⟩
          · exact .inl h1
          · exact .inl (by have := (Array.getElem?_eq_some_iff.1 h1).1; exact this)⟩
        obtain ⟨z0, z1, z2, z3, z4⟩ := F3.out.z
        have hO := G3.out
        have HFA := Lib.hid (fun j u hu => by
          have := (FAt.new W2 ⟨x.t, ga, x.r, x.k, x.c⟩ C cc 55 hO.wf hO.s).r j u hu
          rw [Nat.zero_add] at this
          rw [add_none, Nat.zero_add]
          exact this : ∀ j u, (fvL ⟨x.t, ga, x.r, x.k, x.c⟩ C cc)[j]? = some u → (W2.alloc (.cells #[.int .i64 x.t, .int .i64 ga, .int .i64 x.r, .int .i64 x.k, .slice C x.c.length cc] 55)).cell? ((⟨W2.heap.size, 0, none⟩ : Addr).add j) = some u)
        have HG2 := Lib.hid (HGA.out.later B3.out)
        clear hO
        go_wp2_with (refine wpList_append_own _ rfl _ _ 23 rfl w.heap.size 55 i0 _ 5 56 Tryz.underlying23 hi hz0 hz1 hz2 rfl (by decide) _ gs.length (gvC gs) rfl (HG2.out.row.alloc _) ⟨W2.heap.size, 0, none⟩ 1 1 (fvL ⟨x.t, ga, x.r, x.k, x.c⟩ C cc) rfl rfl HFA.out (fvL_one _ _ _) (by have := HGL.out; unfold maxLen; omega) (by have := HGL.out; omega) (by have := HBW.out.size; have := B3.out.size; simp; omega) ?_; intro v' w8 hown' hgrow hnil')
        go_roundw
        case rel =>
          have ba : Below W2.heap.size W2 (W2.alloc (.cells #[.int .i64 x.t, .int .i64 ga, .int .i64 x.r, .int .i64 x.k, .slice C x.c.length cc] 55)) := (Below.refl _ _).alloc (Nat.le_refl _) _
          have hG8 := (HG2.out.later ba).push (G3.out.kept fun b hl _ => ba.block b hl) hown' hgrow
          have hB2 := HBW.out.trans (B3.out.mono HBW.out.size)
          have hL8 : Below w.heap.size w w8 := (hB2.trans (ba.mono hB2.size)).grown hgrow (by have := hB2.size; simp; omega) (fun q hq => (HG2.out.row.lt q hq).1)
          refine ⟨k + 1, by omega, by go_num, Lib.hid ⟨⟨_, hG8, ?_⟩, hL8⟩⟩
          rw [take_one HX.out, List.map_append, List.map_append, HGS.out]
          simp [fewTS1, HCL.out, HGA0.out]
        case measure => simp [intOf]; omega
    · obtain ⟨gs, hG, hgs⟩ := hI.out.own
      have HB := Lib.hid hI.out.bel
      have HG := Lib.hid hG
      have HGS := Lib.hid hgs
      clear hG hgs hI
      by_cases hkr : k < rs.length
      · have g1 : decide ((k : Int) < (rs.length : Int)) = true := decide_eq_true (by omega)
        have g2 : decide ((k : Int) < 12) = false := decide_eq_false (by omega)
        have g2' : decide (k < 12) = false := decide_eq_false (by omega)
        have HK : Hid (k = 12) := Lib.hid (by omega)
        go_wp2
        go_ret
        refine ⟨_, gs, rfl, HG.out, ?_, HB.out⟩
        rw [HGS.out, fewTS, HK.out]
      · have g1 : decide ((k : Int) < (rs.length : Int)) = false := decide_eq_false (by omega)
        have g1' : decide (k < rs.length) = false := decide_eq_false hkr
        have HK : Hid (rs.take 12 = rs.take k) := Lib.hid (by rw [List.take_of_length_le (by omega), List.take_of_length_le (by omega)])
        go_wp2
        go_ret
        refine ⟨_, gs, rfl, HG.out, ?_, HB.out⟩
        rw [HGS.out, fewTS, HK.out]
end Go.Proofs.YtnhddnldebdmbaaGreatDoor
/- The law's few raw jobs. -/
namespace Go.Proofs.YtnhddnldebdmbaaGreatDoor
open Go.RowKit
set_option linter.unusedVariables false
set_option linter.unusedSimpArgs false

def fewES1 (r : Fv) : Fv := { r with a := r.a % 12, c := r.c.take 5 }
def fewES (rs : List Fv) : List Fv := (rs.take 8).map fewES1
def fewESPost (rs : List Fv) (w : World) (e : Ending) (w' : World) : Prop := ∃ v gs, e = .returned v ∧ FOwn 55 w.heap.size w' v gs ∧ gs.map (·.x) = fewES rs ∧ Below w.heap.size w w'
structure fewESIn (w wr : World) (v : Value) (rs : List Fv) : Prop where
  own : ∃ gs, FOwn 55 w.heap.size wr v gs ∧ gs.map (·.x) = rs.map fewES1
  bel : Below w.heap.size w wr
set_option maxRecDepth 100000 in
set_option maxHeartbeats 8000000 in
theorem fewE_any (R : Option Addr) (rc : Nat) (rs : List Fv) (w : World) (hR : FRow w R rc rs) :
    Calls Tryz.prog 7 #[.slice R rs.length rc, .int .i64 8] w (fewESPost rs w) := by
  obtain ⟨i0, hi, hz0, hz1, hz2⟩ := info_parts infoRs
  have hle := hR.le
  have hmx := hR.mx
  have RAW := Lib.hid hR
  clear hR
  go_enter Tryz.func7, Tryz.ntmps7
  go_wp2
  go_loopw [5, 6] (fun v i wr => ∃ k : Nat, k ≤ min rs.length 8 ∧ i = .int .i64 k ∧ Hid (fewESIn w wr v (rs.take k))) (fun _ i _ => 8 - (intOf i).toNat)
  case atStart => exact ⟨0, Nat.zero_le _, rfl, Lib.hid ⟨⟨[], FOwn.nil _ _ _, rfl⟩, Below.refl _ _⟩⟩
  case round =>
    obtain ⟨k, hk, rfl, hI⟩ := hrel
    have hk1 : k ≤ rs.length := by omega
    have hk2 : k ≤ 8 := by omega
    by_cases hlt : k < rs.length ∧ k < 8
    · obtain ⟨hl1, hl2⟩ := hlt
      obtain ⟨rb, ro, x, C, cc, rfl, hx, hrb, hF0⟩ := RAW.out.get (k := k) (by omega)
      have hF := hF0.later hI.out.bel
      have c0 := hF.c0
      have c1 := hF.c1
      have c2 := hF.c2
      have c3 := hF.c3
      have c4 := hF.c4
      have g1 : decide ((k : Int) < (rs.length : Int)) = true := decide_eq_true (by omega)
      have g2 : decide ((k : Int) < 8) = true := decide_eq_true (by omega)
      have g2' : decide (k < 8) = true := decide_eq_true (by omega)
      have hi0 : (0 : Int) ≤ (k : Int) := by omega
      have hi1 : (k : Int) < (rs.length : Int) := by omega
      obtain ⟨gs, hG, hgs⟩ := hI.out.own
      have hgl : gs.length = k := by
        have := congrArg List.length hgs
        rw [List.length_map, List.length_map, List.length_take] at this
        omega
      have hlc := hF.s.le
      have hmc := hF.s.mx
      have HSF : Hid (Safe 55 w.heap.size w C x.c) := Lib.hid (fun hne a ha => by
        obtain ⟨b, o, n, hA, _, _, hbl, _⟩ := hF0.s.get (k := 0) (by rcases Nat.eq_zero_or_pos x.c.length with h0 | h0; exact absurd (List.length_eq_zero_iff.1 h0) hne; exact h0)
        rw [ha] at hA
        cases hA
        exact .inl hbl)
      have hgb := emod_bd x.a 12 (by omega)
      have HGB := Lib.hid hgb
      have KR0 := fun W => r8rest_any x.a 12 W hF.wf.a (by omega) (by omega)
      obtain ⟨ga, hga⟩ : ∃ ga, x.a % 12 = ga := ⟨_, rfl⟩
      have KR1 := KR0
      rw [hga] at KR1
      have KR := Lib.hid KR1
      have HGA0 := Lib.hid hga
      clear hgb KR0 KR1 hga
      have HX := Lib.hid hx
      have HF := Lib.hid hF
      have HG := Lib.hid hG
      have HGA := Lib.hid hG
      have HGS := Lib.hid hgs
      have HGL := Lib.hid hgl
      have HBW := Lib.hid hI.out.bel
      clear hF hF0 hx hG hgs hgl hI
      go_upto_region 6 with (fail)
      have F1 := Lib.hid (FB.new wr 55 (.int .i64 x.t) (.int .i64 x.a) (.int .i64 x.r) (.int .i64 x.k) (.slice C x.c.length cc))
      have B1 : Hid (Below wr.heap.size wr (wr.alloc (.cells #[.int .i64 x.t, .int .i64 x.a, .int .i64 x.r, .int .i64 x.k, .slice C x.c.length cc] 55))) := Lib.hid ((Below.refl _ _).alloc (Nat.le_refl _) _)
      generalize (wr.alloc (.cells #[.int .i64 x.t, .int .i64 x.a, .int .i64 x.r, .int .i64 x.k, .slice C x.c.length cc] 55)) = W1 at *
      obtain ⟨bx, hbx⟩ : ∃ bx, bx = wr.heap.size := ⟨_, rfl⟩
      have F1 : Hid (FB W1 bx 55 (.int .i64 x.t) (.int .i64 x.a) (.int .i64 x.r) (.int .i64 x.k) (.slice C x.c.length cc)) := by rw [hbx]; exact F1
      have HBX : Hid (wr.heap.size ≤ bx) := Lib.hid (by rw [hbx]; exact Nat.le_refl _)
      rw [← hbx]
      clear c0 c1 c2 c3 c4 hbx
      obtain ⟨z0, z1, z2, z3, z4⟩ := F1.out.z
      have y1 := F1.out.fz 1
      go_upto_region 7 with (go_at_call 15; (with_reducible refine (KR.out _).mono ?_); rintro e w2 ⟨rfl, rfl⟩)
      have F2 := Lib.hid (F1.out.set (i := 1) (.int .i64 ga) rfl)
      have B2 : Hid (Below wr.heap.size wr (W1.setCell ⟨bx, 1, none⟩ (.int .i64 ga))) := Lib.hid (B1.out.setCell (p := ⟨bx, 1, none⟩) HBX.out _)
      generalize W1.setCell ⟨bx, 1, none⟩ (.int .i64 ga) = W2 at *
      clear z0 z1 z2 z3 z4 y1
      obtain ⟨z0, z1, z2, z3, z4⟩ := F2.out.z
      have y1 := F2.out.fz 1
      by_cases hlong : 5 < x.c.length
      · have g5 : decide ((x.c.length : Int) > 5) = true := decide_eq_true (by omega)
        have g5' : decide (5 < x.c.length) = true := decide_eq_true hlong
        have hc6 : (5 : Int) ≤ (cc : Int) := by omega
        have hcz : cc ≠ 0 := by omega
        have y4 := F2.out.fz 4
        have HCL : Hid (x.c.take 5 = x.c.take 5) := Lib.hid rfl
        have hc66 : (x.c.take 5).length = 5 := by rw [List.length_take]; omega
        have HC66 := Lib.hid hc66
        clear hc66
        go_upto_region 9 with (fail)
        have F3 := Lib.hid (F2.out.set (i := 4) (.slice C 5 cc) rfl)
        have B3 : Hid (Below wr.heap.size wr (W2.setCell ⟨bx, 4, none⟩ (.slice C 5 cc))) := Lib.hid (B2.out.setCell (p := ⟨bx, 4, none⟩) HBX.out _)
        generalize W2.setCell ⟨bx, 4, none⟩ (.slice C 5 cc) = W3 at *
        clear z0 z1 z2 z3 z4 y1 y4
        have G3 : Hid (GOk 55 w.heap.size W3 ⟨⟨x.t, ga, x.r, x.k, x.c.take 5⟩, C, cc⟩) := Lib.hid ⟨⟨HF.out.wf.t, ⟨by show _ ≤ ga; have := HGB.out; have := HGA0.out; omega, by show ga ≤ _; have := HGB.out; have := HGA0.out; omega⟩, HF.out.wf.r, HF.out.wf.k⟩, (HF.out.s.later B3.out).take 5, fun hne a ha => by
          rcases HSF.out (by intro h0; rw [h0] at hne; exact hne (by simp)) a ha with h1 | ⟨cs, T, fr, h1, h2⟩
          · exact .inl h1
          · exact .inl (by have := (Array.getElem?_eq_some_iff.1 h1).1; exact this)⟩
        obtain ⟨z0, z1, z2, z3, z4⟩ := F3.out.z
        have hO := G3.out
        have HFA := Lib.hid (fun j u hu => by
          have := (FAt.new W3 ⟨x.t, ga, x.r, x.k, x.c.take 5⟩ C cc 55 hO.wf hO.s).r j u hu
          rw [Nat.zero_add] at this
          rw [add_none, Nat.zero_add]
          simp only [HC66.out] at this
          exact this : ∀ j u, (fvL ⟨x.t, ga, x.r, x.k, x.c.take 5⟩ C cc)[j]? = some u → (W3.alloc (.cells #[.int .i64 x.t, .int .i64 ga, .int .i64 x.r, .int .i64 x.k, .slice C 5 cc] 55)).cell? ((⟨W3.heap.size, 0, none⟩ : Addr).add j) = some u)
        have HG2 := Lib.hid (HGA.out.later B3.out)
        clear hO
        go_wp2_with (refine wpList_append_own _ rfl _ _ 23 rfl w.heap.size 55 i0 _ 5 56 Tryz.underlying23 hi hz0 hz1 hz2 rfl (by decide) _ gs.length (gvC gs) rfl (HG2.out.row.alloc _) ⟨W3.heap.size, 0, none⟩ 1 1 (fvL ⟨x.t, ga, x.r, x.k, x.c.take 5⟩ C cc) rfl rfl HFA.out (fvL_one _ _ _) (by have := HGL.out; unfold maxLen; omega) (by have := HGL.out; omega) (by have := HBW.out.size; have := B3.out.size; simp; omega) ?_; intro v' w8 hown' hgrow hnil')
        go_roundw
        case rel =>
          have ba : Below W3.heap.size W3 (W3.alloc (.cells #[.int .i64 x.t, .int .i64 ga, .int .i64 x.r, .int .i64 x.k, .slice C 5 cc] 55)) := (Below.refl _ _).alloc (Nat.le_refl _) _
          have hG8 := (HG2.out.later ba).push (G3.out.kept fun b hl _ => ba.block b hl) hown' hgrow
          have hB2 := HBW.out.trans (B3.out.mono HBW.out.size)
          have hL8 : Below w.heap.size w w8 := (hB2.trans (ba.mono hB2.size)).grown hgrow (by have := hB2.size; simp; omega) (fun q hq => (HG2.out.row.lt q hq).1)
          refine ⟨k + 1, by omega, by go_num, Lib.hid ⟨⟨_, hG8, ?_⟩, hL8⟩⟩
          rw [take_one HX.out, List.map_append, List.map_append, HGS.out]
          simp [fewES1, HCL.out, HGA0.out]
        case measure => simp [intOf]; omega
      · have g5 : decide ((x.c.length : Int) > 5) = false := decide_eq_false (by omega)
        have g5' : decide (5 < x.c.length) = false := decide_eq_false hlong
        have HCL : Hid (x.c.take 5 = x.c) := Lib.hid (List.take_of_length_le (by omega))
        go_upto_region 9 with (fail)
        have F3 := F2
        have B3 := B2
        clear z0 z1 z2 z3 z4 y1
        have G3 : Hid (GOk 55 w.heap.size W2 ⟨⟨x.t, ga, x.r, x.k, x.c⟩, C, cc⟩) := Lib.hid ⟨⟨HF.out.wf.t, ⟨by show _ ≤ ga; have := HGB.out; have := HGA0.out; omega, by show ga ≤ _; have := HGB.out; have := HGA0.out; omega⟩, HF.out.wf.r, HF.out.wf.k⟩, HF.out.s.later B3.out, fun hne a ha => by
          rcases HSF.out hne a ha with h1 | ⟨cs, T, fr, h1, h2⟩
          · exact .inl h1
          · exact .inl (by have := (Array.getElem?_eq_some_iff.1 h1).1; exact this)⟩
        obtain ⟨z0, z1, z2, z3, z4⟩ := F3.out.z
        have hO := G3.out
        have HFA := Lib.hid (fun j u hu => by
          have := (FAt.new W2 ⟨x.t, ga, x.r, x.k, x.c⟩ C cc 55 hO.wf hO.s).r j u hu
          rw [Nat.zero_add] at this
          rw [add_none, Nat.zero_add]
          exact this : ∀ j u, (fvL ⟨x.t, ga, x.r, x.k, x.c⟩ C cc)[j]? = some u → (W2.alloc (.cells #[.int .i64 x.t, .int .i64 ga, .int .i64 x.r, .int .i64 x.k, .slice C x.c.length cc] 55)).cell? ((⟨W2.heap.size, 0, none⟩ : Addr).add j) = some u)
        have HG2 := Lib.hid (HGA.out.later B3.out)
        clear hO
        go_wp2_with (refine wpList_append_own _ rfl _ _ 23 rfl w.heap.size 55 i0 _ 5 56 Tryz.underlying23 hi hz0 hz1 hz2 rfl (by decide) _ gs.length (gvC gs) rfl (HG2.out.row.alloc _) ⟨W2.heap.size, 0, none⟩ 1 1 (fvL ⟨x.t, ga, x.r, x.k, x.c⟩ C cc) rfl rfl HFA.out (fvL_one _ _ _) (by have := HGL.out; unfold maxLen; omega) (by have := HGL.out; omega) (by have := HBW.out.size; have := B3.out.size; simp; omega) ?_; intro v' w8 hown' hgrow hnil')
        go_roundw
        case rel =>
          have ba : Below W2.heap.size W2 (W2.alloc (.cells #[.int .i64 x.t, .int .i64 ga, .int .i64 x.r, .int .i64 x.k, .slice C x.c.length cc] 55)) := (Below.refl _ _).alloc (Nat.le_refl _) _
          have hG8 := (HG2.out.later ba).push (G3.out.kept fun b hl _ => ba.block b hl) hown' hgrow
          have hB2 := HBW.out.trans (B3.out.mono HBW.out.size)
          have hL8 : Below w.heap.size w w8 := (hB2.trans (ba.mono hB2.size)).grown hgrow (by have := hB2.size; simp; omega) (fun q hq => (HG2.out.row.lt q hq).1)
          refine ⟨k + 1, by omega, by go_num, Lib.hid ⟨⟨_, hG8, ?_⟩, hL8⟩⟩
          rw [take_one HX.out, List.map_append, List.map_append, HGS.out]
          simp [fewES1, HCL.out, HGA0.out]
        case measure => simp [intOf]; omega
    · obtain ⟨gs, hG, hgs⟩ := hI.out.own
      have HB := Lib.hid hI.out.bel
      have HG := Lib.hid hG
      have HGS := Lib.hid hgs
      clear hG hgs hI
      by_cases hkr : k < rs.length
      · have g1 : decide ((k : Int) < (rs.length : Int)) = true := decide_eq_true (by omega)
        have g2 : decide ((k : Int) < 8) = false := decide_eq_false (by omega)
        have g2' : decide (k < 8) = false := decide_eq_false (by omega)
        have HK : Hid (k = 8) := Lib.hid (by omega)
        go_wp2
        go_ret
        refine ⟨_, gs, rfl, HG.out, ?_, HB.out⟩
        rw [HGS.out, fewES, HK.out]
      · have g1 : decide ((k : Int) < (rs.length : Int)) = false := decide_eq_false (by omega)
        have g1' : decide (k < rs.length) = false := decide_eq_false hkr
        have HK : Hid (rs.take 8 = rs.take k) := Lib.hid (by rw [List.take_of_length_le (by omega), List.take_of_length_le (by omega)])
        go_wp2
        go_ret
        refine ⟨_, gs, rfl, HG.out, ?_, HB.out⟩
        rw [HGS.out, fewES, HK.out]
end Go.Proofs.YtnhddnldebdmbaaGreatDoor
/- Sets by numbers may be; few jobs of few raw numbers; the chapter's example. -/
namespace Go.Proofs.YtnhddnldebdmbaaGreatDoor
open Go.RowKit
set_option linter.unusedVariables false
set_option linter.unusedSimpArgs false
def untS0 (ts : List Ts) (js : List Fv) (T : Nat) : List Spn × List Int := ((tst ts js T).sp, (tst ts js T).en)
/-! ### Sets by numbers -/
theorem word_t : ∀ i, i < 8 → wordB (bs [116, UInt8.ofNat (97 + i)]) = true := by
  intro i hi
  rw [wordB_cons (c := 116) (r := [UInt8.ofNat (97 + i)]) (by simp [bs])]
  have h : ∀ i, i < 8 → (decide ((oneT 0 116 [UInt8.ofNat (97 + i)]).k = 1) && decide ((oneT 0 116 [UInt8.ofNat (97 + i)]).t.length = 2)) = true := by decide +kernel
  have := h i hi
  rw [bs_size]
  exact this
theorem name_t_inj : ∀ i, i < 8 → ∀ j, j < 8 → bs [116, UInt8.ofNat (97 + i)] = bs [116, UInt8.ofNat (97 + j)] → i = j := by
  intro i hi j hj h
  have h2 : [116, UInt8.ofNat (97 + i)] = [116, UInt8.ofNat (97 + j)] := by
    have := congrArg (fun b : ByteArray => b.data.toList) h
    simpa [bs] using this
  have h3 : UInt8.ofNat (97 + i) = UInt8.ofNat (97 + j) := by simpa using h2
  have h4 := congrArg UInt8.toNat h3
  simp at h4
  omega
theorem sf_check {i : Nat} {x : Ts} (h : SF i x) (hi : i < 8) (h1 : 1 ≤ x.p) (h2 : x.p ≤ 8) : checkE x = 0 := by
  have hn : namedB x = true := by
    rw [namedB, h.n, word_t i hi, bs_size]
    rfl
  have hr : rangedB x = true := by
    have := h.c0; have := h.c1; have := h.d0; have := h.d1; have := h.j0; have := h.t0; have := h.t1; have := h.q0; have := h.q1
    rw [rangedB, inB_yes (by omega), inB_yes (by omega), inB_yes (by omega), inB_yes (by omega), inB_yes (by omega), inB_yes (by omega)]
    rfl
  have ho : overB x = false := by
    have := h.d0; have := h.t0; have := h.q1
    simp only [overB, decide_eq_false_iff_not]
    omega
  rw [checkE, hn, hr, ho]
  rfl
theorem chkFrom_good : ∀ (l pre : List Ts), (∀ x ∈ l, checkE x = 0) → (∀ (i j : Nat) (x y : Ts), (pre ++ l)[i]? = some x → (pre ++ l)[j]? = some y → (x.n = y.n ∨ x.p = y.p) → i = j) → (chkFrom pre l).2 = 0
  | [], pre, _, _ => rfl
  | a :: r, pre, h1, h2 => by
    have ha : (pre ++ a :: r)[pre.length]? = some a := by simp
    have hn : (nameIn pre a || prioIn pre a) = false := by
      rw [Bool.or_eq_false_iff]
      constructor
      · rw [nameIn, List.any_eq_false]
        intro y hy
        obtain ⟨i, hi, rfl⟩ := List.getElem_of_mem hy
        intro he
        have := h2 i pre.length _ a (by rw [List.getElem?_append_left hi, List.getElem?_eq_getElem hi]) ha (.inl (by simpa using he))
        omega
      · rw [prioIn, List.any_eq_false]
        intro y hy
        obtain ⟨i, hi, rfl⟩ := List.getElem_of_mem hy
        intro he
        have := h2 i pre.length _ a (by rw [List.getElem?_append_left hi, List.getElem?_eq_getElem hi]) ha (.inr (by simpa using he))
        omega
    rw [chkFrom, if_neg (by rw [h1 a (by simp)]; simp), hn]
    refine chkFrom_good r (pre ++ [a]) (fun x hx => h1 x (by simp [hx])) (fun i j x y hx hy he => h2 i j x y (by simpa using hx) (by simpa using hy) he)
theorem set_ok {ts : List Ts} (h1 : 1 ≤ ts.length) (h8 : ts.length ≤ 8) (hd : Dist ts) (hs : SFs ts) (hp : ∀ (i : Nat) (x : Ts), ts[i]? = some x → 1 ≤ x.p ∧ x.p ≤ 8) : (chkAll ts).2 = 0 := by
  rw [chkAll, if_neg (by omega)]
  refine chkFrom_good ts [] (fun x hx => ?_) (fun i j x y hx hy he => ?_)
  · obtain ⟨i, hi, rfl⟩ := List.getElem_of_mem hx
    have hg := List.getElem?_eq_getElem hi
    exact sf_check (hs i _ hg) (by omega) (hp i _ hg).1 (hp i _ hg).2
  · simp only [List.nil_append] at hx hy
    rcases he with he | he
    · have e1 := (hs i x hx).n
      have e2 := (hs j y hy).n
      have hi := (List.getElem?_eq_some_iff.1 hx).1
      have hj := (List.getElem?_eq_some_iff.1 hy).1
      rw [e1, e2] at he
      exact name_t_inj i (by omega) j (by omega) he
    · exact hd i j x y hx hy he


/-! ### Few jobs -/
structure TkS (x : Ts) : Prop where
  c0 : 1 ≤ x.c
  c1 : x.c ≤ 4
  t0 : 1 ≤ x.t
  t1 : x.t ≤ 20
  j0 : 0 ≤ x.j
  j1 : x.j ≤ 14
  q0 : 1 ≤ x.q
  q1 : x.q ≤ x.c
theorem tks_of {ss : List Ts} (h : SFs ss) (p : Int) : TkS (tk ss p) := by
  unfold tk
  rw [List.getD_eq_getElem?_getD]
  cases hp : ss[p.toNat]? with
  | none => exact ⟨by decide, by decide, by decide, by decide, by decide, by decide, by decide, by decide⟩
  | some x =>
    have s := h _ x hp
    have := s.c0; have := s.c1; have := s.d0; have := s.d1; have := s.j0; have := s.t0; have := s.t1; have := s.q0; have := s.q1
    exact ⟨by simp; omega, by simp; omega, by simp; omega, by simp; omega, by simp; omega, by simp; omega, by simp; omega, by simp; omega⟩
def Bs (js : List Fv) : Prop := ∀ j ∈ js, 0 ≤ j.a ∧ j.a ≤ js.length * 32
theorem Bs.snoc {ts : List Ts} (hs : SFs ts) {js : List Fv} (h : Bs js) {r : Fv} (hr : 0 ≤ r.a ∧ r.a < 12) : Bs (js ++ [decJ ts js r]) := by
  have hx := tks_of hs (r.t % (ts.length : Int))
  have h1 : 0 ≤ soonI ts js (r.t % (ts.length : Int)) ∧ soonI ts js (r.t % (ts.length : Int)) ≤ js.length * 32 + 20 := by
    unfold soonI
    cases hl : lastT js (r.t % (ts.length : Int)) with
    | none => simp only; omega
    | some j =>
      have := h j (lastT_mem hl).1
      have := hx.t0
      have := hx.t1
      simp only
      omega
  have e : r.a % 1048576 = r.a := Int.emod_eq_of_lt hr.1 (by omega)
  intro j hj
  rw [List.length_append, List.length_singleton]
  rcases List.mem_append.1 hj with hj | hj
  · have := h j hj; omega
  · rw [List.mem_singleton] at hj
    subst hj
    simp only [decJ, e]
    omega
theorem decF_bs {ts : List Ts} (hs : SFs ts) : ∀ (rs js : List Fv), (∀ r ∈ rs, 0 ≤ r.a ∧ r.a < 12) → Bs js → Bs (decF ts js rs)
  | [], js, _, h => h
  | r :: rs, js, hr, h => decF_bs hs rs _ (fun x hx => hr x (List.mem_cons_of_mem _ hx)) (h.snoc hs (hr r (by simp)))
/-- A set, and jobs, by few plain numbers. -/
structure Sm (ss : List Ts) (js : List Fv) (M n : Nat) : Prop where
  s1 : 1 ≤ ss.length
  sM : ss.length ≤ M
  M8 : M ≤ 8
  di : Dist ss
  sf : SFs ss
  pr : ∀ (i : Nat) (x : Ts), ss[i]? = some x → 1 ≤ x.p ∧ x.p ≤ 8
  lg : legS ss js = true
  le : js.length ≤ n
  bs : Bs js
theorem sm_of {ss : List Ts} {fs : List Fv} {M n : Nat} (s1 : 1 ≤ ss.length) (sM : ss.length ≤ M) (M8 : M ≤ 8) (di : Dist ss) (sf : SFs ss) (pr : ∀ (i : Nat) (x : Ts), ss[i]? = some x → 1 ≤ x.p ∧ x.p ≤ 8) (hf : fs.length ≤ n) (hn : n ≤ 12) (ha : ∀ r ∈ fs, 0 ≤ r.a ∧ r.a < 12) : Sm ss (decS ss fs) M n := by
  have hok := set_ok s1 (by omega) di sf pr
  have e : fs.take 4096 = fs := List.take_of_length_le (by omega)
  refine ⟨s1, sM, M8, di, sf, pr, decS_legal hok fs, ?_, ?_⟩
  · rw [decS, e, decF_len]; simp; omega
  · rw [decS, e]; exact decF_bs sf fs [] ha (fun j hj => by cases hj)
section
variable {ss : List Ts} {js : List Fv} {M n : Nat}
theorem Sm.ok (h : Sm ss js M n) : (chkAll ss).2 = 0 := set_ok h.s1 (by have := h.sM; have := h.M8; omega) h.di h.sf h.pr
theorem Sm.ljs (h : Sm ss js M n) : LJs ss js := by
  obtain ⟨h1, h2, h3⟩ := legS_parts h.lg
  exact ljs_of (vs_of h1) js h3
theorem Sm.lgs (h : Sm ss js M n) : Lg js := lg_of h.ljs
theorem Sm.t (h : Sm ss js M n) : ∀ i, i < js.length → 0 ≤ (jb js i).t ∧ (jb js i).t < ss.length := fun i hi => ⟨(jb_lj h.ljs hi).t0, (jb_lj h.ljs hi).t1⟩
theorem Sm.ar (h : Sm ss js M n) (hn : n ≤ 12) : ∀ j ∈ js, 0 ≤ j.a ∧ j.a ≤ 384 ∧ j.a ≤ j.r ∧ j.r ≤ 404 ∧ 1 ≤ j.k ∧ j.k ≤ 4 := fun j hj => by
  have h1 := h.bs j hj
  have h2 := h.ljs.all j hj
  have h3 := tks_of h.sf j.t
  have := h.le
  have := h2.r0; have := h2.r1; have := h2.k0; have := h2.k1; have := h3.j1; have := h3.c1
  omega
theorem Sm.arb (h : Sm ss js M n) (hn : n ≤ 12) {i : Nat} (hi : i < js.length) : 0 ≤ (jb js i).a ∧ (jb js i).a ≤ 384 ∧ (jb js i).a ≤ (jb js i).r ∧ (jb js i).r ≤ 404 ∧ 1 ≤ (jb js i).k ∧ (jb js i).k ≤ 4 := by
  have e : js[i]? = some js[i] := List.getElem?_eq_getElem hi
  rw [jb_get e]
  exact h.ar hn _ (List.mem_of_getElem? e)
theorem sum_bd (f : Fv → Int) (b : Int) : ∀ l : List Fv, (∀ j ∈ l, f j ≤ b) → (l.map f).sum ≤ l.length * b
  | [], _ => by simp
  | a :: l, h => by
    have := sum_bd f b l (fun j hj => h j (List.mem_cons_of_mem _ hj))
    have := h a (by simp)
    rw [List.map_cons, List.sum_cons, List.length_cons, Int.natCast_add, Int.add_mul]
    omega
theorem Sm.tot (h : Sm ss js M n) (hn : n ≤ 12) : (js.map (·.k)).sum ≤ 48 := by
  have := sum_bd (·.k) 4 js (fun j hj => (h.ar hn j hj).2.2.2.2.2)
  have := h.le
  omega
theorem Sm.done (h : Sm ss js M n) (hn : n ≤ 12) : ∀ i, i < js.length → kO (tst ss js 453).dn i = (jb js i).k :=
  done_at h.lgs 404 48 (fun i hi => (h.arb hn hi).2.2.2.1) (h.tot hn)
theorem Sm.doneT (h : Sm ss js M n) (hn : n ≤ 12) : ∀ i, i < js.length → kO (tst ss js 9223372036854775807).dn i = (jb js i).k := by
  intro i hi
  rw [(done_later h.lgs (show 453 ≤ 9223372036854775807 by omega) (h.done hn)).1]
  exact h.done hn i hi
end

/-! ### The example -/
def exA : Ts := ⟨{ data := #[97] }, 1, 9, 9, 0, 1, 1⟩
def exB : Ts := ⟨{ data := #[98] }, 3, 9, 9, 0, 2, 2⟩
def exJ : Fv := ⟨1, 0, 0, 3, [2]⟩
def exI : Fv := ⟨0, 1, 1, 1, []⟩
theorem word_ab : wordB { data := #[97] } = true ∧ wordB { data := #[98] } = true := ⟨wordB_one 97 (by decide +kernel), wordB_one 98 (by decide +kernel)⟩
theorem ex_ok : (chkAll [exA, exB]).2 = 0 := by
  have h : checkE exA = 0 := by simp [checkE, namedB, exA, word_ab.1, ByteArray.size, rangedB, inB, overB]
  have h' : checkE exB = 0 := by simp [checkE, namedB, exB, word_ab.2, ByteArray.size, rangedB, inB, overB]
  rw [chkAll, if_neg (by simp)]
  refine chkFrom_good _ _ (fun x hx => ?_) (fun i j x y hx hy he => ?_)
  · simp at hx
    rcases hx with rfl | rfl
    · exact h
    · exact h'
  · have hi := (List.getElem?_eq_some_iff.1 hx).1
    have hj := (List.getElem?_eq_some_iff.1 hy).1
    simp at hi hj
    rcases (by omega : i = 0 ∨ i = 1) with rfl | rfl <;> rcases (by omega : j = 0 ∨ j = 1) with rfl | rfl <;> simp at hx hy <;> subst hx <;> subst hy <;> simp [exA, exB] at he ⊢
theorem ex_leg : legS [exA, exB] [exJ, exI] = true := by
  rw [legS, decide_eq_true ⟨ex_ok, by simp⟩]
  decide +kernel
theorem ex_lg : Lg [exJ, exI] := by
  obtain ⟨h1, h2, h3⟩ := legS_parts ex_leg
  exact lg_of (ljs_of (vs_of h1) _ h3)
theorem ex_runs : untS0 [exA, exB] [exJ, exI] 9223372036854775807 = ([⟨0, 0, 2⟩, ⟨1, 2, 3⟩, ⟨0, 3, 4⟩], [4, 3]) := by
  have hd : (tst [exA, exB] [exJ, exI] 4).dn = [3, 1] := by decide +kernel
  have h := done_later (ts := [exA, exB]) ex_lg (a := 4) (b := 9223372036854775807) (by omega) (fun i hi => by
    rw [hd]
    have hi : i < 2 := hi
    rcases (by omega : i = 0 ∨ i = 1) with rfl | rfl <;> rfl)
  rw [untS0, h.2.1, h.2.2]
  decide +kernel
end Go.Proofs.YtnhddnldebdmbaaGreatDoor
/- Are rows of spans, of ticks, the same? -/
namespace Go.Proofs.YtnhddnldebdmbaaGreatDoor
open Go.RowKit
set_option linter.unusedVariables false
set_option linter.unusedSimpArgs false
attribute [local go_sem ↓] Go.wp_at_zero Go.wp_at_succ
/-- A slice that reads as spans. -/
structure SpR (w : World) (A : Option Addr) (cap : Nat) (l : List Spn) : Prop where
  le : l.length ≤ cap
  mx : cap ≤ 9223372036854775807
  at_ : ∀ i x, l[i]? = some x → ∃ b o, A = some ⟨b, o, none⟩ ∧ w.rangeAt b (o + i * 3) (snL x)
theorem SpR.later {w w' : World} {A : Option Addr} {cap : Nat} {l : List Spn} (h : SpR w A cap l) (hb : Below w.heap.size w w') : SpR w' A cap l := ⟨h.le, h.mx, fun i x hx => by
  obtain ⟨b, o, e, hr⟩ := h.at_ i x hx
  exact ⟨b, o, e, fun j v hv => cells_below hb _ _ _ (hr j v hv)⟩⟩
theorem SpR.get {w : World} {A : Option Addr} {cap : Nat} {l : List Spn} (h : SpR w A cap l) {k : Nat} (hk : k < l.length) : ∃ b o x, A = some ⟨b, o, none⟩ ∧ l[k]? = some x ∧ b < w.heap.size ∧
    w.cell? ⟨b, o + k * 3, none⟩ = some (.int .i64 (x.j : Int)) ∧ w.cell? ⟨b, o + k * 3 + 1, none⟩ = some (.int .i64 x.f) ∧ w.cell? ⟨b, o + k * 3 + 2, none⟩ = some (.int .i64 x.t) := by
  have hx : l[k]? = some l[k] := List.getElem?_eq_getElem hk
  obtain ⟨b, o, e, hr⟩ := h.at_ k _ hx
  have h0 := hr 0 _ rfl
  exact ⟨b, o, _, e, hx, World.block_lt_of_cell? w _ h0, h0, hr 1 _ rfl, hr 2 _ rfl⟩
theorem spC_get (l : List Spn) : ∀ (i : Nat) (x : Spn), l[i]? = some x → ∀ j v, (snL x)[j]? = some v → (spC l)[i * 3 + j]? = some v := by
  induction l with
  | nil => intro i x h; simp at h
  | cons a r ih =>
    intro i x h j v hv
    have hj : j < 3 := by
      rcases Nat.lt_or_ge j 3 with h | h
      · exact h
      · rw [List.getElem?_eq_none (by simp [snL]; omega)] at hv; cases hv
    have e : spC (a :: r) = snL a ++ spC r := rfl
    cases i with
    | zero =>
      simp at h; subst h
      rw [Nat.zero_mul, Nat.zero_add, e, List.getElem?_append_left (by simp [snL]; omega)]
      exact hv
    | succ i =>
      simp only [List.getElem?_cons_succ] at h
      have := ih i x h j v hv
      rw [e, List.getElem?_append_right (by simp [snL]; omega)]
      rw [show (i + 1) * 3 + j - (snL a).length = i * 3 + j by simp [snL]; omega]
      exact this
theorem spr_own {B : Nat} {w : World} {v : Value} {l : List Spn} (h : w.ownsRow B TSp 3 v l.length (spC l)) : ∃ A cap, v = .slice A l.length cap ∧ SpR w A cap l := by
  obtain ⟨A, cap, hv, hle, hmx⟩ := own_len h
  refine ⟨A, cap, hv, hle, by unfold maxLen at hmx; omega, fun i x hx => ?_⟩
  have hi := (List.getElem?_eq_some_iff.1 hx).1
  obtain ⟨g, cap', hv', hB, hgl, _, _, _⟩ := own_form h (by omega)
  rw [hv] at hv'
  simp only [Value.slice.injEq] at hv'
  obtain ⟨rfl, _, rfl⟩ := hv'
  refine ⟨g, 0, rfl, fun j u hu => ?_⟩
  rw [Nat.zero_add]
  exact own_cell h (g := g) (by rw [hv]; rfl) (spC_get l i x hx j u hu)
theorem SpR.nil {w : World} (A : Option Addr) (cap : Nat) (h : cap ≤ 9223372036854775807) : SpR w A cap [] := ⟨by simp, h, by simp⟩
end Go.Proofs.YtnhddnldebdmbaaGreatDoor
