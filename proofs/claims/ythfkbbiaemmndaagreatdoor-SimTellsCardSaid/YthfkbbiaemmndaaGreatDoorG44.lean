/- Texts about the program, one after the other: ERu, EGot, YPly. -/
import Derived.WalkKit
import Derived.ProofKit
import Derived.Handy
import Derived.Lib.Hide
import Derived.Deep.MidRow
import Derived.Deep.QuietTactic
import Derived.BigQuiet
import Derived.Deep.RegionHeld3
import Derived.Laws.Externs
import Derived.RangeFuncBox
import Derived.Deep.CutBlock
import Derived.Deep.LoopGhost
import Derived.WalkMore
import Derived.Below
import Derived.LaidMore
import Derived.Laws.AppendOwn
import Derived.Laws.CopyOwn
import Derived.IntWalk
import Derived.OwnWalk
import Derived.Deep.RegionLaw
import Derived.BigRegion
import Derived.Deep.DrawnRows
import Derived.Deep.Quiet
import Derived.Deep.RegionHeldLaw
import Derived.LoopIn
import Derived.LoopNIn
import Derived.TacticsInMore
import Derived.OwnWalkIn
import Derived.RangeFuncNested
import Derived.RangeFuncBound
import Derived.RangeFuncCalls
import Derived.RangeFuncLeaves
import Derived.RangeFuncWrites
import Derived.Shelf.Abstract
import Derived.StillTailTactics
import Derived.Lib.SliceRun
import Derived.Deep.AppendSrc
import Derived.Deep.Upon
import Derived.Deep.DeepAppendWide
import Derived.OrdersIn
import Derived.Sort.LoopGhostIn
import Derived.Laws.OwnMore
import Derived.Laws.BytesString
import Derived.RangeFuncRecord
import Derived.MapKept
import Derived.Shelf.Small.Bits
import Derived.Shelf.Small.Strs
import Derived.Shelf.Small.Wraps
import Derived.Shelf.Strconv.Itoa0
import Derived.Shelf.LaysM
import Derived.Shelf.Strconv.Clone
import Derived.Shelf.Strings.Search1
import Derived.Shelf.Bits.Mul64
import Derived.Ground.Names2Prog
import Derived.Shelf.Slices.SearchI
import Derived.ChangeOld
import Derived.OpenShut
import Derived.Maps.AppendAt
import Derived.Test.YthfkbbiaemmndaaGreatDoorRows
import Derived.Test.YthfkbbiaemmndaaGreatDoorProg
import Derived.Stop.RegionWithIn
import Derived.Deep.CutRange
import Derived.Deep.RegionHeld
import Derived.Laws.MakeOwn
import Derived.Shelf.SlGeneric
import Derived.Shelf.Spec.SlicesGrow
import Derived.Ground.Names8Prog
import Derived.Shelf.SlSortCmp.Whole1
import Derived.Ground.SlsfProg
import Derived.Ground.SlgnProg
import Derived.Laws.ShiftsVarLaws
import Derived.Outline
import Derived.Laws.Bits128
import Derived.Deep.RegionWith
import Derived.Shelf.RegionOpen
import Derived.Laws.AppendOwnNone
import Derived.Shelf.SlSortCmp.NoneTotal
import Derived.Test.YthfkbbiaemmndaaGreatDoorG4
import Derived.Test.YthfkbbiaemmndaaGreatDoorG5
import Derived.Test.YthfkbbiaemmndaaGreatDoorG6
import Derived.Test.YthfkbbiaemmndaaGreatDoorG7
import Derived.Test.YthfkbbiaemmndaaGreatDoorG8
import Derived.Test.YthfkbbiaemmndaaGreatDoorG9
import Derived.Test.YthfkbbiaemmndaaGreatDoorG12
import Derived.Test.YthfkbbiaemmndaaGreatDoorG13
import Derived.Test.YthfkbbiaemmndaaGreatDoorG14
import Derived.Test.YthfkbbiaemmndaaGreatDoorG23
import Derived.Test.YthfkbbiaemmndaaGreatDoorG28
import Derived.Test.YthfkbbiaemmndaaGreatDoorG41
import Derived.Test.YthfkbbiaemmndaaGreatDoorG43
set_option linter.unusedVariables false
set_option linter.unusedSimpArgs false
set_option maxRecDepth 100000
set_option maxHeartbeats 16000000
namespace Go.Proofs.YthfkbbiaemmndaaGreatDoor
section
open Go.RowKit
attribute [local go_sem ↓] Go.wp_at_zero Go.wp_at_succ
structure RuH (w : World) (A R : Option Addr) (cap rc : Nat) (ts : List Ts) (js : List Fv) : Prop where
 row : Row w A cap ts
 jobs : FRow w R rc js
 lg : Lg js
 t0 : ∀ i, i < js.length → 0 ≤ (jb js i).t ∧ (jb js i).t < ts.length
 bd : ∀ i, i < js.length → (jb js i).r ≤ 35184372088832 ∧ (jb js i).k ≤ 2147483647
 ft : ts.length ≤ 1000
 fj : js.length ≤ 1000
 tot : (js.map (·.k)).sum ≤ 1000000000
def RuQ (n : Nat) (ts : List Ts) (js : List Fv) (T : Nat) (w : World) (e : Ending) (w' : World) : Prop := ∃ vs ge gd, e = .returned (.agg #[vs, .slice (some ⟨ge, 0, none⟩) n n, .slice (some ⟨gd, 0, none⟩) n n]) ∧
 w'.ownsRow w.heap.size TSp 3 vs (tst ts js T).sp.length (spC (tst ts js T).sp) ∧ w'.ownsRow w.heap.size T64 1 (.slice (some ⟨ge, 0, none⟩) n n) n (numL (tst ts js T).en) ∧ Below w.heap.size w w'
def RuP (ts : List Ts) (js : List Fv) (T : Nat) (w : World) (e : Ending) (w' : World) : Prop := RuQ js.length ts js T w e w'
theorem al4 (w : World) (a b c d : Obj) : ((((w.alloc a).alloc b).alloc c).alloc d).drew.heap[w.heap.size]? = some a ∧ ((((w.alloc a).alloc b).alloc c).alloc d).drew.heap[w.heap.size + 1]? = some b ∧ ((((w.alloc a).alloc b).alloc c).alloc d).drew.heap[w.heap.size + 1 + 1]? = some c ∧ ((((w.alloc a).alloc b).alloc c).alloc d).drew.heap[w.heap.size + 1 + 1 + 1]? = some d := by
 have h1 := heap_alloc_new w a
 have h2 := heap_alloc_new (w.alloc a) b
 have h3 := heap_alloc_new ((w.alloc a).alloc b) c
 have h4 := heap_alloc_new (((w.alloc a).alloc b).alloc c) d
 simp only [World.size_alloc] at h2 h3 h4
 exact ⟨heapLt h1 (ltD (ltA (ltA (ltA (ltR _) _) _) _)), heapLt h2 (ltD (ltA (ltA (ltR _) _) _)), heapLt h3 (ltD (ltA (ltR _) _)), heapLt h4 (ltD (ltR _))⟩
section
variable {ops : Array Oper} {C : World → Prop} {Q : Act → Prop} {a : Act} {o : Oper} {rest : List Oper}
theorem wq_loadJ {b p cap : Nat} {x : Fv} {A : Option Addr} (y : Operand) (hC : ∀ w, C w → FAt w b p x A cap) (hw : Region.wanted o (yielded ops a.tmps) = true) (ho : o.op = .load 74 y) (hy : a.eval y = .pointer (some ⟨b, p, none⟩))
  (h : wpQuiet Tryz.prog ops C Q rest (a.put o.dst (fvV x A cap))) : wpQuiet Tryz.prog ops C Q (o :: rest) a :=
 wq_val (fvV x A cap) hw (fun w hw' => by
  unfold execOp
  simp only [ho, hy, Instr.loadAt, Instr.sureAddr, Sem.run_bind, Sem.run_pure, Result.andThen_ok, (hC w hw').loadJ]) h
end
theorem numL_kO {l : List Int} {i : Nat} (h : i < l.length) : (numL l)[i]? = some (.int .i64 (kO l i)) := by
 simp [numL, kO, h]
def npS (ts : List Ts) (js : List Fv) (s : TSt) : Bool := match s.ru with | none => true | some i => !(wthS (jb js i).c (kO s.dn i))
theorem npS_none {ts : List Ts} {js : List Fv} {s : TSt} (h : s.ru = none) : npS ts js s = true := by unfold npS; rw [h]
theorem npS_some {ts : List Ts} {js : List Fv} {s : TSt} {i : Nat} (h : s.ru = some i) : npS ts js s = !(wthS (jb js i).c (kO s.dn i)) := by unfold npS; rw [h]
theorem who_np {ts : List Ts} {js : List Fv} {s : TSt} {t : Int} (h : npS ts js s = true) : whoS ts js s t = pkN ts js s.dn t js.length := by
 unfold npS at h
 unfold whoS
 cases hr : s.ru with
 | none => rfl
 | some i =>
   rw [hr] at h
   simp only at h ⊢
   cases hw : wthS (jb js i).c (kO s.dn i)
   ·simp
   ·rw [hw] at h; cases h
theorem who_on {ts : List Ts} {js : List Fv} {s : TSt} {t : Int} (h : npS ts js s = false) : whoS ts js s t = s.ru := by
 unfold npS at h
 unfold whoS
 cases hr : s.ru with
 | none => rw [hr] at h; cases h
 | some i =>
   rw [hr] at h
   simp only at h ⊢
   cases hw : wthS (jb js i).c (kO s.dn i)
   ·rw [hw] at h; cases h
   ·simp
def exS (sp : List Spn) (i : Nat) (t : Int) : Bool := match sp.getLast? with | none => false | some x => decide (x.j = i) && decide (x.t = t)
theorem exS_no {sp : List Spn} {i : Nat} {t m : Int} (h : exS sp i t = false) : addN sp i t m = sp ++ [⟨i, t, t + m⟩] := by
 unfold exS at h
 unfold addN
 cases hl : sp.getLast? with
 | none => rfl
 | some x =>
   rw [hl] at h
   simp only at h ⊢
   rw [if_neg]
   rintro ⟨h1, h2⟩
   rw [decide_eq_true h1, decide_eq_true h2] at h
   cases h
theorem exS_yes {sp : List Spn} {i : Nat} {t m : Int} (h : exS sp i t = true) : ∃ l x, sp = l ++ [x] ∧ x.j = i ∧ x.t = t ∧ addN sp i t m = l ++ [⟨x.j, x.f, t + m⟩] := by
 unfold exS at h
 unfold addN
 cases hl : sp.getLast? with
 | none => rw [hl] at h; cases h
 | some x =>
   rw [hl] at h
   simp only [Bool.and_eq_true, decide_eq_true_eq] at h ⊢
   obtain ⟨l, rfl⟩ := List.getLast?_eq_some_iff.1 hl
   refine ⟨l, x, rfl, h.1, h.2, ?_⟩
   rw [if_pos h]
   simp [h.1]
theorem exS_app (l : List Spn) (x : Spn) (i : Nat) (t : Int) : exS (l ++ [x]) i t = (decide (x.j = i) && decide (x.t = t)) := by simp [exS]
theorem RfS.drow {w0 wr : World} {n bg ge gd : Nat} {st : TSt} {vs : Value} (h : RfS w0 n bg ge gd st vs wr) (hw : ∀ x ∈ st.dn, in64 x) : CRow wr (some ⟨gd, 0, none⟩) n st.dn ∧ st.dn.length = n := by
 obtain ⟨A, cap, hv, hn, hc, _⟩ := crow_own h.dns hw
 simp only [Value.slice.injEq] at hv
 obtain ⟨rfl, _, rfl⟩ := hv
 exact ⟨hc, hn.symm⟩
theorem runtil_any {A R : Option Addr} {cap rc : Nat} {ts : List Ts} {js : List Fv} {en : Int} {T : Nat} (w : World) (H : RuH w A R cap rc ts js) (hT : (0 ≤ en ∧ en.toNat = T ∧ en ≤ 9000000000000000000) ∨ (en < 0 ∧ -9000000000000000000 ≤ en ∧ T = 9223372036854775807)) :
  Calls Tryz.prog 51 #[.slice A ts.length cap, .slice R js.length rc, .int .i64 en] w (RuP ts js T w) := by
 have HH := Lib.hid H
 have HT := Lib.hid hT
 have hfj := H.fj
 obtain ⟨n, hn⟩ : ∃ n, js.length = n := ⟨_, rfl⟩
 have HN := Lib.hid hn
 rw [hn] at hfj ⊢
 have M6 := make_64 n hfj
 clear H hT hn
 unfold RuP
 rw [HN.out]
 go_enter Tryz.func51, Tryz.ntmps51
 go_upto_region 1 with (fail)
 go_cut [7] from 13 to 19 (fun s7 wx => ∃ bg ge gd, s7 = .pointer (some ⟨bg, 0, none⟩) ∧ wx.heap[bg]? = some (Obj.cells #[.slice none 0 0, .slice (some ⟨ge, 0, none⟩) n n, .slice (some ⟨gd, 0, none⟩) n n] TGo (0, 0)) ∧ wx.heap[ge]? = some (Obj.cells (madeCells (Value.cells (.int .i64 0)) n) T64 (0, 0)) ∧ wx.heap[gd]? = some (Obj.cells (madeCells (Value.cells (.int .i64 0)) n) T64 (0, 0)) ∧ ge ≠ gd ∧ w.heap.size ≤ bg ∧ w.heap.size ≤ ge ∧ w.heap.size ≤ gd ∧ wx.heap[w.heap.size]? = some (Obj.cells #[.slice none 0 0, .slice none 0 0, .slice none 0 0] TGo (0, 0)) ∧ bg ≠ w.heap.size ∧ Below w.heap.size w wx)
 case first =>
  go_region
  all_goals
   go_wp2_with (fail)
   go_meet
   exact ⟨_, _, _, rfl, (by first | exact (al4 _ _ _ _ _).2.1 | exact (al4 _ _ _ _ _).2.2.1 | exact (al4 _ _ _ _ _).2.2.2), (by first | exact (al4 _ _ _ _ _).2.1 | exact (al4 _ _ _ _ _).2.2.1 | exact (al4 _ _ _ _ _).2.2.2), (by first | exact (al4 _ _ _ _ _).2.1 | exact (al4 _ _ _ _ _).2.2.1 | exact (al4 _ _ _ _ _).2.2.2), (by omega), (by omega), (by omega), (by omega), (al4 _ _ _ _ _).1, (by omega), (show Lt _ _ from ltD (ltA (ltA (ltA (ltA (ltR w) _) _) _) _))⟩
 case rest =>
  obtain ⟨bg, ge, gd, rfl, r1, r2, r3, r4, r5, r6, r7, r8, r10, r11⟩ := hcut
  have E0 := Lib.hid (show EnR wc ge n 0 wc from ⟨⟨_, r2, by rw [size_madeCells], fun j hj => absurd hj (by omega)⟩, Kept.refl _ _⟩)
  have g1 := cell_of_row wc bg 1 _ _ _ r1
  simp only [List.getElem?_toArray, List.getElem?_cons_zero, List.getElem?_cons_succ] at g1
  have hbge : bg ≠ ge := fun e => by
   rw [e, r2] at r1
   simp only [Option.some.injEq, Obj.cells.injEq] at r1
   exact absurd r1.2.1 (by decide)
  have hbgl := World.block_lt_of_cell? wc _ g1
  have R1 := Lib.hid r1
  have R3 := Lib.hid r3
  have R2 := Lib.hid r2
  have R8 := Lib.hid r8
  have R11 := Lib.hid r11
  clear r1 r2 r3 r8 r11 M6
  go_wp2
  go_loopw [9] (fun i wr => ∃ k : Nat, k ≤ n ∧ i = .int .i64 (k : Int) ∧ Hid (EnR wc ge n k wr)) (fun i _ => n - (intOf i).toNat)
  case atStart => exact ⟨0, Nat.zero_le _, rfl, E0⟩
  case round =>
   obtain ⟨k, hk, rfl, hI⟩ := hrel
   by_cases hlt : k < n
   ·obtain ⟨⟨v, cv⟩, fv⟩ := hI.out.cell hlt
    have d1 := (hI.out.kp.cell (i := 1) hbgl (by simp; exact hbge)).trans g1
    have hi0 : (0 : Int) ≤ (k : Int) := by omega
    have hi1 : (k : Int) < (n : Int) := by omega
    have S := Lib.hid (hI.out.step hlt)
    go_wp2
    go_roundw
    case rel => exact ⟨k + 1, by omega, by go_num, S⟩
    case measure => simp [intOf]; omega
   ·obtain rfl : k = n := by omega
    have EN := Lib.hid hI.out
    have kt : KT [T64] wc wr := KT.kept EN.out.kp (fun j hj => by rw [List.mem_singleton.1 hj]; exact ⟨_, _, R2.out, by simp⟩)
    have RF0 : RfS w k bg ge gd (tst ts js 0) (.slice none 0 0) wr :=
     ⟨R11.out.trans (EN.out.kp.below R11.out.size (fun j hj => by rw [List.mem_singleton.1 hj]; exact r6)), kt.blk _ _ _ R1.out (by decide), World.ownsRow_nil _ _ _ _, by simp only [tst]; rw [HN.out]; exact EN.out.own r6 (by omega), by
      simp only [tst]; rw [HN.out]
      exact EN.out.kp.row (zero_own R3.out r7 (by omega)) (fun g hg => by simp [Value.ownBlock] at hg; simp; intro e; exact r4 (by rw [hg]; exact e.symm)), r4, r5, r10, kt.blk _ _ _ R8.out (by decide)⟩
    have HL := Lib.hid (lftC_init (ts := ts) HH.out.lg)
    have RF := Lib.hid RF0
    have TB := Lib.hid (show T ≤ 9223372036854775807 ∧ (0 ≤ en ∨ ∀ i, i < js.length → kO (tst ts js T).dn i = (jb js i).k) from by
     rcases HT.out with ⟨q1, q2, q3⟩ | ⟨q1, q2, q3⟩
     ·exact ⟨by omega, .inl q1⟩
     ·refine ⟨by omega, .inr ?_⟩
      have hd := done_at (ts := ts) HH.out.lg 35184372088832 1000000000 (fun i hi => by have := (HH.out.bd i hi).1; omega) (by have := HH.out.tot; omega)
      have e := (done_later (ts := ts) HH.out.lg (b := T) (by omega) hd).1
      intro i hi
      rw [e]; exact hd i hi)
    clear hI E0 kt RF0
    go_wp2
    go_loopg [8, 10, 11, 12] (T + 1) (fun gm lv rv tv nv wr => ∃ t : Nat, T + 1 ≤ gm + t ∧ t ≤ T ∧ lv = .int .i64 (lftC js (tst ts js t).dn : Int) ∧ rv = .int .i64 (pkI (tst ts js t).ru) ∧ tv = .int .i64 (t : Int) ∧ Hid (∃ vs, RfS w k bg ge gd (tst ts js t) vs wr))
    case atStart => exact ⟨0, by omega, Nat.zero_le _, by rw [HL.out, HN.out], rfl, rfl, Lib.hid ⟨_, RF.out⟩⟩
    case round =>
     obtain ⟨t, hgm, htT, rfl, rfl, rfl, hR⟩ := hrel
     obtain ⟨vs, hR⟩ := hR.out
     obtain ⟨VA, vcp, rfl, vle, vmx⟩ := own_len hR.spn
     unfold maxLen at vmx
     have HR := Lib.hid hR
     have hI := ti_all (ts := ts) HH.out.lg t
     have HI := Lib.hid hI
     have hz := lftC_zero (js := js) (dn := (tst ts js t).dn) (fun i hi => (hI.d0 i hi).2)
     clear hR hI RF HL
     by_cases h0 : lftC js (tst ts js t).dn = 0
     ·have hdone := hz.1 h0
      have e := done_later (ts := ts) HH.out.lg htT hdone
      obtain ⟨lf, hlf⟩ : ∃ lf : Int, (lftC js (tst ts js t).dn : Int) = lf := ⟨_, rfl⟩
      have hc1 : decide (lf > 0) = false := decide_eq_false (by omega)
      have hc1' : decide (0 < lf) = false := decide_eq_false (by omega)
      rw [hlf]
      have EE := Lib.hid e
      clear hz hdone e h0 hlf
      have QE := Lib.hid (show (tst ts js T).sp = (tst ts js t).sp ∧ (tst ts js T).en = (tst ts js t).en from ⟨EE.out.2.1, EE.out.2.2⟩)
      have b0 := HR.out.c0
      have b1 := HR.out.c1
      have b2 := HR.out.c2
      have hrs := HR.out.res
      have q0 := cell_of_row _ w.heap.size 0 _ _ _ hrs
      have q1 := cell_of_row _ w.heap.size 1 _ _ _ hrs
      have q2 := cell_of_row _ w.heap.size 2 _ _ _ hrs
      simp only [List.getElem?_toArray, List.getElem?_cons_zero, List.getElem?_cons_succ] at q0 q1 q2
      have f0 := frozen_of_row _ w.heap.size 0 _ _ hrs
      have f1 := frozen_of_row _ w.heap.size 1 _ _ hrs
      have f2 := frozen_of_row _ w.heap.size 2 _ _ hrs
      have FN := Lib.hid HR.out.final
      clear hrs
      go_wp2
      (try simp only [Exit.inBlock, Exit.then])
      exact bodyPost_ret (v := .agg #[.slice VA (tst ts js t).sp.length vcp, .slice (some ⟨ge, 0, none⟩) k k, .slice (some ⟨gd, 0, none⟩) k k]) (results_got10 rfl _ _ _ rfl FN.out.1) rfl (by unfold RuQ; exact ⟨_, ge, gd, rfl, (by rw [QE.out.1]; exact FN.out.2.spn), (by rw [QE.out.2]; exact FN.out.2.ens), FN.out.2.bel⟩)
     ·have hlp : (lftC js (tst ts js t).dn : Int) > 0 := by omega
      obtain ⟨lf, hlf⟩ : ∃ lf : Int, (lftC js (tst ts js t).dn : Int) = lf := ⟨_, rfl⟩
      rw [hlf] at hlp ⊢
      have hc1 : decide (lf > 0) = true := decide_eq_true hlp
      have hc1' : decide (0 < lf) = true := decide_eq_true hlp
      have HLF := Lib.hid hlf
      by_cases hlt : t < T
      ·have HLT := Lib.hid hlt
       have HZ := Lib.hid h0
       have hc2 : en < 0 ∨ (¬ en < 0 ∧ (t : Int) < en) := by
        rcases HT.out with ⟨q1, q2, q3⟩ | ⟨q1, q2, q3⟩
        ·exact .inr ⟨by omega, by omega⟩
        ·exact .inl q1
       clear hz h0 hlp hlf
       go_upto_region 9 with (fail)
       go_cut [42] from 32 to 140 (fun c wx => c = .bool true ∧ wr = wx)
       case first =>
        rcases hc2 with q | ⟨q, q'⟩
        ·have e1 : decide (en < 0) = true := decide_eq_true q
         go_wp2
         go_meet
         exact ⟨rfl, rfl⟩
        ·have e1 : decide (en < 0) = false := decide_eq_false q
         have e2 : decide ((t : Int) < en) = true := decide_eq_true q'
         go_wp2
         go_meet
         exact ⟨rfl, rfl⟩
       case rest =>
        obtain ⟨rfl, hwx⟩ := hcut
        try subst hwx
        clear hc1 hc1' hc2
        have DR := Lib.hid (fun W (hB : Below wr.heap.size wr W) => (HR.out.later hB).drow (fun x hx => by
         obtain ⟨i, hi0, rfl⟩ := List.getElem_of_mem hx
         have hi : i < js.length := by rw [← HI.out.ld]; exact hi0
         have h1 := HI.out.d0 i hi
         have h2 := (HH.out.bd i hi).2
         have e : kO (tst ts js t).dn i = (tst ts js t).dn[i] := by simp [kO, hi0]
         rw [e] at h1
         exact ⟨by omega, by omega⟩))
        have b0 := HR.out.c0
        have b2 := HR.out.c2
        have hbg := World.block_lt_of_cell? wr _ b2
        obtain ⟨pv, hpv⟩ : ∃ pv, pkI (tst ts js t).ru = pv := ⟨_, rfl⟩
        rw [hpv]
        have HPV := Lib.hid hpv
        clear hpv
        go_upto_region 11 with (fail)
        go_cut [59] from 32 to 140 (fun c wx => c = .bool (npS ts js (tst ts js t)) ∧ Below wr.heap.size wr wx)
        case first =>
         cases hru : (tst ts js t).ru with
         | none =>
           have e0 : decide ((-1 : Int) < 0) = true := rfl
           obtain rfl : (-1 : Int) = pv := by rw [← HPV.out, hru]; rfl
           go_quiet (fail)
           go_wp2
           go_meet
           exact ⟨by rw [npS_none hru], below_drewN2 wr _⟩
         | some i =>
           obtain ⟨hi, hk0⟩ := HI.out.ru i hru
           have hnp := npS_some (ts := ts) (js := js) hru
           obtain ⟨jbk, jo, x, C, cc, rfl, hx, hbl, hF⟩ := (HH.out.jobs.later HR.out.bel).get (k := i) hi
           have hxe := jb_get hx
           have hd0 := HI.out.d0 i hi
           have hbd := (HH.out.bd i hi).2
           have hfit := HH.out.lg.fit i hi
           have hpos := HH.out.lg.pos i
           have u1 : wr.cell? ⟨gd, i, none⟩ = some (.int .i64 (kO (tst ts js t).dn i)) := own_cell HR.out.dns (g := gd) rfl (numL_kO (by rw [HI.out.ld]; exact hi))
           have hgd := World.block_lt_of_cell? wr _ u1
           obtain ⟨d, hd⟩ : ∃ d, kO (tst ts js t).dn i = d := ⟨_, rfl⟩
           rw [hxe] at hnp hd0 hbd hfit hpos
           rw [hd] at hnp hd0 u1
           have WI := Lib.hid (fun W (hB : Below wr.heap.size wr W) => rwithin_any x C cc d W (hF.later hB).s hpos (by omega) ⟨hd0.1, by omega⟩)
           have FX := Lib.hid (fun W (hB : Below wr.heap.size wr W) => hF.later hB)
           have HNP := Lib.hid hnp
           have hik : i < k := by rw [← HN.out]; exact hi
           have i0 : (0 : Int) ≤ (i : Int) := by omega
           have i1 : (i : Int) < (k : Int) := by omega
           have e0 : decide ((i : Int) < 0) = false := decide_eq_false (by omega)
           obtain rfl : (i : Int) = pv := by rw [← HPV.out, hru]; rfl
           clear hi hk0 hnp hx hbl hF hxe hd0 hbd hfit hpos hd hru hik
           refine region_quiet_l (C := Lt wr) (by kernel_rfl) (by kernel_rfl) (lt_drew _) ?_
           repeat (first
            | (refine wq_val _ (by rfl) (by intro v hC; clear hC; go_simp; (try rfl)) ?_; (try simp only [Act.put, List.setIfInBounds_toArray, List.set_cons_zero, List.set_cons_succ]))
            | (with_reducible fail))
           refine wq_loadJ _ (fun v h => FX.out v h) (by rfl) (by rfl) (by rfl) ?_
           (try simp only [Act.put, List.setIfInBounds_toArray, List.set_cons_zero, List.set_cons_succ])
           repeat (first
            | (refine wq_val _ (by rfl) (by intro v hC; have z2 := (Below.cell hC (p := ⟨bg, 2, none⟩) hbg).trans b2; have z3 := (Below.cell hC (p := ⟨gd, i, none⟩) hgd).trans u1; clear hC; go_simp; (try rfl)) ?_; (try simp only [Act.put, List.setIfInBounds_toArray, List.set_cons_zero, List.set_cons_succ]))
            | (with_reducible fail))
           refine wq_call (fun W hW => WI.out W hW) lt_step (by rfl) (by intro v _; go_simp) ?_
           (try simp only [Act.put, List.setIfInBounds_toArray, List.set_cons_zero, List.set_cons_succ])
           repeat (first
            | (refine wq_val _ (by rfl) (by intro v hC; clear hC; go_simp; (try rfl)) ?_; (try simp only [Act.put, List.setIfInBounds_toArray, List.set_cons_zero, List.set_cons_succ]))
            | (with_reducible fail))
           refine wpQuiet_nil ?_
           intro W hW
           go_wp2
           go_meet
           exact ⟨by rw [HNP.out], hW⟩
        case rest =>
         obtain ⟨rfl, hB1⟩ := hcut
         have B1 := Lib.hid hB1
         clear hB1
         have ht63 : (t : Int) + 1 ≤ 9223372036854775807 := by have := TB.out.1; have := HLT.out; omega
         have HR1 := Lib.hid (HR.out.later B1.out)
         go_upto_if 59 with (fail)
         go_cut [10] from 32 to 140 (fun p wx => p = .int .i64 (pkI (whoS ts js (tst ts js t) t)) ∧ Below wr.heap.size wr wx)
         case first =>
          have c2 := HR1.out.c2
          have PK := rpick_any (t : Int) wc (HH.out.row.later HR1.out.bel) (HH.out.jobs.later HR1.out.bel) (DR.out _ B1.out).1 HI.out.ld HH.out.t0 (by rw [HN.out]; exact hfj) HH.out.ft
          rw [HN.out] at PK
          have PK := Lib.hid PK
          cases hnp : npS ts js (tst ts js t)
          ·go_wp2
           go_meet
           exact ⟨by rw [who_on hnp, HPV.out], B1.out⟩
          ·go_wp2_with (go_at_call 84; (with_reducible refine PK.out.mono ?_); rintro e w2 ⟨rfl, h2⟩)
           go_meet
           exact ⟨by rw [who_np hnp, HN.out], B1.out.trans (h2.mono B1.out.size)⟩
         case rest =>
          obtain ⟨rfl, hB2⟩ := hcut
          obtain ⟨w5, hw5⟩ : ∃ w5, w5 = wc := ⟨_, rfl⟩
          subst hw5
          have HR2 := Lib.hid (HR.out.later hB2)
          have DR2 := Lib.hid (DR.out _ hB2).1
          clear HR1 B1 hB2 b0 b2 hbg
          cases hw : whoS ts js (tst ts js t) t with
          | none =>
            have hst : tst ts js (t + 1) = { tst ts js t with ru := none } := by simp only [tst, tstep, hw]
            have HST := Lib.hid hst
            clear hst hw
            simp only [pkI]
            have e0 : decide ((-1 : Int) < 0) = true := rfl
            go_wp2
            go_roundg (gk - 1)
            case measure => omega
            case rel =>
             refine ⟨t + 1, by omega, by have := HLT.out; omega, ?_, ?_, by go_num, Lib.hid ⟨_, by rw [HST.out]; exact HR2.out.ru none⟩⟩
             ·rw [HST.out, ← HLF.out]
             ·rw [HST.out]; rfl
          | some i =>
            obtain ⟨hi, hir, hik⟩ := HI.out.who_some HH.out.lg hw
            have hst : tst ts js (t + 1) = runM js (tst ts js t) t i 1 := by simp only [tst, tstep, hw]
            have HST := Lib.hid hst
            have HIK := Lib.hid hik
            have HIJ := Lib.hid hi
            have hin : i < k := by rw [← HN.out]; exact hi
            have hi0 : (0 : Int) ≤ (i : Int) := by omega
            have hi1 : (i : Int) < (k : Int) := by omega
            have e0 : decide ((i : Int) < 0) = false := decide_eq_false (by omega)
            clear hst hw hi hir hik
            simp only [pkI]
            have b0 := HR2.out.c0
            obtain ⟨m, hm⟩ : ∃ m, (tst ts js t).sp.length = m := ⟨_, rfl⟩
            rw [hm] at b0 vle
            have HM := Lib.hid hm
            clear hm
            go_upto_region 15 with (fail)
            go_cut [94] from 32 to 140 (fun c wx => c = .bool (exS (tst ts js t).sp i t) ∧ w5 = wx)
            case first =>
             cases hl : (tst ts js t).sp.getLast? with
             | none =>
               have hnil := List.getLast?_eq_none_iff.1 hl
               obtain rfl : 0 = m := by rw [← HM.out, hnil]; rfl
               have HNL := Lib.hid hnil
               clear hl hnil
               go_wp2
               go_meet
               exact ⟨by rw [HNL.out]; rfl, rfl⟩
             | some x =>
               obtain ⟨l, hsp⟩ := List.getLast?_eq_some_iff.1 hl
               obtain ⟨q, hq⟩ : ∃ q, l.length = q := ⟨_, rfl⟩
               have hmq : m = q + 1 := by rw [← HM.out, hsp, ← hq]; simp
               have hown := HR2.out.spn
               obtain ⟨g, cap2, hva, hBg, hgl, hle, hmx, hfz⟩ := own_form hown (by rw [HM.out]; omega)
               simp only [Value.slice.injEq] at hva
               obtain ⟨rfl, -, rfl⟩ := hva
               have hu : ∀ j u, (snL x)[j]? = some u → w5.cell? ⟨g, q * 3 + j, none⟩ = some u := fun j u hj => own_cell hown rfl (by
                rw [hsp, spC_app, List.getElem?_append_right (by rw [spC_len, hq]; omega), spC_len, hq]
                rw [show q * 3 + j - q * 3 = j by omega]; exact hj)
               have u0 := hu 0 _ rfl
               have u2 := hu 2 _ rfl
               rw [Nat.add_zero] at u0
               have j0 : (0 : Int) ≤ (q : Int) := by omega
               have j1 : (q : Int) < (m : Int) := by omega
               have j2 : (m : Int) - 1 = (q : Int) := by omega
               have e1 : decide ((m : Int) > 0) = true := decide_eq_true (by omega)
               have e1' : decide (0 < m) = true := decide_eq_true (by omega)
               have e1'' : (0 : Int) < (m : Int) := by omega
               have HSP := Lib.hid hsp
               clear hl hsp hq hmq hown hfz hu hBg hgl hle hmx
               by_cases g1 : x.j = i
               ·have f1 : ((x.j : Int) == (i : Int)) = true := by rw [g1]; exact beq_self_eq_true _
                by_cases g2 : x.t = (t : Int)
                ·have f2 : (x.t == (t : Int)) = true := by rw [g2]; exact beq_self_eq_true _
                 have G := Lib.hid (show (true : Bool) = exS (tst ts js t).sp i t by rw [HSP.out, exS_app, decide_eq_true g1, decide_eq_true g2]; rfl)
                 clear g1 g2
                 go_wp2
                 go_meet
                 exact ⟨congrArg Value.bool G.out, rfl⟩
                ·have f2 : (x.t == (t : Int)) = false := by rw [beq_eq_false_iff_ne]; exact g2
                 have G := Lib.hid (show (false : Bool) = exS (tst ts js t).sp i t by rw [HSP.out, exS_app, decide_eq_true g1, decide_eq_false g2]; rfl)
                 clear g1 g2
                 go_wp2
                 go_meet
                 exact ⟨congrArg Value.bool G.out, rfl⟩
               ·have f1 : ((x.j : Int) == (i : Int)) = false := by rw [beq_eq_false_iff_ne]; omega
                have G := Lib.hid (show (false : Bool) = exS (tst ts js t).sp i t by rw [HSP.out, exS_app, decide_eq_false g1]; rfl)
                clear g1
                go_wp2
                go_meet
                exact ⟨congrArg Value.bool G.out, rfl⟩
            case rest =>
             obtain ⟨rfl, hwx⟩ := hcut
             subst hwx
             go_upto_if 94 with (fail)
             go_cut [] from 32 to 140 (fun wx => ∃ vs2, Hid (RfS w k bg ge gd { tst ts js t with sp := addN (tst ts js t).sp i t 1 } vs2 wx))
             case first =>
              cases hex : exS (tst ts js t).sp i t
              ·have HEX := Lib.hid (exS_no (m := 1) hex)
               have HMX := Lib.hid (show m ≤ 1000000000 by have := spn_few (ts := ts) HH.out.lg t; have := HH.out.tot; rw [HM.out] at *; omega)
               have h1 := HR2.out
               rw [HM.out] at h1
               have HRm := Lib.hid h1
               clear h1
               have O1 := Lib.hid (HRm.out.later ((Below.refl _ w5).alloc (Nat.le_refl _) (.cells #[.int .i64 (i : Int), .int .i64 t, .int .i64 ((t : Int) + 1)] TSp)))
               have BW := Lib.hid ((Below.refl _ w5).alloc (Nat.le_refl _) (.cells #[.int .i64 (i : Int), .int .i64 t, .int .i64 ((t : Int) + 1)] TSp))
               obtain ⟨i0, hi, hz0, hz1, hz2⟩ := info_parts infoSp
               clear hex
               go_upto_region 17 with (fail)
               go_wp2_with (refine wpList_append_own _ rfl _ _ 59 rfl w.heap.size TSp i0 _ 3 24 Tryz.underlying59 hi hz0 hz1 hz2 rfl (by decide) (.slice VA m vcp) m (spC (tst ts js t).sp) rfl (by have := O1.out.spn; rw [HM.out] at this; exact this) ⟨w5.heap.size, 0, none⟩ 1 1 (snL ⟨i, t, (t : Int) + 1⟩) rfl rfl (sp_new w5 ⟨i, t, (t : Int) + 1⟩) (sp_one ⟨i, t, (t : Int) + 1⟩) (by have := HMX.out; unfold maxLen; omega) (by have := HMX.out; omega) (by have := O1.out.bel.size; exact this) ?_; intro v2 w2 hown2 hg2 hnil2; have MO := HRm.out.more (x := ⟨i, t, (t : Int) + 1⟩) BW.out (by rw [HM.out]; exact hown2) hg2; obtain ⟨A2, cap2, rfl, -, -⟩ := own_len hown2; obtain ⟨⟨d0, fz⟩, MO⟩ := MO; have f0 := fz 0)
               go_meet
               exact ⟨_, Lib.hid (by rw [HEX.out]; exact MO)⟩
              ·obtain ⟨l, x, hsp, hxj, hxt, hadd⟩ := exS_yes (m := 1) hex
               obtain ⟨q, hq⟩ : ∃ q, l.length = q := ⟨_, rfl⟩
               have hmq : m = q + 1 := by rw [← HM.out, hsp, ← hq]; simp
               have hown := HR2.out.spn
               obtain ⟨g, cap2, hva, hBg, hgl, hle, hmx, hfz⟩ := own_form hown (by rw [HM.out]; omega)
               simp only [Value.slice.injEq] at hva
               obtain ⟨rfl, -, rfl⟩ := hva
               have u2 : w5.cell? ⟨g, q * 3 + 2, none⟩ = some (.int .i64 x.t) := own_cell hown rfl (by
                rw [hsp, spC_app, List.getElem?_append_right (by rw [spC_len, hq]; omega), spC_len, hq]
                rw [show q * 3 + 2 - q * 3 = 2 by omega]; rfl)
               have f2 := hfz (q * 3 + 2)
               have j0 : (0 : Int) ≤ (q : Int) := by omega
               have j1 : (q : Int) < (m : Int) := by omega
               have j2 : (m : Int) - 1 = (q : Int) := by omega
               rw [hxt] at u2
               have G := Lib.hid (show RfS w k bg ge gd { tst ts js t with sp := addN (tst ts js t).sp i t 1 } (.slice (some ⟨g, 0, none⟩) m vcp) (w5.setCell ⟨g, q * 3 + 2, none⟩ (.int .i64 ((t : Int) + 1))) from by
                have h1 := HR2.out
                rw [HM.out, hmq, ← hq] at h1
                have h2 := h1.grow hsp ((t : Int) + 1)
                rw [hadd, hmq, ← hq]
                exact h2)
               clear hex hsp hxj hxt hadd hq hmq hown hBg hgl hle hmx hfz
               go_wp2
               go_meet
               exact ⟨_, G⟩
             case rest =>
              obtain ⟨vs2, hR3⟩ := hcut
              obtain ⟨w6, hw6⟩ : ∃ w6, w6 = wc := ⟨_, rfl⟩
              subst hw6
              have c2 := hR3.out.c2
              have hie : i < (tst ts js t).dn.length := by rw [HI.out.ld]; exact HIJ.out
              have u1 : w6.cell? ⟨gd, i, none⟩ = some (.int .i64 (kO (tst ts js t).dn i)) := own_cell hR3.out.dns (g := gd) rfl (numL_kO hie)
              have uf : w6.frozen? ⟨gd, i, none⟩ = false := by
               obtain ⟨cs, hcs⟩ := own_ty hR3.out.dns (g := gd) rfl
               simp [World.frozen?, hcs]
              obtain ⟨d, hd⟩ : ∃ d, kO (tst ts js t).dn i = d := ⟨_, rfl⟩
              have hd0 := HI.out.d0 i HIJ.out
              have hbd := (HH.out.bd i HIJ.out).2
              have hik := HIK.out
              rw [hd] at u1 hd0 hik
              have R4 := Lib.hid (hR3.out.done hin (d + 1))
              obtain ⟨jbk, jo, x, C, cc, rfl, hx, hbl, hF⟩ := (HH.out.jobs.later R4.out.bel).get (k := i) HIJ.out
              have hxe := jb_get hx
              obtain ⟨w7, hw7⟩ : ∃ w7, w6.setCell ⟨gd, i, none⟩ (.int .i64 (d + 1)) = w7 := ⟨_, rfl⟩
              rw [hw7] at R4 hF hbl
              have c2' := R4.out.c2
              have c1' := R4.out.c1
              have hset := kO_set (l := (tst ts js t).dn) (i := i) i (d + 1) hie
              rw [if_pos rfl] at hset
              have v1 : w7.cell? ⟨gd, i, none⟩ = some (.int .i64 (d + 1)) := by
               have := own_cell R4.out.dns (g := gd) rfl (numL_kO (i := i) (by simp; exact hie))
               rw [this]; simp only; rw [hset]
              have jk := hF.c3
              rw [← hxe] at jk
              have LS := Lib.hid (lftC_set (js := js) (dn := (tst ts js t).dn) (i := i) (v := d + 1) HI.out.ld HIJ.out (by rw [hd]; exact hik))
              have HD := Lib.hid hd
              have hb : d + 1 ≤ 9223372036854775807 ∧ 0 ≤ d := ⟨by omega, hd0.1⟩
              have i0 : (0 : Int) ≤ (d : Int) := hb.2
              have hei : i < (tst ts js t).en.length := by rw [HI.out.le]; exact HIJ.out
              have en1 : w7.cell? ⟨ge, i, none⟩ = some (.int .i64 (kO (tst ts js t).en i)) := own_cell R4.out.ens (g := ge) rfl (numL_kO hei)
              have ef : w7.frozen? ⟨ge, i, none⟩ = false := by
               obtain ⟨cs, hcs⟩ := own_ty R4.out.ens (g := ge) rfl
               simp [World.frozen?, hcs]
              obtain ⟨kv, hkv⟩ : ∃ kv, (jb js i).k = kv := ⟨_, rfl⟩
              rw [hkv] at jk hik hd0 hbd
              have HKV := Lib.hid hkv
              have HW7 := Lib.hid hw7
              clear hd hx hxe hF hset hkv hie hei hbl
              go_upto_region 19 with (fail)
              clear hw7 u1 uf c2
              have lb : lftC js (tst ts js t).dn ≤ 1000 := by
               unfold lftC
               exact Nat.le_trans List.countP_le_length (by rw [List.length_range, HN.out]; exact hfj)
              have hlf := HLF.out
              have lf1 : lf ≤ 1000 := by omega
              have lf0 : 0 ≤ lf := by omega
              clear lb hlf
              go_quiet (fail)
              have R5 := Lib.hid (R4.out.later (below_drewN2 w7 nq))
              have y1 : (w7.drewN nq).cell? ⟨bg, 1, none⟩ = some (.slice (some ⟨ge, 0, none⟩) k k) := c1'
              have y2 : (w7.drewN nq).cell? ⟨ge, i, none⟩ = some (.int .i64 (kO (tst ts js t).en i)) := en1
              have y3 : (w7.drewN nq).frozen? ⟨ge, i, none⟩ = false := ef
              clear c1' c2' v1 jk en1 ef
              obtain ⟨cb, hcb⟩ : ∃ cb : Bool, ((d + 1) == kv) = cb := ⟨_, rfl⟩
              rw [hcb]
              by_cases g : d + 1 = kv
              ·obtain rfl : true = cb := by rw [← hcb, g]; exact (beq_self_eq_true _).symm
               clear hcb
               have hls := LS.out
               rw [HKV.out, if_neg (by omega)] at hls
               have hrun : runM js (tst ts js t) t i 1 = ⟨(tst ts js t).dn.set i (d + 1), some i, addN (tst ts js t).sp i t 1, (tst ts js t).en.set i ((t : Int) + 1)⟩ := by
                unfold runM; rw [HD.out, HKV.out, if_pos g]
               have HRUN := Lib.hid hrun
               have HLS := Lib.hid hls
               have R6 := Lib.hid ((R5.out.ended hin ((t : Int) + 1)).ru (some i))
               clear hrun hls g
               go_wp2
               go_roundg (gk - 1)
               case measure => omega
               case rel =>
                refine ⟨t + 1, by omega, by have := HLT.out; omega, ?_, ?_, by go_num, Lib.hid ⟨_, by rw [HST.out, HRUN.out]; exact R6.out⟩⟩
                ·rw [HST.out, HRUN.out]
                 have h1 := HLS.out
                 have h2 := HLF.out
                 exact congrArg (Value.int .i64) (by simp only; omega)
                ·rw [HST.out, HRUN.out]; rfl
              ·obtain rfl : false = cb := by rw [← hcb]; exact (beq_eq_false_iff_ne.2 g).symm
               clear hcb
               have hls := LS.out
               rw [HKV.out, if_pos (by omega)] at hls
               have hrun : runM js (tst ts js t) t i 1 = ⟨(tst ts js t).dn.set i (d + 1), some i, addN (tst ts js t).sp i t 1, (tst ts js t).en⟩ := by
                unfold runM; rw [HD.out, HKV.out, if_neg g]
               have HRUN := Lib.hid hrun
               have HLS := Lib.hid hls
               have R6 := Lib.hid (R5.out.ru (some i))
               clear hrun hls g
               go_wp2
               go_roundg (gk - 1)
               case measure => omega
               case rel =>
                refine ⟨t + 1, by omega, by have := HLT.out; omega, ?_, ?_, by go_num, Lib.hid ⟨_, by rw [HST.out, HRUN.out]; exact R6.out⟩⟩
                ·rw [HST.out, HRUN.out]
                 have h1 := HLS.out
                 have h2 := HLF.out
                 exact congrArg (Value.int .i64) (by simp only; omega)
                ·rw [HST.out, HRUN.out]; rfl
      ·have hte : t = T := by omega
       subst hte
       have hen : ¬ en < 0 ∧ ¬ ((t : Int) < en) := by
        rcases HT.out with ⟨q1, q2, q3⟩ | ⟨q1, q2, q3⟩
        ·exact ⟨by omega, by omega⟩
        ·exact absurd (hz.2 (by rcases TB.out.2 with h | h; omega; exact h)) h0
       have e1 : decide (en < 0) = false := decide_eq_false hen.1
       have e2 : decide ((t : Int) < en) = false := decide_eq_false hen.2
       have QE := Lib.hid (show (tst ts js t).sp = (tst ts js t).sp ∧ (tst ts js t).en = (tst ts js t).en from ⟨rfl, rfl⟩)
       clear hz h0 hlp hen hlt hlf
       have b0 := HR.out.c0
       have b1 := HR.out.c1
       have b2 := HR.out.c2
       have hrs := HR.out.res
       have q0 := cell_of_row _ w.heap.size 0 _ _ _ hrs
       have q1 := cell_of_row _ w.heap.size 1 _ _ _ hrs
       have q2 := cell_of_row _ w.heap.size 2 _ _ _ hrs
       simp only [List.getElem?_toArray, List.getElem?_cons_zero, List.getElem?_cons_succ] at q0 q1 q2
       have f0 := frozen_of_row _ w.heap.size 0 _ _ hrs
       have f1 := frozen_of_row _ w.heap.size 1 _ _ hrs
       have f2 := frozen_of_row _ w.heap.size 2 _ _ hrs
       have FN := Lib.hid HR.out.final
       clear hrs
       go_wp2
       (try simp only [Exit.inBlock, Exit.then])
       exact bodyPost_ret (v := .agg #[.slice VA (tst ts js t).sp.length vcp, .slice (some ⟨ge, 0, none⟩) k k, .slice (some ⟨gd, 0, none⟩) k k]) (results_got10 rfl _ _ _ rfl FN.out.1) rfl (by unfold RuQ; exact ⟨_, ge, gd, rfl, FN.out.2.spn, FN.out.2.ens, FN.out.2.bel⟩)
end
section
open Go.RowKit
section
variable {ss : List Ts} {js : List Fv} {M n : Nat} {A R : Option Addr} {cap rc : Nat}
def GotJ (sp : List Spn) (en : List Int) (w : World) (e : Ending) (w' : World) : Prop := ∃ A c B d D, e = .returned (.agg #[.slice A sp.length c, .slice B en.length d, .slice D en.length en.length]) ∧ SpR w' A c sp ∧ CRow w' B d en ∧ Below w.heap.size w w'
theorem rup_got (hl : Lg js) {T : Nat} (hT : T ≤ 9223372036854775807) (w : World) (e : Ending) (w' : World) (h : RuP ss js T w e w') : GotJ (tst ss js T).sp (tst ss js T).en w e w' := by
 obtain ⟨vs, ge, gd, rfl, h1, h2, h3⟩ := h
 obtain ⟨A, c, rfl, F⟩ := spr_own h1
 have hle := (ti_all (ts := ss) hl T).le
 obtain ⟨B, d, hv, hn, G, _⟩ := crow_own h2 (en_bd hl hT)
 simp only [Value.slice.injEq] at hv
 obtain ⟨rfl, _, rfl⟩ := hv
 exact ⟨A, c, _, _, _, by rw [hle], F, G, h3⟩
end
end
section
open Go.RowKit
section
variable {l : List Ts} {k : Nat} {y : Ts}
variable {A R : Option Addr} {cap rc : Nat}
theorem rplay_until (h : ScH l k y) (ht : ((sceneS l (k : Int)).map (·.k)).sum ≤ 1000000000) (w : World) (hT : Row w A cap l) (hR : FRow w R rc (sceneS l (k : Int))) :
  Calls Tryz.prog 51 #[.slice A l.length cap, .slice R (sceneS l (k : Int)).length rc, .int .i64 (startS l (k : Int) - y.j + y.d)] w (GotJ (tst l (sceneS l (k : Int)) (plT l (k : Int))).sp (tst l (sceneS l (k : Int)) (plT l (k : Int))).en w) := by
 have hb := h.bd
 have L : LJs l (sceneS l (k : Int)) := by
  obtain ⟨h1, h2, h3⟩ := legS_parts h.leg
  exact ljs_of (vs_of h1) _ h3
 have H : RuH w A R cap rc l (sceneS l (k : Int)) := ⟨hT, hR, h.lgs, fun i hi => ⟨(jb_lj L hi).t0, (jb_lj L hi).t1⟩, fun i hi => by
  have x := jb_lj L hi
  have v := (vs_of h.hc).tk (jb (sceneS l (k : Int)) i).t
  have := x.r1; have := x.k1; have := v.j1; have := v.c1; have := x.a1
  omega, by have := h.n8; omega, h.js, ht⟩
 exact (runtil_any w H (.inl ⟨by omega, h.plt, by omega⟩)).mono (rup_got h.lgs (by have := h.plb; omega) w)
end
end
end Go.Proofs.YthfkbbiaemmndaaGreatDoor
