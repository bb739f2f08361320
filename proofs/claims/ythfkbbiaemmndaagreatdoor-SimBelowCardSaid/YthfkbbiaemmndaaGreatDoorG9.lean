/- Texts about the program, one after the other: JLeg, ELg, EGen, ESnd, NBase, NRefs, DPure, DGrt, DLaw. -/
import Derived.WalkMore
import Derived.WalkKit
import Derived.ProofKit
import Derived.Handy
import Derived.Lib.Hide
import Derived.Deep.MidRow
import Derived.Deep.QuietTactic
import Derived.BigQuiet
import Derived.Deep.RegionHeld3
import Derived.Laws.Externs
import Derived.RangeFuncBox
import Derived.Deep.CutBlock
import Derived.Deep.LoopGhost
import Derived.Deep.RegionHeldLaw
import Derived.Laws.OwnMore
import Derived.StillTailTactics
import Derived.Sort.LoopGhostIn
import Derived.Laws.BytesString
import Derived.Laws.AppendOwn
import Derived.RangeFuncRecord
import Derived.MapKept
import Derived.RangeFuncNested
import Derived.RangeFuncBound
import Derived.RangeFuncCalls
import Derived.RangeFuncLeaves
import Derived.RangeFuncWrites
import Derived.Shelf.Abstract
import Derived.OwnWalkIn
import Derived.TacticsInMore
import Derived.LoopNIn
import Derived.LoopIn
import Derived.Deep.Quiet
import Derived.Shelf.Small.Bits
import Derived.Shelf.Small.Strs
import Derived.Shelf.Small.Wraps
import Derived.Shelf.Strconv.Itoa0
import Derived.Shelf.LaysM
import Derived.Shelf.Strconv.Clone
import Derived.Shelf.Strings.Search1
import Derived.Shelf.Bits.Mul64
import Derived.Ground.Names2Prog
import Derived.Shelf.Slices.SearchI
import Derived.Below
import Derived.ChangeOld
import Derived.OpenShut
import Derived.LaidMore
import Derived.Maps.AppendAt
import Derived.Test.YthfkbbiaemmndaaGreatDoorRows
import Derived.Test.YthfkbbiaemmndaaGreatDoorProg
import Derived.Laws.CopyOwn
import Derived.IntWalk
import Derived.OwnWalk
import Derived.Deep.RegionLaw
import Derived.BigRegion
import Derived.Deep.DrawnRows
import Derived.Lib.SliceRun
import Derived.Deep.AppendSrc
import Derived.Deep.Upon
import Derived.Deep.DeepAppendWide
import Derived.OrdersIn
import Derived.Laws.AppendOwnNone
import Derived.Test.YthfkbbiaemmndaaGreatDoorG4
import Derived.Test.YthfkbbiaemmndaaGreatDoorG5
import Derived.Test.YthfkbbiaemmndaaGreatDoorG6
import Derived.Test.YthfkbbiaemmndaaGreatDoorG7
import Derived.Test.YthfkbbiaemmndaaGreatDoorG8
set_option linter.unusedVariables false
set_option linter.unusedSimpArgs false
set_option maxRecDepth 100000
set_option maxHeartbeats 16000000
namespace Go.Proofs.YthfkbbiaemmndaaGreatDoor
section
open Go.RowKit
attribute [local go_sem] run_store_func
theorem legS_bad {ts : List Ts} {js : List Fv} (h : (chkAll ts).2 ≠ 0) : legS ts js = false := by
 rw [legS, decide_eq_false (fun hh => h hh.1)]; rfl
theorem legS_many {ts : List Ts} {js : List Fv} (h : 4096 < js.length) : legS ts js = false := by
 rw [legS, decide_eq_false (fun hh => by omega)]; rfl
theorem legS_good {ts : List Ts} {js : List Fv} (h : (chkAll ts).2 = 0) (hl : js.length ≤ 4096) : legS ts js = legF ts [] js := by
 rw [legS, decide_eq_true ⟨h, hl⟩]; rfl
theorem legal_bad (A R : Option Addr) (cap rc : Nat) (ts : List Ts) (js : List Fv) (w : World) (hT : Row w A cap ts) (h0 : (chkAll ts).2 ≠ 0) :
  Calls Tryz.prog 38 #[.slice A ts.length cap, .slice R js.length rc] w fun e w' => e = .returned (.bool false) ∧ Below w.heap.size w w' := by
 have b0 : Below w.heap.size w (w.alloc (.cells #[.slice A ts.length cap] 23)) := (Below.refl _ _).alloc (Nat.le_refl _) _
 have K := mayBe_any A cap ts _ (hT.later b0)
 rw [decide_eq_false h0] at K
 have K := Lib.hid K
 have B0 := Lib.hid b0
 clear h0 hT b0
 go_enter Tryz.func38, Tryz.ntmps38
 go_wp2_with (go_at_call 63; (with_reducible refine K.out.mono ?_); rintro e w1 ⟨rfl, h1⟩)
 go_ret
 exact ⟨rfl, B0.out.trans (h1.mono B0.out.size)⟩
theorem legal_many (A R : Option Addr) (cap rc : Nat) (ts : List Ts) (js : List Fv) (w : World) (hT : Row w A cap ts) (h0 : (chkAll ts).2 = 0) (hl : 4096 < js.length) :
  Calls Tryz.prog 38 #[.slice A ts.length cap, .slice R js.length rc] w fun e w' => e = .returned (.bool false) ∧ Below w.heap.size w w' := by
 have b0 : Below w.heap.size w (w.alloc (.cells #[.slice A ts.length cap] 23)) := (Below.refl _ _).alloc (Nat.le_refl _) _
 have K := mayBe_any A cap ts _ (hT.later b0)
 rw [decide_eq_true h0] at K
 have K := Lib.hid K
 have B0 := Lib.hid b0
 have g1 : decide ((js.length : Int) > 4096) = true := decide_eq_true (by omega)
 have g1' : decide (4096 < js.length) = true := decide_eq_true hl
 clear h0 hT b0
 go_enter Tryz.func38, Tryz.ntmps38
 go_wp2_with (go_at_call 63; (with_reducible refine K.out.mono ?_); rintro e w1 ⟨rfl, h1⟩)
 go_ret
 exact ⟨rfl, B0.out.trans (h1.mono B0.out.size)⟩
abbrev f1V (bl : Nat) : Value := .func (.func 64) #[] #[.pointer (some ⟨bl, 0, none⟩)]
abbrev f2V (M : Nat) : Value := .func (.func 66) #[] #[.pointer (some ⟨M + 1, 0, none⟩)]
abbrev f3V (bl : Nat) : Value := .func (.func 67) #[] #[.pointer (some ⟨bl, 0, none⟩)]
abbrev f4V (bl : Nat) : Value := .func (.func 68) #[] #[.pointer (some ⟨bl, 0, none⟩)]
abbrev f5V (bl : Nat) : Value := .func (.func 69) #[] #[.pointer (some ⟨bl, 0, none⟩)]
theorem five_idx (v0 v1 v2 v3 v4 : Value) (w : World) :
  (Instr.index 127 (.agg #[v0, v1, v2, v3, v4]) (.int .i64 0)).run Tryz.prog w = .ok v0 w ∧
  (Instr.index 127 (.agg #[v0, v1, v2, v3, v4]) (.int .i64 1)).run Tryz.prog w = .ok v1 w ∧
  (Instr.index 127 (.agg #[v0, v1, v2, v3, v4]) (.int .i64 2)).run Tryz.prog w = .ok v2 w ∧
  (Instr.index 127 (.agg #[v0, v1, v2, v3, v4]) (.int .i64 3)).run Tryz.prog w = .ok v3 w ∧
  (Instr.index 127 (.agg #[v0, v1, v2, v3, v4]) (.int .i64 4)).run Tryz.prog w = .ok v4 w := by
 refine ⟨?_, ?_, ?_, ?_, ?_⟩ <;> rfl
structure LIn (w : World) (A : Option Addr) (n cap bl M : Nat) (wr : World) (js : List Fv) : Prop where
 arr : Arr A n cap M wr js
 lb : wr.heap[bl]? = some (.cells #[.slice A n cap] 23 (0, 0))
 fn : wr.heap[M + 1 + 1]? = some (.cells #[f1V bl, f2V M, f3V bl, f4V bl, f5V bl] 127 (0, 0))
 bel : Below w.heap.size w wr
 ge : w.heap.size ≤ M
theorem LIn.l0 {w wr : World} {A : Option Addr} {n cap bl M : Nat} {js : List Fv} (h : LIn w A n cap bl M wr js) : wr.cell? ⟨bl, 0, none⟩ = some (.slice A n cap) := by rw [cell_of_row wr bl 0 _ _ _ h.lb]; rfl
theorem LIn.fz {w wr : World} {A : Option Addr} {n cap bl M : Nat} {js : List Fv} (h : LIn w A n cap bl M wr js) : wr.cell? ⟨M + 1 + 1, 0, none⟩ = some (f1V bl) ∧ wr.cell? ⟨M + 1 + 1, 1, none⟩ = some (f2V M) ∧ wr.cell? ⟨M + 1 + 1, 2, none⟩ = some (f3V bl) ∧ wr.cell? ⟨M + 1 + 1, 3, none⟩ = some (f4V bl) ∧ wr.cell? ⟨M + 1 + 1, 4, none⟩ = some (f5V bl) := by
 refine ⟨?_, ?_, ?_, ?_, ?_⟩ <;> (rw [cell_of_row wr (M + 1 + 1) _ _ _ _ h.fn]; rfl)
theorem LIn.later {w wr wr' : World} {A : Option Addr} {n cap bl M : Nat} {js : List Fv} (h : LIn w A n cap bl M wr js) (hb : Below wr.heap.size wr wr') : LIn w A n cap bl M wr' js :=
 ⟨h.arr.later hb, (hb.block _ (Array.getElem?_eq_some_iff.1 h.lb).1).trans h.lb, (hb.block _ (Array.getElem?_eq_some_iff.1 h.fn).1).trans h.fn, h.bel.trans (hb.mono h.bel.size), h.ge⟩
theorem LIn.note {w wr wr' : World} {A : Option Addr} {n cap bl M : Nat} {js : List Fv} {j : Fv} (h : LIn w A n cap bl M wr js) (hm : MI wr' M (updF (lastF js) j.t j.a)) (hk : Kept [M] wr wr') : LIn w A n cap bl M wr' (js ++ [j]) := by
 obtain ⟨es, c, hmap⟩ := h.arr.map.is
 have h1 : bl ∉ [M] := fun hx => by
  rw [List.mem_singleton] at hx
  have := h.lb
  rw [hx, hmap] at this
  cases this
 have h2 : M + 1 + 1 ∉ [M] := by rw [List.mem_singleton]; omega
 exact ⟨h.arr.note hm hk, (hk.block _ (Array.getElem?_eq_some_iff.1 h.lb).1 h1).trans h.lb, (hk.block _ (Array.getElem?_eq_some_iff.1 h.fn).1 h2).trans h.fn, h.bel.trans (hk.below h.bel.size (by simp; exact h.ge)), h.ge⟩
theorem legF_at {ts : List Ts} {js : List Fv} {k : Nat} {x : Fv} (h : legF ts [] js = legF ts (js.take k) (js.drop k)) (hx : js[k]? = some x) : legF ts [] js = (legJ ts (js.take k) x && legF ts (js.take (k + 1)) (js.drop (k + 1))) := by
 obtain ⟨hl, he⟩ := List.getElem?_eq_some_iff.1 hx
 rw [h, List.drop_eq_getElem_cons hl, he, legF, take_one hx]
theorem legal_good (A R : Option Addr) (cap rc : Nat) (ts : List Ts) (js : List Fv) (w : World) (hT : Row w A cap ts) (hR : FRow w R rc js) (h0 : (chkAll ts).2 = 0) (hl : js.length ≤ 4096) :
  Calls Tryz.prog 38 #[.slice A ts.length cap, .slice R js.length rc] w fun e w' => e = .returned (.bool (legF ts [] js)) ∧ Below w.heap.size w w' := by
 have b0 : Below w.heap.size w (w.alloc (.cells #[.slice A ts.length cap] 23)) := (Below.refl _ _).alloc (Nat.le_refl _) _
 have hv := vs_of h0
 have K := mayBe_any A cap ts _ (hT.later b0)
 rw [decide_eq_true h0] at K
 have K := Lib.hid K
 have hle := hR.le
 have hmx := hR.mx
 have hn0 := hv.n0
 have hn1 := hv.n1
 have HV := Lib.hid hv
 have ROW := Lib.hid hT
 have RAW := Lib.hid hR
 have g1 : decide ((js.length : Int) > 4096) = false := decide_eq_false (by omega)
 have g1' : decide (4096 < js.length) = false := decide_eq_false (by omega)
 have hmm := @run_makeMap Tryz.prog
 have hlb : (w.alloc (.cells #[.slice A ts.length cap] 23)).heap[w.heap.size]? = some (.cells #[.slice A ts.length cap] 23 (0, 0)) := heap_alloc_new w _
 have hs0 : (w.alloc (.cells #[.slice A ts.length cap] 23)).heap.size = w.heap.size + 1 := by simp
 have HLB := Lib.hid hlb
 have HS0 := Lib.hid hs0
 have B0 := Lib.hid b0
 obtain ⟨bl, hbl⟩ : ∃ bl, w.heap.size = bl := ⟨_, rfl⟩
 have HBL := Lib.hid hbl
 clear h0 hT hR hv hlb hs0 b0
 go_enter Tryz.func38, Tryz.ntmps38
 go_upto_region 3 with (go_at_call 63; (with_reducible refine K.out.mono ?_); rintro e w1 ⟨rfl, h1⟩)
 have H1 := Lib.hid h1
 have l1 : w1.cell? ⟨bl, 0, none⟩ = some (.slice A ts.length cap) := by
  rw [cell_of_row w1 bl 0 _ _ _ ((h1.block bl (by rw [HS0.out]; omega)).trans (by rw [← hbl]; exact HLB.out))]
  rfl
 have hsz1 : bl < w1.heap.size := World.block_lt_of_cell? w1 _ l1
 clear h1
 go_upto_region 5 with (fail)
 have HI0 := Lib.hid (show LIn w A ts.length cap bl w1.heap.size (((w1.alloc (.map #[] 0)).alloc (.cells #[.slice A ts.length cap, .map (some w1.heap.size)] 88)).alloc (.cells #[f1V bl, f2V w1.heap.size, f3V bl, f4V bl, f5V bl] 127)) [] from by
  have A0 := Arr.new A ts.length cap w1
  have bA : Below w1.heap.size w1 ((w1.alloc (.map #[] 0)).alloc (.cells #[.slice A ts.length cap, .map (some w1.heap.size)] 88)) := ((Below.refl _ _).alloc (Nat.le_refl _) _).alloc (by simp) _
  have bB : Below ((w1.alloc (.map #[] 0)).alloc (.cells #[.slice A ts.length cap, .map (some w1.heap.size)] 88)).heap.size _ (((w1.alloc (.map #[] 0)).alloc (.cells #[.slice A ts.length cap, .map (some w1.heap.size)] 88)).alloc (.cells #[f1V bl, f2V w1.heap.size, f3V bl, f4V bl, f5V bl] 127)) := (Below.refl _ _).alloc (Nat.le_refl _) _
  have hw1 : Below w.heap.size w w1 := B0.out.trans (H1.out.mono B0.out.size)
  have hlb1 : w1.heap[bl]? = some (.cells #[.slice A ts.length cap] 23 (0, 0)) := (H1.out.block bl (by rw [HS0.out]; omega)).trans (by rw [← hbl]; exact HLB.out)
  refine ⟨A0.later bB, (bB.block bl (by have := bA.size; omega)).trans ((bA.block bl hsz1).trans hlb1), ?_, hw1.trans ((bA.trans (bB.mono bA.size)).mono hw1.size), hw1.size⟩
  have := heap_alloc_new ((w1.alloc (.map #[] 0)).alloc (.cells #[.slice A ts.length cap, .map (some w1.heap.size)] 88)) (.cells #[f1V bl, f2V w1.heap.size, f3V bl, f4V bl, f5V bl] 127)
  simpa only [World.size_alloc] using this)
 generalize (((w1.alloc (.map #[] 0)).alloc (.cells #[.slice A ts.length cap, .map (some w1.heap.size)] 88)).alloc (.cells #[f1V bl, f2V w1.heap.size, f3V bl, f4V bl, f5V bl] 127)) = W0 at *
 generalize w1.heap.size = M at *
 clear l1 hmm hbl
 have I5 := fun W => five_idx (f1V bl) (f2V M) (f3V bl) (f4V bl) (f5V bl) W
 have i50 := fun W => (I5 W).1
 have i51 := fun W => (I5 W).2.1
 have i52 := fun W => (I5 W).2.2.1
 have i53 := fun W => (I5 W).2.2.2.1
 have i54 := fun W => (I5 W).2.2.2.2
 clear I5
 go_wp2
 go_loopw [30] (fun i wr => ∃ k : Nat, k ≤ js.length ∧ i = .int .i64 k ∧ Hid (LIn w A ts.length cap bl M wr (js.take k)) ∧ Hid (legF ts [] js = legF ts (js.take k) (js.drop k)) ∧ Hid (∀ j ∈ js.take k, 0 ≤ j.t ∧ j.t < ts.length ∧ 0 ≤ j.a ∧ j.a ≤ 35184372088832)) (fun i _ => js.length - (intOf i).toNat)
 case atStart => exact ⟨0, Nat.zero_le _, rfl, HI0, Lib.hid rfl, Lib.hid (by simp)⟩
 case round =>
  obtain ⟨k, hk, rfl, hI, hq, hgood⟩ := hrel
  by_cases hlt : k < js.length
  ·obtain ⟨rb, ro, x, C, cc, rfl, hx, hrb, hF⟩ := RAW.out.get (k := k) hlt
   have hF := hF.later hI.out.bel
   have c0 := hF.c0
   have c1 := hF.c1
   have c2 := hF.c2
   have c3 := hF.c3
   have c4 := hF.c4
   have hi0 : (0 : Int) ≤ (k : Int) := by omega
   have hi1 : (k : Int) < (js.length : Int) := by omega
   have HQ := Lib.hid (legF_at hq.out hx)
   have HX := Lib.hid hx
   have HF := Lib.hid hF
   clear hF hx hq
   go_upto_region 8 with (fail)
   have F1 := Lib.hid (FAt.new wr x C cc 74 HF.out.wf HF.out.s)
   have B1 := Lib.hid (box_job wr x C cc)
   have I1 := Lib.hid (hI.out.later B1.out)
   generalize (wr.alloc (.cells #[.int .i64 x.t, .int .i64 x.a, .int .i64 x.r, .int .i64 x.k, .slice C x.c.length cc] 74)) = W1 at *
   have T1 := Lib.hid (ROW.out.later I1.out.bel)
   have hb8lt := F1.out.lt
   generalize hb8 : wr.heap.size = b8 at *
   have HB8 := Lib.hid hb8
   clear c0 c1 c2 c3 c4 hb8 hI
   obtain ⟨u0, u1, u2, u3, u4⟩ := I1.out.fz
   obtain ⟨z0, z1, z2, z3, z4⟩ := F1.out.z
   have K1 : Hid (∀ W, Below W1.heap.size W1 W → Calls Tryz.prog 64 #[fvV x C cc, .pointer (some ⟨bl, 0, none⟩)] W fun e w' => e = .returned (.bool (inB x.t 0 ((ts.length : Int) - 1))) ∧ Below W.heap.size W w') := Lib.hid fun W hb => clo1_any x C A cc ts.length cap bl W (I1.out.later hb).l0 hn1
   have K2 : Hid (∀ W, Below W1.heap.size W1 W → Calls Tryz.prog 66 #[fvV x C cc, .pointer (some ⟨M + 1, 0, none⟩)] W fun e w' => e = .returned (.bool (inB x.a (soonI ts (js.take k) x.t) 17592186044416)) ∧ Below W.heap.size W w') := Lib.hid fun W hb => clo2_any x C A cc cap M ts (js.take k) W (I1.out.later hb).arr (T1.out.later hb) HV.out hgood.out
   have hsn : 0 ≤ soonI ts (js.take k) x.t := by
    unfold soonI
    cases hls : lastT (js.take k) x.t with
    | none => simp
    | some j =>
      have h1 := hgood.out j (lastT_mem hls).1
      have h2 := (HV.out.tk x.t).t0
      simp only
      omega
   have hleg : legJ ts (js.take k) x = (inB x.t 0 ((ts.length : Int) - 1) && (inB x.a (soonI ts (js.take k) x.t) 17592186044416 && (inB x.r x.a (x.a + (tk ts x.t).j) && (inB x.k 1 (tk ts x.t).c && fitB (tk ts x.t).q x.k x.c)))) := rfl
   generalize soonI ts (js.take k) x.t = sp at *
   have q1 := @inB_iff x.t 0 ((ts.length : Int) - 1)
   have q2 := @inB_iff x.a sp 17592186044416
   have q4 := @inB_iff x.k 1 (tk ts x.t).c
   have HLEG := Lib.hid hleg
   clear hleg
   cases hb1 : inB x.t 0 ((ts.length : Int) - 1)
   ·have HC : Hid ((inB x.t 0 ((ts.length : Int) - 1) && (inB x.a sp 17592186044416 && (inB x.r x.a (x.a + (tk ts x.t).j) && (inB x.k 1 (tk ts x.t).c && (fitB (tk ts x.t).q x.k x.c))))) = false) := Lib.hid (by rw [hb1]; rfl)
    rw [hb1] at K1
    clear q1 q2 q4 hb1
    clear K2
    go_wp2
    refine wp_loop_rounds 6 ?_
    rw [rounds_succ]
    go_wp2_with (go_at_call 64; (with_reducible refine (K1.out _ (Below.refl _ _)).mono ?_); rintro e1 v1 ⟨rfl, h1⟩; have BB1 : Hid (Below W1.heap.size W1 v1) := Lib.hid (h1); obtain ⟨z0, z1, z2, z3, z4⟩ := (F1.out.later BB1.out).z; clear h1)
    go_ret
    exact ⟨by rw [HQ.out, HLEG.out, HC.out]; rfl, I1.out.bel.trans (BB1.out.mono I1.out.bel.size)⟩
   ·rw [hb1] at K1
    obtain ⟨xt0, xt1⟩ := q1.1 hb1
    obtain ⟨p, hp⟩ : ∃ p : Nat, x.t = (p : Int) := ⟨x.t.toNat, by omega⟩
    have HP := Lib.hid hp
    clear hp
    cases hb2 : inB x.a sp 17592186044416
    ·have HC : Hid ((inB x.t 0 ((ts.length : Int) - 1) && (inB x.a sp 17592186044416 && (inB x.r x.a (x.a + (tk ts x.t).j) && (inB x.k 1 (tk ts x.t).c && (fitB (tk ts x.t).q x.k x.c))))) = false) := Lib.hid (by rw [hb1, hb2]; rfl)
     rw [hb2] at K2
     clear q1 q2 q4 hb2
     go_wp2
     refine wp_loop_rounds 6 ?_
     rw [rounds_succ]
     go_wp2_with (go_at_call 64; (with_reducible refine (K1.out _ (Below.refl _ _)).mono ?_); rintro e1 v1 ⟨rfl, h1⟩; have BB1 : Hid (Below W1.heap.size W1 v1) := Lib.hid (h1); obtain ⟨z0, z1, z2, z3, z4⟩ := (F1.out.later BB1.out).z; clear h1)
     rw [rounds_succ]
     go_wp2_with (go_at_call 66; (with_reducible refine (K2.out _ BB1.out).mono ?_); rintro e2 v2 ⟨rfl, h2⟩; have BB2 : Hid (Below W1.heap.size W1 v2) := Lib.hid (BB1.out.trans (h2.mono BB1.out.size)); obtain ⟨z0, z1, z2, z3, z4⟩ := (F1.out.later BB2.out).z; clear h2)
     go_ret
     exact ⟨by rw [HQ.out, HLEG.out, HC.out]; rfl, I1.out.bel.trans (BB2.out.mono I1.out.bel.size)⟩
    ·rw [hb2] at K2
     obtain ⟨xa0, xa1⟩ := q2.1 hb2
     have K3 : Hid (∀ W, Below W1.heap.size W1 W → Calls Tryz.prog 67 #[fvV x C cc, .pointer (some ⟨bl, 0, none⟩)] W fun e w' => e = .returned (.bool (inB x.r x.a (x.a + (tk ts x.t).j))) ∧ Below W.heap.size W w') := Lib.hid fun W hb => clo3_any x C A cc cap bl p ts W (I1.out.later hb).l0 (T1.out.later hb) HV.out HP.out (by have := HP.out; omega) ⟨by omega, by omega⟩
     have K4 : Hid (∀ W, Below W1.heap.size W1 W → Calls Tryz.prog 68 #[fvV x C cc, .pointer (some ⟨bl, 0, none⟩)] W fun e w' => e = .returned (.bool (inB x.k 1 (tk ts x.t).c)) ∧ Below W.heap.size W w') := Lib.hid fun W hb => clo4_any x C A cc cap bl p ts W (I1.out.later hb).l0 (T1.out.later hb) HV.out HP.out (by have := HP.out; omega)
     cases hb3 : inB x.r x.a (x.a + (tk ts x.t).j)
     ·have HC : Hid ((inB x.t 0 ((ts.length : Int) - 1) && (inB x.a sp 17592186044416 && (inB x.r x.a (x.a + (tk ts x.t).j) && (inB x.k 1 (tk ts x.t).c && (fitB (tk ts x.t).q x.k x.c))))) = false) := Lib.hid (by rw [hb1, hb2, hb3]; rfl)
      rw [hb3] at K3
      clear q1 q2 q4 hb3
      go_wp2
      refine wp_loop_rounds 6 ?_
      rw [rounds_succ]
      go_wp2_with (go_at_call 64; (with_reducible refine (K1.out _ (Below.refl _ _)).mono ?_); rintro e1 v1 ⟨rfl, h1⟩; have BB1 : Hid (Below W1.heap.size W1 v1) := Lib.hid (h1); obtain ⟨z0, z1, z2, z3, z4⟩ := (F1.out.later BB1.out).z; clear h1)
      rw [rounds_succ]
      go_wp2_with (go_at_call 66; (with_reducible refine (K2.out _ BB1.out).mono ?_); rintro e2 v2 ⟨rfl, h2⟩; have BB2 : Hid (Below W1.heap.size W1 v2) := Lib.hid (BB1.out.trans (h2.mono BB1.out.size)); obtain ⟨z0, z1, z2, z3, z4⟩ := (F1.out.later BB2.out).z; clear h2)
      rw [rounds_succ]
      go_wp2_with (go_at_call 67; (with_reducible refine (K3.out _ BB2.out).mono ?_); rintro e3 v3 ⟨rfl, h3⟩; have BB3 : Hid (Below W1.heap.size W1 v3) := Lib.hid (BB2.out.trans (h3.mono BB2.out.size)); obtain ⟨z0, z1, z2, z3, z4⟩ := (F1.out.later BB3.out).z; clear h3)
      go_ret
      exact ⟨by rw [HQ.out, HLEG.out, HC.out]; rfl, I1.out.bel.trans (BB3.out.mono I1.out.bel.size)⟩
     ·rw [hb3] at K3
      cases hb4 : inB x.k 1 (tk ts x.t).c
      ·have HC : Hid ((inB x.t 0 ((ts.length : Int) - 1) && (inB x.a sp 17592186044416 && (inB x.r x.a (x.a + (tk ts x.t).j) && (inB x.k 1 (tk ts x.t).c && (fitB (tk ts x.t).q x.k x.c))))) = false) := Lib.hid (by rw [hb1, hb2, hb3, hb4]; rfl)
       rw [hb4] at K4
       clear q1 q2 q4 hb4
       go_wp2
       refine wp_loop_rounds 6 ?_
       rw [rounds_succ]
       go_wp2_with (go_at_call 64; (with_reducible refine (K1.out _ (Below.refl _ _)).mono ?_); rintro e1 v1 ⟨rfl, h1⟩; have BB1 : Hid (Below W1.heap.size W1 v1) := Lib.hid (h1); obtain ⟨z0, z1, z2, z3, z4⟩ := (F1.out.later BB1.out).z; clear h1)
       rw [rounds_succ]
       go_wp2_with (go_at_call 66; (with_reducible refine (K2.out _ BB1.out).mono ?_); rintro e2 v2 ⟨rfl, h2⟩; have BB2 : Hid (Below W1.heap.size W1 v2) := Lib.hid (BB1.out.trans (h2.mono BB1.out.size)); obtain ⟨z0, z1, z2, z3, z4⟩ := (F1.out.later BB2.out).z; clear h2)
       rw [rounds_succ]
       go_wp2_with (go_at_call 67; (with_reducible refine (K3.out _ BB2.out).mono ?_); rintro e3 v3 ⟨rfl, h3⟩; have BB3 : Hid (Below W1.heap.size W1 v3) := Lib.hid (BB2.out.trans (h3.mono BB2.out.size)); obtain ⟨z0, z1, z2, z3, z4⟩ := (F1.out.later BB3.out).z; clear h3)
       rw [rounds_succ]
       go_wp2_with (go_at_call 68; (with_reducible refine (K4.out _ BB3.out).mono ?_); rintro e4 v4 ⟨rfl, h4⟩; have BB4 : Hid (Below W1.heap.size W1 v4) := Lib.hid (BB3.out.trans (h4.mono BB3.out.size)); obtain ⟨z0, z1, z2, z3, z4⟩ := (F1.out.later BB4.out).z; clear h4)
       go_ret
       exact ⟨by rw [HQ.out, HLEG.out, HC.out]; rfl, I1.out.bel.trans (BB4.out.mono I1.out.bel.size)⟩
      ·rw [hb4] at K4
       obtain ⟨xk0, xk1⟩ := q4.1 hb4
       have hc1 := (HV.out.tk x.t).c1
       have K5 : Hid (∀ W, Below W1.heap.size W1 W → Calls Tryz.prog 69 #[fvV x C cc, .pointer (some ⟨bl, 0, none⟩)] W fun e w' => e = .returned (.bool (fitB (tk ts x.t).q x.k x.c)) ∧ Below W.heap.size W w') := Lib.hid fun W hb => clo5_any x C A cc cap bl p ts W (I1.out.later hb).l0 (T1.out.later hb) HV.out HP.out (by have := HP.out; omega) ⟨by omega, by omega⟩ (F1.out.s.later hb)
       cases hb5 : fitB (tk ts x.t).q x.k x.c
       ·have HC : Hid ((inB x.t 0 ((ts.length : Int) - 1) && (inB x.a sp 17592186044416 && (inB x.r x.a (x.a + (tk ts x.t).j) && (inB x.k 1 (tk ts x.t).c && (fitB (tk ts x.t).q x.k x.c))))) = false) := Lib.hid (by rw [hb1, hb2, hb3, hb4, hb5]; rfl)
        rw [hb5] at K5
        clear q1 q2 q4 hb5
        go_wp2
        refine wp_loop_rounds 6 ?_
        rw [rounds_succ]
        go_wp2_with (go_at_call 64; (with_reducible refine (K1.out _ (Below.refl _ _)).mono ?_); rintro e1 v1 ⟨rfl, h1⟩; have BB1 : Hid (Below W1.heap.size W1 v1) := Lib.hid (h1); obtain ⟨z0, z1, z2, z3, z4⟩ := (F1.out.later BB1.out).z; clear h1)
        rw [rounds_succ]
        go_wp2_with (go_at_call 66; (with_reducible refine (K2.out _ BB1.out).mono ?_); rintro e2 v2 ⟨rfl, h2⟩; have BB2 : Hid (Below W1.heap.size W1 v2) := Lib.hid (BB1.out.trans (h2.mono BB1.out.size)); obtain ⟨z0, z1, z2, z3, z4⟩ := (F1.out.later BB2.out).z; clear h2)
        rw [rounds_succ]
        go_wp2_with (go_at_call 67; (with_reducible refine (K3.out _ BB2.out).mono ?_); rintro e3 v3 ⟨rfl, h3⟩; have BB3 : Hid (Below W1.heap.size W1 v3) := Lib.hid (BB2.out.trans (h3.mono BB2.out.size)); obtain ⟨z0, z1, z2, z3, z4⟩ := (F1.out.later BB3.out).z; clear h3)
        rw [rounds_succ]
        go_wp2_with (go_at_call 68; (with_reducible refine (K4.out _ BB3.out).mono ?_); rintro e4 v4 ⟨rfl, h4⟩; have BB4 : Hid (Below W1.heap.size W1 v4) := Lib.hid (BB3.out.trans (h4.mono BB3.out.size)); obtain ⟨z0, z1, z2, z3, z4⟩ := (F1.out.later BB4.out).z; clear h4)
        rw [rounds_succ]
        go_wp2_with (go_at_call 69; (with_reducible refine (K5.out _ BB4.out).mono ?_); rintro e5 v5 ⟨rfl, h5⟩; have BB5 : Hid (Below W1.heap.size W1 v5) := Lib.hid (BB4.out.trans (h5.mono BB4.out.size)); obtain ⟨z0, z1, z2, z3, z4⟩ := (F1.out.later BB5.out).z; clear h5)
        go_ret
        exact ⟨by rw [HQ.out, HLEG.out, HC.out]; rfl, I1.out.bel.trans (BB5.out.mono I1.out.bel.size)⟩
       ·rw [hb5] at K5
        have HC : Hid ((inB x.t 0 ((ts.length : Int) - 1) && (inB x.a sp 17592186044416 && (inB x.r x.a (x.a + (tk ts x.t).j) && (inB x.k 1 (tk ts x.t).c && (fitB (tk ts x.t).q x.k x.c))))) = true) := Lib.hid (by rw [hb1, hb2, hb3, hb4, hb5]; rfl)
        have hg2 : Hid (∀ j ∈ js.take (k + 1), 0 ≤ j.t ∧ j.t < ts.length ∧ 0 ≤ j.a ∧ j.a ≤ 35184372088832) := Lib.hid (fun j hj => by
         rw [take_one HX.out] at hj
         rcases List.mem_append.1 hj with hj | hj
         ·exact hgood.out j hj
         ·rw [List.mem_singleton] at hj
          subst hj
          omega)
        have HQ2 : Hid (legF ts [] js = legF ts (js.take (k + 1)) (js.drop (k + 1))) := Lib.hid (by rw [HQ.out, HLEG.out, HC.out, Bool.true_and])
        clear q1 q2 q4 hb1 hb2 hb3 hb4 hb5
        go_wp2
        refine wp_loop_rounds 6 ?_
        rw [rounds_succ]
        go_wp2_with (go_at_call 64; (with_reducible refine (K1.out _ (Below.refl _ _)).mono ?_); rintro e1 v1 ⟨rfl, h1⟩; have BB1 : Hid (Below W1.heap.size W1 v1) := Lib.hid (h1); obtain ⟨z0, z1, z2, z3, z4⟩ := (F1.out.later BB1.out).z; clear h1)
        rw [rounds_succ]
        go_wp2_with (go_at_call 66; (with_reducible refine (K2.out _ BB1.out).mono ?_); rintro e2 v2 ⟨rfl, h2⟩; have BB2 : Hid (Below W1.heap.size W1 v2) := Lib.hid (BB1.out.trans (h2.mono BB1.out.size)); obtain ⟨z0, z1, z2, z3, z4⟩ := (F1.out.later BB2.out).z; clear h2)
        rw [rounds_succ]
        go_wp2_with (go_at_call 67; (with_reducible refine (K3.out _ BB2.out).mono ?_); rintro e3 v3 ⟨rfl, h3⟩; have BB3 : Hid (Below W1.heap.size W1 v3) := Lib.hid (BB2.out.trans (h3.mono BB2.out.size)); obtain ⟨z0, z1, z2, z3, z4⟩ := (F1.out.later BB3.out).z; clear h3)
        rw [rounds_succ]
        go_wp2_with (go_at_call 68; (with_reducible refine (K4.out _ BB3.out).mono ?_); rintro e4 v4 ⟨rfl, h4⟩; have BB4 : Hid (Below W1.heap.size W1 v4) := Lib.hid (BB3.out.trans (h4.mono BB3.out.size)); obtain ⟨z0, z1, z2, z3, z4⟩ := (F1.out.later BB4.out).z; clear h4)
        rw [rounds_succ]
        go_wp2_with (go_at_call 69; (with_reducible refine (K5.out _ BB4.out).mono ?_); rintro e5 v5 ⟨rfl, h5⟩; have BB5 : Hid (Below W1.heap.size W1 v5) := Lib.hid (BB4.out.trans (h5.mono BB4.out.size)); obtain ⟨z0, z1, z2, z3, z4⟩ := (F1.out.later BB5.out).z; clear h5)
        rw [rounds_succ]
        have I6 := Lib.hid (I1.out.later BB5.out)
        have a0 := I6.out.arr.c0
        have a1 := I6.out.arr.c1
        have KN := Lib.hid (note_any A C ts.length cap cc M (lastF (js.take k)) x v5 I6.out.arr.map)
        go_wp2_with (go_at_call 41; (with_reducible refine KN.out.mono ?_); rintro e7 v7 ⟨rfl, hm7, hk7⟩; have I7 := Lib.hid (I6.out.note hm7 hk7); clear hm7 hk7)
        go_roundw
        case rel => exact ⟨k + 1, by omega, by go_num, by rw [take_one HX.out]; exact I7, HQ2, hg2⟩
        case measure => simp [intOf]; omega
  ·obtain rfl : k = js.length := by omega
   go_wp2
   go_ret
   exact ⟨by rw [hq.out, List.drop_length]; rfl, hI.out.bel⟩
theorem legal_any (A R : Option Addr) (cap rc : Nat) (ts : List Ts) (js : List Fv) (w : World) (hT : Row w A cap ts) (hR : FRow w R rc js) :
  Calls Tryz.prog 38 #[.slice A ts.length cap, .slice R js.length rc] w fun e w' => e = .returned (.bool (legS ts js)) ∧ Below w.heap.size w w' := by
 by_cases h : (chkAll ts).2 = 0
 ·by_cases hl : js.length ≤ 4096
  ·rw [legS_good h hl]; exact legal_good A R cap rc ts js w hT hR h hl
  ·rw [legS_many (by omega)]; exact legal_many A R cap rc ts js w hT h (by omega)
 ·rw [legS_bad h]; exact legal_bad A R cap rc ts js w hT h
end
section
open Go.RowKit
theorem fitB_parts (q : Int) : ∀ (left : Int) (l : List Int), 0 ≤ left → fitB q left l = true → Pos1 l ∧ l.sum ≤ left ∧ ∀ x ∈ l, x ≤ q
 | left, [], h0, _ => ⟨fun x hx => by simp at hx, by simpa using h0, by simp⟩
 | left, c :: r, h0, h => by
   simp only [fitB, Bool.and_eq_true, decide_eq_true_eq] at h
   obtain ⟨h1, h2, h3⟩ := fitB_parts q (left - c) r (by omega) h.2
   refine ⟨fun x hx => ?_, by rw [List.sum_cons]; omega, fun x hx => ?_⟩
   ·rcases List.mem_cons.1 hx with rfl | hx
    ·omega
    ·exact h1 x hx
   ·rcases List.mem_cons.1 hx with rfl | hx
    ·omega
    ·exact h3 x hx
theorem tsOver {x : Ts} (h : checkE x = 0) : x.c + x.j ≤ x.t ∧ x.q ≤ x.c ∧ x.c + x.j ≤ x.d := by
 by_cases h1 : (namedB x && rangedB x) = true
 ·rw [checkE, if_pos h1] at h
  by_cases h2 : overB x = true
  ·rw [if_pos h2] at h; omega
  ·simp [overB] at h2
   omega
 ·rw [checkE, if_neg h1] at h; omega
theorem tk_over {ts : List Ts} (h : (chkAll ts).2 = 0) {p : Int} (h0 : 0 ≤ p) (h1 : p < ts.length) : (tk ts p).c + (tk ts p).j ≤ (tk ts p).t ∧ (tk ts p).q ≤ (tk ts p).c ∧ (tk ts p).c + (tk ts p).j ≤ (tk ts p).d := by
 obtain ⟨k, rfl⟩ : ∃ k : Nat, p = (k : Int) := ⟨p.toNat, by omega⟩
 have e : ts[k]? = some (ts[k]'(by omega)) := List.getElem?_eq_getElem (by omega)
 rw [tk_get e]
 rw [chkAll] at h
 split at h
 ·cases h
 ·exact tsOver (chkFrom_ok ts [] h _ (List.mem_of_getElem? e))
structure LJ (ts : List Ts) (j : Fv) : Prop where
 t0 : 0 ≤ j.t
 t1 : j.t < ts.length
 a0 : 0 ≤ j.a
 a1 : j.a ≤ 17592186044416
 r0 : j.a ≤ j.r
 r1 : j.r ≤ j.a + (tk ts j.t).j
 k0 : 1 ≤ j.k
 k1 : j.k ≤ (tk ts j.t).c
 pos : Pos1 j.c
 fit : j.c.sum ≤ j.k
 q : ∀ x ∈ j.c, x ≤ (tk ts j.t).q
structure LJs (ts : List Ts) (js : List Fv) : Prop where
 all : ∀ j ∈ js, LJ ts j
 pw : js.Pairwise (fun x y => x.t = y.t → x.a + (tk ts x.t).t ≤ y.a)
 last : ∀ p l, lastT js p = some l → ∀ i ∈ js, i.t = p → i.a ≤ l.a
theorem ljs_of {ts : List Ts} (hv : Vs ts) : ∀ js : List Fv, legF ts [] js = true → LJs ts js := by
 refine snoc_ind ?_ ?_
 ·intro _
  exact ⟨by simp, List.Pairwise.nil, fun p l h => by simp [lastT_nil] at h⟩
 ·intro js j ih h
  rw [legF_app, List.nil_append, Bool.and_eq_true] at h
  obtain ⟨h1, h2⟩ := h
  have I := ih h1
  simp only [legF, Bool.and_true] at h2
  obtain ⟨⟨t0, t1⟩, ⟨a0, a1⟩, ⟨r0, r1⟩, ⟨k0, k1⟩, hf⟩ := legJ_parts h2
  have hk := hv.tk j.t
  have hsn : ∀ i ∈ js, i.t = j.t → i.a + (tk ts i.t).t ≤ j.a := by
   intro i hi hit
   cases hl : lastT js j.t with
   | none =>
     exfalso
     unfold lastT at hl
     rw [List.find?_eq_none] at hl
     have := hl i (by simpa using hi)
     simp [hit] at this
   | some l =>
     have h3 := I.last _ _ hl i hi hit
     unfold soonI at a0
     rw [hl] at a0
     simp only at a0
     rw [hit]; omega
  have ha0 : 0 ≤ j.a := by
   unfold soonI at a0
   cases hl : lastT js j.t with
   | none => rw [hl] at a0; exact a0
   | some l =>
     rw [hl] at a0
     have := (I.all l (lastT_mem hl).1).a0
     have := hk.t0
     simp only at a0
     omega
  obtain ⟨f1, f2, f3⟩ := fitB_parts _ _ _ (by omega) hf
  refine ⟨fun i hi => ?_, ?_, fun p l hl i hi hip => ?_⟩
  ·rcases List.mem_append.1 hi with hi | hi
   ·exact I.all i hi
   ·rw [List.mem_singleton.1 hi]
    exact ⟨t0, by omega, ha0, a1, r0, r1, k0, k1, f1, f2, f3⟩
  ·refine List.pairwise_append.2 ⟨I.pw, List.pairwise_singleton _ _, fun x hx y hy => ?_⟩
   rw [List.mem_singleton.1 hy]
   exact fun e => hsn x hx e
  ·rw [lastT_snoc] at hl
   rcases List.mem_append.1 hi with hi | hi
   ·split at hl
    ·rename_i e
     injection hl with hl
     subst hl
     have := hsn i hi (by rw [hip, e])
     have := (hv.tk i.t).t0
     omega
    ·exact I.last p l hl i hi hip
   ·rw [List.mem_singleton.1 hi] at hip ⊢
    rw [if_pos hip] at hl
    injection hl with hl
    subst hl
    exact Int.le_refl _
theorem legS_parts {ts : List Ts} {js : List Fv} (h : legS ts js = true) : (chkAll ts).2 = 0 ∧ js.length ≤ 4096 ∧ legF ts [] js = true := by
 unfold legS at h
 rw [Bool.and_eq_true, decide_eq_true_eq] at h
 exact ⟨h.1.1, h.1.2, h.2⟩
theorem jb_lj {ts : List Ts} {js : List Fv} (h : LJs ts js) {i : Nat} (hi : i < js.length) : LJ ts (jb js i) := by
 have e : js[i]? = some js[i] := List.getElem?_eq_getElem hi
 rw [jb_get e]
 exact h.all _ (List.mem_of_getElem? e)
theorem lg_of {ts : List Ts} {js : List Fv} (h : LJs ts js) : Lg js := by
 refine ⟨fun i hi => ?_, fun i hi => (jb_lj h hi).k0, fun i => ?_, fun i hi => (jb_lj h hi).fit⟩
 ·have := jb_lj h hi; have := this.a0; have := (jb_lj h hi).r0; omega
 ·by_cases hi : i < js.length
  ·exact (jb_lj h hi).pos
  ·intro x hx
   have : js[i]? = none := List.getElem?_eq_none (by omega)
   simp [jb, this] at hx
theorem seq_of {ts : List Ts} {js : List Fv} (hc : (chkAll ts).2 = 0) (h : LJs ts js) : Seq js := by
 refine ⟨fun i j hij hj ht => ?_⟩
 have hi : i < js.length := by omega
 have h1 := List.pairwise_iff_getElem.1 h.pw i j hi hj hij
 have e1 := jb_get (List.getElem?_eq_getElem hi)
 have e2 := jb_get (List.getElem?_eq_getElem hj)
 have l1 := jb_lj h hi
 have l2 := jb_lj h hj
 rw [← e1, ← e2] at h1
 have h2 := h1 ht
 have ov := tk_over hc l1.t0 l1.t1
 have := l1.r1
 have := l2.r0
 have := l1.k0
 have := l1.k1
 omega
end
section
theorem fitB_of (q : Int) : ∀ (left : Int) (l : List Int), Pos1 l → l.sum ≤ left → (∀ x ∈ l, x ≤ q) → fitB q left l = true
 | left, [], _, _, _ => rfl
 | left, c :: r, h1, h2, h3 => by
   rw [List.sum_cons] at h2
   have := h1.head
   have := h1.tail.sum
   have := h3 c (by simp)
   rw [fitB, fitB_of q (left - c) r h1.tail (by omega) (fun x hx => h3 x (List.mem_cons_of_mem _ hx)), decide_eq_true (by omega)]
   rfl
theorem leg_of {ts : List Ts} : ∀ js : List Fv, (∀ j ∈ js, LJ ts j) → js.Pairwise (fun x y => x.t = y.t → x.a + (tk ts x.t).t ≤ y.a) → legF ts [] js = true := by
 refine snoc_ind (fun _ _ => rfl) fun js j ih h1 h2 => ?_
 rw [List.pairwise_append] at h2
 have hj := h1 j (by simp)
 rw [legF_app, ih (fun x hx => h1 x (by simp [hx])) h2.1, List.nil_append, legF, legF, Bool.true_and, Bool.and_true]
 have hs : soonI ts js j.t ≤ j.a := by
  unfold soonI
  cases hl : lastT js j.t with
  | none => exact hj.a0
  | some l =>
    obtain ⟨m1, m2⟩ := lastT_mem hl
    have := h2.2.2 l m1 j (by simp) m2
    rw [m2] at this
    exact this
 rw [legJ, inB_yes ⟨hj.t0, by have := hj.t1; omega⟩, inB_yes ⟨hs, hj.a1⟩, inB_yes ⟨hj.r0, hj.r1⟩, inB_yes ⟨hj.k0, hj.k1⟩, fitB_of _ _ _ hj.pos hj.fit hj.q]
 rfl
theorem legS_of {ts : List Ts} {js : List Fv} (hc : (chkAll ts).2 = 0) (hl : js.length ≤ 4096) (h1 : ∀ j ∈ js, LJ ts j) (h2 : js.Pairwise (fun x y => x.t = y.t → x.a + (tk ts x.t).t ≤ y.a)) : legS ts js = true := by
 rw [legS, leg_of js h1 h2, decide_eq_true ⟨hc, hl⟩]
 rfl
end
section
def rs (n : Nat) (f : Nat → Int) : Int := ((List.range n).map f).sum
theorem rs_succ (n : Nat) (f : Nat → Int) : rs (n + 1) f = rs n f + f n := by simp [rs, List.range_succ]
theorem rs_le {f g : Nat → Int} : ∀ n, (∀ k, k < n → f k ≤ g k) → rs n f ≤ rs n g
 | 0, _ => Int.le_refl _
 | n + 1, h => by
   have := rs_le n (fun k hk => h k (by omega))
   have := h n (by omega)
   rw [rs_succ, rs_succ]; omega
theorem rs_lt {f g : Nat → Int} : ∀ n, (∀ k, k < n → f k ≤ g k) → (∃ k, k < n ∧ f k < g k) → rs n f < rs n g
 | 0, _, ⟨k, hk, _⟩ => by omega
 | n + 1, h, ⟨k, hk, hlt⟩ => by
   rw [rs_succ, rs_succ]
   have h1 := rs_le n (fun k hk => h k (by omega))
   have h2 := h n (by omega)
   rcases Nat.lt_or_ge k n with h3 | h3
   ·have := rs_lt n (fun k hk => h k (by omega)) ⟨k, h3, hlt⟩
    omega
   ·obtain rfl : k = n := by omega
    omega
theorem rs_congr {f g : Nat → Int} (n : Nat) (h : ∀ k, k < n → f k = g k) : rs n f = rs n g :=
 Int.le_antisymm (rs_le n fun k hk => by rw [h k hk]; exact Int.le_refl _) (rs_le n fun k hk => by rw [h k hk]; exact Int.le_refl _)
theorem rs_upd {f g : Nat → Int} {i : Nat} {d : Int} : ∀ n, i < n → (∀ k, k < n → k ≠ i → f k = g k) → f i = g i + d → rs n f = rs n g + d
 | 0, h, _, _ => by omega
 | n + 1, h, h1, h2 => by
   rw [rs_succ, rs_succ]
   by_cases e : i = n
   ·subst e
    rw [rs_congr i (fun k hk => h1 k (by omega) (by omega)), h2]; omega
   ·rw [rs_upd n (by omega) (fun k hk => h1 k (by omega)) h2, h1 n (by omega) (fun h => e h.symm)]; omega
theorem rs_nil (n : Nat) : rs n (fun _ => 0) = 0 := by
 induction n with | zero => rfl | succ n ih => rw [rs_succ, ih]; rfl
theorem rs_list (l : List Ts) (f : Ts → Int) : (l.map f).sum = rs l.length (fun k => f (tk l (k : Int))) := by
 have : ∀ l : List Ts, (l.map f).sum = rs l.length (fun k => f (tk l (k : Int))) := by
  refine snoc_ind rfl fun l x ih => ?_
  rw [List.map_append, List.sum_append, List.length_append, List.length_singleton, rs_succ, ih]
  have e1 : tk (l ++ [x]) (l.length : Int) = x := tk_get (by simp)
  rw [e1, rs_congr l.length (g := fun k => f (tk (l ++ [x]) (k : Int))) (fun k hk => by
   rw [tk_get (List.getElem?_eq_getElem hk), tk_get (x := l[k]) (by rw [List.getElem?_append_left hk, List.getElem?_eq_getElem hk])])]
  simp
 exact this l
def ceilI (a t : Int) : Int := (a + t - 1) / t
def hiS (ts : List Ts) (i : Int) (w : Int) : Int := (ts.map fun x => if x.p < (tk ts i).p then ceilI (w + x.j) x.t * x.c else 0).sum
def blkS (ts : List Ts) (i : Int) : Int := (ts.map fun x => if (tk ts i).p < x.p then x.q - 1 else 0).foldl max 0
def needS (ts : List Ts) (i : Int) (w : Int) : Int := (tk ts i).c + blkS ts i + hiS ts i w
theorem fold_max : ∀ (l : List Int) (a : Int), a ≤ l.foldl max a ∧ ∀ x ∈ l, x ≤ l.foldl max a
 | [], a => ⟨Int.le_refl _, by simp⟩
 | y :: l, a => by
   obtain ⟨h1, h2⟩ := fold_max l (max a y)
   rw [List.foldl_cons]
   refine ⟨by omega, fun x hx => ?_⟩
   rcases List.mem_cons.1 hx with rfl | hx
   ·omega
   ·exact h2 x hx
theorem blk_le {ts : List Ts} {i : Int} {u : Nat} (hu : u < ts.length) (hp : (tk ts i).p < (tk ts (u : Int)).p) : (tk ts (u : Int)).q - 1 ≤ blkS ts i := by
 have e : ts[u]? = some ts[u] := List.getElem?_eq_getElem hu
 rw [tk_get e] at hp ⊢
 refine (fold_max _ 0).2 _ (List.mem_map.2 ⟨ts[u], List.getElem_mem hu, ?_⟩)
 rw [if_pos hp]
theorem blk_pos (ts : List Ts) (i : Int) : 0 ≤ blkS ts i := (fold_max _ 0).1
section
variable {ts : List Ts} {js : List Fv}
def lvW (ts : List Ts) (js : List Fv) (p : Int) (dn : List Int) : Int := rs js.length fun k => if prO ts js k ≤ p then kO dn k else 0
theorem dn_mono1 (hl : Lg js) (n k : Nat) : kO (tst ts js n).dn k ≤ kO (tst ts js (n + 1)).dn k := by
 have hI := ti_all (ts := ts) hl n
 rw [tst_succ]
 cases hw : whoS ts js (tst ts js n) n with
 | none => rw [tstep_none hw]; exact Int.le_refl _
 | some i =>
   rw [tstep_some hw]
   simp only [runM]
   rw [kO_set _ _ (by rw [hI.ld]; exact (hI.who_some hl hw).1)]
   split
   ·subst k; omega
   ·exact Int.le_refl _
theorem dn_mono (hl : Lg js) (n k : Nat) : ∀ m, kO (tst ts js n).dn k ≤ kO (tst ts js (n + m)).dn k
 | 0 => Int.le_refl _
 | m + 1 => Int.le_trans (dn_mono hl n k m) (dn_mono1 hl (n + m) k)
theorem lvW_run (hl : Lg js) {p : Int} {u i : Nat} (hw : whoS ts js (tst ts js u) u = some i) : lvW ts js p (tst ts js (u + 1)).dn = lvW ts js p (tst ts js u).dn + (if prO ts js i ≤ p then 1 else 0) ∧ kO (tst ts js (u + 1)).dn i = kO (tst ts js u).dn i + 1 ∧ (tst ts js (u + 1)).ru = some i := by
 have hI := ti_all (ts := ts) hl u
 have hi := (hI.who_some hl hw).1
 have hid : i < (tst ts js u).dn.length := by rw [hI.ld]; exact hi
 rw [tst_succ, tstep_some hw]
 refine ⟨?_, by simp only [runM]; rw [kO_set _ _ hid, if_pos rfl], rfl⟩
 unfold lvW
 refine rs_upd (i := i) _ hi (fun k _ hk => ?_) ?_
 ·simp only [runM]; rw [kO_set _ _ hid, if_neg hk]
 ·simp only [runM]; rw [kO_set _ _ hid, if_pos rfl]
  split <;> omega
theorem en_stay (hl : Lg js) {n k : Nat} (hk : k < js.length) (hd : kO (tst ts js n).dn k = (jb js k).k) : ∀ m, kO (tst ts js (n + m)).dn k = (jb js k).k ∧ kO (tst ts js (n + m)).en k = kO (tst ts js n).en k
 | 0 => ⟨hd, rfl⟩
 | m + 1 => by
   obtain ⟨h1, h2⟩ := en_stay hl hk hd m
   have hI := ti_all (ts := ts) hl (n + m)
   rw [← Nat.add_assoc, tst_succ]
   cases hw : whoS ts js (tst ts js (n + m)) ((n + m : Nat) : Int) with
   | none => rw [tstep_none hw]; exact ⟨h1, h2⟩
   | some i =>
     rw [tstep_some hw]
     obtain ⟨g1, g2, g3⟩ := hI.who_some hl hw
     have hne : k ≠ i := fun e => by subst e; omega
     simp only [runM]
     refine ⟨by rw [kO_set _ _ (by rw [hI.ld]; exact g1), if_neg hne]; exact h1, ?_⟩
     split
     ·rw [kO_set _ _ (by rw [hI.le]; exact g1), if_neg hne]; exact h2
     ·exact h2
end
end
section
open Go.RowKit
def mulB (a b : Int) : Bool := decide (a * b ≤ 18446744073709551615)
def mulN (a b : Int) : Int := if a * b ≤ 18446744073709551615 then a * b else 0
def ceilN (a b : Int) : Int := if b = 0 then 0 else if a % b = 0 then a / b else a / b + 1
def endN (ok : Bool) (n : Int) : Int := if ok then n else 18446744073709551615
theorem mul_nonneg' (a b : Int) (ha : 0 ≤ a) (hb : 0 ≤ b) : 0 ≤ a * b := Int.mul_nonneg ha hb
end
section
open Go.RowKit
def satAdd (s n : Int) : Int := if s + n ≤ 18446744073709551615 then s + n else 18446744073709551615
def satSum (s : Int) (l : List Int) : Int := l.foldl satAdd s
end
section
open Go.RowKit
abbrev U (n : Int) : Prop := 0 ≤ n ∧ n ≤ 18446744073709551615
def isB (l : List Ts) (i : Int) : Bool := decide ((chkAll l).2 = 0) && (decide (0 ≤ i) && decide (i < (l.length : Int)))
theorem isB_iff {l : List Ts} {i : Int} (h : isB l i = true) : (chkAll l).2 = 0 ∧ 0 ≤ i ∧ i < (l.length : Int) := by
 simpa [isB] using h
theorem isB_vs {l : List Ts} {i : Int} (h : isB l i = true) : Vs l := vs_of (isB_iff h).1
theorem isB_get {l : List Ts} {i : Int} (h : isB l i = true) : ∃ (k : Nat) (y : Ts), i = (k : Int) ∧ k < l.length ∧ l[k]? = some y := by
 obtain ⟨_, h0, h1⟩ := isB_iff h
 obtain ⟨k, rfl⟩ := Int.eq_ofNat_of_zero_le h0
 have hk : k < l.length := by omega
 exact ⟨k, l[k], rfl, hk, List.getElem?_eq_getElem hk⟩
def blkUF (p b : Int) (x : Ts) : Int := if x.p > p then max b (x.q - 1) else b
def blkU (p : Int) (l : List Ts) : Int := l.foldl (blkUF p) 0
def oftS (x : Ts) (w : Int) : Int := ceilN (satAdd w x.j) x.t
def satMul (a b : Int) : Int := endN (mulB a b) (mulN a b)
def hiUF (p w s : Int) (x : Ts) : Int := if x.p < p then satAdd s (satMul (oftS x w) x.c) else s
def hiU (p w : Int) (l : List Ts) : Int := if w = 0 then 0 else l.foldl (hiUF p w) 0
def pOf (l : List Ts) (i : Int) : Int := (l.getD i.toNat ⟨ByteArray.empty, 1, 1, 1, 0, 1, 1⟩).p
def cOf (l : List Ts) (i : Int) : Int := (l.getD i.toNat ⟨ByteArray.empty, 1, 1, 1, 0, 1, 1⟩).c
def blockI (l : List Ts) (i : Int) : Int := if isB l i then blkU (pOf l i) l else 0
def higherI (l : List Ts) (i w : Int) : Int := if isB l i then hiU (pOf l i) w l else 0
def needI (l : List Ts) (i w : Int) : Int := if isB l i then satSum 0 [cOf l i, blockI l i, higherI l i w] else 0
theorem satAdd_u {a b : Int} (ha : 0 ≤ a) (hb : 0 ≤ b) : U (satAdd a b) := by
 unfold satAdd
 split
 ·exact ⟨by omega, by omega⟩
 ·exact ⟨by decide, by decide⟩
theorem satMul_u {a b : Int} (ha : 0 ≤ a) (hb : 0 ≤ b) : U (satMul a b) := by
 have := mul_nonneg' a b ha hb
 unfold satMul endN mulB mulN
 by_cases h : a * b ≤ 18446744073709551615
 ·rw [if_pos h, decide_eq_true h, if_pos rfl]; exact ⟨this, h⟩
 ·rw [decide_eq_false h, if_neg (by decide)]; exact ⟨by decide, by decide⟩
theorem blkUF_bd {p b : Int} {x : Ts} (hx : TsOk x) (hb : 0 ≤ b ∧ b ≤ 2147483646) : 0 ≤ blkUF p b x ∧ blkUF p b x ≤ 2147483646 := by
 have := hx.q0
 have := hx.q1
 unfold blkUF
 split <;> omega
theorem blk_take_bd {l : List Ts} {p : Int} (h : Vs l) (k : Nat) : 0 ≤ (l.take k).foldl (blkUF p) 0 ∧ (l.take k).foldl (blkUF p) 0 ≤ 2147483646 := by
 have : ∀ (m : List Ts) (s : Int), (∀ x ∈ m, TsOk x) → (0 ≤ s ∧ s ≤ 2147483646) → (0 ≤ m.foldl (blkUF p) s ∧ m.foldl (blkUF p) s ≤ 2147483646) := by
  intro m
  induction m with
  | nil => intro s _ hs; exact hs
  | cons a r ih => intro s hm hs; exact ih _ (fun x hx => hm x (by simp [hx])) (blkUF_bd (hm a (by simp)) hs)
 exact this _ _ (fun x hx => h.all x (List.mem_of_mem_take hx)) ⟨by decide, by decide⟩
theorem blockI_bd (l : List Ts) (i : Int) : 0 ≤ blockI l i ∧ blockI l i ≤ 2147483646 := by
 unfold blockI
 split
 ·rename_i h
  have := blk_take_bd (p := pOf l i) (isB_vs h) l.length
  rwa [List.take_length] at this
 ·omega
theorem pOf_get {l : List Ts} {k : Nat} {y : Ts} (h : l[k]? = some y) : pOf l (k : Int) = y.p ∧ cOf l (k : Int) = y.c := by
 unfold pOf cOf
 rw [Int.toNat_natCast, List.getD_eq_getElem?_getD, h]
 exact ⟨rfl, rfl⟩
end
section
open Go.RowKit
structure Sm20 (x : Ts) : Prop where
 c : 0 ≤ x.c ∧ x.c ≤ 20
 t : 0 ≤ x.t ∧ x.t ≤ 20
 d : 0 ≤ x.d ∧ x.d ≤ 20
 j : 0 ≤ x.j ∧ x.j ≤ 20
 q : 0 ≤ x.q ∧ x.q ≤ 20
theorem sm20_of {ts : List Ts} (h : SFs ts) : ∀ x ∈ ts, Sm20 x := fun x hx => by
 obtain ⟨i, hi, rfl⟩ := List.getElem_of_mem hx
 have s := h i _ (List.getElem?_eq_getElem hi)
 have := s.c0; have := s.c1; have := s.d0; have := s.d1; have := s.j0; have := s.t0; have := s.t1; have := s.q0; have := s.q1
 exact ⟨by omega, by omega, by omega, by omega, by omega⟩
end
section
open Go.RowKit
theorem ceil_is {a t : Int} (ha : 0 ≤ a) (ht : 1 ≤ t) : ceilN a t = ceilI a t := by
 unfold ceilN ceilI
 rw [if_neg (by omega)]
 have e := Int.emod_add_mul_ediv a t
 have r0 := Int.emod_nonneg a (show t ≠ 0 by omega)
 have r1 := Int.emod_lt_of_pos a (show 0 < t by omega)
 generalize a / t = q at *
 generalize a % t = r at *
 by_cases h : r = 0
 ·rw [if_pos h]
  rw [show a + t - 1 = (t - 1) + t * q by omega, Int.add_mul_ediv_left _ _ (by omega), Int.ediv_eq_zero_of_lt (by omega) (by omega)]
  omega
 ·rw [if_neg h]
  rw [show a + t - 1 = (r - 1) + t * (q + 1) by rw [Int.mul_add]; omega, Int.add_mul_ediv_left _ _ (by omega), Int.ediv_eq_zero_of_lt (by omega) (by omega)]
  omega
theorem ceilI_nonneg {a t : Int} (ha : 0 ≤ a) (ht : 1 ≤ t) : 0 ≤ ceilI a t := Int.ediv_nonneg (by omega) (by omega)
theorem satMul_fit {a b : Int} (h : a * b ≤ 18446744073709551615) : satMul a b = a * b := by
 unfold satMul endN mulB mulN
 rw [decide_eq_true h, if_pos rfl, if_pos h]
theorem satAdd_fit {a b : Int} (h : a + b ≤ 18446744073709551615) : satAdd a b = a + b := by unfold satAdd; rw [if_pos h]
def addH (p w : Int) (x : Ts) : Int := if x.p < p then ceilI (w + x.j) x.t * x.c else 0
theorem addH_nonneg {p w : Int} {x : Ts} (hx : TsOk x) (hw : 0 ≤ w) : 0 ≤ addH p w x := by
 have := hx.c0; have := hx.t0; have := hx.j0
 unfold addH
 split
 ·exact Int.mul_nonneg (ceilI_nonneg (by omega) hx.t0) (by omega)
 ·omega
structure Fits (B w : Int) (l : List Ts) : Prop where
 j : ∀ x ∈ l, w + x.j ≤ 18446744073709551615
 b : ∀ x ∈ l, ceilI (w + x.j) x.t * x.c ≤ B
 s : (l.length : Int) * B ≤ 18446744073709551615
 B0 : 0 ≤ B
theorem hi_fold {p w B : Int} (hw : 0 ≤ w) : ∀ (l : List Ts) (s : Int), (∀ x ∈ l, TsOk x) → (∀ x ∈ l, w + x.j ≤ 18446744073709551615) → (∀ x ∈ l, ceilI (w + x.j) x.t * x.c ≤ B) → 0 ≤ s → 0 ≤ B → s + (l.length : Int) * B ≤ 18446744073709551615 →
  l.foldl (hiUF p w) s = s + (l.map (addH p w)).sum
 | [], s, _, _, _, _, _, _ => by simp
 | x :: l, s, hv, hj, hb, hs, hB, h => by
   have hx := hv x (by simp)
   have hxj := hj x (by simp)
   have hxb := hb x (by simp)
   have hl : ((x :: l).length : Int) * B = (l.length : Int) * B + B := by rw [List.length_cons, Int.natCast_succ, Int.add_mul, Int.one_mul]
   have hlB : 0 ≤ (l.length : Int) * B := Int.mul_nonneg (by omega) hB
   have h0 := addH_nonneg (p := p) hx hw
   have h1 : addH p w x ≤ B := by unfold addH; split <;> omega
   have e : hiUF p w s x = s + addH p w x := by
    unfold hiUF addH oftS
    split
    ·have := hx.j0; have := hx.t0
     have hc0 := Int.mul_nonneg (ceilI_nonneg (a := w + x.j) (by omega) hx.t0) (show 0 ≤ x.c by have := hx.c0; omega)
     rw [satAdd_fit hxj, ceil_is (by omega) hx.t0, satMul_fit (by omega), satAdd_fit (by omega)]
    ·omega
   rw [List.foldl_cons, e, hi_fold hw l _ (fun y hy => hv y (by simp [hy])) (fun y hy => hj y (by simp [hy])) (fun y hy => hb y (by simp [hy])) (by omega) hB (by omega), List.map_cons, List.sum_cons]
   omega
theorem hiU_fits {l : List Ts} {p w B : Int} (hv : Vs l) (hw : 1 ≤ w) (hf : Fits B w l) : hiU p w l = (l.map (addH p w)).sum := by
 unfold hiU
 rw [if_neg (by omega), hi_fold (by omega) l 0 hv.all hf.j hf.b (by omega) hf.B0 (by have := hf.s; omega)]
 omega
theorem ceilI_mono {a b t : Int} (ht : 1 ≤ t) (h : a ≤ b) : ceilI a t ≤ ceilI b t := Int.ediv_le_ediv (by omega) (by omega)
theorem ceilI_le {a t : Int} (ha : 0 ≤ a) (ht : 1 ≤ t) : ceilI a t ≤ a := by
 unfold ceilI
 refine Int.le_of_lt_add_one ?_
 refine Int.ediv_lt_of_lt_mul (by omega) ?_
 have : (a + 1) * 1 ≤ (a + 1) * t := Int.mul_le_mul_of_nonneg_left ht (by omega)
 have e : (a + 1) * t = a * t + t := by rw [Int.add_mul, Int.one_mul]
 have : a * 1 ≤ a * t := Int.mul_le_mul_of_nonneg_left ht ha
 omega
end
end Go.Proofs.YthfkbbiaemmndaaGreatDoor
