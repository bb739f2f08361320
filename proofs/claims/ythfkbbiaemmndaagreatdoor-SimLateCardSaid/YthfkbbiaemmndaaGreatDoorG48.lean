/- Texts about the program, one after the other: RAll, KPure, YScp, KMis, YLat, YRun, YTst, RInt, RCon, YWLa. -/
import Derived.WalkKit
import Derived.ProofKit
import Derived.Handy
import Derived.Lib.Hide
import Derived.Deep.MidRow
import Derived.Deep.QuietTactic
import Derived.BigQuiet
import Derived.Deep.RegionHeld3
import Derived.Laws.Externs
import Derived.RangeFuncBox
import Derived.Deep.CutBlock
import Derived.Deep.LoopGhost
import Derived.WalkMore
import Derived.OrdersIn
import Derived.Stop.RegionWithIn
import Derived.Deep.RegionLaw
import Derived.Laws.OwnMore
import Derived.Deep.CutRange
import Derived.Deep.Quiet
import Derived.Deep.RegionHeld
import Derived.Laws.AppendOwn
import Derived.Below
import Derived.LaidMore
import Derived.Laws.CopyOwn
import Derived.IntWalk
import Derived.OwnWalk
import Derived.BigRegion
import Derived.Deep.DrawnRows
import Derived.Deep.RegionHeldLaw
import Derived.LoopIn
import Derived.LoopNIn
import Derived.TacticsInMore
import Derived.OwnWalkIn
import Derived.RangeFuncNested
import Derived.RangeFuncBound
import Derived.RangeFuncCalls
import Derived.RangeFuncLeaves
import Derived.RangeFuncWrites
import Derived.Shelf.Abstract
import Derived.StillTailTactics
import Derived.Lib.SliceRun
import Derived.Deep.AppendSrc
import Derived.Deep.Upon
import Derived.Deep.DeepAppendWide
import Derived.Sort.LoopGhostIn
import Derived.Laws.ShiftsVarLaws
import Derived.Outline
import Derived.Laws.Bits128
import Derived.Deep.RegionWith
import Derived.Shelf.RegionOpen
import Derived.Laws.BytesString
import Derived.RangeFuncRecord
import Derived.MapKept
import Derived.Maps.AppendAt
import Derived.Laws.AppendOwnNone
import Derived.Shelf.Small.Bits
import Derived.Shelf.Small.Strs
import Derived.Shelf.Small.Wraps
import Derived.Shelf.Strconv.Itoa0
import Derived.Shelf.LaysM
import Derived.Shelf.Strconv.Clone
import Derived.Shelf.Strings.Search1
import Derived.Shelf.Bits.Mul64
import Derived.Ground.Names2Prog
import Derived.Shelf.Slices.SearchI
import Derived.ChangeOld
import Derived.OpenShut
import Derived.Test.YthfkbbiaemmndaaGreatDoorRows
import Derived.Test.YthfkbbiaemmndaaGreatDoorProg
import Derived.Laws.MakeOwn
import Derived.Shelf.SlGeneric
import Derived.Shelf.Spec.SlicesGrow
import Derived.Ground.Names8Prog
import Derived.Shelf.SlSortCmp.Whole1
import Derived.Ground.SlsfProg
import Derived.Ground.SlgnProg
import Derived.Shelf.SlSortCmp.NoneTotal
import Derived.Laws.Bits64b
import Derived.Test.YthfkbbiaemmndaaGreatDoorG3
import Derived.Test.YthfkbbiaemmndaaGreatDoorG4
import Derived.Test.YthfkbbiaemmndaaGreatDoorG5
import Derived.Test.YthfkbbiaemmndaaGreatDoorG6
import Derived.Test.YthfkbbiaemmndaaGreatDoorG7
import Derived.Test.YthfkbbiaemmndaaGreatDoorG8
import Derived.Test.YthfkbbiaemmndaaGreatDoorG9
import Derived.Test.YthfkbbiaemmndaaGreatDoorG10
import Derived.Test.YthfkbbiaemmndaaGreatDoorG12
import Derived.Test.YthfkbbiaemmndaaGreatDoorG13
import Derived.Test.YthfkbbiaemmndaaGreatDoorG25
import Derived.Test.YthfkbbiaemmndaaGreatDoorG27
import Derived.Test.YthfkbbiaemmndaaGreatDoorG28
import Derived.Test.YthfkbbiaemmndaaGreatDoorG29
import Derived.Test.YthfkbbiaemmndaaGreatDoorG32
import Derived.Test.YthfkbbiaemmndaaGreatDoorG33
import Derived.Test.YthfkbbiaemmndaaGreatDoorG34
import Derived.Test.YthfkbbiaemmndaaGreatDoorG36
import Derived.Test.YthfkbbiaemmndaaGreatDoorG38
import Derived.Test.YthfkbbiaemmndaaGreatDoorG39
import Derived.Test.YthfkbbiaemmndaaGreatDoorG40
set_option linter.unusedVariables false
set_option linter.unusedSimpArgs false
set_option maxRecDepth 100000
set_option maxHeartbeats 16000000
namespace Go.Proofs.YthfkbbiaemmndaaGreatDoor
section
open Go.RowKit
structure IRowA (w : World) (A : Option Addr) (cap : Nat) (ns : List Int) : Prop where
 le : ns.length ≤ cap
 mx : cap ≤ 9223372036854775807
 at_ : ∀ k z, ns[k]? = some z → ∃ g o, A = some ⟨g, o, none⟩ ∧ g < w.heap.size ∧ w.cell? ⟨g, o + k, none⟩ = some (.int .i64 z)
def bndsL (l : List Ts) : List Int := if (chkAll l).2 = 0 then (List.range l.length).map (fun k : Nat => (boundI l (k : Int)).1) else []
def lateL (l : List Ts) : List Int := if (chkAll l).2 = 0 then ((List.range l.length).filter (fun k : Nat => decide ((boundI l (k : Int)).2 ≠ 0))).map (fun k : Nat => (k : Int)) else []
def allE (l : List Ts) : Int := if (chkAll l).2 = 0 then (if lateL l = [] then 0 else 16) else 1
def AllP (l : List Ts) (w : World) (e : Ending) (w' : World) : Prop := ∃ A1 c1 A2 c2, e = .returned (.tuple #[.slice A1 (bndsL l).length c1, .slice A2 (lateL l).length c2, .int .i64 (allE l)]) ∧ IRowA w' A1 c1 (bndsL l) ∧ IRowA w' A2 c2 (lateL l) ∧ Below w.heap.size w w'
end
section
open Go.RowKit
def missB (ts : List Ts) (js : List Fv) (en : List Int) (i : Nat) : Bool :=
 decide (0 ≤ (jb js i).t) && decide ((jb js i).t < ts.length) && (match respS js en (i : Int) with | none => true | some r => decide ((tk ts (jb js i).t).d < r))
def missS (ts : List Ts) (js : List Fv) (en : List Int) (n : Nat) : List Nat := (List.range n).filter (missB ts js en)
theorem missS_succ (ts : List Ts) (js : List Fv) (en : List Int) (n : Nat) : missS ts js en (n + 1) = missS ts js en n ++ (if missB ts js en n then [n] else []) := by
 rw [missS, List.range_succ, List.filter_append, missS]
 congr 1
 cases h : missB ts js en n <;> simp [h]
theorem missS_len (ts : List Ts) (js : List Fv) (en : List Int) (n : Nat) : (missS ts js en n).length ≤ n := by
 have := List.length_filter_le (missB ts js en) (List.range n)
 rw [List.length_range] at this
 exact this
end
section
theorem miss_none {ts : List Ts} {js : List Fv} {en : List Int} (hs : St ts) (h : Rn ts js en) (hb : ∀ k : Nat, k < ts.length → (boundI ts (k : Int)).2 = 0) : missS ts js en js.length = [] := by
 refine List.filter_eq_nil_iff.2 fun i hi => ?_
 have hi := List.mem_range.1 hi
 have l := jb_lj h.ljs hi
 have t0 := l.t0
 have t1 := l.t1
 obtain ⟨k, hk⟩ : ∃ k : Nat, (jb js i).t = (k : Int) := ⟨(jb js i).t.toNat, by omega⟩
 have hb0 := hb k (by omega)
 have h1 := h.bnd hs i hi (boundI ts (k : Int)).1 (by rw [hk]; exact Prod.ext rfl hb0)
 unfold missB
 rw [h.resp hi]
 have e : decide ((tk ts (jb js i).t).d < kO en i - (jb js i).a) = false := decide_eq_false (by omega)
 simp [e]
theorem miss_scene {ts : List Ts} {en : List Int} (hs : St ts) {k : Nat} {y : Ts} (hy : ts[k]? = some y) (h : Rn ts (sceneS ts (k : Int)) en) (hc : ScR ts k y en) (hb : (boundI ts (k : Int)).2 ≠ 0) : missS ts (sceneS ts (k : Int)) en (sceneS ts (k : Int)).length ≠ [] := by
 obtain ⟨hm, hml⟩ := scene_m (ts := ts) (i := (k : Int))
 have etk : tk ts (k : Int) = y := tk_get hy
 have hk := (List.getElem?_eq_some_iff.1 hy).1
 intro hn
 have hf := List.filter_eq_nil_iff.1 hn (headS ts (k : Int)).length (List.mem_range.2 hml)
 apply hf
 unfold missB
 rw [h.resp hml, hm, etk]
 rcases hc with ⟨b0, b1⟩ | ⟨b0, b1⟩
 ·exact absurd b0 hb
 ·have e : decide (y.d < kO en (headS ts (k : Int)).length - (startS ts (k : Int) - y.j)) = true := decide_eq_true b1
  simp [e, hk]
end
section
open Go.RowKit Go.Shelf
attribute [local go_sem ↓] Go.wp_at_zero Go.wp_at_succ
def natL (l : List Nat) : List Int := l.map fun (i : Nat) => (i : Int)
structure MiS (w0 : World) (v : Value) (l : List Nat) (w : World) : Prop where
 own : w.ownsRow w0.heap.size TIn 1 v l.length (numL (natL l))
 bel : Below w0.heap.size w0 w
theorem MiS.later {w0 w w' : World} {v : Value} {l : List Nat} (h : MiS w0 v l w) (hb : Below w.heap.size w w') : MiS w0 v l w' := ⟨(Kept.of [] hb).row h.own (by simp), h.bel.trans (hb.mono h.bel.size)⟩
theorem MiS.push {w0 w W1 w' : World} {v v' : Value} {l : List Nat} {k : Nat} (h : MiS w0 v l w) (hb : Below w.heap.size w W1) (ho : w'.ownsRow w0.heap.size TIn 1 v' (l.length + 1) (numL (natL l) ++ [.int .i64 (k : Int)])) (hg : W1.grownBy w' v.ownBlock) : MiS w0 v' (l ++ [k]) w' := by
 have e : numL (natL (l ++ [k])) = numL (natL l) ++ [.int .i64 (k : Int)] := by simp [numL, natL]
 refine ⟨by rw [e, List.length_append, List.length_singleton]; exact ho, (h.bel.trans (hb.mono h.bel.size)).grown hg ?_ (fun q hq => (h.own.lt q hq).1)⟩
 have := h.bel.size
 have := hb.size
 omega
def MisP (l : List Nat) (w : World) (e : Ending) (w' : World) : Prop := ∃ A c, e = .returned (.slice A l.length c) ∧ CRow w' A c (natL l) ∧ Below w.heap.size w w'
theorem MiS.done {w0 w : World} {v : Value} {l : List Nat} (h : MiS w0 v l w) (hl : ∀ i ∈ l, i ≤ 1000000) : MisP l w0 (.returned v) w := by
 have e : (natL l).length = l.length := by simp [natL]
 have ho := h.own
 rw [← e] at ho
 obtain ⟨A, c, hv, hn, hC, _⟩ := crow_own ho (fun x hx => by
  obtain ⟨i, hi, rfl⟩ := List.mem_map.1 hx
  have := hl i hi
  unfold in64; omega)
 exact ⟨A, c, by rw [hv, e], hC, h.bel⟩
theorem missS_lt (ts : List Ts) (js : List Fv) (en : List Int) (n : Nat) : ∀ i ∈ missS ts js en n, i < n := fun i hi => by
 have := (List.mem_filter.1 hi).1
 simpa using this
theorem misses_any {T R E : Option Addr} {tc rc ec : Nat} {ts : List Ts} {js : List Fv} {en : List Int} (w : World) (hT : Row w T tc ts) (hJ : FRow w R rc js) (hE : CRow w E ec en) (H : RsH js en) (fj : js.length ≤ 1000000) : Calls Tryz.prog 48 #[.slice T ts.length tc, .slice R js.length rc, .slice E en.length ec] w (MisP (missS ts js en js.length) w) := by
 obtain ⟨i0, hi, hz0, hz1, hz2⟩ := info_parts infoI
 obtain ⟨n, hn⟩ : ∃ n, js.length = n := ⟨_, rfl⟩
 obtain ⟨m, hm⟩ : ∃ m, en.length = m := ⟨_, rfl⟩
 obtain ⟨p, hp⟩ : ∃ p, ts.length = p := ⟨_, rfl⟩
 have jle := hJ.le
 have jmx := hJ.mx
 have tle := hT.le
 have tmx := hT.mx
 rw [hn] at jle fj
 rw [hp] at tle
 have KR := Lib.hid (fun (i : Nat) W (hb : Below w.heap.size w W) => resp_any (i : Int) W (hJ.later hb) (hE.later hb) H)
 have KI := Lib.hid (fun i n W => isPlace_any i n W)
 have HJ := Lib.hid hJ
 have HT := Lib.hid hT
 have HN := Lib.hid hn
 have HP := Lib.hid hp
 rw [hn, hm] at KR
 rw [hn, hm, hp]
 have PP := Lib.hid (fun v wr (h : MiS w v (missS ts js en n) wr) => h.done (fun i hi => by have := missS_lt ts js en n i hi; omega))
 have HLN := Lib.hid (fun k => missS_len ts js en k)
 clear hJ hE hT hn hm H hp
 go_enter Tryz.func48, Tryz.ntmps48
 go_wp2
 go_loopw [7, 14] (fun v i wr => ∃ k : Nat, k ≤ n ∧ i = .int .i64 (k : Int) ∧ Hid (MiS w v (missS ts js en k) wr)) (fun _ i _ => n - (intOf i).toNat)
 case atStart => exact ⟨0, Nat.zero_le _, rfl, Lib.hid ⟨World.ownsRow_nil _ _ _ _, Below.refl _ _⟩⟩
 case round =>
  obtain ⟨k, hk, rfl, hM⟩ := hrel
  by_cases hlt : k < n
  ·obtain ⟨bj, oj, y, C, cc, rfl, hy, hbj, hF⟩ := (HJ.out.later hM.out.bel).get (k := k) (by rw [HN.out]; exact hlt)
   have c0 := hF.c0
   have c1 := hF.c1
   have c2 := hF.c2
   have c3 := hF.c3
   have c4 := hF.c4
   have k0 : (0 : Int) ≤ (k : Int) := by omega
   have k1 : (k : Int) < (n : Int) := by omega
   have hS := missS_succ ts js en k
   have hyt : (jb js k).t = y.t := by rw [jb_get hy]
   unfold missB at hS
   rw [hyt] at hS
   have bw : Below wr.heap.size wr (wr.alloc (.cells #[.int .i64 y.t, .int .i64 y.a, .int .i64 y.r, .int .i64 y.k, .slice C y.c.length cc] 74)) := (Below.refl _ _).alloc (Nat.le_refl _) _
   have HM1 := Lib.hid (hM.out.later bw)
   have Z0 : (wr.alloc (.cells #[.int .i64 y.t, .int .i64 y.a, .int .i64 y.r, .int .i64 y.k, .slice C y.c.length cc] 74)).cell? ⟨wr.heap.size, 0, none⟩ = some (.int .i64 y.t) := by
    rw [cell_of_row _ _ _ _ _ _ (heap_alloc_new wr _)]; rfl
   have Z := Lib.hid Z0
   obtain ⟨yt, hyt2⟩ : ∃ a, y.t = a := ⟨_, rfl⟩
   rw [hyt2] at hS c0
   have HYT := Lib.hid hyt2
   have HY := Lib.hid hy
   clear Z0 hyt hy hbj hF bw
   go_upto_region 5 with (fail)
   have z0 := Z.out
   obtain ⟨xb, hxb⟩ : ∃ xb, wr.heap.size = xb := ⟨_, rfl⟩
   rw [hxb] at z0 ⊢
   rw [HYT.out] at HM1 z0
   generalize wr.alloc (.cells #[.int .i64 yt, .int .i64 y.a, .int .i64 y.r, .int .i64 y.k, .slice C y.c.length cc] 74) = W1 at *
   clear hxb c0 c1 c2 c3 c4 Z HYT hM hyt2 HY
   by_cases ht : 0 ≤ yt ∧ yt < (p : Int)
   ·obtain ⟨u, rfl⟩ : ∃ u : Nat, yt = (u : Int) := ⟨yt.toNat, by omega⟩
    obtain ⟨bt, ot, x, rfl, hx, _, hbt, hG⟩ := (HT.out.later HM1.out.bel).get (k := u) (by rw [HP.out]; omega)
    have d3 := hG.c3
    have hd : (tk ts (u : Int)).d = x.d := by rw [tk_get hx]
    rw [hd, decide_eq_true ht.1, decide_eq_true (show (u : Int) < (ts.length : Int) by rw [HP.out]; exact ht.2)] at hS
    obtain ⟨D, hD⟩ : ∃ D, x.d = D := ⟨_, rfl⟩
    rw [hD] at hS d3
    have KP := Lib.hid (fun W => KI.out (u : Int) p W)
    rw [decide_eq_true ht.1, decide_eq_true ht.2] at KP
    have u0 : (0 : Int) ≤ (u : Int) := by omega
    have u1 : (u : Int) < (p : Int) := ht.2
    have KRk := Lib.hid (KR.out k _ HM1.out.bel)
    clear hx hbt hG hd hD ht
    simp only [Bool.true_and] at hS
    cases hr : respS js en (k : Int) with
    | none =>
      rw [hr] at hS KRk
      simp only [respV, Option.getD_none, Option.isSome_none] at KRk
      simp only [if_true] at hS
      have HS := Lib.hid hS
      clear hr hS
      go_upto_region 8 with (first
       | (go_at_call 53; (with_reducible refine (KP.out _).mono ?_); rintro e w5 ⟨rfl, rfl⟩)
       | (go_at_call 28; (with_reducible refine KRk.out.mono ?_); rintro e w6 ⟨rfl, mq, rfl⟩; have d3 := cells_below (below_drewN2 W1 mq) _ _ _ d3; have z0 := cells_below (below_drewN2 W1 mq) _ _ _ z0))
      have HM2 := Lib.hid (HM1.out.later (below_drewN2 W1 mq))
      generalize W1.drewN mq = W2 at *
      have HL := Lib.hid (HLN.out k)
      have bb : Below W2.heap.size W2 (W2.alloc (.cells #[.int .i64 (k : Int)] TIn)) := (Below.refl _ _).alloc (Nat.le_refl _) _
      have HBB := Lib.hid bb
      have HO := Lib.hid (HM2.out.later bb).own
      have HZ := Lib.hid (show W2.heap.size + 1 = (W2.alloc (.cells #[.int .i64 (k : Int)] TIn)).heap.size by simp)
      have HC := Lib.hid (show ∀ (j : Nat) (u : Value), [Value.int .i64 (k : Int)][j]? = some u → (W2.alloc (.cells #[.int .i64 (k : Int)] TIn)).cell? ((⟨W2.heap.size, 0, none⟩ : Addr).add j) = some u from fun j u hj => by
       cases j with
       | zero => simp at hj; subst hj; rw [add_none, cell_of_row _ _ _ _ _ _ (heap_alloc_new W2 _)]; rfl
       | succ j => simp at hj)
      have HSz := Lib.hid (show w.heap.size ≤ (W2.alloc (.cells #[.int .i64 (k : Int)] TIn)).heap.size by have := HM2.out.bel.size; simp; omega)
      obtain ⟨LL, hLL⟩ : ∃ LL, (missS ts js en k).length = LL := ⟨_, rfl⟩
      rw [hLL] at HO HL
      have HLL := Lib.hid hLL
      clear bb hLL
      go_wp2_with (at_builtin; go_loud (refine wpList_append_own _ rfl _ _ 51 rfl w.heap.size TIn i0 _ 1 8 Tryz.underlying51 hi hz0 hz1 hz2 rfl (by decide) _ LL _ rfl HO.out ⟨W2.heap.size, 0, none⟩ 1 1 [.int .i64 (k : Int)] rfl rfl HC.out (by intro u hu; simp at hu; subst hu; rfl) (by have := HL.out; unfold maxLen; omega) (by have := HL.out; omega) HSz.out ?_; intro v' w7 hown hgrow hnil; have HM7 := Lib.hid (HM2.out.push (k := k) HBB.out (by rw [HLL.out]; exact hown) hgrow); clear hown hgrow hnil))
      go_roundw
      case rel => exact ⟨k + 1, by omega, by go_num, by rw [HS.out]; exact HM7⟩
      case measure => simp [intOf]; omega
    | some r =>
      rw [hr] at hS KRk
      simp only [respV, Option.getD_some, Option.isSome_some] at KRk
      simp only [decide_eq_true_eq] at hS
      by_cases hg : D < r
      ·rw [if_pos hg] at hS
       have t2 : decide (r > D) = true := decide_eq_true hg
       have t3 : decide (D < r) = true := decide_eq_true hg
       clear hg
       have HS := Lib.hid hS
       clear hr hS
       go_upto_region 8 with (first
        | (go_at_call 53; (with_reducible refine (KP.out _).mono ?_); rintro e w5 ⟨rfl, rfl⟩)
        | (go_at_call 28; (with_reducible refine KRk.out.mono ?_); rintro e w6 ⟨rfl, mq, rfl⟩; have d3 := cells_below (below_drewN2 W1 mq) _ _ _ d3; have z0 := cells_below (below_drewN2 W1 mq) _ _ _ z0))
       have HM2 := Lib.hid (HM1.out.later (below_drewN2 W1 mq))
       generalize W1.drewN mq = W2 at *
       have HL := Lib.hid (HLN.out k)
       have bb : Below W2.heap.size W2 (W2.alloc (.cells #[.int .i64 (k : Int)] TIn)) := (Below.refl _ _).alloc (Nat.le_refl _) _
       have HBB := Lib.hid bb
       have HO := Lib.hid (HM2.out.later bb).own
       have HZ := Lib.hid (show W2.heap.size + 1 = (W2.alloc (.cells #[.int .i64 (k : Int)] TIn)).heap.size by simp)
       have HC := Lib.hid (show ∀ (j : Nat) (u : Value), [Value.int .i64 (k : Int)][j]? = some u → (W2.alloc (.cells #[.int .i64 (k : Int)] TIn)).cell? ((⟨W2.heap.size, 0, none⟩ : Addr).add j) = some u from fun j u hj => by
        cases j with
        | zero => simp at hj; subst hj; rw [add_none, cell_of_row _ _ _ _ _ _ (heap_alloc_new W2 _)]; rfl
        | succ j => simp at hj)
       have HSz := Lib.hid (show w.heap.size ≤ (W2.alloc (.cells #[.int .i64 (k : Int)] TIn)).heap.size by have := HM2.out.bel.size; simp; omega)
       obtain ⟨LL, hLL⟩ : ∃ LL, (missS ts js en k).length = LL := ⟨_, rfl⟩
       rw [hLL] at HO HL
       have HLL := Lib.hid hLL
       clear bb hLL
       go_wp2_with (at_builtin; go_loud (refine wpList_append_own _ rfl _ _ 51 rfl w.heap.size TIn i0 _ 1 8 Tryz.underlying51 hi hz0 hz1 hz2 rfl (by decide) _ LL _ rfl HO.out ⟨W2.heap.size, 0, none⟩ 1 1 [.int .i64 (k : Int)] rfl rfl HC.out (by intro u hu; simp at hu; subst hu; rfl) (by have := HL.out; unfold maxLen; omega) (by have := HL.out; omega) HSz.out ?_; intro v' w7 hown hgrow hnil; have HM7 := Lib.hid (HM2.out.push (k := k) HBB.out (by rw [HLL.out]; exact hown) hgrow); clear hown hgrow hnil))
       go_roundw
       case rel => exact ⟨k + 1, by omega, by go_num, by rw [HS.out]; exact HM7⟩
       case measure => simp [intOf]; omega
      ·rw [if_neg hg, List.append_nil] at hS
       have HS := Lib.hid hS
       have t2 : decide (r > D) = false := decide_eq_false hg
       have t3 : decide (D < r) = false := decide_eq_false hg
       clear hg hS hr
       go_upto_region 9 with (first
        | (go_at_call 53; (with_reducible refine (KP.out _).mono ?_); rintro e w5 ⟨rfl, rfl⟩)
        | (go_at_call 28; (with_reducible refine KRk.out.mono ?_); rintro e w6 ⟨rfl, mq, rfl⟩; have d3 := cells_below (below_drewN2 W1 mq) _ _ _ d3; have z0 := cells_below (below_drewN2 W1 mq) _ _ _ z0))
       go_wp2
       go_roundw
       case rel => exact ⟨k + 1, by omega, by go_num, by rw [HS.out]; exact Lib.hid (HM1.out.later (below_drewN2 _ _))⟩
       case measure => simp [intOf]; omega
   ·have hpf : (decide (0 ≤ yt) && decide (yt < (p : Int))) = false := by
     rw [Bool.and_eq_false_iff]
     by_cases h : 0 ≤ yt
     ·exact .inr (decide_eq_false (by omega))
     ·exact .inl (decide_eq_false h)
    have KP := Lib.hid (fun W => KI.out yt p W)
    rw [HP.out, hpf] at hS
    rw [hpf] at KP
    simp only [Bool.false_and, Bool.false_eq_true, if_false, List.append_nil] at hS
    have HS := Lib.hid hS
    clear hpf ht hS
    go_wp2_with (go_at_call 53; (with_reducible refine (KP.out _).mono ?_); rintro e w5 ⟨rfl, rfl⟩)
    go_roundw
    case rel => exact ⟨k + 1, by omega, by go_num, by rw [HS.out]; exact HM1⟩
    case measure => simp [intOf]; omega
  ·obtain rfl : k = n := by omega
   go_wp2
   go_ret
   exact PP.out _ _ hM.out
end
section
open Go.RowKit
def latV (m : List Nat) : Value := .tuple #[.int .i64 ((m.headD 0 : Nat) : Int), .bool (decide (m ≠ []))]
theorem slate_any (A R : Option Addr) (cap rc : Nat) (ts : List Ts) (rs js : List Fv) (sp : List Spn) (en : List Int) (w : World) (hT : Row w A cap ts) (hR : FRow w R rc rs) (h0 : (chkAll ts).2 = 0) (hd : Dist ts) (h8 : ts.length ≤ 8)
  (hjs : decS ts rs = js) (hj : js.length ≤ 1000) (hrun : ∀ W Aj cj, Row W A cap ts → FRow W Aj cj js → Calls Tryz.prog 76 #[.slice A ts.length cap, .slice Aj js.length cj] W (RunO sp en W)) (hn : Rn ts js en) :
  Calls Tryz.prog 18 #[.slice A ts.length cap, .slice R rs.length rc] w fun e w' => e = .returned (latV (missS ts js en js.length)) ∧ Below w.heap.size w w' := by
 have K1 := srun_any A R cap rc ts rs js sp en w hT hR h0 hjs hrun
 unfold DrnP at K1
 have K1 := Lib.hid K1
 have KM := Lib.hid (fun (W : World) (Aj Ae : Option Addr) (cj ce : Nat) (h : Lt w W) (h1 : FRow W Aj cj js) (h2 : CRow W Ae ce en) => misses_any W (hT.later h) h1 h2 hn.rsh (by omega))
 have hle := hT.le
 have hmx := hT.mx
 have hrl := hR.le
 have hrm := hR.mx
 have hml : (missS ts js en js.length).length ≤ js.length := missS_len _ _ _ _
 generalize missS ts js en js.length = m at *
 generalize ts.length = N at *
 generalize rs.length = M at *
 generalize hJ : js.length = J at *
 generalize hEn : en.length = EN at *
 clear hT hR hn h0 hd hjs hrun
 go_enter Tryz.func18, Tryz.ntmps18
 go_upto_region 2 with (go_at_call 45; (with_reducible refine K1.out.mono ?_); rintro e w2 ⟨Aj, cj, Ae, ce, rfl, hF, hE, -, -, h⟩; have KM1 := Lib.hid (KM.out w2 Aj Ae cj ce h hF hE); have HL := Lib.hid (show Lt w w2 from h); clear h hE hF)
 go_upto_region 3 with (go_at_call 48; (with_reducible refine KM1.out.mono ?_); rintro e w3 ⟨Am, cm, rfl, hM, h⟩; have HM := Lib.hid hM; have HL := Lib.hid (lt_step _ _ HL.out h); clear h hM)
 clear KM1
 have hMl := HM.out.le
 have hMm := HM.out.mx
 cases m with
 | nil =>
   go_wp2
   go_ret2
   exact ⟨rfl, HL.out⟩
 | cons i r =>
   obtain ⟨g, o, rfl, hk⟩ := HM.out.at_ 0 (i : Int) rfl
   rw [Nat.add_zero] at hk
   have hlen : ((i :: r).length : Int) = ((r.length + 1 : Nat) : Int) := rfl
   generalize hnn : (i :: r).length = nn at *
   have hn1 : 1 ≤ nn := by rw [← hnn]; simp
   have u1 : decide ((nn : Int) = 0) = false := decide_eq_false (by omega)
   have i1 : (0 : Int) < (nn : Int) := by omega
   clear hlen
   go_wp2
   go_ret2
   exact ⟨rfl, HL.out⟩
end
section
open Go.RowKit
theorem slate_all {ts : List Ts} (hs : St ts) {E : List Fv → List Int} {SP : List Fv → List Spn} (hE : RunA ts E SP) (A R : Option Addr) (cap rc : Nat) (rs js : List Fv) (w : World) (hT : Row w A cap ts) (hR : FRow w R rc rs) (hjs : decS ts rs = js) (hf : Few1 ts js) :
  Calls Tryz.prog 18 #[.slice A ts.length cap, .slice R rs.length rc] w fun e w' => e = .returned (latV (missS ts js (E js) js.length)) ∧ Below w.heap.size w w' :=
 slate_any A R cap rc ts rs js (SP js) (E js) w hT hR hs.chk hs.d (by have := hs.n6; omega) hjs hf.le (fun W Aj cj h1 h2 => hE.run js hf W A cap Aj cj h1 h2) (hE.rn js hf)
end
section
open Go.RowKit
def tstB (l : List Ts) : Bool := (List.range l.length).all (fun k : Nat => decide ((boundI l (k : Int)).2 = 0)) && decide ((chkAll l).2 = 0)
theorem tstB_off {l : List Ts} {k : Nat} (hk : k < l.length) (h : (boundI l (k : Int)).2 ≠ 0) : tstB l = false := by
 unfold tstB
 have : (List.range l.length).all (fun k : Nat => decide ((boundI l (k : Int)).2 = 0)) = false := by
  rw [List.all_eq_false]
  exact ⟨k, List.mem_range.2 hk, by simp [h]⟩
 rw [this]
 rfl
theorem tstB_on {l : List Ts} (h : ∀ k : Nat, k < l.length → (boundI l (k : Int)).2 = 0) : tstB l = decide ((chkAll l).2 = 0) := by
 unfold tstB
 have : (List.range l.length).all (fun k : Nat => decide ((boundI l (k : Int)).2 = 0)) = true := by
  rw [List.all_eq_true]
  intro k hk
  exact decide_eq_true (h k (List.mem_range.1 hk))
 rw [this]
 rfl
theorem tstB_all {l : List Ts} (h : tstB l = true) : ∀ k : Nat, k < l.length → (boundI l (k : Int)).2 = 0 := fun k hk => by
 by_cases h0 : (boundI l (k : Int)).2 = 0
 ·exact h0
 ·rw [tstB_off hk h0] at h; cases h
theorem tstB_some {l : List Ts} (hc : (chkAll l).2 = 0) (h : tstB l = false) : lateL l ≠ [] := by
 intro hn
 have : ∀ k : Nat, k < l.length → (boundI l (k : Int)).2 = 0 := fun k hk => by
  by_cases h0 : (boundI l (k : Int)).2 = 0
  ·exact h0
  ·exfalso
   unfold lateL at hn
   rw [if_pos hc] at hn
   have hm : (k : Int) ∈ ((List.range l.length).filter (fun k : Nat => decide ((boundI l (k : Int)).2 ≠ 0))).map (fun k : Nat => (k : Int)) :=
    List.mem_map.2 ⟨k, List.mem_filter.2 ⟨List.mem_range.2 hk, decide_eq_true h0⟩, rfl⟩
   rw [hn] at hm
   simp at hm
 rw [tstB_on this, decide_eq_true hc] at h
 cases h
theorem late_at {l : List Ts} {x : Int} (h : x ∈ lateL l) : ∃ k : Nat, x = (k : Int) ∧ k < l.length ∧ (boundI l (k : Int)).2 ≠ 0 := by
 unfold lateL at h
 split at h
 ·obtain ⟨k, hk, rfl⟩ := List.mem_map.1 h
  obtain ⟨h1, h2⟩ := List.mem_filter.1 hk
  exact ⟨k, rfl, List.mem_range.1 h1, of_decide_eq_true h2⟩
 ·cases h
theorem got_fieldB (a q : Int) (w : World) : (Instr.field 45 (.agg #[.int .i64 a, .int .i64 q]) 1).run Tryz.prog w = .ok (.int .i64 q) w := by rfl
theorem rtests_any (A : Option Addr) (cap : Nat) (l : List Ts) (w : World) (hR : Row w A cap l) :
  Calls Tryz.prog 19 #[.slice A l.length cap] w fun e w' => e = .returned (.bool (tstB l)) ∧ Below w.heap.size w w' := by
 have hle := hR.le
 have hmx := hR.mx
 have KB := Lib.hid (fun (i : Int) (hi : in64 i) W (h : Lt w W) => rbound_any A cap l i W (hR.later h) hi)
 have KC := Lib.hid (fun W (h : Lt w W) => rcheckAll_any A cap l W (hR.later h))
 have HON := Lib.hid (@tstB_on l)
 have HOFF := Lib.hid (fun (k : Nat) (hk : k < l.length) (h : (boundI l (k : Int)).2 ≠ 0) => tstB_off hk h)
 have hgf := got_fieldD
 have hgf2 := got_fieldB
 generalize (chkAll l).1 = c1 at *
 generalize (chkAll l).2 = c2 at *
 generalize tstB l = tb at *
 generalize l.length = N at *
 clear hR
 go_enter Tryz.func19, Tryz.ntmps19
 go_wp2
 go_loopw [3] (fun i wr => ∃ k : Nat, k ≤ N ∧ i = .int .i64 (k : Int) ∧ (∀ m : Nat, m < k → (boundI l (m : Int)).2 = 0) ∧ Hid (Lt w wr)) (fun i _ => N - (intOf i).toNat)
 case atStart => exact ⟨0, Nat.zero_le _, rfl, fun m hm => absurd hm (by omega), Lib.hid (Below.refl _ _)⟩
 case round =>
  obtain ⟨k, hk, rfl, hall, HL⟩ := hrel
  by_cases hlt : k < N
  ·have KB1 := KB.out (k : Int) ⟨by omega, by omega⟩ wr HL.out
   have hi0 : (0 : Int) ≤ (k : Int) := by omega
   have hi1 : (k : Int) < (N : Int) := by omega
   have HALL := Lib.hid hall
   clear hall
   by_cases h0 : (boundI l (k : Int)).2 = 0
   ·have H0 := Lib.hid h0
    generalize (boundI l (k : Int)).1 = r at *
    rw [h0] at KB1
    clear h0
    go_wp2_with (go_at_call 17; (with_reducible refine KB1.mono ?_); rintro e w1 ⟨rfl, h⟩; have HL := Lib.hid (lt_step _ _ HL.out h); clear h)
    go_roundw
    case rel => exact ⟨k + 1, by omega, by go_num, fun m hm => by
     rcases Nat.lt_or_ge m k with g | g
     ·exact HALL.out m g
     ·obtain rfl : m = k := by omega
      exact H0.out, HL⟩
    case measure => simp [intOf]; omega
   ·have hf := HOFF.out k hlt h0
    subst hf
    generalize (boundI l (k : Int)).1 = r at *
    generalize (boundI l (k : Int)).2 = e2 at *
    have u1 : decide (e2 = 0) = false := decide_eq_false h0
    go_wp2_with (go_at_call 17; (with_reducible refine KB1.mono ?_); rintro e w1 ⟨rfl, h⟩; have HL := Lib.hid (lt_step _ _ HL.out h); clear h)
    go_ret
    exact ⟨rfl, HL.out⟩
  ·obtain rfl : k = N := by omega
   have hf := HON.out hall
   subst hf
   have KC1 := KC.out wr HL.out
   clear hall
   go_wp2_with (go_at_call 49; (with_reducible refine KC1.mono ?_); rintro e w1 ⟨rfl, h⟩; have HL := Lib.hid (lt_step _ _ HL.out h); clear h)
   go_ret
   exact ⟨rfl, HL.out⟩
end
section
open Go.RowKit
theorem irow_own {B : Nat} {w : World} {e : TypeId} {v : Value} {ns : List Int} (h : w.ownsRow B e 1 v ns.length (ns.map (Value.int .i64))) : ∃ A cap, v = .slice A ns.length cap ∧ IRowA w A cap ns := by
 obtain ⟨A, cap, hv, hle, hm⟩ := Go.Proofs.YthfkbbiaemmndaaGreatDoor.own_len h
 refine ⟨A, cap, hv, hle, by unfold maxLen at hm; omega, fun k z hz => ?_⟩
 have hk := (List.getElem?_eq_some_iff.1 hz).1
 rcases h.2 with ⟨_, h0⟩ | ⟨g, cap', cur, hv', hB, hh, _⟩
 ·omega
 ·rw [hv] at hv'
  simp only [Value.slice.injEq] at hv'
  obtain ⟨rfl, _, rfl⟩ := hv'
  have hc := h.cells (g := g) (by rw [hv]; rfl) k (.int .i64 z) (by rw [List.getElem?_map, hz]; rfl)
  rw [add_none, Nat.zero_add] at hc
  exact ⟨g, 0, rfl, (Array.getElem?_eq_some_iff.1 hh).1, by rw [Nat.zero_add]; exact hc⟩
theorem irow_snoc {B : Nat} {w : World} {e : TypeId} {v : Value} {n : Nat} {ns : List Int} {z : Int} (h : w.ownsRow B e 1 v (n + 1) (ns.map (Value.int .i64) ++ [.int .i64 z])) (hn : ns.length = n) : w.ownsRow B e 1 v (ns ++ [z]).length ((ns ++ [z]).map (Value.int .i64)) := by
 rw [List.length_append, List.length_singleton, hn, List.map_append]
 exact h
theorem bnds_step (l : List Ts) (n : Nat) : (List.range (n + 1)).map (fun k : Nat => (boundI l (k : Int)).1) = (List.range n).map (fun k : Nat => (boundI l (k : Int)).1) ++ [(boundI l (n : Int)).1] := by
 rw [List.range_succ, List.map_append]; rfl
theorem late_step (l : List Ts) (n : Nat) : ((List.range (n + 1)).filter (fun k : Nat => decide ((boundI l (k : Int)).2 ≠ 0))).map (fun k : Nat => (k : Int)) = ((List.range n).filter (fun k : Nat => decide ((boundI l (k : Int)).2 ≠ 0))).map (fun k : Nat => (k : Int)) ++ (if (boundI l (n : Int)).2 = 0 then [] else [(n : Int)]) := by
 rw [List.range_succ, List.filter_append, List.map_append]
 congr 1
 by_cases h : (boundI l (n : Int)).2 = 0
 ·rw [if_pos h]; simp [h]
 ·rw [if_neg h]; simp [h]
end
section
open Go.RowKit
theorem own_apart {w : World} {B B' : Nat} {e e' : TypeId} {s s' n n' : Nat} {v v' : Value} {xs xs' : List Value} (h : w.ownsRow B e s v n xs) (h' : w.ownsRow B' e' s' v' n' xs') (he : e ≠ e') : v.ownBlock = none ∨ v.ownBlock ≠ v'.ownBlock := by
 rcases h.2 with ⟨rfl, _⟩ | ⟨g, cap, cur, rfl, _, hh, _⟩
 ·exact .inl rfl
 ·refine .inr fun ee => ?_
  rcases h'.2 with ⟨rfl, _⟩ | ⟨g', cap', cur', rfl, _, hh', _⟩
  ·cases ee
  ·obtain rfl : g = g' := by simpa [Value.ownBlock] using ee
   rw [hh] at hh'
   cases hh'
   exact he rfl
theorem own_setR {w : World} {B e size n i g : Nat} {v : Value} {xs : List Value} (h : w.ownsRow B e size v n xs) (hg : v.ownBlock = some g) (hi : i < n * size) (u : Value) : (w.setCell ⟨g, i, none⟩ u).ownsRow B e size v n (xs.set i u) := by
 obtain ⟨h1, h2⟩ := h
 rcases h2 with ⟨rfl, _⟩ | ⟨g', cap, cur, rfl, hb, hh, hn, hm, hs, ht⟩
 ·simp [Value.ownBlock] at hg
 ·simp only [Value.ownBlock, Option.some.injEq] at hg
  subst hg
  refine ⟨by rw [List.length_set]; exact h1, .inr ⟨g', cap, cur.setIfInBounds i u, rfl, hb, ?_, hn, hm, by simpa using hs, ?_⟩⟩
  ·rw [setCell_eq_setRow w g' i cur e (0, 0) u hh]
   exact setRow_heap w g' cur _ e _ hh
  ·rw [Array.toList_setIfInBounds, ← ht, List.take_set]
theorem infoL : (Tryz.prog.info? 2).map (fun i => (i.zero, i.size, i.bytes)) = some (some (.int .i64 0), 1, 8) := by kernel_rfl
theorem infoIR : (Tryz.prog.info? 3).map (fun i => (i.zero, i.size, i.bytes)) = some (some (.int .i64 0), 1, 8) := by kernel_rfl
def bL (l : List Ts) (n : Nat) : List Int := (List.range n).map (fun k : Nat => (boundI l (k : Int)).1)
def mL (l : List Ts) (n : Nat) : List Int := ((List.range n).filter (fun k : Nat => decide ((boundI l (k : Int)).2 ≠ 0))).map (fun k : Nat => (k : Int))
theorem bL_len (l : List Ts) (n : Nat) : (bL l n).length = n := by simp [bL]
theorem bL_step (l : List Ts) (n : Nat) : bL l (n + 1) = bL l n ++ [(boundI l (n : Int)).1] := bnds_step l n
theorem mL_hit {l : List Ts} {n : Nat} (h : (boundI l (n : Int)).2 ≠ 0) : mL l (n + 1) = mL l n ++ [(n : Int)] := by
 have := late_step l n; rw [if_neg h] at this; exact this
theorem mL_miss {l : List Ts} {n : Nat} (h : (boundI l (n : Int)).2 = 0) : mL l (n + 1) = mL l n := by
 have := late_step l n; rw [if_pos h, List.append_nil] at this; exact this
theorem mL_le (l : List Ts) (n : Nat) : (mL l n).length ≤ n := by
 unfold mL
 rw [List.length_map]
 exact Nat.le_trans (List.length_filter_le _ _) (by simp)
def bR (l : List Ts) (n N : Nat) : List Int := bL l n ++ List.replicate (N - n) 0
theorem bR_len (l : List Ts) {n N : Nat} (h : n ≤ N) : (bR l n N).length = N := by simp [bR, bL_len]; omega
theorem bR_zero (l : List Ts) (N : Nat) : bR l 0 N = List.replicate N 0 := by simp [bR, bL]
theorem bR_full (l : List Ts) (N : Nat) : bR l N N = bL l N := by simp [bR]
theorem bR_step (l : List Ts) {n N : Nat} (h : n < N) : (bR l n N).set n (boundI l (n : Int)).1 = bR l (n + 1) N := by
 unfold bR
 rw [List.set_append_right _ _ (by rw [bL_len]; exact Nat.le_refl _), bL_len, Nat.sub_self, bL_step, show N - n = N - (n + 1) + 1 by omega, List.replicate_succ, List.set_cons_zero, List.append_assoc]
 rfl
structure AlI (l : List Ts) (w : World) (k N g : Nat) (v8 : Value) (wr : World) : Prop where
 b : w.heap.size ≤ wr.heap.size
 r7 : wr.ownsRow w.heap.size 2 1 (.slice (some ⟨g, 0, none⟩) N N) N ((bR l k N).map (Value.int .i64))
 r8 : wr.ownsRow w.heap.size 3 1 v8 (mL l k).length ((mL l k).map (Value.int .i64))
 bel : Lt w wr
theorem one_newI (W : World) (z : Int) (e : TypeId) : ∀ j u, ([Value.int .i64 z])[j]? = some u → (W.alloc (.cells #[.int .i64 z] e)).cell? ((⟨W.heap.size, 0, none⟩ : Addr).add j) = some u := by
 intro j u hj
 rw [add_none, Nat.zero_add, cell_of_row _ _ j _ _ _ (heap_alloc_new W _)]
 simpa using hj
theorem one_oneI (z : Int) : ∀ u ∈ [Value.int .i64 z], u.oneCell' = true := fun u hu => by
 rw [List.mem_singleton] at hu; subst hu; rfl
theorem own_laterI {B : Nat} {w w' : World} {e : TypeId} {s n : Nat} {v : Value} {xs : List Value} (h : w.ownsRow B e s v n xs) (hb : Below w.heap.size w w') : w'.ownsRow B e s v n xs := by
 obtain ⟨h1, h2⟩ := h
 refine ⟨h1, ?_⟩
 rcases h2 with h2 | ⟨g, cap, cur, hv, hg2, hh, r⟩
 ·exact .inl h2
 ·exact .inr ⟨g, cap, cur, hv, hg2, (hb.block g (Array.getElem?_eq_some_iff.1 hh).1).trans hh, r⟩
theorem own_setI {B B' : Nat} {w : World} {e e' : TypeId} {s n i g N : Nat} {v u : Value} {xs ys : List Value} (h : w.ownsRow B e s v n xs) (h7 : w.ownsRow B' e' 1 (.slice (some ⟨g, 0, none⟩) N N) N ys) (he : e ≠ e') : (w.setCell ⟨g, i, none⟩ u).ownsRow B e s v n xs := by
 have hne := own_apart h h7 he
 obtain ⟨h1, h2⟩ := h
 refine ⟨h1, ?_⟩
 rcases h2 with h2 | ⟨g', cap, cur, rfl, hg2, hh, r⟩
 ·exact .inl h2
 ·refine .inr ⟨g', cap, cur, rfl, hg2, (heap_setCell_other w ⟨g, i, none⟩ g' u (fun e => ?_)).trans hh, r⟩
  rcases hne with hne | hne
  ·cases hne
  ·exact hne (by rw [show g' = g from e]; rfl)
theorem AlI.later {l : List Ts} {w wr w' : World} {k N g : Nat} {v8 : Value} (h : AlI l w k N g v8 wr) (hb : Below wr.heap.size wr w') : AlI l w k N g v8 w' :=
 ⟨Nat.le_trans h.b hb.size, own_laterI h.r7 hb, own_laterI h.r8 hb, lt_step _ _ h.bel hb⟩
theorem AlI.cell {l : List Ts} {w wr : World} {k N g : Nat} {v8 : Value} (h : AlI l w k N g v8 wr) (hk : k < N) : wr.cell? ⟨g, k, none⟩ = some (.int .i64 ((bR l k N).getD k 0)) ∧ (∀ i, wr.frozen? ⟨g, i, none⟩ = false) ∧ w.heap.size ≤ g := by
 have hc := h.r7.cells (g := g) rfl k (.int .i64 ((bR l k N).getD k 0)) (by
  rw [List.getElem?_map, List.getD_eq_getElem?_getD, List.getElem?_eq_getElem (by rw [bR_len l (Nat.le_of_lt hk)]; exact hk)]; rfl)
 rw [add_none, Nat.zero_add] at hc
 rcases h.r7.2 with ⟨hv, _⟩ | ⟨g', cap, cur, hv, hg2, hh, _⟩
 ·cases hv
 ·simp only [Value.slice.injEq, Option.some.injEq, Addr.mk.injEq] at hv
  obtain ⟨⟨rfl, _, _⟩, _⟩ := hv
  exact ⟨hc, fun i => by simp [World.frozen?, hh], hg2⟩
theorem AlI.put {l : List Ts} {w wr : World} {k N g : Nat} {v8 : Value} {br : Int} (h : AlI l w k N g v8 wr) (hk : k < N) (hb : (boundI l (k : Int)).1 = br) (hm : mL l (k + 1) = mL l k) : AlI l w (k + 1) N g v8 (wr.setCell ⟨g, k, none⟩ (.int .i64 br)) := by
 have hg := (h.cell hk).2.2
 refine ⟨by simpa [World.setCell] using h.b, ?_, ?_, Below.setCell h.bel hg _⟩
 ·rw [← bR_step l hk, List.map_set, hb]
  exact own_setR h.r7 rfl (by omega) _
 ·rw [hm]
  exact own_setI h.r8 h.r7 (by decide)
structure AlJ (l : List Ts) (w : World) (k N g : Nat) (v8 : Value) (wr : World) : Prop where
 b : w.heap.size ≤ wr.heap.size
 r7 : wr.ownsRow w.heap.size 2 1 (.slice (some ⟨g, 0, none⟩) N N) N ((bR l k N).map (Value.int .i64))
 r8 : wr.ownsRow w.heap.size 3 1 v8 (mL l (k + 1)).length ((mL l (k + 1)).map (Value.int .i64))
 bel : Lt w wr
theorem AlJ.cell {l : List Ts} {w wr : World} {k N g : Nat} {v8 : Value} (h : AlJ l w k N g v8 wr) (hk : k < N) : wr.cell? ⟨g, k, none⟩ = some (.int .i64 ((bR l k N).getD k 0)) ∧ (∀ i, wr.frozen? ⟨g, i, none⟩ = false) ∧ w.heap.size ≤ g := by
 have hc := h.r7.cells (g := g) rfl k (.int .i64 ((bR l k N).getD k 0)) (by
  rw [List.getElem?_map, List.getD_eq_getElem?_getD, List.getElem?_eq_getElem (by rw [bR_len l (Nat.le_of_lt hk)]; exact hk)]; rfl)
 rw [add_none, Nat.zero_add] at hc
 rcases h.r7.2 with ⟨hv, _⟩ | ⟨g', cap, cur, hv, hg2, hh, _⟩
 ·cases hv
 ·simp only [Value.slice.injEq, Option.some.injEq, Addr.mk.injEq] at hv
  obtain ⟨⟨rfl, _, _⟩, _⟩ := hv
  exact ⟨hc, fun i => by simp [World.frozen?, hh], hg2⟩
theorem AlJ.put {l : List Ts} {w wr : World} {k N g : Nat} {v8 : Value} {br : Int} (h : AlJ l w k N g v8 wr) (hk : k < N) (hb : (boundI l (k : Int)).1 = br) : AlI l w (k + 1) N g v8 (wr.setCell ⟨g, k, none⟩ (.int .i64 br)) := by
 have hg := (h.cell hk).2.2
 refine ⟨by simpa [World.setCell] using h.b, ?_, own_setI h.r8 h.r7 (by decide), Below.setCell h.bel hg _⟩
 rw [← bR_step l hk, List.map_set, hb]
 exact own_setR h.r7 rfl (by omega) _
def evL (l : List Ts) (n : Nat) : Int := if mL l n = [] then 0 else 16
theorem evL_hit {l : List Ts} {n : Nat} (h : (boundI l (n : Int)).2 ≠ 0) : evL l (n + 1) = 16 := by unfold evL; rw [mL_hit h, if_neg (by simp)]
theorem bound_late {l : List Ts} {k : Nat} (hc : (chkAll l).2 = 0) (hk : k < l.length) (h : (boundI l (k : Int)).2 ≠ 0) : (boundI l (k : Int)).2 = 16 := by
 rw [bound_at hc (List.getElem?_eq_getElem hk)] at h ⊢
 cases hl : leastF (needI l (k : Int)) (mOf l (k : Int)) with
 | none => rfl
 | some u => rw [hl] at h; exact absurd rfl h
theorem rta_all (A : Option Addr) (cap : Nat) (l : List Ts) (w : World) (hR : Row w A cap l) (hT : Tab w) :
  Calls Tryz.prog 20 #[.slice A l.length cap] w (AllP l w) := by
 have K := Lib.hid (rmay_any A cap l 0 w hR ⟨by decide, by decide⟩)
 have hle := hR.le
 have hmx := hR.mx
 by_cases hc : (chkAll l).2 = 0
 ·have hn1 := (vs_of hc).n1
  have hn0 := (vs_of hc).n0
  have hb0 : isB l 0 = true := isB_at (k := 0) hc (List.getElem?_eq_getElem (show 0 < l.length by omega))
  rw [hb0] at K
  have hlen : l.length ≤ 1024 := by omega
  obtain ⟨b, o, _, rfl, _, _, _, _⟩ := hR.get (show 0 < l.length by omega)
  have KB := Lib.hid (fun W (h : Lt w W) (k : Nat) (hk : k < l.length) => bound_in b o cap l k l[k] W (hR.later h) hc (List.getElem?_eq_getElem hk) (hT.below h))
  have HLT := Lib.hid (fun (k : Nat) (hk : k < l.length) h => bound_late (k := k) hc hk h)
  obtain ⟨iL, hL1, hL2, hL3, hL4⟩ := info_parts infoL
  obtain ⟨iI, hI1, hI2, hI3, hI4⟩ := info_parts infoIR
  have HC := Lib.hid hc
  generalize hN : l.length = N at *
  have HN := Lib.hid hN
  clear hc hR hT hN hb0 hn1 hn0
  go_enter Tryz.func20, Tryz.ntmps20
  go_upto_region 3 with (go_at_call 29; (with_reducible refine K.out.mono ?_); rintro e w1 ⟨rfl, h⟩; have HL := Lib.hid (show Lt w w1 from h); clear h)
  go_upto_region 4 with (at_make; refine wpList_make_full _ rfl _ _ 42 rfl w.heap.size 2 iL _ 1 Tryz.underlying42 hL1 hL2 hL3 .i64 .i64 _ _ N rfl rfl rfl rfl (by rw [hL4]; omega) (by unfold maxLen; omega) (Below.size HL.out) ?_; intro w3 hown hgrow; have HI := Lib.hid (show AlI l w 0 N w1.heap.size (.slice none 0 0) w3 from ⟨Nat.le_trans (Below.size HL.out) hgrow.size, (by rw [bR_zero, List.map_replicate]; rw [show (Value.int IntKind.i64 0).cells = #[Value.int IntKind.i64 0] from rfl, toList_madeCells_one, Nat.mul_one] at hown; exact hown), World.ownsRow_nil _ _ _ _, Below.grown HL.out hgrow (Below.size HL.out) (fun q hq => by cases hq)⟩); clear hown hgrow)
  obtain ⟨g, hg⟩ : ∃ g, w1.heap.size = g := ⟨_, rfl⟩
  rw [hg] at HI ⊢
  clear hg
  go_wp2
  go_loopw [6, 7, 19] (fun v6 v7 i wr => ∃ k : Nat, k ≤ N ∧ i = .int .i64 (k : Int) ∧ v7 = .int .i64 (evL l k) ∧ Hid (AlI l w k N g v6 wr)) (fun _ _ i _ => N - (intOf i).toNat)
  case atStart => exact ⟨0, Nat.zero_le _, rfl, rfl, HI⟩
  case round =>
   clear HI
   obtain ⟨k, hk, rfl, rfl, HI⟩ := hrel
   obtain ⟨A8, c8, hv8, hl8, hm8⟩ := Go.Proofs.YthfkbbiaemmndaaGreatDoor.own_len HI.out.r8
   have hml := mL_le l k
   obtain ⟨q, hq⟩ : ∃ q, (mL l k).length = q := ⟨_, rfl⟩
   rw [hq] at hv8 hl8 hml
   have HQ := Lib.hid hq
   subst hv8
   clear hq
   by_cases hlt : k < N
   ·have d1 : decide ((k : Int) < (N : Int)) = true := decide_eq_true (by omega)
    have KBk := Lib.hid (fun W h => KB.out W h k hlt)
    obtain ⟨⟨br, be⟩, hbr⟩ : ∃ p, boundI l (k : Int) = p := ⟨_, rfl⟩
    rw [hbr] at KBk
    simp only at KBk
    have HBR := Lib.hid hbr
    have HII := Lib.hid hlt
    have HWK := Lib.hid (w64 (z := (k : Int) + 1) (by omega) (by omega))
    have i0 : (0 : Int) ≤ (k : Int) := by omega
    have i1 : (k : Int) < (N : Int) := by omega
    clear hbr
    by_cases h0 : be = 0
    ·subst h0
     have HM : Hid (mL l (k + 1) = mL l k) := Lib.hid (mL_miss (by rw [HBR.out]))
     go_upto_region 10 with (go_at_call 30; (with_reducible refine (KBk.out _ HI.out.bel).mono ?_); rintro e w5 ⟨rfl, h⟩; have HI := Lib.hid (HI.out.later h); clear h)
     obtain ⟨cc, cf, cg⟩ := HI.out.cell HII.out
     have cf := cf k
     generalize (bR l k N).getD k 0 = z0 at cc
     obtain ⟨hw1, hw1'⟩ := HWK.out
     go_wp2
     clear hw1 hw1'
     go_roundw
     case rel =>
      refine ⟨k + 1, by have := HII.out; omega, by go_num, by unfold evL; rw [HM.out], Lib.hid (HI.out.put HII.out (by rw [HBR.out]) HM.out)⟩
     case measure => have := HII.out; simp [intOf]; omega
    ·have t0 : (be != 0) = true := by simpa using h0
     have HM : Hid (mL l (k + 1) = mL l k ++ [(k : Int)]) := Lib.hid (mL_hit (by rw [HBR.out]; exact h0))
     have hbe : be = 16 := by have := HLT.out k HII.out (by rw [HBR.out]; exact h0); rw [HBR.out] at this; exact this
     subst hbe
     have HEV : Hid (evL l (k + 1) = 16) := Lib.hid (evL_hit (by rw [HBR.out]; exact h0))
     clear h0
     go_upto_region 9 with (go_at_call 30; (with_reducible refine (KBk.out _ HI.out.bel).mono ?_); rintro e w5 ⟨rfl, h⟩; have HI := Lib.hid (HI.out.later h); clear h)
     go_upto_region 10 with (at_builtin; refine wpList_append_own _ rfl _ _ 51 rfl w.heap.size 3 iI _ 1 8 Tryz.underlying51 hI1 hI2 hI3 hI4 rfl (by decide) _ q ((mL l k).map (Value.int .i64)) rfl (by have := (HI.out.r8.alloc (.cells #[.int .i64 (k : Int)] 3)); rw [HQ.out] at this; exact this) ⟨w5.heap.size, 0, none⟩ 1 1 [.int .i64 (k : Int)] rfl rfl (one_newI _ _ _) (one_oneI _) (by unfold maxLen; omega) (by omega) (by have := HI.out.b; simp; omega) ?_; intro v8' w6 hown8 hgrow8 hnil8)
     have hb6 : Below w.heap.size w w6 := (((show Below w.heap.size w w5 from HI.out.bel).alloc HI.out.b _).grown hgrow8 (by have := HI.out.b; simp; omega) (fun q hq => (HI.out.r8.lt q hq).1))
     have h7 := HI.out.r7.alloc (.cells #[.int .i64 (k : Int)] 3)
     have HJ := Lib.hid (show AlJ l w k N g v8' w6 from ⟨hb6.size, h7.kept hgrow8 (own_apart h7 (HI.out.r8.alloc (.cells #[.int .i64 (k : Int)] 3)) (by decide)), by rw [HM.out]; exact irow_snoc hown8 HQ.out, hb6⟩)
     clear hown8 hgrow8 hnil8 hb6 h7
     obtain ⟨cc, cf, cg⟩ := HJ.out.cell HII.out
     have cf := cf k
     generalize (bR l k N).getD k 0 = z0 at cc
     obtain ⟨hw1, hw1'⟩ := HWK.out
     go_wp2
     clear hw1 hw1'
     go_roundw
     case rel =>
      refine ⟨k + 1, by have := HII.out; omega, by go_num, by rw [HEV.out], Lib.hid (HJ.out.put HII.out (by rw [HBR.out]))⟩
     case measure => have := HII.out; simp [intOf]; omega
   ·obtain rfl : k = N := by omega
    have d1 : decide ((k : Int) < (k : Int)) = false := decide_eq_false (by omega)
    have R7 := HI.out.r7
    rw [bR_full] at R7
    have R7' : wr.ownsRow w.heap.size 2 1 (.slice (some ⟨g, 0, none⟩) k k) (bL l k).length ((bL l k).map (Value.int .i64)) := by rw [bL_len]; exact R7
    obtain ⟨E7, d7, e7, I7⟩ := irow_own R7'
    obtain ⟨E8, d8, e8, I8⟩ := irow_own HI.out.r8
    rw [bL_len] at e7
    rw [HQ.out] at e8
    have X1 : bndsL l = bL l k := by unfold bndsL; rw [if_pos HC.out, HN.out]; rfl
    have X2 : lateL l = mL l k := by unfold lateL; rw [if_pos HC.out, HN.out]; rfl
    have X3 : allE l = evL l k := by unfold allE; rw [if_pos HC.out, X2]; rfl
    have J1 := Lib.hid I7
    have J2 := Lib.hid I8
    obtain ⟨rfl, rfl⟩ : some ⟨g, 0, none⟩ = E7 ∧ k = d7 := by simpa using e7
    obtain ⟨rfl, rfl⟩ : A8 = E8 ∧ c8 = d8 := by simpa using e8
    have HX := Lib.hid (And.intro X1 (And.intro X2 X3))
    clear X1 X2 X3 I7 I8 e7 e8 hlt R7 R7'
    go_wp2
    go_ret3
    obtain ⟨X1, X2, X3⟩ := HX.out
    refine ⟨some ⟨g, 0, none⟩, k, A8, c8, ?_, by rw [X1]; exact J1.out, by rw [X2]; exact J2.out, HI.out.bel⟩
    rw [X1, X2, X3, bL_len, HQ.out]
    rfl
 ·have X1 : bndsL l = [] := by unfold bndsL; rw [if_neg hc]
  have X2 : lateL l = [] := by unfold lateL; rw [if_neg hc]
  have X3 : allE l = 1 := by unfold allE; rw [if_neg hc]
  have hb0 : isB l 0 = false := by unfold isB; rw [decide_eq_false hc]; rfl
  rw [hb0] at K
  unfold AllP
  rw [X1, X2, X3]
  generalize l.length = N at *
  clear hc hR hT X1 X2 X3 hb0
  go_enter Tryz.func20, Tryz.ntmps20
  go_wp2_with (first
   | (go_at_call 29; (with_reducible refine K.out.mono ?_); rintro e w1 ⟨rfl, h⟩; have HL := Lib.hid (show Lt w w1 from h); clear h)
   | fail)
  go_ret3
  exact ⟨none, 0, none, 0, rfl, ⟨by simp, by omega, by simp⟩, ⟨by simp, by omega, by simp⟩, HL.out⟩
end
section
open Go.RowKit
theorem sla_walk (A0 : Option Addr) (cap0 : Nat) (l0 : List Sp) (A1 : Option Addr) (cap1 : Nat) (l1 : List Fv) (x0 : Int) (w : World) (hT : Tab w) (h0 : SRow w A0 cap0 l0) (h1 : FRow w A1 cap1 l1) (i0 : in64 x0) :
  Calls Tryz.prog 6 #[.slice A0 l0.length cap0, .slice A1 l1.length cap1, .int .i64 x0] w fun e w' => e = .returned (.bool true) ∧ Below w.heap.size w w' := by
 have KA := Lib.hid awake_any
 have KS := Lib.hid (fun W (h : Lt w W) => set_any 5 (by omega) (by omega) A0 cap0 l0 x0 W (h0.later h) i0)
 have HTB := Lib.hid (fun W (h : Lt w W) => hT.below h)
 have KF0 := fun (W : World) (h : Lt w W) => fewT_row A1 cap1 l1 W (h1.later h)
 have FB0 := fewT_bd l1
 obtain ⟨fs, hfs⟩ : ∃ fs, fewTS l1 = fs := ⟨_, rfl⟩
 rw [hfs] at KF0 FB0
 have KF := Lib.hid KF0
 have FB := Lib.hid FB0
 have HL : Hid (Lt w w) := Lib.hid (Below.refl _ _)
 have hle1 := h1.le
 have hmx1 := h1.mx
 generalize l0.length = m0 at *
 generalize l1.length = m1 at *
 clear h0 hT h1 hfs KF0 FB0
 go_enter Tryz.func6, Tryz.ntmps6
 go_upto_region 2 with (go_at_call 7; (with_reducible refine (KA.out _ (HTB.out _ HL.out)).mono ?_); rintro e v0 ⟨rfl, h⟩; have HL := Lib.hid (lt_step _ _ HL.out h); clear h)
 go_upto_region 3 with (go_at_call 8; (with_reducible refine (KS.out _ HL.out).mono ?_); rintro e v ⟨A, cap, ts, rfl, hR, hn1, hn6, hd, hsf, hp, h⟩; have HR := Lib.hid hR; have HST := Lib.hid (St.mk hn1 (by omega) hd hsf hp); have HL := Lib.hid (lt_step _ _ HL.out h); clear h hR hsf hd hp)
 have hle := HR.out.le
 have hmx := HR.out.mx
 obtain ⟨E, SP, hE⟩ := run_all HST.out
 have HE := Lib.hid hE
 obtain ⟨js, hjs⟩ : ∃ js, decS ts fs = js := ⟨_, rfl⟩
 have hf1 : Few1 ts js := by rw [← hjs]; exact few_dec HST.out FB.out.1 FB.out.2
 have HV : Hid (Lt v v) := Lib.hid (Below.refl _ _)
 have KL0 := fun (W : World) (Ar : Option Addr) (cr : Nat) (h : Lt v W) (hF : FRow W Ar cr fs) => slate_all HST.out HE.out A Ar cap cr fs js W (HR.out.later h) hF hjs hf1
 unfold latV at KL0
 have KT := Lib.hid (fun (W : World) (h : Lt v W) => rtests_any A cap ts W (HR.out.later h))
 have KAL := Lib.hid (fun (W : World) (h : Lt v W) => rta_all A cap ts W (HR.out.later h) (HTB.out _ (lt_step _ _ HL.out h)))
 have KC := Lib.hid (fun (W : World) (h : Lt v W) (k : Nat) (y : Ts) (hy : ts[k]? = some y) => scrit_row A cap ts k y W (HR.out.later h) HST.out hy (HTB.out _ (lt_step _ _ HL.out h)))
 have HM : Hid (tstB ts = true → missS ts js (E js) js.length = []) := Lib.hid (fun h => miss_none HST.out (HE.out.rn js hf1) (tstB_all h))
 have HMT : Hid (tstB ts = false → lateL ts ≠ []) := Lib.hid (fun h => tstB_some HST.out.chk h)
 generalize missS ts js (E js) js.length = m at *
 obtain ⟨lt1, hlt1⟩ : ∃ b : Bool, decide (m ≠ []) = b := ⟨_, rfl⟩
 obtain ⟨z1, hz1⟩ : ∃ z : Int, ((m.headD 0 : Nat) : Int) = z := ⟨_, rfl⟩
 have HM : Hid (tstB ts = true → lt1 = false) := Lib.hid (fun h => by rw [← hlt1, HM.out h]; rfl)
 rw [hlt1, hz1] at KL0
 have KL := Lib.hid KL0
 clear hf1 hjs hE hlt1 hz1 KL0
 go_upto_region 4 with (first
  | (go_at_call 13; (with_reducible refine (KF.out _ HL.out).mono ?_); rintro e w1 ⟨Ar, cr, rfl, hF, h⟩; have HF := Lib.hid hF; have HV := Lib.hid (lt_step _ _ HV.out h); have KL1 := Lib.hid (KL.out _ _ _ HV.out HF.out); clear h hF)
  | (go_at_call 18; (with_reducible refine KL1.out.mono ?_); rintro e w2 ⟨rfl, h⟩; have HV := Lib.hid (lt_step _ _ HV.out h); clear h)
  | fail)
 have KT1 := Lib.hid (KT.out _ HV.out)
 cases hb : tstB ts with
 | true =>
   rw [hb] at KT1
   obtain rfl := HM.out hb
   clear hb
   go_wp2_with (go_at_call 19; (with_reducible refine KT1.out.mono ?_); rintro e w3 ⟨rfl, h⟩; have HV := Lib.hid (lt_step _ _ HV.out h); clear h)
   go_ret
   exact ⟨rfl, lt_step _ _ HL.out HV.out⟩
 | false =>
   rw [hb] at KT1
   have hne := HMT.out hb
   obtain ⟨x, r, hxr⟩ : ∃ x r, lateL ts = x :: r := by
    cases h : lateL ts with
    | nil => exact absurd h hne
    | cons x r => exact ⟨x, r, rfl⟩
   obtain ⟨k, rfl, hk, hbk⟩ := late_at (l := ts) (x := x) (by rw [hxr]; simp)
   clear hb hne
   obtain ⟨rs, he1, he2⟩ := scene_enc HST.out (List.getElem?_eq_getElem hk)
   have hms := miss_scene HST.out (List.getElem?_eq_getElem hk) (HE.out.rn _ (few_scene HST.out (List.getElem?_eq_getElem hk))) (HE.out.sc k _ (List.getElem?_eq_getElem hk)) hbk
   have KL2 := fun (W : World) (Ar : Option Addr) (cr : Nat) (h : Lt v W) (hF : FRow W Ar cr rs) => slate_all HST.out HE.out A Ar cap cr rs _ W (HR.out.later h) hF he2 (few_scene HST.out (List.getElem?_eq_getElem hk))
   unfold latV at KL2
   have KC1 := Lib.hid (fun (W : World) (h : Lt v W) => KC.out W h k _ (List.getElem?_eq_getElem hk))
   have KEN := Lib.hid (fun (W : World) (Ar : Option Addr) (cr : Nat) (h : Lt v W) (hF : FRow W Ar cr (sceneS ts (k : Int))) => encode_row A Ar cap cr ts _ rs W (HR.out.later h) hF he1)
   obtain ⟨js2, hjs2⟩ : ∃ js2, sceneS ts (k : Int) = js2 := ⟨_, rfl⟩
   rw [hjs2] at KL2 KEN hms
   have KC1 := KC1.out
   rw [hjs2] at KC1
   have KC1 := Lib.hid KC1
   generalize missS ts js2 (E js2) js2.length = m2 at *
   rw [decide_eq_true hms] at KL2
   obtain ⟨z2, hz2⟩ : ∃ z : Int, ((m2.headD 0 : Nat) : Int) = z := ⟨_, rfl⟩
   rw [hz2] at KL2
   have KL2 := Lib.hid KL2
   have hk0 : (0 : Int) ≤ (k : Int) := by omega
   have hk1 : (k : Int) < (ts.length : Int) := by omega
   have KAL1 := KAL.out
   unfold AllP at KAL1
   rw [hxr] at KAL1
   obtain ⟨n, hn⟩ : ∃ n, ((k : Int) :: r).length = n := ⟨_, rfl⟩
   have hn1 : 1 ≤ n := by rw [← hn]; simp
   rw [hn] at KAL1
   have KAL1 := Lib.hid KAL1
   have u1 : decide ((n : Int) = 0) = false := decide_eq_false (by omega)
   have i1 : (0 : Int) < (n : Int) := by omega
   have HN := Lib.hid hn
   clear hn hms hbk he1 he2 hxr hjs2 hz2
   generalize (bndsL ts).length = nb at *
   generalize allE ts = ae at *
   go_upto_region 6 with (go_at_call 19; (with_reducible refine KT1.out.mono ?_); rintro e w3 ⟨rfl, h⟩; have HV := Lib.hid (lt_step _ _ HV.out h); clear h)
   go_upto_region 7 with (go_at_call 20; (with_reducible refine (KAL1.out _ HV.out).mono ?_); rintro e w4 ⟨D1, d1, D2, d2, rfl, hi1, hi2, h⟩; have HI2 := Lib.hid hi2; have HV := Lib.hid (lt_step _ _ HV.out h); clear h hi1 hi2)
   obtain ⟨g, o, rfl, hg, hc⟩ := HI2.out.at_ 0 (k : Int) rfl
   have q1 := HI2.out.le
   have q2 := HI2.out.mx
   rw [HN.out] at q1
   have hc : w4.cell? ⟨g, o, none⟩ = some (.int .i64 (k : Int)) := hc
   generalize hNt : ts.length = N at *
   have u2 : decide ((k : Int) < 0) = false := decide_eq_false (by omega)
   have u3 : decide ((k : Int) ≥ (N : Int)) = false := decide_eq_false (by omega)
   have u4 : decide ((N : Int) ≤ (k : Int)) = false := decide_eq_false (by omega)
   have u5 : ((n : Int) == 0) = false := by simp; omega
   go_upto_if 61 with (fail)
   go_upto_region 9 with (fail)
   clear u1 u2 u3 u4 u5
   have HC := Lib.hid hc
   go_upto_region 10 with (go_at_call 14; (with_reducible refine (KC1.out _ HV.out).mono ?_); rintro e w5 ⟨b1, o1, c2, rfl, hF2, h⟩; have HF2 := Lib.hid hF2; have HV := Lib.hid (lt_step _ _ HV.out h); have KE1 := Lib.hid (KEN.out _ _ _ HV.out HF2.out); clear h hF2)
   generalize hJ2 : js2.length = J2 at *
   go_upto_region 11 with (go_at_call 15; (with_reducible refine KE1.out.mono ?_); rintro e w6 ⟨B3, c3, rfl, hF3, h⟩; have HV := Lib.hid (lt_step _ _ HV.out h); have KL3 := Lib.hid (KL2.out _ _ _ HV.out hF3); clear h hF3)
   go_wp2_with (go_at_call 18; (with_reducible refine KL3.out.mono ?_); rintro e w7 ⟨rfl, h⟩; have HV := Lib.hid (lt_step _ _ HV.out h); clear h)
   go_ret
   exact ⟨rfl, lt_step _ _ HL.out HV.out⟩
end
end Go.Proofs.YthfkbbiaemmndaaGreatDoor
