/- Texts about the program, one after the other: YStt, DRnd, DHi, YBlk, YMay, DSm, RPure, RNd, RLaw, RSnd, YPure. -/
import Derived.WalkKit
import Derived.ProofKit
import Derived.Handy
import Derived.Lib.Hide
import Derived.Deep.MidRow
import Derived.Deep.QuietTactic
import Derived.BigQuiet
import Derived.Deep.RegionHeld3
import Derived.Laws.Externs
import Derived.RangeFuncBox
import Derived.Deep.CutBlock
import Derived.Deep.LoopGhost
import Derived.WalkMore
import Derived.OrdersIn
import Derived.Stop.RegionWithIn
import Derived.Deep.RegionLaw
import Derived.Laws.OwnMore
import Derived.Deep.CutRange
import Derived.Below
import Derived.LaidMore
import Derived.Laws.AppendOwn
import Derived.Laws.CopyOwn
import Derived.IntWalk
import Derived.OwnWalk
import Derived.BigRegion
import Derived.Deep.DrawnRows
import Derived.Deep.Quiet
import Derived.Deep.RegionHeldLaw
import Derived.LoopIn
import Derived.LoopNIn
import Derived.TacticsInMore
import Derived.OwnWalkIn
import Derived.RangeFuncNested
import Derived.RangeFuncBound
import Derived.RangeFuncCalls
import Derived.RangeFuncLeaves
import Derived.RangeFuncWrites
import Derived.Shelf.Abstract
import Derived.StillTailTactics
import Derived.Lib.SliceRun
import Derived.Deep.AppendSrc
import Derived.Deep.Upon
import Derived.Deep.DeepAppendWide
import Derived.Sort.LoopGhostIn
import Derived.Laws.ShiftsVarLaws
import Derived.Outline
import Derived.Laws.Bits128
import Derived.Deep.RegionWith
import Derived.Shelf.RegionOpen
import Derived.Laws.BytesString
import Derived.RangeFuncRecord
import Derived.MapKept
import Derived.Maps.AppendAt
import Derived.Laws.AppendOwnNone
import Derived.Shelf.Small.Bits
import Derived.Shelf.Small.Strs
import Derived.Shelf.Small.Wraps
import Derived.Shelf.Strconv.Itoa0
import Derived.Shelf.LaysM
import Derived.Shelf.Strconv.Clone
import Derived.Shelf.Strings.Search1
import Derived.Shelf.Bits.Mul64
import Derived.Ground.Names2Prog
import Derived.Shelf.Slices.SearchI
import Derived.ChangeOld
import Derived.OpenShut
import Derived.Test.YthfkbbiaemmndaaGreatDoorRows
import Derived.Test.YthfkbbiaemmndaaGreatDoorProg
import Derived.Deep.RegionHeld
import Derived.Test.YthfkbbiaemmndaaGreatDoorG3
import Derived.Test.YthfkbbiaemmndaaGreatDoorG4
import Derived.Test.YthfkbbiaemmndaaGreatDoorG5
import Derived.Test.YthfkbbiaemmndaaGreatDoorG6
import Derived.Test.YthfkbbiaemmndaaGreatDoorG7
import Derived.Test.YthfkbbiaemmndaaGreatDoorG8
import Derived.Test.YthfkbbiaemmndaaGreatDoorG9
import Derived.Test.YthfkbbiaemmndaaGreatDoorG10
import Derived.Test.YthfkbbiaemmndaaGreatDoorG11
import Derived.Test.YthfkbbiaemmndaaGreatDoorG12
set_option linter.unusedVariables false
set_option linter.unusedSimpArgs false
set_option maxRecDepth 100000
set_option maxHeartbeats 16000000
namespace Go.Proofs.YthfkbbiaemmndaaGreatDoor
section
open Go.RowKit Go.Shelf
attribute [local go_sem] Oper.semAt_some
structure SaB (w : World) (b o cap : Nat) (l : List Ts) (m : Int) (V : World) : Prop where
 f : Boxed V (w.heap.size + 1) 2 (.int .i64 m)
 lx : Boxed V w.heap.size 23 (.slice (some ⟨b, o, none⟩) l.length cap)
 r : Row V (some ⟨b, o, none⟩) cap l
 t : Tab V
 b : Below w.heap.size w V
section
variable {w V V' : World} {b o cap : Nat} {l : List Ts} {m : Int}
theorem SaB.later (h : SaB w b o cap l m V) (hb : Below V.heap.size V V') : SaB w b o cap l m V' := ⟨boxed_later2 h.f hb, boxed_later2 h.lx hb, h.r.later hb, h.t.below hb, h.b.trans (hb.mono h.b.size)⟩
theorem SaB.own {row : Option Nat} {D : Nat} (h : SaB w b o cap l m V) (hg : V.grownBy V' row) (hr : ∀ r, row = some r → D ≤ r ∧ ∃ o : Obj, V.heap[r]? = some o ∧ o.isCells = false) (hB : w.heap.size ≤ D) : SaB w b o cap l m V' :=
 have hk := keepG_grown hg (fun r e => (hr r e).2)
 ⟨boxed_kept h.f hg (fun r e => (hr r e).2), boxed_kept h.lx hg (fun r e => (hr r e).2), h.r.keepG hk (fun _ _ _ _ => trivial), hk.tab h.t (fun _ => trivial), h.b.grown hg h.b.size (fun k e => by have := (hr k e).1; omega)⟩
theorem SaB.set (h : SaB w b o cap l m V) (hb : b < w.heap.size) (ht : 0 < w.heap.size) (u : Int) : SaB w b o cap l u (V.setCell ⟨w.heap.size + 1, 0, none⟩ (.int .i64 u)) :=
 have hk := p1_set h.f (.int .i64 u)
 ⟨Boxed.set _ h.f, Boxed.other h.lx (by omega) _, h.r.keepG hk (fun b' o' e T => .inl (by cases e; omega)), hk.tab h.t (fun T => .inl (by omega)), h.b.setCell (p := ⟨w.heap.size + 1, 0, none⟩) (by show w.heap.size ≤ w.heap.size + 1; omega) _⟩
end
theorem sstart_any (b o cap : Nat) (l : List Ts) (k : Nat) (y : Ts) (w : World) (hR : Row w (some ⟨b, o, none⟩) cap l) (hc : (chkAll l).2 = 0) (hy : l[k]? = some y) (hT : Tab w) :
  Calls Tryz.prog 34 #[.slice (some ⟨b, o, none⟩) l.length cap, .int .i64 (k : Int)] w fun e w' => e = .returned (.int .i64 (startS l (k : Int))) ∧ Below w.heap.size w w' := by
 have hk : k < l.length := (List.getElem?_eq_some_iff.1 hy).1
 have hv := vs_of hc
 have hvl := hv.n1
 have hbl : b < w.heap.size := by
  obtain ⟨b', o', x, e, _, _, h, _⟩ := hR.get hk
  cases e; exact h
 have htab := hT.pos
 have hb1 : Below w.heap.size w ((w.alloc (.cells #[.slice (some ⟨b, o, none⟩) l.length cap] 23)).alloc (.cells #[.int .i64 0] 2)) := ((Below.refl _ _).alloc (Nat.le_refl _) _).alloc (by simp) _
 obtain ⟨W1, hW1, X1, s1⟩ : ∃ W1, (w.alloc (.cells #[.slice (some ⟨b, o, none⟩) l.length cap] 23)).alloc (.cells #[.int .i64 0] 2) = W1 ∧ SaB w b o cap l 0 W1 ∧ W1.heap.size = w.heap.size + 2 :=
  ⟨_, rfl, ⟨by have := Boxed.new (w.alloc (.cells #[.slice (some ⟨b, o, none⟩) l.length cap] 23)) 2 (.int .i64 0); rwa [World.size_alloc] at this, Boxed.alloc (Boxed.new _ _ _) _, hR.later hb1, hT.below hb1, hb1⟩, by simp⟩
 have KL := Lib.hid (thigher_any (some ⟨b, o, none⟩) cap l (k : Int) W1 X1.r ⟨by omega, by omega⟩)
 have KW := Lib.hid (fun W => with_any (higherF l (k : Int)) (k : Int) W (by omega) (by omega))
 have HIN : Hid (∀ j, insMM (higherF l (k : Int)) (k : Int) j = true → j < l.length) := Lib.hid (fun j hj => by
  simp only [insMM, Bool.or_eq_true, decide_eq_true_eq] at hj
  rcases hj with hj | hj
  ·rcases Nat.lt_or_ge j l.length with h | h
   ·exact h
   ·rw [higherF_far h] at hj; cases hj
  ·omega)
 have ALL := Lib.hid (fun W => all_any (insMM (higherF l (k : Int)) (k : Int)) W)
 have HBD := Lib.hid (fun p => jF_bd (ts := l) hv p)
 have HVT := Lib.hid (fun x : Nat => hv.tk (x : Int))
 rw [← start_fold hv hy (by omega)]
 have HW1 := Lib.hid hW1
 clear hR hT hb1 hv hy hvl hW1 hc hk
 generalize insMM (higherF l (k : Int)) (k : Int) = f at *
 refine (callsIn_wide (n := 5)).1 ?_
 refine callsIn_of_wp_marks Tryz.func34 rfl trivial ?_ rfl
 simp only [Tryz.ntmps34, List.size_toArray, List.length_cons, List.length_nil, Nat.reduceAdd, Nat.reduceSub, Array.replicate_succ, Array.replicate_zero, List.push_toArray, List.append_toArray, List.nil_append, List.cons_append]
 refine wpIn_wide.2 ?_
 go_upto_region 2 with (fail)
 rw [HW1.out]
 clear HW1
 have c0 := X1.lx.cell
 go_upto_region 3 with (first
  | (go_at_call 36; (with_reducible refine KL.out.mono ?_); rintro e w2 ⟨rfl, h2⟩)
  | (go_at_call 57; (with_reducible refine (KW.out _).mono ?_); rintro e w3 ⟨rfl, h3⟩)
  | (go_at_call 37; (with_reducible refine (ALL.out _).mono ?_); rintro e w4 ⟨rfl, rfl⟩)
  | fail)
 have h23 := h2.trans (h3.mono h2.size)
 have X2 := X1.later h23
 have s2 := h23.size
 obtain ⟨W3, hW3, X3, B3, s3⟩ : ∃ W3, w3.alloc (.cells (cellsL f).toArray 82) = W3 ∧ SaB w b o cap l 0 W3 ∧ Box W3 w3.heap.size f ∧ W3.heap.size = w3.heap.size + 1 :=
  ⟨_, rfl, X2.later ((Below.refl _ _).alloc (Nat.le_refl _) _), Box.new _ _, by simp⟩
 rw [hW3]
 clear hW3 X1 X2 h2 h3 h23 KL KW ALL c0
 have hws := X3.b.size
 have SQ := Lib.hid (all2_seq (5 - 1) (by omega) f w3.heap.size (P1 (w.heap.size + 1) 2) W3 B3 X3.t (.inr (by decide)) (fun T => .inl (by omega)))
 have HZ := Lib.hid (And.intro hbl htab)
 refine (wpIn_wide (n := 5)).1 ?_
 refine wpIn_named fun fr hfr => ?_
 refine rangeG (vals := numV) (gf := 61) (lb := #[.pointer (some ⟨w3.heap.size, 0, none⟩)]) (by rw [hfr]; rfl) (enters_of Tryz.func61 (by kernel_rfl) rfl)
  SQ.out (Below.refl _ _) (fun x => rfl)
  (fun pre V => SaB w b o cap l (pre.foldl (jF l) 0) V) (fun _ _ _ => False)
  (fun pre X Y row h hg hr => h.own hg hr hws) (fun c s X Y row h _ _ => h) X3
  (fun x a' V => a' = { tmps := (fr.tmps.setIfInBounds 13 (.int .i64 (x : Int))).setIfInBounds 6 (.int .i64 (x : Int)), defers := [] })
  (fun x a' _ X Y row hs hg hr => hs)
  ?assign ?body ?done ?stop
 case assign =>
  intro l2 pre x V K hi hK
  subst hfr
  clear SQ
  gi_wp2
  exact hK _ _ (KeepsFrom.refl _ _) (KeepG.refl _ _) hi rfl
 case body =>
  rintro l2 pre x a' V hi rfl ⟨r, hr⟩
  have hf : f x = true := ((mem_nums f x).1 (by rw [hr]; simp)).2
  have hxl := HIN.out x hf
  obtain ⟨b', o', z, e, hz, _, _, hTz⟩ := hi.r.get hxl
  cases e
  have hok := HVT.out x
  rw [tk_get hz] at hok
  have HFO : Hid ((pre ++ [x]).foldl (jF l) 0 = max (pre.foldl (jF l) 0) z.j) := Lib.hid (by rw [List.foldl_append, List.foldl_cons, List.foldl_nil]; unfold jF; rw [tk_get hz])
  obtain ⟨m0, m1⟩ := HBD.out pre
  generalize pre.foldl (jF l) 0 = m at *
  have j0 := hok.j0
  have j1 := hok.j1
  obtain ⟨mn, hmn⟩ : ∃ mn, max m z.j = mn := ⟨_, rfl⟩
  rw [hmn] at HFO
  have hmn2 : (if m ≤ z.j then z.j else m) = mn := by rw [← hmn]; rfl
  have i0 : (0 : Int) ≤ (x : Int) := by omega
  have i1 : (x : Int) < (l.length : Int) := by omega
  have hle := hi.r.le
  have hmx := hi.r.mx
  have c4 := hTz.c4
  have cl := hi.lx.cell
  have cf := hi.f.cell
  have ff := hi.f.frozen
  have HI := Lib.hid hi
  subst hfr
  clear SQ hr hok hi hf hz hxl hTz
  dsimp only [List.setIfInBounds_toArray, List.set_cons_succ, List.set_cons_zero]
  have FIN : Hid (postG W3.heap.size (P1 (w.heap.size + 1) 2) (fun pre V => SaB w b o cap l (pre.foldl (jF l) 0) V) (fun _ _ _ => False) (pre ++ [x]) V .normal { tmps := #[], defers := [] } (V.setCell ⟨w.heap.size + 1, 0, none⟩ (.int .i64 mn)).drew) := Lib.hid ⟨((KeepsOthers.setCell _ _ _).from _).trans ((KeepsOthers.drew _).from _), (p1_set HI.out.f _).trans (KeepG.below (below_drew _)), by show SaB w b o cap l ((pre ++ [x]).foldl (jF l) 0) _; rw [HFO.out]; exact (HI.out.set HZ.out.1 HZ.out.2 mn).later (below_drew _)⟩
  gi_wp2
  gi_region
  all_goals
   gi_wp2
   exact FIN.out
 case done =>
  rintro D V hD hi hK
  have cb := hi.f.cell
  have HB := Lib.hid hi.b
  obtain ⟨m0, m1⟩ := HBD.out (nums f)
  have e1 : wrap64 (1 + (nums f).foldl (jF l) 0) = 1 + (nums f).foldl (jF l) 0 := IntWalk.wrap64_in _ (by omega)
  subst hfr
  clear SQ hi
  go_wp2
  refine ⟨by simp, .inl ⟨_, _, rfl, run_takeDeferred hK, ?_⟩⟩
  exact ⟨.int .i64 (1 + (nums f).foldl (jF l) 0), by simp [results, Tryz.f34, go_sem], rfl, HB.out.trans (belowK_b (w := w) (Nat.le_refl _) V D _ _ (by omega) hK rfl rfl)⟩
 case stop =>
  rintro D c pre x V hD hr h hK
  exact h.elim
end
section
open Go.RowKit Go.Shelf
theorem op_round {P : Program} {o : Oper} {a : Act} {w : World} {K : Act → World → Prop} {Q : Exit → Act → World → Prop} (l n : Nat) (hd : ∀ c, o.op ≠ .defer c) (h : o.wp P a w K Q) : o.wpIn (Fence.wide.inRound l) n P a w K Q := by
 refine ⟨fun _ _ => trivial, ?_⟩
 rw [Oper.semAt_plain _ _ _ hd]
 unfold Oper.wp at h
 generalize (execOp a.eval o).run P w = r at *
 cases r with
 | ok x w' =>
   cases x with
   | value v => exact h
   | skip => exact h
   | defer d => exact h
   | enter f args => exact ⟨fun h => by simp [Fence.inRound, Fence.wide] at h, CallsIn.inRound l ((callsIn_wide.2 h).mono fun e w'' he => by cases e <;> exact he)⟩
   | row row args => exact ⟨fun h => by simp [Fence.inRound, Fence.wide] at h, fun c cs _ => let ⟨v, w', r, s⟩ := h c cs; ⟨v, w', r, stepsIn_wide.2 s⟩⟩
   | _ => exact h.elim
 | halt x w' => cases x <;> exact h
theorem any_round {P : Program} {md : Region.Mode} {ops : Array Oper} {Q : Exit → Act → World → Prop} (l n : Nat) (hlo : ¬ LetsOut Q) (hd : ∀ (i : Nat) (o : Oper), ops[i]? = some o → ∀ c, o.op ≠ .defer c) :
  ∀ (fuel : Nat) (listed : Array Bool) (a : Act) (w : World), wpAny P md ops Q fuel listed a w → wpAnyIn (Fence.wide.inRound l) n P md ops Q fuel listed a w := by
 intro fuel
 induction fuel with
 | zero => intro listed a w h; exact h
 | succ fuel ih =>
   intro listed a w h
   refine ⟨h.1, fun i hi => ?_⟩
   have h2 := h.2 i hi
   unfold wpOp at h2
   unfold wpOpIn
   cases ho : ops[i]? with
   | none => rw [ho] at h2; exact ih _ _ _ h2
   | some o =>
     rw [ho] at h2
     simp only at h2 ⊢
     split
     ·rename_i hw
      rw [if_pos hw] at h2
      exact Oper.wpIn_mono (fun a w h => ih _ a w h) (op_round l n (hd i o ho) (h2.resolve_right fun h => hlo h.2))
     ·rename_i hw
      rw [if_neg hw] at h2
      exact ⟨fun _ _ => trivial, ih _ _ _ h2⟩
theorem region_round {P : Program} {id : Nat} {Q : Exit → Act → World → Prop} {a : Act} {w : World} {ops : List Oper} {l n : Nat} (hlo : ¬ LetsOut Q) (hd : ops.all (fun o => match o.op with | .defer _ => false | _ => true) = true) (hm : P.follows .mixedOrders = true) (hB : Region.lexB .any ops.toArray = true)
  (h : wpQuiet P ops.toArray (fun w' => ∃ n, w' = w.drewN n) (fun a' => ∀ w', (∃ n, w' = w.drewN n) → Q .normal a' w') ops a) : (Code.region id ops.toArray true).wpIn (Fence.wide.inRound l) n P Q a w := by
 simp only [Region.lexB, Bool.and_eq_true] at hB
 refine wpIn_region_any hm (any_round l n hlo (fun i o ho c e => ?_) _ _ _ _ ?_)
 ·have := List.all_eq_true.1 hd o (List.mem_of_getElem? (by simpa using ho))
  rw [e] at this
  cases this
 ·refine wpAny_of_quiet (C := fun w' => ∃ n, w' = w.drewN n) (Q := fun a' => ∀ w', (∃ n, w' = w.drewN n) → Q .normal a' w') (fun _ w' hw' h => h w' hw') _ _ _ _ ⟨1, rfl⟩ ?_
  have := wpAnyQ_lex (C := fun w' => ∃ n, w' = w.drewN n) (md := .any) hB.1 ops 0 (Array.replicate ops.toArray.size false) a (by simp) (by simpa using hB.2) h
  simpa using this
theorem region_round_any {P : Program} {id : Nat} {Q : Exit → Act → World → Prop} {a : Act} {w : World} {ops : List Oper} {l n : Nat} (hlo : ¬ LetsOut Q) (hd : ops.all (fun o => match o.op with | .defer _ => false | _ => true) = true) (hm : P.follows .mixedOrders = true)
  (h : wpAny P .any ops.toArray Q ops.toArray.size (Array.replicate ops.toArray.size false) a w.drew) : (Code.region id ops.toArray true).wpIn (Fence.wide.inRound l) n P Q a w := by
 refine wpIn_region_any hm (any_round l n hlo (fun i o ho c e => ?_) _ _ _ _ h)
 have := List.all_eq_true.1 hd o (List.mem_of_getElem? (by simpa using ho))
 rw [e] at this
 cases this
theorem region_round_held {S : World → Prop} {P : Program} {id : Nat} {Q : Exit → Act → World → Prop} {a : Act} {w : World} {ops : List Oper} {l n : Nat} (hlo : ¬ LetsOut Q) (hd : ops.all (fun o => match o.op with | .defer _ => false | _ => true) = true) (hm : P.follows .mixedOrders = true)
  (hS : S w.drew) (h : S w.drew → wpAnyH P .any ops.toArray Q S ops.toArray.size (Array.replicate ops.toArray.size false) a w.drew) : (Code.region id ops.toArray true).wpIn (Fence.wide.inRound l) n P Q a w :=
 region_round_any hlo hd hm (wpAny_of_held _ _ _ _ (h hS))
end
section
open Go.RowKit Go.Shelf
attribute [local go_sem] Oper.semAt_some
theorem keepsFrom_later {B : Nat} {W W' : World} (h : Below W.heap.size W W') : KeepsFrom B W W' := ⟨h.size, fun k o _ ho _ => (h.block k (Array.getElem?_eq_some_iff.1 ho).1).trans ho⟩
end
section
open Go.RowKit Go.Shelf
attribute [local go_sem] Oper.semAt_some
structure SkB (w : World) (b o cap : Nat) (l : List Ts) (s : Int × Int) (V : World) : Prop where
 f : Boxed V (w.heap.size + 1) 3 (.int .i64 s.1)
 g : Boxed V (w.heap.size + 2) 2 (.int .i64 s.2)
 lx : Boxed V w.heap.size 23 (.slice (some ⟨b, o, none⟩) l.length cap)
 r : Row V (some ⟨b, o, none⟩) cap l
 t : Tab V
 b : Below w.heap.size w V
def P3 (B : Nat) (k : Nat) (T : TypeId) : Prop := k ≠ B + 1 ∧ k ≠ B + 2
section
variable {w V V' : World} {b o cap : Nat} {l : List Ts} {s : Int × Int}
theorem SkB.later (h : SkB w b o cap l s V) (hb : Below V.heap.size V V') : SkB w b o cap l s V' := ⟨boxed_later2 h.f hb, boxed_later2 h.g hb, boxed_later2 h.lx hb, h.r.later hb, h.t.below hb, h.b.trans (hb.mono h.b.size)⟩
theorem SkB.own {row : Option Nat} {D : Nat} (h : SkB w b o cap l s V) (hg : V.grownBy V' row) (hr : ∀ r, row = some r → D ≤ r ∧ ∃ o : Obj, V.heap[r]? = some o ∧ o.isCells = false) (hB : w.heap.size ≤ D) : SkB w b o cap l s V' :=
 have hk := keepG_grown hg (fun r e => (hr r e).2)
 ⟨boxed_kept h.f hg (fun r e => (hr r e).2), boxed_kept h.g hg (fun r e => (hr r e).2), boxed_kept h.lx hg (fun r e => (hr r e).2), h.r.keepG hk (fun _ _ _ _ => trivial), hk.tab h.t (fun _ => trivial), h.b.grown hg h.b.size (fun k e => by have := (hr k e).1; omega)⟩
theorem p3_set1 (u : Value) : KeepG (P3 w.heap.size) V (V.setCell ⟨w.heap.size + 1, 0, none⟩ u) := KeepG.setCell u fun cs T fr _ h => h.1 rfl
theorem p3_set2 (u : Value) : KeepG (P3 w.heap.size) V (V.setCell ⟨w.heap.size + 2, 0, none⟩ u) := KeepG.setCell u fun cs T fr _ h => h.2 rfl
theorem SkB.set1 (h : SkB w b o cap l s V) (hb : b < w.heap.size) (ht : 0 < w.heap.size) (u : Int) : SkB w b o cap l (u, s.2) (V.setCell ⟨w.heap.size + 1, 0, none⟩ (.int .i64 u)) :=
 have hk := p3_set1 (w := w) (V := V) (.int .i64 u)
 ⟨Boxed.set _ h.f, Boxed.other h.g (by omega) _, Boxed.other h.lx (by omega) _, h.r.keepG hk (fun b' o' e T => by cases e; exact ⟨by omega, by omega⟩), hk.tab h.t (fun T => ⟨by omega, by omega⟩), h.b.setCell (p := ⟨w.heap.size + 1, 0, none⟩) (by show w.heap.size ≤ w.heap.size + 1; omega) _⟩
theorem SkB.set2 (h : SkB w b o cap l s V) (hb : b < w.heap.size) (ht : 0 < w.heap.size) (u : Int) : SkB w b o cap l (s.1, u) (V.setCell ⟨w.heap.size + 2, 0, none⟩ (.int .i64 u)) :=
 have hk := p3_set2 (w := w) (V := V) (.int .i64 u)
 ⟨Boxed.other h.f (by omega) _, Boxed.set _ h.g, Boxed.other h.lx (by omega) _, h.r.keepG hk (fun b' o' e T => by cases e; exact ⟨by omega, by omega⟩), hk.tab h.t (fun T => ⟨by omega, by omega⟩), h.b.setCell (p := ⟨w.heap.size + 2, 0, none⟩) (by show w.heap.size ≤ w.heap.size + 2; omega) _⟩
end
def SkC (bl : Nat) (sl : Value) (b q : Nat) (x : Ts) (W : World) : Prop := W.cell? ⟨bl, 0, none⟩ = some sl ∧ W.cell? ⟨b, q + 5, none⟩ = some (.int .i64 x.q)
theorem sblock_any (b o cap : Nat) (l : List Ts) (k : Nat) (y : Ts) (w : World) (hR : Row w (some ⟨b, o, none⟩) cap l) (hc : (chkAll l).2 = 0) (hy : l[k]? = some y) (hT : Tab w) :
  Calls Tryz.prog 35 #[.slice (some ⟨b, o, none⟩) l.length cap, .int .i64 (k : Int)] w fun e w' => e = .returned (.tuple #[.int .i64 (bkP (blockerS l (k : Int))), .bool (blockerS l (k : Int)).isSome]) ∧ Below w.heap.size w w' := by
 have hk : k < l.length := (List.getElem?_eq_some_iff.1 hy).1
 have hv := vs_of hc
 have hvl := hv.n1
 have hbl : b < w.heap.size := by
  obtain ⟨b', o', x, e, _, _, h, _⟩ := hR.get hk
  cases e; exact h
 have htab := hT.pos
 have hb1 : Below w.heap.size w (((w.alloc (.cells #[.slice (some ⟨b, o, none⟩) l.length cap] 23)).alloc (.cells #[.int .i64 0] 3)).alloc (.cells #[.int .i64 1] 2)) := (((Below.refl _ _).alloc (Nat.le_refl _) _).alloc (by simp) _).alloc (by simp; omega) _
 obtain ⟨W1, hW1, X1, s1⟩ : ∃ W1, ((w.alloc (.cells #[.slice (some ⟨b, o, none⟩) l.length cap] 23)).alloc (.cells #[.int .i64 0] 3)).alloc (.cells #[.int .i64 1] 2) = W1 ∧ SkB w b o cap l (0, 1) W1 ∧ W1.heap.size = w.heap.size + 3 :=
  ⟨_, rfl, ⟨by
   have := Boxed.new (w.alloc (.cells #[.slice (some ⟨b, o, none⟩) l.length cap] 23)) 3 (.int .i64 0)
   rw [World.size_alloc] at this
   exact Boxed.alloc this _, by
   have := Boxed.new ((w.alloc (.cells #[.slice (some ⟨b, o, none⟩) l.length cap] 23)).alloc (.cells #[.int .i64 0] 3)) 2 (.int .i64 1)
   rwa [World.size_alloc, World.size_alloc] at this, Boxed.alloc (Boxed.alloc (Boxed.new _ _ _) _) _, hR.later hb1, hT.below hb1, hb1⟩, by simp⟩
 have KL := Lib.hid (tlower_any (some ⟨b, o, none⟩) cap l (k : Int) W1 X1.r ⟨by omega, by omega⟩)
 have HIN : Hid (∀ j, lowerF l (k : Int) j = true → j < l.length) := Lib.hid (fun j hj => by
  rcases Nat.lt_or_ge j l.length with h | h
  ·exact h
  ·rw [lowerF_far h] at hj; cases hj)
 have ALL := Lib.hid (fun W => all_any (lowerF l (k : Int)) W)
 have HBD := Lib.hid (fun p hp => blF_bd (ts := l) hv p (0, 1) hp (by decide))
 have HVT := Lib.hid (fun x : Nat => hv.tk (x : Int))
 obtain ⟨t1, t2⟩ := bl_told (ts := l) (k := k)
 rw [← bl_fold hy (by omega)] at t1 t2
 rw [← t1, ← t2]
 have HW1 := Lib.hid hW1
 clear hR hT hb1 hv hy hvl hW1 hc hk t1 t2
 generalize lowerF l (k : Int) = f at *
 refine (callsIn_wide (n := 5)).1 ?_
 refine callsIn_of_wp_marks Tryz.func35 rfl trivial ?_ rfl
 simp only [Tryz.ntmps35, List.size_toArray, List.length_cons, List.length_nil, Nat.reduceAdd, Nat.reduceSub, Array.replicate_succ, Array.replicate_zero, List.push_toArray, List.append_toArray, List.nil_append, List.cons_append]
 refine wpIn_wide.2 ?_
 go_upto_region 2 with (fail)
 rw [HW1.out]
 clear HW1
 have c0 := X1.lx.cell
 go_upto_region 3 with (first
  | (go_at_call 58; (with_reducible refine KL.out.mono ?_); rintro e w2 ⟨rfl, h2⟩)
  | (go_at_call 37; (with_reducible refine (ALL.out _).mono ?_); rintro e w4 ⟨rfl, rfl⟩)
  | fail)
 have X2 := X1.later h2
 have s2 := h2.size
 obtain ⟨W3, hW3, X3, B3, s3⟩ : ∃ W3, w2.alloc (.cells (cellsL f).toArray 82) = W3 ∧ SkB w b o cap l (0, 1) W3 ∧ Box W3 w2.heap.size f ∧ W3.heap.size = w2.heap.size + 1 :=
  ⟨_, rfl, X2.later ((Below.refl _ _).alloc (Nat.le_refl _) _), Box.new _ _, by simp⟩
 rw [hW3]
 clear hW3 X1 X2 h2 KL ALL c0
 have hws := X3.b.size
 have SQ := Lib.hid (all2_seq (5 - 1) (by omega) f w2.heap.size (P3 w.heap.size) W3 B3 X3.t ⟨by omega, by omega⟩ (fun T => ⟨by omega, by omega⟩))
 have HZ := Lib.hid (And.intro hbl htab)
 refine (wpIn_wide (n := 5)).1 ?_
 refine wpIn_named fun fr hfr => ?_
 refine rangeG (vals := numV) (gf := 61) (lb := #[.pointer (some ⟨w2.heap.size, 0, none⟩)]) (by rw [hfr]; rfl) (enters_of Tryz.func61 (by kernel_rfl) rfl)
  SQ.out (Below.refl _ _) (fun x => rfl)
  (fun pre V => SkB w b o cap l (pre.foldl (blF l) (0, 1)) V) (fun _ _ _ => False)
  (fun pre X Y row h hg hr => h.own hg hr hws) (fun c s X Y row h _ _ => h) X3
  (fun x a' V => a' = { tmps := (fr.tmps.setIfInBounds 13 (.int .i64 (x : Int))).setIfInBounds 8 (.int .i64 (x : Int)), defers := [] })
  (fun x a' _ X Y row hs hg hr => hs)
  ?assign ?body ?done ?stop
 case assign =>
  intro l2 pre x V K hi hK
  subst hfr
  clear SQ
  gi_wp2
  exact hK _ _ (KeepsFrom.refl _ _) (KeepG.refl _ _) hi rfl
 case body =>
  rintro l2 pre x a' V hi rfl ⟨r, hr⟩
  have hf : f x = true := ((mem_nums f x).1 (by rw [hr]; simp)).2
  have hxl := HIN.out x hf
  obtain ⟨b', o', z, e, hz, _, _, hTz⟩ := hi.r.get hxl
  cases e
  have hok := HVT.out x
  rw [tk_get hz] at hok
  have HFO : Hid ((pre ++ [x]).foldl (blF l) (0, 1) = if (pre.foldl (blF l) (0, 1)).2 < z.q then ((x : Int), z.q) else pre.foldl (blF l) (0, 1)) := Lib.hid (by rw [List.foldl_append, List.foldl_cons, List.foldl_nil]; unfold blF; rw [tk_get hz])
  obtain ⟨m0, m1, m2, m3⟩ := HBD.out pre (fun z hz => ((mem_nums f z).1 (by rw [hr]; simp [hz])).1)
  obtain ⟨⟨s1, s2⟩, hs⟩ : ∃ s, pre.foldl (blF l) (0, 1) = s := ⟨_, rfl⟩
  rw [hs] at HFO m0 m1 m2 m3 hi
  simp only at HFO m0 m1 m2 m3
  have q0 := hok.q0
  have q1 := hok.q1
  have i0 : (0 : Int) ≤ (x : Int) := by omega
  have i1 : (x : Int) < (l.length : Int) := by omega
  have hle := hi.r.le
  have hmx := hi.r.mx
  have c5 := hTz.c5
  have cl := hi.lx.cell
  have cf := hi.f.cell
  have ff := hi.f.frozen
  have cg := hi.g.cell
  have fg := hi.g.frozen
  simp only at cf cg
  have HI := Lib.hid hi
  have HXL := Lib.hid hxl
  have HZX := Lib.hid hz
  subst hfr
  clear SQ hr hok hi hf hz hxl hTz hs
  dsimp only [List.setIfInBounds_toArray, List.set_cons_succ, List.set_cons_zero]
  have hd0 : Below V.heap.size V V.drew := below_drew V
  by_cases hq : s2 < z.q
  ·have u1 : decide (z.q > s2) = true := decide_eq_true hq
   have u2 : decide (s2 < z.q) = true := decide_eq_true hq
   have HFO2 := HFO.out
   rw [if_pos hq] at HFO2
   have FINA : Hid (∀ W, Hid (SkB w b o cap l (s1, s2) W) → Hid (Below V.heap.size V W) → postG W3.heap.size (P3 w.heap.size) (fun pre V => SkB w b o cap l (pre.foldl (blF l) (0, 1)) V) (fun _ _ _ => False) (pre ++ [x]) V .normal { tmps := #[], defers := [] } ((W.setCell ⟨w.heap.size + 1, 0, none⟩ (.int .i64 (x : Int))).setCell ⟨w.heap.size + 2, 0, none⟩ (.int .i64 z.q))) := Lib.hid (fun W hi hb => ⟨((keepsFrom_later hb.out).trans ((KeepsOthers.setCell _ _ _).from _)).trans ((KeepsOthers.setCell _ _ _).from _), ((KeepG.below hb.out).trans (p3_set1 _)).trans (p3_set2 _), by show SkB w b o cap l ((pre ++ [x]).foldl (blF l) (0, 1)) _; rw [HFO2]; exact (hi.out.set1 HZ.out.1 HZ.out.2 (x : Int)).set2 HZ.out.1 HZ.out.2 z.q⟩)
   clear HFO2
   gi_wp2
   refine region_round (by rintro ⟨_, _, h⟩; exact h) (by kernel_rfl) (by kernel_rfl) (by kernel_rfl) ?_
   repeat (first | go_big_quiet_step (fail) | quiet_step (fail))
   refine wpQuiet_nil ?_
   intro _ hw'
   obtain ⟨nq, hw''⟩ := hw'
   subst hw''
   have HI1 := Lib.hid (HI.out.later (below_drewN2 V nq))
   have HB1 := Lib.hid (below_drewN2 V nq)
   generalize V.drewN nq = V1 at *
   gi_wp2
   have HI2 := Lib.hid (HI1.out.later (below_drew V1))
   have HB2 := Lib.hid (HB1.out.trans ((below_drew V1).mono HB1.out.size))
   obtain ⟨b2, o2, z2, e2, hz2, _, _, hTz2⟩ := HI2.out.r.get HXL.out
   cases e2
   obtain rfl : z = z2 := by have := HZX.out; rw [this] at hz2; simpa using hz2
   have HC0 : SkC w.heap.size (.slice (some ⟨b, o, none⟩) l.length cap) b (o + x * 7) z V1.drew := ⟨HI2.out.lx.cell, hTz2.c5⟩
   clear cl c5 cf cg ff fg hz2 hTz2
   refine region_round_held (S := SkC w.heap.size (.slice (some ⟨b, o, none⟩) l.length cap) b (o + x * 7) z) (by rintro ⟨_, _, h⟩; exact h) (by kernel_rfl) (by kernel_rfl) HC0 (fun hHeld => ?_)
   clear HC0
   refine wpAnyH_take (i := 0) (oi := ⟨some 21, _, _, _, _, _⟩) (v := .int .i64 (x : Int)) rfl (by kernel_rfl) (by kernel_rfl) (by kernel_rfl) (fun _ _ _ h => h) (Or.inl ⟨by rfl, ?_⟩) (by assumption) ?_
   ·intro w0 hSw
    obtain ⟨sl0, sc5⟩ := hSw
    go_simp
    (try with_reducible rfl)
   (try simp only [Act.put, List.setIfInBounds_toArray, List.set_cons_zero, List.set_cons_succ])
   refine wpAnyH_take (i := 1) (oi := ⟨some 22, _, _, _, _, _⟩) (v := .slice (some ⟨b, o, none⟩) l.length cap) rfl (by kernel_rfl) (by kernel_rfl) (by kernel_rfl) (fun _ _ _ h => h) (Or.inl ⟨by rfl, ?_⟩) (by assumption) ?_
   ·intro w0 hSw
    obtain ⟨sl0, sc5⟩ := hSw
    go_simp
    (try with_reducible rfl)
   (try simp only [Act.put, List.setIfInBounds_toArray, List.set_cons_zero, List.set_cons_succ])
   refine wpAnyH_take (i := 2) (oi := ⟨some 23, _, _, _, _, _⟩) (v := .int .i64 (x : Int)) rfl (by kernel_rfl) (by kernel_rfl) (by kernel_rfl) (fun _ _ _ h => h) (Or.inl ⟨by rfl, ?_⟩) (by assumption) ?_
   ·intro w0 hSw
    obtain ⟨sl0, sc5⟩ := hSw
    go_simp
    (try with_reducible rfl)
   (try simp only [Act.put, List.setIfInBounds_toArray, List.set_cons_zero, List.set_cons_succ])
   refine wpAnyH_take (i := 3) (oi := ⟨some 24, _, _, _, _, _⟩) (v := .pointer (some ⟨b, o + x * 7, none⟩)) rfl (by kernel_rfl) (by kernel_rfl) (by kernel_rfl) (fun _ _ _ h => h) (Or.inl ⟨by rfl, ?_⟩) (by assumption) ?_
   ·intro w0 hSw
    obtain ⟨sl0, sc5⟩ := hSw
    go_simp
    (try with_reducible rfl)
   (try simp only [Act.put, List.setIfInBounds_toArray, List.set_cons_zero, List.set_cons_succ])
   refine wpAnyH_take (i := 4) (oi := ⟨some 25, _, _, _, _, _⟩) (v := .pointer (some ⟨b, o + x * 7 + 5, none⟩)) rfl (by kernel_rfl) (by kernel_rfl) (by kernel_rfl) (fun _ _ _ h => h) (Or.inl ⟨by rfl, ?_⟩) (by assumption) ?_
   ·intro w0 hSw
    obtain ⟨sl0, sc5⟩ := hSw
    go_simp
    (try with_reducible rfl)
   (try simp only [Act.put, List.setIfInBounds_toArray, List.set_cons_zero, List.set_cons_succ])
   refine wpAnyH_take (i := 5) (oi := ⟨some 26, _, _, _, _, _⟩) (v := .int .i64 z.q) rfl (by kernel_rfl) (by kernel_rfl) (by kernel_rfl) (fun _ _ _ h => h) (Or.inl ⟨by rfl, ?_⟩) (by assumption) ?_
   ·intro w0 hSw
    obtain ⟨sl0, sc5⟩ := hSw
    go_simp
    (try with_reducible rfl)
   (try simp only [Act.put, List.setIfInBounds_toArray, List.set_cons_zero, List.set_cons_succ])
   generalize V1.drew = W0 at *
   refine wpAnyH_ready (rs := [6]) (by kernel_rfl) (by simp) ?_
   refine (AllReadyH.cons (o := ⟨none, _, _, _, _, _⟩) rfl (fun K hK => ?_) AllReadyH.nil)
   have cf := HI2.out.f.cell
   have ff := HI2.out.f.frozen
   go_simp
   have HI3 := Lib.hid (HI2.out.set1 HZ.out.1 HZ.out.2 (x : Int))
   obtain ⟨b3, o3, z3, e3, hz3, _, _, hTz3⟩ := HI3.out.r.get HXL.out
   cases e3
   obtain rfl : z = z3 := by have := HZX.out; rw [this] at hz3; simpa using hz3
   have HC3 : SkC w.heap.size (.slice (some ⟨b, o, none⟩) l.length cap) b (o + x * 7) z (W0.setCell ⟨w.heap.size + 1, 0, none⟩ (.int .i64 (x : Int))) := ⟨HI3.out.lx.cell, hTz3.c5⟩
   refine hK.out _ _ HC3 (fun hHeld => ?_)
   clear hK K HC3 hTz3 hz3 cf ff
   (try simp only [Act.put, List.setIfInBounds_toArray, List.set_cons_zero, List.set_cons_succ])
   obtain ⟨W5, hW5⟩ : ∃ W5, W0.setCell ⟨w.heap.size + 1, 0, none⟩ (.int .i64 (x : Int)) = W5 := ⟨_, rfl⟩
   have HW5 := Lib.hid hW5
   rw [hW5] at HI3 ⊢
   clear hW5
   refine wpAnyH_ready (rs := [7]) (by kernel_rfl) (by simp) ?_
   refine (AllReadyH.cons (o := ⟨none, _, _, _, _, _⟩) rfl (fun K hK => ?_) AllReadyH.nil)
   have cg := HI3.out.g.cell
   have fg := HI3.out.g.frozen
   go_simp
   have HI4 := Lib.hid (HI3.out.set2 HZ.out.1 HZ.out.2 z.q)
   obtain ⟨b4, o4, z4, e4, hz4, _, _, hTz4⟩ := HI4.out.r.get HXL.out
   cases e4
   obtain rfl : z = z4 := by have := HZX.out; rw [this] at hz4; simpa using hz4
   refine hK.out _ _ ⟨HI4.out.lx.cell, hTz4.c5⟩ (fun hHeld => ?_)
   clear hK K hTz4 hz4 cg fg
   (try simp only [Act.put, List.setIfInBounds_toArray, List.set_cons_zero, List.set_cons_succ])
   refine wpAnyH_done (by kernel_rfl) ?_ _
   rw [← HW5.out]
   exact FINA.out _ HI2 HB2
  ·have u1 : decide (z.q > s2) = false := decide_eq_false hq
   have u2 : decide (s2 < z.q) = false := decide_eq_false hq
   have HFO2 := HFO.out
   rw [if_neg hq] at HFO2
   have FIN : Hid (∀ nq, postG W3.heap.size (P3 w.heap.size) (fun pre V => SkB w b o cap l (pre.foldl (blF l) (0, 1)) V) (fun _ _ _ => False) (pre ++ [x]) V .normal { tmps := #[], defers := [] } (V.drewN nq)) := Lib.hid fun nq => ⟨keepsFrom_later (below_drewN2 _ _), KeepG.below (below_drewN2 _ _), by show SkB w b o cap l ((pre ++ [x]).foldl (blF l) (0, 1)) _; rw [HFO2]; exact HI.out.later (below_drewN2 _ _)⟩
   clear HFO2
   gi_wp2
   refine region_round (by rintro ⟨_, _, h⟩; exact h) (by kernel_rfl) (by kernel_rfl) (by kernel_rfl) ?_
   repeat (first | go_big_quiet_step (fail) | quiet_step (fail))
   refine wpQuiet_nil ?_
   intro _ hw'
   obtain ⟨nq, hw''⟩ := hw'
   subst hw''
   gi_wp2
   exact FIN.out nq
 case done =>
  rintro D V hD hi hK
  have cf := hi.f.cell
  have cg := hi.g.cell
  have HB := Lib.hid hi.b
  obtain ⟨m0, m1, m2, m3⟩ := HBD.out (nums f) (fun z hz => ((mem_nums f z).1 hz).1)
  obtain ⟨s, hs⟩ : ∃ s, (nums f).foldl (blF l) (0, 1) = s := ⟨_, rfl⟩
  rw [hs] at cf cg m0 m1 m2 m3
  have u1 : decide (s.2 > 1) = decide (1 < s.2) := rfl
  subst hfr
  clear SQ hi
  go_wp2
  go_quiet (fail)
  go_wp2
  rw [hs]
  have hK2 : (V.drewN nq).heap[D]? = some (.deferred (some [])) := hK
  have HB2 := Lib.hid (HB.out.trans ((below_drewN2 V nq).mono HB.out.size))
  refine ⟨by simp, .inl ⟨_, _, rfl, run_takeDeferred hK2, ?_⟩⟩
  exact ⟨.tuple #[.int .i64 s.1, .bool (decide (1 < s.2))], by simp [results, Tryz.f35, go_sem], rfl, HB2.out.trans (belowK_b (w := w) (Nat.le_refl _) (V.drewN nq) D _ _ (by omega) hK2 rfl rfl)⟩
 case stop =>
  rintro D c pre x V hD hr h hK
  exact h.elim
end
section
open Go.RowKit
theorem smay_any (A : Option Addr) (cap : Nat) (l : List Ts) (i : Int) (w : World) (hR : Row w A cap l) (hi : in64 i) :
  Calls Tryz.prog 32 #[.slice A l.length cap, .int .i64 i] w fun e w' => e = .returned (.bool (isB l i)) ∧ Below w.heap.size w w' := by
 have K := Lib.hid (checkAll_any A cap l w hR)
 have HE : Hid (isB l i = (decide ((chkAll l).2 = 0) && (decide (0 ≤ i) && decide (i < (l.length : Int))))) := Lib.hid rfl
 have hmx := Nat.le_trans hR.le hR.mx
 generalize isB l i = b at *
 generalize (chkAll l).1 = a at *
 generalize (chkAll l).2 = ce at *
 generalize l.length = N at *
 clear hR
 by_cases h1 : i < 0
 ·have u1 : decide (i < 0) = true := decide_eq_true h1
  have hb : b = false := by rw [HE.out, decide_eq_false (show ¬ 0 ≤ i by omega)]; simp
  rw [hb]
  clear hb HE
  go_enter Tryz.func32, Tryz.ntmps32
  go_wp2
  go_ret
  exact ⟨rfl, Below.refl _ _⟩
 ·have u1 : decide (i < 0) = false := decide_eq_false h1
  by_cases h2 : i < (N : Int)
  ·have u2 : decide (i ≥ (N : Int)) = false := decide_eq_false (by omega)
   have u2' : decide ((N : Int) ≤ i) = false := decide_eq_false (by omega)
   have hb : b = (ce == 0) := by rw [HE.out, decide_eq_true (show 0 ≤ i by omega), decide_eq_true h2, Bool.and_true, Bool.and_true]; rfl
   rw [hb]
   clear hb HE
   go_enter Tryz.func32, Tryz.ntmps32
   go_wp2_with (go_at_call 42; (with_reducible refine K.out.mono ?_); rintro e w1 ⟨rfl, h⟩)
   go_ret
   exact ⟨rfl, h⟩
  ·have u2 : decide (i ≥ (N : Int)) = true := decide_eq_true (by omega)
   have u2' : decide ((N : Int) ≤ i) = true := decide_eq_true (by omega)
   have hb : b = false := by rw [HE.out, decide_eq_false h2]; simp
   rw [hb]
   clear hb HE
   go_enter Tryz.func32, Tryz.ntmps32
   go_wp2
   go_ret
   exact ⟨rfl, Below.refl _ _⟩
end
section
open Go.RowKit
structure St (ts : List Ts) : Prop where
 n1 : 1 ≤ ts.length
 n6 : ts.length ≤ 6
 d : Dist ts
 s : SFs ts
 p : ∀ (i : Nat) (x : Ts), ts[i]? = some x → 1 ≤ x.p ∧ x.p ≤ 8
theorem isB_at {l : List Ts} {k : Nat} {y : Ts} (hc : (chkAll l).2 = 0) (hy : l[k]? = some y) : isB l (k : Int) = true := by
 have hk := (List.getElem?_eq_some_iff.1 hy).1
 unfold isB
 rw [decide_eq_true hc, decide_eq_true (show (0 : Int) ≤ (k : Int) by omega), decide_eq_true (show (k : Int) < (l.length : Int) by omega)]
 rfl
theorem block_at {l : List Ts} {k : Nat} {y : Ts} (hc : (chkAll l).2 = 0) (hy : l[k]? = some y) : blockI l (k : Int) = blkU y.p l := by
 unfold blockI
 rw [isB_at hc hy, if_pos rfl, (pOf_get hy).1]
theorem higher_at {l : List Ts} {k : Nat} {y : Ts} (hc : (chkAll l).2 = 0) (hy : l[k]? = some y) (v : Int) : higherI l (k : Int) v = hiU y.p v l := by
 unfold higherI
 rw [isB_at hc hy, if_pos rfl, (pOf_get hy).1]
theorem need_at {l : List Ts} {k : Nat} {y : Ts} (hc : (chkAll l).2 = 0) (hy : l[k]? = some y) (v : Int) : needI l (k : Int) v = satSum 0 [y.c, blkU y.p l, hiU y.p v l] := by
 unfold needI
 rw [isB_at hc hy, if_pos rfl, (pOf_get hy).2, block_at hc hy, higher_at hc hy]
theorem sum_bdD {l : List Ts} {f : Ts → Int} {B : Int} (hf : ∀ x ∈ l, 0 ≤ f x ∧ f x ≤ B) : 0 ≤ (l.map f).sum ∧ (l.map f).sum ≤ (l.length : Int) * B := by
 induction l with
 | nil => simp
 | cons a r ih =>
   have := hf a (by simp)
   have := ih fun x hx => hf x (by simp [hx])
   simp only [List.map_cons, List.sum_cons, List.length_cons, Int.natCast_succ, Int.add_mul, Int.one_mul]
   omega
end
section
structure Rises (N : Int → Int) : Prop where
 mono : ∀ {w w' : Int}, 0 ≤ w → w ≤ w' → N w ≤ N w'
 pos : ∀ {w : Int}, 0 ≤ w → 1 ≤ N w
section
variable {N : Int → Int}
def leastF (N : Int → Int) (M : Nat) : Option Nat := ((List.range M).find? fun w : Nat => decide (N ((w : Int) + 1) ≤ (w : Int) + 1)).map (· + 1)
theorem leastF_some {M w : Nat} (h : leastF N M = some w) : 1 ≤ w ∧ w ≤ M ∧ N w ≤ w ∧ ∀ v : Nat, 1 ≤ v → v < w → (v : Int) < N v := by
 unfold leastF at h
 obtain ⟨u, hu, rfl⟩ := Option.map_eq_some_iff.1 h
 have h1 := List.find?_some hu
 have h2 := List.mem_range.1 (List.mem_of_find?_eq_some hu)
 simp only [decide_eq_true_eq] at h1
 refine ⟨by omega, by omega, by rw [show ((u + 1 : Nat) : Int) = (u : Int) + 1 by omega]; exact h1, fun v hv1 hv2 => ?_⟩
 rw [List.find?_eq_some_iff_getElem] at hu
 obtain ⟨_, k, hk, hke, hlt⟩ := hu
 simp only [List.getElem_range] at hke
 have := hlt (v - 1) (by omega)
 simp only [List.getElem_range, Bool.not_eq_true', decide_eq_false_iff_not] at this
 rw [show ((v - 1 : Nat) : Int) + 1 = (v : Int) by omega] at this
 omega
theorem leastF_none {M : Nat} (h : leastF N M = none) : ∀ v : Nat, 1 ≤ v → v ≤ M → (v : Int) < N v := by
 unfold leastF at h
 rw [Option.map_eq_none_iff, List.find?_eq_none] at h
 intro v h1 h2
 have := h (v - 1) (List.mem_range.2 (by omega))
 simp only [decide_eq_true_eq] at this
 rw [show ((v - 1 : Nat) : Int) + 1 = (v : Int) by omega] at this
 omega
end
end
section
theorem satAdd_mono {a a' b b' : Int} (h1 : a ≤ a') (h2 : b ≤ b') : satAdd a b ≤ satAdd a' b' := by
 unfold satAdd
 split <;> split <;> omega
theorem satAdd_ge {a b : Int} (ha : a ≤ 18446744073709551615) (hb : 0 ≤ b) : a ≤ satAdd a b := by
 unfold satAdd
 split <;> omega
theorem satMul_mono {a a' c : Int} (h : a ≤ a') (hc : 0 ≤ c) : satMul a c ≤ satMul a' c := by
 have hm : a * c ≤ a' * c := Int.mul_le_mul_of_nonneg_right h hc
 unfold satMul endN mulB mulN
 generalize a * c = x at *
 generalize a' * c = y at *
 by_cases h1 : y ≤ 18446744073709551615
 ·rw [decide_eq_true h1, decide_eq_true (show x ≤ 18446744073709551615 by omega), if_pos rfl, if_pos rfl, if_pos h1, if_pos (by omega)]
  exact hm
 ·rw [decide_eq_false h1, if_neg (by decide : ¬ (false = true))]
  by_cases h2 : x ≤ 18446744073709551615
  ·rw [decide_eq_true h2, if_pos rfl, if_pos h2]; exact h2
  ·rw [decide_eq_false h2, if_neg (by decide : ¬ (false = true))]; exact Int.le_refl _
theorem oft_mono {x : Ts} {w w' : Int} (hx : TsOk x) (h0 : 0 ≤ w) (h : w ≤ w') : oftS x w ≤ oftS x w' := by
 have j0 := hx.j0
 unfold oftS
 have h1 := satAdd_u (a := w) (b := x.j) h0 j0
 have h2 := satAdd_u (a := w') (b := x.j) (by omega) j0
 rw [ceil_is h1.1 hx.t0, ceil_is h2.1 hx.t0]
 exact ceilI_mono hx.t0 (satAdd_mono h (Int.le_refl _))
theorem foldl_hi_mono {p w w' : Int} (h0 : 0 ≤ w) (h : w ≤ w') : ∀ (l : List Ts) (s s' : Int), (∀ x ∈ l, TsOk x) → s ≤ s' → l.foldl (hiUF p w) s ≤ l.foldl (hiUF p w') s'
 | [], s, s', _, hs => hs
 | x :: l, s, s', hl, hs => by
   refine foldl_hi_mono h0 h l _ _ (fun y hy => hl y (by simp [hy])) ?_
   unfold hiUF
   split
   ·exact satAdd_mono hs (satMul_mono (oft_mono (hl x (by simp)) h0 h) (by have := (hl x (by simp)).c0; omega))
   ·exact hs
theorem foldl_hi_pos {p w : Int} (hw : 0 ≤ w) : ∀ (l : List Ts) (s : Int), (∀ x ∈ l, TsOk x) → 0 ≤ s → 0 ≤ l.foldl (hiUF p w) s
 | [], s, _, hs => hs
 | x :: l, s, hl, hs => by
   refine foldl_hi_pos hw l _ (fun y hy => hl y (by simp [hy])) ?_
   have hx := hl x (by simp)
   unfold hiUF
   split
   ·refine (satAdd_u hs (satMul_u ?_ (by have := hx.c0; omega)).1).1
    have h1 := satAdd_u (a := w) (b := x.j) hw hx.j0
    unfold oftS
    rw [ceil_is h1.1 hx.t0]
    exact ceilI_nonneg h1.1 hx.t0
   ·exact hs
theorem hiU_mono {p w w' : Int} {l : List Ts} (hv : Vs l) (h0 : 0 ≤ w) (h : w ≤ w') : hiU p w l ≤ hiU p w' l := by
 unfold hiU
 by_cases h1 : w' = 0
 ·rw [if_pos h1, if_pos (by omega)]; exact Int.le_refl _
 ·rw [if_neg h1]
  split
  ·exact foldl_hi_pos (by omega) l 0 hv.all (Int.le_refl _)
  ·exact foldl_hi_mono h0 h l 0 0 hv.all (Int.le_refl _)
theorem hiU_nonneg {p w : Int} {l : List Ts} (hv : Vs l) (h0 : 0 ≤ w) : 0 ≤ hiU p w l := by
 unfold hiU
 split
 ·exact Int.le_refl _
 ·exact foldl_hi_pos h0 l 0 hv.all (Int.le_refl _)
theorem need_rises {l : List Ts} {i : Int} (hb : isB l i = true) : Rises (needI l i) := by
 have hv := isB_vs hb
 obtain ⟨k, y, rfl, hk, hy⟩ := isB_get hb
 have hok := hv.all y (List.mem_of_getElem? hy)
 have hc0 := hok.c0
 have hc1 := hok.c1
 have hbb := blockI_bd l (k : Int)
 have e : ∀ w, needI l (k : Int) w = satAdd (satAdd (satAdd 0 y.c) (blockI l k)) (hiU y.p w l) := fun w => by
  have : needI l (k : Int) w = satSum 0 [y.c, blockI l k, higherI l k w] := by unfold needI; rw [hb, if_pos rfl, (pOf_get hy).2]
  rw [this, show higherI l (k : Int) w = hiU y.p w l by unfold higherI; rw [hb, if_pos rfl, (pOf_get hy).1]]
  rfl
 refine ⟨fun {w w'} h0 h => ?_, fun {w} h0 => ?_⟩
 ·rw [e, e]
  exact satAdd_mono (Int.le_refl _) (hiU_mono hv h0 h)
 ·rw [e]
  have h1 := hiU_nonneg (p := y.p) hv h0
  have h2 : satAdd 0 y.c = y.c := by unfold satAdd; rw [if_pos (by omega)]; omega
  have h3 : satAdd y.c (blockI l k) = y.c + blockI l k := by unfold satAdd; rw [if_pos (by omega)]
  rw [h2, h3]
  have := satAdd_ge (a := y.c + blockI l k) (b := hiU y.p w l) (by omega) h1
  omega
structure TsD (x : Ts) : Prop where
 d0 : 1 ≤ x.d
 d1 : x.d ≤ 2147483647
 cj : x.c + x.j ≤ x.d
 dt : x.d ≤ x.t
 qc : x.q ≤ x.c
theorem tsD_of {x : Ts} (h : checkE x = 0) : TsD x := by
 have hr : rangedB x = true ∧ overB x = false := by
  by_cases h1 : (namedB x && rangedB x) = true
  ·rw [checkE, if_pos h1] at h
   simp only [Bool.and_eq_true] at h1
   refine ⟨h1.2, ?_⟩
   cases ho : overB x
   ·rfl
   ·rw [ho] at h; simp at h
  ·rw [checkE, if_neg h1] at h; omega
 obtain ⟨-, -, ⟨d1, d2⟩, -, -, -⟩ := rangedB_parts hr.1
 have ho := hr.2
 simp only [overB, decide_eq_false_iff_not] at ho
 exact ⟨d1, d2, by omega, by omega, by omega⟩
theorem chk_d {ts : List Ts} (h : (chkAll ts).2 = 0) : ∀ x ∈ ts, TsD x := by
 rw [chkAll] at h
 split at h
 ·cases h
 ·exact fun x hx => tsD_of (chkFrom_ok ts [] h x hx)
def dOf (l : List Ts) (i : Int) : Int := (l.getD i.toNat ⟨ByteArray.empty, 1, 1, 1, 0, 1, 1⟩).d
def jOf (l : List Ts) (i : Int) : Int := (l.getD i.toNat ⟨ByteArray.empty, 1, 1, 1, 0, 1, 1⟩).j
def mOf (l : List Ts) (i : Int) : Nat := (dOf l i - jOf l i).toNat
theorem dOf_get {l : List Ts} {k : Nat} {y : Ts} (h : l[k]? = some y) : dOf l (k : Int) = y.d ∧ jOf l (k : Int) = y.j := by
 unfold dOf jOf
 rw [Int.toNat_natCast, List.getD_eq_getElem?_getD, h]
 exact ⟨rfl, rfl⟩
theorem mOf_get {l : List Ts} {k : Nat} {y : Ts} (hc : (chkAll l).2 = 0) (h : l[k]? = some y) : ((mOf l (k : Int) : Nat) : Int) = y.d - y.j ∧ 1 ≤ mOf l (k : Int) ∧ mOf l (k : Int) ≤ 2147483647 := by
 have hd := chk_d hc y (List.mem_of_getElem? h)
 have hv := (vs_of hc).all y (List.mem_of_getElem? h)
 have := hd.cj; have := hd.d1; have := hv.c0; have := hv.j0
 unfold mOf
 rw [(dOf_get h).1, (dOf_get h).2]
 omega
def bndOf (j : Int) : Option Nat → Int × Int
 | some w => ((w : Int) + j, 0)
 | none => (0, 16)
def boundI (l : List Ts) (i : Int) : Int × Int := if isB l i then bndOf (jOf l i) (leastF (needI l i) (mOf l i)) else (0, 1)
end
section
theorem leastF_fix {N : Int → Int} (h : Rises N) {M w : Nat} (hl : leastF N M = some w) : N w = w := by
 obtain ⟨a1, a2, a3, a4⟩ := leastF_some hl
 by_cases h1 : w = 1
 ·subst h1
  have := h.pos (w := ((1 : Nat) : Int)) (by omega)
  omega
 ·have b1 := a4 (w - 1) (by omega) (by omega)
  have b2 := h.mono (w := ((w - 1 : Nat) : Int)) (w' := (w : Int)) (by omega) (by omega)
  omega
theorem bound_at {l : List Ts} {k : Nat} {y : Ts} (hc : (chkAll l).2 = 0) (hy : l[k]? = some y) : boundI l (k : Int) = bndOf y.j (leastF (needI l (k : Int)) (mOf l (k : Int))) := by
 unfold boundI
 rw [isB_at hc hy, if_pos rfl, (dOf_get hy).2]
theorem least_pure {l : List Ts} {k : Nat} {y : Ts} (hc : (chkAll l).2 = 0) (hy : l[k]? = some y) :
  ((boundI l (k : Int)).2 = 0 ∧ 1 ≤ (boundI l (k : Int)).1 - y.j ∧ (boundI l (k : Int)).1 - y.j ≤ y.d - y.j ∧ needI l (k : Int) ((boundI l (k : Int)).1 - y.j) = (boundI l (k : Int)).1 - y.j ∧ ∀ v : Int, 1 ≤ v → v < (boundI l (k : Int)).1 - y.j → v < needI l (k : Int) v) ∨
  ((boundI l (k : Int)).2 = 16 ∧ (boundI l (k : Int)).1 = 0 ∧ ∀ v : Int, 1 ≤ v → v ≤ y.d - y.j → v < needI l (k : Int) v) := by
 have hr := need_rises (isB_at hc hy)
 have hm := mOf_get hc hy
 rw [bound_at hc hy]
 cases hl : leastF (needI l (k : Int)) (mOf l (k : Int)) with
 | none =>
   right
   refine ⟨rfl, rfl, fun v h1 h2 => ?_⟩
   have := leastF_none hl v.toNat (by omega) (by omega)
   rwa [show ((v.toNat : Nat) : Int) = v by omega] at this
 | some w =>
   left
   obtain ⟨a1, a2, a3, a4⟩ := leastF_some hl
   have hf := leastF_fix hr hl
   have e : (bndOf y.j (some w)).1 - y.j = (w : Int) := by show (w : Int) + y.j - y.j = w; omega
   refine ⟨rfl, by rw [e]; omega, by rw [e]; omega, by rw [e]; exact hf, fun v h1 h2 => ?_⟩
   rw [e] at h2
   have := a4 v.toNat (by omega) (by omega)
   rwa [show ((v.toNat : Nat) : Int) = v by omega] at this
end
section
theorem blk_same {p : Int} : ∀ (l : List Ts) (b : Int), 0 ≤ b → (l.map fun x => if p < x.p then x.q - 1 else 0).foldl max b = l.foldl (blkUF p) b
 | [], b, _ => rfl
 | x :: l, b, hb => by
   rw [List.map_cons, List.foldl_cons, List.foldl_cons]
   have e : max b (if p < x.p then x.q - 1 else 0) = blkUF p b x := by
    unfold blkUF
    by_cases h : p < x.p
    ·rw [if_pos h, if_pos h]
    ·rw [if_neg h, if_neg h]; omega
   rw [e]
   refine blk_same l _ ?_
   rw [← e]
   omega
end
section
theorem chkFrom_dist : ∀ (l pre : List Ts), (chkFrom pre l).2 = 0 → ∀ (i : Nat) (x : Ts), l[i]? = some x → (∀ y ∈ pre, y.p ≠ x.p) ∧ ∀ (j : Nat) (y : Ts), l[j]? = some y → j < i → y.p ≠ x.p
 | [], pre, _, i, x, hx => by simp at hx
 | a :: r, pre, h, i, x, hx => by
   have ha : checkE a = 0 := by
    rw [chkFrom] at h
    by_cases e : checkE a = 0
    ·exact e
    ·rw [if_pos e] at h; exact absurd h e
   rw [chkFrom, if_neg (by omega)] at h
   by_cases hp : (nameIn pre a || prioIn pre a) = true
   ·rw [if_pos hp] at h; cases h
   ·rw [if_neg hp] at h
    have hp2 : prioIn pre a = false := by
     cases hq : prioIn pre a
     ·rfl
     ·rw [hq, Bool.or_true] at hp; exact absurd rfl hp
    have hp3 : ∀ y ∈ pre, y.p ≠ a.p := by
     intro y hy e
     rw [prioIn, List.any_eq_false] at hp2
     exact hp2 y hy (by simpa using e)
    cases i with
    | zero =>
      obtain rfl : a = x := by simpa using hx
      exact ⟨hp3, fun j y _ hj => by omega⟩
    | succ i =>
      obtain ⟨h1, h2⟩ := chkFrom_dist r (pre ++ [a]) h i x (by simpa using hx)
      refine ⟨fun y hy => h1 y (by simp [hy]), fun j y hy hj => ?_⟩
      cases j with
      | zero =>
        obtain rfl : a = y := by simpa using hy
        exact h1 a (by simp)
      | succ j => exact h2 j y (by simpa using hy) (by omega)
theorem chk_len {ts : List Ts} (h : (chkAll ts).2 = 0) : 1 ≤ ts.length ∧ ts.length ≤ 1024 := by
 rw [chkAll] at h
 split at h
 ·cases h
 ·omega
theorem chk_dist {ts : List Ts} (h : (chkAll ts).2 = 0) : Dist ts := by
 have hl := chk_len h
 have h' : (chkFrom [] ts).2 = 0 := by rwa [chkAll, if_neg (by omega)] at h
 intro i j x y hx hy e
 rcases Nat.lt_trichotomy i j with g | g | g
 ·exact absurd e ((chkFrom_dist ts [] h' j y hy).2 i x hx g)
 ·exact g
 ·exact absurd e.symm ((chkFrom_dist ts [] h' i x hx).2 j y hy g)
theorem ceil_mul {a t : Int} (ht : 1 ≤ t) : ceilI a t * t ≤ a + t - 1 := by
 unfold ceilI
 exact Int.ediv_mul_le _ (by omega)
theorem need_gen {ts : List Ts} (hc : (chkAll ts).2 = 0) {k : Nat} {y : Ts} (hy : ts[k]? = some y) {w : Int} (h1 : 1 ≤ w) (hw : w ≤ 2147483647) : needS ts (k : Int) w = needI ts (k : Int) w := by
 have hv := vs_of hc
 have hl := chk_len hc
 have hd := chk_d hc
 have hF : Fits 8589934592 w ts := by
  refine ⟨fun x hx => ?_, fun x hx => ?_, by omega, by omega⟩
  ·have := (hv.all x hx).j1; omega
  ·have v := hv.all x hx
   have d := hd x hx
   have t0 := v.t0; have t1 := v.t1; have j0 := v.j0; have j1 := v.j1; have c0 := v.c0
   have := d.cj; have := d.dt
   have e := ceil_mul (a := w + x.j) t0
   have e0 := ceilI_nonneg (a := w + x.j) (t := x.t) (by omega) t0
   have m : ceilI (w + x.j) x.t * x.c ≤ ceilI (w + x.j) x.t * x.t := Int.mul_le_mul_of_nonneg_left (by omega) e0
   omega
 have hh := hiU_fits (p := y.p) hv h1 hF
 have hb : 0 ≤ blkU y.p ts ∧ blkU y.p ts ≤ 2147483646 := by
  have := blk_take_bd (p := y.p) hv ts.length
  rwa [List.take_of_length_le (Nat.le_refl _)] at this
 have hs : 0 ≤ (ts.map (addH y.p w)).sum ∧ (ts.map (addH y.p w)).sum ≤ (ts.length : Int) * 8589934592 := sum_bdD fun x hx => ⟨addH_nonneg (hv.all x hx) (by omega), by
  have := hF.b x hx
  unfold addH
  split <;> omega⟩
 have v := hv.all y (List.mem_of_getElem? hy)
 have c0 := v.c0; have c1 := v.c1
 rw [need_at hc hy, hh]
 unfold needS hiS blkS
 rw [tk_get hy, blk_same ts 0 (Int.le_refl _), show (ts.map fun x => if x.p < y.p then ceilI (w + x.j) x.t * x.c else 0) = ts.map (addH y.p w) from rfl, show ts.foldl (blkUF y.p) 0 = blkU y.p ts from rfl]
 generalize (ts.map (addH y.p w)).sum = S at *
 generalize blkU y.p ts = B at *
 simp only [satSum, List.foldl_cons, List.foldl_nil]
 rw [satAdd_fit (a := 0) (b := y.c) (by omega), satAdd_fit (a := 0 + y.c) (b := B) (by omega), satAdd_fit (a := 0 + y.c + B) (b := S) (by omega)]
 omega
def plT (ts : List Ts) (i : Int) : Nat := (startS ts i).toNat + ((tk ts i).d - (tk ts i).j).toNat
def plE (ts : List Ts) (i : Int) : Int := kO (tst ts (sceneS ts i) (plT ts i)).en (headS ts i).length
theorem scene_lgs {ts : List Ts} (hc : (chkAll ts).2 = 0) {k : Nat} {y : Ts} (hy : ts[k]? = some y) : Lg (sceneS ts (k : Int)) :=
 (scene_scn hc (chk_dist hc) (by omega) (by have := (List.getElem?_eq_some_iff.1 hy).1; omega)).lg
theorem play_pure {ts : List Ts} (hc : (chkAll ts).2 = 0) {k : Nat} {y : Ts} (hy : ts[k]? = some y) :
  ((boundI ts (k : Int)).2 = 0 ∧ plE ts (k : Int) = startS ts (k : Int) + ((boundI ts (k : Int)).1 - y.j) ∧ 1 ≤ (boundI ts (k : Int)).1 - y.j ∧ (boundI ts (k : Int)).1 ≤ y.d) ∨
  ((boundI ts (k : Int)).2 = 16 ∧ (boundI ts (k : Int)).1 = 0 ∧ plE ts (k : Int) = -1) := by
 have hk : k < ts.length := (List.getElem?_eq_some_iff.1 hy).1
 have hD := chk_dist hc
 have dd := chk_d hc y (List.mem_of_getElem? hy)
 have v := (vs_of hc).all y (List.mem_of_getElem? hy)
 have d1 := dd.d1; have cj := dd.cj; have c0 := v.c0; have j0 := v.j0
 have etk : tk ts (k : Int) = y := tk_get hy
 have s0 := (start_bd (i := (k : Int)) (vs_of hc)).1
 obtain ⟨hm, hml⟩ := scene_m (ts := ts) (i := (k : Int))
 rcases least_pure hc hy with ⟨b0, b1, b2, b3, b4⟩ | ⟨b0, b1, b2⟩
 ·left
  obtain ⟨w, hw⟩ : ∃ w : Nat, (w : Int) = (boundI ts (k : Int)).1 - y.j := ⟨((boundI ts (k : Int)).1 - y.j).toNat, by omega⟩
  rw [← hw] at b1 b2 b3 b4
  have h := scene_ends hc hD (i := (k : Int)) (w0 := w) (by omega) (by omega) (by omega) (by rw [etk]; omega) (fun u u1 u2 => by
   rw [need_gen hc hy (by omega) (by omega)]
   exact b4 u (by omega) (by omega)) (by rw [need_gen hc hy b1 (by omega), b3]; exact Int.le_refl _) (T := plT ts (k : Int)) (by unfold plT; rw [etk]; omega)
  exact ⟨b0, by unfold plE; rw [h.2, hw], by omega, by omega⟩
 ·right
  have h := scene_miss hc hD (i := (k : Int)) (by omega) (by omega) (fun u u1 u2 => by
   rw [etk] at u2
   rw [need_gen hc hy (by omega) (by omega)]
   exact b2 u (by omega) (by omega))
  have hI := (ti_all (ts := ts) (scene_lgs hc hy) (plT ts (k : Int))).en _ hml
  have ek : (jb (sceneS ts (k : Int)) (headS ts (k : Int)).length).k = y.c := by rw [hm, etk]
  rw [etk] at h
  refine ⟨b0, b1, ?_⟩
  rcases hI with hI | hI
  ·exact hI.2
  ·rw [ek] at hI
   unfold plT at hI
   rw [etk] at hI
   omega
end
end Go.Proofs.YthfkbbiaemmndaaGreatDoor
