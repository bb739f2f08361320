/- Texts about the program, one after the other: RStt, RBnd. -/
import Derived.WalkKit
import Derived.ProofKit
import Derived.Handy
import Derived.Lib.Hide
import Derived.Deep.MidRow
import Derived.Deep.QuietTactic
import Derived.BigQuiet
import Derived.Deep.RegionHeld3
import Derived.Laws.Externs
import Derived.RangeFuncBox
import Derived.Deep.CutBlock
import Derived.Deep.LoopGhost
import Derived.WalkMore
import Derived.OrdersIn
import Derived.Stop.RegionWithIn
import Derived.Deep.RegionLaw
import Derived.Laws.OwnMore
import Derived.Deep.CutRange
import Derived.Deep.Quiet
import Derived.Deep.RegionHeld
import Derived.Laws.AppendOwn
import Derived.Below
import Derived.LaidMore
import Derived.Laws.CopyOwn
import Derived.IntWalk
import Derived.OwnWalk
import Derived.BigRegion
import Derived.Deep.DrawnRows
import Derived.Deep.RegionHeldLaw
import Derived.LoopIn
import Derived.LoopNIn
import Derived.TacticsInMore
import Derived.OwnWalkIn
import Derived.RangeFuncNested
import Derived.RangeFuncBound
import Derived.RangeFuncCalls
import Derived.RangeFuncLeaves
import Derived.RangeFuncWrites
import Derived.Shelf.Abstract
import Derived.StillTailTactics
import Derived.Lib.SliceRun
import Derived.Deep.AppendSrc
import Derived.Deep.Upon
import Derived.Deep.DeepAppendWide
import Derived.Sort.LoopGhostIn
import Derived.Laws.ShiftsVarLaws
import Derived.Outline
import Derived.Laws.Bits128
import Derived.Deep.RegionWith
import Derived.Shelf.RegionOpen
import Derived.Laws.BytesString
import Derived.RangeFuncRecord
import Derived.MapKept
import Derived.Maps.AppendAt
import Derived.Laws.AppendOwnNone
import Derived.Laws.Bits64b
import Derived.Shelf.Small.Bits
import Derived.Shelf.Small.Strs
import Derived.Shelf.Small.Wraps
import Derived.Shelf.Strconv.Itoa0
import Derived.Shelf.LaysM
import Derived.Shelf.Strconv.Clone
import Derived.Shelf.Strings.Search1
import Derived.Shelf.Bits.Mul64
import Derived.Ground.Names2Prog
import Derived.Shelf.Slices.SearchI
import Derived.ChangeOld
import Derived.OpenShut
import Derived.Test.YthfkbbiaemmndaaGreatDoorRows
import Derived.Test.YthfkbbiaemmndaaGreatDoorProg
import Derived.Test.YthfkbbiaemmndaaGreatDoorG3
import Derived.Test.YthfkbbiaemmndaaGreatDoorG4
import Derived.Test.YthfkbbiaemmndaaGreatDoorG5
import Derived.Test.YthfkbbiaemmndaaGreatDoorG6
import Derived.Test.YthfkbbiaemmndaaGreatDoorG7
import Derived.Test.YthfkbbiaemmndaaGreatDoorG9
import Derived.Test.YthfkbbiaemmndaaGreatDoorG10
import Derived.Test.YthfkbbiaemmndaaGreatDoorG11
import Derived.Test.YthfkbbiaemmndaaGreatDoorG13
import Derived.Test.YthfkbbiaemmndaaGreatDoorG29
import Derived.Test.YthfkbbiaemmndaaGreatDoorG31
import Derived.Test.YthfkbbiaemmndaaGreatDoorG32
import Derived.Test.YthfkbbiaemmndaaGreatDoorG33
set_option linter.unusedVariables false
set_option linter.unusedSimpArgs false
set_option maxRecDepth 100000
set_option maxHeartbeats 16000000
namespace Go.Proofs.YthfkbbiaemmndaaGreatDoor
section
open Go.RowKit Go.Shelf
attribute [local go_sem] Oper.semAt_some
structure StB (w : World) (b o cap : Nat) (l : List Ts) (m : Int) (V : World) : Prop where
 f : Boxed V (w.heap.size + 1) 80 (.int .u64 m)
 lx : Boxed V w.heap.size 23 (.slice (some ⟨b, o, none⟩) l.length cap)
 r : Row V (some ⟨b, o, none⟩) cap l
 t : Tab V
 b : Below w.heap.size w V
section
variable {w V V' : World} {b o cap : Nat} {l : List Ts} {m : Int}
theorem StB.later (h : StB w b o cap l m V) (hb : Below V.heap.size V V') : StB w b o cap l m V' := ⟨boxed_later2 h.f hb, boxed_later2 h.lx hb, h.r.later hb, h.t.below hb, h.b.trans (hb.mono h.b.size)⟩
theorem StB.own {row : Option Nat} {D : Nat} (h : StB w b o cap l m V) (hg : V.grownBy V' row) (hr : ∀ r, row = some r → D ≤ r ∧ ∃ o : Obj, V.heap[r]? = some o ∧ o.isCells = false) (hB : w.heap.size ≤ D) : StB w b o cap l m V' :=
 have hk := keepG_grown hg (fun r e => (hr r e).2)
 ⟨boxed_kept h.f hg (fun r e => (hr r e).2), boxed_kept h.lx hg (fun r e => (hr r e).2), h.r.keepG hk (fun _ _ _ _ => trivial), hk.tab h.t (fun _ => trivial), h.b.grown hg h.b.size (fun k e => by have := (hr k e).1; omega)⟩
theorem StB.set (h : StB w b o cap l m V) (hb : b < w.heap.size) (ht : 0 < w.heap.size) (u : Int) : StB w b o cap l u (V.setCell ⟨w.heap.size + 1, 0, none⟩ (.int .u64 u)) :=
 have hk := p1_set h.f (.int .u64 u)
 ⟨Boxed.set _ h.f, Boxed.other h.lx (by omega) _, h.r.keepG hk (fun b' o' e T => .inl (by cases e; omega)), hk.tab h.t (fun T => .inl (by omega)), h.b.setCell (p := ⟨w.heap.size + 1, 0, none⟩) (by show w.heap.size ≤ w.heap.size + 1; omega) _⟩
end
def StC (bl : Nat) (sl : Value) (b q : Nat) (x : Ts) (W : World) : Prop := W.cell? ⟨bl, 0, none⟩ = some sl ∧ W.cell? ⟨b, q + 1, none⟩ = some (.int .i64 x.c) ∧ W.cell? ⟨b, q + 2, none⟩ = some (.int .i64 x.t)
theorem StC.of {w V : World} {b o cap k : Nat} {l : List Ts} {m : Int} {x : Ts} (h : StB w b o cap l m V) (hx : l[k]? = some x) : StC w.heap.size (.slice (some ⟨b, o, none⟩) l.length cap) b (o + k * 7) x V := by
 obtain ⟨b', o', x', e, hx', _, _, hT⟩ := h.r.get (List.getElem?_eq_some_iff.1 hx).1
 cases e
 obtain rfl : x = x' := by rw [hx] at hx'; simpa using hx'
 exact ⟨h.lx.cell, hT.c1, hT.c2⟩
theorem start_any (b o cap : Nat) (l : List Ts) (k : Nat) (y : Ts) (w : World) (hR : Row w (some ⟨b, o, none⟩) cap l) (hc : (chkAll l).2 = 0) (hy : l[k]? = some y) (hT : Tab w) :
  Calls Tryz.prog 55 #[.slice (some ⟨b, o, none⟩) l.length cap, .int .i64 (k : Int)] w fun e w' => e = .returned (.int .u64 (startI l k y)) ∧ Below w.heap.size w w' := by
 have hk : k < l.length := (List.getElem?_eq_some_iff.1 hy).1
 have hv := vs_of hc
 have hvl := hv.n1
 have hbl : b < w.heap.size := by
  obtain ⟨b', o', x, e, _, _, h, _⟩ := hR.get hk
  cases e; exact h
 have htab := hT.pos
 have hb1 : Below w.heap.size w ((w.alloc (.cells #[.slice (some ⟨b, o, none⟩) l.length cap] 23)).alloc (.cells #[.int .u64 9223372036854775808] 80)) := ((Below.refl _ _).alloc (Nat.le_refl _) _).alloc (by simp) _
 obtain ⟨W1, hW1, X1, s1⟩ : ∃ W1, (w.alloc (.cells #[.slice (some ⟨b, o, none⟩) l.length cap] 23)).alloc (.cells #[.int .u64 9223372036854775808] 80) = W1 ∧ StB w b o cap l 9223372036854775808 W1 ∧ W1.heap.size = w.heap.size + 2 :=
  ⟨_, rfl, ⟨by have := Boxed.new (w.alloc (.cells #[.slice (some ⟨b, o, none⟩) l.length cap] 23)) 80 (.int .u64 9223372036854775808); rwa [World.size_alloc] at this, Boxed.alloc (Boxed.new _ _ _) _, hR.later hb1, hT.below hb1, hb1⟩, by simp⟩
 have KL := Lib.hid (thigher_any (some ⟨b, o, none⟩) cap l (k : Int) W1 X1.r ⟨by omega, by omega⟩)
 have ALL := Lib.hid (fun W => all_any (higherF l (k : Int)) W)
 have HIN : Hid (∀ j, higherF l (k : Int) j = true → j < l.length) := Lib.hid (fun j hj => by
  rcases Nat.lt_or_ge j l.length with h | h
  ·exact h
  ·rw [higherF_far h] at hj; cases hj)
 have HLT := Lib.hid (higher_tks hv hy)
 have HOKA : Hid (∀ (x : Ts), x ∈ l → TsOk x) := Lib.hid (fun x hx => hv.all x hx)
 have KN := Lib.hid (fun V hR hT => need_any (some ⟨b, o, none⟩) cap l (k : Int) 0 V hR ⟨by omega, by omega⟩ ⟨by decide, by decide⟩ hT)
 have hnu := need_U hc hy (v := 0) ⟨by decide, by decide⟩
 have hfb := freeI_bd hc y.p
 have KP := Lib.hid (fun W => part_any (needI l (k : Int) 0) (freeI y.p l) W hnu ⟨hfb.1, by omega⟩)
 have HFR := Lib.hid (show (l.filter (fun x => decide (x.p < y.p))).foldl frF 9223372036854775808 = freeI y.p l from rfl)
 show Calls Tryz.prog 55 #[.slice (some ⟨b, o, none⟩) l.length cap, .int .i64 (k : Int)] w fun e w' => e = .returned (.int .u64 (partI (needI l (k : Int) 0) (freeI y.p l))) ∧ Below w.heap.size w w'
 generalize partI (needI l (k : Int) 0) (freeI y.p l) = st at *
 generalize needI l (k : Int) 0 = n0 at *
 have HW1 := Lib.hid hW1
 have HK := Lib.hid hk
 clear hR hT hb1 hv hy hvl hW1 hc hnu hfb
 generalize higherF l (k : Int) = f at *
 refine (callsIn_wide (n := 5)).1 ?_
 refine callsIn_of_wp_marks Tryz.func55 rfl trivial ?_ rfl
 simp only [Tryz.ntmps55, List.size_toArray, List.length_cons, List.length_nil, Nat.reduceAdd, Nat.reduceSub, Array.replicate_succ, Array.replicate_zero, List.push_toArray, List.append_toArray, List.nil_append, List.cons_append]
 refine wpIn_wide.2 ?_
 go_upto_region 2 with (fail)
 rw [HW1.out]
 clear HW1
 have c0 := X1.lx.cell
 go_upto_region 3 with (first
  | (go_at_call 36; (with_reducible refine KL.out.mono ?_); rintro e w2 ⟨rfl, h2⟩)
  | (go_at_call 37; (with_reducible refine (ALL.out _).mono ?_); rintro e w3 ⟨rfl, rfl⟩)
  | fail)
 have X2 := X1.later h2
 have s2 := h2.size
 obtain ⟨W3, hW3, X3, B3, s3⟩ : ∃ W3, w2.alloc (.cells (cellsL f).toArray 82) = W3 ∧ StB w b o cap l 9223372036854775808 W3 ∧ Box W3 w2.heap.size f ∧ W3.heap.size = w2.heap.size + 1 :=
  ⟨_, rfl, X2.later ((Below.refl _ _).alloc (Nat.le_refl _) _), Box.new _ _, by simp⟩
 rw [hW3]
 clear hW3 X1 X2 h2 KL ALL c0
 have hws := X3.b.size
 have SQ := Lib.hid (all2_seq (5 - 1) (by omega) f w2.heap.size (P1 (w.heap.size + 1) 80) W3 B3 X3.t (.inr (by decide)) (fun T => .inl (by omega)))
 have HZ := Lib.hid (And.intro hbl htab)
 refine (wpIn_wide (n := 5)).1 ?_
 refine wpIn_named fun fr hfr => ?_
 refine rangeG (vals := numV) (gf := 61) (lb := #[.pointer (some ⟨w2.heap.size, 0, none⟩)]) (by rw [hfr]; rfl) (enters_of Tryz.func61 (by kernel_rfl) rfl)
  SQ.out (Below.refl _ _) (fun x => rfl)
  (fun pre V => StB w b o cap l ((pre.filterMap (fun k => l[k]?)).foldl frF 9223372036854775808) V) (fun _ _ _ => False)
  (fun pre X Y row h hg hr => h.own hg hr hws) (fun c s X Y row h _ _ => h) X3
  (fun x a' V => a' = { tmps := (fr.tmps.setIfInBounds 11 (.int .i64 (x : Int))).setIfInBounds 6 (.int .i64 (x : Int)), defers := [] })
  (fun x a' _ X Y row hs hg hr => hs)
  ?assign ?body ?done ?stop
 case assign =>
  intro l2 pre x V K hi hK
  subst hfr
  clear SQ
  gi_wp2
  exact hK _ _ (KeepsFrom.refl _ _) (KeepG.refl _ _) hi rfl
 case body =>
  rintro l2 pre x a' V hi rfl ⟨r, hr⟩
  have hf : f x = true := ((mem_nums f x).1 (by rw [hr]; simp)).2
  have hxl := HIN.out x hf
  obtain ⟨z, hz⟩ : ∃ z, l[x]? = some z := ⟨l[x], List.getElem?_eq_getElem hxl⟩
  have hok := HOKA.out z (List.mem_of_getElem? hz)
  have hbd := free_bd (pre.filterMap (fun k => l[k]?)) 9223372036854775808 (fun x hx => by
   obtain ⟨j, _, hj⟩ := List.mem_filterMap.1 hx
   exact HOKA.out x (List.mem_of_getElem? hj)) (by decide) (by decide)
  have HFO : Hid (((pre ++ [x]).filterMap (fun k => l[k]?)).foldl frF 9223372036854775808 = frF ((pre.filterMap (fun k => l[k]?)).foldl frF 9223372036854775808) z) := Lib.hid (by
   rw [List.filterMap_append, List.foldl_append, List.filterMap_cons, hz]; rfl)
  generalize (pre.filterMap (fun k => l[k]?)).foldl frF 9223372036854775808 = m at *
  obtain ⟨q0, q1⟩ : 1 ≤ z.c ∧ z.c ≤ 2147483647 := ⟨hok.c0, hok.c1⟩
  obtain ⟨r0, r1⟩ : 1 ≤ z.t ∧ z.t ≤ 2147483647 := ⟨hok.t0, hok.t1⟩
  have e1 : IntKind.u64.wrap z.c = z.c := by rw [IntKind.wrap_u64]; omega
  have e2 : IntKind.u64.wrap z.t = z.t := by rw [IntKind.wrap_u64]; omega
  have KPX := Lib.hid (fun W => part_any z.c z.t W ⟨by omega, by omega⟩ ⟨by omega, by omega⟩)
  have hpu := (part_bd (a := z.c) (b := z.t) ⟨by omega, by omega⟩ ⟨by omega, by omega⟩).1
  have hfd : frF m z = m - min m (partI z.c z.t) := rfl
  generalize partI z.c z.t = pp at *
  obtain ⟨mn, hmn⟩ : ∃ mn, min m pp = mn := ⟨_, rfl⟩
  rw [hmn] at hfd
  have hmn2 : (if m ≤ pp then m else pp) = mn := by rw [← hmn]; rfl
  obtain ⟨m', hm'⟩ : ∃ m', m - mn = m' := ⟨_, rfl⟩
  have e3 : IntKind.u64.wrap (m - mn) = m' := by have := hbd.1; have := hbd.2; have := hpu.1; rw [IntKind.wrap_u64]; omega
  rw [hfd, hm'] at HFO
  have HI0 := Lib.hid (hi.later (below_drew V))
  have HZX := Lib.hid hz
  have i0 : (0 : Int) ≤ (x : Int) := by omega
  have i1 : (x : Int) < (l.length : Int) := by omega
  have hle := hi.r.le
  have hmx := hi.r.mx
  have FIN : Hid (∀ (W : World), Hid (StB w b o cap l m W) → Hid (Below V.heap.size V W) → KeepsFrom W3.heap.size V (W.setCell ⟨w.heap.size + 1, 0, none⟩ (.int .u64 m')) ∧ KeepG (P1 (w.heap.size + 1) 80) V (W.setCell ⟨w.heap.size + 1, 0, none⟩ (.int .u64 m')) ∧ StB w b o cap l (((pre ++ [x]).filterMap (fun k => l[k]?)).foldl frF 9223372036854775808) (W.setCell ⟨w.heap.size + 1, 0, none⟩ (.int .u64 m'))) := Lib.hid (fun W hi hb => by
   refine ⟨(keepsFrom_later hb.out).trans ((KeepsOthers.setCell _ _ _).from _), (KeepG.below hb.out).trans (p1_set hi.out.f _), ?_⟩
   rw [HFO.out]
   exact hi.out.set HZ.out.1 HZ.out.2 _)
  subst hfr
  clear SQ hr hok hi hf hz hbd hpu hfd hxl hm'
  dsimp only [List.setIfInBounds_toArray, List.set_cons_succ, List.set_cons_zero]
  gi_wp2
  have HC0 := StC.of HI0.out HZX.out
  refine region_round_held (S := StC w.heap.size (.slice (some ⟨b, o, none⟩) l.length cap) b (o + x * 7) z) (by rintro ⟨_, _, h⟩; exact h) (by kernel_rfl) (by kernel_rfl) HC0 (fun hHeld => ?_)
  clear HC0
  refine wpAnyH_take (i := 2) (oi := ⟨some 14, _, _, _, _, _⟩) (v := .slice (some ⟨b, o, none⟩) l.length cap) rfl (by kernel_rfl) (by kernel_rfl) (by kernel_rfl) (fun _ _ _ h => h) (Or.inl ⟨by rfl, ?_⟩) (by assumption) ?_
  ·intro w0 hSw
   obtain ⟨sl0, sc1, sc2⟩ := hSw
   go_simp
   (try with_reducible rfl)
  (try simp only [Act.put, List.setIfInBounds_toArray, List.set_cons_zero, List.set_cons_succ])
  refine wpAnyH_take (i := 3) (oi := ⟨some 15, _, _, _, _, _⟩) (v := .int .i64 (x : Int)) rfl (by kernel_rfl) (by kernel_rfl) (by kernel_rfl) (fun _ _ _ h => h) (Or.inl ⟨by rfl, ?_⟩) (by assumption) ?_
  ·intro w0 hSw
   obtain ⟨sl0, sc1, sc2⟩ := hSw
   go_simp
   (try with_reducible rfl)
  (try simp only [Act.put, List.setIfInBounds_toArray, List.set_cons_zero, List.set_cons_succ])
  refine wpAnyH_take (i := 4) (oi := ⟨some 16, _, _, _, _, _⟩) (v := .pointer (some ⟨b, o + x * 7, none⟩)) rfl (by kernel_rfl) (by kernel_rfl) (by kernel_rfl) (fun _ _ _ h => h) (Or.inl ⟨by rfl, ?_⟩) (by assumption) ?_
  ·intro w0 hSw
   obtain ⟨sl0, sc1, sc2⟩ := hSw
   go_simp
   (try with_reducible rfl)
  (try simp only [Act.put, List.setIfInBounds_toArray, List.set_cons_zero, List.set_cons_succ])
  refine wpAnyH_take (i := 5) (oi := ⟨some 17, _, _, _, _, _⟩) (v := .pointer (some ⟨b, o + x * 7 + 1, none⟩)) rfl (by kernel_rfl) (by kernel_rfl) (by kernel_rfl) (fun _ _ _ h => h) (Or.inl ⟨by rfl, ?_⟩) (by assumption) ?_
  ·intro w0 hSw
   obtain ⟨sl0, sc1, sc2⟩ := hSw
   go_simp
   (try with_reducible rfl)
  (try simp only [Act.put, List.setIfInBounds_toArray, List.set_cons_zero, List.set_cons_succ])
  refine wpAnyH_take (i := 6) (oi := ⟨some 18, _, _, _, _, _⟩) (v := .int .i64 z.c) rfl (by kernel_rfl) (by kernel_rfl) (by kernel_rfl) (fun _ _ _ h => h) (Or.inl ⟨by rfl, ?_⟩) (by assumption) ?_
  ·intro w0 hSw
   obtain ⟨sl0, sc1, sc2⟩ := hSw
   go_simp
   (try with_reducible rfl)
  (try simp only [Act.put, List.setIfInBounds_toArray, List.set_cons_zero, List.set_cons_succ])
  refine wpAnyH_take (i := 7) (oi := ⟨some 19, _, _, _, _, _⟩) (v := .int .u64 z.c) rfl (by kernel_rfl) (by kernel_rfl) (by kernel_rfl) (fun _ _ _ h => h) (Or.inl ⟨by rfl, ?_⟩) (by assumption) ?_
  ·intro w0 hSw
   obtain ⟨sl0, sc1, sc2⟩ := hSw
   go_simp
   (try with_reducible rfl)
  (try simp only [Act.put, List.setIfInBounds_toArray, List.set_cons_zero, List.set_cons_succ])
  refine wpAnyH_take (i := 8) (oi := ⟨some 20, _, _, _, _, _⟩) (v := .slice (some ⟨b, o, none⟩) l.length cap) rfl (by kernel_rfl) (by kernel_rfl) (by kernel_rfl) (fun _ _ _ h => h) (Or.inl ⟨by rfl, ?_⟩) (by assumption) ?_
  ·intro w0 hSw
   obtain ⟨sl0, sc1, sc2⟩ := hSw
   go_simp
   (try with_reducible rfl)
  (try simp only [Act.put, List.setIfInBounds_toArray, List.set_cons_zero, List.set_cons_succ])
  refine wpAnyH_take (i := 9) (oi := ⟨some 21, _, _, _, _, _⟩) (v := .int .i64 (x : Int)) rfl (by kernel_rfl) (by kernel_rfl) (by kernel_rfl) (fun _ _ _ h => h) (Or.inl ⟨by rfl, ?_⟩) (by assumption) ?_
  ·intro w0 hSw
   obtain ⟨sl0, sc1, sc2⟩ := hSw
   go_simp
   (try with_reducible rfl)
  (try simp only [Act.put, List.setIfInBounds_toArray, List.set_cons_zero, List.set_cons_succ])
  refine wpAnyH_take (i := 10) (oi := ⟨some 22, _, _, _, _, _⟩) (v := .pointer (some ⟨b, o + x * 7, none⟩)) rfl (by kernel_rfl) (by kernel_rfl) (by kernel_rfl) (fun _ _ _ h => h) (Or.inl ⟨by rfl, ?_⟩) (by assumption) ?_
  ·intro w0 hSw
   obtain ⟨sl0, sc1, sc2⟩ := hSw
   go_simp
   (try with_reducible rfl)
  (try simp only [Act.put, List.setIfInBounds_toArray, List.set_cons_zero, List.set_cons_succ])
  refine wpAnyH_take (i := 11) (oi := ⟨some 23, _, _, _, _, _⟩) (v := .pointer (some ⟨b, o + x * 7 + 2, none⟩)) rfl (by kernel_rfl) (by kernel_rfl) (by kernel_rfl) (fun _ _ _ h => h) (Or.inl ⟨by rfl, ?_⟩) (by assumption) ?_
  ·intro w0 hSw
   obtain ⟨sl0, sc1, sc2⟩ := hSw
   go_simp
   (try with_reducible rfl)
  (try simp only [Act.put, List.setIfInBounds_toArray, List.set_cons_zero, List.set_cons_succ])
  refine wpAnyH_take (i := 12) (oi := ⟨some 24, _, _, _, _, _⟩) (v := .int .i64 z.t) rfl (by kernel_rfl) (by kernel_rfl) (by kernel_rfl) (fun _ _ _ h => h) (Or.inl ⟨by rfl, ?_⟩) (by assumption) ?_
  ·intro w0 hSw
   obtain ⟨sl0, sc1, sc2⟩ := hSw
   go_simp
   (try with_reducible rfl)
  (try simp only [Act.put, List.setIfInBounds_toArray, List.set_cons_zero, List.set_cons_succ])
  refine wpAnyH_take (i := 13) (oi := ⟨some 25, _, _, _, _, _⟩) (v := .int .u64 z.t) rfl (by kernel_rfl) (by kernel_rfl) (by kernel_rfl) (fun _ _ _ h => h) (Or.inl ⟨by rfl, ?_⟩) (by assumption) ?_
  ·intro w0 hSw
   obtain ⟨sl0, sc1, sc2⟩ := hSw
   go_simp
   (try with_reducible rfl)
  (try simp only [Act.put, List.setIfInBounds_toArray, List.set_cons_zero, List.set_cons_succ])
  have HI := HI0
  have HB := Lib.hid (below_drew V)
  refine wpAnyH_ready (rs := [0, 1, 14]) (by kernel_rfl) (by simp) ?_
  refine (AllReadyH.cons (o := ⟨some 12, _, _, _, _, _⟩) rfl (fun K hK => ?_) (AllReadyH.cons (o := ⟨some 13, _, _, _, _, _⟩) rfl (fun K hK => ?_) (AllReadyH.cons (o := ⟨some 26, _, _, _, _, _⟩) rfl (fun K hK => ?_) AllReadyH.nil)))
  ·have HI := HI
   have sc := HI.out.f.cell
   go_simp
   refine hK.out _ _ (by assumption) (fun hHeld => ?_)
   clear hK K
   (try simp only [Act.put, List.setIfInBounds_toArray, List.set_cons_zero, List.set_cons_succ])
   refine wpAnyH_ready (rs := [1, 14]) (by kernel_rfl) (by simp) ?_
   refine (AllReadyH.cons (o := ⟨some 13, _, _, _, _, _⟩) rfl (fun K hK => ?_) (AllReadyH.cons (o := ⟨some 26, _, _, _, _, _⟩) rfl (fun K hK => ?_) AllReadyH.nil))
   ·have HI := HI
    have sc := HI.out.f.cell
    go_simp
    refine hK.out _ _ (by assumption) (fun hHeld => ?_)
    clear hK K
    (try simp only [Act.put, List.setIfInBounds_toArray, List.set_cons_zero, List.set_cons_succ])
    refine wpAnyH_ready (rs := [14]) (by kernel_rfl) (by simp) ?_
    refine (AllReadyH.cons (o := ⟨some 26, _, _, _, _, _⟩) rfl (fun K hK => ?_) AllReadyH.nil)
    go_simp
    go_at_call 89
    refine (KPX.out _).mono ?_
    rintro e w5 ⟨rfl, h5⟩
    have HI := Lib.hid (HI.out.later h5)
    have HB := Lib.hid (Below.trans (below_drew V) h5)
    clear h5
    refine hK.out _ _ (StC.of HI.out HZX.out) (fun hHeld => ?_)
    clear hK K
    (try simp only [Act.put, List.setIfInBounds_toArray, List.set_cons_zero, List.set_cons_succ])
    refine wpAnyH_ready (rs := [15]) (by kernel_rfl) (by simp) ?_
    refine (AllReadyH.cons (o := ⟨some 27, _, _, _, _, _⟩) rfl (fun K hK => ?_) AllReadyH.nil)
    go_simp
    refine hK.out _ _ (by assumption) (fun hHeld => ?_)
    clear hK K
    (try simp only [Act.put, List.setIfInBounds_toArray, List.set_cons_zero, List.set_cons_succ])
    refine wpAnyH_ready (rs := [16]) (by kernel_rfl) (by simp) ?_
    refine (AllReadyH.cons (o := ⟨some 28, _, _, _, _, _⟩) rfl (fun K hK => ?_) AllReadyH.nil)
    go_simp
    refine hK.out _ _ (by assumption) (fun hHeld => ?_)
    clear hK K
    (try simp only [Act.put, List.setIfInBounds_toArray, List.set_cons_zero, List.set_cons_succ])
    refine wpAnyH_ready (rs := [17]) (by kernel_rfl) (by simp) ?_
    refine (AllReadyH.cons (o := ⟨none, _, _, _, _, _⟩) rfl (fun K hK => ?_) AllReadyH.nil)
    have sf := HI.out.f.frozen
    have sc := HI.out.f.cell
    go_simp
    refine hK.out _ _ (StC.of (HI.out.set HZ.out.1 HZ.out.2 m') HZX.out) (fun hHeld => ?_)
    clear hK K
    (try simp only [Act.put, List.setIfInBounds_toArray, List.set_cons_zero, List.set_cons_succ])
    refine wpAnyH_done (by kernel_rfl) ?_ _
    exact FIN.out _ HI HB
   ·have HI := HI
    go_simp
    go_at_call 89
    refine (KPX.out _).mono ?_
    rintro e w5 ⟨rfl, h5⟩
    have HI := Lib.hid (HI.out.later h5)
    have HB := Lib.hid (Below.trans (below_drew V) h5)
    clear h5
    refine hK.out _ _ (StC.of HI.out HZX.out) (fun hHeld => ?_)
    clear hK K
    (try simp only [Act.put, List.setIfInBounds_toArray, List.set_cons_zero, List.set_cons_succ])
    refine wpAnyH_ready (rs := [1]) (by kernel_rfl) (by simp) ?_
    refine (AllReadyH.cons (o := ⟨some 13, _, _, _, _, _⟩) rfl (fun K hK => ?_) AllReadyH.nil)
    have sc := HI.out.f.cell
    go_simp
    refine hK.out _ _ (by assumption) (fun hHeld => ?_)
    clear hK K
    (try simp only [Act.put, List.setIfInBounds_toArray, List.set_cons_zero, List.set_cons_succ])
    refine wpAnyH_ready (rs := [15]) (by kernel_rfl) (by simp) ?_
    refine (AllReadyH.cons (o := ⟨some 27, _, _, _, _, _⟩) rfl (fun K hK => ?_) AllReadyH.nil)
    go_simp
    refine hK.out _ _ (by assumption) (fun hHeld => ?_)
    clear hK K
    (try simp only [Act.put, List.setIfInBounds_toArray, List.set_cons_zero, List.set_cons_succ])
    refine wpAnyH_ready (rs := [16]) (by kernel_rfl) (by simp) ?_
    refine (AllReadyH.cons (o := ⟨some 28, _, _, _, _, _⟩) rfl (fun K hK => ?_) AllReadyH.nil)
    go_simp
    refine hK.out _ _ (by assumption) (fun hHeld => ?_)
    clear hK K
    (try simp only [Act.put, List.setIfInBounds_toArray, List.set_cons_zero, List.set_cons_succ])
    refine wpAnyH_ready (rs := [17]) (by kernel_rfl) (by simp) ?_
    refine (AllReadyH.cons (o := ⟨none, _, _, _, _, _⟩) rfl (fun K hK => ?_) AllReadyH.nil)
    have sf := HI.out.f.frozen
    have sc := HI.out.f.cell
    go_simp
    refine hK.out _ _ (StC.of (HI.out.set HZ.out.1 HZ.out.2 m') HZX.out) (fun hHeld => ?_)
    clear hK K
    (try simp only [Act.put, List.setIfInBounds_toArray, List.set_cons_zero, List.set_cons_succ])
    refine wpAnyH_done (by kernel_rfl) ?_ _
    exact FIN.out _ HI HB
  ·have HI := HI
   have sc := HI.out.f.cell
   go_simp
   refine hK.out _ _ (by assumption) (fun hHeld => ?_)
   clear hK K
   (try simp only [Act.put, List.setIfInBounds_toArray, List.set_cons_zero, List.set_cons_succ])
   refine wpAnyH_ready (rs := [0, 14]) (by kernel_rfl) (by simp) ?_
   refine (AllReadyH.cons (o := ⟨some 12, _, _, _, _, _⟩) rfl (fun K hK => ?_) (AllReadyH.cons (o := ⟨some 26, _, _, _, _, _⟩) rfl (fun K hK => ?_) AllReadyH.nil))
   ·have HI := HI
    have sc := HI.out.f.cell
    go_simp
    refine hK.out _ _ (by assumption) (fun hHeld => ?_)
    clear hK K
    (try simp only [Act.put, List.setIfInBounds_toArray, List.set_cons_zero, List.set_cons_succ])
    refine wpAnyH_ready (rs := [14]) (by kernel_rfl) (by simp) ?_
    refine (AllReadyH.cons (o := ⟨some 26, _, _, _, _, _⟩) rfl (fun K hK => ?_) AllReadyH.nil)
    go_simp
    go_at_call 89
    refine (KPX.out _).mono ?_
    rintro e w5 ⟨rfl, h5⟩
    have HI := Lib.hid (HI.out.later h5)
    have HB := Lib.hid (Below.trans (below_drew V) h5)
    clear h5
    refine hK.out _ _ (StC.of HI.out HZX.out) (fun hHeld => ?_)
    clear hK K
    (try simp only [Act.put, List.setIfInBounds_toArray, List.set_cons_zero, List.set_cons_succ])
    refine wpAnyH_ready (rs := [15]) (by kernel_rfl) (by simp) ?_
    refine (AllReadyH.cons (o := ⟨some 27, _, _, _, _, _⟩) rfl (fun K hK => ?_) AllReadyH.nil)
    go_simp
    refine hK.out _ _ (by assumption) (fun hHeld => ?_)
    clear hK K
    (try simp only [Act.put, List.setIfInBounds_toArray, List.set_cons_zero, List.set_cons_succ])
    refine wpAnyH_ready (rs := [16]) (by kernel_rfl) (by simp) ?_
    refine (AllReadyH.cons (o := ⟨some 28, _, _, _, _, _⟩) rfl (fun K hK => ?_) AllReadyH.nil)
    go_simp
    refine hK.out _ _ (by assumption) (fun hHeld => ?_)
    clear hK K
    (try simp only [Act.put, List.setIfInBounds_toArray, List.set_cons_zero, List.set_cons_succ])
    refine wpAnyH_ready (rs := [17]) (by kernel_rfl) (by simp) ?_
    refine (AllReadyH.cons (o := ⟨none, _, _, _, _, _⟩) rfl (fun K hK => ?_) AllReadyH.nil)
    have sf := HI.out.f.frozen
    have sc := HI.out.f.cell
    go_simp
    refine hK.out _ _ (StC.of (HI.out.set HZ.out.1 HZ.out.2 m') HZX.out) (fun hHeld => ?_)
    clear hK K
    (try simp only [Act.put, List.setIfInBounds_toArray, List.set_cons_zero, List.set_cons_succ])
    refine wpAnyH_done (by kernel_rfl) ?_ _
    exact FIN.out _ HI HB
   ·have HI := HI
    go_simp
    go_at_call 89
    refine (KPX.out _).mono ?_
    rintro e w5 ⟨rfl, h5⟩
    have HI := Lib.hid (HI.out.later h5)
    have HB := Lib.hid (Below.trans (below_drew V) h5)
    clear h5
    refine hK.out _ _ (StC.of HI.out HZX.out) (fun hHeld => ?_)
    clear hK K
    (try simp only [Act.put, List.setIfInBounds_toArray, List.set_cons_zero, List.set_cons_succ])
    refine wpAnyH_ready (rs := [0, 15]) (by kernel_rfl) (by simp) ?_
    refine (AllReadyH.cons (o := ⟨some 12, _, _, _, _, _⟩) rfl (fun K hK => ?_) (AllReadyH.cons (o := ⟨some 27, _, _, _, _, _⟩) rfl (fun K hK => ?_) AllReadyH.nil))
    ·have HI := HI
     have sc := HI.out.f.cell
     go_simp
     refine hK.out _ _ (by assumption) (fun hHeld => ?_)
     clear hK K
     (try simp only [Act.put, List.setIfInBounds_toArray, List.set_cons_zero, List.set_cons_succ])
     refine wpAnyH_ready (rs := [15]) (by kernel_rfl) (by simp) ?_
     refine (AllReadyH.cons (o := ⟨some 27, _, _, _, _, _⟩) rfl (fun K hK => ?_) AllReadyH.nil)
     go_simp
     refine hK.out _ _ (by assumption) (fun hHeld => ?_)
     clear hK K
     (try simp only [Act.put, List.setIfInBounds_toArray, List.set_cons_zero, List.set_cons_succ])
     refine wpAnyH_ready (rs := [16]) (by kernel_rfl) (by simp) ?_
     refine (AllReadyH.cons (o := ⟨some 28, _, _, _, _, _⟩) rfl (fun K hK => ?_) AllReadyH.nil)
     go_simp
     refine hK.out _ _ (by assumption) (fun hHeld => ?_)
     clear hK K
     (try simp only [Act.put, List.setIfInBounds_toArray, List.set_cons_zero, List.set_cons_succ])
     refine wpAnyH_ready (rs := [17]) (by kernel_rfl) (by simp) ?_
     refine (AllReadyH.cons (o := ⟨none, _, _, _, _, _⟩) rfl (fun K hK => ?_) AllReadyH.nil)
     have sf := HI.out.f.frozen
     have sc := HI.out.f.cell
     go_simp
     refine hK.out _ _ (StC.of (HI.out.set HZ.out.1 HZ.out.2 m') HZX.out) (fun hHeld => ?_)
     clear hK K
     (try simp only [Act.put, List.setIfInBounds_toArray, List.set_cons_zero, List.set_cons_succ])
     refine wpAnyH_done (by kernel_rfl) ?_ _
     exact FIN.out _ HI HB
    ·have HI := HI
     go_simp
     refine hK.out _ _ (by assumption) (fun hHeld => ?_)
     clear hK K
     (try simp only [Act.put, List.setIfInBounds_toArray, List.set_cons_zero, List.set_cons_succ])
     refine wpAnyH_ready (rs := [0]) (by kernel_rfl) (by simp) ?_
     refine (AllReadyH.cons (o := ⟨some 12, _, _, _, _, _⟩) rfl (fun K hK => ?_) AllReadyH.nil)
     have sc := HI.out.f.cell
     go_simp
     refine hK.out _ _ (by assumption) (fun hHeld => ?_)
     clear hK K
     (try simp only [Act.put, List.setIfInBounds_toArray, List.set_cons_zero, List.set_cons_succ])
     refine wpAnyH_ready (rs := [16]) (by kernel_rfl) (by simp) ?_
     refine (AllReadyH.cons (o := ⟨some 28, _, _, _, _, _⟩) rfl (fun K hK => ?_) AllReadyH.nil)
     go_simp
     refine hK.out _ _ (by assumption) (fun hHeld => ?_)
     clear hK K
     (try simp only [Act.put, List.setIfInBounds_toArray, List.set_cons_zero, List.set_cons_succ])
     refine wpAnyH_ready (rs := [17]) (by kernel_rfl) (by simp) ?_
     refine (AllReadyH.cons (o := ⟨none, _, _, _, _, _⟩) rfl (fun K hK => ?_) AllReadyH.nil)
     have sf := HI.out.f.frozen
     have sc := HI.out.f.cell
     go_simp
     refine hK.out _ _ (StC.of (HI.out.set HZ.out.1 HZ.out.2 m') HZX.out) (fun hHeld => ?_)
     clear hK K
     (try simp only [Act.put, List.setIfInBounds_toArray, List.set_cons_zero, List.set_cons_succ])
     refine wpAnyH_done (by kernel_rfl) ?_ _
     exact FIN.out _ HI HB
  ·have HI := HI
   go_simp
   go_at_call 89
   refine (KPX.out _).mono ?_
   rintro e w5 ⟨rfl, h5⟩
   have HI := Lib.hid (HI.out.later h5)
   have HB := Lib.hid (Below.trans (below_drew V) h5)
   clear h5
   refine hK.out _ _ (StC.of HI.out HZX.out) (fun hHeld => ?_)
   clear hK K
   (try simp only [Act.put, List.setIfInBounds_toArray, List.set_cons_zero, List.set_cons_succ])
   refine wpAnyH_ready (rs := [0, 1]) (by kernel_rfl) (by simp) ?_
   refine (AllReadyH.cons (o := ⟨some 12, _, _, _, _, _⟩) rfl (fun K hK => ?_) (AllReadyH.cons (o := ⟨some 13, _, _, _, _, _⟩) rfl (fun K hK => ?_) AllReadyH.nil))
   ·have HI := HI
    have sc := HI.out.f.cell
    go_simp
    refine hK.out _ _ (by assumption) (fun hHeld => ?_)
    clear hK K
    (try simp only [Act.put, List.setIfInBounds_toArray, List.set_cons_zero, List.set_cons_succ])
    refine wpAnyH_ready (rs := [1]) (by kernel_rfl) (by simp) ?_
    refine (AllReadyH.cons (o := ⟨some 13, _, _, _, _, _⟩) rfl (fun K hK => ?_) AllReadyH.nil)
    have sc := HI.out.f.cell
    go_simp
    refine hK.out _ _ (by assumption) (fun hHeld => ?_)
    clear hK K
    (try simp only [Act.put, List.setIfInBounds_toArray, List.set_cons_zero, List.set_cons_succ])
    refine wpAnyH_ready (rs := [15]) (by kernel_rfl) (by simp) ?_
    refine (AllReadyH.cons (o := ⟨some 27, _, _, _, _, _⟩) rfl (fun K hK => ?_) AllReadyH.nil)
    go_simp
    refine hK.out _ _ (by assumption) (fun hHeld => ?_)
    clear hK K
    (try simp only [Act.put, List.setIfInBounds_toArray, List.set_cons_zero, List.set_cons_succ])
    refine wpAnyH_ready (rs := [16]) (by kernel_rfl) (by simp) ?_
    refine (AllReadyH.cons (o := ⟨some 28, _, _, _, _, _⟩) rfl (fun K hK => ?_) AllReadyH.nil)
    go_simp
    refine hK.out _ _ (by assumption) (fun hHeld => ?_)
    clear hK K
    (try simp only [Act.put, List.setIfInBounds_toArray, List.set_cons_zero, List.set_cons_succ])
    refine wpAnyH_ready (rs := [17]) (by kernel_rfl) (by simp) ?_
    refine (AllReadyH.cons (o := ⟨none, _, _, _, _, _⟩) rfl (fun K hK => ?_) AllReadyH.nil)
    have sf := HI.out.f.frozen
    have sc := HI.out.f.cell
    go_simp
    refine hK.out _ _ (StC.of (HI.out.set HZ.out.1 HZ.out.2 m') HZX.out) (fun hHeld => ?_)
    clear hK K
    (try simp only [Act.put, List.setIfInBounds_toArray, List.set_cons_zero, List.set_cons_succ])
    refine wpAnyH_done (by kernel_rfl) ?_ _
    exact FIN.out _ HI HB
   ·have HI := HI
    have sc := HI.out.f.cell
    go_simp
    refine hK.out _ _ (by assumption) (fun hHeld => ?_)
    clear hK K
    (try simp only [Act.put, List.setIfInBounds_toArray, List.set_cons_zero, List.set_cons_succ])
    refine wpAnyH_ready (rs := [0, 15]) (by kernel_rfl) (by simp) ?_
    refine (AllReadyH.cons (o := ⟨some 12, _, _, _, _, _⟩) rfl (fun K hK => ?_) (AllReadyH.cons (o := ⟨some 27, _, _, _, _, _⟩) rfl (fun K hK => ?_) AllReadyH.nil))
    ·have HI := HI
     have sc := HI.out.f.cell
     go_simp
     refine hK.out _ _ (by assumption) (fun hHeld => ?_)
     clear hK K
     (try simp only [Act.put, List.setIfInBounds_toArray, List.set_cons_zero, List.set_cons_succ])
     refine wpAnyH_ready (rs := [15]) (by kernel_rfl) (by simp) ?_
     refine (AllReadyH.cons (o := ⟨some 27, _, _, _, _, _⟩) rfl (fun K hK => ?_) AllReadyH.nil)
     go_simp
     refine hK.out _ _ (by assumption) (fun hHeld => ?_)
     clear hK K
     (try simp only [Act.put, List.setIfInBounds_toArray, List.set_cons_zero, List.set_cons_succ])
     refine wpAnyH_ready (rs := [16]) (by kernel_rfl) (by simp) ?_
     refine (AllReadyH.cons (o := ⟨some 28, _, _, _, _, _⟩) rfl (fun K hK => ?_) AllReadyH.nil)
     go_simp
     refine hK.out _ _ (by assumption) (fun hHeld => ?_)
     clear hK K
     (try simp only [Act.put, List.setIfInBounds_toArray, List.set_cons_zero, List.set_cons_succ])
     refine wpAnyH_ready (rs := [17]) (by kernel_rfl) (by simp) ?_
     refine (AllReadyH.cons (o := ⟨none, _, _, _, _, _⟩) rfl (fun K hK => ?_) AllReadyH.nil)
     have sf := HI.out.f.frozen
     have sc := HI.out.f.cell
     go_simp
     refine hK.out _ _ (StC.of (HI.out.set HZ.out.1 HZ.out.2 m') HZX.out) (fun hHeld => ?_)
     clear hK K
     (try simp only [Act.put, List.setIfInBounds_toArray, List.set_cons_zero, List.set_cons_succ])
     refine wpAnyH_done (by kernel_rfl) ?_ _
     exact FIN.out _ HI HB
    ·have HI := HI
     go_simp
     refine hK.out _ _ (by assumption) (fun hHeld => ?_)
     clear hK K
     (try simp only [Act.put, List.setIfInBounds_toArray, List.set_cons_zero, List.set_cons_succ])
     refine wpAnyH_ready (rs := [0]) (by kernel_rfl) (by simp) ?_
     refine (AllReadyH.cons (o := ⟨some 12, _, _, _, _, _⟩) rfl (fun K hK => ?_) AllReadyH.nil)
     have sc := HI.out.f.cell
     go_simp
     refine hK.out _ _ (by assumption) (fun hHeld => ?_)
     clear hK K
     (try simp only [Act.put, List.setIfInBounds_toArray, List.set_cons_zero, List.set_cons_succ])
     refine wpAnyH_ready (rs := [16]) (by kernel_rfl) (by simp) ?_
     refine (AllReadyH.cons (o := ⟨some 28, _, _, _, _, _⟩) rfl (fun K hK => ?_) AllReadyH.nil)
     go_simp
     refine hK.out _ _ (by assumption) (fun hHeld => ?_)
     clear hK K
     (try simp only [Act.put, List.setIfInBounds_toArray, List.set_cons_zero, List.set_cons_succ])
     refine wpAnyH_ready (rs := [17]) (by kernel_rfl) (by simp) ?_
     refine (AllReadyH.cons (o := ⟨none, _, _, _, _, _⟩) rfl (fun K hK => ?_) AllReadyH.nil)
     have sf := HI.out.f.frozen
     have sc := HI.out.f.cell
     go_simp
     refine hK.out _ _ (StC.of (HI.out.set HZ.out.1 HZ.out.2 m') HZX.out) (fun hHeld => ?_)
     clear hK K
     (try simp only [Act.put, List.setIfInBounds_toArray, List.set_cons_zero, List.set_cons_succ])
     refine wpAnyH_done (by kernel_rfl) ?_ _
     exact FIN.out _ HI HB
 case done =>
  rintro D V hD hi hK
  have e9 : (nums f).filterMap (fun k => l[k]?) = l.filter (fun x => decide (x.p < y.p)) := HLT.out
  rw [e9, HFR.out] at hi
  have HI := Lib.hid hi
  have HDK := Lib.hid hK
  have cl := hi.lx.cell
  have cf := hi.f.cell
  subst hfr
  clear SQ hi hK
  go_upto_region 5 with (fail)
  have P0 := fun (i : Wv V) => (HI.out.later i.lt).lx.cell
  have P1 := fun (i : Wv V) => (HI.out.later i.lt).f.cell
  have KN2 := Lib.hid (fun (i : Wv V) => calls_in (KN.out i.W (HI.out.later i.lt).r (HI.out.later i.lt).t))
  have KP2 := Lib.hid (fun (i : Wv V) => calls_in (KP.out i.W))
  refine wp_region_in (v0 := V) (Below.refl _ _) (by kernel_rfl) (by kernel_rfl) ?_
  repeat (go_big_quiet_step (first | (go_at_call 88; with_reducible exact KN2.out _) | (go_at_call 89; with_reducible exact KP2.out _)))
  refine wpQuiet_nil ?_
  intro _ hw9
  obtain ⟨nq, hw99⟩ := hw9
  subst hw99
  go_wp2
  have hK9 : nq.W.heap[D]? = some (.deferred (some [])) := (nq.lt.block D (Array.getElem?_eq_some_iff.1 HDK.out).1).trans HDK.out
  refine ⟨by simp, .inl ⟨_, _, rfl, run_takeDeferred hK9, ?_⟩⟩
  exact ⟨.int .u64 st, by simp [results, Tryz.f55, go_sem], rfl, (HI.out.later nq.lt).b.trans (belowK_b (w := w) (Nat.le_refl _) nq.W D _ _ (by omega) hK9 rfl rfl)⟩
 case stop =>
  rintro D c pre x V hD hr h hK
  exact h.elim
end
section
open Go.RowKit Go.Shelf
attribute [local go_sem] Oper.semAt_some
def nmW (A : Option Addr) (n cap : Nat) (i v : Int) (w : World) : World := ((w.alloc (.cells #[.slice A n cap] 23)).alloc (.cells #[.int .i64 i] 3)).alloc (.cells #[.int .u64 v] 80)
theorem numbers_any (A : Option Addr) (n cap : Nat) (i v : Int) (w : World) :
  Calls Tryz.prog 54 #[.slice A n cap, .int .i64 i, .int .u64 v] w fun e w' => e = .returned (.func (.func 87) #[] #[.pointer (some ⟨w.heap.size + 2, 0, none⟩), .pointer (some ⟨w.heap.size, 0, none⟩), .pointer (some ⟨w.heap.size + 1, 0, none⟩)]) ∧ w' = nmW A n cap i v w := by
 have hmf : ∀ (fn : Fn) (first cap : Array Value) (w : World), (Instr.makeFunc fn first cap).run Tryz.prog w = .ok (.func fn first cap) w := fun _ _ _ _ => rfl
 unfold nmW
 go_enter Tryz.func54, Tryz.ntmps54
 go_wp2
 go_ret
 simp [World.size_alloc]
theorem nm_made {A : Option Addr} {cap k : Nat} {l : List Ts} {v : Int} {w : World} (hR : Row w A cap l) (hT : Tab w) :
  NmS (nmW A l.length cap (k : Int) v w) A cap l k w.heap.size (w.heap.size + 1) ∧ Boxed (nmW A l.length cap (k : Int) v w) (w.heap.size + 2) 80 (.int .u64 v) ∧ Below w.heap.size w (nmW A l.length cap (k : Int) v w) ∧ (nmW A l.length cap (k : Int) v w).heap.size = w.heap.size + 3 := by
 have hb : Below w.heap.size w (nmW A l.length cap (k : Int) v w) := (((Below.refl _ _).alloc (Nat.le_refl _) _).alloc (by simp) _).alloc (by simp; omega) _
 refine ⟨⟨Boxed.alloc (Boxed.alloc (Boxed.new _ _ _) _) _, ?_, hR.later hb, hT.below hb⟩, ?_, hb, by simp [nmW]⟩
 ·have := Boxed.alloc (Boxed.new (w.alloc (.cells #[.slice A l.length cap] 23)) 3 (.int .i64 (k : Int))) (.cells #[.int .u64 v] 80)
  rwa [World.size_alloc] at this
 ·have := Boxed.new ((w.alloc (.cells #[.slice A l.length cap] 23)).alloc (.cells #[.int .i64 (k : Int)] 3)) 80 (.int .u64 v)
  rwa [World.size_alloc, World.size_alloc] at this
theorem leall_mem {N : Int → Int} (h : Rises N) {M : Int} : ∀ (f : Nat) (v : Int), 0 ≤ v → LeAll N M v → ∀ x ∈ eachF N M f v, 0 ≤ x ∧ LeAll N M x
 | 0, v, h0, hl, x, hx => by
   obtain rfl : x = v := by simpa [eachF] using hx
   exact ⟨h0, hl⟩
 | f + 1, v, h0, hl, x, hx => by
   rw [each_head, eachT] at hx
   rcases List.mem_cons.1 hx with rfl | hx
   ·exact ⟨h0, hl⟩
   ·split at hx
    ·cases hx
    ·exact leall_mem h f (N v) (by have := h.pos h0; omega) (leall_next h h0 hl) x hx
structure BnS (w : World) (b o cap : Nat) (l : List Ts) (k : Nat) (r e : Int) (V : World) : Prop where
 lx : Boxed V w.heap.size 23 (.slice (some ⟨b, o, none⟩) l.length cap)
 ix : Boxed V (w.heap.size + 1) 3 (.int .i64 (k : Int))
 rx : Boxed V (w.heap.size + 2) 2 (.int .i64 r)
 ex : Boxed V (w.heap.size + 3) 31 (.int .i64 e)
 r_ : Row V (some ⟨b, o, none⟩) cap l
 t : Tab V
 b_ : Below w.heap.size w V
section
variable {w V V' : World} {b o cap k : Nat} {l : List Ts} {r e : Int}
theorem BnS.later (h : BnS w b o cap l k r e V) (hb : Below V.heap.size V V') : BnS w b o cap l k r e V' := ⟨boxed_later2 h.lx hb, boxed_later2 h.ix hb, boxed_later2 h.rx hb, boxed_later2 h.ex hb, h.r_.later hb, h.t.below hb, h.b_.trans (hb.mono h.b_.size)⟩
theorem BnS.own {row : Option Nat} {D : Nat} (h : BnS w b o cap l k r e V) (hg : V.grownBy V' row) (hr : ∀ r, row = some r → D ≤ r ∧ ∃ o : Obj, V.heap[r]? = some o ∧ o.isCells = false) (hB : w.heap.size ≤ D) : BnS w b o cap l k r e V' :=
 have hk := keepG_grown hg (fun r e => (hr r e).2)
 have nc := fun r e => (hr r e).2
 ⟨boxed_kept h.lx hg nc, boxed_kept h.ix hg nc, boxed_kept h.rx hg nc, boxed_kept h.ex hg nc, h.r_.keepG hk (fun _ _ _ _ => trivial), hk.tab h.t (fun _ => trivial), h.b_.grown hg h.b_.size (fun k e => by have := (hr k e).1; omega)⟩
theorem BnS.setR (h : BnS w b o cap l k r e V) (hb : b < w.heap.size) (ht : 0 < w.heap.size) (u : Int) : BnS w b o cap l k u e (V.setCell ⟨w.heap.size + 2, 0, none⟩ (.int .i64 u)) :=
 have hk := p1_set h.rx (.int .i64 u)
 ⟨Boxed.other h.lx (by omega) _, Boxed.other h.ix (by omega) _, Boxed.set _ h.rx, Boxed.other h.ex (by omega) _, h.r_.keepG hk (fun b' o' e T => .inl (by cases e; omega)), hk.tab h.t (fun T => .inl (by omega)), h.b_.setCell (p := ⟨w.heap.size + 2, 0, none⟩) (by show w.heap.size ≤ w.heap.size + 2; omega) _⟩
theorem BnS.setE (h : BnS w b o cap l k r e V) (hb : b < w.heap.size) (ht : 0 < w.heap.size) (u : Int) : BnS w b o cap l k r u (V.setCell ⟨w.heap.size + 3, 0, none⟩ (.int .i64 u)) :=
 have hk := p1_set h.ex (.int .i64 u)
 ⟨Boxed.other h.lx (by omega) _, Boxed.other h.ix (by omega) _, Boxed.other h.rx (by omega) _, Boxed.set _ h.ex, h.r_.keepG hk (fun b' o' e T => .inl (by cases e; omega)), hk.tab h.t (fun T => .inl (by omega)), h.b_.setCell (p := ⟨w.heap.size + 3, 0, none⟩) (by show w.heap.size ≤ w.heap.size + 3; omega) _⟩
end
def rOf (j : Int) (pre : List Int) : Int := match pre.getLast? with | none => 0 | some v => v + j
theorem rOf_snoc (j : Int) (pre : List Int) (v : Int) : rOf j (pre ++ [v]) = v + j := by unfold rOf; rw [List.getLast?_append]; rfl
def P2 (B k : Nat) (T : TypeId) : Prop := k ≠ B ∧ k ≠ B + 1
theorem p2_set0 (B : Nat) (V : World) (u : Value) : KeepG (P2 B) V (V.setCell ⟨B, 0, none⟩ u) := KeepG.setCell u fun cs T fr _ hp => hp.1 rfl
theorem bound_in (b o cap : Nat) (l : List Ts) (k : Nat) (y : Ts) (w : World) (hR : Row w (some ⟨b, o, none⟩) cap l) (hc : (chkAll l).2 = 0) (hy : l[k]? = some y) (hT : Tab w) :
  Calls Tryz.prog 30 #[.slice (some ⟨b, o, none⟩) l.length cap, .int .i64 (k : Int)] w fun e w' => e = .returned (.tuple #[.int .i64 (boundI l (k : Int)).1, .int .i64 (boundI l (k : Int)).2]) ∧ Below w.heap.size w w' := by
 have hk : k < l.length := (List.getElem?_eq_some_iff.1 hy).1
 have hm := mOf_get hc hy
 have hbl : b < w.heap.size := by
  obtain ⟨b', o', x, e, _, _, h, _⟩ := hR.get hk
  cases e; exact h
 have htab := hT.pos
 have hj0 := ((vs_of hc).all y (List.mem_of_getElem? hy)).j0
 have hj1 := ((vs_of hc).all y (List.mem_of_getElem? hy)).j1
 have hb1 : Below w.heap.size w ((((w.alloc (.cells #[.slice (some ⟨b, o, none⟩) l.length cap] 23)).alloc (.cells #[.int .i64 (k : Int)] 3)).alloc (.cells #[.int .i64 0] 2)).alloc (.cells #[.int .i64 0] 31)) := ((((Below.refl _ _).alloc (Nat.le_refl _) _).alloc (by simp) _).alloc (by simp; omega) _).alloc (by simp; omega) _
 obtain ⟨W1, hW1, X1, s1⟩ : ∃ W1, (((w.alloc (.cells #[.slice (some ⟨b, o, none⟩) l.length cap] 23)).alloc (.cells #[.int .i64 (k : Int)] 3)).alloc (.cells #[.int .i64 0] 2)).alloc (.cells #[.int .i64 0] 31) = W1 ∧ BnS w b o cap l k 0 0 W1 ∧ W1.heap.size = w.heap.size + 4 := by
  refine ⟨_, rfl, ⟨?_, ?_, ?_, ?_, hR.later hb1, hT.below hb1, hb1⟩, by simp⟩
  ·exact Boxed.alloc (Boxed.alloc (Boxed.alloc (Boxed.new _ _ _) _) _) _
  ·have := Boxed.alloc (Boxed.alloc (Boxed.new (w.alloc (.cells #[.slice (some ⟨b, o, none⟩) l.length cap] 23)) 3 (.int .i64 (k : Int))) (.cells #[.int .i64 0] 2)) (.cells #[.int .i64 0] 31)
   rwa [World.size_alloc] at this
  ·have := Boxed.alloc (Boxed.new ((w.alloc (.cells #[.slice (some ⟨b, o, none⟩) l.length cap] 23)).alloc (.cells #[.int .i64 (k : Int)] 3)) 2 (.int .i64 0)) (.cells #[.int .i64 0] 31)
   rwa [World.size_alloc, World.size_alloc] at this
  ·have := Boxed.new (((w.alloc (.cells #[.slice (some ⟨b, o, none⟩) l.length cap] 23)).alloc (.cells #[.int .i64 (k : Int)] 3)).alloc (.cells #[.int .i64 0] 2)) 31 (.int .i64 0)
   rwa [World.size_alloc, World.size_alloc, World.size_alloc] at this
 have KS := Lib.hid (fun V h1 h2 => start_any b o cap l k y V h1 hc hy h2)
 have KM := Lib.hid (fun V => most_any y V (by omega) (by omega))
 have HW1 := Lib.hid hW1
 have HSL := start_le hc hy
 have HSU := (start_U hc hy).1
 have HZ := Lib.hid (And.intro hbl htab)
 have HCY := Lib.hid (And.intro hc hy)
 obtain ⟨s, hs⟩ : ∃ s, startI l k y = s := ⟨_, rfl⟩
 rw [hs] at KS HSL HSU
 have KNB := Lib.hid (fun V => numbers_any (some ⟨b, o, none⟩) l.length cap (k : Int) s V)
 have HLS := Lib.hid (And.intro HSU HSL)
 have HR9 := Lib.hid (need_rises (isB_at hc hy))
 clear hR hT hb1 hW1 HSL HSU hs hbl htab
 refine (callsIn_wide (n := 8)).1 ?_
 refine callsIn_of_wp_marks Tryz.func30 rfl trivial ?_ rfl
 simp only [Tryz.ntmps30, List.size_toArray, List.length_cons, List.length_nil, Nat.reduceAdd, Nat.reduceSub, Array.replicate_succ, Array.replicate_zero, List.push_toArray, List.append_toArray, List.nil_append, List.cons_append]
 refine wpIn_wide.2 ?_
 go_upto_region 1 with (fail)
 refine wp_scope_straight ?_
 go_wp2
 refine wp_label ?_
 go_upto_region 2 with (fail)
 rw [HW1.out]
 clear HW1
 have HX := Lib.hid (X1.later (below_drew W1))
 have HX3 : Hid (w.heap.size + 4 ≤ W1.drew.heap.size) := Lib.hid (by rw [← s1]; exact (below_drew W1).size)
 clear X1
 go_region_held3 (fun W => W.cell? ⟨w.heap.size, 0, none⟩ = some (.slice (some ⟨b, o, none⟩) l.length cap) ∧ W.cell? ⟨w.heap.size + 1, 0, none⟩ = some (.int .i64 (k : Int)))
  (first | (with_reducible assumption) | exact ⟨HX.out.lx.cell, HX.out.ix.cell⟩ | fail)
  (first
  | (go_at_call 55; (with_reducible refine (KS.out _ HX.out.r_ HX.out.t).mono ?_); rintro e w2 ⟨rfl, h⟩; have HX2 := Lib.hid (show w.heap.size + 4 ≤ w2.heap.size by have := h.size; have := HX3.out; omega); have HX := Lib.hid (HX.out.later h); clear h)
  | (go_at_call 54; (with_reducible refine (KNB.out _).mono ?_); rintro e w3 ⟨rfl, rfl⟩; obtain ⟨HN1, HN2, HN3, HN4⟩ := nm_made (k := k) (v := s) HX.out.r_ HX.out.t; have HX := Lib.hid (HX.out.later HN3); have HN := Lib.hid (And.intro HN1 (And.intro HN2 HN4)); clear HN1 HN2 HN3 HN4)
  | fail)
 obtain ⟨W3, hW3⟩ : ∃ W3, nmW (some ⟨b, o, none⟩) l.length cap (k : Int) s w2 = W3 := ⟨_, rfl⟩
 rw [hW3] at HX HN ⊢
 obtain ⟨B2, hB2⟩ : ∃ B2, w2.heap.size = B2 := ⟨_, rfl⟩
 have hw2 : w.heap.size + 4 ≤ B2 := by
  have h1 := HX2.out
  rw [hB2] at h1
  exact h1
 rw [hB2] at HN ⊢
 clear hW3 hB2 HX2
 have hbl := HZ.out.1
 have htab := HZ.out.2
 have HP : Hid (NmK (P2 (w.heap.size + 2)) (some ⟨b, o, none⟩) B2 (B2 + 1)) := Lib.hid ⟨fun _ => ⟨by omega, by omega⟩, fun _ => ⟨by omega, by omega⟩, fun _ => ⟨by omega, by omega⟩, fun b' o' e _ => by cases e; exact ⟨by omega, by omega⟩⟩
 have SQ := Lib.hid (numbers1_seq (8 - 1) (by omega) (some ⟨b, o, none⟩) cap l k y s (B2 + 2) B2 (B2 + 1) (P2 (w.heap.size + 2)) W3 HN.out.1 HN.out.2.1 HP.out HCY.out.1 HCY.out.2 HLS.out.1 HLS.out.2 (mOf l (k : Int) + 1) (by have := HLS.out.1.1; omega))
 have hws := HN.out.2.2
 obtain ⟨M, hM⟩ : ∃ M, y.d - y.j = M := ⟨_, rfl⟩
 have hM0 : 0 ≤ M ∧ M ≤ 2147483647 := by omega
 have HMM := Lib.hid hM
 have HMM2 : Hid ((mOf l (k : Int) : Nat) = M) := Lib.hid (by omega)
 have HLS2 : Hid (LeAll (needI l (k : Int)) ((mOf l (k : Int) : Nat) : Int) s) := Lib.hid (by rw [HMM2.out, ← hM]; exact HLS.out.2)
 rw [hM] at SQ KM
 obtain ⟨L, hL⟩ : ∃ L, eachF (needI l (k : Int)) M (mOf l (k : Int) + 1) s = L := ⟨_, rfl⟩
 rw [hL] at SQ
 have HLL := Lib.hid hL
 clear hL hM hm hc hy HN HP
 go_wp2
 refine (wpIn_wide (n := 8)).1 ?_
 refine wpIn_named fun fr hfr => ?_
 refine rangeG (vals := numU) (gf := 87) (lb := #[.pointer (some ⟨B2 + 2, 0, none⟩), .pointer (some ⟨B2, 0, none⟩), .pointer (some ⟨B2 + 1, 0, none⟩)]) (by rw [hfr]; rfl) (enters_of Tryz.func87 (by kernel_rfl) rfl)
  SQ.out (Below.refl _ _) (fun x => rfl)
  (fun pre V => BnS w b o cap l k (rOf y.j pre) 0 V ∧ ∀ x ∈ pre, x ≤ M) (fun c pre V => c = .exit 0 ∧ BnS w b o cap l k 0 16 V ∧ ∃ x ∈ pre, M < x)
  (fun pre X Y row h hg hr => ⟨h.1.own hg hr (by omega), h.2⟩) (fun c pre X Y row h hg hr => ⟨h.1, h.2.1.own hg hr (by omega), h.2.2⟩) ⟨HX.out, fun _ h => by cases h⟩
  (fun x a' V => a' = { tmps := (fr.tmps.setIfInBounds 15 (.int .u64 x)).setIfInBounds 8 (.int .u64 x), defers := [] })
  (fun x a' _ X Y row hs hg hr => hs)
  ?assign ?body ?done ?stop
 case assign =>
  intro l2 pre x V K hi hK
  subst hfr
  clear SQ
  gi_wp2
  exact hK _ _ (KeepsFrom.refl _ _) (KeepG.refl _ _) hi rfl
 case body =>
  rintro l2 pre x a' V ⟨hi, hle⟩ rfl ⟨r, hr⟩
  have hxm : x ∈ eachF (needI l (k : Int)) M (mOf l (k : Int) + 1) s := by rw [HLL.out, hr]; simp
  have hx0 := (leall_mem HR9.out _ s HLS.out.1.1 (by rw [← HMM.out]; exact HLS.out.2) x hxm).1
  obtain ⟨b', o', z, e, hz, -, hbv, hTz⟩ := hi.r_.get hk
  cases e
  obtain rfl : y = z := by have := HCY.out.2.symm.trans hz; simpa using this
  have c0 := hTz.c0
  have c1 := hTz.c1
  have c2 := hTz.c2
  have c3 := hTz.c3
  have c4 := hTz.c4
  have c5 := hTz.c5
  have c6 := hTz.c6
  have cl := hi.lx.cell
  have ci := hi.ix.cell
  have i0 : (0 : Int) ≤ (k : Int) := by omega
  have i1 : (k : Int) < (l.length : Int) := by omega
  have hcl := hi.r_.le
  have hcm := hi.r_.mx
  have HTz := Lib.hid hTz
  have HI := Lib.hid hi
  have HLE := Lib.hid hle
  by_cases hv : M < x
  ·have u1 : decide (x > M) = true := decide_eq_true hv
   have u2 : decide (M < x) = true := decide_eq_true hv
   have HV := Lib.hid hv
   subst hfr
   clear SQ hr hxm hz hTz hi hle hv
   dsimp only [List.setIfInBounds_toArray, List.set_cons_succ, List.set_cons_zero]
   gi_wp2_with (refine ⟨trivial, ?_⟩; gi_at_call 56; refine (CallsIn.inRound l2 (callsIn_wide.2 (KM.out _))).mono ?_; rintro e w5 ⟨rfl, hb⟩; have HI := Lib.hid (HI.out.later hb); have cr := HI.out.rx.cell; have fr1 := HI.out.rx.frozen; have ce := HI.out.ex.cell; have fe := HI.out.ex.frozen; have HKF := Lib.hid (show KeepsFrom W3.heap.size V w5 from keepsFrom_later hb); have HKG := Lib.hid (show KeepG (P2 (w.heap.size + 2)) V w5 from KeepG.below hb); clear hb)
   refine ⟨(HKF.out.trans ((KeepsOthers.setCell _ _ _).from _)).trans ((KeepsOthers.setCell _ _ _).from _), rfl, (HI.out.setR HZ.out.1 HZ.out.2 0).setE HZ.out.1 HZ.out.2 16, x, by simp, HV.out⟩
  ·have u1 : decide (x > M) = false := decide_eq_false hv
   have u2 : decide (M < x) = false := decide_eq_false hv
   have w0 : IntKind.i64.wrap x = x := by rw [IntKind.wrap_i64]; omega
   have w1 : IntKind.i64.wrap (x + y.j) = x + y.j := by rw [IntKind.wrap_i64]; omega
   have w1' : wrap64 (x + y.j) = x + y.j := IntWalk.wrap64_in _ (by omega)
   have HV := Lib.hid (show x ≤ M by omega)
   subst hfr
   clear SQ hr hxm hz hTz hi hle hv
   dsimp only [List.setIfInBounds_toArray, List.set_cons_succ, List.set_cons_zero]
   gi_wp2_with (refine ⟨trivial, ?_⟩; gi_at_call 56; refine (CallsIn.inRound l2 (callsIn_wide.2 (KM.out _))).mono ?_; rintro e w5 ⟨rfl, hb⟩; have HI := Lib.hid (HI.out.later hb); have cr := HI.out.rx.cell; have fr1 := HI.out.rx.frozen; have cl := HI.out.lx.cell; have ci := HI.out.ix.cell; have c4 := (HTz.out.later hb).c4; have HKF := Lib.hid (show KeepsFrom W3.heap.size V w5 from keepsFrom_later hb); have HKG := Lib.hid (show KeepG (P2 (w.heap.size + 2)) V w5 from KeepG.below hb); clear hb)
   refine ⟨HKF.out.trans ((KeepsOthers.setCell _ _ _).from _), HKG.out.trans (p2_set0 _ _ _), ?_, fun z hz => ?_⟩
   ·rw [rOf_snoc]
    exact HI.out.setR HZ.out.1 HZ.out.2 _
   ·rcases List.mem_append.1 hz with hz | hz
    ·exact HLE.out z hz
    ·rw [List.mem_singleton.1 hz]; exact HV.out
 case done =>
  rintro D V hD ⟨hi, hle⟩ hK
  obtain ⟨z, hz1, hz2⟩ := leall_last HR9.out (mOf l (k : Int)) (mOf l (k : Int) + 1) s HLS.out.1.1 HLS2.out (by have := HLS.out.1.1; omega)
  rw [HMM2.out] at hz1
  have hz3 : L.getLast? = some z := by rw [← HLL.out]; exact hz1
  have hzM : z ≤ M := hle z (List.mem_of_getLast? hz3)
  have HB : Hid (boundI l (k : Int) = (rOf y.j L, 0)) := Lib.hid (by
   rcases hz2 with ⟨h1, _⟩ | ⟨h1, h2, _, h4⟩
   ·have := HMM2.out; omega
   ·rw [bound_at HCY.out.1 HCY.out.2, h2]
    show (((z.toNat : Nat) : Int) + y.j, (0 : Int)) = _
    unfold rOf
    rw [hz3, show ((z.toNat : Nat) : Int) = z by omega])
  obtain ⟨rr, hrr⟩ : ∃ rr, rOf y.j L = rr := ⟨_, rfl⟩
  rw [hrr] at hi HB
  have cr := hi.rx.cell
  have ce := hi.ex.cell
  have HI := Lib.hid hi
  have HDK := Lib.hid hK
  subst hfr
  clear SQ hi hK hle hz1 hz2 hz3 hzM hrr
  go_upto_region 7 with (fail)
  go_quiet (fail)
  go_wp2
  simp only [Exit.noGoto]
  have hK9 : (V.drewN nq).heap[D]? = some (.deferred (some [])) := HDK.out
  refine ⟨by simp, .inl ⟨_, _, rfl, run_takeDeferred hK9, ?_⟩⟩
  rw [HB.out]
  refine ⟨_, by simp [results, Tryz.f30, go_sem], rfl, (below_drewN HI.out.b_ nq).trans (belowK_b (w := w) (Nat.le_refl _) (V.drewN nq) D _ _ (by omega) hK9 rfl rfl)⟩
 case stop =>
  rintro D c pre x V hD ⟨r, hr⟩ ⟨rfl, hi, q, hq, hqM⟩ hK
  have hql : q ∈ eachF (needI l (k : Int)) M (mOf l (k : Int) + 1) s := by
   rw [HLL.out, hr]
   rcases List.mem_append.1 hq with hq | hq
   ·simp [hq]
   ·rw [List.mem_singleton.1 hq]; simp
  have hqa := leall_mem HR9.out _ s HLS.out.1.1 (by rw [← HMM.out]; exact HLS.out.2) q hql
  have HB : Hid (boundI l (k : Int) = (0, 16)) := Lib.hid (by
   rw [bound_at HCY.out.1 HCY.out.2, leastF_not (N := needI l (k : Int)) fun u h1 h2 => ?_]
   ·rfl
   ·have hm2 := HMM2.out
    rcases Int.lt_or_le (u : Int) (needI l (k : Int) u) with h9 | h9
    ·exact h9
    ·have := hqa.2 u (by omega) (by omega) h9; omega)
  have cr := hi.rx.cell
  have ce := hi.ex.cell
  have HI := Lib.hid hi
  have HDK := Lib.hid hK
  subst hfr
  clear SQ hi hK hr hql hqa hq hqM
  refine wpIn_wide.2 ?_
  go_upto_region 7 with (fail)
  go_quiet (fail)
  go_wp2
  simp only [Exit.noGoto]
  have hK9 : (V.drewN nq).heap[D]? = some (.deferred (some [])) := HDK.out
  refine ⟨by simp, .inl ⟨_, _, rfl, run_takeDeferred hK9, ?_⟩⟩
  rw [HB.out]
  refine ⟨_, by simp [results, Tryz.f30, go_sem], rfl, (below_drewN HI.out.b_ nq).trans (belowK_b (w := w) (Nat.le_refl _) (V.drewN nq) D _ _ (by omega) hK9 rfl rfl)⟩
end
end Go.Proofs.YthfkbbiaemmndaaGreatDoor
