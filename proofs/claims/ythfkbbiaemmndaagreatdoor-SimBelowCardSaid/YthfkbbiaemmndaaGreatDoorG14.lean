/- Texts about the program, one after the other: YCrS, YCrP, YNot, ESame, EPrR. -/
import Derived.Deep.RegionHeld3
import Derived.Deep.CutRange
import Derived.Deep.CutBlock
import Derived.WalkKit
import Derived.ProofKit
import Derived.Handy
import Derived.Lib.Hide
import Derived.Deep.MidRow
import Derived.Deep.QuietTactic
import Derived.BigQuiet
import Derived.Laws.Externs
import Derived.RangeFuncBox
import Derived.Deep.LoopGhost
import Derived.WalkMore
import Derived.OrdersIn
import Derived.Stop.RegionWithIn
import Derived.Deep.RegionLaw
import Derived.Laws.OwnMore
import Derived.Deep.Quiet
import Derived.Deep.RegionHeld
import Derived.Laws.AppendOwn
import Derived.Below
import Derived.LaidMore
import Derived.Laws.CopyOwn
import Derived.IntWalk
import Derived.OwnWalk
import Derived.BigRegion
import Derived.Deep.DrawnRows
import Derived.Deep.RegionHeldLaw
import Derived.LoopIn
import Derived.LoopNIn
import Derived.TacticsInMore
import Derived.OwnWalkIn
import Derived.RangeFuncNested
import Derived.RangeFuncBound
import Derived.RangeFuncCalls
import Derived.RangeFuncLeaves
import Derived.RangeFuncWrites
import Derived.Shelf.Abstract
import Derived.StillTailTactics
import Derived.Lib.SliceRun
import Derived.Deep.AppendSrc
import Derived.Deep.Upon
import Derived.Deep.DeepAppendWide
import Derived.Sort.LoopGhostIn
import Derived.Laws.ShiftsVarLaws
import Derived.Outline
import Derived.Laws.Bits128
import Derived.Deep.RegionWith
import Derived.Shelf.RegionOpen
import Derived.Laws.BytesString
import Derived.RangeFuncRecord
import Derived.MapKept
import Derived.Maps.AppendAt
import Derived.Laws.AppendOwnNone
import Derived.Shelf.Small.Bits
import Derived.Shelf.Small.Strs
import Derived.Shelf.Small.Wraps
import Derived.Shelf.Strconv.Itoa0
import Derived.Shelf.LaysM
import Derived.Shelf.Strconv.Clone
import Derived.Shelf.Strings.Search1
import Derived.Shelf.Bits.Mul64
import Derived.Ground.Names2Prog
import Derived.Shelf.Slices.SearchI
import Derived.ChangeOld
import Derived.OpenShut
import Derived.Test.YthfkbbiaemmndaaGreatDoorRows
import Derived.Test.YthfkbbiaemmndaaGreatDoorProg
import Derived.Test.YthfkbbiaemmndaaGreatDoorG4
import Derived.Test.YthfkbbiaemmndaaGreatDoorG5
import Derived.Test.YthfkbbiaemmndaaGreatDoorG6
import Derived.Test.YthfkbbiaemmndaaGreatDoorG7
import Derived.Test.YthfkbbiaemmndaaGreatDoorG8
import Derived.Test.YthfkbbiaemmndaaGreatDoorG9
import Derived.Test.YthfkbbiaemmndaaGreatDoorG10
import Derived.Test.YthfkbbiaemmndaaGreatDoorG11
import Derived.Test.YthfkbbiaemmndaaGreatDoorG12
import Derived.Test.YthfkbbiaemmndaaGreatDoorG13
set_option linter.unusedVariables false
set_option linter.unusedSimpArgs false
set_option maxRecDepth 100000
set_option maxHeartbeats 16000000
namespace Go.Proofs.YthfkbbiaemmndaaGreatDoor
section
open Go.RowKit Go.Shelf
attribute [local go_sem] Oper.semAt_some
abbrev TPut : TypeId := 75
abbrev TTks : TypeId := 23
abbrev T64s : TypeId := 2
abbrev TBo : TypeId := 4
theorem kt_grown {V V' : World} {row : Option Nat} (hg : V.grownBy V' row) (hr : ∀ r, row = some r → ∃ o : Obj, V.heap[r]? = some o ∧ o.isCells = false) : KT [] V V' :=
 ⟨hg.size, fun b cs T hb _ => (grownBy_keeps_cells hg hr hb rfl).trans hb⟩
theorem FOwn.grownN {e : TypeId} {B D : Nat} {V V' : World} {v : Value} {gs : List Gv} {row : Option Nat} (h : FOwn e B V v gs) (hg : V.grownBy V' row) (hr : ∀ r, row = some r → D ≤ r ∧ ∃ o : Obj, V.heap[r]? = some o ∧ o.isCells = false) (hB : B ≤ D) : FOwn e B V' v gs :=
 ⟨(kt_grown hg (fun r e => (hr r e).2)).row h.row (by simp), fun g hg' => (h.each g hg').kept fun b hl hs => hg.block b hl (fun hb => by
  obtain ⟨h1, o, h2, h3⟩ := hr b hb.symm
  rcases hs with hs | ⟨cs, T, fr, hs, _⟩
  ·omega
  ·rw [hs] at h2; cases h2; simp [Obj.isCells] at h3)⟩
theorem PutS.own {B jb D : Nat} {js : List Fv} {V V' : World} {row : Option Nat} (h : PutS B jb js V) (hg : V.grownBy V' row) (hr : ∀ r, row = some r → D ≤ r ∧ ∃ o : Obj, V.heap[r]? = some o ∧ o.isCells = false) (hB : B ≤ D) : PutS B jb js V' := by
 obtain ⟨A, cap, gs, h1, h2, h3, h4, h5, h6⟩ := h.is
 exact ⟨h.jb0, h.le, A, cap, gs, boxed_kept h1 hg (fun r e => (hr r e).2), h2, h3, h4.grownN hg hr hB, h5, h6⟩
theorem PutS.setO {B jb b : Nat} {js : List Fv} {V : World} {T : TypeId} {v : Value} (h : PutS B jb js V) (hb : Boxed V b T v) (hv : ∀ x, v ≠ .int .i64 x) (hT : T ≠ TJb) (hT2 : jb ≠ b) (u : Value) : PutS B jb js (V.setCell ⟨b, 0, none⟩ u) := by
 obtain ⟨A, cap, gs, h1, h2, h3, h4, h5, h6⟩ := h.is
 exact ⟨h.jb0, h.le, A, cap, gs, Boxed.other h1 hT2 u, h2, h3, h4.setB hb hv hT u, h5, h6⟩
structure CrS (w : World) (sl : Value) (jb pb fb : Nat) (S : Int) (js : List Fv) (V : World) : Prop where
 lx : Boxed V w.heap.size TTks sl
 pt : Boxed V pb TPut (.func (.func 33) #[] #[.pointer (some ⟨jb, 0, none⟩)])
 fr : Boxed V fb T64s (.int .i64 S)
 pu : PutS w.heap.size jb js V
 b : Below w.heap.size w V
section
variable {w V V' : World} {sl : Value} {jb pb fb : Nat} {S : Int} {js : List Fv}
theorem CrS.later (h : CrS w sl jb pb fb S js V) (hb : Below V.heap.size V V') : CrS w sl jb pb fb S js V' := ⟨boxed_later2 h.lx hb, boxed_later2 h.pt hb, boxed_later2 h.fr hb, h.pu.later hb, h.b.trans (hb.mono h.b.size)⟩
theorem CrS.own {row : Option Nat} {D : Nat} (h : CrS w sl jb pb fb S js V) (hg : V.grownBy V' row) (hr : ∀ r, row = some r → D ≤ r ∧ ∃ o : Obj, V.heap[r]? = some o ∧ o.isCells = false) (hB : w.heap.size ≤ D) : CrS w sl jb pb fb S js V' :=
 ⟨boxed_kept h.lx hg (fun r e => (hr r e).2), boxed_kept h.pt hg (fun r e => (hr r e).2), boxed_kept h.fr hg (fun r e => (hr r e).2), h.pu.own hg hr hB, h.b.grown hg h.b.size (fun k e => by have := (hr k e).1; omega)⟩
theorem CrS.put {js' : List Fv} (h : CrS w sl jb pb fb S js V) (hb : Below w.heap.size V V') (hk : KT [TJs, TJb] V V') (hp : PutS w.heap.size jb js' V') : CrS w sl jb pb fb S js' V' :=
 ⟨boxed_kt hk h.lx (by decide), boxed_kt hk h.pt (by decide), boxed_kt hk h.fr (by decide), hp, h.b.trans hb⟩
theorem boxed_ne {b c : Nat} {T T' : TypeId} {v v' : Value} (h : Boxed V b T v) (h' : Boxed V c T' v') (hT : T ≠ T') : b ≠ c := by
 rintro rfl
 have e : V.heap[b]? = some (.cells #[v] T (0, 0)) := h
 have e' : V.heap[b]? = some (.cells #[v'] T' (0, 0)) := h'
 rw [e] at e'
 simp only [Option.some.injEq, Obj.cells.injEq] at e'
 exact hT e'.2.1
theorem PutS.box (h : PutS w.heap.size jb js V) : ∃ A cap, Boxed V jb TJs (.slice A js.length cap) ∧ js.length ≤ cap ∧ cap ≤ maxLen := by
 obtain ⟨A, cap, gs, h1, h2, h3, h4, h5, h6⟩ := h.is
 exact ⟨A, cap, h1, h2, h3⟩
theorem CrS.setO {b : Nat} {v : Bool} (h : CrS w sl jb pb fb S js V) (hb : Boxed V b TBo (.bool v)) (hB : w.heap.size ≤ b) (u : Value) : CrS w sl jb pb fb S js (V.setCell ⟨b, 0, none⟩ u) := by
 obtain ⟨A, cap, hj, _, _⟩ := h.pu.box
 exact ⟨Boxed.other h.lx (boxed_ne h.lx hb (by decide)) _, Boxed.other h.pt (boxed_ne h.pt hb (by decide)) _, Boxed.other h.fr (boxed_ne h.fr hb (by decide)) _, h.pu.setO hb (fun x e => by cases e) (by decide) (boxed_ne hj hb (by decide)) u, h.b.setCell (p := ⟨b, 0, none⟩) hB u⟩
end
theorem gok_nil {B : Nat} {W : World} {x : Fv} (hx : FvW x) (hc : x.c = []) : GOk TJb B W ⟨x, none, 0⟩ := by
 refine ⟨hx, ?_, fun h => absurd hc h⟩
 show CRow W none 0 x.c
 rw [hc]
 exact CRow.nil _ _ (by decide)
def CrC (bl : Nat) (sl : Value) (pb jb fb : Nat) (S : Int) (b q : Nat) (x : Ts) (W : World) : Prop :=
 W.cell? ⟨bl, 0, none⟩ = some sl ∧ W.cell? ⟨pb, 0, none⟩ = some (.func (.func 33) #[] #[.pointer (some ⟨jb, 0, none⟩)]) ∧ W.cell? ⟨fb, 0, none⟩ = some (.int .i64 S) ∧ W.cell? ⟨b, q + 1, none⟩ = some (.int .i64 x.c) ∧ W.cell? ⟨b, q + 4, none⟩ = some (.int .i64 x.j) ∧ W.cell? ⟨b, q + 5, none⟩ = some (.int .i64 x.q)
theorem CrC.of {w V : World} {b o cap jb pb fb n : Nat} {l : List Ts} {S : Int} {js : List Fv} {x : Ts} (h : CrS w (.slice (some ⟨b, o, none⟩) l.length cap) jb pb fb S js V) (hR : Row w (some ⟨b, o, none⟩) cap l) (hx : l[n]? = some x) : CrC w.heap.size (.slice (some ⟨b, o, none⟩) l.length cap) pb jb fb S b (o + n * 7) x V := by
 obtain ⟨b', o', x', e, hx', _, hl, hT⟩ := hR.get (List.getElem?_eq_some_iff.1 hx).1
 cases e
 obtain rfl : x = x' := by rw [hx] at hx'; simpa using hx'
 have hT2 : TAt V b (o + n * 7) x := ⟨fun j v hv => (h.b.cell (p := ⟨b, o + n * 7 + j, none⟩) hl).trans (hT.r j v hv)⟩
 exact ⟨h.lx.cell, h.pt.cell, h.fr.cell, hT2.c1, hT2.c4, hT2.c5⟩
def CrF (bl : Nat) (sl : Value) (pb jb fb : Nat) (S : Int) (b q : Nat) (x : Ts) (W : World) : Prop :=
 W.cell? ⟨bl, 0, none⟩ = some sl ∧ W.cell? ⟨pb, 0, none⟩ = some (.func (.func 33) #[] #[.pointer (some ⟨jb, 0, none⟩)]) ∧ W.cell? ⟨fb, 0, none⟩ = some (.int .i64 S) ∧ W.cell? ⟨b, q + 1, none⟩ = some (.int .i64 x.c)
theorem CrF.of {w V : World} {b o cap jb pb fb n : Nat} {l : List Ts} {S : Int} {js : List Fv} {x : Ts} (h : CrS w (.slice (some ⟨b, o, none⟩) l.length cap) jb pb fb S js V) (hR : Row w (some ⟨b, o, none⟩) cap l) (hx : l[n]? = some x) : CrF w.heap.size (.slice (some ⟨b, o, none⟩) l.length cap) pb jb fb S b (o + n * 7) x V := by
 obtain ⟨b', o', x', e, hx', _, hl, hT⟩ := hR.get (List.getElem?_eq_some_iff.1 hx).1
 cases e
 obtain rfl : x = x' := by rw [hx] at hx'; simpa using hx'
 have hT2 : TAt V b (o + n * 7) x := ⟨fun j v hv => (h.b.cell (p := ⟨b, o + n * 7 + j, none⟩) hl).trans (hT.r j v hv)⟩
 exact ⟨h.lx.cell, h.pt.cell, h.fr.cell, hT2.c1⟩
def PC (B : Nat) (k : Nat) (T : TypeId) : Prop := (T ≠ TJs ∧ T ≠ TJb ∧ T ≠ TBo) ∨ k < B
theorem KeepG.pj {B : Nat} {V V' : World} (h : KeepG (PJ B) V V') : KeepG (PC B) V V' := h.weak fun k cs T fr _ hp => by
 rcases hp with hp | hp
 ·exact .inl ⟨hp.1, hp.2.1⟩
 ·exact .inr hp
theorem pc_set {B b : Nat} {V : World} {v : Bool} (h : Boxed V b TBo (.bool v)) (hB : B ≤ b) (u : Value) : KeepG (PC B) V (V.setCell ⟨b, 0, none⟩ u) := KeepG.setCell u fun cs T fr hc hP => by
 have h' : V.heap[b]? = some (.cells #[.bool v] TBo (0, 0)) := h
 rw [h'] at hc
 simp only [Option.some.injEq, Obj.cells.injEq] at hc
 rcases hP with hP | hP
 ·exact hP.2.2 hc.2.1.symm
 ·exact absurd hP (by show ¬ b < B; omega)
def CrD (bl : Nat) (sl : Value) (fb : Nat) (S : Int) (b q : Nat) (x : Ts) (W : World) : Prop :=
 W.cell? ⟨bl, 0, none⟩ = some sl ∧ W.cell? ⟨fb, 0, none⟩ = some (.int .i64 S) ∧ W.cell? ⟨b, q + 3, none⟩ = some (.int .i64 x.d) ∧ W.cell? ⟨b, q + 4, none⟩ = some (.int .i64 x.j)
theorem CrD.of {w V : World} {b o cap jb pb fb n : Nat} {l : List Ts} {S : Int} {js : List Fv} {x : Ts} (h : CrS w (.slice (some ⟨b, o, none⟩) l.length cap) jb pb fb S js V) (hR : Row w (some ⟨b, o, none⟩) cap l) (hx : l[n]? = some x) : CrD w.heap.size (.slice (some ⟨b, o, none⟩) l.length cap) fb S b (o + n * 7) x V := by
 obtain ⟨b', o', x', e, hx', _, hl, hT⟩ := hR.get (List.getElem?_eq_some_iff.1 hx).1
 cases e
 obtain rfl : x = x' := by rw [hx] at hx'; simpa using hx'
 have hT2 : TAt V b (o + n * 7) x := ⟨fun j v hv => (h.b.cell (p := ⟨b, o + n * 7 + j, none⟩) hl).trans (hT.r j v hv)⟩
 exact ⟨h.lx.cell, h.fr.cell, hT2.c3, hT2.c4⟩
end
section
section
variable {l : List Ts} {k : Nat} {y : Ts}
theorem scene_split (hy : l[k]? = some y) (hn : l.length ≤ 1024) : sceneS l (k : Int) = headS l (k : Int) ++ [⟨k, startS l (k : Int) - y.j, startS l (k : Int), y.c, []⟩] ++ (nums (higherF l (k : Int))).flatMap (perL l (k : Int)) := by
 unfold sceneS
 rw [higher_hp hy hn, tk_get hy]
theorem per_a (hc : (chkAll l).2 = 0) (hy : l[k]? = some y) {x : Nat} {z : Ts} (hz : l[x]? = some z) : 1 ≤ y.d - y.j + z.j ∧ 1 ≤ z.t ∧ z.j < z.t ∧ perN l (k : Int) x = (ceilI (y.d - y.j + z.j) z.t).toNat := by
 have hd := chk_d hc
 have hv := vs_of hc
 have d1 := hd y (List.mem_of_getElem? hy)
 have d2 := hd z (List.mem_of_getElem? hz)
 have v1 := hv.all y (List.mem_of_getElem? hy)
 have v2 := hv.all z (List.mem_of_getElem? hz)
 have := d1.cj; have := v1.c0; have := v2.j0; have := v2.c0; have := d2.cj; have := d2.dt; have := v2.t0
 refine ⟨by omega, by omega, by omega, ?_⟩
 unfold perN
 rw [tk_get hy, tk_get hz]
theorem per_lt (hc : (chkAll l).2 = 0) (hy : l[k]? = some y) {x : Nat} {z : Ts} (hz : l[x]? = some z) (S : Int) (n : Nat) : S - z.j + (n : Int) * z.t < S + y.d - y.j ↔ n < perN l (k : Int) x := by
 obtain ⟨h1, h2, h3, h4⟩ := per_a hc hy hz
 obtain ⟨c1, c2, c3⟩ := ceil_bd h2 h1
 rw [h4]
 generalize ceilI (y.d - y.j + z.j) z.t = C at *
 constructor
 ·intro h
  rcases Nat.lt_or_ge n C.toNat with g | g
  ·exact g
  ·have := Int.mul_le_mul_of_nonneg_right (show C ≤ (n : Int) by omega) (show 0 ≤ z.t by omega)
   omega
 ·intro h
  have := Int.mul_le_mul_of_nonneg_right (show (n : Int) ≤ C - 1 by omega) (show 0 ≤ z.t by omega)
  omega
theorem perJ_is {x : Nat} {z : Ts} (hz : l[x]? = some z) (hj : 0 ≤ z.j) (ht : z.j < z.t) (S : Int) (n : Nat) : perJ l S x n = ⟨x, S - z.j + (n : Int) * z.t, max (S - z.j + (n : Int) * z.t) S, z.c, []⟩ := by
 unfold perJ
 rw [tk_get hz]
 split
 ·rename_i h
  subst h
  have e : max (S - z.j + ((0 : Nat) : Int) * z.t) S = S := by simp only [Int.natCast_zero, Int.zero_mul]; omega
  rw [e]
  simp
 ·rename_i h
  have h1 := Int.mul_le_mul_of_nonneg_right (show (1 : Int) ≤ (n : Int) by omega) (show 0 ≤ z.t by omega)
  have e : max (S - z.j + (n : Int) * z.t) S = S - z.j + (n : Int) * z.t := by omega
  rw [e]
theorem per_snoc {S : Int} {x n : Nat} : (List.range (n + 1)).map (perJ l S x) = (List.range n).map (perJ l S x) ++ [perJ l S x n] := by
 rw [List.range_succ, List.map_append]; rfl
theorem scene_more {H : List Fv} {f : Nat → List Fv} {L pre r : List Nat} {x n N : Nat} {Q : List Fv} (hL : L = pre ++ x :: r) (hx : (f x).length = N) (hn : n < N) (hQ : Q.length = n) (hlen : (H ++ pre.flatMap f ++ Q).length = 4096) : 4096 < (H ++ L.flatMap f).length := by
 subst hL
 simp only [List.length_append, List.flatMap_append, List.flatMap_cons] at *
 omega
end
end
section
open Go.RowKit
theorem scrit_not (A : Option Addr) (cap : Nat) (l : List Ts) (i : Int) (w : World) (hR : Row w A cap l) (hi : in64 i) (hb : isB l i = false) :
  Calls Tryz.prog 14 #[.slice A l.length cap, .int .i64 i] w fun e w' => e = .returned (.tuple #[.slice none 0 0, .int .i64 0, .int .i64 1]) ∧ Below w.heap.size w w' := by
 obtain ⟨W1, hW1, X1, B1⟩ : ∃ W1, w.alloc (.cells #[.slice A l.length cap] TTks) = W1 ∧ Boxed W1 w.heap.size TTks (.slice A l.length cap) ∧ Below w.heap.size w W1 := ⟨_, rfl, Boxed.new _ _ _, (Below.refl _ _).alloc (Nat.le_refl _) _⟩
 have K0 := smay_any A cap l i W1 (hR.later B1) hi
 rw [hb] at K0
 have K := Lib.hid K0
 have HB1 := Lib.hid B1
 have c0 := X1.cell
 clear hR B1 hb K0 X1
 go_enter Tryz.func14, Tryz.ntmps14
 go_upto_region 1 with (fail)
 clear hW1
 refine wp_scope_straight ?_
 go_wp2_with (go_at_call 32; (with_reducible refine K.out.mono ?_); rintro e w2 ⟨rfl, h2⟩; have H2 := Lib.hid (HB1.out.trans (h2.mono HB1.out.size)); clear h2)
 (try simp only [Exit.noGoto])
 exact bodyPost_ret (v := .tuple #[.slice none 0 0, .int .i64 0, .int .i64 1]) (by simp [results, Tryz.f14, go_sem]) rfl ⟨rfl, H2.out⟩
end
section
open Go.RowKit
attribute [local go_sem ↓] Go.wp_at_zero Go.wp_at_succ
structure SpR (w : World) (A : Option Addr) (cap : Nat) (l : List Spn) : Prop where
 le : l.length ≤ cap
 mx : cap ≤ 9223372036854775807
 at_ : ∀ i x, l[i]? = some x → ∃ b o, A = some ⟨b, o, none⟩ ∧ w.rangeAt b (o + i * 3) (snL x)
theorem spC_get (l : List Spn) : ∀ (i : Nat) (x : Spn), l[i]? = some x → ∀ j v, (snL x)[j]? = some v → (spC l)[i * 3 + j]? = some v := by
 induction l with
 | nil => intro i x h; simp at h
 | cons a r ih =>
   intro i x h j v hv
   have hj : j < 3 := by
    rcases Nat.lt_or_ge j 3 with h | h
    ·exact h
    ·rw [List.getElem?_eq_none (by simp [snL]; omega)] at hv; cases hv
   have e : spC (a :: r) = snL a ++ spC r := rfl
   cases i with
   | zero =>
     simp at h; subst h
     rw [Nat.zero_mul, Nat.zero_add, e, List.getElem?_append_left (by simp [snL]; omega)]
     exact hv
   | succ i =>
     simp only [List.getElem?_cons_succ] at h
     have := ih i x h j v hv
     rw [e, List.getElem?_append_right (by simp [snL]; omega)]
     rw [show (i + 1) * 3 + j - (snL a).length = i * 3 + j by simp [snL]; omega]
     exact this
theorem spr_own {B : Nat} {w : World} {v : Value} {l : List Spn} (h : w.ownsRow B TSp 3 v l.length (spC l)) : ∃ A cap, v = .slice A l.length cap ∧ SpR w A cap l := by
 obtain ⟨A, cap, hv, hle, hmx⟩ := own_len h
 refine ⟨A, cap, hv, hle, by unfold maxLen at hmx; omega, fun i x hx => ?_⟩
 have hi := (List.getElem?_eq_some_iff.1 hx).1
 obtain ⟨g, cap', hv', hB, hgl, _, _, _⟩ := own_form h (by omega)
 rw [hv] at hv'
 simp only [Value.slice.injEq] at hv'
 obtain ⟨rfl, _, rfl⟩ := hv'
 refine ⟨g, 0, rfl, fun j u hu => ?_⟩
 rw [Nat.zero_add]
 exact own_cell h (g := g) (by rw [hv]; rfl) (spC_get l i x hx j u hu)
end
section
open Go.RowKit
theorem en_bd {ts : List Ts} {js : List Fv} (hl : Lg js) {n : Nat} (hn : n ≤ 9223372036854775807) : ∀ x ∈ (tst ts js n).en, in64 x := by
 have hI := ti_all (ts := ts) hl n
 intro x hx
 obtain ⟨i, hi, rfl⟩ := List.getElem_of_mem hx
 have e : kO (tst ts js n).en i = (tst ts js n).en[i] := by simp [kO, hi]
 have := hI.en i (by rw [← hI.le]; exact hi)
 unfold in64
 omega
end
end Go.Proofs.YthfkbbiaemmndaaGreatDoor
