/- Texts about the program, one after the other: JClo, HPure, EBase, ESpn. -/
import Derived.WalkKit
import Derived.ProofKit
import Derived.Handy
import Derived.Lib.Hide
import Derived.Deep.MidRow
import Derived.Deep.QuietTactic
import Derived.BigQuiet
import Derived.Deep.RegionHeld3
import Derived.Laws.Externs
import Derived.RangeFuncBox
import Derived.Deep.CutBlock
import Derived.Deep.LoopGhost
import Derived.WalkMore
import Derived.Deep.RegionHeldLaw
import Derived.Laws.OwnMore
import Derived.StillTailTactics
import Derived.Sort.LoopGhostIn
import Derived.Laws.BytesString
import Derived.Laws.AppendOwn
import Derived.RangeFuncRecord
import Derived.MapKept
import Derived.RangeFuncNested
import Derived.RangeFuncBound
import Derived.RangeFuncCalls
import Derived.RangeFuncLeaves
import Derived.RangeFuncWrites
import Derived.Shelf.Abstract
import Derived.OwnWalkIn
import Derived.TacticsInMore
import Derived.LoopNIn
import Derived.LoopIn
import Derived.Deep.Quiet
import Derived.Shelf.Small.Bits
import Derived.Shelf.Small.Strs
import Derived.Shelf.Small.Wraps
import Derived.Shelf.Strconv.Itoa0
import Derived.Shelf.LaysM
import Derived.Shelf.Strconv.Clone
import Derived.Shelf.Strings.Search1
import Derived.Shelf.Bits.Mul64
import Derived.Ground.Names2Prog
import Derived.Shelf.Slices.SearchI
import Derived.Below
import Derived.ChangeOld
import Derived.OpenShut
import Derived.LaidMore
import Derived.Maps.AppendAt
import Derived.Test.YthfkbbiaemmndaaGreatDoorRows
import Derived.Test.YthfkbbiaemmndaaGreatDoorProg
import Derived.Laws.CopyOwn
import Derived.IntWalk
import Derived.OwnWalk
import Derived.Deep.RegionLaw
import Derived.BigRegion
import Derived.Deep.DrawnRows
import Derived.Lib.SliceRun
import Derived.Deep.AppendSrc
import Derived.Deep.Upon
import Derived.Deep.DeepAppendWide
import Derived.OrdersIn
import Derived.Test.YthfkbbiaemmndaaGreatDoorG3
import Derived.Test.YthfkbbiaemmndaaGreatDoorG4
import Derived.Test.YthfkbbiaemmndaaGreatDoorG6
import Derived.Test.YthfkbbiaemmndaaGreatDoorG7
set_option linter.unusedVariables false
set_option linter.unusedSimpArgs false
set_option maxRecDepth 100000
set_option maxHeartbeats 16000000
namespace Go.Proofs.YthfkbbiaemmndaaGreatDoor
section
open Go.RowKit
theorem box_job (w : World) (x : Fv) (C : Option Addr) (cc : Nat) : Below w.heap.size w (w.alloc (.cells #[.int .i64 x.t, .int .i64 x.a, .int .i64 x.r, .int .i64 x.k, .slice C x.c.length cc] 74)) := (Below.refl _ _).alloc (Nat.le_refl _) _
theorem clo1_any (x : Fv) (C A : Option Addr) (cc n cap bl : Nat) (w : World) (hl : w.cell? ⟨bl, 0, none⟩ = some (.slice A n cap)) (hn : n ≤ 1024) :
  Calls Tryz.prog 64 #[fvV x C cc, .pointer (some ⟨bl, 0, none⟩)] w fun e w' => e = .returned (.bool (inB x.t 0 ((n : Int) - 1))) ∧ Below w.heap.size w w' := by
 have b0 := box_job w x C cc
 have hbl := World.block_lt_of_cell? w _ hl
 have K := Lib.hid (fun W => within_any x.t 0 ((n : Int) - 1) W)
 have B0 := Lib.hid b0
 clear b0
 go_enter Tryz.func64, Tryz.ntmps64
 go_wp2_with (go_at_call 65; (with_reducible refine (K.out _).mono ?_); rintro e w1 ⟨rfl, rfl⟩)
 go_ret
 exact ⟨rfl, B0.out⟩
def Lt2 (W1 : World) (b8 M : Nat) (W : World) : Prop := Below W1.heap.size W1 W
abbrev D2 (W1 : World) (b8 M : Nat) (x : Fv) (A : Option Addr) (n cap : Nat) (W : World) : Prop :=
 W.cell? ⟨b8, 0, none⟩ = some (.int .i64 x.t) ∧ W.cell? ⟨b8, 1, none⟩ = some (.int .i64 x.a) ∧ W.cell? ⟨M + 1, 0, none⟩ = some (.slice A n cap) ∧ W.cell? ⟨M + 1, 1, none⟩ = some (.map (some M)) ∧ Lt2 W1 b8 M W
theorem D2.step {W1 : World} {b8 M : Nat} {x : Fv} {A : Option Addr} {n cap : Nat} {W W' : World} (h : D2 W1 b8 M x A n cap W) (hb : Below W.heap.size W W') : D2 W1 b8 M x A n cap W' := by
 obtain ⟨h0, h1, h2, h3, hl⟩ := h
 have hc := cells_below hb
 exact ⟨hc _ _ _ h0, hc _ _ _ h1, hc _ _ _ h2, hc _ _ _ h3, Below.trans hl (hb.mono (Below.size hl))⟩
theorem clo2_any (x : Fv) (C A : Option Addr) (cc cap M : Nat) (ts : List Ts) (js : List Fv) (w : World) (hA : Arr A ts.length cap M w js) (hT : Row w A cap ts) (hv : Vs ts)
  (hj : ∀ j ∈ js, 0 ≤ j.t ∧ j.t < ts.length ∧ 0 ≤ j.a ∧ j.a ≤ 35184372088832) :
  Calls Tryz.prog 66 #[fvV x C cc, .pointer (some ⟨M + 1, 0, none⟩)] w fun e w' => e = .returned (.bool (inB x.a (soonI ts js x.t) 17592186044416)) ∧ Below w.heap.size w w' := by
 have b0 := box_job w x C cc
 have hlt := hA.lt
 have hA1 := hA.later b0
 have hc := fun i => cell_of_row (w.alloc (.cells #[.int .i64 x.t, .int .i64 x.a, .int .i64 x.r, .int .i64 x.k, .slice C x.c.length cc] 74)) w.heap.size i _ _ _ (heap_alloc_new w _)
 have HD0 : Hid (D2 (w.alloc (.cells #[.int .i64 x.t, .int .i64 x.a, .int .i64 x.r, .int .i64 x.k, .slice C x.c.length cc] 74)) w.heap.size M x A ts.length cap (w.alloc (.cells #[.int .i64 x.t, .int .i64 x.a, .int .i64 x.r, .int .i64 x.k, .slice C x.c.length cc] 74))) := Lib.hid ⟨hc 0, hc 1, hA1.c0, hA1.c1, Below.refl _ _⟩
 have KS : Hid (∀ W, D2 (w.alloc (.cells #[.int .i64 x.t, .int .i64 x.a, .int .i64 x.r, .int .i64 x.k, .slice C x.c.length cc] 74)) w.heap.size M x A ts.length cap W → Calls Tryz.prog 39 #[.agg #[.slice A ts.length cap, .map (some M)], .int .i64 x.t] W fun e w' => e = .returned (.int .i64 (soonI ts js x.t)) ∧ Below W.heap.size W w') :=
  Lib.hid fun W hD => (hA1.later hD.2.2.2.2).soon ((hT.later b0).later hD.2.2.2.2) hv x.t hj
 have KW := Lib.hid (fun W => within_any x.a (soonI ts js x.t) 17592186044416 W)
 generalize soonI ts js x.t = sp at *
 have B0 := Lib.hid b0
 clear b0 hA hA1 hT hv hj hc
 go_enter Tryz.func66, Tryz.ntmps66
 go_upto_region 1 with (fail)
 generalize (w.alloc (.cells #[.int .i64 x.t, .int .i64 x.a, .int .i64 x.r, .int .i64 x.k, .slice C x.c.length cc] 74)) = W1 at *
 generalize hN : w.heap.size = N at *
 have HD1 := Lib.hid (D2.step HD0.out (below_drew W1))
 go_region_held_law (fun W => D2 W1 N M x A ts.length cap W)
  (first | (with_reducible assumption) | (with_reducible exact HD1.out) | (with_reducible exact HD2.out) | fail)
  (first
  | (go_at_call 39; (with_reducible refine (KS.out _ (by with_reducible assumption)).mono ?_); rintro e w2 ⟨rfl, h2⟩; have HD2 := Lib.hid (D2.step (by with_reducible assumption) h2))
  | (go_at_call 65; (with_reducible refine (KW.out _).mono ?_); rintro e w3 ⟨rfl, rfl⟩)
  | fail)
 go_wp2
 go_ret
 exact ⟨rfl, by rw [hN]; exact B0.out.trans (HD2.out.2.2.2.2.mono (by have := B0.out.size; omega))⟩
theorem clo3_any (x : Fv) (C A : Option Addr) (cc cap bl p : Nat) (ts : List Ts) (w : World) (hl : w.cell? ⟨bl, 0, none⟩ = some (.slice A ts.length cap)) (hT : Row w A cap ts) (hv : Vs ts) (hp : x.t = (p : Int)) (hpl : p < ts.length) (ha : 0 ≤ x.a ∧ x.a ≤ 35184372088832) :
  Calls Tryz.prog 67 #[fvV x C cc, .pointer (some ⟨bl, 0, none⟩)] w fun e w' => e = .returned (.bool (inB x.r x.a (x.a + (tk ts x.t).j))) ∧ Below w.heap.size w w' := by
 obtain ⟨xt, xa, xr, xk, xc⟩ := x
 simp only at hp ha ⊢
 subst hp
 have b0 := box_job w ⟨(p : Int), xa, xr, xk, xc⟩ C cc
 have hbl := World.block_lt_of_cell? w _ hl
 obtain ⟨tb, tq, y, rfl, hy, hyw, htb, hY⟩ := hT.get (k := p) hpl
 have hyt : tk ts (p : Int) = y := tk_get hy
 have hyo := hv.tk (p : Int)
 rw [hyt] at hyo ⊢
 have hY1 := hY.later b0
 have hc := fun i => cell_of_row (w.alloc (.cells #[.int .i64 (p : Int), .int .i64 xa, .int .i64 xr, .int .i64 xk, .slice C xc.length cc] 74)) w.heap.size i _ _ _ (heap_alloc_new w _)
 have l1 := cells_below b0 _ _ _ hl
 have p0 : (0 : Int) ≤ (p : Int) := by omega
 have p1 : (p : Int) < (ts.length : Int) := by omega
 have yj0 := hyo.j0
 have yj1 := hyo.j1
 have hw : IntKind.i64.wrap (xa + y.j) = xa + y.j := IntWalk.i64_in _ (by omega)
 have K : Hid (∀ W, Calls Tryz.prog 65 #[.int .i64 xr, .int .i64 xa, .int .i64 (xa + y.j)] W fun e w' => e = .returned (.bool (inB xr xa (xa + y.j))) ∧ w' = W) := Lib.hid (fun W => (within_any xr xa (xa + y.j) W).mono fun e w' h => ⟨h.1, h.2.symm⟩)
 have B0 := Lib.hid b0
 have z0 := hc 0
 have z1 := hc 1
 have z2 := hc 2
 have z3 := hc 3
 have z4 := hc 4
 have t1 := hY1.c1
 have t4 := hY1.c4
 have t5 := hY1.c5
 clear b0 hT hv hc hy hyt hY hY1 hl
 go_enter Tryz.func67, Tryz.ntmps67
 go_upto_region 1 with (fail)
 simp only [List.getElem?_toArray, List.getElem?_cons_zero, List.getElem?_cons_succ] at z0 z1 z2 z3 z4
 generalize (w.alloc (.cells #[.int .i64 (p : Int), .int .i64 xa, .int .i64 xr, .int .i64 xk, .slice C xc.length cc] 74)) = W1 at *
 generalize hN : w.heap.size = N at *
 go_still_tail 14, (by kernel_rfl)
 still_call (K.out _)
 repeat still_step
 refine wpStill_nil ?_
 change wpList _ _ _ _ _ W1.drew
 have HB2 : Hid (Below N w W1.drew) := Lib.hid (B0.out.trans ((below_drew W1).mono (by have := B0.out.size; omega)))
 generalize W1.drew = W2 at *
 go_wp2
 go_ret
 exact ⟨rfl, by first | exact HB2.out | (rw [hN]; exact HB2.out)⟩
theorem clo4_any (x : Fv) (C A : Option Addr) (cc cap bl p : Nat) (ts : List Ts) (w : World) (hl : w.cell? ⟨bl, 0, none⟩ = some (.slice A ts.length cap)) (hT : Row w A cap ts) (hv : Vs ts) (hp : x.t = (p : Int)) (hpl : p < ts.length) :
  Calls Tryz.prog 68 #[fvV x C cc, .pointer (some ⟨bl, 0, none⟩)] w fun e w' => e = .returned (.bool (inB x.k 1 (tk ts x.t).c)) ∧ Below w.heap.size w w' := by
 obtain ⟨xt, xa, xr, xk, xc⟩ := x
 simp only at hp ⊢
 subst hp
 have b0 := box_job w ⟨(p : Int), xa, xr, xk, xc⟩ C cc
 have hbl := World.block_lt_of_cell? w _ hl
 obtain ⟨tb, tq, y, rfl, hy, hyw, htb, hY⟩ := hT.get (k := p) hpl
 have hyt : tk ts (p : Int) = y := tk_get hy
 have hyo := hv.tk (p : Int)
 rw [hyt] at hyo ⊢
 have hY1 := hY.later b0
 have hc := fun i => cell_of_row (w.alloc (.cells #[.int .i64 (p : Int), .int .i64 xa, .int .i64 xr, .int .i64 xk, .slice C xc.length cc] 74)) w.heap.size i _ _ _ (heap_alloc_new w _)
 have l1 := cells_below b0 _ _ _ hl
 have p0 : (0 : Int) ≤ (p : Int) := by omega
 have p1 : (p : Int) < (ts.length : Int) := by omega
 have K : Hid (∀ W, Calls Tryz.prog 65 #[.int .i64 xk, .int .i64 1, .int .i64 y.c] W fun e w' => e = .returned (.bool (inB xk 1 y.c)) ∧ w' = W) := Lib.hid (fun W => (within_any xk 1 y.c W).mono fun e w' h => ⟨h.1, h.2.symm⟩)
 have B0 := Lib.hid b0
 have z0 := hc 0
 have z1 := hc 1
 have z2 := hc 2
 have z3 := hc 3
 have z4 := hc 4
 have t1 := hY1.c1
 have t4 := hY1.c4
 have t5 := hY1.c5
 clear b0 hT hv hc hy hyt hY hY1 hl
 go_enter Tryz.func68, Tryz.ntmps68
 go_upto_region 1 with (fail)
 simp only [List.getElem?_toArray, List.getElem?_cons_zero, List.getElem?_cons_succ] at z0 z1 z2 z3 z4
 generalize (w.alloc (.cells #[.int .i64 (p : Int), .int .i64 xa, .int .i64 xr, .int .i64 xk, .slice C xc.length cc] 74)) = W1 at *
 generalize hN : w.heap.size = N at *
 go_still_tail 9, (by kernel_rfl)
 still_call (K.out _)
 repeat still_step
 refine wpStill_nil ?_
 change wpList _ _ _ _ _ W1.drew
 have HB2 : Hid (Below N w W1.drew) := Lib.hid (B0.out.trans ((below_drew W1).mono (by have := B0.out.size; omega)))
 generalize W1.drew = W2 at *
 go_wp2
 go_ret
 exact ⟨rfl, by first | exact HB2.out | (rw [hN]; exact HB2.out)⟩
theorem clo5_any (x : Fv) (C A : Option Addr) (cc cap bl p : Nat) (ts : List Ts) (w : World) (hl : w.cell? ⟨bl, 0, none⟩ = some (.slice A ts.length cap)) (hT : Row w A cap ts) (hv : Vs ts) (hp : x.t = (p : Int)) (hpl : p < ts.length) (hk : 0 ≤ x.k ∧ x.k ≤ 2147483647) (hs : CRow w C cc x.c) :
  Calls Tryz.prog 69 #[fvV x C cc, .pointer (some ⟨bl, 0, none⟩)] w fun e w' => e = .returned (.bool (fitB (tk ts x.t).q x.k x.c)) ∧ Below w.heap.size w w' := by
 obtain ⟨xt, xa, xr, xk, xc⟩ := x
 simp only at hp hk ⊢
 subst hp
 have b0 := box_job w ⟨(p : Int), xa, xr, xk, xc⟩ C cc
 have hbl := World.block_lt_of_cell? w _ hl
 obtain ⟨tb, tq, y, rfl, hy, hyw, htb, hY⟩ := hT.get (k := p) hpl
 have hyt : tk ts (p : Int) = y := tk_get hy
 have hyo := hv.tk (p : Int)
 rw [hyt] at hyo ⊢
 have hY1 := hY.later b0
 have hc := fun i => cell_of_row (w.alloc (.cells #[.int .i64 (p : Int), .int .i64 xa, .int .i64 xr, .int .i64 xk, .slice C xc.length cc] 74)) w.heap.size i _ _ _ (heap_alloc_new w _)
 have l1 := cells_below b0 _ _ _ hl
 have p0 : (0 : Int) ≤ (p : Int) := by omega
 have p1 : (p : Int) < (ts.length : Int) := by omega
 have yq1 := hyo.q1
 have K : Hid (∀ W, Below (w.alloc (.cells #[.int .i64 (p : Int), .int .i64 xa, .int .i64 xr, .int .i64 xk, .slice C xc.length cc] 74)).heap.size (w.alloc (.cells #[.int .i64 (p : Int), .int .i64 xa, .int .i64 xr, .int .i64 xk, .slice C xc.length cc] 74)) W → Calls Tryz.prog 70 #[.slice C xc.length cc, .int .i64 y.q, .int .i64 xk] W fun e w' => e = .returned (.bool (fitB y.q xk xc)) ∧ w' = W) := Lib.hid (fun W hb => cutsFit_any C cc xc y.q xk W ((hs.later b0).later hb) yq1 (by omega) (by omega))
 have B0 := Lib.hid b0
 have z0 := hc 0
 have z1 := hc 1
 have z2 := hc 2
 have z3 := hc 3
 have z4 := hc 4
 have t1 := hY1.c1
 have t4 := hY1.c4
 have t5 := hY1.c5
 clear b0 hT hv hc hy hyt hY hY1 hl
 go_enter Tryz.func69, Tryz.ntmps69
 go_upto_region 1 with (fail)
 simp only [List.getElem?_toArray, List.getElem?_cons_zero, List.getElem?_cons_succ] at z0 z1 z2 z3 z4
 generalize (w.alloc (.cells #[.int .i64 (p : Int), .int .i64 xa, .int .i64 xr, .int .i64 xk, .slice C xc.length cc] 74)) = W1 at *
 generalize hN : w.heap.size = N at *
 go_still_tail 11, (by kernel_rfl)
 still_call (K.out _ (below_drew W1))
 repeat still_step
 refine wpStill_nil ?_
 change wpList _ _ _ _ _ W1.drew
 have HB2 : Hid (Below N w W1.drew) := Lib.hid (B0.out.trans ((below_drew W1).mono (by have := B0.out.size; omega)))
 generalize W1.drew = W2 at *
 go_wp2
 go_ret
 exact ⟨rfl, by first | exact HB2.out | (rw [hN]; exact HB2.out)⟩
end
section
section
variable {E : Type} (key : E → Int)
def lexB (a b : E × Nat) : Bool := decide (key a.1 < key b.1) || (decide (key a.1 = key b.1) && decide (a.2 < b.2))
theorem lexB_true {a b : E × Nat} : lexB key a b = true ↔ key a.1 < key b.1 ∨ (key a.1 = key b.1 ∧ a.2 < b.2) := by simp [lexB]
theorem lexB_false {a b : E × Nat} : lexB key a b = false ↔ ¬ (key a.1 < key b.1 ∨ (key a.1 = key b.1 ∧ a.2 < b.2)) := by
 rw [← lexB_true, Bool.not_eq_true]
theorem lexB_first (a b : E × Nat) : lexB key a b = (if a.2 < b.2 then !decide (key b.1 < key a.1) else decide (key a.1 < key b.1)) := by
 rw [Bool.eq_iff_iff, lexB_true]
 split <;> simp <;> omega
def Hp (l : List (E × Nat)) : Prop := ∀ i a b, 0 < i → l[i]? = some a → l[(i - 1) / 2]? = some b → lexB key a b = false
structure Up (l : List (E × Nat)) (k : Nat) : Prop where
 rest : ∀ i a b, 0 < i → i ≠ k → l[i]? = some a → l[(i - 1) / 2]? = some b → lexB key a b = false
 over : ∀ i a b, 0 < i → (i - 1) / 2 = k → 0 < k → l[i]? = some a → l[(k - 1) / 2]? = some b → lexB key a b = false
structure Dn (l : List (E × Nat)) (k : Nat) : Prop where
 rest : ∀ i a b, 0 < i → (i - 1) / 2 ≠ k → l[i]? = some a → l[(i - 1) / 2]? = some b → lexB key a b = false
 over : ∀ i a b, 0 < i → (i - 1) / 2 = k → 0 < k → l[i]? = some a → l[(k - 1) / 2]? = some b → lexB key a b = false
def swp (l : List (E × Nat)) (i j : Nat) (x y : E × Nat) : List (E × Nat) := (l.set i y).set j x
variable {key}
theorem swp_fst {l : List (E × Nat)} {i j : Nat} {x y : E × Nat} (hi : i < l.length) (h : i ≠ j) : (swp l i j x y)[i]? = some y := by
 unfold swp
 rw [List.getElem?_set_ne (Ne.symm h), List.getElem?_set_self hi]
theorem swp_snd {l : List (E × Nat)} {i j : Nat} {x y : E × Nat} (hj : j < l.length) : (swp l i j x y)[j]? = some x := by
 unfold swp
 rw [List.getElem?_set_self (by simpa using hj)]
theorem swp_oth {l : List (E × Nat)} {i j k : Nat} {x y : E × Nat} (hi : k ≠ i) (hj : k ≠ j) : (swp l i j x y)[k]? = l[k]? := by
 unfold swp
 rw [List.getElem?_set_ne (Ne.symm hj), List.getElem?_set_ne (Ne.symm hi)]
theorem set_perm {α : Type} : ∀ (l : List α) (i : Nat) (x y : α), l[i]? = some x → (y :: l).Perm (x :: l.set i y)
 | [], i, x, y, h => by simp at h
 | a :: l, 0, x, y, h => by
   simp at h; subst h
   exact List.Perm.swap _ _ _
 | a :: l, i + 1, x, y, h => by
   have ih := set_perm l i x y (by simpa using h)
   rw [List.set_cons_succ]
   exact (List.Perm.swap _ _ _).trans ((ih.cons a).trans (List.Perm.swap _ _ _))
theorem swp_perm {l : List (E × Nat)} {i j : Nat} {x y : E × Nat} (hx : l[i]? = some x) (hy : l[j]? = some y) (h : i ≠ j) : (swp l i j x y).Perm l := by
 have h1 := set_perm l i x y hx
 have h2 := set_perm (l.set i y) j y x (by rw [List.getElem?_set_ne h]; exact hy)
 -- y :: l ~ x :: l.set i y ~ y :: swp
 exact (List.Perm.cons_inv (h1.trans h2)).symm
theorem Hp.up_last {l : List (E × Nat)} {x : E × Nat} (h : Hp key l) : Up key (l ++ [x]) l.length := by
 refine ⟨fun i a b hi hk ha hb => ?_, fun i a b hi hk h0 ha hb => ?_⟩
 ·have hl := (List.getElem?_eq_some_iff.1 ha).1
  simp at hl
  rw [List.getElem?_append_left (by omega)] at ha hb
  exact h i a b hi ha hb
 ·have hl := (List.getElem?_eq_some_iff.1 ha).1
  simp at hl
  omega
theorem Up.top {l : List (E × Nat)} (h : Up key l 0) : Hp key l := fun i a b hi ha hb => h.rest i a b hi (by omega) ha hb
theorem Up.stop {l : List (E × Nat)} {k : Nat} {x y : E × Nat} (h : Up key l k) (hx : l[k]? = some x) (hy : l[(k - 1) / 2]? = some y) (hl : lexB key x y = false) : Hp key l := fun i a b hi ha hb => by
 by_cases hk : i = k
 ·subst hk
  rw [hx] at ha; rw [hy] at hb
  cases ha; cases hb
  exact hl
 ·exact h.rest i a b hi hk ha hb
theorem Up.step {l : List (E × Nat)} {k : Nat} {x y : E × Nat} (h : Up key l k) (h0 : 0 < k) (hx : l[k]? = some x) (hy : l[(k - 1) / 2]? = some y) (hl : lexB key x y = true) : Up key (swp l k ((k - 1) / 2) x y) ((k - 1) / 2) := by
 have kl := (List.getElem?_eq_some_iff.1 hx).1
 have hne : k ≠ (k - 1) / 2 := by omega
 rw [lexB_true] at hl
 refine ⟨fun i a b hi hk ha hb => ?_, fun i a b hi hk hk0 ha hb => ?_⟩
 ·by_cases hik : i = k
  ·subst hik
   rw [swp_fst kl hne] at ha
   rw [swp_snd (by omega)] at hb
   cases ha; cases hb
   rw [lexB_false]; omega
  ·rw [swp_oth hik hk] at ha
   by_cases hp : (i - 1) / 2 = k
   ·rw [hp, swp_fst kl hne] at hb
    cases hb
    exact h.over i a y hi hp h0 ha hy
   ·by_cases hq : (i - 1) / 2 = (k - 1) / 2
    ·rw [hq, swp_snd (by omega)] at hb
     cases hb
     have := h.rest i a y hi hik ha (by rw [hq]; exact hy)
     rw [lexB_false] at this ⊢
     omega
    ·rw [swp_oth hp hq] at hb
     exact h.rest i a b hi hik ha hb
 ·have hb' : l[((k - 1) / 2 - 1) / 2]? = some b := by
   rw [swp_oth (by omega) (by omega)] at hb
   exact hb
  have hyb := h.rest ((k - 1) / 2) y b hk0 (by omega) hy hb'
  by_cases hik : i = k
  ·subst hik
   rw [swp_fst kl hne] at ha
   cases ha
   exact hyb
  ·rw [swp_oth hik (by omega)] at ha
   have := h.rest i a y hi hik ha (by rw [hk]; exact hy)
   rw [lexB_false] at this hyb ⊢
   omega
theorem Hp.dn {l : List (E × Nat)} (h : Hp key l) (x : E × Nat) : Dn key (l.set 0 x) 0 := by
 refine ⟨fun i a b hi hk ha hb => ?_, fun i a b hi hk h0 => by omega⟩
 rw [List.getElem?_set_ne (by omega)] at ha
 rw [List.getElem?_set_ne (by omega)] at hb
 exact h i a b hi ha hb
theorem Dn.take {l : List (E × Nat)} {k n : Nat} (h : Dn key l k) : Dn key (l.take n) k := by
 have t : ∀ {i : Nat} {a : E × Nat}, (l.take n)[i]? = some a → l[i]? = some a := fun {i a} ha => by
  rw [List.getElem?_take] at ha
  split at ha
  ·exact ha
  ·cases ha
 exact ⟨fun i a b hi hk ha hb => h.rest i a b hi hk (t ha) (t hb), fun i a b hi hk h0 ha hb => h.over i a b hi hk h0 (t ha) (t hb)⟩
theorem Dn.bottom {l : List (E × Nat)} {k : Nat} (h : Dn key l k) (hk : l.length ≤ 2 * k + 1) : Hp key l := fun i a b hi ha hb => by
 have hl := (List.getElem?_eq_some_iff.1 ha).1
 exact h.rest i a b hi (by omega) ha hb
def Side (key : E → Int) (l : List (E × Nat)) (k s : Nat) (y : E × Nat) : Prop := (s = 2 * k + 1 ∨ s = 2 * k + 2) ∧ l[s]? = some y ∧ ∀ i a, 0 < i → (i - 1) / 2 = k → l[i]? = some a → lexB key a y = false
theorem side_left {l : List (E × Nat)} {k : Nat} {y : E × Nat} (hy : l[2 * k + 1]? = some y) (h : l.length ≤ 2 * k + 2 ∨ ∃ z, l[2 * k + 2]? = some z ∧ lexB key z y = false) : Side key l k (2 * k + 1) y := by
 refine ⟨.inl rfl, hy, fun i a hi hk ha => ?_⟩
 have hl := (List.getElem?_eq_some_iff.1 ha).1
 rcases (by omega : i = 2 * k + 1 ∨ i = 2 * k + 2) with rfl | rfl
 ·rw [hy] at ha; cases ha
  rw [lexB_false]; omega
 ·rcases h with h | ⟨z, hz, h⟩
  ·omega
  ·rw [hz] at ha; cases ha
   exact h
theorem side_right {l : List (E × Nat)} {k : Nat} {y z : E × Nat} (hy : l[2 * k + 1]? = some y) (hz : l[2 * k + 2]? = some z) (h : lexB key z y = true) : Side key l k (2 * k + 2) z := by
 refine ⟨.inr rfl, hz, fun i a hi hk ha => ?_⟩
 rcases (by omega : i = 2 * k + 1 ∨ i = 2 * k + 2) with rfl | rfl
 ·rw [hy] at ha; cases ha
  rw [lexB_true] at h
  rw [lexB_false]; omega
 ·rw [hz] at ha; cases ha
  rw [lexB_false]; omega
theorem Dn.stop {l : List (E × Nat)} {k s : Nat} {x y : E × Nat} (h : Dn key l k) (hx : l[k]? = some x) (hs : Side key l k s y) (hl : lexB key x y = true) : Hp key l := fun i a b hi ha hb => by
 by_cases hp : (i - 1) / 2 = k
 ·rw [hp, hx] at hb
  cases hb
  have := hs.2.2 i a hi hp ha
  rw [lexB_true] at hl
  rw [lexB_false] at this ⊢
  omega
 ·exact h.rest i a b hi hp ha hb
theorem Dn.step {l : List (E × Nat)} {k s : Nat} {x y : E × Nat} (h : Dn key l k) (hx : l[k]? = some x) (hs : Side key l k s y) (hl : lexB key x y = false) : Dn key (swp l k s x y) s := by
 obtain ⟨hks, hy, hmin⟩ := hs
 have kl := (List.getElem?_eq_some_iff.1 hx).1
 have sl := (List.getElem?_eq_some_iff.1 hy).1
 have hne : k ≠ s := by omega
 have hps : (s - 1) / 2 = k := by omega
 refine ⟨fun i a b hi hk ha hb => ?_, fun i a b hi hk h0 ha hb => ?_⟩
 ·by_cases his : i = s
  ·subst his
   rw [swp_snd sl] at ha
   rw [hps, swp_fst kl hne] at hb
   cases ha; cases hb
   exact hl
  ·by_cases hik : i = k
   ·subst hik
    rw [swp_fst kl hne] at ha
    cases ha
    rw [swp_oth (by omega) hk] at hb
    exact h.over s y b (by omega) hps hi hy hb
   ·rw [swp_oth hik his] at ha
    by_cases hp : (i - 1) / 2 = k
    ·rw [hp, swp_fst kl hne] at hb
     cases hb
     exact hmin i a hi hp ha
    ·rw [swp_oth hp hk] at hb
     exact h.rest i a b hi hp ha hb
 ·rw [swp_oth (by omega) (by omega)] at ha
  rw [hps, swp_fst kl hne] at hb
  cases hb
  exact h.rest i a y hi (by omega) ha (by rw [hk]; exact hy)
def Srt (key : E → Int) (s : List (E × Nat)) : Prop := s.Pairwise (fun a b => lexB key a b = true)
theorem Hp.least {l : List (E × Nat)} (h : Hp key l) {x : E × Nat} (hx : l[0]? = some x) : ∀ (n i : Nat) (a : E × Nat), i ≤ n → l[i]? = some a → lexB key a x = false
 | _, 0, a, _, ha => by
   rw [hx] at ha; cases ha
   rw [lexB_false]; omega
 | 0, i + 1, a, hi, ha => by omega
 | n + 1, i + 1, a, hi, ha => by
   obtain ⟨b, hb⟩ : ∃ b, l[(i + 1 - 1) / 2]? = some b := by
    have hl := (List.getElem?_eq_some_iff.1 ha).1
    exact ⟨l[(i + 1 - 1) / 2]'(by omega), List.getElem?_eq_getElem (by omega)⟩
   have h1 := h (i + 1) a b (by omega) ha hb
   have h2 := h.least hx n ((i + 1 - 1) / 2) b (by omega) hb
   rw [lexB_false] at h1 h2 ⊢
   omega
theorem head_is {l s : List (E × Nat)} {x y : E × Nat} {r : List (E × Nat)} (h : Hp key l) (hp : s.Perm l) (hs : Srt key s) (hx : l[0]? = some x) (he : s = y :: r) : x = y := by
 subst he
 have hy : y ∈ l := hp.mem_iff.1 (by simp)
 have hxm : x ∈ y :: r := hp.mem_iff.2 (List.mem_of_getElem? hx)
 obtain ⟨i, hi⟩ := List.getElem?_of_mem hy
 have h1 := h.least hx i i y (Nat.le_refl _) hi
 rcases List.mem_cons.1 hxm with rfl | hm
 ·rfl
 ·have h2 : lexB key y x = true := (List.pairwise_cons.1 hs).1 x hm
  rw [h1] at h2; cases h2
def ins (key : E → Int) (x : E) : List E → List E
 | [] => [x]
 | a :: l => if key x < key a then x :: a :: l else a :: ins key x l
def insT (key : E → Int) (x : E × Nat) : List (E × Nat) → List (E × Nat)
 | [] => [x]
 | a :: l => if key x.1 < key a.1 then x :: a :: l else a :: insT key x l
theorem insT_fst (x : E × Nat) : ∀ l : List (E × Nat), (insT key x l).map Prod.fst = ins key x.1 (l.map Prod.fst)
 | [] => rfl
 | a :: l => by
   unfold insT ins
   simp only [List.map_cons]
   split
   ·simp
   ·simp [insT_fst x l]
theorem insT_perm (x : E × Nat) : ∀ l : List (E × Nat), (insT key x l).Perm (x :: l)
 | [] => List.Perm.refl _
 | a :: l => by
   unfold insT
   split
   ·exact List.Perm.refl _
   ·exact ((insT_perm x l).cons a).trans (List.Perm.swap _ _ _)
theorem insT_srt {x : E × Nat} : ∀ {l : List (E × Nat)}, Srt key l → (∀ a ∈ l, a.2 < x.2) → Srt key (insT key x l)
 | [], _, _ => List.pairwise_singleton _ _
 | a :: l, h, hx => by
   unfold insT
   obtain ⟨h1, h2⟩ := List.pairwise_cons.1 h
   split
   ·rename_i hk
    refine List.pairwise_cons.2 ⟨fun b hb => ?_, h⟩
    rw [lexB_true]
    rcases List.mem_cons.1 hb with rfl | hb
    ·exact .inl hk
    ·have := h1 b hb
     rw [lexB_true] at this
     omega
   ·rename_i hk
    refine List.pairwise_cons.2 ⟨fun b hb => ?_, insT_srt h2 (fun c hc => hx c (by simp [hc]))⟩
    rcases List.mem_cons.1 ((insT_perm x l).mem_iff.1 hb) with rfl | hb
    ·have := hx a (by simp)
     rw [lexB_true]
     omega
    ·exact h1 b hb
structure Tells (key : E → Int) (l : List (E × Nat)) (c : Nat) (L : List E) : Prop where
 hp : Hp key l
 ex : ∃ s, s.Perm l ∧ Srt key s ∧ s.map Prod.fst = L
 few : ∀ a ∈ l, a.2 < c
theorem Tells.nil (c : Nat) : Tells key [] c [] := ⟨fun i a b _ h => by simp at h, ⟨[], List.Perm.refl _, List.Pairwise.nil, rfl⟩, by simp⟩
theorem Tells.length {l : List (E × Nat)} {c : Nat} {L : List E} (h : Tells key l c L) : l.length = L.length := by
 obtain ⟨s, hp, _, rfl⟩ := h.ex
 rw [List.length_map, hp.length_eq]
theorem Tells.head {l : List (E × Nat)} {c : Nat} {L : List E} (h : Tells key l c L) {x : E × Nat} (hx : l[0]? = some x) : ∃ r, L = x.1 :: r := by
 obtain ⟨s, hp, hs, rfl⟩ := h.ex
 cases s with
 | nil => rw [List.nil_perm.1 hp] at hx; simp at hx
 | cons y r =>
   obtain rfl := head_is h.hp hp hs hx rfl
   exact ⟨r.map Prod.fst, rfl⟩
theorem Tells.push {l l' : List (E × Nat)} {c : Nat} {L : List E} {x : E} (h : Tells key l c L) (hp : l'.Perm (l ++ [(x, c)])) (hh : Hp key l') : Tells key l' (c + 1) (ins key x L) := by
 obtain ⟨s, h1, h2, rfl⟩ := h.ex
 refine ⟨hh, ⟨insT key (x, c) s, ?_, insT_srt h2 (fun a ha => h.few a (h1.mem_iff.1 ha)), insT_fst _ _⟩, fun a ha => ?_⟩
 ·exact (insT_perm _ _).trans (((h1.cons _).trans (List.perm_append_singleton _ _).symm).trans hp.symm)
 ·rcases List.mem_append.1 (hp.mem_iff.1 ha) with ha | ha
  ·have := h.few a ha; omega
  ·rw [List.mem_singleton.1 ha]; exact Nat.lt_succ_self c
theorem Tells.pop {l l' : List (E × Nat)} {c : Nat} {L : List E} {x : E × Nat} (h : Tells key l c L) (hx : l[0]? = some x) (hp : (x :: l').Perm l) (hh : Hp key l') : Tells key l' c L.tail := by
 obtain ⟨s, h1, h2, rfl⟩ := h.ex
 cases s with
 | nil => rw [List.nil_perm.1 h1] at hx; simp at hx
 | cons y r =>
   obtain rfl := head_is h.hp h1 h2 hx rfl
   refine ⟨hh, ⟨r, (List.Perm.cons_inv (h1.trans hp.symm)), (List.pairwise_cons.1 h2).2, rfl⟩, fun a ha => h.few a (hp.mem_iff.1 (by simp [ha]))⟩
theorem last_top {l : List (E × Nat)} {x y : E × Nat} (hx : l[0]? = some x) (hy : l[l.length - 1]? = some y) : (x :: (l.set 0 y).take (l.length - 1)).Perm l := by
 cases l with
 | nil => simp at hx
 | cons a r =>
   simp at hx; subst hx
   cases r with
   | nil => simp
   | cons b r =>
     have e : (b :: r) = (b :: r).dropLast ++ [y] := by
      have := List.dropLast_concat_getLast (l := b :: r) (by simp)
      have hg : (b :: r).getLast (by simp) = y := by
       rw [List.getLast_eq_getElem]
       simp at hy
       have h1 : (a :: b :: r)[r.length + 1]? = some y := by simpa using hy
       simpa using h1
      rw [hg] at this
      exact this.symm
     have e2 : ((a :: b :: r).set 0 y).take ((a :: b :: r).length - 1) = y :: (b :: r).dropLast := by
      simp [List.dropLast_eq_take]
     rw [e2]
     refine List.Perm.cons _ ?_
     conv => rhs; rw [e]
     exact (List.perm_append_singleton _ _).symm
end
end
section
open Go.RowKit
theorem below_drewN' (w : World) (n : Nat) : Below w.heap.size w (w.drewN n) := ⟨rfl, rfl, rfl, Nat.le_refl _, fun _ _ => rfl⟩
theorem own_take {w : World} {B e size n m cap g : Nat} {xs : List Value} (h : w.ownsRow B e size (.slice (some ⟨g, 0, none⟩) n cap) n xs) (hm : m ≤ n) : w.ownsRow B e size (.slice (some ⟨g, 0, none⟩) m cap) m (xs.take (m * size)) := by
 obtain ⟨h1, h2⟩ := h
 have hle : m * size ≤ n * size := Nat.mul_le_mul_right _ hm
 rcases h2 with ⟨hv, _⟩ | ⟨g', cap', cur, hv, hb, hh, hn, hmx, hs, ht⟩
 ·simp at hv
 ·simp only [Value.slice.injEq, Option.some.injEq, Addr.mk.injEq, and_true, true_and] at hv
  obtain ⟨rfl, rfl⟩ := hv
  exact ⟨by rw [List.length_take]; omega, .inr ⟨g, cap, cur, rfl, hb, hh, by omega, hmx, hs, by rw [← ht, List.take_take, Nat.min_eq_left hle]⟩⟩
theorem kept_push {Y : List Nat} {g : Nat} {w w1 w3 w4 : World} (h1 : Below w.heap.size w w1) (h2 : Kept Y w1 w3) (h3 : Kept [g] w3 w4) (ho : g ∈ Y ∨ w.heap.size ≤ g) : Kept Y w w4 := by
 have h : Kept (g :: Y) w w4 := (((Kept.of Y h1).trans h2).mono (fun k hk => List.mem_cons_of_mem _ hk)).trans (h3.mono (by simp))
 exact h.less (fun k hk => by
  rcases List.mem_cons.1 hk with rfl | hk
  ·exact ho
  ·exact .inl hk)
def blk (b : Nat) (v : Value) : List Nat := b :: v.ownBlock.toList
def Ans (t : Bool) (w : World) (e : Ending) (w' : World) : Prop := e = .returned (.bool t) ∧ Below w.heap.size w w'
theorem take_set_same {α : Type} (l : List α) (m : Nat) (x : α) : (l.set m x).take m = l.take m := by
 rw [List.take_set, List.set_eq_of_length_le (by rw [List.length_take]; omega)]
def Told (v : Value) (w : World) (e : Ending) (w' : World) : Prop := e = .returned v ∧ Below w.heap.size w w'
theorem tmod_nat (a n : Nat) : (a : Int).tmod (n : Int) = ((a % n : Nat) : Int) := by
 rw [Int.tmod_eq_emod_of_nonneg (by omega)]; omega
theorem below_drewN2 (w : World) (n : Nat) : Below w.heap.size w (w.drewN n) := ⟨rfl, rfl, rfl, Nat.le_refl _, fun _ _ => rfl⟩
def Quiet (v : Value) (w : World) (e : Ending) (w' : World) : Prop := e = .returned v ∧ ∃ m, w' = w.drewN m
theorem below_drew2 (w : World) : Below w.heap.size w w.drew.drew := ⟨rfl, rfl, rfl, Nat.le_refl _, fun _ _ => rfl⟩
theorem own_base {w : World} {B B' e size n : Nat} {v : Value} {xs : List Value} (h : w.ownsRow B e size v n xs) (hB : B' ≤ B) : w.ownsRow B' e size v n xs := by
 refine ⟨h.1, h.2.imp id ?_⟩
 rintro ⟨g, cap, cur, h1, h2, r⟩
 exact ⟨g, cap, cur, h1, Nat.le_trans hB h2, r⟩
end
section
open Go.RowKit
abbrev TSp : TypeId := 112
abbrev T64 : TypeId := 2
abbrev TIn : TypeId := 3
structure KT (S : List TypeId) (w w' : World) : Prop where
 size : w.heap.size ≤ w'.heap.size
 blk : ∀ (b : Nat) (cs : Array Value) (T : TypeId), w.heap[b]? = some (Obj.cells cs T (0, 0)) → T ∉ S → w'.heap[b]? = some (Obj.cells cs T (0, 0))
section
variable {S S' : List TypeId} {w w' w'' : World}
theorem KT.refl (S : List TypeId) (w : World) : KT S w w := ⟨Nat.le_refl _, fun _ _ _ h _ => h⟩
theorem KT.trans (h : KT S w w') (k : KT S w' w'') : KT S w w'' := ⟨Nat.le_trans h.size k.size, fun b cs T hb hT => k.blk b cs T (h.blk b cs T hb hT) hT⟩
theorem KT.mono (h : KT S w w') (hs : ∀ T ∈ S, T ∈ S') : KT S' w w' := ⟨h.size, fun b cs T hb hT => h.blk b cs T hb (fun hm => hT (hs T hm))⟩
theorem KT.of (h : Below w.heap.size w w') : KT S w w' := ⟨h.size, fun b cs T hb _ => (h.block b (Array.getElem?_eq_some_iff.1 hb).1).trans hb⟩
theorem KT.kept {X : List Nat} (h : Kept X w w') (hX : ∀ k ∈ X, ∃ cs T, w.heap[k]? = some (.cells cs T (0, 0)) ∧ T ∈ S) : KT S w w' := ⟨h.size, fun b cs T hb hT => (h.block b (Array.getElem?_eq_some_iff.1 hb).1 (fun hm => by
 obtain ⟨cs', T', h1, h2⟩ := hX b hm
 rw [hb] at h1
 simp only [Option.some.injEq, Obj.cells.injEq] at h1
 rw [h1.2.1] at hT; exact hT h2)).trans hb⟩
theorem KT.set {b i : Nat} {cs : Array Value} {T : TypeId} {v : Value} (hb : w.heap[b]? = some (.cells cs T (0, 0))) (hT : T ∈ S) : KT S w (w.setCell ⟨b, i, none⟩ v) :=
 KT.kept (X := [b]) ((Kept.refl [b] w).set b i v (by simp)) (fun k hk => by rw [List.mem_singleton.1 hk]; exact ⟨cs, T, hb, hT⟩)
theorem KT.cell (h : KT S w w') {b i : Nat} {cs : Array Value} {T : TypeId} {v : Value} (hb : w.heap[b]? = some (.cells cs T (0, 0))) (hT : T ∉ S) : w'.cell? ⟨b, i, none⟩ = w.cell? ⟨b, i, none⟩ :=
 World.cell?_of_block (w := w) ((h.blk b cs T hb hT).trans hb.symm)
theorem KT.row (h : KT S w w') {B e size n : Nat} {v : Value} {xs : List Value} (hr : w.ownsRow B e size v n xs) (he : e ∉ S) : w'.ownsRow B e size v n xs := by
 obtain ⟨h1, h2⟩ := hr
 refine ⟨h1, ?_⟩
 rcases h2 with h2 | ⟨g, cap, cur, hv, hg, hh, r⟩
 ·exact .inl h2
 ·exact .inr ⟨g, cap, cur, hv, hg, h.blk g cur e hh he, r⟩
end
theorem own_ty {w : World} {B e size n : Nat} {v : Value} {xs : List Value} (hr : w.ownsRow B e size v n xs) {g : Nat} (hg : v.ownBlock = some g) : ∃ cs, w.heap[g]? = some (.cells cs e (0, 0)) := by
 rcases hr.2 with ⟨rfl, _⟩ | ⟨g', cap, cur, rfl, _, hh, _⟩
 ·simp [Value.ownBlock] at hg
 ·simp only [Value.ownBlock, Option.some.injEq] at hg
  subst hg
  exact ⟨cur, hh⟩
def spC (l : List Spn) : List Value := l.flatMap fun x => [.int .i64 (x.j : Int), .int .i64 x.f, .int .i64 x.t]
theorem below_set {B b i : Nat} {w0 w : World} {v : Value} (h : Below B w0 w) (hb : B ≤ b) (hw : B ≤ w.heap.size) : Below B w0 (w.setCell ⟨b, i, none⟩ v) :=
 h.trans (((Kept.refl [b] w).set b i v (by simp)).below hw (fun k hk => by rw [List.mem_singleton.1 hk]; exact hb))
theorem infoSp : (Tryz.prog.info? TSp).map (fun i => (i.zero, i.size, i.bytes)) = some (some (.agg #[.int .i64 0, .int .i64 0, .int .i64 0]), 3, 24) := by kernel_rfl
def snL (x : Spn) : List Value := [.int .i64 (x.j : Int), .int .i64 x.f, .int .i64 x.t]
theorem spC_app (a b : List Spn) : spC (a ++ b) = spC a ++ spC b := by simp [spC]
theorem spC_one (x : Spn) : spC [x] = snL x := rfl
theorem spC_len : ∀ l : List Spn, (spC l).length = l.length * 3
 | [] => rfl
 | x :: l => by
   have := spC_len l
   rw [show x :: l = [x] ++ l from rfl, spC_app, List.length_append, this, List.length_append]
   simp [spC_one, snL]; omega
theorem sp_new (w : World) (x : Spn) : ∀ j u, (snL x)[j]? = some u → (w.alloc (.cells #[.int .i64 (x.j : Int), .int .i64 x.f, .int .i64 x.t] TSp)).cell? ((⟨w.heap.size, 0, none⟩ : Addr).add j) = some u := by
 intro j u hj
 rw [add_none, Nat.zero_add, cell_of_row _ _ j _ _ _ (heap_alloc_new w _)]
 simpa [snL] using hj
theorem sp_one (x : Spn) : ∀ u ∈ snL x, u.oneCell' = true := by
 intro u hu
 simp only [snL, List.mem_cons, List.not_mem_nil, or_false] at hu
 rcases hu with rfl | rfl | rfl <;> rfl
theorem sp_set (l : List Spn) (x : Spn) (t : Int) : (spC (l ++ [x])).set (l.length * 3 + 2) (.int .i64 t) = spC (l ++ [⟨x.j, x.f, t⟩]) := by
 rw [spC_app, spC_app, List.set_append_right _ _ (by rw [spC_len]; omega), spC_len]
 congr 1
 rw [show l.length * 3 + 2 - l.length * 3 = 2 by omega]
 rfl
theorem sum_set : ∀ (l : List Int) (i : Nat) (v : Int), i < l.length → (l.set i (kO l i + v)).sum = l.sum + v
 | [], i, v, h => by simp at h
 | a :: l, 0, v, h => by simp [kO]; omega
 | a :: l, i + 1, v, h => by
   have := sum_set l i v (by simpa using h)
   have e : kO (a :: l) (i + 1) = kO l i := by simp [kO]
   rw [e, List.set_cons_succ, List.sum_cons, List.sum_cons, this]; omega
theorem addN_len (sp : List Spn) (i : Nat) (t m : Int) : (addN sp i t m).length ≤ sp.length + 1 := by
 unfold addN
 cases h : sp.getLast? with
 | none => simp
 | some x =>
   simp only
   split
   ·simp <;> omega
   ·simp
theorem spn_len {ts : List Ts} {js : List Fv} (hl : Lg js) : ∀ n : Nat, ((tst ts js n).sp.length : Int) ≤ (tst ts js n).dn.sum
 | 0 => by simp [tst]
 | n + 1 => by
   have ih := spn_len (ts := ts) hl n
   have hI := ti_all (ts := ts) hl n
   rw [tst_succ]
   cases hw : whoS ts js (tst ts js n) n with
   | none => rw [tstep_none hw]; exact ih
   | some i =>
     rw [tstep_some hw]
     have h1 := (hI.who_some hl hw).1
     have h2 := addN_len (tst ts js n).sp i n 1
     simp only [runM]
     rw [sum_set _ _ _ (by rw [hI.ld]; exact h1)]
     omega
theorem sum_le : ∀ (a b : List Int), a.length = b.length → (∀ i, i < a.length → kO a i ≤ kO b i) → a.sum ≤ b.sum
 | [], b, h, _ => by
   have : b = [] := List.eq_nil_of_length_eq_zero (by simpa using h.symm)
   subst this; simp
 | x :: a, [], h, _ => by simp at h
 | x :: a, y :: b, h, hk => by
   have h0 := hk 0 (by simp)
   have := sum_le a b (by simpa using h) (fun i hi => by
    have := hk (i + 1) (by simpa using hi)
    simpa [kO] using this)
   simp only [kO, List.getElem?_cons_zero, Option.getD_some] at h0
   rw [List.sum_cons, List.sum_cons]; omega
theorem spn_few {ts : List Ts} {js : List Fv} (hl : Lg js) (n : Nat) : ((tst ts js n).sp.length : Int) ≤ (js.map (·.k)).sum := by
 have h1 := spn_len (ts := ts) hl n
 have hI := ti_all (ts := ts) hl n
 have h2 := sum_le (tst ts js n).dn (js.map (·.k)) (by rw [hI.ld, List.length_map]) (fun i hi => by
  have hi' : i < js.length := by rw [← hI.ld]; exact hi
  have := (hI.d0 i hi').2
  have e : kO (js.map (·.k)) i = (jb js i).k := by simp [kO, jb, hi']
  omega)
 omega
theorem infoI64 : (Tryz.prog.info? T64).map (fun i => (i.zero, i.size, i.bytes)) = some (some (.int .i64 0), 1, 8) := by kernel_rfl
theorem make_64 (n : Nat) (hn : n ≤ 1000) (W : World) : (Instr.makeSlice 42 (.int .i64 (n : Int)) (.int .i64 (n : Int))).run Tryz.prog W = .ok (.slice (some ⟨W.heap.size, 0, none⟩) n n) (W.alloc (.cells (madeCells (Value.cells (.int .i64 0)) n) T64)) := by
 obtain ⟨i0, hi, hz0, hz1, hz2⟩ := info_parts infoI64
 have h := run_make (P := Tryz.prog) W 42 T64 i0 _ Tryz.underlying42 hi hz0 .i64 .i64 n n (by omega) (Int.le_refl _) (by rw [hz2]; omega) (by omega)
 simp only [Int.toNat_natCast, hz1, Nat.mul_one] at h
 exact h
theorem ltT {a b c : World} (h : Lt a b) (k : Lt b c) : Lt a c := by
 have h : Below a.heap.size a b := h
 have k : Below b.heap.size b c := k
 exact h.trans (k.mono h.size)
theorem ltR (a : World) : Lt a a := Below.refl _ _
theorem ltA {a b : World} (h : Lt a b) (o : Obj) : Lt a (b.alloc o) := ltT h ((Below.refl _ _).alloc (Nat.le_refl _) _)
theorem ltD {a b : World} (h : Lt a b) : Lt a b.drew := ltT h (below_drew b)
theorem heapLt {W W' : World} {g : Nat} {o : Obj} (h : W.heap[g]? = some o) (k : Lt W W') : W'.heap[g]? = some o := by
 have k : Below W.heap.size W W' := k
 exact (k.block g (Array.getElem?_eq_some_iff.1 h).1).trans h
theorem ownLt {W W' : World} {B e size n : Nat} {v : Value} {xs : List Value} (h : W.ownsRow B e size v n xs) (k : Lt W W') : W'.ownsRow B e size v n xs := by
 have k : Below W.heap.size W W' := k
 exact (Kept.of [] k).row h (by simp)
theorem own_mono {w : World} {B B' e size n : Nat} {v : Value} {xs : List Value} (h : w.ownsRow B' e size v n xs) (hB : B ≤ B') : w.ownsRow B e size v n xs := by
 refine ⟨h.1, ?_⟩
 rcases h.2 with h2 | ⟨g, cap, cur, h1, hb, r⟩
 ·exact .inl h2
 ·exact .inr ⟨g, cap, cur, h1, by omega, r⟩
theorem ltS {a b : World} (h : Lt a b) : a.heap.size ≤ b.heap.size := Below.size h
structure EnR (wc : World) (ge n k : Nat) (wr : World) : Prop where
 row : ∃ cur : Array Value, wr.heap[ge]? = some (Obj.cells cur T64 (0, 0)) ∧ cur.size = n ∧ ∀ j, j < k → cur[j]? = some (.int .i64 (-1))
 kp : Kept [ge] wc wr
theorem EnR.step {wc wr : World} {ge n k : Nat} (h : EnR wc ge n k wr) (hk : k < n) : EnR wc ge n (k + 1) (wr.setCell ⟨ge, k, none⟩ (.int .i64 (-1))) := by
 obtain ⟨cur, h1, h2, h3⟩ := h.row
 refine ⟨⟨cur.setIfInBounds k (.int .i64 (-1)), heap_setCell_same _ _ _ _ _ _ h1, by simp [h2], fun j hj => ?_⟩, h.kp.set ge k _ (by simp)⟩
 by_cases e : k = j
 ·subst e; simp [h2, hk]
 ·rw [Array.getElem?_setIfInBounds_ne e]; exact h3 j (by omega)
theorem EnR.cell {wc wr : World} {ge n k : Nat} (h : EnR wc ge n k wr) (hk : k < n) : (∃ v, wr.cell? ⟨ge, k, none⟩ = some v) ∧ wr.frozen? ⟨ge, k, none⟩ = false := by
 obtain ⟨cur, h1, h2, h3⟩ := h.row
 exact ⟨⟨cur[k], by rw [cell_of_row wr ge k _ _ _ h1]; exact Array.getElem?_eq_getElem (by omega)⟩, by simp [World.frozen?, h1]⟩
theorem EnR.own {B : Nat} {wc wr : World} {ge n : Nat} (h : EnR wc ge n n wr) (hB : B ≤ ge) (hn : n ≤ 1000) : wr.ownsRow B T64 1 (.slice (some ⟨ge, 0, none⟩) n n) n (numL (List.replicate n (-1))) := by
 obtain ⟨cur, h1, h2, h3⟩ := h.row
 refine ⟨by simp [numL], .inr ⟨ge, n, cur, rfl, hB, h1, Nat.le_refl _, by unfold maxLen; omega, by omega, ?_⟩⟩
 refine List.ext_getElem? fun j => ?_
 rw [List.getElem?_take]
 by_cases hj : j < n
 ·rw [if_pos (by omega), Array.getElem?_toList, h3 j hj]
  simp [numL, hj]
 ·rw [if_neg (by omega), List.getElem?_eq_none]
  simp [numL]; omega
end
end Go.Proofs.YthfkbbiaemmndaaGreatDoor
