/- The closures that ask whether a job is right. -/
import Derived.Test.YthfiodjhjhpiaaaJCut
namespace Go.Proofs.Ythfiodjhjhpiaaa
open Go.RowKit
set_option linter.unusedVariables false
set_option linter.unusedSimpArgs false

theorem box_job (w : World) (x : Fv) (C : Option Addr) (cc : Nat) : Below w.heap.size w (w.alloc (.cells #[.int .i64 x.t, .int .i64 x.a, .int .i64 x.r, .int .i64 x.k, .slice C x.c.length cc] 40)) := (Below.refl _ _).alloc (Nat.le_refl _) _
set_option maxRecDepth 100000 in
set_option maxHeartbeats 2000000 in
theorem clo1_any (x : Fv) (C A : Option Addr) (cc n cap bl : Nat) (w : World) (hl : w.cell? ⟨bl, 0, none⟩ = some (.slice A n cap)) (hn : n ≤ 1024) :
    Calls Try.prog 33 #[fvV x C cc, .pointer (some ⟨bl, 0, none⟩)] w fun e w' => e = .returned (.bool (inB x.t 0 ((n : Int) - 1))) ∧ Below w.heap.size w w' := by
  have b0 := box_job w x C cc
  have hbl := World.block_lt_of_cell? w _ hl
  have K := Lib.hid (fun W => within_any x.t 0 ((n : Int) - 1) W)
  have B0 := Lib.hid b0
  clear b0
  go_enter Try.func33, Try.ntmps33
  go_wp2_with (go_at_call 34; (with_reducible refine (K.out _).mono ?_); rintro e w1 ⟨rfl, rfl⟩)
  go_ret
  exact ⟨rfl, B0.out⟩

def Lt2 (W1 : World) (b8 M : Nat) (W : World) : Prop := Below W1.heap.size W1 W
abbrev D2 (W1 : World) (b8 M : Nat) (x : Fv) (A : Option Addr) (n cap : Nat) (W : World) : Prop :=
  W.cell? ⟨b8, 0, none⟩ = some (.int .i64 x.t) ∧ W.cell? ⟨b8, 1, none⟩ = some (.int .i64 x.a) ∧ W.cell? ⟨M + 1, 0, none⟩ = some (.slice A n cap) ∧ W.cell? ⟨M + 1, 1, none⟩ = some (.map (some M)) ∧ Lt2 W1 b8 M W
theorem D2.step {W1 : World} {b8 M : Nat} {x : Fv} {A : Option Addr} {n cap : Nat} {W W' : World} (h : D2 W1 b8 M x A n cap W) (hb : Below W.heap.size W W') : D2 W1 b8 M x A n cap W' := by
  obtain ⟨h0, h1, h2, h3, hl⟩ := h
  have hc := cells_below hb
  exact ⟨hc _ _ _ h0, hc _ _ _ h1, hc _ _ _ h2, hc _ _ _ h3, Below.trans hl (hb.mono (Below.size hl))⟩
set_option maxRecDepth 100000 in
set_option maxHeartbeats 4000000 in
theorem clo2_any (x : Fv) (C A : Option Addr) (cc cap M : Nat) (ts : List Ts) (js : List Fv) (w : World) (hA : Arr A ts.length cap M w js) (hT : Row w A cap ts) (hv : Vs ts)
    (hj : ∀ j ∈ js, 0 ≤ j.t ∧ j.t < ts.length ∧ 0 ≤ j.a ∧ j.a ≤ 35184372088832) :
    Calls Try.prog 35 #[fvV x C cc, .pointer (some ⟨M + 1, 0, none⟩)] w fun e w' => e = .returned (.bool (inB x.a (soonI ts js x.t) 17592186044416)) ∧ Below w.heap.size w w' := by
  have b0 := box_job w x C cc
  have hlt := hA.lt
  have hA1 := hA.later b0
  have hc := fun i => cell_of_row (w.alloc (.cells #[.int .i64 x.t, .int .i64 x.a, .int .i64 x.r, .int .i64 x.k, .slice C x.c.length cc] 40)) w.heap.size i _ _ _ (heap_alloc_new w _)
  have HD0 : Hid (D2 (w.alloc (.cells #[.int .i64 x.t, .int .i64 x.a, .int .i64 x.r, .int .i64 x.k, .slice C x.c.length cc] 40)) w.heap.size M x A ts.length cap (w.alloc (.cells #[.int .i64 x.t, .int .i64 x.a, .int .i64 x.r, .int .i64 x.k, .slice C x.c.length cc] 40))) := Lib.hid ⟨hc 0, hc 1, hA1.c0, hA1.c1, Below.refl _ _⟩
  have KS : Hid (∀ W, D2 (w.alloc (.cells #[.int .i64 x.t, .int .i64 x.a, .int .i64 x.r, .int .i64 x.k, .slice C x.c.length cc] 40)) w.heap.size M x A ts.length cap W → Calls Try.prog 28 #[.agg #[.slice A ts.length cap, .map (some M)], .int .i64 x.t] W fun e w' => e = .returned (.int .i64 (soonI ts js x.t)) ∧ Below W.heap.size W w') :=
    Lib.hid fun W hD => (hA1.later hD.2.2.2.2).soon ((hT.later b0).later hD.2.2.2.2) hv x.t hj
  have KW := Lib.hid (fun W => within_any x.a (soonI ts js x.t) 17592186044416 W)
  generalize soonI ts js x.t = sp at *
  have B0 := Lib.hid b0
  clear b0 hA hA1 hT hv hj hc
  go_enter Try.func35, Try.ntmps35
  go_upto_region 1 with (fail)
  generalize (w.alloc (.cells #[.int .i64 x.t, .int .i64 x.a, .int .i64 x.r, .int .i64 x.k, .slice C x.c.length cc] 40)) = W1 at *
  generalize hN : w.heap.size = N at *
  have HD1 := Lib.hid (D2.step HD0.out (below_drew W1))
  go_region_held_law (fun W => D2 W1 N M x A ts.length cap W)
    (first | (with_reducible assumption) | (with_reducible exact HD1.out) | (with_reducible exact HD2.out) | fail)
    (first
    | (go_at_call 28; (with_reducible refine (KS.out _ (by with_reducible assumption)).mono ?_); rintro e w2 ⟨rfl, h2⟩; have HD2 := Lib.hid (D2.step (by with_reducible assumption) h2))
    | (go_at_call 34; (with_reducible refine (KW.out _).mono ?_); rintro e w3 ⟨rfl, rfl⟩)
    | fail)
  go_wp2
  go_ret
  exact ⟨rfl, by rw [hN]; exact B0.out.trans (HD2.out.2.2.2.2.mono (by have := B0.out.size; omega))⟩
set_option maxRecDepth 100000 in
set_option maxHeartbeats 4000000 in
theorem clo3_any (x : Fv) (C A : Option Addr) (cc cap bl p : Nat) (ts : List Ts) (w : World) (hl : w.cell? ⟨bl, 0, none⟩ = some (.slice A ts.length cap)) (hT : Row w A cap ts) (hv : Vs ts) (hp : x.t = (p : Int)) (hpl : p < ts.length) (ha : 0 ≤ x.a ∧ x.a ≤ 35184372088832) :
    Calls Try.prog 36 #[fvV x C cc, .pointer (some ⟨bl, 0, none⟩)] w fun e w' => e = .returned (.bool (inB x.r x.a (x.a + (tk ts x.t).j))) ∧ Below w.heap.size w w' := by
  obtain ⟨xt, xa, xr, xk, xc⟩ := x
  simp only at hp ha ⊢
  subst hp
  have b0 := box_job w ⟨(p : Int), xa, xr, xk, xc⟩ C cc
  have hbl := World.block_lt_of_cell? w _ hl
  obtain ⟨tb, tq, y, rfl, hy, hyw, htb, hY⟩ := hT.get (k := p) hpl
  have hyt : tk ts (p : Int) = y := tk_get hy
  have hyo := hv.tk (p : Int)
  rw [hyt] at hyo ⊢
  have hY1 := hY.later b0
  have hc := fun i => cell_of_row (w.alloc (.cells #[.int .i64 (p : Int), .int .i64 xa, .int .i64 xr, .int .i64 xk, .slice C xc.length cc] 40)) w.heap.size i _ _ _ (heap_alloc_new w _)
  have l1 := cells_below b0 _ _ _ hl
  have p0 : (0 : Int) ≤ (p : Int) := by omega
  have p1 : (p : Int) < (ts.length : Int) := by omega
  have yj0 := hyo.j0
  have yj1 := hyo.j1
  have hw : IntKind.i64.wrap (xa + y.j) = xa + y.j := IntWalk.i64_in _ (by omega)
  have K : Hid (∀ W, Calls Try.prog 34 #[.int .i64 xr, .int .i64 xa, .int .i64 (xa + y.j)] W fun e w' => e = .returned (.bool (inB xr xa (xa + y.j))) ∧ w' = W) := Lib.hid (fun W => (within_any xr xa (xa + y.j) W).mono fun e w' h => ⟨h.1, h.2.symm⟩)
  have B0 := Lib.hid b0
  have z0 := hc 0
  have z1 := hc 1
  have z2 := hc 2
  have z3 := hc 3
  have z4 := hc 4
  have t1 := hY1.c1
  have t4 := hY1.c4
  have t5 := hY1.c5
  clear b0 hT hv hc hy hyt hY hY1 hl
  go_enter Try.func36, Try.ntmps36
  go_upto_region 1 with (fail)
  simp only [List.getElem?_toArray, List.getElem?_cons_zero, List.getElem?_cons_succ] at z0 z1 z2 z3 z4
  generalize (w.alloc (.cells #[.int .i64 (p : Int), .int .i64 xa, .int .i64 xr, .int .i64 xk, .slice C xc.length cc] 40)) = W1 at *
  generalize hN : w.heap.size = N at *
  go_still_tail 14, (by kernel_rfl)
  still_call (K.out _)
  repeat still_step
  refine wpStill_nil ?_
  change wpList _ _ _ _ _ W1.drew
  have HB2 : Hid (Below N w W1.drew) := Lib.hid (B0.out.trans ((below_drew W1).mono (by have := B0.out.size; omega)))
  generalize W1.drew = W2 at *
  go_wp2
  go_ret
  exact ⟨rfl, by first | exact HB2.out | (rw [hN]; exact HB2.out)⟩
set_option maxRecDepth 100000 in
set_option maxHeartbeats 4000000 in
theorem clo4_any (x : Fv) (C A : Option Addr) (cc cap bl p : Nat) (ts : List Ts) (w : World) (hl : w.cell? ⟨bl, 0, none⟩ = some (.slice A ts.length cap)) (hT : Row w A cap ts) (hv : Vs ts) (hp : x.t = (p : Int)) (hpl : p < ts.length) :
    Calls Try.prog 37 #[fvV x C cc, .pointer (some ⟨bl, 0, none⟩)] w fun e w' => e = .returned (.bool (inB x.k 1 (tk ts x.t).c)) ∧ Below w.heap.size w w' := by
  obtain ⟨xt, xa, xr, xk, xc⟩ := x
  simp only at hp ⊢
  subst hp
  have b0 := box_job w ⟨(p : Int), xa, xr, xk, xc⟩ C cc
  have hbl := World.block_lt_of_cell? w _ hl
  obtain ⟨tb, tq, y, rfl, hy, hyw, htb, hY⟩ := hT.get (k := p) hpl
  have hyt : tk ts (p : Int) = y := tk_get hy
  have hyo := hv.tk (p : Int)
  rw [hyt] at hyo ⊢
  have hY1 := hY.later b0
  have hc := fun i => cell_of_row (w.alloc (.cells #[.int .i64 (p : Int), .int .i64 xa, .int .i64 xr, .int .i64 xk, .slice C xc.length cc] 40)) w.heap.size i _ _ _ (heap_alloc_new w _)
  have l1 := cells_below b0 _ _ _ hl
  have p0 : (0 : Int) ≤ (p : Int) := by omega
  have p1 : (p : Int) < (ts.length : Int) := by omega
  have K : Hid (∀ W, Calls Try.prog 34 #[.int .i64 xk, .int .i64 1, .int .i64 y.c] W fun e w' => e = .returned (.bool (inB xk 1 y.c)) ∧ w' = W) := Lib.hid (fun W => (within_any xk 1 y.c W).mono fun e w' h => ⟨h.1, h.2.symm⟩)
  have B0 := Lib.hid b0
  have z0 := hc 0
  have z1 := hc 1
  have z2 := hc 2
  have z3 := hc 3
  have z4 := hc 4
  have t1 := hY1.c1
  have t4 := hY1.c4
  have t5 := hY1.c5
  clear b0 hT hv hc hy hyt hY hY1 hl
  go_enter Try.func37, Try.ntmps37
  go_upto_region 1 with (fail)
  simp only [List.getElem?_toArray, List.getElem?_cons_zero, List.getElem?_cons_succ] at z0 z1 z2 z3 z4
  generalize (w.alloc (.cells #[.int .i64 (p : Int), .int .i64 xa, .int .i64 xr, .int .i64 xk, .slice C xc.length cc] 40)) = W1 at *
  generalize hN : w.heap.size = N at *
  go_still_tail 9, (by kernel_rfl)
  still_call (K.out _)
  repeat still_step
  refine wpStill_nil ?_
  change wpList _ _ _ _ _ W1.drew
  have HB2 : Hid (Below N w W1.drew) := Lib.hid (B0.out.trans ((below_drew W1).mono (by have := B0.out.size; omega)))
  generalize W1.drew = W2 at *
  go_wp2
  go_ret
  exact ⟨rfl, by first | exact HB2.out | (rw [hN]; exact HB2.out)⟩
set_option maxRecDepth 100000 in
set_option maxHeartbeats 4000000 in
theorem clo5_any (x : Fv) (C A : Option Addr) (cc cap bl p : Nat) (ts : List Ts) (w : World) (hl : w.cell? ⟨bl, 0, none⟩ = some (.slice A ts.length cap)) (hT : Row w A cap ts) (hv : Vs ts) (hp : x.t = (p : Int)) (hpl : p < ts.length) (hk : 0 ≤ x.k ∧ x.k ≤ 2147483647) (hs : CRow w C cc x.c) :
    Calls Try.prog 38 #[fvV x C cc, .pointer (some ⟨bl, 0, none⟩)] w fun e w' => e = .returned (.bool (fitB (tk ts x.t).q x.k x.c)) ∧ Below w.heap.size w w' := by
  obtain ⟨xt, xa, xr, xk, xc⟩ := x
  simp only at hp hk ⊢
  subst hp
  have b0 := box_job w ⟨(p : Int), xa, xr, xk, xc⟩ C cc
  have hbl := World.block_lt_of_cell? w _ hl
  obtain ⟨tb, tq, y, rfl, hy, hyw, htb, hY⟩ := hT.get (k := p) hpl
  have hyt : tk ts (p : Int) = y := tk_get hy
  have hyo := hv.tk (p : Int)
  rw [hyt] at hyo ⊢
  have hY1 := hY.later b0
  have hc := fun i => cell_of_row (w.alloc (.cells #[.int .i64 (p : Int), .int .i64 xa, .int .i64 xr, .int .i64 xk, .slice C xc.length cc] 40)) w.heap.size i _ _ _ (heap_alloc_new w _)
  have l1 := cells_below b0 _ _ _ hl
  have p0 : (0 : Int) ≤ (p : Int) := by omega
  have p1 : (p : Int) < (ts.length : Int) := by omega
  have yq1 := hyo.q1
  have K : Hid (∀ W, Below (w.alloc (.cells #[.int .i64 (p : Int), .int .i64 xa, .int .i64 xr, .int .i64 xk, .slice C xc.length cc] 40)).heap.size (w.alloc (.cells #[.int .i64 (p : Int), .int .i64 xa, .int .i64 xr, .int .i64 xk, .slice C xc.length cc] 40)) W → Calls Try.prog 39 #[.slice C xc.length cc, .int .i64 y.q, .int .i64 xk] W fun e w' => e = .returned (.bool (fitB y.q xk xc)) ∧ w' = W) := Lib.hid (fun W hb => cutsFit_any C cc xc y.q xk W ((hs.later b0).later hb) yq1 (by omega) (by omega))
  have B0 := Lib.hid b0
  have z0 := hc 0
  have z1 := hc 1
  have z2 := hc 2
  have z3 := hc 3
  have z4 := hc 4
  have t1 := hY1.c1
  have t4 := hY1.c4
  have t5 := hY1.c5
  clear b0 hT hv hc hy hyt hY hY1 hl
  go_enter Try.func38, Try.ntmps38
  go_upto_region 1 with (fail)
  simp only [List.getElem?_toArray, List.getElem?_cons_zero, List.getElem?_cons_succ] at z0 z1 z2 z3 z4
  generalize (w.alloc (.cells #[.int .i64 (p : Int), .int .i64 xa, .int .i64 xr, .int .i64 xk, .slice C xc.length cc] 40)) = W1 at *
  generalize hN : w.heap.size = N at *
  go_still_tail 11, (by kernel_rfl)
  still_call (K.out _ (below_drew W1))
  repeat still_step
  refine wpStill_nil ?_
  change wpList _ _ _ _ _ W1.drew
  have HB2 : Hid (Below N w W1.drew) := Lib.hid (B0.out.trans ((below_drew W1).mono (by have := B0.out.size; omega)))
  generalize W1.drew = W2 at *
  go_wp2
  go_ret
  exact ⟨rfl, by first | exact HB2.out | (rw [hN]; exact HB2.out)⟩
end Go.Proofs.Ythfiodjhjhpiaaa
