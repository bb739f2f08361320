/- A job of raw numbers. -/
import Derived.Test.YthfiodjhjhpiaaaJSoon
import Derived.Deep.RegionHeldLaw
namespace Go.Proofs.Ythfiodjhjhpiaaa
open Go.RowKit
set_option linter.unusedVariables false
set_option linter.unusedSimpArgs false

/-- Five cells of a block of its own. -/
structure FB (w : World) (b : Nat) (T : TypeId) (v0 v1 v2 v3 v4 : Value) : Prop where
  is : w.heap[b]? = some (.cells #[v0, v1, v2, v3, v4] T (0, 0))
theorem FB.lt {w : World} {b : Nat} {T : TypeId} {v0 v1 v2 v3 v4 : Value} (h : FB w b T v0 v1 v2 v3 v4) : b < w.heap.size := (Array.getElem?_eq_some_iff.1 h.is).1
theorem FB.z {w : World} {b : Nat} {T : TypeId} {v0 v1 v2 v3 v4 : Value} (h : FB w b T v0 v1 v2 v3 v4) : w.cell? ⟨b, 0, none⟩ = some v0 ∧ w.cell? ⟨b, 1, none⟩ = some v1 ∧ w.cell? ⟨b, 2, none⟩ = some v2 ∧ w.cell? ⟨b, 3, none⟩ = some v3 ∧ w.cell? ⟨b, 4, none⟩ = some v4 := by
  refine ⟨?_, ?_, ?_, ?_, ?_⟩ <;> (rw [cell_of_row w b _ _ _ _ h.is]; rfl)
theorem FB.fz {w : World} {b : Nat} {T : TypeId} {v0 v1 v2 v3 v4 : Value} (h : FB w b T v0 v1 v2 v3 v4) (i : Nat) : w.frozen? ⟨b, i, none⟩ = false := frozen_of_row w b i _ _ h.is
theorem FB.later {w w' : World} {b : Nat} {T : TypeId} {v0 v1 v2 v3 v4 : Value} (h : FB w b T v0 v1 v2 v3 v4) (hb : Below w.heap.size w w') : FB w' b T v0 v1 v2 v3 v4 := ⟨(hb.block b h.lt).trans h.is⟩
theorem FB.kept {X : List Nat} {w w' : World} {b : Nat} {T : TypeId} {v0 v1 v2 v3 v4 : Value} (h : FB w b T v0 v1 v2 v3 v4) (hb : Kept X w w') (hx : b ∉ X) : FB w' b T v0 v1 v2 v3 v4 := ⟨(hb.block b h.lt hx).trans h.is⟩
theorem FB.new (w : World) (T : TypeId) (v0 v1 v2 v3 v4 : Value) : FB (w.alloc (.cells #[v0, v1, v2, v3, v4] T)) w.heap.size T v0 v1 v2 v3 v4 := ⟨heap_alloc_new w _⟩
theorem FB.set {w : World} {b i : Nat} {T : TypeId} {v0 v1 v2 v3 v4 u0 u1 u2 u3 u4 : Value} (h : FB w b T v0 v1 v2 v3 v4) (u : Value) (he : (#[v0, v1, v2, v3, v4].setIfInBounds i u) = #[u0, u1, u2, u3, u4]) : FB (w.setCell ⟨b, i, none⟩ u) b T u0 u1 u2 u3 u4 := ⟨by
  rw [heap_setCell_same _ b i _ _ u h.is, he]⟩
theorem results_job {fn : Func} {p : Tmp} (h : fn.results = #[.cell p 40]) (tmps : Array Value) (w : World) (b : Nat) (v0 v1 v2 v3 v4 : Value) (hp : tmps.getD p undef = .pointer (some ⟨b, 0, none⟩)) (hb : FB w b 40 v0 v1 v2 v3 v4) :
    (results fn tmps).run Try.prog w = .ok (.agg #[v0, v1, v2, v3, v4]) w :=
  results_cell_row h tmps w b _ _ _ _ hp hb.is Try.underlying40 rfl infoJ
theorem results_raw {fn : Func} {p : Tmp} (h : fn.results = #[.cell p 49]) (tmps : Array Value) (w : World) (b : Nat) (v0 v1 v2 v3 v4 : Value) (hp : tmps.getD p undef = .pointer (some ⟨b, 0, none⟩)) (hb : FB w b 49 v0 v1 v2 v3 v4) :
    (results fn tmps).run Try.prog w = .ok (.agg #[v0, v1, v2, v3, v4]) w :=
  results_cell_row h tmps w b _ _ _ _ hp hb.is Try.underlying49 rfl infoR

theorem FB.set5 {w : World} {b : Nat} {T : TypeId} {v0 v1 v2 v3 v4 : Value} (h : FB w b T v0 v1 v2 v3 v4) (u0 u1 u2 u3 u4 : Value) : FB (w.setCells b 0 [u0, u1, u2, u3, u4]) b T u0 u1 u2 u3 u4 := by
  simp only [World.setCells]
  exact ((((h.set u0 rfl).set u1 rfl).set u2 rfl).set u3 rfl).set u4 rfl
theorem FB.there {w : World} {b : Nat} {T : TypeId} {v0 v1 v2 v3 v4 : Value} (h : FB w b T v0 v1 v2 v3 v4) : w.there b 0 5 := fun j hj => by
  obtain ⟨z0, z1, z2, z3, z4⟩ := h.z
  rw [Nat.zero_add]
  refine ⟨?_, h.fz j⟩
  rcases (by omega : j = 0 ∨ j = 1 ∨ j = 2 ∨ j = 3 ∨ j = 4) with rfl | rfl | rfl | rfl | rfl
  · rw [z0]; rfl
  · rw [z1]; rfl
  · rw [z2]; rfl
  · rw [z3]; rfl
  · rw [z4]; rfl
theorem kept_set5 (w : World) (b : Nat) (vs : List Value) : ∀ (o : Nat), Kept [b] w (w.setCells b o vs) := by
  induction vs generalizing w with
  | nil => intro o; exact Kept.refl _ _
  | cons v r ih => intro o; exact ((Kept.refl [b] w).set b o v (by simp)).trans (ih _ (o + 1))
theorem CRow.kept {X : List Nat} {w w' : World} {A : Option Addr} {cap : Nat} {l : List Int} (h : CRow w A cap l) (hk : Kept X w w') (hx : l ≠ [] → ∀ a, A = some a → a.block ∉ X) : CRow w' A cap l :=
  ⟨h.le, h.mx, h.wf, fun i x hi => by
    obtain ⟨b, o, e, hc⟩ := h.at_ i x hi
    exact ⟨b, o, e, (hk.cell (World.block_lt_of_cell? w _ hc) (hx (by intro h0; rw [h0] at hi; simp at hi) ⟨b, o, none⟩ e)).trans hc⟩⟩
abbrev D4 (N b1 b2 : Nat) (xj xq rr : Int) (V : Value) (W : World) : Prop := W.cell? ⟨N, 4, none⟩ = some (.int .i64 xj) ∧ W.cell? ⟨N, 5, none⟩ = some (.int .i64 xq) ∧ W.cell? ⟨b1, 2, none⟩ = some (.int .i64 rr) ∧ W.cell? ⟨b1, 4, none⟩ = some V ∧ (N ≠ b2 ∧ b1 ≠ b2)
theorem D4.step {W W' : World} {N b1 b2 : Nat} {xj xq rr : Int} {V : Value} (h : D4 N b1 b2 xj xq rr V W) (hb : Below W.heap.size W W') : D4 N b1 b2 xj xq rr V W' := by
  obtain ⟨h1, h2, h3, h4, h5⟩ := h
  have hc := cells_below hb
  exact ⟨hc _ _ _ h1, hc _ _ _ h2, hc _ _ _ h3, hc _ _ _ h4, h5⟩
theorem D4.set {W : World} {N b1 b2 : Nat} {xj xq rr : Int} {V : Value} (h : D4 N b1 b2 xj xq rr V W) (i : Nat) (u : Value) : D4 N b1 b2 xj xq rr V (W.setCell ⟨b2, i, none⟩ u) := by
  obtain ⟨h1, h2, h3, h4, h5, h6⟩ := h
  have hc : ∀ b o, b ≠ b2 → (W.setCell ⟨b2, i, none⟩ u).cell? ⟨b, o, none⟩ = W.cell? ⟨b, o, none⟩ := fun b o hb => World.cell?_setCell_other _ _ _ _ (by intro e; exact hb (congrArg Addr.block e).symm)
  exact ⟨(hc _ _ h5).trans h1, (hc _ _ h5).trans h2, (hc _ _ h6).trans h3, (hc _ _ h6).trans h4, h5, h6⟩
theorem D4.set5 {W : World} {N b1 b2 : Nat} {xj xq rr : Int} {V : Value} (h : D4 N b1 b2 xj xq rr V W) (u0 u1 u2 u3 u4 : Value) : D4 N b1 b2 xj xq rr V (((((W.setCell ⟨b2, 0, none⟩ u0).setCell ⟨b2, 1, none⟩ u1).setCell ⟨b2, 2, none⟩ u2).setCell ⟨b2, 3, none⟩ u3).setCell ⟨b2, 4, none⟩ u4) := ((((h.set 0 u0).set 1 u1).set 2 u2).set 3 u3).set 4 u4
def DecPost (x : Fv) (w : World) (e : Ending) (w' : World) : Prop :=
  ∃ C cc, e = .returned (fvV x C cc) ∧ CRow w' C cc x.c ∧ (x.c ≠ [] → ∀ a, C = some a → w.heap.size ≤ a.block ∧ ∃ cs fr, w'.heap[a.block]? = some (.cells cs 2 fr)) ∧ Below w.heap.size w w'
set_option maxRecDepth 100000 in
set_option maxHeartbeats 700000 in
theorem decoded_any (x : Ts) (r : Fv) (A : Option Addr) (cap : Nat) (s : Int) (w : World) (hx : TsOk x) (hr : FvW r) (hR : CRow w A cap r.c) (s0 : 0 ≤ s) (s1 : s ≤ 35184372088832) :
    Calls Try.prog 27 #[tsV x, fvV r A cap, .int .i64 s] w (DecPost ⟨0, s + r.a % 1048576, s + r.a % 1048576 + r.r % (x.j + 1), 1 + r.k % x.c, secs x.q (1 + r.k % x.c) r.c⟩ w) := by
  obtain ⟨xc0, xc1, -, -, xj0, xj1, xq0, xq1⟩ := hx
  have e1 := emod_bd r.a 1048576 (by omega)
  have e2 := emod_bd r.k x.c (by omega)
  have e3 := emod_bd r.r (x.j + 1) (by omega)
  have K1 := Lib.hid (fun W => srest_any r.a 1048576 W hr.a (by omega) (by omega))
  have K2 := Lib.hid (fun W => srest_any r.k x.c W hr.k (by omega) (by omega))
  have K3 := Lib.hid (fun W => srest_any r.r (x.j + 1) W hr.r (by omega) (by omega))
  obtain ⟨W1, hW1⟩ : ∃ W1, ((w.alloc (.cells #[.string x.n, .int .i64 x.c, .int .i64 x.t, .int .i64 x.d, .int .i64 x.j, .int .i64 x.q, .int .i64 x.p] 44)).alloc (.cells #[.int .i64 r.t, .int .i64 r.a, .int .i64 r.r, .int .i64 r.k, .slice A r.c.length cap] 49)).alloc (.cells #[.int .i64 0, .int .i64 0, .int .i64 0, .int .i64 0, .slice none 0 0] 40) = W1 := ⟨_, rfl⟩
  have B1 : Below w.heap.size w W1 := by rw [← hW1]; exact (((Below.refl _ _).alloc (Nat.le_refl _) _).alloc (by simp) _).alloc (by simp; omega) _
  have F1 : FB W1 (w.heap.size + 1 + 1) 40 (.int .i64 0) (.int .i64 0) (.int .i64 0) (.int .i64 0) (.slice none 0 0) := by
    rw [← hW1]
    have := FB.new ((w.alloc (.cells #[.string x.n, .int .i64 x.c, .int .i64 x.t, .int .i64 x.d, .int .i64 x.j, .int .i64 x.q, .int .i64 x.p] 44)).alloc (.cells #[.int .i64 r.t, .int .i64 r.a, .int .i64 r.r, .int .i64 r.k, .slice A r.c.length cap] 49)) 40 (.int .i64 0) (.int .i64 0) (.int .i64 0) (.int .i64 0) (.slice none 0 0)
    simpa only [World.size_alloc] using this
  generalize hm : r.k % x.c = rk at *
  have K5 := sections_any A cap r.c x.q (1 + rk) W1.drew (hR.later (B1.trans ((below_drew W1).mono B1.size))) xq0 xq1 (by omega) (by omega)
  generalize secs x.q (1 + rk) r.c = sl at *
  have K5 := Lib.hid K5
  generalize r.a % 1048576 = ra at *
  generalize r.r % (x.j + 1) = rr at *
  clear hm hR hr
  have HW1 := Lib.hid hW1
  have B1 := Lib.hid B1
  have F1 := Lib.hid F1
  clear hW1
  obtain ⟨Q, hQ⟩ : ∃ Q, Q = DecPost ⟨0, s + ra, s + ra + rr, 1 + rk, sl⟩ w := ⟨_, rfl⟩
  rw [← hQ]
  have HQ := Lib.hid hQ
  clear hQ
  go_enter Try.func27, Try.ntmps27
  go_upto_region 3 with (first
    | (go_at_call 26; (with_reducible refine (K1.out _).mono ?_); rintro e w1 ⟨rfl, rfl⟩)
    | (go_at_call 26; (with_reducible refine (K2.out _).mono ?_); rintro e w1 ⟨rfl, rfl⟩))
  rw [HW1.out]
  obtain ⟨q1, q2, q3, q4, q5⟩ : W1.cell? ⟨w.heap.size, 4, none⟩ = some (.int .i64 x.j) ∧ W1.cell? ⟨w.heap.size, 5, none⟩ = some (.int .i64 x.q) ∧ W1.cell? ⟨w.heap.size + 1, 2, none⟩ = some (.int .i64 r.r) ∧ W1.cell? ⟨w.heap.size + 1, 4, none⟩ = some (.slice A r.c.length cap) ∧ w.heap.size + 1 + 1 < W1.heap.size := by
    rw [← HW1.out]
    refine ⟨?_, ?_, ?_, ?_, by simp⟩ <;> go_simp
  clear HW1
  have hwr : IntKind.i64.wrap (x.j + 1) = x.j + 1 := IntWalk.i64_in _ (by omega)
  have hwr2 : IntKind.i64.wrap (s + ra + rr) = s + ra + rr := IntWalk.i64_in _ (by omega)
  generalize hN : w.heap.size = N at *
  have n1 : N ≠ N + 1 + 1 := by omega
  have n2 : N + 1 ≠ N + 1 + 1 := by omega
  have HNB : Hid (N ≤ N + 1 + 1) := Lib.hid (by omega)
  generalize N + 1 + 1 = b2 at *
  generalize N + 1 = b1 at *
  clear e1 e2 e3
  have F2 := Lib.hid (F1.out.later (below_drew W1))
  have B2 : Hid (Below N w W1.drew) := Lib.hid (B1.out.trans ((below_drew W1).mono (by have := B1.out.size; omega)))
  have hD : D4 N b1 b2 x.j x.q r.r (.slice A r.c.length cap) W1.drew := D4.step ⟨q1, q2, q3, q4, n1, n2⟩ (below_drew W1)
  have HD := Lib.hid hD
  clear K1 K2 F1 B1 q1 q2 q3 q4 q5 hD
  go_region_held_law (fun W => W.cell? ⟨N, 4, none⟩ = some (.int .i64 x.j) ∧ W.cell? ⟨N, 5, none⟩ = some (.int .i64 x.q) ∧ W.cell? ⟨b1, 2, none⟩ = some (.int .i64 r.r) ∧ W.cell? ⟨b1, 4, none⟩ = some (.slice A r.c.length cap) ∧ (N ≠ b2 ∧ b1 ≠ b2))
    (first | (with_reducible assumption) | (with_reducible exact HD.out) | (with_reducible exact HD3.out) | (with_reducible exact (D4.set5 HD3.out _ _ _ _ _)))
    (first
    | (go_at_call 26; (with_reducible refine (K3.out _).mono ?_); rintro e w1 ⟨rfl, rfl⟩)
    | (go_at_call 44; (with_reducible refine K5.out.mono ?_); rintro e w2 ⟨C, cc, rfl, hC, hs, hb⟩; have HD3 := Lib.hid (HD.out.step hb); have hFB := F2.out.later hb; obtain ⟨z0, z1, z2, z3, z4⟩ := hFB.z; have y0 := hFB.fz 0; have y1 := hFB.fz 1; have y2 := hFB.fz 2; have y3 := hFB.fz 3; have y4 := hFB.fz 4; have HFB := Lib.hid hFB; have HS := Lib.hid hs; have HC := Lib.hid hC; have HB := Lib.hid hb; clear hFB hs hC hb))
  have HF5 := Lib.hid ((((((F2.out.later HB.out).set (i := 0) (.int .i64 0) rfl).set (i := 1) (.int .i64 (s + ra)) rfl).set (i := 2) (.int .i64 (s + ra + rr)) rfl).set (i := 3) (.int .i64 (1 + rk)) rfl).set (i := 4) (.slice C sl.length cc) rfl)
  have HK5 := Lib.hid ((((((Kept.refl [b2] w2).set b2 0 (.int .i64 0) (by simp)).set b2 1 (.int .i64 (s + ra)) (by simp)).set b2 2 (.int .i64 (s + ra + rr)) (by simp)).set b2 3 (.int .i64 (1 + rk)) (by simp)).set b2 4 (.slice C sl.length cc) (by simp))
  generalize (((((w2.setCell ⟨b2, 0, none⟩ (.int .i64 0)).setCell ⟨b2, 1, none⟩ (.int .i64 (s + ra))).setCell ⟨b2, 2, none⟩ (.int .i64 (s + ra + rr))).setCell ⟨b2, 3, none⟩ (.int .i64 (1 + rk))).setCell ⟨b2, 4, none⟩ (.slice C sl.length cc)) = W9 at *
  have hlt : b2 < W1.drew.heap.size := F2.out.lt
  have hNb : N ≤ b2 := HNB.out
  have HSC := HS
  clear HS z0 z1 z2 z3 z4 y0 y1 y2 y3 y4
  go_wp2
  refine bodyPost_ret (results_job rfl _ _ b2 _ _ _ _ _ rfl HF5.out) rfl ?_
  rw [HQ.out]
  have hne : sl ≠ [] → ∀ a, C = some a → a.block ∉ [b2] := fun h a ha => by
    have := (HSC.out h a ha).1
    rw [List.mem_singleton]
    omega
  refine ⟨C, cc, rfl, HC.out.kept HK5.out hne, fun h a ha => ?_, ?_⟩
  · obtain ⟨h1, cs, fr, h2⟩ := HSC.out h a ha
    have hsz : N ≤ W1.drew.heap.size := by omega
    refine ⟨by rw [hN]; omega, cs, fr, (HK5.out.block a.block (Array.getElem?_eq_some_iff.1 h2).1 (hne h a ha)).trans h2⟩
  · rw [hN]
    exact ((B2.out.trans (HB.out.mono (by omega))).trans (HK5.out.below (by have := HB.out.size; omega) (by simp; exact hNb)))
end Go.Proofs.Ythfiodjhjhpiaaa
