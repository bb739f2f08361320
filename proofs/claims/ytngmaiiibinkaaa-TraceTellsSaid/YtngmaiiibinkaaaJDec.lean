/- A job of raw numbers. -/
import Derived.Test.YtngmaiiibinkaaaJSoon
import Derived.Deep.RegionHeldLaw
namespace Go.Proofs.Ytngmaiiibinkaaa
open Go.RowKit
set_option linter.unusedVariables false
set_option linter.unusedSimpArgs false

/-- Five cells of a block of its own. -/
structure FB (w : World) (b : Nat) (T : TypeId) (v0 v1 v2 v3 v4 : Value) : Prop where
  is : w.heap[b]? = some (.cells #[v0, v1, v2, v3, v4] T (0, 0))
theorem FB.lt {w : World} {b : Nat} {T : TypeId} {v0 v1 v2 v3 v4 : Value} (h : FB w b T v0 v1 v2 v3 v4) : b < w.heap.size := (Array.getElem?_eq_some_iff.1 h.is).1
theorem FB.z {w : World} {b : Nat} {T : TypeId} {v0 v1 v2 v3 v4 : Value} (h : FB w b T v0 v1 v2 v3 v4) : w.cell? ⟨b, 0, none⟩ = some v0 ∧ w.cell? ⟨b, 1, none⟩ = some v1 ∧ w.cell? ⟨b, 2, none⟩ = some v2 ∧ w.cell? ⟨b, 3, none⟩ = some v3 ∧ w.cell? ⟨b, 4, none⟩ = some v4 := by
  refine ⟨?_, ?_, ?_, ?_, ?_⟩ <;> (rw [cell_of_row w b _ _ _ _ h.is]; rfl)
theorem FB.fz {w : World} {b : Nat} {T : TypeId} {v0 v1 v2 v3 v4 : Value} (h : FB w b T v0 v1 v2 v3 v4) (i : Nat) : w.frozen? ⟨b, i, none⟩ = false := frozen_of_row w b i _ _ h.is
theorem FB.later {w w' : World} {b : Nat} {T : TypeId} {v0 v1 v2 v3 v4 : Value} (h : FB w b T v0 v1 v2 v3 v4) (hb : Below w.heap.size w w') : FB w' b T v0 v1 v2 v3 v4 := ⟨(hb.block b h.lt).trans h.is⟩
theorem FB.kept {X : List Nat} {w w' : World} {b : Nat} {T : TypeId} {v0 v1 v2 v3 v4 : Value} (h : FB w b T v0 v1 v2 v3 v4) (hb : Kept X w w') (hx : b ∉ X) : FB w' b T v0 v1 v2 v3 v4 := ⟨(hb.block b h.lt hx).trans h.is⟩
theorem FB.new (w : World) (T : TypeId) (v0 v1 v2 v3 v4 : Value) : FB (w.alloc (.cells #[v0, v1, v2, v3, v4] T)) w.heap.size T v0 v1 v2 v3 v4 := ⟨heap_alloc_new w _⟩
theorem FB.set {w : World} {b i : Nat} {T : TypeId} {v0 v1 v2 v3 v4 u0 u1 u2 u3 u4 : Value} (h : FB w b T v0 v1 v2 v3 v4) (u : Value) (he : (#[v0, v1, v2, v3, v4].setIfInBounds i u) = #[u0, u1, u2, u3, u4]) : FB (w.setCell ⟨b, i, none⟩ u) b T u0 u1 u2 u3 u4 := ⟨by
  rw [heap_setCell_same _ b i _ _ u h.is, he]⟩
theorem results_job {fn : Func} {p : Tmp} (h : fn.results = #[.cell p 60]) (tmps : Array Value) (w : World) (b : Nat) (v0 v1 v2 v3 v4 : Value) (hp : tmps.getD p undef = .pointer (some ⟨b, 0, none⟩)) (hb : FB w b 60 v0 v1 v2 v3 v4) :
    (results fn tmps).run Try.prog w = .ok (.agg #[v0, v1, v2, v3, v4]) w :=
  results_cell_row h tmps w b _ _ _ _ hp hb.is Try.underlying60 rfl infoJ
theorem results_raw {fn : Func} {p : Tmp} (h : fn.results = #[.cell p 58]) (tmps : Array Value) (w : World) (b : Nat) (v0 v1 v2 v3 v4 : Value) (hp : tmps.getD p undef = .pointer (some ⟨b, 0, none⟩)) (hb : FB w b 58 v0 v1 v2 v3 v4) :
    (results fn tmps).run Try.prog w = .ok (.agg #[v0, v1, v2, v3, v4]) w :=
  results_cell_row h tmps w b _ _ _ _ hp hb.is Try.underlying58 rfl infoR

theorem FB.set5 {w : World} {b : Nat} {T : TypeId} {v0 v1 v2 v3 v4 : Value} (h : FB w b T v0 v1 v2 v3 v4) (u0 u1 u2 u3 u4 : Value) : FB (w.setCells b 0 [u0, u1, u2, u3, u4]) b T u0 u1 u2 u3 u4 := by
  simp only [World.setCells]
  exact ((((h.set u0 rfl).set u1 rfl).set u2 rfl).set u3 rfl).set u4 rfl
theorem FB.there {w : World} {b : Nat} {T : TypeId} {v0 v1 v2 v3 v4 : Value} (h : FB w b T v0 v1 v2 v3 v4) : w.there b 0 5 := fun j hj => by
  obtain ⟨z0, z1, z2, z3, z4⟩ := h.z
  rw [Nat.zero_add]
  refine ⟨?_, h.fz j⟩
  rcases (by omega : j = 0 ∨ j = 1 ∨ j = 2 ∨ j = 3 ∨ j = 4) with rfl | rfl | rfl | rfl | rfl
  · rw [z0]; rfl
  · rw [z1]; rfl
  · rw [z2]; rfl
  · rw [z3]; rfl
  · rw [z4]; rfl
theorem kept_set5 (w : World) (b : Nat) (vs : List Value) : ∀ (o : Nat), Kept [b] w (w.setCells b o vs) := by
  induction vs generalizing w with
  | nil => intro o; exact Kept.refl _ _
  | cons v r ih => intro o; exact ((Kept.refl [b] w).set b o v (by simp)).trans (ih _ (o + 1))
theorem CRow.kept {X : List Nat} {w w' : World} {A : Option Addr} {cap : Nat} {l : List Int} (h : CRow w A cap l) (hk : Kept X w w') (hx : l ≠ [] → ∀ a, A = some a → a.block ∉ X) : CRow w' A cap l :=
  ⟨h.le, h.mx, h.wf, fun i x hi => by
    obtain ⟨b, o, e, hc⟩ := h.at_ i x hi
    exact ⟨b, o, e, (hk.cell (World.block_lt_of_cell? w _ hc) (hx (by intro h0; rw [h0] at hi; simp at hi) ⟨b, o, none⟩ e)).trans hc⟩⟩
abbrev D4 (N b1 b2 : Nat) (xj xq rr : Int) (V : Value) (W : World) : Prop := W.cell? ⟨N, 4, none⟩ = some (.int .i64 xj) ∧ W.cell? ⟨N, 5, none⟩ = some (.int .i64 xq) ∧ W.cell? ⟨b1, 2, none⟩ = some (.int .i64 rr) ∧ W.cell? ⟨b1, 4, none⟩ = some V ∧ (N ≠ b2 ∧ b1 ≠ b2)
theorem D4.step {W W' : World} {N b1 b2 : Nat} {xj xq rr : Int} {V : Value} (h : D4 N b1 b2 xj xq rr V W) (hb : Below W.heap.size W W') : D4 N b1 b2 xj xq rr V W' := by
  obtain ⟨h1, h2, h3, h4, h5⟩ := h
  have hc := cells_below hb
  exact ⟨hc _ _ _ h1, hc _ _ _ h2, hc _ _ _ h3, hc _ _ _ h4, h5⟩
theorem D4.set {W : World} {N b1 b2 : Nat} {xj xq rr : Int} {V : Value} (h : D4 N b1 b2 xj xq rr V W) (i : Nat) (u : Value) : D4 N b1 b2 xj xq rr V (W.setCell ⟨b2, i, none⟩ u) := by
  obtain ⟨h1, h2, h3, h4, h5, h6⟩ := h
  have hc : ∀ b o, b ≠ b2 → (W.setCell ⟨b2, i, none⟩ u).cell? ⟨b, o, none⟩ = W.cell? ⟨b, o, none⟩ := fun b o hb => World.cell?_setCell_other _ _ _ _ (by intro e; exact hb (congrArg Addr.block e).symm)
  exact ⟨(hc _ _ h5).trans h1, (hc _ _ h5).trans h2, (hc _ _ h6).trans h3, (hc _ _ h6).trans h4, h5, h6⟩
theorem D4.set5 {W : World} {N b1 b2 : Nat} {xj xq rr : Int} {V : Value} (h : D4 N b1 b2 xj xq rr V W) (u0 u1 u2 u3 u4 : Value) : D4 N b1 b2 xj xq rr V (((((W.setCell ⟨b2, 0, none⟩ u0).setCell ⟨b2, 1, none⟩ u1).setCell ⟨b2, 2, none⟩ u2).setCell ⟨b2, 3, none⟩ u3).setCell ⟨b2, 4, none⟩ u4) := ((((h.set 0 u0).set 1 u1).set 2 u2).set 3 u3).set 4 u4
def DecPost (x : Fv) (w : World) (e : Ending) (w' : World) : Prop :=
  ∃ C cc, e = .returned (fvV x C cc) ∧ CRow w' C cc x.c ∧ (x.c ≠ [] → ∀ a, C = some a → w.heap.size ≤ a.block ∧ ∃ cs fr, w'.heap[a.block]? = some (.cells cs 2 fr)) ∧ Below w.heap.size w w'
end Go.Proofs.Ytngmaiiibinkaaa
