/- What arrived last, kept in a map; jobs in blocks of their own; what the walks of Decode hold. -/
import Derived.Test.YtngmaiiibinkaaaJDec
import Derived.Deep.RegionHeldLaw
namespace Go.Proofs.Ytngmaiiibinkaaa
open Go.RowKit
set_option linter.unusedVariables false
set_option linter.unusedSimpArgs false

/-! ### What arrived last -/
def lastF (js : List Fv) : Int → Option Int := fun t => (lastT js t).map (·.a)
theorem lastF_nil : lastF [] = fun _ => none := by funext t; rfl
theorem lastF_snoc (js : List Fv) (j : Fv) : lastF (js ++ [j]) = updF (lastF js) j.t j.a := by
  funext t
  simp only [lastF, updF, lastT_snoc]
  by_cases h : t = j.t
  · rw [if_pos h.symm, if_pos h]; rfl
  · rw [if_neg (fun e => h e.symm), if_neg h]
theorem soonV_last (ts : List Ts) (js : List Fv) (p : Int) : soonV (lastF js) ts p = soonI ts js p := by
  unfold soonV soonI lastF
  cases lastT js p <;> rfl
theorem take_one {α : Type} {l : List α} {k : Nat} {x : α} (h : l[k]? = some x) : l.take (k + 1) = l.take k ++ [x] := by
  rw [List.take_add_one, h]; rfl
/-! ### The walk -/
/-- A job in a block of its own. -/
structure JB (W1 w : World) (b : Nat) (x : Fv) (C : Option Addr) (cc : Nat) : Prop where
  fb : FB w b 60 (.int .i64 x.t) (.int .i64 x.a) (.int .i64 x.r) (.int .i64 x.k) (.slice C x.c.length cc)
  wf : FvW x
  s : CRow w C cc x.c
  ty : x.c ≠ [] → ∀ a, C = some a → ∃ cs fr, w.heap[a.block]? = some (.cells cs 2 fr)
  bel : Below W1.heap.size W1 w
  ge : W1.heap.size ≤ b
theorem JB.ofSet {W1 w : World} {b : Nat} {x : Fv} {C : Option Addr} {cc : Nat} {v0 v1 v2 v3 v4 : Value} (h : FB w b 60 v0 v1 v2 v3 v4) (hw : FvW x) (hs : CRow w C cc x.c)
    (ty : x.c ≠ [] → ∀ a, C = some a → ∃ cs fr, w.heap[a.block]? = some (.cells cs 2 fr)) (hb : Below W1.heap.size W1 w) (hg : W1.heap.size ≤ b) :
    JB W1 (((((w.setCell ⟨b, 0, none⟩ (.int .i64 x.t)).setCell ⟨b, 1, none⟩ (.int .i64 x.a)).setCell ⟨b, 2, none⟩ (.int .i64 x.r)).setCell ⟨b, 3, none⟩ (.int .i64 x.k)).setCell ⟨b, 4, none⟩ (.slice C x.c.length cc)) b x C cc := by
  have hk := ((((((Kept.refl [b] w).set b 0 (.int .i64 x.t) (by simp)).set b 1 (.int .i64 x.a) (by simp)).set b 2 (.int .i64 x.r) (by simp)).set b 3 (.int .i64 x.k) (by simp)).set b 4 (.slice C x.c.length cc) (by simp))
  have hne : x.c ≠ [] → ∀ a, C = some a → a.block ∉ [b] := fun hc a ha hm => by
    rw [List.mem_singleton] at hm
    obtain ⟨cs, fr, ht⟩ := ty hc a ha
    rw [hm, h.is] at ht
    cases ht
  refine ⟨((((h.set (i := 0) (.int .i64 x.t) rfl).set (i := 1) (.int .i64 x.a) rfl).set (i := 2) (.int .i64 x.r) rfl).set (i := 3) (.int .i64 x.k) rfl).set (i := 4) (.slice C x.c.length cc) rfl, hw, hs.kept hk hne, fun hc a ha => ?_, hb.trans (hk.below hb.size (by simp; exact hg)), hg⟩
  obtain ⟨cs, fr, ht⟩ := ty hc a ha
  exact ⟨cs, fr, (hk.block a.block (Array.getElem?_eq_some_iff.1 ht).1 (hne hc a ha)).trans ht⟩
theorem JB.ofAlloc {W1 w : World} {x : Fv} {C : Option Addr} {cc : Nat} (hw : FvW x) (hs : CRow w C cc x.c)
    (ty : x.c ≠ [] → ∀ a, C = some a → ∃ cs fr, w.heap[a.block]? = some (.cells cs 2 fr)) (hb : Below W1.heap.size W1 w) :
    JB W1 (w.alloc (.cells #[.int .i64 x.t, .int .i64 x.a, .int .i64 x.r, .int .i64 x.k, .slice C x.c.length cc] 60)) w.heap.size x C cc := by
  have hb2 : Below w.heap.size w (w.alloc (.cells #[.int .i64 x.t, .int .i64 x.a, .int .i64 x.r, .int .i64 x.k, .slice C x.c.length cc] 60)) := (Below.refl _ _).alloc (Nat.le_refl _) _
  refine ⟨FB.new _ _ _ _ _ _ _, hw, hs.later hb2, fun hc a ha => ?_, hb.trans (hb2.mono hb.size), hb.size⟩
  obtain ⟨cs, fr, ht⟩ := ty hc a ha
  exact ⟨cs, fr, (hb2.block a.block (Array.getElem?_eq_some_iff.1 ht).1).trans ht⟩
theorem JB.fat {W1 w : World} {b : Nat} {x : Fv} {C : Option Addr} {cc : Nat} (h : JB W1 w b x C cc) : FAt w b 0 x C cc :=
  ⟨fun j v hv => by rw [Nat.zero_add, cell_of_row w b j _ _ _ h.fb.is]; simpa [fvL] using hv, h.wf, h.s⟩
theorem JB.setT {W1 w : World} {b : Nat} {x : Fv} {C : Option Addr} {cc : Nat} (h : JB W1 w b x C cc) (p : Int) (hp : in64 p) : JB W1 (w.setCell ⟨b, 0, none⟩ (.int .i64 p)) b { x with t := p } C cc := by
  have hk := (Kept.refl [b] w).set b 0 (.int .i64 p) (by simp)
  have hne : x.c ≠ [] → ∀ a, C = some a → a.block ∉ [b] := fun hc a ha hm => by
    rw [List.mem_singleton] at hm
    obtain ⟨cs, fr, ht⟩ := h.ty hc a ha
    rw [hm, h.fb.is] at ht
    cases ht
  refine ⟨h.fb.set (i := 0) (.int .i64 p) rfl, ⟨hp, h.wf.a, h.wf.r, h.wf.k⟩, h.s.kept hk hne, fun hc a ha => ?_, h.bel.trans (hk.below h.bel.size (by simp; exact h.ge)), h.ge⟩
  obtain ⟨cs, fr, ht⟩ := h.ty hc a ha
  exact ⟨cs, fr, (hk.block a.block (Array.getElem?_eq_some_iff.1 ht).1 (hne hc a ha)).trans ht⟩
def LtW (W1 : World) (tb b8 M : Nat) (W : World) : Prop := Below W1.heap.size W1 W ∧ tb < W1.heap.size ∧ b8 < W1.heap.size ∧ M + 1 < W1.heap.size
abbrev D9 (W1 : World) (tb o b8 M : Nat) (y : Ts) (x : Fv) (C : Option Addr) (cc : Nat) (A : Option Addr) (n cap : Nat) (W : World) : Prop :=
  W.cell? ⟨tb, o, none⟩ = some (.string y.n) ∧ W.cell? ⟨tb, o + 1, none⟩ = some (.int .i64 y.c) ∧ W.cell? ⟨tb, o + 2, none⟩ = some (.int .i64 y.t) ∧ W.cell? ⟨tb, o + 3, none⟩ = some (.int .i64 y.d) ∧ W.cell? ⟨tb, o + 4, none⟩ = some (.int .i64 y.j) ∧ W.cell? ⟨tb, o + 5, none⟩ = some (.int .i64 y.q) ∧ W.cell? ⟨tb, o + 6, none⟩ = some (.int .i64 y.p) ∧
  W.cell? ⟨b8, 0, none⟩ = some (.int .i64 x.t) ∧ W.cell? ⟨b8, 1, none⟩ = some (.int .i64 x.a) ∧ W.cell? ⟨b8, 2, none⟩ = some (.int .i64 x.r) ∧ W.cell? ⟨b8, 3, none⟩ = some (.int .i64 x.k) ∧ W.cell? ⟨b8, 4, none⟩ = some (.slice C x.c.length cc) ∧
  W.cell? ⟨M + 1, 0, none⟩ = some (.slice A n cap) ∧ W.cell? ⟨M + 1, 1, none⟩ = some (.map (some M)) ∧ LtW W1 tb b8 M W
theorem D9.step {W1 : World} {tb o b8 M : Nat} {y : Ts} {x : Fv} {C : Option Addr} {cc : Nat} {A : Option Addr} {n cap : Nat} {W W' : World} (h : D9 W1 tb o b8 M y x C cc A n cap W) (hb : Below W.heap.size W W') : D9 W1 tb o b8 M y x C cc A n cap W' := by
  obtain ⟨h0, h1, h2, h3, h4, h5, h6, g0, g1, g2, g3, g4, m0, m1, hl⟩ := h
  have hc := cells_below hb
  exact ⟨hc _ _ _ h0, hc _ _ _ h1, hc _ _ _ h2, hc _ _ _ h3, hc _ _ _ h4, hc _ _ _ h5, hc _ _ _ h6, hc _ _ _ g0, hc _ _ _ g1, hc _ _ _ g2, hc _ _ _ g3, hc _ _ _ g4, hc _ _ _ m0, hc _ _ _ m1, Below.trans hl.1 (hb.mono (Below.size hl.1)), hl.2⟩
theorem D9.lt {W1 : World} {tb o b8 M : Nat} {y : Ts} {x : Fv} {C : Option Addr} {cc : Nat} {A : Option Addr} {n cap : Nat} {W : World} (h : D9 W1 tb o b8 M y x C cc A n cap W) : Below W1.heap.size W1 W := h.2.2.2.2.2.2.2.2.2.2.2.2.2.2.1
theorem D9.set {W1 : World} {tb o b8 M b : Nat} {y : Ts} {x : Fv} {C : Option Addr} {cc : Nat} {A : Option Addr} {n cap : Nat} {W : World} (h : D9 W1 tb o b8 M y x C cc A n cap W) (hb : W1.heap.size ≤ b) (i : Nat) (u : Value) : D9 W1 tb o b8 M y x C cc A n cap (W.setCell ⟨b, i, none⟩ u) := by
  obtain ⟨h0, h1, h2, h3, h4, h5, h6, g0, g1, g2, g3, g4, m0, m1, hl, l1, l2, l3⟩ := h
  have hc : ∀ q o v, q < W1.heap.size → W.cell? ⟨q, o, none⟩ = some v → (W.setCell ⟨b, i, none⟩ u).cell? ⟨q, o, none⟩ = some v := fun q o v hq hv => (World.cell?_setCell_other _ _ _ _ (by intro e; have := congrArg Addr.block e; simp only at this; omega)).trans hv
  exact ⟨hc _ _ _ l1 h0, hc _ _ _ l1 h1, hc _ _ _ l1 h2, hc _ _ _ l1 h3, hc _ _ _ l1 h4, hc _ _ _ l1 h5, hc _ _ _ l1 h6, hc _ _ _ l2 g0, hc _ _ _ l2 g1, hc _ _ _ l2 g2, hc _ _ _ l2 g3, hc _ _ _ l2 g4, hc _ _ _ l3 m0, hc _ _ _ l3 m1, hl.setCell (p := ⟨b, i, none⟩) hb u, l1, l2, l3⟩
theorem D9.set5 {W1 : World} {tb o b8 M b : Nat} {y : Ts} {x : Fv} {C : Option Addr} {cc : Nat} {A : Option Addr} {n cap : Nat} {W : World} (h : D9 W1 tb o b8 M y x C cc A n cap W) (hb : W1.heap.size ≤ b) (u0 u1 u2 u3 u4 : Value) :
    D9 W1 tb o b8 M y x C cc A n cap (((((W.setCell ⟨b, 0, none⟩ u0).setCell ⟨b, 1, none⟩ u1).setCell ⟨b, 2, none⟩ u2).setCell ⟨b, 3, none⟩ u3).setCell ⟨b, 4, none⟩ u4) := ((((h.set hb 0 u0).set hb 1 u1).set hb 2 u2).set hb 3 u3).set hb 4 u4
def DecodePost (js : List Fv) (w : World) (e : Ending) (w' : World) : Prop := ∃ v gs, e = .returned v ∧ FOwn 60 w.heap.size w' v gs ∧ gs.map (·.x) = js ∧ Below w.heap.size w w'
theorem decF_task {ts : List Ts} (hv : Vs ts) (rs : List Fv) : ∀ j ∈ decF ts [] rs, 0 ≤ j.t ∧ j.t < ts.length := by
  refine snoc_ind (P := fun rs => ∀ j ∈ decF ts [] rs, 0 ≤ j.t ∧ j.t < ts.length) (by intro j hj; simp [decF] at hj) (fun l r ih j hj => ?_) rs
  rw [decF_snoc] at hj
  rcases List.mem_append.1 hj with hj | hj
  · exact ih j hj
  · rw [List.mem_singleton] at hj
    subst hj
    have := dec_parts hv (decF ts [] l) r
    omega
theorem decF_good {ts : List Ts} (hv : Vs ts) (rs : List Fv) (hl : rs.length ≤ 4096) : ∀ j ∈ decF ts [] rs, 0 ≤ j.t ∧ j.t < ts.length ∧ 0 ≤ j.a ∧ j.a ≤ 35184372088832 := fun j hj => by
  have h1 := decF_task hv rs j hj
  have h2 := decF_bd hv rs [] Bd.nil j hj
  rw [decF_len] at h2
  simp only [List.length_nil] at h2
  omega
end Go.Proofs.Ytngmaiiibinkaaa
