/- What arrived last, kept in a map; jobs in blocks of their own; what the walks of Decode hold. -/
import Derived.Test.YthfiodjhjhpiaaaJDec
import Derived.Deep.RegionHeldLaw
namespace Go.Proofs.Ythfiodjhjhpiaaa
open Go.RowKit
set_option linter.unusedVariables false
set_option linter.unusedSimpArgs false

/-! ### What arrived last -/
def lastF (js : List Fv) : Int → Option Int := fun t => (lastT js t).map (·.a)
theorem lastF_nil : lastF [] = fun _ => none := by funext t; rfl
theorem lastF_snoc (js : List Fv) (j : Fv) : lastF (js ++ [j]) = updF (lastF js) j.t j.a := by
  funext t
  simp only [lastF, updF, lastT_snoc]
  by_cases h : t = j.t
  · rw [if_pos h.symm, if_pos h]; rfl
  · rw [if_neg (fun e => h e.symm), if_neg h]
theorem soonV_last (ts : List Ts) (js : List Fv) (p : Int) : soonV (lastF js) ts p = soonI ts js p := by
  unfold soonV soonI lastF
  cases lastT js p <;> rfl
structure Arr (A : Option Addr) (n cap M : Nat) (wr : World) (js : List Fv) : Prop where
  map : MI wr M (lastF js)
  is : wr.heap[M + 1]? = some (.cells #[.slice A n cap, .map (some M)] 57 (0, 0))
theorem Arr.c0 {A : Option Addr} {n cap M : Nat} {w : World} {js : List Fv} (h : Arr A n cap M w js) : w.cell? ⟨M + 1, 0, none⟩ = some (.slice A n cap) := by rw [cell_of_row w (M + 1) 0 _ _ _ h.is]; rfl
theorem Arr.c1 {A : Option Addr} {n cap M : Nat} {w : World} {js : List Fv} (h : Arr A n cap M w js) : w.cell? ⟨M + 1, 1, none⟩ = some (.map (some M)) := by rw [cell_of_row w (M + 1) 1 _ _ _ h.is]; rfl
theorem Arr.lt {A : Option Addr} {n cap M : Nat} {w : World} {js : List Fv} (h : Arr A n cap M w js) : M + 1 < w.heap.size := (Array.getElem?_eq_some_iff.1 h.is).1
theorem Arr.later {A : Option Addr} {n cap M : Nat} {w w' : World} {js : List Fv} (h : Arr A n cap M w js) (hb : Below w.heap.size w w') : Arr A n cap M w' js :=
  ⟨h.map.later hb, (hb.block _ h.lt).trans h.is⟩
theorem Arr.kept {X : List Nat} {A : Option Addr} {n cap M : Nat} {w w' : World} {js : List Fv} (h : Arr A n cap M w js) (hb : Kept X w w') (h1 : M ∉ X) (h2 : M + 1 ∉ X) : Arr A n cap M w' js :=
  ⟨h.map.kept hb h1, (hb.block _ h.lt h2).trans h.is⟩
theorem Arr.note {A : Option Addr} {n cap M : Nat} {w w' : World} {js : List Fv} {j : Fv} (h : Arr A n cap M w js) (hm : MI w' M (updF (lastF js) j.t j.a)) (hk : Kept [M] w w') : Arr A n cap M w' (js ++ [j]) := by
  have hx : M + 1 ∉ [M] := by simp
  exact ⟨by rw [lastF_snoc]; exact hm, (hk.block _ h.lt hx).trans h.is⟩
theorem Arr.new (A : Option Addr) (n cap : Nat) (w : World) : Arr A n cap w.heap.size ((w.alloc (.map #[] 0)).alloc (.cells #[.slice A n cap, .map (some w.heap.size)] 57)) [] := by
  have hb : Below (w.alloc (.map #[] 0)).heap.size (w.alloc (.map #[] 0)) ((w.alloc (.map #[] 0)).alloc (.cells #[.slice A n cap, .map (some w.heap.size)] 57)) := (Below.refl _ _).alloc (Nat.le_refl _) _
  exact ⟨by rw [lastF_nil]; exact (MI.new w).later hb, by have := heap_alloc_new (w.alloc (.map #[] 0)) (.cells #[.slice A n cap, .map (some w.heap.size)] 57); rwa [World.size_alloc] at this⟩
/-- A row that grows is neither the map nor its box. -/
theorem Arr.grown {A : Option Addr} {n cap M : Nat} {w w' : World} {js : List Fv} (h : Arr A n cap M w js) {B e size k : Nat} {v : Value} {xs : List Value} (hr : w.ownsRow B e size v k xs) (he : 57 ≠ e) (hg : w.grownBy w' v.ownBlock) : Arr A n cap M w' js := by
  refine h.kept (X := v.ownBlock.toList) (kept_grown hg (fun k hk => by rw [hk]; simp)) (fun hm => ?_) (fun hm => ?_)
  · rw [Option.mem_toList] at hm
    rcases hr.2 with ⟨rfl, _⟩ | ⟨g, c, cur, rfl, _, hh, _⟩
    · simp [Value.ownBlock] at hm
    · simp only [Value.ownBlock, Option.some.injEq] at hm
      obtain ⟨es, c', hm'⟩ := h.map.is
      have hm2 : g = M := by simpa using hm
      rw [hm2, hm'] at hh
      cases hh
  · rw [Option.mem_toList] at hm
    exact own_ne hr h.is he hm
theorem Arr.soon {A : Option Addr} {cap M : Nat} {wr : World} {ts : List Ts} {js : List Fv} (h : Arr A ts.length cap M wr js) (hT : Row wr A cap ts) (hv : Vs ts) (p : Int)
    (hj : ∀ j ∈ js, 0 ≤ j.t ∧ j.t < ts.length ∧ 0 ≤ j.a ∧ j.a ≤ 35184372088832) :
    Calls Try.prog 28 #[.agg #[.slice A ts.length cap, .map (some M)], .int .i64 p] wr fun e w' => e = .returned (.int .i64 (soonI ts js p)) ∧ Below wr.heap.size wr w' := by
  rw [← soonV_last]
  refine soonest_any A cap ts M (lastF js) p wr hT h.map (fun a ha => ?_) (hv.tk p)
  obtain ⟨j, hl, rfl⟩ := Option.map_eq_some_iff.1 ha
  obtain ⟨hm, rfl⟩ := lastT_mem hl
  exact hj j hm

theorem take_one {α : Type} {l : List α} {k : Nat} {x : α} (h : l[k]? = some x) : l.take (k + 1) = l.take k ++ [x] := by
  rw [List.take_add_one, h]; rfl
/-! ### The walk -/
/-- A job in a block of its own. -/
structure JB (W1 w : World) (b : Nat) (x : Fv) (C : Option Addr) (cc : Nat) : Prop where
  fb : FB w b 40 (.int .i64 x.t) (.int .i64 x.a) (.int .i64 x.r) (.int .i64 x.k) (.slice C x.c.length cc)
  wf : FvW x
  s : CRow w C cc x.c
  ty : x.c ≠ [] → ∀ a, C = some a → ∃ cs fr, w.heap[a.block]? = some (.cells cs 2 fr)
  bel : Below W1.heap.size W1 w
  ge : W1.heap.size ≤ b
theorem JB.ofSet {W1 w : World} {b : Nat} {x : Fv} {C : Option Addr} {cc : Nat} {v0 v1 v2 v3 v4 : Value} (h : FB w b 40 v0 v1 v2 v3 v4) (hw : FvW x) (hs : CRow w C cc x.c)
    (ty : x.c ≠ [] → ∀ a, C = some a → ∃ cs fr, w.heap[a.block]? = some (.cells cs 2 fr)) (hb : Below W1.heap.size W1 w) (hg : W1.heap.size ≤ b) :
    JB W1 (((((w.setCell ⟨b, 0, none⟩ (.int .i64 x.t)).setCell ⟨b, 1, none⟩ (.int .i64 x.a)).setCell ⟨b, 2, none⟩ (.int .i64 x.r)).setCell ⟨b, 3, none⟩ (.int .i64 x.k)).setCell ⟨b, 4, none⟩ (.slice C x.c.length cc)) b x C cc := by
  have hk := ((((((Kept.refl [b] w).set b 0 (.int .i64 x.t) (by simp)).set b 1 (.int .i64 x.a) (by simp)).set b 2 (.int .i64 x.r) (by simp)).set b 3 (.int .i64 x.k) (by simp)).set b 4 (.slice C x.c.length cc) (by simp))
  have hne : x.c ≠ [] → ∀ a, C = some a → a.block ∉ [b] := fun hc a ha hm => by
    rw [List.mem_singleton] at hm
    obtain ⟨cs, fr, ht⟩ := ty hc a ha
    rw [hm, h.is] at ht
    cases ht
  refine ⟨((((h.set (i := 0) (.int .i64 x.t) rfl).set (i := 1) (.int .i64 x.a) rfl).set (i := 2) (.int .i64 x.r) rfl).set (i := 3) (.int .i64 x.k) rfl).set (i := 4) (.slice C x.c.length cc) rfl, hw, hs.kept hk hne, fun hc a ha => ?_, hb.trans (hk.below hb.size (by simp; exact hg)), hg⟩
  obtain ⟨cs, fr, ht⟩ := ty hc a ha
  exact ⟨cs, fr, (hk.block a.block (Array.getElem?_eq_some_iff.1 ht).1 (hne hc a ha)).trans ht⟩
theorem JB.ofAlloc {W1 w : World} {x : Fv} {C : Option Addr} {cc : Nat} (hw : FvW x) (hs : CRow w C cc x.c)
    (ty : x.c ≠ [] → ∀ a, C = some a → ∃ cs fr, w.heap[a.block]? = some (.cells cs 2 fr)) (hb : Below W1.heap.size W1 w) :
    JB W1 (w.alloc (.cells #[.int .i64 x.t, .int .i64 x.a, .int .i64 x.r, .int .i64 x.k, .slice C x.c.length cc] 40)) w.heap.size x C cc := by
  have hb2 : Below w.heap.size w (w.alloc (.cells #[.int .i64 x.t, .int .i64 x.a, .int .i64 x.r, .int .i64 x.k, .slice C x.c.length cc] 40)) := (Below.refl _ _).alloc (Nat.le_refl _) _
  refine ⟨FB.new _ _ _ _ _ _ _, hw, hs.later hb2, fun hc a ha => ?_, hb.trans (hb2.mono hb.size), hb.size⟩
  obtain ⟨cs, fr, ht⟩ := ty hc a ha
  exact ⟨cs, fr, (hb2.block a.block (Array.getElem?_eq_some_iff.1 ht).1).trans ht⟩
theorem JB.fat {W1 w : World} {b : Nat} {x : Fv} {C : Option Addr} {cc : Nat} (h : JB W1 w b x C cc) : FAt w b 0 x C cc :=
  ⟨fun j v hv => by rw [Nat.zero_add, cell_of_row w b j _ _ _ h.fb.is]; simpa [fvL] using hv, h.wf, h.s⟩
theorem JB.setT {W1 w : World} {b : Nat} {x : Fv} {C : Option Addr} {cc : Nat} (h : JB W1 w b x C cc) (p : Int) (hp : in64 p) : JB W1 (w.setCell ⟨b, 0, none⟩ (.int .i64 p)) b { x with t := p } C cc := by
  have hk := (Kept.refl [b] w).set b 0 (.int .i64 p) (by simp)
  have hne : x.c ≠ [] → ∀ a, C = some a → a.block ∉ [b] := fun hc a ha hm => by
    rw [List.mem_singleton] at hm
    obtain ⟨cs, fr, ht⟩ := h.ty hc a ha
    rw [hm, h.fb.is] at ht
    cases ht
  refine ⟨h.fb.set (i := 0) (.int .i64 p) rfl, ⟨hp, h.wf.a, h.wf.r, h.wf.k⟩, h.s.kept hk hne, fun hc a ha => ?_, h.bel.trans (hk.below h.bel.size (by simp; exact h.ge)), h.ge⟩
  obtain ⟨cs, fr, ht⟩ := h.ty hc a ha
  exact ⟨cs, fr, (hk.block a.block (Array.getElem?_eq_some_iff.1 ht).1 (hne hc a ha)).trans ht⟩
def LtW (W1 : World) (tb b8 M : Nat) (W : World) : Prop := Below W1.heap.size W1 W ∧ tb < W1.heap.size ∧ b8 < W1.heap.size ∧ M + 1 < W1.heap.size
abbrev D9 (W1 : World) (tb o b8 M : Nat) (y : Ts) (x : Fv) (C : Option Addr) (cc : Nat) (A : Option Addr) (n cap : Nat) (W : World) : Prop :=
  W.cell? ⟨tb, o, none⟩ = some (.string y.n) ∧ W.cell? ⟨tb, o + 1, none⟩ = some (.int .i64 y.c) ∧ W.cell? ⟨tb, o + 2, none⟩ = some (.int .i64 y.t) ∧ W.cell? ⟨tb, o + 3, none⟩ = some (.int .i64 y.d) ∧ W.cell? ⟨tb, o + 4, none⟩ = some (.int .i64 y.j) ∧ W.cell? ⟨tb, o + 5, none⟩ = some (.int .i64 y.q) ∧ W.cell? ⟨tb, o + 6, none⟩ = some (.int .i64 y.p) ∧
  W.cell? ⟨b8, 0, none⟩ = some (.int .i64 x.t) ∧ W.cell? ⟨b8, 1, none⟩ = some (.int .i64 x.a) ∧ W.cell? ⟨b8, 2, none⟩ = some (.int .i64 x.r) ∧ W.cell? ⟨b8, 3, none⟩ = some (.int .i64 x.k) ∧ W.cell? ⟨b8, 4, none⟩ = some (.slice C x.c.length cc) ∧
  W.cell? ⟨M + 1, 0, none⟩ = some (.slice A n cap) ∧ W.cell? ⟨M + 1, 1, none⟩ = some (.map (some M)) ∧ LtW W1 tb b8 M W
theorem D9.step {W1 : World} {tb o b8 M : Nat} {y : Ts} {x : Fv} {C : Option Addr} {cc : Nat} {A : Option Addr} {n cap : Nat} {W W' : World} (h : D9 W1 tb o b8 M y x C cc A n cap W) (hb : Below W.heap.size W W') : D9 W1 tb o b8 M y x C cc A n cap W' := by
  obtain ⟨h0, h1, h2, h3, h4, h5, h6, g0, g1, g2, g3, g4, m0, m1, hl⟩ := h
  have hc := cells_below hb
  exact ⟨hc _ _ _ h0, hc _ _ _ h1, hc _ _ _ h2, hc _ _ _ h3, hc _ _ _ h4, hc _ _ _ h5, hc _ _ _ h6, hc _ _ _ g0, hc _ _ _ g1, hc _ _ _ g2, hc _ _ _ g3, hc _ _ _ g4, hc _ _ _ m0, hc _ _ _ m1, Below.trans hl.1 (hb.mono (Below.size hl.1)), hl.2⟩
theorem D9.lt {W1 : World} {tb o b8 M : Nat} {y : Ts} {x : Fv} {C : Option Addr} {cc : Nat} {A : Option Addr} {n cap : Nat} {W : World} (h : D9 W1 tb o b8 M y x C cc A n cap W) : Below W1.heap.size W1 W := h.2.2.2.2.2.2.2.2.2.2.2.2.2.2.1
theorem D9.set {W1 : World} {tb o b8 M b : Nat} {y : Ts} {x : Fv} {C : Option Addr} {cc : Nat} {A : Option Addr} {n cap : Nat} {W : World} (h : D9 W1 tb o b8 M y x C cc A n cap W) (hb : W1.heap.size ≤ b) (i : Nat) (u : Value) : D9 W1 tb o b8 M y x C cc A n cap (W.setCell ⟨b, i, none⟩ u) := by
  obtain ⟨h0, h1, h2, h3, h4, h5, h6, g0, g1, g2, g3, g4, m0, m1, hl, l1, l2, l3⟩ := h
  have hc : ∀ q o v, q < W1.heap.size → W.cell? ⟨q, o, none⟩ = some v → (W.setCell ⟨b, i, none⟩ u).cell? ⟨q, o, none⟩ = some v := fun q o v hq hv => (World.cell?_setCell_other _ _ _ _ (by intro e; have := congrArg Addr.block e; simp only at this; omega)).trans hv
  exact ⟨hc _ _ _ l1 h0, hc _ _ _ l1 h1, hc _ _ _ l1 h2, hc _ _ _ l1 h3, hc _ _ _ l1 h4, hc _ _ _ l1 h5, hc _ _ _ l1 h6, hc _ _ _ l2 g0, hc _ _ _ l2 g1, hc _ _ _ l2 g2, hc _ _ _ l2 g3, hc _ _ _ l2 g4, hc _ _ _ l3 m0, hc _ _ _ l3 m1, hl.setCell (p := ⟨b, i, none⟩) hb u, l1, l2, l3⟩
theorem D9.set5 {W1 : World} {tb o b8 M b : Nat} {y : Ts} {x : Fv} {C : Option Addr} {cc : Nat} {A : Option Addr} {n cap : Nat} {W : World} (h : D9 W1 tb o b8 M y x C cc A n cap W) (hb : W1.heap.size ≤ b) (u0 u1 u2 u3 u4 : Value) :
    D9 W1 tb o b8 M y x C cc A n cap (((((W.setCell ⟨b, 0, none⟩ u0).setCell ⟨b, 1, none⟩ u1).setCell ⟨b, 2, none⟩ u2).setCell ⟨b, 3, none⟩ u3).setCell ⟨b, 4, none⟩ u4) := ((((h.set hb 0 u0).set hb 1 u1).set hb 2 u2).set hb 3 u3).set hb 4 u4
theorem D9.mk {W : World} {tb o b8 M : Nat} {y : Ts} {x : Fv} {C : Option Addr} {cc : Nat} {A : Option Addr} {n cap : Nat} {js : List Fv} (hT : TAt W tb o y) (hF : FAt W b8 0 x C cc) (hA : Arr A n cap M W js) : D9 W tb o b8 M y x C cc A n cap W := by
  obtain ⟨g0, g1, g2, g3, g4⟩ := hF.z
  exact ⟨hT.c0, hT.c1, hT.c2, hT.c3, hT.c4, hT.c5, hT.c6, g0, g1, g2, g3, g4, hA.c0, hA.c1, Below.refl _ _, hT.lt, hF.lt, hA.lt⟩
def DecodePost (js : List Fv) (w : World) (e : Ending) (w' : World) : Prop := ∃ v gs, e = .returned v ∧ FOwn 40 w.heap.size w' v gs ∧ gs.map (·.x) = js ∧ Below w.heap.size w w'
structure DIn (w : World) (A : Option Addr) (n cap M : Nat) (wr : World) (v : Value) (js : List Fv) : Prop where
  own : ∃ gs, FOwn 40 w.heap.size wr v gs ∧ gs.map (·.x) = js
  arr : Arr A n cap M wr js
  bel : Below w.heap.size w wr
  ge : w.heap.size ≤ M
theorem decF_task {ts : List Ts} (hv : Vs ts) (rs : List Fv) : ∀ j ∈ decF ts [] rs, 0 ≤ j.t ∧ j.t < ts.length := by
  refine snoc_ind (P := fun rs => ∀ j ∈ decF ts [] rs, 0 ≤ j.t ∧ j.t < ts.length) (by intro j hj; simp [decF] at hj) (fun l r ih j hj => ?_) rs
  rw [decF_snoc] at hj
  rcases List.mem_append.1 hj with hj | hj
  · exact ih j hj
  · rw [List.mem_singleton] at hj
    subst hj
    have := dec_parts hv (decF ts [] l) r
    omega
theorem decF_good {ts : List Ts} (hv : Vs ts) (rs : List Fv) (hl : rs.length ≤ 4096) : ∀ j ∈ decF ts [] rs, 0 ≤ j.t ∧ j.t < ts.length ∧ 0 ≤ j.a ∧ j.a ≤ 35184372088832 := fun j hj => by
  have h1 := decF_task hv rs j hj
  have h2 := decF_bd hv rs [] Bd.nil j hj
  rw [decF_len] at h2
  simp only [List.length_nil] at h2
  omega
end Go.Proofs.Ythfiodjhjhpiaaa
