/- Texts about the program, one after the other: JArr, JLast, RDec, JCut, JClo, JLeg, JSame, RLeg, ELg. -/
import Derived.Test.YtnhddnldebdmbaaGreatDoorG4
import Derived.Deep.RegionHeldLaw
import Derived.StillTailTactics
import Derived.WalkMore
/- What arrived last, kept in a map; jobs in blocks of their own; what the walks of Decode hold. -/
namespace Go.Proofs.YtnhddnldebdmbaaGreatDoor
open Go.RowKit
set_option linter.unusedVariables false
set_option linter.unusedSimpArgs false

/-! ### What arrived last -/
def lastF (js : List Fv) : Int → Option Int := fun t => (lastT js t).map (·.a)
theorem lastF_nil : lastF [] = fun _ => none := by funext t; rfl
theorem lastF_snoc (js : List Fv) (j : Fv) : lastF (js ++ [j]) = updF (lastF js) j.t j.a := by
  funext t
  simp only [lastF, updF, lastT_snoc]
  by_cases h : t = j.t
  · rw [if_pos h.symm, if_pos h]; rfl
  · rw [if_neg (fun e => h e.symm), if_neg h]
theorem soonV_last (ts : List Ts) (js : List Fv) (p : Int) : soonV (lastF js) ts p = soonI ts js p := by
  unfold soonV soonI lastF
  cases lastT js p <;> rfl
structure Arr (A : Option Addr) (n cap M : Nat) (wr : World) (js : List Fv) : Prop where
  map : MI wr M (lastF js)
  is : wr.heap[M + 1]? = some (.cells #[.slice A n cap, .map (some M)] 81 (0, 0))
theorem Arr.c0 {A : Option Addr} {n cap M : Nat} {w : World} {js : List Fv} (h : Arr A n cap M w js) : w.cell? ⟨M + 1, 0, none⟩ = some (.slice A n cap) := by rw [cell_of_row w (M + 1) 0 _ _ _ h.is]; rfl
theorem Arr.c1 {A : Option Addr} {n cap M : Nat} {w : World} {js : List Fv} (h : Arr A n cap M w js) : w.cell? ⟨M + 1, 1, none⟩ = some (.map (some M)) := by rw [cell_of_row w (M + 1) 1 _ _ _ h.is]; rfl
theorem Arr.lt {A : Option Addr} {n cap M : Nat} {w : World} {js : List Fv} (h : Arr A n cap M w js) : M + 1 < w.heap.size := (Array.getElem?_eq_some_iff.1 h.is).1
theorem Arr.later {A : Option Addr} {n cap M : Nat} {w w' : World} {js : List Fv} (h : Arr A n cap M w js) (hb : Below w.heap.size w w') : Arr A n cap M w' js :=
  ⟨h.map.later hb, (hb.block _ h.lt).trans h.is⟩
theorem Arr.kept {X : List Nat} {A : Option Addr} {n cap M : Nat} {w w' : World} {js : List Fv} (h : Arr A n cap M w js) (hb : Kept X w w') (h1 : M ∉ X) (h2 : M + 1 ∉ X) : Arr A n cap M w' js :=
  ⟨h.map.kept hb h1, (hb.block _ h.lt h2).trans h.is⟩
theorem Arr.note {A : Option Addr} {n cap M : Nat} {w w' : World} {js : List Fv} {j : Fv} (h : Arr A n cap M w js) (hm : MI w' M (updF (lastF js) j.t j.a)) (hk : Kept [M] w w') : Arr A n cap M w' (js ++ [j]) := by
  have hx : M + 1 ∉ [M] := by simp
  exact ⟨by rw [lastF_snoc]; exact hm, (hk.block _ h.lt hx).trans h.is⟩
theorem Arr.new (A : Option Addr) (n cap : Nat) (w : World) : Arr A n cap w.heap.size ((w.alloc (.map #[] 0)).alloc (.cells #[.slice A n cap, .map (some w.heap.size)] 81)) [] := by
  have hb : Below (w.alloc (.map #[] 0)).heap.size (w.alloc (.map #[] 0)) ((w.alloc (.map #[] 0)).alloc (.cells #[.slice A n cap, .map (some w.heap.size)] 81)) := (Below.refl _ _).alloc (Nat.le_refl _) _
  exact ⟨by rw [lastF_nil]; exact (MI.new w).later hb, by have := heap_alloc_new (w.alloc (.map #[] 0)) (.cells #[.slice A n cap, .map (some w.heap.size)] 81); rwa [World.size_alloc] at this⟩
/-- A row that grows is neither the map nor its box. -/
theorem Arr.grown {A : Option Addr} {n cap M : Nat} {w w' : World} {js : List Fv} (h : Arr A n cap M w js) {B e size k : Nat} {v : Value} {xs : List Value} (hr : w.ownsRow B e size v k xs) (he : 81 ≠ e) (hg : w.grownBy w' v.ownBlock) : Arr A n cap M w' js := by
  refine h.kept (X := v.ownBlock.toList) (kept_grown hg (fun k hk => by rw [hk]; simp)) (fun hm => ?_) (fun hm => ?_)
  · rw [Option.mem_toList] at hm
    rcases hr.2 with ⟨rfl, _⟩ | ⟨g, c, cur, rfl, _, hh, _⟩
    · simp [Value.ownBlock] at hm
    · simp only [Value.ownBlock, Option.some.injEq] at hm
      obtain ⟨es, c', hm'⟩ := h.map.is
      have hm2 : g = M := by simpa using hm
      rw [hm2, hm'] at hh
      cases hh
  · rw [Option.mem_toList] at hm
    exact own_ne hr h.is he hm
theorem Arr.soon {A : Option Addr} {cap M : Nat} {wr : World} {ts : List Ts} {js : List Fv} (h : Arr A ts.length cap M wr js) (hT : Row wr A cap ts) (hv : Vs ts) (p : Int)
    (hj : ∀ j ∈ js, 0 ≤ j.t ∧ j.t < ts.length ∧ 0 ≤ j.a ∧ j.a ≤ 35184372088832) :
    Calls Tryz.prog 34 #[.agg #[.slice A ts.length cap, .map (some M)], .int .i64 p] wr fun e w' => e = .returned (.int .i64 (soonI ts js p)) ∧ Below wr.heap.size wr w' := by
  rw [← soonV_last]
  refine soonest_any A cap ts M (lastF js) p wr hT h.map (fun a ha => ?_) (hv.tk p)
  obtain ⟨j, hl, rfl⟩ := Option.map_eq_some_iff.1 ha
  obtain ⟨hm, rfl⟩ := lastT_mem hl
  exact hj j hm

theorem take_one {α : Type} {l : List α} {k : Nat} {x : α} (h : l[k]? = some x) : l.take (k + 1) = l.take k ++ [x] := by
  rw [List.take_add_one, h]; rfl
/-! ### The walk -/
/-- A job in a block of its own. -/
structure JB (W1 w : World) (b : Nat) (x : Fv) (C : Option Addr) (cc : Nat) : Prop where
  fb : FB w b 38 (.int .i64 x.t) (.int .i64 x.a) (.int .i64 x.r) (.int .i64 x.k) (.slice C x.c.length cc)
  wf : FvW x
  s : CRow w C cc x.c
  ty : x.c ≠ [] → ∀ a, C = some a → ∃ cs fr, w.heap[a.block]? = some (.cells cs 2 fr)
  bel : Below W1.heap.size W1 w
  ge : W1.heap.size ≤ b
theorem JB.ofSet {W1 w : World} {b : Nat} {x : Fv} {C : Option Addr} {cc : Nat} {v0 v1 v2 v3 v4 : Value} (h : FB w b 38 v0 v1 v2 v3 v4) (hw : FvW x) (hs : CRow w C cc x.c)
    (ty : x.c ≠ [] → ∀ a, C = some a → ∃ cs fr, w.heap[a.block]? = some (.cells cs 2 fr)) (hb : Below W1.heap.size W1 w) (hg : W1.heap.size ≤ b) :
    JB W1 (((((w.setCell ⟨b, 0, none⟩ (.int .i64 x.t)).setCell ⟨b, 1, none⟩ (.int .i64 x.a)).setCell ⟨b, 2, none⟩ (.int .i64 x.r)).setCell ⟨b, 3, none⟩ (.int .i64 x.k)).setCell ⟨b, 4, none⟩ (.slice C x.c.length cc)) b x C cc := by
  have hk := ((((((Kept.refl [b] w).set b 0 (.int .i64 x.t) (by simp)).set b 1 (.int .i64 x.a) (by simp)).set b 2 (.int .i64 x.r) (by simp)).set b 3 (.int .i64 x.k) (by simp)).set b 4 (.slice C x.c.length cc) (by simp))
  have hne : x.c ≠ [] → ∀ a, C = some a → a.block ∉ [b] := fun hc a ha hm => by
    rw [List.mem_singleton] at hm
    obtain ⟨cs, fr, ht⟩ := ty hc a ha
    rw [hm, h.is] at ht
    cases ht
  refine ⟨((((h.set (i := 0) (.int .i64 x.t) rfl).set (i := 1) (.int .i64 x.a) rfl).set (i := 2) (.int .i64 x.r) rfl).set (i := 3) (.int .i64 x.k) rfl).set (i := 4) (.slice C x.c.length cc) rfl, hw, hs.kept hk hne, fun hc a ha => ?_, hb.trans (hk.below hb.size (by simp; exact hg)), hg⟩
  obtain ⟨cs, fr, ht⟩ := ty hc a ha
  exact ⟨cs, fr, (hk.block a.block (Array.getElem?_eq_some_iff.1 ht).1 (hne hc a ha)).trans ht⟩
theorem JB.ofAlloc {W1 w : World} {x : Fv} {C : Option Addr} {cc : Nat} (hw : FvW x) (hs : CRow w C cc x.c)
    (ty : x.c ≠ [] → ∀ a, C = some a → ∃ cs fr, w.heap[a.block]? = some (.cells cs 2 fr)) (hb : Below W1.heap.size W1 w) :
    JB W1 (w.alloc (.cells #[.int .i64 x.t, .int .i64 x.a, .int .i64 x.r, .int .i64 x.k, .slice C x.c.length cc] 38)) w.heap.size x C cc := by
  have hb2 : Below w.heap.size w (w.alloc (.cells #[.int .i64 x.t, .int .i64 x.a, .int .i64 x.r, .int .i64 x.k, .slice C x.c.length cc] 38)) := (Below.refl _ _).alloc (Nat.le_refl _) _
  refine ⟨FB.new _ _ _ _ _ _ _, hw, hs.later hb2, fun hc a ha => ?_, hb.trans (hb2.mono hb.size), hb.size⟩
  obtain ⟨cs, fr, ht⟩ := ty hc a ha
  exact ⟨cs, fr, (hb2.block a.block (Array.getElem?_eq_some_iff.1 ht).1).trans ht⟩
theorem JB.fat {W1 w : World} {b : Nat} {x : Fv} {C : Option Addr} {cc : Nat} (h : JB W1 w b x C cc) : FAt w b 0 x C cc :=
  ⟨fun j v hv => by rw [Nat.zero_add, cell_of_row w b j _ _ _ h.fb.is]; simpa [fvL] using hv, h.wf, h.s⟩
theorem JB.setT {W1 w : World} {b : Nat} {x : Fv} {C : Option Addr} {cc : Nat} (h : JB W1 w b x C cc) (p : Int) (hp : in64 p) : JB W1 (w.setCell ⟨b, 0, none⟩ (.int .i64 p)) b { x with t := p } C cc := by
  have hk := (Kept.refl [b] w).set b 0 (.int .i64 p) (by simp)
  have hne : x.c ≠ [] → ∀ a, C = some a → a.block ∉ [b] := fun hc a ha hm => by
    rw [List.mem_singleton] at hm
    obtain ⟨cs, fr, ht⟩ := h.ty hc a ha
    rw [hm, h.fb.is] at ht
    cases ht
  refine ⟨h.fb.set (i := 0) (.int .i64 p) rfl, ⟨hp, h.wf.a, h.wf.r, h.wf.k⟩, h.s.kept hk hne, fun hc a ha => ?_, h.bel.trans (hk.below h.bel.size (by simp; exact h.ge)), h.ge⟩
  obtain ⟨cs, fr, ht⟩ := h.ty hc a ha
  exact ⟨cs, fr, (hk.block a.block (Array.getElem?_eq_some_iff.1 ht).1 (hne hc a ha)).trans ht⟩
def LtW (W1 : World) (tb b8 M : Nat) (W : World) : Prop := Below W1.heap.size W1 W ∧ tb < W1.heap.size ∧ b8 < W1.heap.size ∧ M + 1 < W1.heap.size
abbrev D9 (W1 : World) (tb o b8 M : Nat) (y : Ts) (x : Fv) (C : Option Addr) (cc : Nat) (A : Option Addr) (n cap : Nat) (W : World) : Prop :=
  W.cell? ⟨tb, o, none⟩ = some (.string y.n) ∧ W.cell? ⟨tb, o + 1, none⟩ = some (.int .i64 y.c) ∧ W.cell? ⟨tb, o + 2, none⟩ = some (.int .i64 y.t) ∧ W.cell? ⟨tb, o + 3, none⟩ = some (.int .i64 y.d) ∧ W.cell? ⟨tb, o + 4, none⟩ = some (.int .i64 y.j) ∧ W.cell? ⟨tb, o + 5, none⟩ = some (.int .i64 y.q) ∧ W.cell? ⟨tb, o + 6, none⟩ = some (.int .i64 y.p) ∧
  W.cell? ⟨b8, 0, none⟩ = some (.int .i64 x.t) ∧ W.cell? ⟨b8, 1, none⟩ = some (.int .i64 x.a) ∧ W.cell? ⟨b8, 2, none⟩ = some (.int .i64 x.r) ∧ W.cell? ⟨b8, 3, none⟩ = some (.int .i64 x.k) ∧ W.cell? ⟨b8, 4, none⟩ = some (.slice C x.c.length cc) ∧
  W.cell? ⟨M + 1, 0, none⟩ = some (.slice A n cap) ∧ W.cell? ⟨M + 1, 1, none⟩ = some (.map (some M)) ∧ LtW W1 tb b8 M W
theorem D9.step {W1 : World} {tb o b8 M : Nat} {y : Ts} {x : Fv} {C : Option Addr} {cc : Nat} {A : Option Addr} {n cap : Nat} {W W' : World} (h : D9 W1 tb o b8 M y x C cc A n cap W) (hb : Below W.heap.size W W') : D9 W1 tb o b8 M y x C cc A n cap W' := by
  obtain ⟨h0, h1, h2, h3, h4, h5, h6, g0, g1, g2, g3, g4, m0, m1, hl⟩ := h
  have hc := cells_below hb
  exact ⟨hc _ _ _ h0, hc _ _ _ h1, hc _ _ _ h2, hc _ _ _ h3, hc _ _ _ h4, hc _ _ _ h5, hc _ _ _ h6, hc _ _ _ g0, hc _ _ _ g1, hc _ _ _ g2, hc _ _ _ g3, hc _ _ _ g4, hc _ _ _ m0, hc _ _ _ m1, Below.trans hl.1 (hb.mono (Below.size hl.1)), hl.2⟩
theorem D9.lt {W1 : World} {tb o b8 M : Nat} {y : Ts} {x : Fv} {C : Option Addr} {cc : Nat} {A : Option Addr} {n cap : Nat} {W : World} (h : D9 W1 tb o b8 M y x C cc A n cap W) : Below W1.heap.size W1 W := h.2.2.2.2.2.2.2.2.2.2.2.2.2.2.1
theorem D9.set {W1 : World} {tb o b8 M b : Nat} {y : Ts} {x : Fv} {C : Option Addr} {cc : Nat} {A : Option Addr} {n cap : Nat} {W : World} (h : D9 W1 tb o b8 M y x C cc A n cap W) (hb : W1.heap.size ≤ b) (i : Nat) (u : Value) : D9 W1 tb o b8 M y x C cc A n cap (W.setCell ⟨b, i, none⟩ u) := by
  obtain ⟨h0, h1, h2, h3, h4, h5, h6, g0, g1, g2, g3, g4, m0, m1, hl, l1, l2, l3⟩ := h
  have hc : ∀ q o v, q < W1.heap.size → W.cell? ⟨q, o, none⟩ = some v → (W.setCell ⟨b, i, none⟩ u).cell? ⟨q, o, none⟩ = some v := fun q o v hq hv => (World.cell?_setCell_other _ _ _ _ (by intro e; have := congrArg Addr.block e; simp only at this; omega)).trans hv
  exact ⟨hc _ _ _ l1 h0, hc _ _ _ l1 h1, hc _ _ _ l1 h2, hc _ _ _ l1 h3, hc _ _ _ l1 h4, hc _ _ _ l1 h5, hc _ _ _ l1 h6, hc _ _ _ l2 g0, hc _ _ _ l2 g1, hc _ _ _ l2 g2, hc _ _ _ l2 g3, hc _ _ _ l2 g4, hc _ _ _ l3 m0, hc _ _ _ l3 m1, hl.setCell (p := ⟨b, i, none⟩) hb u, l1, l2, l3⟩
theorem D9.set5 {W1 : World} {tb o b8 M b : Nat} {y : Ts} {x : Fv} {C : Option Addr} {cc : Nat} {A : Option Addr} {n cap : Nat} {W : World} (h : D9 W1 tb o b8 M y x C cc A n cap W) (hb : W1.heap.size ≤ b) (u0 u1 u2 u3 u4 : Value) :
    D9 W1 tb o b8 M y x C cc A n cap (((((W.setCell ⟨b, 0, none⟩ u0).setCell ⟨b, 1, none⟩ u1).setCell ⟨b, 2, none⟩ u2).setCell ⟨b, 3, none⟩ u3).setCell ⟨b, 4, none⟩ u4) := ((((h.set hb 0 u0).set hb 1 u1).set hb 2 u2).set hb 3 u3).set hb 4 u4
theorem D9.mk {W : World} {tb o b8 M : Nat} {y : Ts} {x : Fv} {C : Option Addr} {cc : Nat} {A : Option Addr} {n cap : Nat} {js : List Fv} (hT : TAt W tb o y) (hF : FAt W b8 0 x C cc) (hA : Arr A n cap M W js) : D9 W tb o b8 M y x C cc A n cap W := by
  obtain ⟨g0, g1, g2, g3, g4⟩ := hF.z
  exact ⟨hT.c0, hT.c1, hT.c2, hT.c3, hT.c4, hT.c5, hT.c6, g0, g1, g2, g3, g4, hA.c0, hA.c1, Below.refl _ _, hT.lt, hF.lt, hA.lt⟩
def DecodePost (js : List Fv) (w : World) (e : Ending) (w' : World) : Prop := ∃ v gs, e = .returned v ∧ FOwn 38 w.heap.size w' v gs ∧ gs.map (·.x) = js ∧ Below w.heap.size w w'
structure DIn (w : World) (A : Option Addr) (n cap M : Nat) (wr : World) (v : Value) (js : List Fv) : Prop where
  own : ∃ gs, FOwn 38 w.heap.size wr v gs ∧ gs.map (·.x) = js
  arr : Arr A n cap M wr js
  bel : Below w.heap.size w wr
  ge : w.heap.size ≤ M
theorem decF_task {ts : List Ts} (hv : Vs ts) (rs : List Fv) : ∀ j ∈ decF ts [] rs, 0 ≤ j.t ∧ j.t < ts.length := by
  refine snoc_ind (P := fun rs => ∀ j ∈ decF ts [] rs, 0 ≤ j.t ∧ j.t < ts.length) (by intro j hj; simp [decF] at hj) (fun l r ih j hj => ?_) rs
  rw [decF_snoc] at hj
  rcases List.mem_append.1 hj with hj | hj
  · exact ih j hj
  · rw [List.mem_singleton] at hj
    subst hj
    have := dec_parts hv (decF ts [] l) r
    omega
theorem decF_good {ts : List Ts} (hv : Vs ts) (rs : List Fv) (hl : rs.length ≤ 4096) : ∀ j ∈ decF ts [] rs, 0 ≤ j.t ∧ j.t < ts.length ∧ 0 ≤ j.a ∧ j.a ≤ 35184372088832 := fun j hj => by
  have h1 := decF_task hv rs j hj
  have h2 := decF_bd hv rs [] Bd.nil j hj
  rw [decF_len] at h2
  simp only [List.length_nil] at h2
  omega
end Go.Proofs.YtnhddnldebdmbaaGreatDoor
/- The document's last. -/
namespace Go.Proofs.YtnhddnldebdmbaaGreatDoor
open Go.RowKit
set_option linter.unusedVariables false
set_option linter.unusedSimpArgs false

def LastIs (js : List Fv) (t r : Int) : Prop := (r = -1 ∧ lastT js t = none) ∨ ∃ (i : Nat) (x : Fv), r = (i : Int) ∧ js[i]? = some x ∧ lastT js t = some x
set_option maxRecDepth 100000 in
set_option maxHeartbeats 2000000 in
theorem last_any (A : Option Addr) (cap : Nat) (js : List Fv) (t : Int) (w : World) (hR : FRow w A cap js) :
    Calls Tryz.prog 16 #[.slice A js.length cap, .int .i64 t] w fun e w' => ∃ r, e = .returned (.int .i64 r) ∧ LastIs js t r ∧ w = w' := by
  have hle := hR.le
  have hmx := hR.mx
  have ROW := Lib.hid hR
  clear hR
  have HS : Hid (lastT js t = lastT (js.take js.length) t) := Lib.hid (by rw [List.take_length])
  go_enter Tryz.func16, Tryz.ntmps16
  go_wp2
  go_loopw [5] (fun i wr => ∃ m : Nat, m ≤ js.length ∧ i = .int .i64 ((m : Int) - 1) ∧ wr = w ∧ Hid (lastT js t = lastT (js.take m) t)) (fun i _ => (intOf i + 1).toNat)
  case atStart => exact ⟨js.length, Nat.le_refl _, rfl, rfl, HS⟩
  case round =>
    obtain ⟨m, hm, rfl, rfl, hq⟩ := hrel
    cases m with
    | zero =>
      have t0 : decide (((0 : Nat) : Int) - 1 ≥ 0) = false := decide_eq_false (by omega)
      go_wp2
      go_ret
      exact ⟨-1, rfl, .inl ⟨rfl, by rw [hq.out]; rfl⟩, rfl⟩
    | succ k =>
      obtain ⟨b, o, x, C, cc, rfl, hx, hbl, hF⟩ := ROW.out.get (k := k) (by omega)
      have e1 : ((k + 1 : Nat) : Int) - 1 = (k : Int) := by omega
      rw [e1]
      have c0 := hF.c0
      have hi0 : (0 : Int) ≤ (k : Int) := by omega
      have hi1 : (k : Int) < (js.length : Int) := by omega
      have HX := Lib.hid hx
      have HQ : Hid (lastT js t = if x.t = t then some x else lastT (js.take k) t) := Lib.hid (by rw [hq.out, take_one hx, lastT_snoc])
      clear hF hx e1 hq
      by_cases ht : x.t = t
      · have tb : (x.t == t) = true := by simpa using ht
        have HT := Lib.hid ht
        clear ht
        go_wp2
        go_ret
        exact ⟨k, rfl, .inr ⟨k, x, rfl, HX.out, by rw [HQ.out, if_pos HT.out]⟩, rfl⟩
      · have tb : (x.t == t) = false := by rw [beq_eq_false_iff_ne]; exact ht
        have HT := Lib.hid ht
        clear ht
        go_wp2
        go_roundw
        case rel => exact ⟨k, by omega, by go_num, trivial, Lib.hid (by rw [HQ.out, if_neg HT.out])⟩
        case measure => simp [intOf]
end Go.Proofs.YtnhddnldebdmbaaGreatDoor
/- The document's Decode. -/
namespace Go.Proofs.YtnhddnldebdmbaaGreatDoor
open Go.RowKit
set_option linter.unusedVariables false
set_option linter.unusedSimpArgs false

theorem rcheck_g (A : Option Addr) (cap : Nat) (l : List Ts) (w : World) (hR : Row w A cap l) :
    Calls Tryz.prog 14 #[.slice A l.length cap] w fun e w' => ∃ a, e = .returned (.agg #[.int .i64 a, .int .i64 (chkAll l).2]) ∧ Below w.heap.size w w' :=
  (rcheckAll_any A cap l w hR).mono fun e w' h => ⟨_, h⟩
set_option maxRecDepth 100000 in
theorem got_field (a q : Int) (w : World) : (Instr.field 51 (.agg #[.int .i64 a, .int .i64 q]) 1).run Tryz.prog w = .ok (.int .i64 q) w := by rfl
set_option maxRecDepth 100000 in
set_option maxHeartbeats 4000000 in
theorem rdecode_bad (A R : Option Addr) (cap rc : Nat) (ts : List Ts) (rs : List Fv) (w : World) (hT : Row w A cap ts) (h0 : (chkAll ts).2 ≠ 0) :
    Calls Tryz.prog 6 #[.slice A ts.length cap, .slice R rs.length rc] w (DecodePost [] w) := by
  have K := rcheck_g A cap ts w hT
  have h1 : ((chkAll ts).2 != 0) = true := by simpa using h0
  generalize (chkAll ts).2 = q at *
  have K := Lib.hid K
  clear h0
  have hgf := got_field
  go_enter Tryz.func6, Tryz.ntmps6
  go_wp2_with (go_at_call 14; (with_reducible refine K.out.mono ?_); rintro e w1 ⟨a, rfl, h1⟩)
  go_ret
  exact ⟨_, [], rfl, FOwn.nil _ _ _, rfl, h1⟩

/-- A task in a block of its own. -/
theorem TAt.zz {w : World} {b : Nat} {x : Ts} (h : TAt w b 0 x) : w.cell? ⟨b, 0, none⟩ = some (.string x.n) ∧ w.cell? ⟨b, 1, none⟩ = some (.int .i64 x.c) ∧ w.cell? ⟨b, 2, none⟩ = some (.int .i64 x.t) ∧ w.cell? ⟨b, 3, none⟩ = some (.int .i64 x.d) ∧ w.cell? ⟨b, 4, none⟩ = some (.int .i64 x.j) ∧ w.cell? ⟨b, 5, none⟩ = some (.int .i64 x.q) ∧ w.cell? ⟨b, 6, none⟩ = some (.int .i64 x.p) :=
  ⟨h.c0, h.c1, h.c2, h.c3, h.c4, h.c5, h.c6⟩
theorem TAt.kept {X : List Nat} {w w' : World} {b o : Nat} {x : Ts} (h : TAt w b o x) (hk : Kept X w w') (hx : b ∉ X) : TAt w' b o x := h.keep fun i => hk.cell h.lt hx
theorem SecIn.later {B : Nat} {w w' : World} {v : Value} {pre : List Int} (h : SecIn B w v pre) (hb : Below w.heap.size w w') : SecIn B w' v pre := ⟨(Kept.of [] hb).row h.row (by simp), h.wf⟩
theorem SecIn.set {B : Nat} {w : World} {v : Value} {pre : List Int} (h : SecIn B w v pre) (b i : Nat) (u : Value) (hb : b < B) : SecIn B (w.setCell ⟨b, i, none⟩ u) v pre :=
  ⟨((Kept.refl [b] w).set b i u (by simp)).row h.row (fun g hg hm => by rw [List.mem_singleton] at hm; have := (h.row.lt g hg).1; omega), h.wf⟩
/-- A job that is being made, and its task. -/
structure RS (wr W : World) (b7 b8 : Nat) (y : Ts) (v0 v1 v2 v3 v4 : Value) : Prop where
  fb : FB W b7 38 v0 v1 v2 v3 v4
  tt : TAt W b8 0 y
  bel : Below wr.heap.size wr W
  ge : wr.heap.size ≤ b7
  ne : b8 ≠ b7
theorem RS.later {wr W W' : World} {b7 b8 : Nat} {y : Ts} {v0 v1 v2 v3 v4 : Value} (h : RS wr W b7 b8 y v0 v1 v2 v3 v4) (hb : Below W.heap.size W W') : RS wr W' b7 b8 y v0 v1 v2 v3 v4 :=
  ⟨h.fb.later hb, h.tt.later hb, h.bel.trans (hb.mono h.bel.size), h.ge, h.ne⟩
theorem RS.set {wr W : World} {b7 b8 i : Nat} {y : Ts} {v0 v1 v2 v3 v4 u0 u1 u2 u3 u4 : Value} (h : RS wr W b7 b8 y v0 v1 v2 v3 v4) (u : Value) (he : (#[v0, v1, v2, v3, v4].setIfInBounds i u) = #[u0, u1, u2, u3, u4]) : RS wr (W.setCell ⟨b7, i, none⟩ u) b7 b8 y u0 u1 u2 u3 u4 :=
  ⟨h.fb.set u he, h.tt.kept ((Kept.refl [b7] W).set b7 i u (by simp)) (by rw [List.mem_singleton]; exact h.ne), h.bel.setCell (p := ⟨b7, i, none⟩) h.ge u, h.ge, h.ne⟩
theorem RS.grown {wr W W' : World} {b7 b8 : Nat} {y : Ts} {v0 v1 v2 v3 v4 : Value} {row : Option Nat} (h : RS wr W b7 b8 y v0 v1 v2 v3 v4) (hg : W.grownBy W' row) (hr : ∀ k, row = some k → b7 < k ∧ b8 < k) : RS wr W' b7 b8 y v0 v1 v2 v3 v4 := by
  have hk : Kept row.toList W W' := kept_grown hg (fun k hk => by rw [hk]; simp)
  refine ⟨h.fb.kept hk (fun hm => ?_), h.tt.kept hk (fun hm => ?_), h.bel.grown hg h.bel.size (fun k hk => by have := hr k hk; have := h.ge; omega), h.ge, h.ne⟩
  · rw [Option.mem_toList] at hm; have := hr b7 hm; omega
  · rw [Option.mem_toList] at hm; have := hr b8 hm; omega
/-- The walk's state ahead of each job. -/
structure RIn (w wr : World) (v : Value) (js : List Fv) : Prop where
  own : ∃ gs, FOwn 38 w.heap.size wr v gs ∧ gs.map (·.x) = js
  bel : Below w.heap.size w wr
set_option maxRecDepth 100000 in
set_option maxHeartbeats 8000000 in
theorem rdecode_good (A R : Option Addr) (cap rc : Nat) (ts : List Ts) (rs : List Fv) (w : World) (hT : Row w A cap ts) (hR : FRow w R rc rs) (h0 : (chkAll ts).2 = 0) :
    Calls Tryz.prog 6 #[.slice A ts.length cap, .slice R rs.length rc] w (DecodePost (decS ts rs) w) := by
  obtain ⟨i0, hi, hz0, hz1, hz2⟩ := info_parts infoJs
  obtain ⟨j0, hj, hy0, hy1, hy2⟩ := info_parts info64
  have hv := vs_of h0
  have K := rcheck_g A cap ts w hT
  rw [h0] at K
  have hle := hR.le
  have hmx := hR.mx
  have hn0 := hv.n0
  have hn1 := hv.n1
  have HV := Lib.hid hv
  have ROW := Lib.hid hT
  have RAW := Lib.hid hR
  have K0 := Lib.hid K
  clear h0 hT hR hv K
  obtain ⟨n, hn⟩ : ∃ n, n = min rs.length 4096 := ⟨_, rfl⟩
  have hnl : (rs.take 4096).length = n := by rw [List.length_take]; omega
  have hn2 : n ≤ rs.length := by omega
  have hn3 : n ≤ rc := by omega
  have hn4 : n ≤ 4096 := by omega
  have HN := Lib.hid hn
  have HNL := Lib.hid hnl
  clear hn hnl
  have hgf := got_field
  go_enter Tryz.func6, Tryz.ntmps6
  go_upto_region 4 with (go_at_call 14; (with_reducible refine K0.out.mono ?_); rintro e w1 ⟨a, rfl, h1⟩)
  have HB1 := Lib.hid h1
  clear h1
  go_wp2
  go_loopw [5, 6] (fun v i wr => ∃ k : Nat, k ≤ n ∧ i = .int .i64 k ∧ Hid (RIn w wr v (decF ts [] ((rs.take 4096).take k)))) (fun _ i _ => n - (intOf i).toNat)
  case atStart => exact ⟨0, Nat.zero_le _, rfl, Lib.hid ⟨⟨[], FOwn.nil _ _ _, rfl⟩, HB1.out⟩⟩
  case round =>
    obtain ⟨k, hk, rfl, hI⟩ := hrel
    by_cases hlt : k < n
    · obtain ⟨rb, ro, x, C, cc, rfl, hx, hrb, hF⟩ := RAW.out.get (k := k) (by omega)
      have hF := hF.later hI.out.bel
      have g1 : decide ((k : Int) < (rs.length : Int)) = true := decide_eq_true (by omega)
      have g2 : decide ((k : Int) < 4096) = true := decide_eq_true (by omega)
      have g3 : decide (k < rs.length) = true := decide_eq_true (by omega)
      have hi0 : (0 : Int) ≤ (k : Int) := by omega
      have hi1 : (k : Int) < (rs.length : Int) := by omega
      have c0 := hF.c0
      have hpb := emod_bd x.t (ts.length : Int) (by omega)
      have K2 := Lib.hid (fun W => r8rest_any x.t (ts.length : Int) W hF.wf.t (by omega) (by omega))
      have K3 := Lib.hid (fun W => r8rest_any x.a 1048576 W hF.wf.a (by omega) (by omega))
      obtain ⟨p, hp⟩ : ∃ p : Nat, x.t % (ts.length : Int) = (p : Int) := ⟨(x.t % (ts.length : Int)).toNat, by omega⟩
      rw [hp] at K2 hpb
      have hab := emod_bd x.a 1048576 (by omega)
      obtain ⟨tb, tq, y, rfl, hy, hyw, htb, hT⟩ := ROW.out.get (k := p) (by omega)
      have hyt : tk ts (p : Int) = y := tk_get hy
      have hyo := HV.out.tk (p : Int)
      rw [hyt] at hyo
      have hT := hT.later hI.out.bel
      have tp0 : (0 : Int) ≤ (p : Int) := by omega
      have tp1 : (p : Int) < (ts.length : Int) := by omega
      generalize hga : x.a % 1048576 = ga at *
      have HGA := Lib.hid hga
      have HP := Lib.hid hp
      have HF := Lib.hid hF
      have HX := Lib.hid hx
      have HT := Lib.hid hT
      have HY := Lib.hid hyt
      have HYO := Lib.hid hyo
      clear hga hp hF hx hy hyt hyo hT
      go_upto_region 8 with (go_at_call 15; (with_reducible refine (K2.out _).mono ?_); rintro e w2 ⟨rfl, rfl⟩)
      have F1 := Lib.hid (FB.new wr 38 (.int .i64 (p : Int)) (.int .i64 0) (.int .i64 0) (.int .i64 0) (.slice none 0 0))
      have B1 : Hid (Below wr.heap.size wr (wr.alloc (.cells #[.int .i64 (p : Int), .int .i64 0, .int .i64 0, .int .i64 0, .slice none 0 0] 38))) := Lib.hid ((Below.refl _ _).alloc (Nat.le_refl _) _)
      have s1 : (wr.alloc (.cells #[.int .i64 (p : Int), .int .i64 0, .int .i64 0, .int .i64 0, .slice none 0 0] 38)).heap.size = wr.heap.size + 1 := by simp
      generalize (wr.alloc (.cells #[.int .i64 (p : Int), .int .i64 0, .int .i64 0, .int .i64 0, .slice none 0 0] 38)) = W1 at *
      obtain ⟨z0, z1, z2, z3, z4⟩ := F1.out.z
      have hT1 := HT.out.later B1.out
      have t0 := hT1.c0
      have t1 := hT1.c1
      have t2 := hT1.c2
      have t3 := hT1.c3
      have t4 := hT1.c4
      have t5 := hT1.c5
      have t6 := hT1.c6
      clear hT1 c0
      go_upto_region 9 with (fail)
      have HR2 := Lib.hid (show RS wr (W1.alloc (.cells #[.string y.n, .int .i64 y.c, .int .i64 y.t, .int .i64 y.d, .int .i64 y.j, .int .i64 y.q, .int .i64 y.p] 40)) wr.heap.size (wr.heap.size + 1) y (.int .i64 (p : Int)) (.int .i64 0) (.int .i64 0) (.int .i64 0) (.slice none 0 0) from
        ⟨F1.out.later ((Below.refl _ _).alloc (Nat.le_refl _) _), by have := TAt.new W1 y; rwa [s1] at this, B1.out.trans (((Below.refl _ _).alloc (Nat.le_refl _) _).mono B1.out.size), Nat.le_refl _, by omega⟩)
      generalize (W1.alloc (.cells #[.string y.n, .int .i64 y.c, .int .i64 y.t, .int .i64 y.d, .int .i64 y.j, .int .i64 y.q, .int .i64 y.p] 40)) = W2 at *
      obtain ⟨b8, hb8⟩ : ∃ b8, b8 = wr.heap.size + 1 := ⟨_, rfl⟩
      rw [← hb8] at HR2 ⊢
      obtain ⟨b7, hb7⟩ : ∃ b7, b7 = wr.heap.size := ⟨_, rfl⟩
      have HR2 : Hid (RS wr W2 b7 b8 y (.int .i64 (p : Int)) (.int .i64 0) (.int .i64 0) (.int .i64 0) (.slice none 0 0)) := by rw [hb7]; exact HR2
      rw [← hb7]
      clear z0 z1 z2 z3 z4 t0 t1 t2 t3 t4 t5 t6 s1 B1 F1 hb8 hb7
      obtain ⟨z0, z1, z2, z3, z4⟩ := HR2.out.fb.z
      have y1 := HR2.out.fb.fz 1
      have c1 := (HF.out.later HR2.out.bel).c1
      go_upto_region 10 with (go_at_call 15; (with_reducible refine (K3.out _).mono ?_); rintro e w2 ⟨rfl, rfl⟩)
      have HR3 := Lib.hid (HR2.out.set (i := 1) (.int .i64 ga) rfl)
      generalize W2.setCell ⟨b7, 1, none⟩ (.int .i64 ga) = W3 at *
      clear z0 z1 z2 z3 z4 y1 c1
      obtain ⟨js, hjs⟩ : ∃ js, decF ts [] ((rs.take 4096).take k) = js := ⟨_, rfl⟩
      rw [hjs] at hI
      have hjl : js.length = k := by rw [← hjs, decF_len]; have := HNL.out; simp; omega
      have hbd : Bd js := by rw [← hjs]; exact decF_bd HV.out _ [] Bd.nil
      have hsb := soon_bd HV.out hbd (p : Int)
      obtain ⟨gs, hG, hgs⟩ := hI.out.own
      obtain ⟨Aj, cj, rfl, hFr⟩ := hG.frow
      rw [hgs] at hFr
      have hgl : gs.length = js.length := by rw [← hgs, List.length_map]
      rw [hgl]
      have KL := Lib.hid (last_any Aj cj js (p : Int) W3 (hFr.later HR3.out.bel))
      have HJS := Lib.hid hjs
      have HG := Lib.hid hG
      have HGS := Lib.hid hgs
      have HGL := Lib.hid hgl
      have HFR := Lib.hid hFr
      have HIB := Lib.hid hI.out.bel
      have HSB := Lib.hid hsb
      have HBD := Lib.hid hbd
      have HJL := Lib.hid hjl
      clear hjs hG hgs hFr hI hgl hbd hsb hjl
      obtain ⟨z0, z1, z2, z3, z4⟩ := HR3.out.fb.z
      go_upto_region 11 with (go_at_call 16; (with_reducible refine KL.out.mono ?_); rintro e w2 ⟨lr, rfl, hlr, rfl⟩)
      have HLR := Lib.hid hlr
      have hav : (decJ ts js x).a = soonI ts js p + ga := by simp only [decJ, HP.out, HGA.out]
      have HAV := Lib.hid hav
      clear hav hlr
      go_upto_if 53 with (fail)
      go_cut [] from 17 to 131 (fun wx => ∃ av, RS wr wx b7 b8 y (.int .i64 (p : Int)) (.int .i64 av) (.int .i64 0) (.int .i64 0) (.slice none 0 0) ∧ av = soonI ts js p + ga)
      case first =>
        rcases HLR.out with ⟨rfl, hl⟩ | ⟨li, lx, rfl, hlx, hl⟩
        · have HZ : Hid (ga = soonI ts js p + ga) := Lib.hid (by rw [soonI, hl]; simp)
          go_wp2
          go_meet
          exact ⟨ga, HR3.out, HZ.out⟩
        · have hli : li < js.length := (List.getElem?_eq_some_iff.1 hlx).1
          have hla := HBD.out lx (List.mem_of_getElem? hlx)
          have hlb : lx.a ≤ 17592186044416 := by have := HJL.out; omega
          obtain ⟨jb, jo, lx', C', cc', rfl, hlx', hjb, hJ⟩ := HFR.out.get hli
          obtain rfl : lx = lx' := by rw [hlx] at hlx'; exact Option.some.inj hlx'
          have l1 := (hJ.later HR3.out.bel).c1
          have HZ : Hid (ga + lx.a + y.t = soonI ts js p + ga) := Lib.hid (by rw [soonI, hl, HY.out]; simp only; omega)
          have li0 : (0 : Int) ≤ (li : Int) := by omega
          have li1 : (li : Int) < (js.length : Int) := by omega
          have g4 : decide ((li : Int) ≥ 0) = true := decide_eq_true li0
          have yt0 := HYO.out.t0
          have yt1 := HYO.out.t1
          have hw1 : IntKind.i64.wrap (ga + lx.a) = ga + lx.a := IntWalk.i64_in _ (by omega)
          have hw2 : IntKind.i64.wrap (ga + lx.a + y.t) = ga + lx.a + y.t := IntWalk.i64_in _ (by omega)
          obtain ⟨t0, t1, t2, t3, t4, t5, t6⟩ := HR3.out.tt.zz
          have l1' : W3.drew.cell? ⟨jb, jo + li * 5 + 1, none⟩ = some (.int .i64 lx.a) := l1
          have z1' : W3.drew.cell? ⟨b7, 1, none⟩ = some (.int .i64 ga) := z1
          have t2' : W3.drew.cell? ⟨b8, 2, none⟩ = some (.int .i64 y.t) := t2
          have HR4 := Lib.hid ((HR3.out.later (below_drew W3)).set (i := 1) (.int .i64 (ga + lx.a + y.t)) rfl)
          have yf := (HR3.out.later (below_drew W3)).fb.fz 1
          clear hlx hla hl hlx' hJ
          go_wp2
          go_still_tail 12, (by kernel_rfl)
          change wpList _ _ _ _ _ W3.drew
          generalize W3.drew = W4 at *
          go_wp2
          go_meet
          exact ⟨_, HR4.out, HZ.out⟩
      case rest =>
        obtain ⟨av, hR4, hav2⟩ := hcut
        have HR4 := Lib.hid hR4
        have HAV2 : Hid (av = (decJ ts js x).a) := Lib.hid (by rw [HAV.out, hav2])
        have sb1 := HSB.out.1
        have sb2 := HSB.out.2
        have sb3 := HJL.out
        have sb4 : 0 ≤ av ∧ av ≤ 35184372088832 := by omega
        have yc0 := HYO.out.c0
        have yc1 := HYO.out.c1
        have yj0 := HYO.out.j0
        have yj1 := HYO.out.j1
        have yq0 := HYO.out.q0
        have yq1 := HYO.out.q1
        have hrb2 := emod_bd x.r (y.j + 1) (by omega)
        have hkb2 := emod_bd x.k y.c (by omega)
        have K4 : Hid (∀ W, Calls Tryz.prog 15 #[.int .i64 x.r, .int .i64 (y.j + 1)] W fun e w' => e = .returned (.int .i64 (x.r % (y.j + 1))) ∧ w' = W) := Lib.hid fun W => (r8rest_any x.r (y.j + 1) W HF.out.wf.r (by omega) (by omega)).mono fun e w' h => ⟨h.1, h.2.symm⟩
        have K5 : Hid (∀ W, Calls Tryz.prog 15 #[.int .i64 x.k, .int .i64 y.c] W fun e w' => e = .returned (.int .i64 (x.k % y.c)) ∧ w' = W) := Lib.hid fun W => (r8rest_any x.k y.c W HF.out.wf.k (by omega) (by omega)).mono fun e w' h => ⟨h.1, h.2.symm⟩
        have HDJ : Hid (decJ ts js x = ⟨p, av, av + x.r % (y.j + 1), 1 + x.k % y.c, secs y.q (1 + x.k % y.c) x.c⟩) := Lib.hid (by
          have := HAV2.out
          simp only [decJ, HP.out, HY.out, HGA.out] at this ⊢
          rw [this])
        generalize x.r % (y.j + 1) = rr at *
        generalize x.k % y.c = rk at *
        have hw3 : IntKind.i64.wrap (y.j + 1) = y.j + 1 := IntWalk.i64_in _ (by omega)
        have hw4 : IntKind.i64.wrap (av + rr) = av + rr := IntWalk.i64_in _ (by omega)
        have hw5 : IntKind.i64.wrap (1 + rk) = 1 + rk := IntWalk.i64_in _ (by omega)
        clear hR4 hav2 sb1 sb2 sb3 z0 z1 z2 z3 z4
        obtain ⟨z0, z1, z2, z3, z4⟩ := HR4.out.fb.z
        obtain ⟨t0, t1, t2, t3, t4, t5, t6⟩ := HR4.out.tt.zz
        have c2 := (HF.out.later HR4.out.bel).c2
        apply_assumption
        go_upto_region 13 with (fail)
        go_still_tail 13, (by kernel_rfl)
        still_call (K4.out _)
        repeat still_step
        refine wpStill_nil ?_
        change wpList _ _ _ _ _ wc.drew
        have HR5 := Lib.hid (HR4.out.later (below_drew wc))
        clear z0 z1 z2 z3 z4 t0 t1 t2 t3 t4 t5 t6 c2
        generalize wc.drew = W5 at *
        obtain ⟨z0, z1, z2, z3, z4⟩ := HR5.out.fb.z
        have y2 := HR5.out.fb.fz 2
        go_upto_region 14 with (fail)
        have HR6 := Lib.hid (HR5.out.set (i := 2) (.int .i64 (av + rr)) rfl)
        generalize W5.setCell ⟨b7, 2, none⟩ (.int .i64 (av + rr)) = W6 at *
        clear z0 z1 z2 z3 z4 y2
        obtain ⟨z0, z1, z2, z3, z4⟩ := HR6.out.fb.z
        obtain ⟨t0, t1, t2, t3, t4, t5, t6⟩ := HR6.out.tt.zz
        have c3 := (HF.out.later HR6.out.bel).c3
        go_still_tail 10, (by kernel_rfl)
        still_call (K5.out _)
        repeat still_step
        refine wpStill_nil ?_
        change wpList _ _ _ _ _ W6.drew
        have HR7 := Lib.hid (HR6.out.later (below_drew W6))
        clear z0 z1 z2 z3 z4 t0 t1 t2 t3 t4 t5 t6 c3
        generalize W6.drew = W7 at *
        have y3 := HR7.out.fb.fz 3
        obtain ⟨z0, z1, z2, z3, z4⟩ := HR7.out.fb.z
        go_upto_region 15 with (fail)
        have HR8 := Lib.hid (HR7.out.set (i := 3) (.int .i64 (1 + rk)) rfl)
        generalize W7.setCell ⟨b7, 3, none⟩ (.int .i64 (1 + rk)) = W8 at *
        clear z0 z1 z2 z3 z4 y3
        obtain ⟨z0, z1, z2, z3, z4⟩ := HR8.out.fb.z
        have kv1 : 1 ≤ 1 + rk ∧ 1 + rk ≤ 2147483647 := by omega
        generalize 1 + rk = kv at *
        have hs78 : b7 < W8.heap.size ∧ b8 < W8.heap.size := ⟨HR8.out.fb.lt, HR8.out.tt.lt⟩
        obtain ⟨Bs, hBs⟩ : ∃ Bs, W8.heap.size = Bs := ⟨_, rfl⟩
        rw [hBs] at hs78
        have HBS := Lib.hid hBs
        have hlc := HF.out.s.le
        have hmc := HF.out.s.mx
        go_wp2
        go_loopw [10, 11] (fun lf c wr2 => ∃ (m : Nat) (pre : List Int) (left : Int) (v : Value), m ≤ x.c.length ∧ c = .int .i64 m ∧ lf = .int .i64 left ∧ 0 ≤ left ∧ left ≤ kv ∧ (pre.length : Int) ≤ kv - left ∧ Hid (RS wr wr2 b7 b8 y (.int .i64 (p : Int)) (.int .i64 av) (.int .i64 (av + rr)) (.int .i64 kv) v) ∧ Hid (SecIn Bs wr2 v pre) ∧ Hid (secs y.q kv x.c = pre ++ secs y.q left (x.c.drop m)) ∧ Bs ≤ wr2.heap.size) (fun _ c _ => x.c.length - (intOf c).toNat)
        case atStart => exact ⟨0, [], kv, _, Nat.zero_le _, rfl, rfl, by omega, by omega, by simp, HR8, Lib.hid ⟨World.ownsRow_nil _ _ _ _, by simp⟩, Lib.hid rfl, by rw [HBS.out]; exact Nat.le_refl _⟩
        case round =>
          obtain ⟨m, pre, left, v, hm, rfl, rfl, l0, l1, hpl, hRS, hSI, hq, hbs⟩ := hrel
          have c4 := (HF.out.later hRS.out.bel).c4
          by_cases hgo : m < x.c.length ∧ 0 < left
          · obtain ⟨hml, hlp⟩ := hgo
            obtain ⟨cb, co, cut, rfl, hct, hcw, hcb, hcell⟩ := HF.out.s.get hml
            have hcell := (hRS.out.bel.cell (p := ⟨cb, co + m, none⟩) hcb).trans hcell
            have g6 : decide ((m : Int) < (x.c.length : Int)) = true := decide_eq_true (by omega)
            have g7 : decide (left > 0) = true := decide_eq_true hlp
            have g7' : decide (0 < left) = true := decide_eq_true hlp
            have m0 : (0 : Int) ≤ (m : Int) := by omega
            have m1 : (m : Int) < (x.c.length : Int) := by omega
            have hmb := min_bd y.q left yq0 (by omega)
            have hrb3 := emod_bd cut (min y.q left) (by omega)
            have K6 : Hid (∀ (W : World) (n' : Int), n' = min y.q left → Calls Tryz.prog 15 #[.int .i64 cut, .int .i64 n'] W fun e w' => e = .returned (.int .i64 (cut % min y.q left)) ∧ w' = W) := Lib.hid fun W n' hn' => by subst hn'; exact (r8rest_any cut (min y.q left) W hcw (by omega) (by omega)).mono fun e w' h => ⟨h.1, h.2.symm⟩
            have hd : x.c.drop m = cut :: x.c.drop (m + 1) := by
              obtain ⟨hlt', he⟩ := List.getElem?_eq_some_iff.1 hct
              rw [← he]
              exact (List.drop_eq_getElem_cons hlt')
            have hQ : secs y.q kv x.c = (pre ++ [1 + cut % min y.q left]) ++ secs y.q (left - (1 + cut % min y.q left)) (x.c.drop (m + 1)) := by rw [hq.out, hd, secs, if_neg (by omega)]; simp
            have HQ := Lib.hid hQ
            generalize cut % min y.q left = sc at *
            have hw6 : IntKind.i64.wrap (1 + sc) = 1 + sc := IntWalk.i64_in _ (by omega)
            obtain ⟨t0, t1, t2, t3, t4, t5, t6⟩ := hRS.out.tt.zz
            clear hd hQ hq hct
            go_upto_region 19 with (fail)
            go_still_tail 14, (by kernel_rfl)
            still_call (K6.out _ _ rfl)
            repeat still_step
            refine wpStill_nil ?_
            change wpList _ _ _ _ _ wr.drew
            have HR9 := Lib.hid (hRS.out.later (below_drew wr))
            have HS9 := Lib.hid (hSI.out.later (below_drew wr))
            have hb9 : Bs ≤ wr.drew.heap.size := hbs
            obtain ⟨t, ht⟩ : ∃ t, 1 + sc = t := ⟨_, rfl⟩
            rw [ht] at HQ
            have ht0 : 1 ≤ t ∧ t ≤ left := by omega
            clear t0 t1 t2 t3 t4 t5 t6 c4 hcell hRS hSI hbs K6
            generalize wr.drew = W9 at *
            obtain ⟨z0, z1, z2, z3, z4⟩ := HR9.out.fb.z
            have HC1 := Lib.hid (fun (V : World) => cell_one_new V (.int .i64 t) 2)
            have ba : Hid (Below W9.heap.size W9 (W9.alloc (.cells #[.int .i64 t] 2))) := Lib.hid ((Below.refl _ _).alloc (Nat.le_refl _) _)
            go_wp2_with (refine wpList_append_own _ rfl _ _ 31 rfl Bs 2 j0 _ 1 8 Tryz.underlying31 hj hy0 hy1 hy2 rfl (by decide) _ _ _ rfl (HS9.out.row.alloc _) ⟨W9.heap.size, 0, none⟩ 1 1 [.int .i64 t] rfl rfl (by simpa using HC1.out W9) (by simp [Value.oneCell']) (by unfold maxLen; omega) (by omega) (by simp; omega) ?_; intro v' w4 hown' hgrow hnil'; obtain ⟨A', cap', hv', -, -⟩ := own_len hown'; subst hv'; have HRa := Lib.hid ((HR9.out.later ba.out).grown hgrow (fun k hk => by have := (HS9.out.row.lt k hk).1; omega)); obtain ⟨zz0, zz1, zz2, zz3, zz4⟩ := HRa.out.fb.z; have y4 := HRa.out.fb.fz 4; have HO := Lib.hid hown'; have HGW := Lib.hid hgrow; clear hown' hgrow hnil' z0 z1 z2 z3 z4)
            go_roundw
            case rel =>
              have HRb := HRa.out.set (i := 4) (.slice A' (pre.length + 1) cap') rfl
              have hSb : SecIn Bs w4 (.slice A' (pre.length + 1) cap') (pre ++ [t]) := ⟨by rw [List.length_append, numL_snoc]; exact HO.out, fun y hy => by
                rcases List.mem_append.1 hy with hy | hy
                · exact HS9.out.wf y hy
                · obtain rfl := List.mem_singleton.1 hy
                  exact ⟨by omega, by omega⟩⟩
              exact ⟨m + 1, pre ++ [t], left - t, _, by omega, by go_num, rfl, by omega, by omega, by rw [List.length_append]; simp; omega, Lib.hid HRb, Lib.hid (hSb.set b7 4 _ (by omega)), HQ, by have h1 := HGW.out.size; rw [World.size_alloc] at h1; simp only [World.setCell]; simp; omega⟩
            case measure => simp [intOf]; omega
          · by_cases hml : m < x.c.length
            · have hl0 : left = 0 := by omega
              subst hl0
              have g6 : decide ((m : Int) < (x.c.length : Int)) = true := decide_eq_true (by omega)
              have hdone : secs y.q kv x.c = pre := by
                rw [hq.out, List.drop_eq_getElem_cons hml, secs, if_pos rfl, List.append_nil]
              have hSI2 := hSI.out
              obtain ⟨C7, cc7, hv7, -, hC7, hs7⟩ := crow_own hSI2.row hSI2.wf
              subst hv7
              obtain ⟨z0, z1, z2, z3, z4⟩ := hRS.out.fb.z
              have HJX : Hid (decJ ts js x = ⟨p, av, av + rr, kv, pre⟩) := Lib.hid (by rw [HDJ.out, hdone])
              have hwf : FvW ⟨(p : Int), av, av + rr, kv, pre⟩ := ⟨⟨by show _ ≤ (p : Int); omega, by show (p : Int) ≤ _; omega⟩, ⟨by show _ ≤ av; omega, by show av ≤ _; omega⟩, ⟨by show _ ≤ av + rr; omega, by show av + rr ≤ _; omega⟩, ⟨by show _ ≤ kv; omega, by show kv ≤ _; omega⟩⟩
              have HO := Lib.hid (show GOk 38 w.heap.size wr ⟨⟨(p : Int), av, av + rr, kv, pre⟩, C7, cc7⟩ from ⟨hwf, hC7, fun h a ha => by
                obtain ⟨_, cs, fr, ht⟩ := hs7 h a ha
                exact .inr ⟨cs, _, fr, ht, by decide⟩⟩)
              have hG9 := HG.out.later hRS.out.bel
              rw [HGL.out] at hG9
              have HG9 := Lib.hid hG9
              have HB9 := Lib.hid (HIB.out.trans (hRS.out.bel.mono HIB.out.size))
              have HFA := Lib.hid (fun j u hu => by
                have := (FAt.new wr ⟨(p : Int), av, av + rr, kv, pre⟩ C7 cc7 38 hwf hC7).r j u hu
                rw [Nat.zero_add] at this
                rw [add_none, Nat.zero_add]
                exact this : ∀ j u, (fvL ⟨(p : Int), av, av + rr, kv, pre⟩ C7 cc7)[j]? = some u → (wr.alloc (.cells #[.int .i64 (p : Int), .int .i64 av, .int .i64 (av + rr), .int .i64 kv, .slice C7 pre.length cc7] 38)).cell? ((⟨wr.heap.size, 0, none⟩ : Addr).add j) = some u)
              clear hSI hSI2 hC7 hs7 hwf hG9 hdone hq hRS
              go_wp2_with (refine wpList_append_own _ rfl _ _ 27 rfl w.heap.size 38 i0 _ 5 56 Tryz.underlying27 hi hz0 hz1 hz2 rfl (by decide) _ gs.length (gvC gs) rfl (HG9.out.row.alloc _) ⟨wr.heap.size, 0, none⟩ 1 1 (fvL ⟨(p : Int), av, av + rr, kv, pre⟩ C7 cc7) rfl rfl HFA.out (fvL_one _ _ _) (by have := HGL.out; have := HJL.out; unfold maxLen; omega) (by have := HGL.out; have := HJL.out; omega) (by have := HB9.out.size; simp; omega) ?_; intro v' w8 hown' hgrow hnil')
              go_roundw
              case rel =>
                have ba : Below wr.heap.size wr (wr.alloc (.cells #[.int .i64 (p : Int), .int .i64 av, .int .i64 (av + rr), .int .i64 kv, .slice C7 pre.length cc7] 38)) := (Below.refl _ _).alloc (Nat.le_refl _) _
                have hG8 := (HG9.out.later ba).push (HO.out.kept fun b hl _ => ba.block b hl) hown' hgrow
                have hL8 : Below w.heap.size w w8 := (HB9.out.trans (ba.mono HB9.out.size)).grown hgrow (by have := HB9.out.size; simp; omega) (fun q hq => (HG9.out.row.lt q hq).1)
                have hx4 : (rs.take 4096)[k]? = some x := by rw [List.getElem?_take_of_lt (by omega)]; exact HX.out
                refine ⟨k + 1, by omega, by go_num, Lib.hid ⟨⟨_, hG8, ?_⟩, hL8⟩⟩
                rw [take_one hx4, decF_snoc, HJS.out, HJX.out, List.map_append, HGS.out]
                rfl
              case measure => simp [intOf]; omega
            · have g6 : decide ((m : Int) < (x.c.length : Int)) = false := decide_eq_false (by omega)
              have g6' : decide (m < x.c.length) = false := decide_eq_false hml
              have hdone : secs y.q kv x.c = pre := by
                rw [hq.out, List.drop_eq_nil_of_le (by omega), secs, List.append_nil]
              have hSI2 := hSI.out
              obtain ⟨C7, cc7, hv7, -, hC7, hs7⟩ := crow_own hSI2.row hSI2.wf
              subst hv7
              obtain ⟨z0, z1, z2, z3, z4⟩ := hRS.out.fb.z
              have HJX : Hid (decJ ts js x = ⟨p, av, av + rr, kv, pre⟩) := Lib.hid (by rw [HDJ.out, hdone])
              have hwf : FvW ⟨(p : Int), av, av + rr, kv, pre⟩ := ⟨⟨by show _ ≤ (p : Int); omega, by show (p : Int) ≤ _; omega⟩, ⟨by show _ ≤ av; omega, by show av ≤ _; omega⟩, ⟨by show _ ≤ av + rr; omega, by show av + rr ≤ _; omega⟩, ⟨by show _ ≤ kv; omega, by show kv ≤ _; omega⟩⟩
              have HO := Lib.hid (show GOk 38 w.heap.size wr ⟨⟨(p : Int), av, av + rr, kv, pre⟩, C7, cc7⟩ from ⟨hwf, hC7, fun h a ha => by
                obtain ⟨_, cs, fr, ht⟩ := hs7 h a ha
                exact .inr ⟨cs, _, fr, ht, by decide⟩⟩)
              have hG9 := HG.out.later hRS.out.bel
              rw [HGL.out] at hG9
              have HG9 := Lib.hid hG9
              have HB9 := Lib.hid (HIB.out.trans (hRS.out.bel.mono HIB.out.size))
              have HFA := Lib.hid (fun j u hu => by
                have := (FAt.new wr ⟨(p : Int), av, av + rr, kv, pre⟩ C7 cc7 38 hwf hC7).r j u hu
                rw [Nat.zero_add] at this
                rw [add_none, Nat.zero_add]
                exact this : ∀ j u, (fvL ⟨(p : Int), av, av + rr, kv, pre⟩ C7 cc7)[j]? = some u → (wr.alloc (.cells #[.int .i64 (p : Int), .int .i64 av, .int .i64 (av + rr), .int .i64 kv, .slice C7 pre.length cc7] 38)).cell? ((⟨wr.heap.size, 0, none⟩ : Addr).add j) = some u)
              clear hSI hSI2 hC7 hs7 hwf hG9 hdone hq hRS
              go_wp2_with (refine wpList_append_own _ rfl _ _ 27 rfl w.heap.size 38 i0 _ 5 56 Tryz.underlying27 hi hz0 hz1 hz2 rfl (by decide) _ gs.length (gvC gs) rfl (HG9.out.row.alloc _) ⟨wr.heap.size, 0, none⟩ 1 1 (fvL ⟨(p : Int), av, av + rr, kv, pre⟩ C7 cc7) rfl rfl HFA.out (fvL_one _ _ _) (by have := HGL.out; have := HJL.out; unfold maxLen; omega) (by have := HGL.out; have := HJL.out; omega) (by have := HB9.out.size; simp; omega) ?_; intro v' w8 hown' hgrow hnil')
              go_roundw
              case rel =>
                have ba : Below wr.heap.size wr (wr.alloc (.cells #[.int .i64 (p : Int), .int .i64 av, .int .i64 (av + rr), .int .i64 kv, .slice C7 pre.length cc7] 38)) := (Below.refl _ _).alloc (Nat.le_refl _) _
                have hG8 := (HG9.out.later ba).push (HO.out.kept fun b hl _ => ba.block b hl) hown' hgrow
                have hL8 : Below w.heap.size w w8 := (HB9.out.trans (ba.mono HB9.out.size)).grown hgrow (by have := HB9.out.size; simp; omega) (fun q hq => (HG9.out.row.lt q hq).1)
                have hx4 : (rs.take 4096)[k]? = some x := by rw [List.getElem?_take_of_lt (by omega)]; exact HX.out
                refine ⟨k + 1, by omega, by go_num, Lib.hid ⟨⟨_, hG8, ?_⟩, hL8⟩⟩
                rw [take_one hx4, decF_snoc, HJS.out, HJX.out, List.map_append, HGS.out]
                rfl
              case measure => simp [intOf]; omega
    · obtain rfl : k = n := by omega
      obtain ⟨gs, hG, hgs⟩ := hI.out.own
      have HB := Lib.hid hI.out.bel
      have HG := Lib.hid hG
      have HGS := Lib.hid hgs
      clear hG hgs hI
      by_cases hkr : k < rs.length
      · have g1 : decide ((k : Int) < (rs.length : Int)) = true := decide_eq_true (by omega)
        have g2 : decide ((k : Int) < 4096) = false := decide_eq_false (by have := HN.out; omega)
        have g2' : decide (k < 4096) = false := decide_eq_false (by have := HN.out; omega)
        go_wp2
        go_ret
        refine ⟨_, gs, rfl, HG.out, ?_, HB.out⟩
        rw [HGS.out, decS, List.take_of_length_le (by rw [HNL.out]; exact Nat.le_refl _)]
      · have g1 : decide ((k : Int) < (rs.length : Int)) = false := decide_eq_false (by omega)
        have g1' : decide (k < rs.length) = false := decide_eq_false hkr
        go_wp2
        go_ret
        refine ⟨_, gs, rfl, HG.out, ?_, HB.out⟩
        rw [HGS.out, decS, List.take_of_length_le (by rw [HNL.out]; exact Nat.le_refl _)]
end Go.Proofs.YtnhddnldebdmbaaGreatDoor
/- Whether cuts fit; the closures that ask whether a job is right. -/
namespace Go.Proofs.YtnhddnldebdmbaaGreatDoor
open Go.RowKit
set_option linter.unusedVariables false
set_option linter.unusedSimpArgs false

theorem fitB_cons (q left c : Int) (r : List Int) : fitB q left (c :: r) = (inB c 1 (min q left) && fitB q (left - c) r) := rfl
set_option maxRecDepth 100000 in
set_option maxHeartbeats 4000000 in
theorem cutsFit_any (A : Option Addr) (cap : Nat) (l : List Int) (q k : Int) (w : World) (hR : CRow w A cap l) (q1 : q ≤ 2147483647) (k0 : 0 ≤ k) (k1 : k ≤ 2147483647) :
    Calls Tryz.prog 38 #[.slice A l.length cap, .int .i64 q, .int .i64 k] w fun e w' => e = .returned (.bool (fitB q k l)) ∧ w' = w := by
  have hle := hR.le
  have hmx := hR.mx
  have ROW := Lib.hid hR
  clear hR
  go_enter Tryz.func38, Tryz.ntmps38
  go_wp2
  go_loopw [7, 13] (fun lf i wr => ∃ (m : Nat) (left : Int), m ≤ l.length ∧ i = .int .i64 m ∧ lf = .int .i64 left ∧ 0 ≤ left ∧ left ≤ k ∧ wr = w ∧ Hid (fitB q k l = fitB q left (l.drop m))) (fun _ i _ => l.length - (intOf i).toNat)
  case atStart => exact ⟨0, k, Nat.zero_le _, rfl, rfl, k0, by omega, rfl, Lib.hid rfl⟩
  case round =>
    obtain ⟨m, left, hm, rfl, rfl, l0, l1, rfl, hq⟩ := hrel
    by_cases hlt : m < l.length
    · obtain ⟨b, o, c, rfl, hc, hcw, hbl, hcell⟩ := ROW.out.get hlt
      have hd : l.drop m = c :: l.drop (m + 1) := by
        obtain ⟨hlt', he⟩ := List.getElem?_eq_some_iff.1 hc
        rw [← he]
        exact (List.drop_eq_getElem_cons hlt')
      have HQ : Hid (fitB q k l = (inB c 1 (min q left) && fitB q (left - c) (l.drop (m + 1)))) := Lib.hid (by rw [hq.out, hd, fitB_cons])
      have m0 : (0 : Int) ≤ (m : Int) := by omega
      have m1 : (m : Int) < (l.length : Int) := by omega
      have K : Hid (∀ (W : World) (n' : Int), n' = min q left → Calls Tryz.prog 32 #[.int .i64 c, .int .i64 1, .int .i64 n'] W fun e w' => e = .returned (.bool (inB c 1 (min q left))) ∧ W = w') := Lib.hid (fun W n' hn => by subst hn; exact within_any c 1 (min q left) W)
      have hin := @inB_iff c 1 (min q left)
      cases hb : inB c 1 (min q left)
      · rw [hb] at K HQ
        clear hd hc hq hin hb
        go_wp2_with (go_at_call 32; (with_reducible refine (K.out _ _ (by omega)).mono ?_); rintro e w1 ⟨rfl, rfl⟩)
        all_goals
          go_ret
          exact ⟨by rw [HQ.out]; rfl, rfl⟩
      · have hcb := hin.1 hb
        rw [hb, Bool.true_and] at HQ
        rw [hb] at K
        clear hd hc hq hin hb
        go_wp2_with (go_at_call 32; (with_reducible refine (K.out _ _ (by omega)).mono ?_); rintro e w1 ⟨rfl, rfl⟩)
        all_goals
          go_roundw
          case rel => exact ⟨m + 1, left - c, by omega, by go_num, rfl, by omega, by omega, trivial, HQ⟩
          case measure => simp [intOf]; omega
    · obtain rfl : m = l.length := by omega
      go_wp2
      go_ret
      exact ⟨by rw [hq.out, List.drop_length]; rfl, rfl⟩
end Go.Proofs.YtnhddnldebdmbaaGreatDoor
/- The closures that ask whether a job is right. -/
namespace Go.Proofs.YtnhddnldebdmbaaGreatDoor
open Go.RowKit
set_option linter.unusedVariables false
set_option linter.unusedSimpArgs false

theorem box_job (w : World) (x : Fv) (C : Option Addr) (cc : Nat) : Below w.heap.size w (w.alloc (.cells #[.int .i64 x.t, .int .i64 x.a, .int .i64 x.r, .int .i64 x.k, .slice C x.c.length cc] 38)) := (Below.refl _ _).alloc (Nat.le_refl _) _
set_option maxRecDepth 100000 in
set_option maxHeartbeats 2000000 in
theorem clo1_any (x : Fv) (C A : Option Addr) (cc n cap bl : Nat) (w : World) (hl : w.cell? ⟨bl, 0, none⟩ = some (.slice A n cap)) (hn : n ≤ 1024) :
    Calls Tryz.prog 31 #[fvV x C cc, .pointer (some ⟨bl, 0, none⟩)] w fun e w' => e = .returned (.bool (inB x.t 0 ((n : Int) - 1))) ∧ Below w.heap.size w w' := by
  have b0 := box_job w x C cc
  have hbl := World.block_lt_of_cell? w _ hl
  have K := Lib.hid (fun W => within_any x.t 0 ((n : Int) - 1) W)
  have B0 := Lib.hid b0
  clear b0
  go_enter Tryz.func31, Tryz.ntmps31
  go_wp2_with (go_at_call 32; (with_reducible refine (K.out _).mono ?_); rintro e w1 ⟨rfl, rfl⟩)
  go_ret
  exact ⟨rfl, B0.out⟩

def Lt2 (W1 : World) (b8 M : Nat) (W : World) : Prop := Below W1.heap.size W1 W
abbrev D2 (W1 : World) (b8 M : Nat) (x : Fv) (A : Option Addr) (n cap : Nat) (W : World) : Prop :=
  W.cell? ⟨b8, 0, none⟩ = some (.int .i64 x.t) ∧ W.cell? ⟨b8, 1, none⟩ = some (.int .i64 x.a) ∧ W.cell? ⟨M + 1, 0, none⟩ = some (.slice A n cap) ∧ W.cell? ⟨M + 1, 1, none⟩ = some (.map (some M)) ∧ Lt2 W1 b8 M W
theorem D2.step {W1 : World} {b8 M : Nat} {x : Fv} {A : Option Addr} {n cap : Nat} {W W' : World} (h : D2 W1 b8 M x A n cap W) (hb : Below W.heap.size W W') : D2 W1 b8 M x A n cap W' := by
  obtain ⟨h0, h1, h2, h3, hl⟩ := h
  have hc := cells_below hb
  exact ⟨hc _ _ _ h0, hc _ _ _ h1, hc _ _ _ h2, hc _ _ _ h3, Below.trans hl (hb.mono (Below.size hl))⟩
set_option maxRecDepth 100000 in
set_option maxHeartbeats 4000000 in
theorem clo2_any (x : Fv) (C A : Option Addr) (cc cap M : Nat) (ts : List Ts) (js : List Fv) (w : World) (hA : Arr A ts.length cap M w js) (hT : Row w A cap ts) (hv : Vs ts)
    (hj : ∀ j ∈ js, 0 ≤ j.t ∧ j.t < ts.length ∧ 0 ≤ j.a ∧ j.a ≤ 35184372088832) :
    Calls Tryz.prog 33 #[fvV x C cc, .pointer (some ⟨M + 1, 0, none⟩)] w fun e w' => e = .returned (.bool (inB x.a (soonI ts js x.t) 17592186044416)) ∧ Below w.heap.size w w' := by
  have b0 := box_job w x C cc
  have hlt := hA.lt
  have hA1 := hA.later b0
  have hc := fun i => cell_of_row (w.alloc (.cells #[.int .i64 x.t, .int .i64 x.a, .int .i64 x.r, .int .i64 x.k, .slice C x.c.length cc] 38)) w.heap.size i _ _ _ (heap_alloc_new w _)
  have HD0 : Hid (D2 (w.alloc (.cells #[.int .i64 x.t, .int .i64 x.a, .int .i64 x.r, .int .i64 x.k, .slice C x.c.length cc] 38)) w.heap.size M x A ts.length cap (w.alloc (.cells #[.int .i64 x.t, .int .i64 x.a, .int .i64 x.r, .int .i64 x.k, .slice C x.c.length cc] 38))) := Lib.hid ⟨hc 0, hc 1, hA1.c0, hA1.c1, Below.refl _ _⟩
  have KS : Hid (∀ W, D2 (w.alloc (.cells #[.int .i64 x.t, .int .i64 x.a, .int .i64 x.r, .int .i64 x.k, .slice C x.c.length cc] 38)) w.heap.size M x A ts.length cap W → Calls Tryz.prog 34 #[.agg #[.slice A ts.length cap, .map (some M)], .int .i64 x.t] W fun e w' => e = .returned (.int .i64 (soonI ts js x.t)) ∧ Below W.heap.size W w') :=
    Lib.hid fun W hD => (hA1.later hD.2.2.2.2).soon ((hT.later b0).later hD.2.2.2.2) hv x.t hj
  have KW := Lib.hid (fun W => within_any x.a (soonI ts js x.t) 17592186044416 W)
  generalize soonI ts js x.t = sp at *
  have B0 := Lib.hid b0
  clear b0 hA hA1 hT hv hj hc
  go_enter Tryz.func33, Tryz.ntmps33
  go_upto_region 1 with (fail)
  generalize (w.alloc (.cells #[.int .i64 x.t, .int .i64 x.a, .int .i64 x.r, .int .i64 x.k, .slice C x.c.length cc] 38)) = W1 at *
  generalize hN : w.heap.size = N at *
  have HD1 := Lib.hid (D2.step HD0.out (below_drew W1))
  go_region_held_law (fun W => D2 W1 N M x A ts.length cap W)
    (first | (with_reducible assumption) | (with_reducible exact HD1.out) | (with_reducible exact HD2.out) | fail)
    (first
    | (go_at_call 34; (with_reducible refine (KS.out _ (by with_reducible assumption)).mono ?_); rintro e w2 ⟨rfl, h2⟩; have HD2 := Lib.hid (D2.step (by with_reducible assumption) h2))
    | (go_at_call 32; (with_reducible refine (KW.out _).mono ?_); rintro e w3 ⟨rfl, rfl⟩)
    | fail)
  go_wp2
  go_ret
  exact ⟨rfl, by rw [hN]; exact B0.out.trans (HD2.out.2.2.2.2.mono (by have := B0.out.size; omega))⟩
set_option maxRecDepth 100000 in
set_option maxHeartbeats 4000000 in
theorem clo3_any (x : Fv) (C A : Option Addr) (cc cap bl p : Nat) (ts : List Ts) (w : World) (hl : w.cell? ⟨bl, 0, none⟩ = some (.slice A ts.length cap)) (hT : Row w A cap ts) (hv : Vs ts) (hp : x.t = (p : Int)) (hpl : p < ts.length) (ha : 0 ≤ x.a ∧ x.a ≤ 35184372088832) :
    Calls Tryz.prog 35 #[fvV x C cc, .pointer (some ⟨bl, 0, none⟩)] w fun e w' => e = .returned (.bool (inB x.r x.a (x.a + (tk ts x.t).j))) ∧ Below w.heap.size w w' := by
  obtain ⟨xt, xa, xr, xk, xc⟩ := x
  simp only at hp ha ⊢
  subst hp
  have b0 := box_job w ⟨(p : Int), xa, xr, xk, xc⟩ C cc
  have hbl := World.block_lt_of_cell? w _ hl
  obtain ⟨tb, tq, y, rfl, hy, hyw, htb, hY⟩ := hT.get (k := p) hpl
  have hyt : tk ts (p : Int) = y := tk_get hy
  have hyo := hv.tk (p : Int)
  rw [hyt] at hyo ⊢
  have hY1 := hY.later b0
  have hc := fun i => cell_of_row (w.alloc (.cells #[.int .i64 (p : Int), .int .i64 xa, .int .i64 xr, .int .i64 xk, .slice C xc.length cc] 38)) w.heap.size i _ _ _ (heap_alloc_new w _)
  have l1 := cells_below b0 _ _ _ hl
  have p0 : (0 : Int) ≤ (p : Int) := by omega
  have p1 : (p : Int) < (ts.length : Int) := by omega
  have yj0 := hyo.j0
  have yj1 := hyo.j1
  have hw : IntKind.i64.wrap (xa + y.j) = xa + y.j := IntWalk.i64_in _ (by omega)
  have K : Hid (∀ W, Calls Tryz.prog 32 #[.int .i64 xr, .int .i64 xa, .int .i64 (xa + y.j)] W fun e w' => e = .returned (.bool (inB xr xa (xa + y.j))) ∧ w' = W) := Lib.hid (fun W => (within_any xr xa (xa + y.j) W).mono fun e w' h => ⟨h.1, h.2.symm⟩)
  have B0 := Lib.hid b0
  have z0 := hc 0
  have z1 := hc 1
  have z2 := hc 2
  have z3 := hc 3
  have z4 := hc 4
  have t1 := hY1.c1
  have t4 := hY1.c4
  have t5 := hY1.c5
  clear b0 hT hv hc hy hyt hY hY1 hl
  go_enter Tryz.func35, Tryz.ntmps35
  go_upto_region 1 with (fail)
  simp only [List.getElem?_toArray, List.getElem?_cons_zero, List.getElem?_cons_succ] at z0 z1 z2 z3 z4
  generalize (w.alloc (.cells #[.int .i64 (p : Int), .int .i64 xa, .int .i64 xr, .int .i64 xk, .slice C xc.length cc] 38)) = W1 at *
  generalize hN : w.heap.size = N at *
  go_still_tail 14, (by kernel_rfl)
  still_call (K.out _)
  repeat still_step
  refine wpStill_nil ?_
  change wpList _ _ _ _ _ W1.drew
  have HB2 : Hid (Below N w W1.drew) := Lib.hid (B0.out.trans ((below_drew W1).mono (by have := B0.out.size; omega)))
  generalize W1.drew = W2 at *
  go_wp2
  go_ret
  exact ⟨rfl, by first | exact HB2.out | (rw [hN]; exact HB2.out)⟩
set_option maxRecDepth 100000 in
set_option maxHeartbeats 4000000 in
theorem clo4_any (x : Fv) (C A : Option Addr) (cc cap bl p : Nat) (ts : List Ts) (w : World) (hl : w.cell? ⟨bl, 0, none⟩ = some (.slice A ts.length cap)) (hT : Row w A cap ts) (hv : Vs ts) (hp : x.t = (p : Int)) (hpl : p < ts.length) :
    Calls Tryz.prog 36 #[fvV x C cc, .pointer (some ⟨bl, 0, none⟩)] w fun e w' => e = .returned (.bool (inB x.k 1 (tk ts x.t).c)) ∧ Below w.heap.size w w' := by
  obtain ⟨xt, xa, xr, xk, xc⟩ := x
  simp only at hp ⊢
  subst hp
  have b0 := box_job w ⟨(p : Int), xa, xr, xk, xc⟩ C cc
  have hbl := World.block_lt_of_cell? w _ hl
  obtain ⟨tb, tq, y, rfl, hy, hyw, htb, hY⟩ := hT.get (k := p) hpl
  have hyt : tk ts (p : Int) = y := tk_get hy
  have hyo := hv.tk (p : Int)
  rw [hyt] at hyo ⊢
  have hY1 := hY.later b0
  have hc := fun i => cell_of_row (w.alloc (.cells #[.int .i64 (p : Int), .int .i64 xa, .int .i64 xr, .int .i64 xk, .slice C xc.length cc] 38)) w.heap.size i _ _ _ (heap_alloc_new w _)
  have l1 := cells_below b0 _ _ _ hl
  have p0 : (0 : Int) ≤ (p : Int) := by omega
  have p1 : (p : Int) < (ts.length : Int) := by omega
  have K : Hid (∀ W, Calls Tryz.prog 32 #[.int .i64 xk, .int .i64 1, .int .i64 y.c] W fun e w' => e = .returned (.bool (inB xk 1 y.c)) ∧ w' = W) := Lib.hid (fun W => (within_any xk 1 y.c W).mono fun e w' h => ⟨h.1, h.2.symm⟩)
  have B0 := Lib.hid b0
  have z0 := hc 0
  have z1 := hc 1
  have z2 := hc 2
  have z3 := hc 3
  have z4 := hc 4
  have t1 := hY1.c1
  have t4 := hY1.c4
  have t5 := hY1.c5
  clear b0 hT hv hc hy hyt hY hY1 hl
  go_enter Tryz.func36, Tryz.ntmps36
  go_upto_region 1 with (fail)
  simp only [List.getElem?_toArray, List.getElem?_cons_zero, List.getElem?_cons_succ] at z0 z1 z2 z3 z4
  generalize (w.alloc (.cells #[.int .i64 (p : Int), .int .i64 xa, .int .i64 xr, .int .i64 xk, .slice C xc.length cc] 38)) = W1 at *
  generalize hN : w.heap.size = N at *
  go_still_tail 9, (by kernel_rfl)
  still_call (K.out _)
  repeat still_step
  refine wpStill_nil ?_
  change wpList _ _ _ _ _ W1.drew
  have HB2 : Hid (Below N w W1.drew) := Lib.hid (B0.out.trans ((below_drew W1).mono (by have := B0.out.size; omega)))
  generalize W1.drew = W2 at *
  go_wp2
  go_ret
  exact ⟨rfl, by first | exact HB2.out | (rw [hN]; exact HB2.out)⟩
set_option maxRecDepth 100000 in
set_option maxHeartbeats 4000000 in
theorem clo5_any (x : Fv) (C A : Option Addr) (cc cap bl p : Nat) (ts : List Ts) (w : World) (hl : w.cell? ⟨bl, 0, none⟩ = some (.slice A ts.length cap)) (hT : Row w A cap ts) (hv : Vs ts) (hp : x.t = (p : Int)) (hpl : p < ts.length) (hk : 0 ≤ x.k ∧ x.k ≤ 2147483647) (hs : CRow w C cc x.c) :
    Calls Tryz.prog 37 #[fvV x C cc, .pointer (some ⟨bl, 0, none⟩)] w fun e w' => e = .returned (.bool (fitB (tk ts x.t).q x.k x.c)) ∧ Below w.heap.size w w' := by
  obtain ⟨xt, xa, xr, xk, xc⟩ := x
  simp only at hp hk ⊢
  subst hp
  have b0 := box_job w ⟨(p : Int), xa, xr, xk, xc⟩ C cc
  have hbl := World.block_lt_of_cell? w _ hl
  obtain ⟨tb, tq, y, rfl, hy, hyw, htb, hY⟩ := hT.get (k := p) hpl
  have hyt : tk ts (p : Int) = y := tk_get hy
  have hyo := hv.tk (p : Int)
  rw [hyt] at hyo ⊢
  have hY1 := hY.later b0
  have hc := fun i => cell_of_row (w.alloc (.cells #[.int .i64 (p : Int), .int .i64 xa, .int .i64 xr, .int .i64 xk, .slice C xc.length cc] 38)) w.heap.size i _ _ _ (heap_alloc_new w _)
  have l1 := cells_below b0 _ _ _ hl
  have p0 : (0 : Int) ≤ (p : Int) := by omega
  have p1 : (p : Int) < (ts.length : Int) := by omega
  have yq1 := hyo.q1
  have K : Hid (∀ W, Below (w.alloc (.cells #[.int .i64 (p : Int), .int .i64 xa, .int .i64 xr, .int .i64 xk, .slice C xc.length cc] 38)).heap.size (w.alloc (.cells #[.int .i64 (p : Int), .int .i64 xa, .int .i64 xr, .int .i64 xk, .slice C xc.length cc] 38)) W → Calls Tryz.prog 38 #[.slice C xc.length cc, .int .i64 y.q, .int .i64 xk] W fun e w' => e = .returned (.bool (fitB y.q xk xc)) ∧ w' = W) := Lib.hid (fun W hb => cutsFit_any C cc xc y.q xk W ((hs.later b0).later hb) yq1 (by omega) (by omega))
  have B0 := Lib.hid b0
  have z0 := hc 0
  have z1 := hc 1
  have z2 := hc 2
  have z3 := hc 3
  have z4 := hc 4
  have t1 := hY1.c1
  have t4 := hY1.c4
  have t5 := hY1.c5
  clear b0 hT hv hc hy hyt hY hY1 hl
  go_enter Tryz.func37, Tryz.ntmps37
  go_upto_region 1 with (fail)
  simp only [List.getElem?_toArray, List.getElem?_cons_zero, List.getElem?_cons_succ] at z0 z1 z2 z3 z4
  generalize (w.alloc (.cells #[.int .i64 (p : Int), .int .i64 xa, .int .i64 xr, .int .i64 xk, .slice C xc.length cc] 38)) = W1 at *
  generalize hN : w.heap.size = N at *
  go_still_tail 11, (by kernel_rfl)
  still_call (K.out _ (below_drew W1))
  repeat still_step
  refine wpStill_nil ?_
  change wpList _ _ _ _ _ W1.drew
  have HB2 : Hid (Below N w W1.drew) := Lib.hid (B0.out.trans ((below_drew W1).mono (by have := B0.out.size; omega)))
  generalize W1.drew = W2 at *
  go_wp2
  go_ret
  exact ⟨rfl, by first | exact HB2.out | (rw [hN]; exact HB2.out)⟩
end Go.Proofs.YtnhddnldebdmbaaGreatDoor
/- Legal: the walk. -/
namespace Go.Proofs.YtnhddnldebdmbaaGreatDoor
open Go.RowKit
set_option linter.unusedVariables false
set_option linter.unusedSimpArgs false

attribute [local go_sem] run_store_func
theorem legS_bad {ts : List Ts} {js : List Fv} (h : (chkAll ts).2 ≠ 0) : legS ts js = false := by
  rw [legS, decide_eq_false (fun hh => h hh.1)]; rfl
theorem legS_many {ts : List Ts} {js : List Fv} (h : 4096 < js.length) : legS ts js = false := by
  rw [legS, decide_eq_false (fun hh => by omega)]; rfl
theorem legS_good {ts : List Ts} {js : List Fv} (h : (chkAll ts).2 = 0) (hl : js.length ≤ 4096) : legS ts js = legF ts [] js := by
  rw [legS, decide_eq_true ⟨h, hl⟩]; rfl
set_option maxRecDepth 100000 in
set_option maxHeartbeats 2000000 in
theorem legal_bad (A R : Option Addr) (cap rc : Nat) (ts : List Ts) (js : List Fv) (w : World) (hT : Row w A cap ts) (h0 : (chkAll ts).2 ≠ 0) :
    Calls Tryz.prog 21 #[.slice A ts.length cap, .slice R js.length rc] w fun e w' => e = .returned (.bool false) ∧ Below w.heap.size w w' := by
  have b0 : Below w.heap.size w (w.alloc (.cells #[.slice A ts.length cap] 25)) := (Below.refl _ _).alloc (Nat.le_refl _) _
  have K := mayBe_any A cap ts _ (hT.later b0)
  rw [decide_eq_false h0] at K
  have K := Lib.hid K
  have B0 := Lib.hid b0
  clear h0 hT b0
  go_enter Tryz.func21, Tryz.ntmps21
  go_wp2_with (go_at_call 30; (with_reducible refine K.out.mono ?_); rintro e w1 ⟨rfl, h1⟩)
  go_ret
  exact ⟨rfl, B0.out.trans (h1.mono B0.out.size)⟩
set_option maxRecDepth 100000 in
set_option maxHeartbeats 2000000 in
theorem legal_many (A R : Option Addr) (cap rc : Nat) (ts : List Ts) (js : List Fv) (w : World) (hT : Row w A cap ts) (h0 : (chkAll ts).2 = 0) (hl : 4096 < js.length) :
    Calls Tryz.prog 21 #[.slice A ts.length cap, .slice R js.length rc] w fun e w' => e = .returned (.bool false) ∧ Below w.heap.size w w' := by
  have b0 : Below w.heap.size w (w.alloc (.cells #[.slice A ts.length cap] 25)) := (Below.refl _ _).alloc (Nat.le_refl _) _
  have K := mayBe_any A cap ts _ (hT.later b0)
  rw [decide_eq_true h0] at K
  have K := Lib.hid K
  have B0 := Lib.hid b0
  have g1 : decide ((js.length : Int) > 4096) = true := decide_eq_true (by omega)
  have g1' : decide (4096 < js.length) = true := decide_eq_true hl
  clear h0 hT b0
  go_enter Tryz.func21, Tryz.ntmps21
  go_wp2_with (go_at_call 30; (with_reducible refine K.out.mono ?_); rintro e w1 ⟨rfl, h1⟩)
  go_ret
  exact ⟨rfl, B0.out.trans (h1.mono B0.out.size)⟩

abbrev f1V (bl : Nat) : Value := .func (.func 31) #[] #[.pointer (some ⟨bl, 0, none⟩)]
abbrev f2V (M : Nat) : Value := .func (.func 33) #[] #[.pointer (some ⟨M + 1, 0, none⟩)]
abbrev f3V (bl : Nat) : Value := .func (.func 35) #[] #[.pointer (some ⟨bl, 0, none⟩)]
abbrev f4V (bl : Nat) : Value := .func (.func 36) #[] #[.pointer (some ⟨bl, 0, none⟩)]
abbrev f5V (bl : Nat) : Value := .func (.func 37) #[] #[.pointer (some ⟨bl, 0, none⟩)]
set_option maxRecDepth 100000 in
theorem five_idx (v0 v1 v2 v3 v4 : Value) (w : World) :
    (Instr.index 85 (.agg #[v0, v1, v2, v3, v4]) (.int .i64 0)).run Tryz.prog w = .ok v0 w ∧
    (Instr.index 85 (.agg #[v0, v1, v2, v3, v4]) (.int .i64 1)).run Tryz.prog w = .ok v1 w ∧
    (Instr.index 85 (.agg #[v0, v1, v2, v3, v4]) (.int .i64 2)).run Tryz.prog w = .ok v2 w ∧
    (Instr.index 85 (.agg #[v0, v1, v2, v3, v4]) (.int .i64 3)).run Tryz.prog w = .ok v3 w ∧
    (Instr.index 85 (.agg #[v0, v1, v2, v3, v4]) (.int .i64 4)).run Tryz.prog w = .ok v4 w := by
  refine ⟨?_, ?_, ?_, ?_, ?_⟩ <;> rfl
structure LIn (w : World) (A : Option Addr) (n cap bl M : Nat) (wr : World) (js : List Fv) : Prop where
  arr : Arr A n cap M wr js
  lb : wr.heap[bl]? = some (.cells #[.slice A n cap] 25 (0, 0))
  fn : wr.heap[M + 1 + 1]? = some (.cells #[f1V bl, f2V M, f3V bl, f4V bl, f5V bl] 85 (0, 0))
  bel : Below w.heap.size w wr
  ge : w.heap.size ≤ M
theorem LIn.l0 {w wr : World} {A : Option Addr} {n cap bl M : Nat} {js : List Fv} (h : LIn w A n cap bl M wr js) : wr.cell? ⟨bl, 0, none⟩ = some (.slice A n cap) := by rw [cell_of_row wr bl 0 _ _ _ h.lb]; rfl
theorem LIn.fz {w wr : World} {A : Option Addr} {n cap bl M : Nat} {js : List Fv} (h : LIn w A n cap bl M wr js) : wr.cell? ⟨M + 1 + 1, 0, none⟩ = some (f1V bl) ∧ wr.cell? ⟨M + 1 + 1, 1, none⟩ = some (f2V M) ∧ wr.cell? ⟨M + 1 + 1, 2, none⟩ = some (f3V bl) ∧ wr.cell? ⟨M + 1 + 1, 3, none⟩ = some (f4V bl) ∧ wr.cell? ⟨M + 1 + 1, 4, none⟩ = some (f5V bl) := by
  refine ⟨?_, ?_, ?_, ?_, ?_⟩ <;> (rw [cell_of_row wr (M + 1 + 1) _ _ _ _ h.fn]; rfl)
theorem LIn.later {w wr wr' : World} {A : Option Addr} {n cap bl M : Nat} {js : List Fv} (h : LIn w A n cap bl M wr js) (hb : Below wr.heap.size wr wr') : LIn w A n cap bl M wr' js :=
  ⟨h.arr.later hb, (hb.block _ (Array.getElem?_eq_some_iff.1 h.lb).1).trans h.lb, (hb.block _ (Array.getElem?_eq_some_iff.1 h.fn).1).trans h.fn, h.bel.trans (hb.mono h.bel.size), h.ge⟩
theorem LIn.note {w wr wr' : World} {A : Option Addr} {n cap bl M : Nat} {js : List Fv} {j : Fv} (h : LIn w A n cap bl M wr js) (hm : MI wr' M (updF (lastF js) j.t j.a)) (hk : Kept [M] wr wr') : LIn w A n cap bl M wr' (js ++ [j]) := by
  obtain ⟨es, c, hmap⟩ := h.arr.map.is
  have h1 : bl ∉ [M] := fun hx => by
    rw [List.mem_singleton] at hx
    have := h.lb
    rw [hx, hmap] at this
    cases this
  have h2 : M + 1 + 1 ∉ [M] := by rw [List.mem_singleton]; omega
  exact ⟨h.arr.note hm hk, (hk.block _ (Array.getElem?_eq_some_iff.1 h.lb).1 h1).trans h.lb, (hk.block _ (Array.getElem?_eq_some_iff.1 h.fn).1 h2).trans h.fn, h.bel.trans (hk.below h.bel.size (by simp; exact h.ge)), h.ge⟩
theorem legF_at {ts : List Ts} {js : List Fv} {k : Nat} {x : Fv} (h : legF ts [] js = legF ts (js.take k) (js.drop k)) (hx : js[k]? = some x) : legF ts [] js = (legJ ts (js.take k) x && legF ts (js.take (k + 1)) (js.drop (k + 1))) := by
  obtain ⟨hl, he⟩ := List.getElem?_eq_some_iff.1 hx
  rw [h, List.drop_eq_getElem_cons hl, he, legF, take_one hx]
set_option maxRecDepth 100000 in
set_option maxHeartbeats 8000000 in
theorem legal_good (A R : Option Addr) (cap rc : Nat) (ts : List Ts) (js : List Fv) (w : World) (hT : Row w A cap ts) (hR : FRow w R rc js) (h0 : (chkAll ts).2 = 0) (hl : js.length ≤ 4096) :
    Calls Tryz.prog 21 #[.slice A ts.length cap, .slice R js.length rc] w fun e w' => e = .returned (.bool (legF ts [] js)) ∧ Below w.heap.size w w' := by
  have b0 : Below w.heap.size w (w.alloc (.cells #[.slice A ts.length cap] 25)) := (Below.refl _ _).alloc (Nat.le_refl _) _
  have hv := vs_of h0
  have K := mayBe_any A cap ts _ (hT.later b0)
  rw [decide_eq_true h0] at K
  have K := Lib.hid K
  have hle := hR.le
  have hmx := hR.mx
  have hn0 := hv.n0
  have hn1 := hv.n1
  have HV := Lib.hid hv
  have ROW := Lib.hid hT
  have RAW := Lib.hid hR
  have g1 : decide ((js.length : Int) > 4096) = false := decide_eq_false (by omega)
  have g1' : decide (4096 < js.length) = false := decide_eq_false (by omega)
  have hmm := @run_makeMap Tryz.prog
  have hlb : (w.alloc (.cells #[.slice A ts.length cap] 25)).heap[w.heap.size]? = some (.cells #[.slice A ts.length cap] 25 (0, 0)) := heap_alloc_new w _
  have hs0 : (w.alloc (.cells #[.slice A ts.length cap] 25)).heap.size = w.heap.size + 1 := by simp
  have HLB := Lib.hid hlb
  have HS0 := Lib.hid hs0
  have B0 := Lib.hid b0
  obtain ⟨bl, hbl⟩ : ∃ bl, w.heap.size = bl := ⟨_, rfl⟩
  have HBL := Lib.hid hbl
  clear h0 hT hR hv hlb hs0 b0
  go_enter Tryz.func21, Tryz.ntmps21
  go_upto_region 3 with (go_at_call 30; (with_reducible refine K.out.mono ?_); rintro e w1 ⟨rfl, h1⟩)
  have H1 := Lib.hid h1
  have l1 : w1.cell? ⟨bl, 0, none⟩ = some (.slice A ts.length cap) := by
    rw [cell_of_row w1 bl 0 _ _ _ ((h1.block bl (by rw [HS0.out]; omega)).trans (by rw [← hbl]; exact HLB.out))]
    rfl
  have hsz1 : bl < w1.heap.size := World.block_lt_of_cell? w1 _ l1
  clear h1
  go_upto_region 5 with (fail)
  have HI0 := Lib.hid (show LIn w A ts.length cap bl w1.heap.size (((w1.alloc (.map #[] 0)).alloc (.cells #[.slice A ts.length cap, .map (some w1.heap.size)] 81)).alloc (.cells #[f1V bl, f2V w1.heap.size, f3V bl, f4V bl, f5V bl] 85)) [] from by
    have A0 := Arr.new A ts.length cap w1
    have bA : Below w1.heap.size w1 ((w1.alloc (.map #[] 0)).alloc (.cells #[.slice A ts.length cap, .map (some w1.heap.size)] 81)) := ((Below.refl _ _).alloc (Nat.le_refl _) _).alloc (by simp) _
    have bB : Below ((w1.alloc (.map #[] 0)).alloc (.cells #[.slice A ts.length cap, .map (some w1.heap.size)] 81)).heap.size _ (((w1.alloc (.map #[] 0)).alloc (.cells #[.slice A ts.length cap, .map (some w1.heap.size)] 81)).alloc (.cells #[f1V bl, f2V w1.heap.size, f3V bl, f4V bl, f5V bl] 85)) := (Below.refl _ _).alloc (Nat.le_refl _) _
    have hw1 : Below w.heap.size w w1 := B0.out.trans (H1.out.mono B0.out.size)
    have hlb1 : w1.heap[bl]? = some (.cells #[.slice A ts.length cap] 25 (0, 0)) := (H1.out.block bl (by rw [HS0.out]; omega)).trans (by rw [← hbl]; exact HLB.out)
    refine ⟨A0.later bB, (bB.block bl (by have := bA.size; omega)).trans ((bA.block bl hsz1).trans hlb1), ?_, hw1.trans ((bA.trans (bB.mono bA.size)).mono hw1.size), hw1.size⟩
    have := heap_alloc_new ((w1.alloc (.map #[] 0)).alloc (.cells #[.slice A ts.length cap, .map (some w1.heap.size)] 81)) (.cells #[f1V bl, f2V w1.heap.size, f3V bl, f4V bl, f5V bl] 85)
    simpa only [World.size_alloc] using this)
  generalize (((w1.alloc (.map #[] 0)).alloc (.cells #[.slice A ts.length cap, .map (some w1.heap.size)] 81)).alloc (.cells #[f1V bl, f2V w1.heap.size, f3V bl, f4V bl, f5V bl] 85)) = W0 at *
  generalize w1.heap.size = M at *
  clear l1 hmm hbl
  have I5 := fun W => five_idx (f1V bl) (f2V M) (f3V bl) (f4V bl) (f5V bl) W
  have i50 := fun W => (I5 W).1
  have i51 := fun W => (I5 W).2.1
  have i52 := fun W => (I5 W).2.2.1
  have i53 := fun W => (I5 W).2.2.2.1
  have i54 := fun W => (I5 W).2.2.2.2
  clear I5
  go_wp2
  go_loopw [30] (fun i wr => ∃ k : Nat, k ≤ js.length ∧ i = .int .i64 k ∧ Hid (LIn w A ts.length cap bl M wr (js.take k)) ∧ Hid (legF ts [] js = legF ts (js.take k) (js.drop k)) ∧ Hid (∀ j ∈ js.take k, 0 ≤ j.t ∧ j.t < ts.length ∧ 0 ≤ j.a ∧ j.a ≤ 35184372088832)) (fun i _ => js.length - (intOf i).toNat)
  case atStart => exact ⟨0, Nat.zero_le _, rfl, HI0, Lib.hid rfl, Lib.hid (by simp)⟩
  case round =>
    obtain ⟨k, hk, rfl, hI, hq, hgood⟩ := hrel
    by_cases hlt : k < js.length
    · obtain ⟨rb, ro, x, C, cc, rfl, hx, hrb, hF⟩ := RAW.out.get (k := k) hlt
      have hF := hF.later hI.out.bel
      have c0 := hF.c0
      have c1 := hF.c1
      have c2 := hF.c2
      have c3 := hF.c3
      have c4 := hF.c4
      have hi0 : (0 : Int) ≤ (k : Int) := by omega
      have hi1 : (k : Int) < (js.length : Int) := by omega
      have HQ := Lib.hid (legF_at hq.out hx)
      have HX := Lib.hid hx
      have HF := Lib.hid hF
      clear hF hx hq
      go_upto_region 8 with (fail)
      have F1 := Lib.hid (FAt.new wr x C cc 38 HF.out.wf HF.out.s)
      have B1 := Lib.hid (box_job wr x C cc)
      have I1 := Lib.hid (hI.out.later B1.out)
      generalize (wr.alloc (.cells #[.int .i64 x.t, .int .i64 x.a, .int .i64 x.r, .int .i64 x.k, .slice C x.c.length cc] 38)) = W1 at *
      have T1 := Lib.hid (ROW.out.later I1.out.bel)
      have hb8lt := F1.out.lt
      generalize hb8 : wr.heap.size = b8 at *
      have HB8 := Lib.hid hb8
      clear c0 c1 c2 c3 c4 hb8 hI
      obtain ⟨u0, u1, u2, u3, u4⟩ := I1.out.fz
      obtain ⟨z0, z1, z2, z3, z4⟩ := F1.out.z
      have K1 : Hid (∀ W, Below W1.heap.size W1 W → Calls Tryz.prog 31 #[fvV x C cc, .pointer (some ⟨bl, 0, none⟩)] W fun e w' => e = .returned (.bool (inB x.t 0 ((ts.length : Int) - 1))) ∧ Below W.heap.size W w') := Lib.hid fun W hb => clo1_any x C A cc ts.length cap bl W (I1.out.later hb).l0 hn1
      have K2 : Hid (∀ W, Below W1.heap.size W1 W → Calls Tryz.prog 33 #[fvV x C cc, .pointer (some ⟨M + 1, 0, none⟩)] W fun e w' => e = .returned (.bool (inB x.a (soonI ts (js.take k) x.t) 17592186044416)) ∧ Below W.heap.size W w') := Lib.hid fun W hb => clo2_any x C A cc cap M ts (js.take k) W (I1.out.later hb).arr (T1.out.later hb) HV.out hgood.out
      have hsn : 0 ≤ soonI ts (js.take k) x.t := by
        unfold soonI
        cases hls : lastT (js.take k) x.t with
        | none => simp
        | some j =>
          have h1 := hgood.out j (lastT_mem hls).1
          have h2 := (HV.out.tk x.t).t0
          simp only
          omega
      have hleg : legJ ts (js.take k) x = (inB x.t 0 ((ts.length : Int) - 1) && (inB x.a (soonI ts (js.take k) x.t) 17592186044416 && (inB x.r x.a (x.a + (tk ts x.t).j) && (inB x.k 1 (tk ts x.t).c && fitB (tk ts x.t).q x.k x.c)))) := rfl
      generalize soonI ts (js.take k) x.t = sp at *
      have q1 := @inB_iff x.t 0 ((ts.length : Int) - 1)
      have q2 := @inB_iff x.a sp 17592186044416
      have q4 := @inB_iff x.k 1 (tk ts x.t).c
      have HLEG := Lib.hid hleg
      clear hleg
      cases hb1 : inB x.t 0 ((ts.length : Int) - 1)
      · have HC : Hid ((inB x.t 0 ((ts.length : Int) - 1) && (inB x.a sp 17592186044416 && (inB x.r x.a (x.a + (tk ts x.t).j) && (inB x.k 1 (tk ts x.t).c && (fitB (tk ts x.t).q x.k x.c))))) = false) := Lib.hid (by rw [hb1]; rfl)
        rw [hb1] at K1
        clear q1 q2 q4 hb1
        clear K2
        go_wp2
        refine wp_loop_rounds 6 ?_
        rw [rounds_succ]
        go_wp2_with (go_at_call 31; (with_reducible refine (K1.out _ (Below.refl _ _)).mono ?_); rintro e1 v1 ⟨rfl, h1⟩; have BB1 : Hid (Below W1.heap.size W1 v1) := Lib.hid (h1); obtain ⟨z0, z1, z2, z3, z4⟩ := (F1.out.later BB1.out).z; clear h1)
        go_ret
        exact ⟨by rw [HQ.out, HLEG.out, HC.out]; rfl, I1.out.bel.trans (BB1.out.mono I1.out.bel.size)⟩
      · rw [hb1] at K1
        obtain ⟨xt0, xt1⟩ := q1.1 hb1
        obtain ⟨p, hp⟩ : ∃ p : Nat, x.t = (p : Int) := ⟨x.t.toNat, by omega⟩
        have HP := Lib.hid hp
        clear hp
        cases hb2 : inB x.a sp 17592186044416
        · have HC : Hid ((inB x.t 0 ((ts.length : Int) - 1) && (inB x.a sp 17592186044416 && (inB x.r x.a (x.a + (tk ts x.t).j) && (inB x.k 1 (tk ts x.t).c && (fitB (tk ts x.t).q x.k x.c))))) = false) := Lib.hid (by rw [hb1, hb2]; rfl)
          rw [hb2] at K2
          clear q1 q2 q4 hb2
          go_wp2
          refine wp_loop_rounds 6 ?_
          rw [rounds_succ]
          go_wp2_with (go_at_call 31; (with_reducible refine (K1.out _ (Below.refl _ _)).mono ?_); rintro e1 v1 ⟨rfl, h1⟩; have BB1 : Hid (Below W1.heap.size W1 v1) := Lib.hid (h1); obtain ⟨z0, z1, z2, z3, z4⟩ := (F1.out.later BB1.out).z; clear h1)
          rw [rounds_succ]
          go_wp2_with (go_at_call 33; (with_reducible refine (K2.out _ BB1.out).mono ?_); rintro e2 v2 ⟨rfl, h2⟩; have BB2 : Hid (Below W1.heap.size W1 v2) := Lib.hid (BB1.out.trans (h2.mono BB1.out.size)); obtain ⟨z0, z1, z2, z3, z4⟩ := (F1.out.later BB2.out).z; clear h2)
          go_ret
          exact ⟨by rw [HQ.out, HLEG.out, HC.out]; rfl, I1.out.bel.trans (BB2.out.mono I1.out.bel.size)⟩
        · rw [hb2] at K2
          obtain ⟨xa0, xa1⟩ := q2.1 hb2
          have K3 : Hid (∀ W, Below W1.heap.size W1 W → Calls Tryz.prog 35 #[fvV x C cc, .pointer (some ⟨bl, 0, none⟩)] W fun e w' => e = .returned (.bool (inB x.r x.a (x.a + (tk ts x.t).j))) ∧ Below W.heap.size W w') := Lib.hid fun W hb => clo3_any x C A cc cap bl p ts W (I1.out.later hb).l0 (T1.out.later hb) HV.out HP.out (by have := HP.out; omega) ⟨by omega, by omega⟩
          have K4 : Hid (∀ W, Below W1.heap.size W1 W → Calls Tryz.prog 36 #[fvV x C cc, .pointer (some ⟨bl, 0, none⟩)] W fun e w' => e = .returned (.bool (inB x.k 1 (tk ts x.t).c)) ∧ Below W.heap.size W w') := Lib.hid fun W hb => clo4_any x C A cc cap bl p ts W (I1.out.later hb).l0 (T1.out.later hb) HV.out HP.out (by have := HP.out; omega)
          cases hb3 : inB x.r x.a (x.a + (tk ts x.t).j)
          · have HC : Hid ((inB x.t 0 ((ts.length : Int) - 1) && (inB x.a sp 17592186044416 && (inB x.r x.a (x.a + (tk ts x.t).j) && (inB x.k 1 (tk ts x.t).c && (fitB (tk ts x.t).q x.k x.c))))) = false) := Lib.hid (by rw [hb1, hb2, hb3]; rfl)
            rw [hb3] at K3
            clear q1 q2 q4 hb3
            go_wp2
            refine wp_loop_rounds 6 ?_
            rw [rounds_succ]
            go_wp2_with (go_at_call 31; (with_reducible refine (K1.out _ (Below.refl _ _)).mono ?_); rintro e1 v1 ⟨rfl, h1⟩; have BB1 : Hid (Below W1.heap.size W1 v1) := Lib.hid (h1); obtain ⟨z0, z1, z2, z3, z4⟩ := (F1.out.later BB1.out).z; clear h1)
            rw [rounds_succ]
            go_wp2_with (go_at_call 33; (with_reducible refine (K2.out _ BB1.out).mono ?_); rintro e2 v2 ⟨rfl, h2⟩; have BB2 : Hid (Below W1.heap.size W1 v2) := Lib.hid (BB1.out.trans (h2.mono BB1.out.size)); obtain ⟨z0, z1, z2, z3, z4⟩ := (F1.out.later BB2.out).z; clear h2)
            rw [rounds_succ]
            go_wp2_with (go_at_call 35; (with_reducible refine (K3.out _ BB2.out).mono ?_); rintro e3 v3 ⟨rfl, h3⟩; have BB3 : Hid (Below W1.heap.size W1 v3) := Lib.hid (BB2.out.trans (h3.mono BB2.out.size)); obtain ⟨z0, z1, z2, z3, z4⟩ := (F1.out.later BB3.out).z; clear h3)
            go_ret
            exact ⟨by rw [HQ.out, HLEG.out, HC.out]; rfl, I1.out.bel.trans (BB3.out.mono I1.out.bel.size)⟩
          · rw [hb3] at K3
            cases hb4 : inB x.k 1 (tk ts x.t).c
            · have HC : Hid ((inB x.t 0 ((ts.length : Int) - 1) && (inB x.a sp 17592186044416 && (inB x.r x.a (x.a + (tk ts x.t).j) && (inB x.k 1 (tk ts x.t).c && (fitB (tk ts x.t).q x.k x.c))))) = false) := Lib.hid (by rw [hb1, hb2, hb3, hb4]; rfl)
              rw [hb4] at K4
              clear q1 q2 q4 hb4
              go_wp2
              refine wp_loop_rounds 6 ?_
              rw [rounds_succ]
              go_wp2_with (go_at_call 31; (with_reducible refine (K1.out _ (Below.refl _ _)).mono ?_); rintro e1 v1 ⟨rfl, h1⟩; have BB1 : Hid (Below W1.heap.size W1 v1) := Lib.hid (h1); obtain ⟨z0, z1, z2, z3, z4⟩ := (F1.out.later BB1.out).z; clear h1)
              rw [rounds_succ]
              go_wp2_with (go_at_call 33; (with_reducible refine (K2.out _ BB1.out).mono ?_); rintro e2 v2 ⟨rfl, h2⟩; have BB2 : Hid (Below W1.heap.size W1 v2) := Lib.hid (BB1.out.trans (h2.mono BB1.out.size)); obtain ⟨z0, z1, z2, z3, z4⟩ := (F1.out.later BB2.out).z; clear h2)
              rw [rounds_succ]
              go_wp2_with (go_at_call 35; (with_reducible refine (K3.out _ BB2.out).mono ?_); rintro e3 v3 ⟨rfl, h3⟩; have BB3 : Hid (Below W1.heap.size W1 v3) := Lib.hid (BB2.out.trans (h3.mono BB2.out.size)); obtain ⟨z0, z1, z2, z3, z4⟩ := (F1.out.later BB3.out).z; clear h3)
              rw [rounds_succ]
              go_wp2_with (go_at_call 36; (with_reducible refine (K4.out _ BB3.out).mono ?_); rintro e4 v4 ⟨rfl, h4⟩; have BB4 : Hid (Below W1.heap.size W1 v4) := Lib.hid (BB3.out.trans (h4.mono BB3.out.size)); obtain ⟨z0, z1, z2, z3, z4⟩ := (F1.out.later BB4.out).z; clear h4)
              go_ret
              exact ⟨by rw [HQ.out, HLEG.out, HC.out]; rfl, I1.out.bel.trans (BB4.out.mono I1.out.bel.size)⟩
            · rw [hb4] at K4
              obtain ⟨xk0, xk1⟩ := q4.1 hb4
              have hc1 := (HV.out.tk x.t).c1
              have K5 : Hid (∀ W, Below W1.heap.size W1 W → Calls Tryz.prog 37 #[fvV x C cc, .pointer (some ⟨bl, 0, none⟩)] W fun e w' => e = .returned (.bool (fitB (tk ts x.t).q x.k x.c)) ∧ Below W.heap.size W w') := Lib.hid fun W hb => clo5_any x C A cc cap bl p ts W (I1.out.later hb).l0 (T1.out.later hb) HV.out HP.out (by have := HP.out; omega) ⟨by omega, by omega⟩ (F1.out.s.later hb)
              cases hb5 : fitB (tk ts x.t).q x.k x.c
              · have HC : Hid ((inB x.t 0 ((ts.length : Int) - 1) && (inB x.a sp 17592186044416 && (inB x.r x.a (x.a + (tk ts x.t).j) && (inB x.k 1 (tk ts x.t).c && (fitB (tk ts x.t).q x.k x.c))))) = false) := Lib.hid (by rw [hb1, hb2, hb3, hb4, hb5]; rfl)
                rw [hb5] at K5
                clear q1 q2 q4 hb5
                go_wp2
                refine wp_loop_rounds 6 ?_
                rw [rounds_succ]
                go_wp2_with (go_at_call 31; (with_reducible refine (K1.out _ (Below.refl _ _)).mono ?_); rintro e1 v1 ⟨rfl, h1⟩; have BB1 : Hid (Below W1.heap.size W1 v1) := Lib.hid (h1); obtain ⟨z0, z1, z2, z3, z4⟩ := (F1.out.later BB1.out).z; clear h1)
                rw [rounds_succ]
                go_wp2_with (go_at_call 33; (with_reducible refine (K2.out _ BB1.out).mono ?_); rintro e2 v2 ⟨rfl, h2⟩; have BB2 : Hid (Below W1.heap.size W1 v2) := Lib.hid (BB1.out.trans (h2.mono BB1.out.size)); obtain ⟨z0, z1, z2, z3, z4⟩ := (F1.out.later BB2.out).z; clear h2)
                rw [rounds_succ]
                go_wp2_with (go_at_call 35; (with_reducible refine (K3.out _ BB2.out).mono ?_); rintro e3 v3 ⟨rfl, h3⟩; have BB3 : Hid (Below W1.heap.size W1 v3) := Lib.hid (BB2.out.trans (h3.mono BB2.out.size)); obtain ⟨z0, z1, z2, z3, z4⟩ := (F1.out.later BB3.out).z; clear h3)
                rw [rounds_succ]
                go_wp2_with (go_at_call 36; (with_reducible refine (K4.out _ BB3.out).mono ?_); rintro e4 v4 ⟨rfl, h4⟩; have BB4 : Hid (Below W1.heap.size W1 v4) := Lib.hid (BB3.out.trans (h4.mono BB3.out.size)); obtain ⟨z0, z1, z2, z3, z4⟩ := (F1.out.later BB4.out).z; clear h4)
                rw [rounds_succ]
                go_wp2_with (go_at_call 37; (with_reducible refine (K5.out _ BB4.out).mono ?_); rintro e5 v5 ⟨rfl, h5⟩; have BB5 : Hid (Below W1.heap.size W1 v5) := Lib.hid (BB4.out.trans (h5.mono BB4.out.size)); obtain ⟨z0, z1, z2, z3, z4⟩ := (F1.out.later BB5.out).z; clear h5)
                go_ret
                exact ⟨by rw [HQ.out, HLEG.out, HC.out]; rfl, I1.out.bel.trans (BB5.out.mono I1.out.bel.size)⟩
              · rw [hb5] at K5
                have HC : Hid ((inB x.t 0 ((ts.length : Int) - 1) && (inB x.a sp 17592186044416 && (inB x.r x.a (x.a + (tk ts x.t).j) && (inB x.k 1 (tk ts x.t).c && (fitB (tk ts x.t).q x.k x.c))))) = true) := Lib.hid (by rw [hb1, hb2, hb3, hb4, hb5]; rfl)
                have hg2 : Hid (∀ j ∈ js.take (k + 1), 0 ≤ j.t ∧ j.t < ts.length ∧ 0 ≤ j.a ∧ j.a ≤ 35184372088832) := Lib.hid (fun j hj => by
                  rw [take_one HX.out] at hj
                  rcases List.mem_append.1 hj with hj | hj
                  · exact hgood.out j hj
                  · rw [List.mem_singleton] at hj
                    subst hj
                    omega)
                have HQ2 : Hid (legF ts [] js = legF ts (js.take (k + 1)) (js.drop (k + 1))) := Lib.hid (by rw [HQ.out, HLEG.out, HC.out, Bool.true_and])
                clear q1 q2 q4 hb1 hb2 hb3 hb4 hb5
                go_wp2
                refine wp_loop_rounds 6 ?_
                rw [rounds_succ]
                go_wp2_with (go_at_call 31; (with_reducible refine (K1.out _ (Below.refl _ _)).mono ?_); rintro e1 v1 ⟨rfl, h1⟩; have BB1 : Hid (Below W1.heap.size W1 v1) := Lib.hid (h1); obtain ⟨z0, z1, z2, z3, z4⟩ := (F1.out.later BB1.out).z; clear h1)
                rw [rounds_succ]
                go_wp2_with (go_at_call 33; (with_reducible refine (K2.out _ BB1.out).mono ?_); rintro e2 v2 ⟨rfl, h2⟩; have BB2 : Hid (Below W1.heap.size W1 v2) := Lib.hid (BB1.out.trans (h2.mono BB1.out.size)); obtain ⟨z0, z1, z2, z3, z4⟩ := (F1.out.later BB2.out).z; clear h2)
                rw [rounds_succ]
                go_wp2_with (go_at_call 35; (with_reducible refine (K3.out _ BB2.out).mono ?_); rintro e3 v3 ⟨rfl, h3⟩; have BB3 : Hid (Below W1.heap.size W1 v3) := Lib.hid (BB2.out.trans (h3.mono BB2.out.size)); obtain ⟨z0, z1, z2, z3, z4⟩ := (F1.out.later BB3.out).z; clear h3)
                rw [rounds_succ]
                go_wp2_with (go_at_call 36; (with_reducible refine (K4.out _ BB3.out).mono ?_); rintro e4 v4 ⟨rfl, h4⟩; have BB4 : Hid (Below W1.heap.size W1 v4) := Lib.hid (BB3.out.trans (h4.mono BB3.out.size)); obtain ⟨z0, z1, z2, z3, z4⟩ := (F1.out.later BB4.out).z; clear h4)
                rw [rounds_succ]
                go_wp2_with (go_at_call 37; (with_reducible refine (K5.out _ BB4.out).mono ?_); rintro e5 v5 ⟨rfl, h5⟩; have BB5 : Hid (Below W1.heap.size W1 v5) := Lib.hid (BB4.out.trans (h5.mono BB4.out.size)); obtain ⟨z0, z1, z2, z3, z4⟩ := (F1.out.later BB5.out).z; clear h5)
                rw [rounds_succ]
                have I6 := Lib.hid (I1.out.later BB5.out)
                have a0 := I6.out.arr.c0
                have a1 := I6.out.arr.c1
                have KN := Lib.hid (note_any A C ts.length cap cc M (lastF (js.take k)) x v5 I6.out.arr.map)
                go_wp2_with (go_at_call 39; (with_reducible refine KN.out.mono ?_); rintro e7 v7 ⟨rfl, hm7, hk7⟩; have I7 := Lib.hid (I6.out.note hm7 hk7); clear hm7 hk7)
                go_roundw
                case rel => exact ⟨k + 1, by omega, by go_num, by rw [take_one HX.out]; exact I7, HQ2, hg2⟩
                case measure => simp [intOf]; omega
    · obtain rfl : k = js.length := by omega
      go_wp2
      go_ret
      exact ⟨by rw [hq.out, List.drop_length]; rfl, hI.out.bel⟩
theorem legal_any (A R : Option Addr) (cap rc : Nat) (ts : List Ts) (js : List Fv) (w : World) (hT : Row w A cap ts) (hR : FRow w R rc js) :
    Calls Tryz.prog 21 #[.slice A ts.length cap, .slice R js.length rc] w fun e w' => e = .returned (.bool (legS ts js)) ∧ Below w.heap.size w w' := by
  by_cases h : (chkAll ts).2 = 0
  · by_cases hl : js.length ≤ 4096
    · rw [legS_good h hl]; exact legal_good A R cap rc ts js w hT hR h hl
    · rw [legS_many (by omega)]; exact legal_many A R cap rc ts js w hT h (by omega)
  · rw [legS_bad h]; exact legal_bad A R cap rc ts js w hT h
end Go.Proofs.YtnhddnldebdmbaaGreatDoor
/- Whether two rows of jobs are the same: of two that are. -/
namespace Go.Proofs.YtnhddnldebdmbaaGreatDoor
open Go.RowKit
set_option linter.unusedVariables false
set_option linter.unusedSimpArgs false

theorem same_drewN (w : World) (n : Nat) : Below w.heap.size w (w.drewN n) := ⟨rfl, rfl, rfl, Nat.le_refl _, fun _ _ => rfl⟩
end Go.Proofs.YtnhddnldebdmbaaGreatDoor
/- The document's Legal: the walk. -/
namespace Go.Proofs.YtnhddnldebdmbaaGreatDoor
open Go.RowKit
set_option linter.unusedVariables false
set_option linter.unusedSimpArgs false

/-- The walk's state ahead of each job. -/
structure QIn (w wr : World) (ts : List Ts) (js : List Fv) (k : Nat) : Prop where
  bel : Below w.heap.size w wr
  leg : legF ts [] js = legF ts (js.take k) (js.drop k)
  good : ∀ j ∈ js.take k, 0 ≤ j.t ∧ j.t < ts.length ∧ 0 ≤ j.a ∧ j.a ≤ 17592186044416
end Go.Proofs.YtnhddnldebdmbaaGreatDoor
/- What legal jobs are like. -/
namespace Go.Proofs.YtnhddnldebdmbaaGreatDoor
open Go.RowKit
set_option linter.unusedVariables false
set_option linter.unusedSimpArgs false
theorem fitB_parts (q : Int) : ∀ (left : Int) (l : List Int), 0 ≤ left → fitB q left l = true → Pos1 l ∧ l.sum ≤ left ∧ ∀ x ∈ l, x ≤ q
  | left, [], h0, _ => ⟨fun x hx => by simp at hx, by simpa using h0, by simp⟩
  | left, c :: r, h0, h => by
    simp only [fitB, Bool.and_eq_true, decide_eq_true_eq] at h
    obtain ⟨h1, h2, h3⟩ := fitB_parts q (left - c) r (by omega) h.2
    refine ⟨fun x hx => ?_, by rw [List.sum_cons]; omega, fun x hx => ?_⟩
    · rcases List.mem_cons.1 hx with rfl | hx
      · omega
      · exact h1 x hx
    · rcases List.mem_cons.1 hx with rfl | hx
      · omega
      · exact h3 x hx
theorem tsOver {x : Ts} (h : checkE x = 0) : x.c + x.j ≤ x.t ∧ x.q ≤ x.c ∧ x.c + x.j ≤ x.d := by
  by_cases h1 : (namedB x && rangedB x) = true
  · rw [checkE, if_pos h1] at h
    by_cases h2 : overB x = true
    · rw [if_pos h2] at h; omega
    · simp [overB] at h2
      omega
  · rw [checkE, if_neg h1] at h; omega
theorem tk_over {ts : List Ts} (h : (chkAll ts).2 = 0) {p : Int} (h0 : 0 ≤ p) (h1 : p < ts.length) : (tk ts p).c + (tk ts p).j ≤ (tk ts p).t ∧ (tk ts p).q ≤ (tk ts p).c ∧ (tk ts p).c + (tk ts p).j ≤ (tk ts p).d := by
  obtain ⟨k, rfl⟩ : ∃ k : Nat, p = (k : Int) := ⟨p.toNat, by omega⟩
  have e : ts[k]? = some (ts[k]'(by omega)) := List.getElem?_eq_getElem (by omega)
  rw [tk_get e]
  rw [chkAll] at h
  split at h
  · cases h
  · exact tsOver (chkFrom_ok ts [] h _ (List.mem_of_getElem? e))
/-- Of a legal job. -/
structure LJ (ts : List Ts) (j : Fv) : Prop where
  t0 : 0 ≤ j.t
  t1 : j.t < ts.length
  a0 : 0 ≤ j.a
  a1 : j.a ≤ 17592186044416
  r0 : j.a ≤ j.r
  r1 : j.r ≤ j.a + (tk ts j.t).j
  k0 : 1 ≤ j.k
  k1 : j.k ≤ (tk ts j.t).c
  pos : Pos1 j.c
  fit : j.c.sum ≤ j.k
  q : ∀ x ∈ j.c, x ≤ (tk ts j.t).q
structure LJs (ts : List Ts) (js : List Fv) : Prop where
  all : ∀ j ∈ js, LJ ts j
  pw : js.Pairwise (fun x y => x.t = y.t → x.a + (tk ts x.t).t ≤ y.a)
  last : ∀ p l, lastT js p = some l → ∀ i ∈ js, i.t = p → i.a ≤ l.a
theorem ljs_of {ts : List Ts} (hv : Vs ts) : ∀ js : List Fv, legF ts [] js = true → LJs ts js := by
  refine snoc_ind ?_ ?_
  · intro _
    exact ⟨by simp, List.Pairwise.nil, fun p l h => by simp [lastT_nil] at h⟩
  · intro js j ih h
    rw [legF_app, List.nil_append, Bool.and_eq_true] at h
    obtain ⟨h1, h2⟩ := h
    have I := ih h1
    simp only [legF, Bool.and_true] at h2
    obtain ⟨⟨t0, t1⟩, ⟨a0, a1⟩, ⟨r0, r1⟩, ⟨k0, k1⟩, hf⟩ := legJ_parts h2
    have hk := hv.tk j.t
    have hsn : ∀ i ∈ js, i.t = j.t → i.a + (tk ts i.t).t ≤ j.a := by
      intro i hi hit
      cases hl : lastT js j.t with
      | none =>
        exfalso
        unfold lastT at hl
        rw [List.find?_eq_none] at hl
        have := hl i (by simpa using hi)
        simp [hit] at this
      | some l =>
        have h3 := I.last _ _ hl i hi hit
        unfold soonI at a0
        rw [hl] at a0
        simp only at a0
        rw [hit]; omega
    have ha0 : 0 ≤ j.a := by
      unfold soonI at a0
      cases hl : lastT js j.t with
      | none => rw [hl] at a0; exact a0
      | some l =>
        rw [hl] at a0
        have := (I.all l (lastT_mem hl).1).a0
        have := hk.t0
        simp only at a0
        omega
    obtain ⟨f1, f2, f3⟩ := fitB_parts _ _ _ (by omega) hf
    refine ⟨fun i hi => ?_, ?_, fun p l hl i hi hip => ?_⟩
    · rcases List.mem_append.1 hi with hi | hi
      · exact I.all i hi
      · rw [List.mem_singleton.1 hi]
        exact ⟨t0, by omega, ha0, a1, r0, r1, k0, k1, f1, f2, f3⟩
    · refine List.pairwise_append.2 ⟨I.pw, List.pairwise_singleton _ _, fun x hx y hy => ?_⟩
      rw [List.mem_singleton.1 hy]
      exact fun e => hsn x hx e
    · rw [lastT_snoc] at hl
      rcases List.mem_append.1 hi with hi | hi
      · split at hl
        · rename_i e
          injection hl with hl
          subst hl
          have := hsn i hi (by rw [hip, e])
          have := (hv.tk i.t).t0
          omega
        · exact I.last p l hl i hi hip
      · rw [List.mem_singleton.1 hi] at hip ⊢
        rw [if_pos hip] at hl
        injection hl with hl
        subst hl
        exact Int.le_refl _
theorem legS_parts {ts : List Ts} {js : List Fv} (h : legS ts js = true) : (chkAll ts).2 = 0 ∧ js.length ≤ 4096 ∧ legF ts [] js = true := by
  unfold legS at h
  rw [Bool.and_eq_true, decide_eq_true_eq] at h
  exact ⟨h.1.1, h.1.2, h.2⟩
theorem jb_lj {ts : List Ts} {js : List Fv} (h : LJs ts js) {i : Nat} (hi : i < js.length) : LJ ts (jb js i) := by
  have e : js[i]? = some js[i] := List.getElem?_eq_getElem hi
  rw [jb_get e]
  exact h.all _ (List.mem_of_getElem? e)
theorem lg_of {ts : List Ts} {js : List Fv} (h : LJs ts js) : Lg js := by
  refine ⟨fun i hi => ?_, fun i hi => (jb_lj h hi).k0, fun i => ?_, fun i hi => (jb_lj h hi).fit⟩
  · have := jb_lj h hi; have := this.a0; have := (jb_lj h hi).r0; omega
  · by_cases hi : i < js.length
    · exact (jb_lj h hi).pos
    · intro x hx
      have : js[i]? = none := List.getElem?_eq_none (by omega)
      simp [jb, this] at hx
theorem seq_of {ts : List Ts} {js : List Fv} (hc : (chkAll ts).2 = 0) (h : LJs ts js) : Seq js := by
  refine ⟨fun i j hij hj ht => ?_⟩
  have hi : i < js.length := by omega
  have h1 := List.pairwise_iff_getElem.1 h.pw i j hi hj hij
  have e1 := jb_get (List.getElem?_eq_getElem hi)
  have e2 := jb_get (List.getElem?_eq_getElem hj)
  have l1 := jb_lj h hi
  have l2 := jb_lj h hj
  rw [← e1, ← e2] at h1
  have h2 := h1 ht
  have ov := tk_over hc l1.t0 l1.t1
  have := l1.r1
  have := l2.r0
  have := l1.k0
  have := l1.k1
  omega
end Go.Proofs.YtnhddnldebdmbaaGreatDoor
