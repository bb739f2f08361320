/- Jobs and raw jobs as values and in memory: five cells, the last of them a slice of numbers; rows of them, also of the call's own; what stays as it was. -/
import Derived.Test.YtngmaiiibinkaaaSet
import Derived.Laws.OwnMore
namespace Go.Proofs.Ytngmaiiibinkaaa
open Go.RowKit
set_option linter.unusedVariables false
set_option linter.unusedSimpArgs false

/-! ### What stays -/
/-- Of what was there nothing has turned but these blocks. -/
structure Kept (X : List Nat) (w w' : World) : Prop where
  os : w'.os = w.os
  tape : w'.tape = w.tape
  output : w'.output = w.output
  size : w.heap.size ≤ w'.heap.size
  block : ∀ k, k < w.heap.size → k ∉ X → w'.heap[k]? = w.heap[k]?
theorem Kept.refl (X : List Nat) (w : World) : Kept X w w := ⟨rfl, rfl, rfl, Nat.le_refl _, fun _ _ _ => rfl⟩
theorem Kept.trans {X : List Nat} {a b c : World} (h : Kept X a b) (k : Kept X b c) : Kept X a c :=
  ⟨k.os.trans h.os, k.tape.trans h.tape, k.output.trans h.output, Nat.le_trans h.size k.size, fun i hi hx => (k.block i (Nat.lt_of_lt_of_le hi h.size) hx).trans (h.block i hi hx)⟩
theorem Kept.of (X : List Nat) {w w' : World} (h : Below w.heap.size w w') : Kept X w w' := ⟨h.os, h.tape, h.output, h.size, fun k hk _ => h.block k hk⟩
theorem Kept.mono {X Y : List Nat} {w w' : World} (h : Kept X w w') (hs : ∀ k ∈ X, k ∈ Y) : Kept Y w w' := ⟨h.os, h.tape, h.output, h.size, fun k hk hx => h.block k hk (fun hm => hx (hs k hm))⟩
theorem Kept.less {X Y : List Nat} {w w' : World} (h : Kept X w w') (hs : ∀ k ∈ X, k ∈ Y ∨ w.heap.size ≤ k) : Kept Y w w' := ⟨h.os, h.tape, h.output, h.size, fun k hk hx => h.block k hk (fun hm => by rcases hs k hm with h | h; exact hx h; omega)⟩
theorem Kept.later {X : List Nat} {a w w' : World} (h : Kept X a w) (hb : Below w.heap.size w w') : Kept X a w' := h.trans (Kept.of X hb)
theorem Kept.set {X : List Nat} {a w : World} (h : Kept X a w) (b i : Nat) (v : Value) (hb : b ∈ X) : Kept X a (w.setCell ⟨b, i, none⟩ v) :=
  h.trans ⟨rfl, rfl, rfl, by simp [World.setCell], fun k hk hx => Below.heap_setCell _ _ _ _ (fun e => hx (by rw [e]; exact hb))⟩
theorem Kept.put {X : List Nat} {a w : World} (h : Kept X a w) (b : Nat) (o : Obj) (hb : b ∈ X) : Kept X a (w.putObj b o) :=
  h.trans ⟨rfl, rfl, rfl, by simp, fun k hk hx => World.putObj_heap_other (fun e => hx (by rw [e]; exact hb))⟩
theorem Kept.below {X : List Nat} {w w' : World} {B : Nat} (h : Kept X w w') (hB : B ≤ w.heap.size) (hX : ∀ k ∈ X, B ≤ k) : Below B w w' :=
  ⟨h.os, h.tape, h.output, h.size, fun k hk => h.block k (by omega) (fun hm => by have := hX k hm; omega)⟩
theorem Kept.cell {X : List Nat} {w w' : World} (h : Kept X w w') {b i : Nat} (hl : b < w.heap.size) (hx : b ∉ X) : w'.cell? ⟨b, i, none⟩ = w.cell? ⟨b, i, none⟩ :=
  World.cell?_of_block (w := w) (h.block b hl hx)
theorem kept_grown {X : List Nat} {w w' : World} {row : Option Nat} (hg : w.grownBy w' row) (h : ∀ k, row = some k → k ∈ X) : Kept X w w' :=
  ⟨hg.os, hg.tape, hg.output, hg.size, fun k hk hx => hg.block k hk (fun e => hx (h k e.symm))⟩
theorem Kept.row {X : List Nat} {W W' : World} (h : Kept X W W') {base e size k : Nat} {v : Value} {xs : List Value} (hr : W.ownsRow base e size v k xs) (hx : ∀ g, v.ownBlock = some g → g ∉ X) : W'.ownsRow base e size v k xs := by
  obtain ⟨h1, h2⟩ := hr
  refine ⟨h1, ?_⟩
  rcases h2 with h2 | ⟨g, cap, cur, hv, hg, hh, r⟩
  · exact .inl h2
  · subst hv
    exact .inr ⟨g, cap, cur, rfl, hg, (h.block g (Array.getElem?_eq_some_iff.1 hh).1 (hx g rfl)).trans hh, r⟩
theorem own_len {w : World} {B e size n : Nat} {v : Value} {xs : List Value} (h : w.ownsRow B e size v n xs) : ∃ A cap, v = .slice A n cap ∧ n ≤ cap ∧ cap ≤ maxLen := by
  rcases h.2 with ⟨hv, h0⟩ | ⟨g, cap, cur, hv, hb, hh, hle, hmx, _, _⟩
  · exact ⟨none, 0, by rw [hv, h0], by omega, by unfold maxLen; omega⟩
  · exact ⟨_, cap, hv, hle, hmx⟩
theorem own_form {w : World} {B e size n : Nat} {v : Value} {xs : List Value} (h : w.ownsRow B e size v n xs) (hn : 0 < n) : ∃ g cap, v = .slice (some ⟨g, 0, none⟩) n cap ∧ B ≤ g ∧ g < w.heap.size ∧ n ≤ cap ∧ cap ≤ maxLen ∧ (∀ i, w.frozen? ⟨g, i, none⟩ = false) := by
  rcases h.2 with ⟨hv, h0⟩ | ⟨g, cap, cur, hv, hb, hh, hle, hmx, _, _⟩
  · omega
  · exact ⟨g, cap, hv, hb, (Array.getElem?_eq_some_iff.1 hh).1, hle, hmx, fun i => by simp [World.frozen?, hh]⟩
theorem own_cell {w : World} {B e size n g i : Nat} {v : Value} {xs : List Value} (h : w.ownsRow B e size v n xs) (hg : v.ownBlock = some g) {u : Value} (hu : xs[i]? = some u) : w.cell? ⟨g, i, none⟩ = some u := by
  have := h.cells hg i u hu
  rwa [add_none, Nat.zero_add] at this
theorem own_ne {w : World} {B e size n b : Nat} {v : Value} {xs : List Value} {cs : Array Value} {T : TypeId} {fr : Nat × Nat} (h : w.ownsRow B e size v n xs) (hb : w.heap[b]? = some (.cells cs T fr)) (hT : T ≠ e) : v.ownBlock ≠ some b := by
  rcases h.2 with ⟨rfl, _⟩ | ⟨g, cap, cur, rfl, _, hg, _⟩
  · simp [Value.ownBlock]
  · intro hh
    simp only [Value.ownBlock, Option.some.injEq] at hh
    subst hh
    rw [hg] at hb
    simp only [Option.some.injEq, Obj.cells.injEq] at hb
    exact hT hb.2.1.symm
theorem own_set {w : World} {B e size n i g : Nat} {v : Value} {xs : List Value} (h : w.ownsRow B e size v n xs) (hg : v.ownBlock = some g) (hi : i < n * size) (u : Value) : (w.setCell ⟨g, i, none⟩ u).ownsRow B e size v n (xs.set i u) := by
  obtain ⟨h1, h2⟩ := h
  rcases h2 with ⟨rfl, _⟩ | ⟨g', cap, cur, rfl, hb, hh, hn, hm, hs, ht⟩
  · simp [Value.ownBlock] at hg
  · simp only [Value.ownBlock, Option.some.injEq] at hg
    subst hg
    refine ⟨by rw [List.length_set]; exact h1, .inr ⟨g', cap, cur.setIfInBounds i u, rfl, hb, ?_, hn, hm, by simpa using hs, ?_⟩⟩
    · rw [setCell_eq_setRow w g' i cur e (0, 0) u hh]
      exact setRow_heap w g' cur _ e _ hh
    · rw [Array.toList_setIfInBounds, ← ht, List.take_set]

/-- What a cell holds it holds on. -/
def Cells (w w' : World) : Prop := ∀ b o v, w.cell? ⟨b, o, none⟩ = some v → w'.cell? ⟨b, o, none⟩ = some v
theorem Cells.refl (w : World) : Cells w w := fun _ _ _ h => h
theorem Cells.trans {a b c : World} (h : Cells a b) (k : Cells b c) : Cells a c := fun _ _ _ hv => k _ _ _ (h _ _ _ hv)
theorem cells_below {w w' : World} (h : Below w.heap.size w w') : Cells w w' := fun b o v hv => (h.cell (p := ⟨b, o, none⟩) (World.block_lt_of_cell? w _ hv)).trans hv
theorem cells_kept {X : List Nat} {w w' : World} (h : Kept X w w') (hX : ∀ k ∈ X, ∀ o, w.cell? ⟨k, o, none⟩ = none) : Cells w w' := fun b o v hv => by
  rw [h.cell (World.block_lt_of_cell? w _ hv) (fun hm => by rw [hX b hm o] at hv; cases hv)]
  exact hv
theorem cell_of_map {w : World} {r : Nat} {es : Array MapEntry} {c : Nat} (h : w.heap[r]? = some (.map es c)) (o : Nat) : w.cell? ⟨r, o, none⟩ = none := by simp [World.cell?, h]
theorem Row.cells {w w' : World} {A : Option Addr} {cap : Nat} {l : List Ts} (h : Row w A cap l) (hc : Cells w w') : Row w' A cap l :=
  ⟨h.le, h.mx, h.wf, fun i x hx => by
    obtain ⟨b, o, e, ht⟩ := h.at_ i x hx
    exact ⟨b, o, e, ⟨fun j v hv => hc _ _ _ (ht.r j v hv)⟩⟩⟩

/-! ### Rows of numbers -/
structure CRow (w : World) (A : Option Addr) (cap : Nat) (l : List Int) : Prop where
  le : l.length ≤ cap
  mx : cap ≤ 9223372036854775807
  wf : ∀ x ∈ l, in64 x
  at_ : ∀ i x, l[i]? = some x → ∃ b o, A = some ⟨b, o, none⟩ ∧ w.cell? ⟨b, o + i, none⟩ = some (.int .i64 x)
theorem CRow.cells {w w' : World} {A : Option Addr} {cap : Nat} {l : List Int} (h : CRow w A cap l) (hc : Cells w w') : CRow w' A cap l :=
  ⟨h.le, h.mx, h.wf, fun i x hx => by
    obtain ⟨b, o, e, ht⟩ := h.at_ i x hx
    exact ⟨b, o, e, hc _ _ _ ht⟩⟩
theorem CRow.later {w w' : World} {A : Option Addr} {cap : Nat} {l : List Int} (h : CRow w A cap l) (hb : Below w.heap.size w w') : CRow w' A cap l := h.cells (cells_below hb)
theorem CRow.nil {w : World} (A : Option Addr) (cap : Nat) (h : cap ≤ 9223372036854775807) : CRow w A cap [] := ⟨by simp, h, by simp, by simp⟩
theorem CRow.get {w : World} {A : Option Addr} {cap : Nat} {l : List Int} (h : CRow w A cap l) {k : Nat} (hk : k < l.length) : ∃ b o x, A = some ⟨b, o, none⟩ ∧ l[k]? = some x ∧ in64 x ∧ b < w.heap.size ∧ w.cell? ⟨b, o + k, none⟩ = some (.int .i64 x) := by
  obtain ⟨b, o, e, ht⟩ := h.at_ k l[k] (List.getElem?_eq_getElem hk)
  exact ⟨b, o, l[k], e, List.getElem?_eq_getElem hk, h.wf _ (List.getElem_mem hk), World.block_lt_of_cell? w _ ht, ht⟩
theorem CRow.take {w : World} {A : Option Addr} {cap : Nat} {l : List Int} (h : CRow w A cap l) (n : Nat) : CRow w A cap (l.take n) :=
  ⟨by have := h.le; rw [List.length_take]; omega, h.mx, fun x hx => h.wf x (List.mem_of_mem_take hx), fun i x hx => by
    rw [List.getElem?_take] at hx
    split at hx
    · exact h.at_ i x hx
    · cases hx⟩
def numL (l : List Int) : List Value := l.map (Value.int .i64)
theorem numL_one (l : List Int) : ∀ u ∈ numL l, u.oneCell' = true := by
  intro u hu
  obtain ⟨x, _, rfl⟩ := List.mem_map.1 hu
  rfl
theorem crow_own {w : World} {B e n : Nat} {v : Value} {l : List Int} (h : w.ownsRow B e 1 v n (numL l)) (hw : ∀ x ∈ l, in64 x) : ∃ A cap, v = .slice A l.length cap ∧ n = l.length ∧ CRow w A cap l ∧ (l ≠ [] → ∀ a, A = some a → B ≤ a.block ∧ ∃ cs fr, w.heap[a.block]? = some (.cells cs e fr)) := by
  have hn : n = l.length := by have := h.1; simp [numL] at this; omega
  subst hn
  obtain ⟨A, cap, hv, hle, hmx⟩ := own_len h
  refine ⟨A, cap, hv, rfl, ⟨hle, hmx, hw, fun i x hx => ?_⟩, fun hne a ha => ?_⟩
  · rcases h.2 with ⟨h1, h0⟩ | ⟨g, cap', cur, h1, _, hg, _⟩
    · have := (List.getElem?_eq_some_iff.1 hx).1
      omega
    · rw [hv] at h1
      simp only [Value.slice.injEq] at h1
      obtain ⟨rfl, _, rfl⟩ := h1
      refine ⟨g, 0, rfl, ?_⟩
      have := own_cell h (g := g) (by rw [hv]; rfl) (i := i) (u := .int .i64 x) (by simp [numL, hx])
      rwa [Nat.zero_add]
  · rcases h.2 with ⟨h1, h0⟩ | ⟨g, cap', cur, h1, hB, hg, _⟩
    · rw [List.length_eq_zero_iff] at h0
      exact absurd h0 hne
    · rw [hv] at h1
      simp only [Value.slice.injEq] at h1
      obtain ⟨rfl, _, rfl⟩ := h1
      cases ha
      exact ⟨hB, _, _, hg⟩

/-! ### Five cells -/
structure Fv where
  t : Int
  a : Int
  r : Int
  k : Int
  c : List Int
deriving DecidableEq
structure FvW (x : Fv) : Prop where
  t : in64 x.t
  a : in64 x.a
  r : in64 x.r
  k : in64 x.k
def fvL (x : Fv) (A : Option Addr) (cap : Nat) : List Value := [.int .i64 x.t, .int .i64 x.a, .int .i64 x.r, .int .i64 x.k, .slice A x.c.length cap]
abbrev fvV (x : Fv) (A : Option Addr) (cap : Nat) : Value := .agg #[.int .i64 x.t, .int .i64 x.a, .int .i64 x.r, .int .i64 x.k, .slice A x.c.length cap]
theorem fvL_one (x : Fv) (A : Option Addr) (cap : Nat) : ∀ u ∈ fvL x A cap, u.oneCell' = true := by
  intro u hu
  simp only [fvL, List.mem_cons, List.not_mem_nil, or_false] at hu
  rcases hu with rfl | rfl | rfl | rfl | rfl <;> rfl
structure FAt (w : World) (b o : Nat) (x : Fv) (A : Option Addr) (cap : Nat) : Prop where
  r : w.rangeAt b o (fvL x A cap)
  wf : FvW x
  s : CRow w A cap x.c
theorem FAt.c0 {w : World} {b o cap : Nat} {x : Fv} {A : Option Addr} (h : FAt w b o x A cap) : w.cell? ⟨b, o, none⟩ = some (.int .i64 x.t) := h.r 0 _ rfl
theorem FAt.c1 {w : World} {b o cap : Nat} {x : Fv} {A : Option Addr} (h : FAt w b o x A cap) : w.cell? ⟨b, o + 1, none⟩ = some (.int .i64 x.a) := h.r 1 _ rfl
theorem FAt.c2 {w : World} {b o cap : Nat} {x : Fv} {A : Option Addr} (h : FAt w b o x A cap) : w.cell? ⟨b, o + 2, none⟩ = some (.int .i64 x.r) := h.r 2 _ rfl
theorem FAt.c3 {w : World} {b o cap : Nat} {x : Fv} {A : Option Addr} (h : FAt w b o x A cap) : w.cell? ⟨b, o + 3, none⟩ = some (.int .i64 x.k) := h.r 3 _ rfl
theorem FAt.c4 {w : World} {b o cap : Nat} {x : Fv} {A : Option Addr} (h : FAt w b o x A cap) : w.cell? ⟨b, o + 4, none⟩ = some (.slice A x.c.length cap) := h.r 4 _ rfl
theorem FAt.z {w : World} {b cap : Nat} {x : Fv} {A : Option Addr} (h : FAt w b 0 x A cap) : w.cell? ⟨b, 0, none⟩ = some (.int .i64 x.t) ∧ w.cell? ⟨b, 1, none⟩ = some (.int .i64 x.a) ∧ w.cell? ⟨b, 2, none⟩ = some (.int .i64 x.r) ∧ w.cell? ⟨b, 3, none⟩ = some (.int .i64 x.k) ∧ w.cell? ⟨b, 4, none⟩ = some (.slice A x.c.length cap) := ⟨h.c0, h.c1, h.c2, h.c3, h.c4⟩
theorem FAt.lt {w : World} {b o cap : Nat} {x : Fv} {A : Option Addr} (h : FAt w b o x A cap) : b < w.heap.size := World.block_lt_of_cell? w _ h.c0
theorem FAt.cells {w w' : World} {b o cap : Nat} {x : Fv} {A : Option Addr} (h : FAt w b o x A cap) (hc : Cells w w') : FAt w' b o x A cap := ⟨fun j v hv => hc _ _ _ (h.r j v hv), h.wf, h.s.cells hc⟩
theorem FAt.later {w w' : World} {b o cap : Nat} {x : Fv} {A : Option Addr} (h : FAt w b o x A cap) (hb : Below w.heap.size w w') : FAt w' b o x A cap := h.cells (cells_below hb)
theorem infoJ : (Try.prog.info? 60).map (·.size) = some 5 := by kernel_rfl
theorem infoR : (Try.prog.info? 58).map (·.size) = some 5 := by kernel_rfl
theorem infoJs : (Try.prog.info? 60).map (fun i => (i.zero, i.size, i.bytes)) = some (some (.agg #[.int .i64 0, .int .i64 0, .int .i64 0, .int .i64 0, .slice none 0 0]), 5, 56) := by kernel_rfl
theorem infoRs : (Try.prog.info? 58).map (fun i => (i.zero, i.size, i.bytes)) = some (some (.agg #[.int .i64 0, .int .i64 0, .int .i64 0, .int .i64 0, .slice none 0 0]), 5, 56) := by kernel_rfl
theorem info64 : (Try.prog.info? 2).map (fun i => (i.zero, i.size, i.bytes)) = some (some (.int .i64 0), 1, 8) := by kernel_rfl
theorem infoI : (Try.prog.info? 3).map (fun i => (i.zero, i.size, i.bytes)) = some (some (.int .i64 0), 1, 8) := by kernel_rfl
theorem FAt.loadJ {w : World} {b o cap : Nat} {x : Fv} {A : Option Addr} (h : FAt w b o x A cap) : (loadVar 60 ⟨b, o, none⟩).run Try.prog w = .ok (fvV x A cap) w :=
  run_loadVar_mid w b o 60 (fvL x A cap) _ h.r Try.underlying60 rfl infoJ
theorem FAt.loadR {w : World} {b o cap : Nat} {x : Fv} {A : Option Addr} (h : FAt w b o x A cap) : (loadVar 58 ⟨b, o, none⟩).run Try.prog w = .ok (fvV x A cap) w :=
  run_loadVar_mid w b o 58 (fvL x A cap) _ h.r Try.underlying58 rfl infoR
theorem FAt.new (w : World) (x : Fv) (A : Option Addr) (cap : Nat) (T : TypeId) (hw : FvW x) (hs : CRow w A cap x.c) :
    FAt (w.alloc (.cells #[.int .i64 x.t, .int .i64 x.a, .int .i64 x.r, .int .i64 x.k, .slice A x.c.length cap] T)) w.heap.size 0 x A cap :=
  ⟨fun j v hv => by rw [Nat.zero_add, cell_of_row _ _ j _ _ _ (heap_alloc_new w _)]; simpa [fvL] using hv, hw, hs.later ((Below.refl _ _).alloc (Nat.le_refl _) _)⟩
/-- A slice that reads as a row of such. -/
structure FRow (w : World) (A : Option Addr) (cap : Nat) (l : List Fv) : Prop where
  le : l.length ≤ cap
  mx : cap ≤ 9223372036854775807
  at_ : ∀ i x, l[i]? = some x → ∃ b o C cc, A = some ⟨b, o, none⟩ ∧ FAt w b (o + i * 5) x C cc
theorem FRow.cells {w w' : World} {A : Option Addr} {cap : Nat} {l : List Fv} (h : FRow w A cap l) (hc : Cells w w') : FRow w' A cap l :=
  ⟨h.le, h.mx, fun i x hx => by
    obtain ⟨b, o, C, cc, e, ht⟩ := h.at_ i x hx
    exact ⟨b, o, C, cc, e, ht.cells hc⟩⟩
theorem FRow.later {w w' : World} {A : Option Addr} {cap : Nat} {l : List Fv} (h : FRow w A cap l) (hb : Below w.heap.size w w') : FRow w' A cap l := h.cells (cells_below hb)
theorem FRow.nil {w : World} (A : Option Addr) (cap : Nat) (h : cap ≤ 9223372036854775807) : FRow w A cap [] := ⟨by simp, h, by simp⟩
theorem FRow.get {w : World} {A : Option Addr} {cap : Nat} {l : List Fv} (h : FRow w A cap l) {k : Nat} (hk : k < l.length) : ∃ b o x C cc, A = some ⟨b, o, none⟩ ∧ l[k]? = some x ∧ b < w.heap.size ∧ FAt w b (o + k * 5) x C cc := by
  obtain ⟨b, o, C, cc, e, ht⟩ := h.at_ k l[k] (List.getElem?_eq_getElem hk)
  exact ⟨b, o, l[k], C, cc, e, List.getElem?_eq_getElem hk, ht.lt, ht⟩
theorem FRow.wf {w : World} {A : Option Addr} {cap : Nat} {l : List Fv} (h : FRow w A cap l) : ∀ x ∈ l, FvW x ∧ ∀ n ∈ x.c, in64 n := fun x hx => by
  obtain ⟨i, hi, rfl⟩ := List.getElem_of_mem hx
  obtain ⟨b, o, C, cc, e, ht⟩ := h.at_ i _ (List.getElem?_eq_getElem hi)
  exact ⟨ht.wf, ht.s.wf⟩
theorem FRow.take {w : World} {A : Option Addr} {cap : Nat} {l : List Fv} (h : FRow w A cap l) (n : Nat) : FRow w A cap (l.take n) :=
  ⟨by have := h.le; rw [List.length_take]; omega, h.mx, fun i x hx => by
    rw [List.getElem?_take] at hx
    split at hx
    · exact h.at_ i x hx
    · cases hx⟩

/-! ### Rows of the call's own -/
/-- One with the slice of its numbers. -/
structure Gv where
  x : Fv
  A : Option Addr
  cap : Nat
def gvC (gs : List Gv) : List Value := gs.flatMap (fun g => fvL g.x g.A g.cap)
theorem gvC_snoc (gs : List Gv) (g : Gv) : gvC (gs ++ [g]) = gvC gs ++ fvL g.x g.A g.cap := by simp [gvC]
theorem gvC_length (gs : List Gv) : (gvC gs).length = gs.length * 5 := by
  induction gs with
  | nil => rfl
  | cons a r ih => rw [gvC, List.flatMap_cons, List.length_append, ← gvC, ih]; simp [fvL]; omega
theorem gvC_get (gs : List Gv) : ∀ (i : Nat) (g : Gv), gs[i]? = some g → ∀ j v, (fvL g.x g.A g.cap)[j]? = some v → (gvC gs)[i * 5 + j]? = some v := by
  induction gs with
  | nil => intro i x h; simp at h
  | cons a r ih =>
    intro i x h j v hv
    cases i with
    | zero =>
      simp at h; subst h
      have hj : j < 5 := (List.getElem?_eq_some_iff.1 hv).1
      rw [Nat.zero_mul, Nat.zero_add, gvC, List.flatMap_cons, List.getElem?_append_left (by simp [fvL]; omega)]
      exact hv
    | succ i =>
      simp only [List.getElem?_cons_succ] at h
      have := ih i x h j v hv
      rw [gvC, List.flatMap_cons, List.getElem?_append_right (by simp [fvL]; omega)]
      rw [show (i + 1) * 5 + j - (fvL a.x a.A a.cap).length = i * 5 + j by simp [fvL]; omega]
      exact this
/-- The numbers of one lie in no block of the row's kind, or in an old one. -/
def Safe (e : TypeId) (B : Nat) (w : World) (A : Option Addr) (c : List Int) : Prop := c ≠ [] → ∀ a, A = some a → a.block < B ∨ ∃ cs T fr, w.heap[a.block]? = some (.cells cs T fr) ∧ T ≠ e
structure GOk (e : TypeId) (B : Nat) (w : World) (g : Gv) : Prop where
  wf : FvW g.x
  s : CRow w g.A g.cap g.x.c
  safe : Safe e B w g.A g.x.c
structure FOwn (e : TypeId) (B : Nat) (w : World) (v : Value) (gs : List Gv) : Prop where
  row : w.ownsRow B e 5 v gs.length (gvC gs)
  each : ∀ g ∈ gs, GOk e B w g
theorem FOwn.nil (e : TypeId) (B : Nat) (w : World) : FOwn e B w (.slice none 0 0) [] := ⟨World.ownsRow_nil _ _ _ _, by simp⟩
/-- What lies outside of the row's own block, and of maps, stays: so does what its things hold. -/
theorem GOk.kept {e : TypeId} {B : Nat} {w w' : World} {g : Gv} (h : GOk e B w g) (hk : ∀ b, b < w.heap.size → b < B ∨ (∃ cs T fr, w.heap[b]? = some (.cells cs T fr) ∧ T ≠ e) → w'.heap[b]? = w.heap[b]?) : GOk e B w' g := by
  have hblk : g.x.c ≠ [] → ∀ a, g.A = some a → w'.heap[a.block]? = w.heap[a.block]? := fun hne a ha => by
    obtain ⟨b, o, x, hA, _, _, hlt, _⟩ := h.s.get (k := 0) (by rcases Nat.eq_zero_or_pos g.x.c.length with h0 | h0; exact absurd (List.length_eq_zero_iff.1 h0) hne; exact h0)
    rw [ha] at hA
    cases hA
    rcases h.safe hne _ ha with h1 | h1
    · exact hk _ hlt (.inl h1)
    · exact hk _ hlt (.inr h1)
  refine ⟨h.wf, ⟨h.s.le, h.s.mx, h.s.wf, fun i x hx => ?_⟩, fun hne a ha => ?_⟩
  · obtain ⟨b, o, hA, hc⟩ := h.s.at_ i x hx
    exact ⟨b, o, hA, (World.cell?_of_block (w := w) (a := ⟨b, o + i, none⟩) (hblk (by intro h0; rw [h0] at hx; simp at hx) ⟨b, o, none⟩ hA)).trans hc⟩
  · rcases h.safe hne a ha with h1 | ⟨cs, T, fr, h1, h2⟩
    · exact .inl h1
    · exact .inr ⟨cs, T, fr, (hblk hne a ha).trans h1, h2⟩
theorem FOwn.later {e : TypeId} {B : Nat} {w w' : World} {v : Value} {gs : List Gv} (h : FOwn e B w v gs) (hb : Below w.heap.size w w') : FOwn e B w' v gs :=
  ⟨(Kept.of [] hb).row h.row (by simp), fun g hg => (h.each g hg).kept fun b hl _ => hb.block b hl⟩
/-- A map is written to. -/
theorem FOwn.map {e : TypeId} {B : Nat} {w w' : World} {v : Value} {gs : List Gv} {r : Nat} {es : Array MapEntry} {c : Nat} (h : FOwn e B w v gs) (hk : Kept [r] w w') (hm : w.heap[r]? = some (.map es c)) (hr : B ≤ r) : FOwn e B w' v gs :=
  ⟨hk.row h.row (fun g hg => by
      rcases h.row.2 with ⟨rfl, _⟩ | ⟨g', cap, cur, rfl, _, hh, _⟩
      · simp [Value.ownBlock] at hg
      · simp only [Value.ownBlock, Option.some.injEq] at hg
        subst hg
        intro hx
        rw [List.mem_singleton] at hx
        subst hx
        rw [hm] at hh
        cases hh),
    fun g hg => (h.each g hg).kept fun b hl hs => hk.block b hl (fun hx => by
      rw [List.mem_singleton] at hx
      subst hx
      rcases hs with hs | ⟨cs, T, fr, hs, _⟩
      · omega
      · rw [hm] at hs; cases hs)⟩
/-- One more, by what append tells. -/
theorem FOwn.push {e : TypeId} {B : Nat} {w w' : World} {v v' : Value} {gs : List Gv} {g : Gv} (h : FOwn e B w v gs) (hg : GOk e B w g) (hown : w'.ownsRow B e 5 v' (gs.length + 1) (gvC gs ++ fvL g.x g.A g.cap)) (hgr : w.grownBy w' v.ownBlock) : FOwn e B w' v' (gs ++ [g]) := by
  have hk : ∀ b, b < w.heap.size → b < B ∨ (∃ cs T fr, w.heap[b]? = some (.cells cs T fr) ∧ T ≠ e) → w'.heap[b]? = w.heap[b]? := fun b hl hs => hgr.block b hl (fun hb => by
    rcases hs with hs | ⟨cs, T, fr, hs, hT⟩
    · have := (h.row.lt b hb.symm).1; omega
    · exact own_ne h.row hs hT hb.symm)
  refine ⟨by rw [List.length_append, gvC_snoc]; exact hown, fun y hy => ?_⟩
  rcases List.mem_append.1 hy with hy | hy
  · exact (h.each y hy).kept hk
  · rw [List.mem_singleton] at hy
    subst hy
    exact hg.kept hk
theorem FOwn.frow {e : TypeId} {B : Nat} {w : World} {v : Value} {gs : List Gv} (h : FOwn e B w v gs) : ∃ A cap, v = .slice A gs.length cap ∧ FRow w A cap (gs.map (·.x)) := by
  obtain ⟨A, cap, hv, hle, hmx⟩ := own_len h.row
  refine ⟨A, cap, hv, ⟨by simpa using hle, hmx, fun i x hx => ?_⟩⟩
  obtain ⟨g, hg, rfl⟩ : ∃ g, gs[i]? = some g ∧ g.x = x := by
    rw [List.getElem?_map] at hx
    cases hgi : gs[i]? with
    | none => rw [hgi] at hx; cases hx
    | some g => rw [hgi] at hx; exact ⟨g, rfl, by simpa using hx⟩
  have hi := (List.getElem?_eq_some_iff.1 hg).1
  obtain ⟨b, cap', hv', hB, hl, _, _, _⟩ := own_form h.row (by omega)
  rw [hv] at hv'
  simp only [Value.slice.injEq] at hv'
  obtain ⟨rfl, _, rfl⟩ := hv'
  have ho := h.each g (List.mem_of_getElem? hg)
  exact ⟨b, 0, g.A, g.cap, rfl, ⟨fun j u hu => by rw [Nat.zero_add]; exact own_cell h.row (g := b) (by rw [hv]; rfl) (gvC_get gs i g hg j u hu), ho.wf, ho.s⟩⟩
end Go.Proofs.Ytngmaiiibinkaaa
