/- Texts about the program, one after the other: JBase, SPure, JPure, EPure, EMany, JOps, JSoon, JDec. -/
import Derived.Test.YtnhddnldebdmbaaGreatDoorG3
import Derived.Laws.OwnMore
import Derived.Sort.LoopGhostIn
import Derived.Deep.RegionHeldLaw
/- Jobs and raw jobs as values and in memory: five cells, the last of them a slice of numbers; rows of them, also of the call's own; what stays as it was. -/
namespace Go.Proofs.YtnhddnldebdmbaaGreatDoor
open Go.RowKit
set_option linter.unusedVariables false
set_option linter.unusedSimpArgs false

/-! ### What stays -/
/-- Of what was there nothing has turned but these blocks. -/
structure Kept (X : List Nat) (w w' : World) : Prop where
  os : w'.os = w.os
  tape : w'.tape = w.tape
  output : w'.output = w.output
  size : w.heap.size ≤ w'.heap.size
  block : ∀ k, k < w.heap.size → k ∉ X → w'.heap[k]? = w.heap[k]?
theorem Kept.refl (X : List Nat) (w : World) : Kept X w w := ⟨rfl, rfl, rfl, Nat.le_refl _, fun _ _ _ => rfl⟩
theorem Kept.trans {X : List Nat} {a b c : World} (h : Kept X a b) (k : Kept X b c) : Kept X a c :=
  ⟨k.os.trans h.os, k.tape.trans h.tape, k.output.trans h.output, Nat.le_trans h.size k.size, fun i hi hx => (k.block i (Nat.lt_of_lt_of_le hi h.size) hx).trans (h.block i hi hx)⟩
theorem Kept.of (X : List Nat) {w w' : World} (h : Below w.heap.size w w') : Kept X w w' := ⟨h.os, h.tape, h.output, h.size, fun k hk _ => h.block k hk⟩
theorem Kept.mono {X Y : List Nat} {w w' : World} (h : Kept X w w') (hs : ∀ k ∈ X, k ∈ Y) : Kept Y w w' := ⟨h.os, h.tape, h.output, h.size, fun k hk hx => h.block k hk (fun hm => hx (hs k hm))⟩
theorem Kept.less {X Y : List Nat} {w w' : World} (h : Kept X w w') (hs : ∀ k ∈ X, k ∈ Y ∨ w.heap.size ≤ k) : Kept Y w w' := ⟨h.os, h.tape, h.output, h.size, fun k hk hx => h.block k hk (fun hm => by rcases hs k hm with h | h; exact hx h; omega)⟩
theorem Kept.later {X : List Nat} {a w w' : World} (h : Kept X a w) (hb : Below w.heap.size w w') : Kept X a w' := h.trans (Kept.of X hb)
theorem Kept.set {X : List Nat} {a w : World} (h : Kept X a w) (b i : Nat) (v : Value) (hb : b ∈ X) : Kept X a (w.setCell ⟨b, i, none⟩ v) :=
  h.trans ⟨rfl, rfl, rfl, by simp [World.setCell], fun k hk hx => Below.heap_setCell _ _ _ _ (fun e => hx (by rw [e]; exact hb))⟩
theorem Kept.put {X : List Nat} {a w : World} (h : Kept X a w) (b : Nat) (o : Obj) (hb : b ∈ X) : Kept X a (w.putObj b o) :=
  h.trans ⟨rfl, rfl, rfl, by simp, fun k hk hx => World.putObj_heap_other (fun e => hx (by rw [e]; exact hb))⟩
theorem Kept.below {X : List Nat} {w w' : World} {B : Nat} (h : Kept X w w') (hB : B ≤ w.heap.size) (hX : ∀ k ∈ X, B ≤ k) : Below B w w' :=
  ⟨h.os, h.tape, h.output, h.size, fun k hk => h.block k (by omega) (fun hm => by have := hX k hm; omega)⟩
theorem Kept.cell {X : List Nat} {w w' : World} (h : Kept X w w') {b i : Nat} (hl : b < w.heap.size) (hx : b ∉ X) : w'.cell? ⟨b, i, none⟩ = w.cell? ⟨b, i, none⟩ :=
  World.cell?_of_block (w := w) (h.block b hl hx)
theorem kept_grown {X : List Nat} {w w' : World} {row : Option Nat} (hg : w.grownBy w' row) (h : ∀ k, row = some k → k ∈ X) : Kept X w w' :=
  ⟨hg.os, hg.tape, hg.output, hg.size, fun k hk hx => hg.block k hk (fun e => hx (h k e.symm))⟩
theorem Kept.row {X : List Nat} {W W' : World} (h : Kept X W W') {base e size k : Nat} {v : Value} {xs : List Value} (hr : W.ownsRow base e size v k xs) (hx : ∀ g, v.ownBlock = some g → g ∉ X) : W'.ownsRow base e size v k xs := by
  obtain ⟨h1, h2⟩ := hr
  refine ⟨h1, ?_⟩
  rcases h2 with h2 | ⟨g, cap, cur, hv, hg, hh, r⟩
  · exact .inl h2
  · subst hv
    exact .inr ⟨g, cap, cur, rfl, hg, (h.block g (Array.getElem?_eq_some_iff.1 hh).1 (hx g rfl)).trans hh, r⟩
theorem own_len {w : World} {B e size n : Nat} {v : Value} {xs : List Value} (h : w.ownsRow B e size v n xs) : ∃ A cap, v = .slice A n cap ∧ n ≤ cap ∧ cap ≤ maxLen := by
  rcases h.2 with ⟨hv, h0⟩ | ⟨g, cap, cur, hv, hb, hh, hle, hmx, _, _⟩
  · exact ⟨none, 0, by rw [hv, h0], by omega, by unfold maxLen; omega⟩
  · exact ⟨_, cap, hv, hle, hmx⟩
theorem own_form {w : World} {B e size n : Nat} {v : Value} {xs : List Value} (h : w.ownsRow B e size v n xs) (hn : 0 < n) : ∃ g cap, v = .slice (some ⟨g, 0, none⟩) n cap ∧ B ≤ g ∧ g < w.heap.size ∧ n ≤ cap ∧ cap ≤ maxLen ∧ (∀ i, w.frozen? ⟨g, i, none⟩ = false) := by
  rcases h.2 with ⟨hv, h0⟩ | ⟨g, cap, cur, hv, hb, hh, hle, hmx, _, _⟩
  · omega
  · exact ⟨g, cap, hv, hb, (Array.getElem?_eq_some_iff.1 hh).1, hle, hmx, fun i => by simp [World.frozen?, hh]⟩
theorem own_cell {w : World} {B e size n g i : Nat} {v : Value} {xs : List Value} (h : w.ownsRow B e size v n xs) (hg : v.ownBlock = some g) {u : Value} (hu : xs[i]? = some u) : w.cell? ⟨g, i, none⟩ = some u := by
  have := h.cells hg i u hu
  rwa [add_none, Nat.zero_add] at this
theorem own_ne {w : World} {B e size n b : Nat} {v : Value} {xs : List Value} {cs : Array Value} {T : TypeId} {fr : Nat × Nat} (h : w.ownsRow B e size v n xs) (hb : w.heap[b]? = some (.cells cs T fr)) (hT : T ≠ e) : v.ownBlock ≠ some b := by
  rcases h.2 with ⟨rfl, _⟩ | ⟨g, cap, cur, rfl, _, hg, _⟩
  · simp [Value.ownBlock]
  · intro hh
    simp only [Value.ownBlock, Option.some.injEq] at hh
    subst hh
    rw [hg] at hb
    simp only [Option.some.injEq, Obj.cells.injEq] at hb
    exact hT hb.2.1.symm
theorem own_set {w : World} {B e size n i g : Nat} {v : Value} {xs : List Value} (h : w.ownsRow B e size v n xs) (hg : v.ownBlock = some g) (hi : i < n * size) (u : Value) : (w.setCell ⟨g, i, none⟩ u).ownsRow B e size v n (xs.set i u) := by
  obtain ⟨h1, h2⟩ := h
  rcases h2 with ⟨rfl, _⟩ | ⟨g', cap, cur, rfl, hb, hh, hn, hm, hs, ht⟩
  · simp [Value.ownBlock] at hg
  · simp only [Value.ownBlock, Option.some.injEq] at hg
    subst hg
    refine ⟨by rw [List.length_set]; exact h1, .inr ⟨g', cap, cur.setIfInBounds i u, rfl, hb, ?_, hn, hm, by simpa using hs, ?_⟩⟩
    · rw [setCell_eq_setRow w g' i cur e (0, 0) u hh]
      exact setRow_heap w g' cur _ e _ hh
    · rw [Array.toList_setIfInBounds, ← ht, List.take_set]

/-- What a cell holds it holds on. -/
def Cells (w w' : World) : Prop := ∀ b o v, w.cell? ⟨b, o, none⟩ = some v → w'.cell? ⟨b, o, none⟩ = some v
theorem Cells.refl (w : World) : Cells w w := fun _ _ _ h => h
theorem Cells.trans {a b c : World} (h : Cells a b) (k : Cells b c) : Cells a c := fun _ _ _ hv => k _ _ _ (h _ _ _ hv)
theorem cells_below {w w' : World} (h : Below w.heap.size w w') : Cells w w' := fun b o v hv => (h.cell (p := ⟨b, o, none⟩) (World.block_lt_of_cell? w _ hv)).trans hv
theorem cells_kept {X : List Nat} {w w' : World} (h : Kept X w w') (hX : ∀ k ∈ X, ∀ o, w.cell? ⟨k, o, none⟩ = none) : Cells w w' := fun b o v hv => by
  rw [h.cell (World.block_lt_of_cell? w _ hv) (fun hm => by rw [hX b hm o] at hv; cases hv)]
  exact hv
theorem cell_of_map {w : World} {r : Nat} {es : Array MapEntry} {c : Nat} (h : w.heap[r]? = some (.map es c)) (o : Nat) : w.cell? ⟨r, o, none⟩ = none := by simp [World.cell?, h]
theorem Row.cells {w w' : World} {A : Option Addr} {cap : Nat} {l : List Ts} (h : Row w A cap l) (hc : Cells w w') : Row w' A cap l :=
  ⟨h.le, h.mx, h.wf, fun i x hx => by
    obtain ⟨b, o, e, ht⟩ := h.at_ i x hx
    exact ⟨b, o, e, ⟨fun j v hv => hc _ _ _ (ht.r j v hv)⟩⟩⟩

/-! ### Rows of numbers -/
structure CRow (w : World) (A : Option Addr) (cap : Nat) (l : List Int) : Prop where
  le : l.length ≤ cap
  mx : cap ≤ 9223372036854775807
  wf : ∀ x ∈ l, in64 x
  at_ : ∀ i x, l[i]? = some x → ∃ b o, A = some ⟨b, o, none⟩ ∧ w.cell? ⟨b, o + i, none⟩ = some (.int .i64 x)
theorem CRow.cells {w w' : World} {A : Option Addr} {cap : Nat} {l : List Int} (h : CRow w A cap l) (hc : Cells w w') : CRow w' A cap l :=
  ⟨h.le, h.mx, h.wf, fun i x hx => by
    obtain ⟨b, o, e, ht⟩ := h.at_ i x hx
    exact ⟨b, o, e, hc _ _ _ ht⟩⟩
theorem CRow.later {w w' : World} {A : Option Addr} {cap : Nat} {l : List Int} (h : CRow w A cap l) (hb : Below w.heap.size w w') : CRow w' A cap l := h.cells (cells_below hb)
theorem CRow.nil {w : World} (A : Option Addr) (cap : Nat) (h : cap ≤ 9223372036854775807) : CRow w A cap [] := ⟨by simp, h, by simp, by simp⟩
theorem CRow.get {w : World} {A : Option Addr} {cap : Nat} {l : List Int} (h : CRow w A cap l) {k : Nat} (hk : k < l.length) : ∃ b o x, A = some ⟨b, o, none⟩ ∧ l[k]? = some x ∧ in64 x ∧ b < w.heap.size ∧ w.cell? ⟨b, o + k, none⟩ = some (.int .i64 x) := by
  obtain ⟨b, o, e, ht⟩ := h.at_ k l[k] (List.getElem?_eq_getElem hk)
  exact ⟨b, o, l[k], e, List.getElem?_eq_getElem hk, h.wf _ (List.getElem_mem hk), World.block_lt_of_cell? w _ ht, ht⟩
theorem CRow.take {w : World} {A : Option Addr} {cap : Nat} {l : List Int} (h : CRow w A cap l) (n : Nat) : CRow w A cap (l.take n) :=
  ⟨by have := h.le; rw [List.length_take]; omega, h.mx, fun x hx => h.wf x (List.mem_of_mem_take hx), fun i x hx => by
    rw [List.getElem?_take] at hx
    split at hx
    · exact h.at_ i x hx
    · cases hx⟩
def numL (l : List Int) : List Value := l.map (Value.int .i64)
theorem numL_one (l : List Int) : ∀ u ∈ numL l, u.oneCell' = true := by
  intro u hu
  obtain ⟨x, _, rfl⟩ := List.mem_map.1 hu
  rfl
theorem crow_own {w : World} {B e n : Nat} {v : Value} {l : List Int} (h : w.ownsRow B e 1 v n (numL l)) (hw : ∀ x ∈ l, in64 x) : ∃ A cap, v = .slice A l.length cap ∧ n = l.length ∧ CRow w A cap l ∧ (l ≠ [] → ∀ a, A = some a → B ≤ a.block ∧ ∃ cs fr, w.heap[a.block]? = some (.cells cs e fr)) := by
  have hn : n = l.length := by have := h.1; simp [numL] at this; omega
  subst hn
  obtain ⟨A, cap, hv, hle, hmx⟩ := own_len h
  refine ⟨A, cap, hv, rfl, ⟨hle, hmx, hw, fun i x hx => ?_⟩, fun hne a ha => ?_⟩
  · rcases h.2 with ⟨h1, h0⟩ | ⟨g, cap', cur, h1, _, hg, _⟩
    · have := (List.getElem?_eq_some_iff.1 hx).1
      omega
    · rw [hv] at h1
      simp only [Value.slice.injEq] at h1
      obtain ⟨rfl, _, rfl⟩ := h1
      refine ⟨g, 0, rfl, ?_⟩
      have := own_cell h (g := g) (by rw [hv]; rfl) (i := i) (u := .int .i64 x) (by simp [numL, hx])
      rwa [Nat.zero_add]
  · rcases h.2 with ⟨h1, h0⟩ | ⟨g, cap', cur, h1, hB, hg, _⟩
    · rw [List.length_eq_zero_iff] at h0
      exact absurd h0 hne
    · rw [hv] at h1
      simp only [Value.slice.injEq] at h1
      obtain ⟨rfl, _, rfl⟩ := h1
      cases ha
      exact ⟨hB, _, _, hg⟩

/-! ### Five cells -/
structure Fv where
  t : Int
  a : Int
  r : Int
  k : Int
  c : List Int
deriving DecidableEq
structure FvW (x : Fv) : Prop where
  t : in64 x.t
  a : in64 x.a
  r : in64 x.r
  k : in64 x.k
def fvL (x : Fv) (A : Option Addr) (cap : Nat) : List Value := [.int .i64 x.t, .int .i64 x.a, .int .i64 x.r, .int .i64 x.k, .slice A x.c.length cap]
abbrev fvV (x : Fv) (A : Option Addr) (cap : Nat) : Value := .agg #[.int .i64 x.t, .int .i64 x.a, .int .i64 x.r, .int .i64 x.k, .slice A x.c.length cap]
theorem fvL_one (x : Fv) (A : Option Addr) (cap : Nat) : ∀ u ∈ fvL x A cap, u.oneCell' = true := by
  intro u hu
  simp only [fvL, List.mem_cons, List.not_mem_nil, or_false] at hu
  rcases hu with rfl | rfl | rfl | rfl | rfl <;> rfl
structure FAt (w : World) (b o : Nat) (x : Fv) (A : Option Addr) (cap : Nat) : Prop where
  r : w.rangeAt b o (fvL x A cap)
  wf : FvW x
  s : CRow w A cap x.c
theorem FAt.c0 {w : World} {b o cap : Nat} {x : Fv} {A : Option Addr} (h : FAt w b o x A cap) : w.cell? ⟨b, o, none⟩ = some (.int .i64 x.t) := h.r 0 _ rfl
theorem FAt.c1 {w : World} {b o cap : Nat} {x : Fv} {A : Option Addr} (h : FAt w b o x A cap) : w.cell? ⟨b, o + 1, none⟩ = some (.int .i64 x.a) := h.r 1 _ rfl
theorem FAt.c2 {w : World} {b o cap : Nat} {x : Fv} {A : Option Addr} (h : FAt w b o x A cap) : w.cell? ⟨b, o + 2, none⟩ = some (.int .i64 x.r) := h.r 2 _ rfl
theorem FAt.c3 {w : World} {b o cap : Nat} {x : Fv} {A : Option Addr} (h : FAt w b o x A cap) : w.cell? ⟨b, o + 3, none⟩ = some (.int .i64 x.k) := h.r 3 _ rfl
theorem FAt.c4 {w : World} {b o cap : Nat} {x : Fv} {A : Option Addr} (h : FAt w b o x A cap) : w.cell? ⟨b, o + 4, none⟩ = some (.slice A x.c.length cap) := h.r 4 _ rfl
theorem FAt.z {w : World} {b cap : Nat} {x : Fv} {A : Option Addr} (h : FAt w b 0 x A cap) : w.cell? ⟨b, 0, none⟩ = some (.int .i64 x.t) ∧ w.cell? ⟨b, 1, none⟩ = some (.int .i64 x.a) ∧ w.cell? ⟨b, 2, none⟩ = some (.int .i64 x.r) ∧ w.cell? ⟨b, 3, none⟩ = some (.int .i64 x.k) ∧ w.cell? ⟨b, 4, none⟩ = some (.slice A x.c.length cap) := ⟨h.c0, h.c1, h.c2, h.c3, h.c4⟩
theorem FAt.lt {w : World} {b o cap : Nat} {x : Fv} {A : Option Addr} (h : FAt w b o x A cap) : b < w.heap.size := World.block_lt_of_cell? w _ h.c0
theorem FAt.cells {w w' : World} {b o cap : Nat} {x : Fv} {A : Option Addr} (h : FAt w b o x A cap) (hc : Cells w w') : FAt w' b o x A cap := ⟨fun j v hv => hc _ _ _ (h.r j v hv), h.wf, h.s.cells hc⟩
theorem FAt.later {w w' : World} {b o cap : Nat} {x : Fv} {A : Option Addr} (h : FAt w b o x A cap) (hb : Below w.heap.size w w') : FAt w' b o x A cap := h.cells (cells_below hb)
theorem infoJ : (Tryz.prog.info? 38).map (·.size) = some 5 := by kernel_rfl
theorem infoR : (Tryz.prog.info? 55).map (·.size) = some 5 := by kernel_rfl
theorem infoJs : (Tryz.prog.info? 38).map (fun i => (i.zero, i.size, i.bytes)) = some (some (.agg #[.int .i64 0, .int .i64 0, .int .i64 0, .int .i64 0, .slice none 0 0]), 5, 56) := by kernel_rfl
theorem infoRs : (Tryz.prog.info? 55).map (fun i => (i.zero, i.size, i.bytes)) = some (some (.agg #[.int .i64 0, .int .i64 0, .int .i64 0, .int .i64 0, .slice none 0 0]), 5, 56) := by kernel_rfl
theorem info64 : (Tryz.prog.info? 2).map (fun i => (i.zero, i.size, i.bytes)) = some (some (.int .i64 0), 1, 8) := by kernel_rfl
theorem infoI : (Tryz.prog.info? 3).map (fun i => (i.zero, i.size, i.bytes)) = some (some (.int .i64 0), 1, 8) := by kernel_rfl
theorem FAt.loadJ {w : World} {b o cap : Nat} {x : Fv} {A : Option Addr} (h : FAt w b o x A cap) : (loadVar 38 ⟨b, o, none⟩).run Tryz.prog w = .ok (fvV x A cap) w :=
  run_loadVar_mid w b o 38 (fvL x A cap) _ h.r Tryz.underlying38 rfl infoJ
theorem FAt.loadR {w : World} {b o cap : Nat} {x : Fv} {A : Option Addr} (h : FAt w b o x A cap) : (loadVar 55 ⟨b, o, none⟩).run Tryz.prog w = .ok (fvV x A cap) w :=
  run_loadVar_mid w b o 55 (fvL x A cap) _ h.r Tryz.underlying55 rfl infoR
theorem FAt.new (w : World) (x : Fv) (A : Option Addr) (cap : Nat) (T : TypeId) (hw : FvW x) (hs : CRow w A cap x.c) :
    FAt (w.alloc (.cells #[.int .i64 x.t, .int .i64 x.a, .int .i64 x.r, .int .i64 x.k, .slice A x.c.length cap] T)) w.heap.size 0 x A cap :=
  ⟨fun j v hv => by rw [Nat.zero_add, cell_of_row _ _ j _ _ _ (heap_alloc_new w _)]; simpa [fvL] using hv, hw, hs.later ((Below.refl _ _).alloc (Nat.le_refl _) _)⟩
/-- A slice that reads as a row of such. -/
structure FRow (w : World) (A : Option Addr) (cap : Nat) (l : List Fv) : Prop where
  le : l.length ≤ cap
  mx : cap ≤ 9223372036854775807
  at_ : ∀ i x, l[i]? = some x → ∃ b o C cc, A = some ⟨b, o, none⟩ ∧ FAt w b (o + i * 5) x C cc
theorem FRow.cells {w w' : World} {A : Option Addr} {cap : Nat} {l : List Fv} (h : FRow w A cap l) (hc : Cells w w') : FRow w' A cap l :=
  ⟨h.le, h.mx, fun i x hx => by
    obtain ⟨b, o, C, cc, e, ht⟩ := h.at_ i x hx
    exact ⟨b, o, C, cc, e, ht.cells hc⟩⟩
theorem FRow.later {w w' : World} {A : Option Addr} {cap : Nat} {l : List Fv} (h : FRow w A cap l) (hb : Below w.heap.size w w') : FRow w' A cap l := h.cells (cells_below hb)
theorem FRow.nil {w : World} (A : Option Addr) (cap : Nat) (h : cap ≤ 9223372036854775807) : FRow w A cap [] := ⟨by simp, h, by simp⟩
theorem FRow.get {w : World} {A : Option Addr} {cap : Nat} {l : List Fv} (h : FRow w A cap l) {k : Nat} (hk : k < l.length) : ∃ b o x C cc, A = some ⟨b, o, none⟩ ∧ l[k]? = some x ∧ b < w.heap.size ∧ FAt w b (o + k * 5) x C cc := by
  obtain ⟨b, o, C, cc, e, ht⟩ := h.at_ k l[k] (List.getElem?_eq_getElem hk)
  exact ⟨b, o, l[k], C, cc, e, List.getElem?_eq_getElem hk, ht.lt, ht⟩
theorem FRow.wf {w : World} {A : Option Addr} {cap : Nat} {l : List Fv} (h : FRow w A cap l) : ∀ x ∈ l, FvW x ∧ ∀ n ∈ x.c, in64 n := fun x hx => by
  obtain ⟨i, hi, rfl⟩ := List.getElem_of_mem hx
  obtain ⟨b, o, C, cc, e, ht⟩ := h.at_ i _ (List.getElem?_eq_getElem hi)
  exact ⟨ht.wf, ht.s.wf⟩
theorem FRow.take {w : World} {A : Option Addr} {cap : Nat} {l : List Fv} (h : FRow w A cap l) (n : Nat) : FRow w A cap (l.take n) :=
  ⟨by have := h.le; rw [List.length_take]; omega, h.mx, fun i x hx => by
    rw [List.getElem?_take] at hx
    split at hx
    · exact h.at_ i x hx
    · cases hx⟩

/-! ### Rows of the call's own -/
/-- One with the slice of its numbers. -/
structure Gv where
  x : Fv
  A : Option Addr
  cap : Nat
def gvC (gs : List Gv) : List Value := gs.flatMap (fun g => fvL g.x g.A g.cap)
theorem gvC_snoc (gs : List Gv) (g : Gv) : gvC (gs ++ [g]) = gvC gs ++ fvL g.x g.A g.cap := by simp [gvC]
theorem gvC_length (gs : List Gv) : (gvC gs).length = gs.length * 5 := by
  induction gs with
  | nil => rfl
  | cons a r ih => rw [gvC, List.flatMap_cons, List.length_append, ← gvC, ih]; simp [fvL]; omega
theorem gvC_get (gs : List Gv) : ∀ (i : Nat) (g : Gv), gs[i]? = some g → ∀ j v, (fvL g.x g.A g.cap)[j]? = some v → (gvC gs)[i * 5 + j]? = some v := by
  induction gs with
  | nil => intro i x h; simp at h
  | cons a r ih =>
    intro i x h j v hv
    cases i with
    | zero =>
      simp at h; subst h
      have hj : j < 5 := (List.getElem?_eq_some_iff.1 hv).1
      rw [Nat.zero_mul, Nat.zero_add, gvC, List.flatMap_cons, List.getElem?_append_left (by simp [fvL]; omega)]
      exact hv
    | succ i =>
      simp only [List.getElem?_cons_succ] at h
      have := ih i x h j v hv
      rw [gvC, List.flatMap_cons, List.getElem?_append_right (by simp [fvL]; omega)]
      rw [show (i + 1) * 5 + j - (fvL a.x a.A a.cap).length = i * 5 + j by simp [fvL]; omega]
      exact this
/-- The numbers of one lie in no block of the row's kind, or in an old one. -/
def Safe (e : TypeId) (B : Nat) (w : World) (A : Option Addr) (c : List Int) : Prop := c ≠ [] → ∀ a, A = some a → a.block < B ∨ ∃ cs T fr, w.heap[a.block]? = some (.cells cs T fr) ∧ T ≠ e
structure GOk (e : TypeId) (B : Nat) (w : World) (g : Gv) : Prop where
  wf : FvW g.x
  s : CRow w g.A g.cap g.x.c
  safe : Safe e B w g.A g.x.c
structure FOwn (e : TypeId) (B : Nat) (w : World) (v : Value) (gs : List Gv) : Prop where
  row : w.ownsRow B e 5 v gs.length (gvC gs)
  each : ∀ g ∈ gs, GOk e B w g
theorem FOwn.nil (e : TypeId) (B : Nat) (w : World) : FOwn e B w (.slice none 0 0) [] := ⟨World.ownsRow_nil _ _ _ _, by simp⟩
/-- What lies outside of the row's own block, and of maps, stays: so does what its things hold. -/
theorem GOk.kept {e : TypeId} {B : Nat} {w w' : World} {g : Gv} (h : GOk e B w g) (hk : ∀ b, b < w.heap.size → b < B ∨ (∃ cs T fr, w.heap[b]? = some (.cells cs T fr) ∧ T ≠ e) → w'.heap[b]? = w.heap[b]?) : GOk e B w' g := by
  have hblk : g.x.c ≠ [] → ∀ a, g.A = some a → w'.heap[a.block]? = w.heap[a.block]? := fun hne a ha => by
    obtain ⟨b, o, x, hA, _, _, hlt, _⟩ := h.s.get (k := 0) (by rcases Nat.eq_zero_or_pos g.x.c.length with h0 | h0; exact absurd (List.length_eq_zero_iff.1 h0) hne; exact h0)
    rw [ha] at hA
    cases hA
    rcases h.safe hne _ ha with h1 | h1
    · exact hk _ hlt (.inl h1)
    · exact hk _ hlt (.inr h1)
  refine ⟨h.wf, ⟨h.s.le, h.s.mx, h.s.wf, fun i x hx => ?_⟩, fun hne a ha => ?_⟩
  · obtain ⟨b, o, hA, hc⟩ := h.s.at_ i x hx
    exact ⟨b, o, hA, (World.cell?_of_block (w := w) (a := ⟨b, o + i, none⟩) (hblk (by intro h0; rw [h0] at hx; simp at hx) ⟨b, o, none⟩ hA)).trans hc⟩
  · rcases h.safe hne a ha with h1 | ⟨cs, T, fr, h1, h2⟩
    · exact .inl h1
    · exact .inr ⟨cs, T, fr, (hblk hne a ha).trans h1, h2⟩
theorem FOwn.later {e : TypeId} {B : Nat} {w w' : World} {v : Value} {gs : List Gv} (h : FOwn e B w v gs) (hb : Below w.heap.size w w') : FOwn e B w' v gs :=
  ⟨(Kept.of [] hb).row h.row (by simp), fun g hg => (h.each g hg).kept fun b hl _ => hb.block b hl⟩
/-- A map is written to. -/
theorem FOwn.map {e : TypeId} {B : Nat} {w w' : World} {v : Value} {gs : List Gv} {r : Nat} {es : Array MapEntry} {c : Nat} (h : FOwn e B w v gs) (hk : Kept [r] w w') (hm : w.heap[r]? = some (.map es c)) (hr : B ≤ r) : FOwn e B w' v gs :=
  ⟨hk.row h.row (fun g hg => by
      rcases h.row.2 with ⟨rfl, _⟩ | ⟨g', cap, cur, rfl, _, hh, _⟩
      · simp [Value.ownBlock] at hg
      · simp only [Value.ownBlock, Option.some.injEq] at hg
        subst hg
        intro hx
        rw [List.mem_singleton] at hx
        subst hx
        rw [hm] at hh
        cases hh),
    fun g hg => (h.each g hg).kept fun b hl hs => hk.block b hl (fun hx => by
      rw [List.mem_singleton] at hx
      subst hx
      rcases hs with hs | ⟨cs, T, fr, hs, _⟩
      · omega
      · rw [hm] at hs; cases hs)⟩
/-- One more, by what append tells. -/
theorem FOwn.push {e : TypeId} {B : Nat} {w w' : World} {v v' : Value} {gs : List Gv} {g : Gv} (h : FOwn e B w v gs) (hg : GOk e B w g) (hown : w'.ownsRow B e 5 v' (gs.length + 1) (gvC gs ++ fvL g.x g.A g.cap)) (hgr : w.grownBy w' v.ownBlock) : FOwn e B w' v' (gs ++ [g]) := by
  have hk : ∀ b, b < w.heap.size → b < B ∨ (∃ cs T fr, w.heap[b]? = some (.cells cs T fr) ∧ T ≠ e) → w'.heap[b]? = w.heap[b]? := fun b hl hs => hgr.block b hl (fun hb => by
    rcases hs with hs | ⟨cs, T, fr, hs, hT⟩
    · have := (h.row.lt b hb.symm).1; omega
    · exact own_ne h.row hs hT hb.symm)
  refine ⟨by rw [List.length_append, gvC_snoc]; exact hown, fun y hy => ?_⟩
  rcases List.mem_append.1 hy with hy | hy
  · exact (h.each y hy).kept hk
  · rw [List.mem_singleton] at hy
    subst hy
    exact hg.kept hk
theorem FOwn.frow {e : TypeId} {B : Nat} {w : World} {v : Value} {gs : List Gv} (h : FOwn e B w v gs) : ∃ A cap, v = .slice A gs.length cap ∧ FRow w A cap (gs.map (·.x)) := by
  obtain ⟨A, cap, hv, hle, hmx⟩ := own_len h.row
  refine ⟨A, cap, hv, ⟨by simpa using hle, hmx, fun i x hx => ?_⟩⟩
  obtain ⟨g, hg, rfl⟩ : ∃ g, gs[i]? = some g ∧ g.x = x := by
    rw [List.getElem?_map] at hx
    cases hgi : gs[i]? with
    | none => rw [hgi] at hx; cases hx
    | some g => rw [hgi] at hx; exact ⟨g, rfl, by simpa using hx⟩
  have hi := (List.getElem?_eq_some_iff.1 hg).1
  obtain ⟨b, cap', hv', hB, hl, _, _, _⟩ := own_form h.row (by omega)
  rw [hv] at hv'
  simp only [Value.slice.injEq] at hv'
  obtain ⟨rfl, _, rfl⟩ := hv'
  have ho := h.each g (List.mem_of_getElem? hg)
  exact ⟨b, 0, g.A, g.cap, rfl, ⟨fun j u hu => by rw [Nat.zero_add]; exact own_cell h.row (g := b) (by rw [hv]; rfl) (gvC_get gs i g hg j u hu), ho.wf, ho.s⟩⟩
end Go.Proofs.YtnhddnldebdmbaaGreatDoor
/- Places by numbers; rows merged: what the program and the document tell, as plain functions. -/
namespace Go.Proofs.YtnhddnldebdmbaaGreatDoor
set_option linter.unusedVariables false
set_option linter.unusedSimpArgs false

/-! ### Places in order -/
def kO (ks : List Int) (i : Nat) : Int := (ks[i]?).getD 0
theorem kO_some {ks : List Int} {i : Nat} {x : Int} (h : ks[i]? = some x) : kO ks i = x := by rw [kO, h]; rfl
/-- Place a stands ahead of place b. -/
def Ahead (ks : List Int) (a b : Nat) : Prop := kO ks a < kO ks b ∨ (kO ks a = kO ks b ∧ a < b)
instance (ks : List Int) (a b : Nat) : Decidable (Ahead ks a b) := by unfold Ahead; infer_instance
structure IsOrd (ks : List Int) (o : List Nat) : Prop where
  perm : o.Perm (List.range ks.length)
  srt : o.Pairwise (Ahead ks)
theorem IsOrd.len {ks : List Int} {o : List Nat} (h : IsOrd ks o) : o.length = ks.length := by rw [h.perm.length_eq, List.length_range]
theorem IsOrd.mem {ks : List Int} {o : List Nat} (h : IsOrd ks o) {i : Nat} : i ∈ o ↔ i < ks.length := by rw [h.perm.mem_iff]; simp
theorem IsOrd.lt {ks : List Int} {o : List Nat} (h : IsOrd ks o) {k i : Nat} (hk : o[k]? = some i) : i < ks.length := h.mem.1 (List.mem_of_getElem? hk)
theorem IsOrd.nodup {ks : List Int} {o : List Nat} (h : IsOrd ks o) : o.Nodup := h.perm.nodup_iff.2 List.nodup_range
theorem IsOrd.at2 {ks : List Int} {o : List Nat} (h : IsOrd ks o) {j k a b : Nat} (hjk : j < k) (ha : o[j]? = some a) (hb : o[k]? = some b) : Ahead ks a b := by
  obtain ⟨h1, rfl⟩ := List.getElem?_eq_some_iff.1 ha
  obtain ⟨h2, rfl⟩ := List.getElem?_eq_some_iff.1 hb
  exact List.pairwise_iff_getElem.1 h.srt j k h1 h2 hjk
theorem IsOrd.eq {ks : List Int} {o o' : List Nat} (h : IsOrd ks o) (h' : IsOrd ks o') : o = o' := by
  refine List.Perm.eq_of_pairwise (le := Ahead ks) (fun a b _ _ h1 h2 => ?_) h.srt h'.srt (h.perm.trans h'.perm.symm)
  unfold Ahead at h1 h2
  omega
def cntTo (f : Nat → Bool) (k : Nat) : Nat := (List.range k).countP f
theorem cntTo_zero (f : Nat → Bool) : cntTo f 0 = 0 := rfl
theorem cntTo_yes {f : Nat → Bool} {k : Nat} (h : f k = true) : cntTo f (k + 1) = cntTo f k + 1 := by
  rw [cntTo, List.range_succ, List.countP_append, List.countP_singleton, if_pos h]; rfl
theorem cntTo_no {f : Nat → Bool} {k : Nat} (h : f k = false) : cntTo f (k + 1) = cntTo f k := by
  rw [cntTo, List.range_succ, List.countP_append, List.countP_singleton, if_neg (by rw [h]; simp)]; rfl
theorem cntTo_le (f : Nat → Bool) (k : Nat) : cntTo f k ≤ k := by
  have := List.countP_le_length (p := f) (l := List.range k)
  rwa [List.length_range] at this
def aheadB (ks : List Int) (i : Nat) : Nat → Bool := fun k => decide (Ahead ks k i)
theorem countP_first (f : Nat → Bool) : ∀ (o : List Nat) (q : Nat), q ≤ o.length → (∀ k a, o[k]? = some a → (f a = true ↔ k < q)) → o.countP f = q
  | [], q, hq, _ => by simp at hq; subst hq; rfl
  | a :: r, q, hq, h => by
    have h0 := h 0 a rfl
    cases q with
    | zero =>
      have hf : f a = false := by
        cases hfa : f a with
        | false => rfl
        | true => exact absurd (h0.1 hfa) (by omega)
      rw [List.countP_cons_of_neg (by rw [hf]; simp)]
      exact countP_first f r 0 (Nat.zero_le _) fun k b hb => by
        have := h (k + 1) b (by simpa using hb)
        constructor
        · intro e; have := this.1 e; omega
        · intro e; omega
    | succ q =>
      rw [List.countP_cons_of_pos (h0.2 (by omega))]
      congr 1
      exact countP_first f r q (by simp at hq; omega) fun k b hb => by
        have := h (k + 1) b (by simpa using hb)
        constructor
        · intro e; have := this.1 e; omega
        · intro e; exact this.2 (by omega)
theorem IsOrd.rank {ks : List Int} {o : List Nat} (h : IsOrd ks o) {q i : Nat} (hq : o[q]? = some i) : cntTo (aheadB ks i) ks.length = q := by
  have hlt := (List.getElem?_eq_some_iff.1 hq).1
  rw [cntTo, ← h.perm.countP_eq]
  refine countP_first _ o q (by omega) fun k a ha => ?_
  simp only [aheadB, decide_eq_true_eq]
  rcases Nat.lt_trichotomy k q with hk | hk | hk
  · exact ⟨fun _ => hk, fun _ => h.at2 hk ha hq⟩
  · subst hk
    obtain rfl : a = i := Option.some.inj (ha.symm.trans hq)
    refine ⟨fun e => ?_, fun e => absurd e (by omega)⟩
    unfold Ahead at e
    omega
  · refine ⟨fun e => ?_, fun e => absurd e (by omega)⟩
    have := h.at2 hk hq ha
    unfold Ahead at e this
    omega
theorem IsOrd.at_ {ks : List Int} {o : List Nat} (h : IsOrd ks o) {i : Nat} (hi : i < ks.length) : o[cntTo (aheadB ks i) ks.length]? = some i := by
  have : i ∈ o := h.mem.2 hi
  obtain ⟨q, hq, e⟩ := List.getElem_of_mem this
  have e2 : o[q]? = some i := by rw [List.getElem?_eq_getElem hq, e]
  rw [h.rank e2, e2]
/-- There is one. -/
theorem ord_ex (ks : List Int) : ∃ o, IsOrd ks o := by
  have tr : ∀ a b c : Nat, decide (Ahead ks a b ∨ a = b) = true → decide (Ahead ks b c ∨ b = c) = true → decide (Ahead ks a c ∨ a = c) = true := by
    intro a b c h1 h2
    simp only [decide_eq_true_eq] at *
    rcases h1 with h1 | rfl
    · rcases h2 with h2 | rfl
      · left
        unfold Ahead at *
        omega
      · exact .inl h1
    · exact h2
  have tot : ∀ a b : Nat, (decide (Ahead ks a b ∨ a = b) || decide (Ahead ks b a ∨ b = a)) = true := by
    intro a b
    rw [Bool.or_eq_true, decide_eq_true_eq, decide_eq_true_eq]
    unfold Ahead
    rcases Int.lt_trichotomy (kO ks a) (kO ks b) with h | h | h
    · exact .inl (.inl (.inl h))
    · rcases Nat.lt_trichotomy a b with g | g | g
      · exact .inl (.inl (.inr ⟨h, g⟩))
      · exact .inl (.inr g)
      · exact .inr (.inl (.inr ⟨h.symm, g⟩))
    · exact .inr (.inl (.inl h))
  have hp := List.mergeSort_perm (List.range ks.length) (fun a b => decide (Ahead ks a b ∨ a = b))
  have hs := List.pairwise_mergeSort (le := fun a b => decide (Ahead ks a b ∨ a = b)) tr tot (List.range ks.length)
  refine ⟨_, hp, ?_⟩
  have hn : ((List.range ks.length).mergeSort (fun a b => decide (Ahead ks a b ∨ a = b))).Nodup := hp.nodup_iff.2 List.nodup_range
  have := hs.and hn
  exact this.imp fun {a b} ⟨h1, h2⟩ => by
    simp only [decide_eq_true_eq] at h1
    rcases h1 with h1 | h1
    · exact h1
    · exact absurd h1 h2

/-! ### One number, with its places -/
def plc (ks : List Int) (r : Int) : List Nat := (List.range ks.length).filter (fun i => kO ks i == r)
/-- Runs of an order: from place j on. -/
def runE (ks : List Int) (o : List Nat) (r : Int) : Nat := (o.takeWhile (fun i => kO ks i == r)).length
def grpN (ks : List Int) : Nat → List Nat → List (Int × List Nat)
  | 0, _ => []
  | _ + 1, [] => []
  | n + 1, i :: r => (kO ks i, (i :: r).take (runE ks (i :: r) (kO ks i))) :: grpN ks n ((i :: r).drop (runE ks (i :: r) (kO ks i)))
def grp (ks : List Int) (o : List Nat) : List (Int × List Nat) := grpN ks o.length o
theorem runE_pos (ks : List Int) (i : Nat) (r : List Nat) : 1 ≤ runE ks (i :: r) (kO ks i) := by
  rw [runE, List.takeWhile_cons_of_pos (by simp)]; simp
theorem runE_le (ks : List Int) (o : List Nat) (r : Int) : runE ks o r ≤ o.length := by
  rw [runE]; exact (List.takeWhile_prefix _).length_le
theorem grpN_more (ks : List Int) : ∀ (n m : Nat) (o : List Nat), o.length ≤ n → o.length ≤ m → grpN ks n o = grpN ks m o
  | 0, m, o, h1, _ => by
    have : o = [] := List.eq_nil_of_length_eq_zero (by omega)
    subst this
    cases m <;> rfl
  | n + 1, 0, o, _, h2 => by
    have : o = [] := List.eq_nil_of_length_eq_zero (by omega)
    subst this
    rfl
  | n + 1, m + 1, [], _, _ => rfl
  | n + 1, m + 1, i :: r, h1, h2 => by
    have h := runE_pos ks i r
    simp only [List.length_cons] at h1 h2
    rw [grpN, grpN, grpN_more ks n m _ (by rw [List.length_drop, List.length_cons]; omega) (by rw [List.length_drop, List.length_cons]; omega)]
theorem grp_nil (ks : List Int) : grp ks [] = [] := rfl
theorem grp_cons (ks : List Int) (i : Nat) (r : List Nat) : grp ks (i :: r) = (kO ks i, (i :: r).take (runE ks (i :: r) (kO ks i))) :: grp ks ((i :: r).drop (runE ks (i :: r) (kO ks i))) := by
  have h := runE_pos ks i r
  rw [grp, List.length_cons, grpN, grp, grpN_more ks r.length _ _ (by rw [List.length_drop, List.length_cons]; omega) (Nat.le_refl _)]
/-- The end of a run, told by the order alone. -/
theorem runE_eq {ks : List Int} {o : List Nat} {r : Int} {t : Nat} (ht : t ≤ o.length) (h1 : ∀ k i, k < t → o[k]? = some i → kO ks i = r) (h2 : ∀ i, o[t]? = some i → kO ks i ≠ r) : runE ks o r = t := by
  induction o generalizing t with
  | nil => simp at ht; subst ht; rfl
  | cons a l ih =>
    rw [runE]
    cases t with
    | zero =>
      have := h2 a rfl
      rw [List.takeWhile_cons_of_neg (by simpa using this)]; rfl
    | succ t =>
      have h0 := h1 0 a (by omega) rfl
      rw [List.takeWhile_cons_of_pos (by simpa using h0), List.length_cons]
      congr 1
      exact ih (by simpa using ht) (fun k i hk hi => h1 (k + 1) i (by omega) (by simpa using hi)) (fun i hi => h2 i (by simpa using hi))
end Go.Proofs.YtnhddnldebdmbaaGreatDoor
/- What the chapter asks, as plain functions: rests, sections, jobs of raw numbers, whether jobs are legal, the least raw numbers. -/
namespace Go.Proofs.YtnhddnldebdmbaaGreatDoor
open Go.RowKit
set_option linter.unusedVariables false
set_option linter.unusedSimpArgs false

/-! ### Rests -/
theorem tmod_bd (x n : Int) (hn : 0 < n) : -n < x.tmod n ∧ x.tmod n < n := by
  rcases Int.le_total 0 x with h | h
  · rw [Int.tmod_eq_emod_of_nonneg h]
    have := Int.emod_nonneg x (show n ≠ 0 by omega)
    have := Int.emod_lt_of_pos x hn
    omega
  · obtain ⟨m, rfl⟩ : ∃ m, x = -m := ⟨-x, by omega⟩
    rw [Int.neg_tmod, Int.tmod_eq_emod_of_nonneg (by omega)]
    have := Int.emod_nonneg m (show n ≠ 0 by omega)
    have := Int.emod_lt_of_pos m hn
    omega
theorem emod_tmod (x n : Int) (hn : 0 < n) : x % n = if x.tmod n < 0 then x.tmod n + n else x.tmod n := by
  have hb := tmod_bd x n hn
  have h2 : x.tmod n % n = x % n := by
    rcases Int.le_total 0 x with h | h
    · rw [Int.tmod_eq_emod_of_nonneg h, Int.emod_emod]
    · obtain ⟨m, rfl⟩ : ∃ m, x = -m := ⟨-x, by omega⟩
      rw [Int.neg_tmod, Int.tmod_eq_emod_of_nonneg (by omega)]
      conv => rhs; rw [← Int.mul_ediv_add_emod m n, Int.neg_add, ← Int.mul_neg, Int.mul_add_emod_self_left]
  rw [← h2]
  split
  · rw [← Int.add_emod_right, Int.emod_eq_of_lt (by omega) (by omega)]
  · exact Int.emod_eq_of_lt (by omega) (by omega)
theorem twice_tmod (x n : Int) (hn : 0 < n) : (x.tmod n + n).tmod n = x % n := by
  have hb := tmod_bd x n hn
  rw [Int.tmod_eq_emod_of_nonneg (by omega), Int.add_emod_right]
  rw [emod_tmod x n hn]
  split
  · rw [← Int.add_emod_right, Int.emod_eq_of_lt (by omega) (by omega)]
  · exact Int.emod_eq_of_lt (by omega) (by omega)
theorem emod_bd (x n : Int) (hn : 0 < n) : 0 ≤ x % n ∧ x % n < n := ⟨Int.emod_nonneg x (by omega), Int.emod_lt_of_pos x hn⟩
theorem restI_emod (x n : Int) (hn : 0 < n) (hn2 : n ≤ 100000) : restI x n = x % n := by
  have hb := tmod_bd x n hn
  rw [restI, IntWalk.wrap64_in _ (by omega), twice_tmod x n hn]

/-! ### Sets that may be -/
structure TsOk (x : Ts) : Prop where
  c0 : 1 ≤ x.c
  c1 : x.c ≤ 2147483647
  t0 : 1 ≤ x.t
  t1 : x.t ≤ 2147483647
  j0 : 0 ≤ x.j
  j1 : x.j ≤ 2147483647
  q0 : 1 ≤ x.q
  q1 : x.q ≤ 2147483647
structure Vs (ts : List Ts) : Prop where
  n0 : 1 ≤ ts.length
  n1 : ts.length ≤ 1024
  all : ∀ x ∈ ts, TsOk x
theorem tsOk_of {x : Ts} (h : checkE x = 0) : TsOk x := by
  have hr : rangedB x = true := by
    by_cases h1 : (namedB x && rangedB x) = true
    · simp only [Bool.and_eq_true] at h1; exact h1.2
    · rw [checkE, if_neg h1] at h; omega
  obtain ⟨⟨c1, c2⟩, ⟨t1, t2⟩, ⟨d1, d2⟩, ⟨q1, q2⟩, ⟨j1, j2⟩, -⟩ := rangedB_parts hr
  exact ⟨c1, c2, t1, t2, j1, j2, q1, q2⟩
theorem chkFrom_ok : ∀ (l pre : List Ts), (chkFrom pre l).2 = 0 → ∀ x ∈ l, checkE x = 0
  | [], _, _ => by simp
  | a :: r, pre, h => by
    rw [chkFrom] at h
    by_cases h1 : checkE a ≠ 0
    · rw [if_pos h1] at h; exact absurd h h1
    · rw [if_neg h1] at h
      split at h
      · cases h
      · intro x hx
        rcases List.mem_cons.1 hx with rfl | hx
        · omega
        · exact chkFrom_ok r _ h x hx
theorem vs_of {ts : List Ts} (h : (chkAll ts).2 = 0) : Vs ts := by
  rw [chkAll] at h
  split at h
  · cases h
  · exact ⟨by omega, by omega, fun x hx => tsOk_of (chkFrom_ok ts [] h x hx)⟩
/-- The task at a place. -/
def tk (ts : List Ts) (p : Int) : Ts := ts.getD p.toNat ⟨ByteArray.empty, 1, 1, 1, 0, 1, 1⟩
theorem tk_get {ts : List Ts} {k : Nat} {x : Ts} (h : ts[k]? = some x) : tk ts (k : Int) = x := by
  rw [tk, Int.toNat_natCast, List.getD_eq_getElem?_getD, h]; rfl
theorem Vs.tk {ts : List Ts} (h : Vs ts) (p : Int) : TsOk (tk ts p) := by
  unfold Go.Proofs.YtnhddnldebdmbaaGreatDoor.tk
  rw [List.getD_eq_getElem?_getD]
  cases hp : ts[p.toNat]? with
  | none => exact ⟨by decide, by decide, by decide, by decide, by decide, by decide, by decide, by decide⟩
  | some x => exact h.all x (List.mem_of_getElem? hp)

/-! ### Sections -/
def secs (q : Int) : Int → List Int → List Int
  | _, [] => []
  | left, c :: r => if left = 0 then [] else (1 + c % min q left) :: secs q (left - (1 + c % min q left)) r
/-- What is left behind some of them. -/
def leftS (left : Int) (l : List Int) : Int := left - l.sum
theorem min_bd (q left : Int) (hq : 1 ≤ q) (hl : 1 ≤ left) : 1 ≤ min q left ∧ min q left ≤ q ∧ min q left ≤ left := by omega
theorem secs_fit (q : Int) (hq : 1 ≤ q) : ∀ (l : List Int) (left : Int), 0 ≤ left → (∀ x ∈ secs q left l, 1 ≤ x ∧ x ≤ q) ∧ (secs q left l).sum ≤ left ∧ (secs q left l).length ≤ l.length
  | [], left, h => by simp [secs]; exact h
  | c :: r, left, h => by
    rw [secs]
    by_cases h0 : left = 0
    · rw [if_pos h0]; simp; exact h
    · rw [if_neg h0]
      have hb := min_bd q left hq (by omega)
      have he := emod_bd c (min q left) (by omega)
      obtain ⟨i1, i2, i3⟩ := secs_fit q hq r (left - (1 + c % min q left)) (by omega)
      refine ⟨fun x hx => ?_, ?_, ?_⟩
      · rcases List.mem_cons.1 hx with rfl | hx
        · omega
        · exact i1 x hx
      · rw [List.sum_cons]; omega
      · simp only [List.length_cons]; omega

/-! ### Jobs of raw numbers -/
def lastT (js : List Fv) (t : Int) : Option Fv := js.reverse.find? fun j => decide (j.t = t)
theorem lastT_nil (t : Int) : lastT [] t = none := rfl
theorem lastT_snoc (js : List Fv) (j : Fv) (t : Int) : lastT (js ++ [j]) t = if j.t = t then some j else lastT js t := by
  rw [lastT, List.reverse_append, List.reverse_singleton, List.singleton_append, List.find?_cons]
  by_cases h : j.t = t <;> simp [h, lastT]
theorem lastT_mem {js : List Fv} {t : Int} {j : Fv} (h : lastT js t = some j) : j ∈ js ∧ j.t = t := by
  have h1 := List.mem_of_find?_eq_some h
  have h2 := List.find?_some h
  exact ⟨by simpa using h1, by simpa using h2⟩
/-- From when on the next job of the task at that place may arrive. -/
def soonI (ts : List Ts) (js : List Fv) (p : Int) : Int := match lastT js p with | none => 0 | some j => j.a + (tk ts p).t
def decJ (ts : List Ts) (js : List Fv) (r : Fv) : Fv :=
  let p := r.t % (ts.length : Int)
  let x := tk ts p
  let a := soonI ts js p + r.a % 1048576
  let k := 1 + r.k % x.c
  ⟨p, a, a + r.r % (x.j + 1), k, secs x.q k r.c⟩
def decF (ts : List Ts) (js : List Fv) : List Fv → List Fv
  | [] => js
  | r :: rs => decF ts (js ++ [decJ ts js r]) rs
/-- All jobs of raw numbers. -/
def decS (ts : List Ts) (rs : List Fv) : List Fv := decF ts [] (rs.take 4096)
theorem decF_len (ts : List Ts) : ∀ (rs js : List Fv), (decF ts js rs).length = js.length + rs.length
  | [], js => by simp [decF]
  | r :: rs, js => by rw [decF, decF_len ts rs]; simp; omega
theorem decF_snoc (ts : List Ts) : ∀ (rs js : List Fv) (r : Fv), decF ts js (rs ++ [r]) = decF ts js rs ++ [decJ ts (decF ts js rs) r]
  | [], js, r => by simp [decF]
  | a :: rs, js, r => by rw [List.cons_append, decF, decF, decF_snoc ts rs]
theorem decF_app (ts : List Ts) : ∀ (rs js qs : List Fv), decF ts js (rs ++ qs) = decF ts (decF ts js rs) qs
  | [], js, qs => rfl
  | a :: rs, js, qs => by rw [List.cons_append, decF, decF, decF_app ts rs]

/-- How great arrivals are. -/
def Bd (js : List Fv) : Prop := ∀ j ∈ js, 0 ≤ j.a ∧ j.a ≤ js.length * 4294967296
theorem Bd.nil : Bd [] := by intro j h; simp at h
theorem soon_bd {ts : List Ts} (hv : Vs ts) {js : List Fv} (h : Bd js) (p : Int) : 0 ≤ soonI ts js p ∧ soonI ts js p ≤ js.length * 4294967296 + 2147483647 := by
  have hx := hv.tk p
  obtain ⟨c0, c1, t0, t1, j0, j1, q0, q1⟩ := hx
  unfold soonI
  cases hl : lastT js p with
  | none => simp only; omega
  | some j =>
    have := h j (lastT_mem hl).1
    simp only
    omega
theorem dec_bd {ts : List Ts} (hv : Vs ts) {js : List Fv} (h : Bd js) (r : Fv) : soonI ts js (r.t % (ts.length : Int)) ≤ (decJ ts js r).a ∧ (decJ ts js r).a ≤ (js.length + 1) * 4294967296 - 2000000000 := by
  have := soon_bd hv h (r.t % (ts.length : Int))
  have := emod_bd r.a 1048576 (by omega)
  simp only [decJ]
  omega
theorem Bd.snoc {ts : List Ts} (hv : Vs ts) {js : List Fv} (h : Bd js) (r : Fv) : Bd (js ++ [decJ ts js r]) := by
  have h1 := dec_bd hv h r
  have h2 := soon_bd hv h (r.t % (ts.length : Int))
  intro j hj
  rw [List.length_append, List.length_singleton]
  rcases List.mem_append.1 hj with hj | hj
  · have := h j hj
    omega
  · rw [List.mem_singleton] at hj
    subst hj
    omega
theorem decF_bd {ts : List Ts} (hv : Vs ts) : ∀ (rs js : List Fv), Bd js → Bd (decF ts js rs)
  | [], js, h => h
  | r :: rs, js, h => decF_bd hv rs _ (h.snoc hv r)
/-- What one job is. -/
theorem dec_parts {ts : List Ts} (hv : Vs ts) (js : List Fv) (r : Fv) : 0 ≤ (decJ ts js r).t ∧ (decJ ts js r).t < ts.length ∧ (decJ ts js r).a ≤ (decJ ts js r).r ∧ (decJ ts js r).r ≤ (decJ ts js r).a + (tk ts (decJ ts js r).t).j ∧ 1 ≤ (decJ ts js r).k ∧ (decJ ts js r).k ≤ (tk ts (decJ ts js r).t).c := by
  have hn := hv.n0
  have h1 := emod_bd r.t (ts.length : Int) (by omega)
  have hx := hv.tk (r.t % (ts.length : Int))
  have h2 := emod_bd r.r ((tk ts (r.t % (ts.length : Int))).j + 1) (by have := hx.j0; omega)
  have h3 := emod_bd r.k ((tk ts (r.t % (ts.length : Int))).c) (by have := hx.c0; omega)
  simp only [decJ]
  omega

/-! ### Legal -/
def fitB (q : Int) : Int → List Int → Bool
  | _, [] => true
  | left, c :: r => decide (1 ≤ c ∧ c ≤ min q left) && fitB q (left - c) r
def legJ (ts : List Ts) (js : List Fv) (j : Fv) : Bool :=
  inB j.t 0 (ts.length - 1) && (inB j.a (soonI ts js j.t) 17592186044416 && (inB j.r j.a (j.a + (tk ts j.t).j) && (inB j.k 1 (tk ts j.t).c && fitB (tk ts j.t).q j.k j.c)))
def legF (ts : List Ts) (js : List Fv) : List Fv → Bool
  | [] => true
  | j :: r => legJ ts js j && legF ts (js ++ [j]) r
def legS (ts : List Ts) (js : List Fv) : Bool := decide ((chkAll ts).2 = 0 ∧ js.length ≤ 4096) && legF ts [] js
theorem secs_fitB (q : Int) (hq : 1 ≤ q) : ∀ (l : List Int) (left : Int), 0 ≤ left → fitB q left (secs q left l) = true
  | [], left, _ => rfl
  | c :: r, left, h => by
    rw [secs]
    by_cases h0 : left = 0
    · rw [if_pos h0]; rfl
    · rw [if_neg h0]
      have hb := min_bd q left hq (by omega)
      have he := emod_bd c (min q left) (by omega)
      rw [fitB, secs_fitB q hq r _ (by omega), decide_eq_true (by omega)]
      rfl
theorem dec_legal {ts : List Ts} (hv : Vs ts) {js : List Fv} (h : Bd js) (hl : js.length < 4096) (r : Fv) : legJ ts js (decJ ts js r) = true := by
  obtain ⟨p1, p2, p3, p4, p5, p6⟩ := dec_parts hv js r
  obtain ⟨a1, a2⟩ := dec_bd hv h r
  have hx := hv.tk (decJ ts js r).t
  have e : (decJ ts js r).t = r.t % (ts.length : Int) := rfl
  have ec : (decJ ts js r).c = secs (tk ts (decJ ts js r).t).q (decJ ts js r).k r.c := rfl
  rw [legJ, inB_yes ⟨p1, by omega⟩, inB_yes ⟨by rw [e]; exact a1, by omega⟩, inB_yes ⟨p3, p4⟩, inB_yes ⟨p5, p6⟩, ec, secs_fitB _ hx.q0 _ _ (by omega)]
  rfl
theorem legF_app (ts : List Ts) : ∀ (a b js : List Fv), legF ts js (a ++ b) = (legF ts js a && legF ts (js ++ a) b)
  | [], b, js => by simp [legF]
  | x :: a, b, js => by
    rw [List.cons_append, legF, legF, legF_app ts a b, Bool.and_assoc]
    simp
theorem snoc_ind {α : Type} {P : List α → Prop} (h0 : P []) (hs : ∀ l x, P l → P (l ++ [x])) (l : List α) : P l := by
  have h : ∀ l : List α, P l.reverse := by
    intro l
    induction l with
    | nil => exact h0
    | cons a r ih => rw [List.reverse_cons]; exact hs _ _ ih
  have := h l.reverse
  rwa [List.reverse_reverse] at this
theorem decF_legal {ts : List Ts} (hv : Vs ts) : ∀ (rs : List Fv), rs.length ≤ 4096 → legF ts [] (decF ts [] rs) = true := by
  refine snoc_ind (fun _ => rfl) fun rs r ih hl => ?_
  · rw [List.length_append, List.length_singleton] at hl
    rw [decF_snoc, legF_app, ih (by omega), legF, List.nil_append, dec_legal hv (decF_bd hv rs [] Bd.nil) (by rw [decF_len]; simp; omega)]
    rfl
theorem decS_legal {ts : List Ts} (hv : (chkAll ts).2 = 0) (rs : List Fv) : legS ts (decS ts rs) = true := by
  have hl : (rs.take 4096).length ≤ 4096 := by rw [List.length_take]; omega
  rw [legS, decS, decF_legal (vs_of hv) _ hl, decide_eq_true ⟨hv, by rw [decF_len]; simp; omega⟩]
  rfl

/-! ### Encode -/
def encJ (g : Int) (j : Fv) : Fv := ⟨j.t, g, j.r - j.a, j.k - 1, j.c.map (· - 1)⟩
def encF (ts : List Ts) (js : List Fv) : List Fv → Option (List Fv)
  | [] => some []
  | j :: r => if j.a - soonI ts js j.t ≥ 1048576 then none else (encF ts (js ++ [j]) r).map (encJ (j.a - soonI ts js j.t) j :: ·)
def encS (ts : List Ts) (js : List Fv) : Option (List Fv) := if legS ts js then encF ts [] js else none
theorem legJ_parts {ts : List Ts} {js : List Fv} {j : Fv} (h : legJ ts js j = true) : (0 ≤ j.t ∧ j.t ≤ ts.length - 1) ∧ (soonI ts js j.t ≤ j.a ∧ j.a ≤ 17592186044416) ∧ (j.a ≤ j.r ∧ j.r ≤ j.a + (tk ts j.t).j) ∧ (1 ≤ j.k ∧ j.k ≤ (tk ts j.t).c) ∧ fitB (tk ts j.t).q j.k j.c = true := by
  simp only [legJ, Bool.and_eq_true, inB_iff] at h
  exact h
theorem secs_back (q : Int) (hq : 1 ≤ q) : ∀ (l : List Int) (left : Int), 0 ≤ left → fitB q left l = true → secs q left (l.map (· - 1)) = l
  | [], left, _, _ => rfl
  | c :: r, left, h0, h => by
    simp only [fitB, Bool.and_eq_true, decide_eq_true_eq] at h
    obtain ⟨⟨h1, h2⟩, h3⟩ := h
    rw [List.map_cons, secs, if_neg (by omega)]
    have e : 1 + (c - 1) % min q left = c := by rw [Int.emod_eq_of_lt (by omega) (by omega)]; omega
    rw [e, secs_back q hq r (left - c) (by omega) h3]
theorem dec_enc {ts : List Ts} (hv : Vs ts) {js : List Fv} {j : Fv} (h : legJ ts js j = true) (hg : j.a - soonI ts js j.t < 1048576) : decJ ts js (encJ (j.a - soonI ts js j.t) j) = j := by
  obtain ⟨⟨t0, t1⟩, ⟨a0, a1⟩, ⟨r0, r1⟩, ⟨k0, k1⟩, hf⟩ := legJ_parts h
  have hx := hv.tk j.t
  have e1 : j.t % (ts.length : Int) = j.t := Int.emod_eq_of_lt t0 (by omega)
  have e2 : (j.a - soonI ts js j.t) % 1048576 = j.a - soonI ts js j.t := Int.emod_eq_of_lt (by omega) (by omega)
  have e3 : (j.r - j.a) % ((tk ts j.t).j + 1) = j.r - j.a := Int.emod_eq_of_lt (by omega) (by omega)
  have e4 : (j.k - 1) % (tk ts j.t).c = j.k - 1 := Int.emod_eq_of_lt (by omega) (by omega)
  have e5 : 1 + (j.k - 1) = j.k := by omega
  have e6 : soonI ts js j.t + (j.a - soonI ts js j.t) = j.a := by omega
  have e7 : j.a + (j.r - j.a) = j.r := by omega
  simp only [decJ, encJ, e1, e2, e3, e4, e5, e6, e7, secs_back _ hx.q0 _ _ (by omega) hf]
theorem encF_len (ts : List Ts) : ∀ (l js : List Fv) (rs : List Fv), encF ts js l = some rs → rs.length = l.length
  | [], js, rs, h => by simp [encF] at h; simp [h]
  | j :: r, js, rs, h => by
    rw [encF] at h
    split at h
    · cases h
    · obtain ⟨qs, hq, rfl⟩ := Option.map_eq_some_iff.1 h
      simp [encF_len ts r _ qs hq]
theorem decF_enc {ts : List Ts} (hv : Vs ts) : ∀ (l js : List Fv) (rs : List Fv), legF ts js l = true → encF ts js l = some rs → decF ts js rs = js ++ l
  | [], js, rs, _, h => by simp [encF] at h; subst h; simp [decF]
  | j :: r, js, rs, hl, h => by
    rw [legF, Bool.and_eq_true] at hl
    rw [encF] at h
    split at h
    · cases h
    · obtain ⟨qs, hq, rfl⟩ := Option.map_eq_some_iff.1 h
      rw [decF, dec_enc hv hl.1 (by omega), decF_enc hv r _ qs hl.2 hq]
      simp
theorem decS_enc {ts : List Ts} {js rs : List Fv} (h : encS ts js = some rs) : decS ts rs = js := by
  rw [encS] at h
  split at h
  · rename_i hl
    rw [legS, Bool.and_eq_true, decide_eq_true_eq] at hl
    have hlen := encF_len ts js [] rs h
    rw [decS, List.take_of_length_le (by omega), decF_enc (vs_of hl.1.1) js [] rs hl.2 h]
    rfl
  · cases h
end Go.Proofs.YtnhddnldebdmbaaGreatDoor
/- The executive tick by tick: what the document tells, as plain functions. -/
namespace Go.Proofs.YtnhddnldebdmbaaGreatDoor
set_option linter.unusedVariables false
set_option linter.unusedSimpArgs false

/-! ### Sections -/
/-- Is a job, that has worked d, within a section? -/
def wthS : List Int → Int → Bool
  | [], _ => false
  | a :: cs, d => (decide (0 < d) && decide (d < a)) || wthS cs (d - a)
/-- The sections that are ahead. -/
def cl : List Int → Int → List Int
  | [], _ => []
  | a :: cs, d => if a ≤ d then cl cs (d - a) else a :: cs
def Pos1 (c : List Int) : Prop := ∀ x ∈ c, 1 ≤ x
theorem Pos1.tail {a : Int} {c : List Int} (h : Pos1 (a :: c)) : Pos1 c := fun x hx => h x (List.mem_cons_of_mem _ hx)
theorem Pos1.head {a : Int} {c : List Int} (h : Pos1 (a :: c)) : 1 ≤ a := h a (by simp)
theorem Pos1.sum : ∀ {c : List Int}, Pos1 c → 0 ≤ c.sum
  | [], _ => by simp
  | a :: c, h => by have := h.head; have := Pos1.sum h.tail; rw [List.sum_cons]; omega
theorem wthS_neg : ∀ (c : List Int) (d : Int), Pos1 c → d ≤ 0 → wthS c d = false
  | [], _, _, _ => rfl
  | a :: c, d, h, hd => by
    have := h.head
    rw [wthS, wthS_neg c (d - a) h.tail (by omega), decide_eq_false (by omega)]; rfl
theorem wthS_sum : ∀ (c : List Int) (d : Int), Pos1 c → c.sum ≤ d → wthS c d = false
  | [], _, _, _ => rfl
  | a :: c, d, h, hd => by
    rw [List.sum_cons] at hd
    have := h.tail.sum
    rw [wthS, wthS_sum c (d - a) h.tail (by omega), decide_eq_false (show ¬ d < a by omega)]; simp
theorem wthS_lt {c : List Int} {d : Int} (h : Pos1 c) (hw : wthS c d = true) : 0 < d ∧ d < c.sum := by
  refine ⟨?_, ?_⟩
  · rcases Int.lt_or_le 0 d with h1 | h1
    · exact h1
    · rw [wthS_neg c d h h1] at hw; cases hw
  · rcases Int.lt_or_le d c.sum with h1 | h1
    · exact h1
    · rw [wthS_sum c d h h1] at hw; cases hw
theorem cl_zero : ∀ (c : List Int), Pos1 c → cl c 0 = c
  | [], _ => rfl
  | a :: c, h => by have := h.head; rw [cl, if_neg (by omega)]
theorem cl_step : ∀ (c : List Int) (d a : Int) (r : List Int), Pos1 c → 0 ≤ d → wthS c d = false → cl c d = a :: r →
    1 ≤ a ∧ d + a ≤ c.sum ∧ (∀ u, 0 < u → u < a → wthS c (d + u) = true) ∧ wthS c (d + a) = false ∧ cl c (d + a) = r
  | [], d, a, r, _, _, _, h => by simp [cl] at h
  | b :: c, d, a, r, hp, hd, hw, h => by
    have hb := hp.head
    rw [wthS, Bool.or_eq_false_iff] at hw
    rw [List.sum_cons]
    rw [cl] at h
    by_cases hbd : b ≤ d
    · rw [if_pos hbd] at h
      obtain ⟨h1, h1', h2, h3, h4⟩ := cl_step c (d - b) a r hp.tail (by omega) hw.2 h
      refine ⟨h1, by omega, fun u hu hua => ?_, ?_, ?_⟩
      · rw [wthS, show d + u - b = d - b + u by omega, h2 u hu hua, Bool.or_true]
      · rw [wthS, show d + a - b = d - b + a by omega, h3, decide_eq_false (show ¬ d + a < b by omega)]; simp
      · rw [cl, if_pos (by omega), show d + a - b = d - b + a by omega, h4]
    · rw [if_neg hbd] at h
      injection h with e1 e2
      subst e1; subst e2
      have hd0 : d = 0 := by
        rcases Int.lt_or_le 0 d with h1 | h1
        · have := hw.1
          rw [decide_eq_true h1, decide_eq_true (show d < b by omega)] at this
          cases this
        · omega
      subst hd0
      have := hp.tail.sum
      refine ⟨hb, by omega, fun u hu hua => ?_, ?_, ?_⟩
      · rw [wthS, Int.zero_add, decide_eq_true hu, decide_eq_true hua]; rfl
      · rw [wthS, Int.zero_add, Int.sub_self, wthS_neg c 0 hp.tail (Int.le_refl _), decide_eq_false (show ¬ b < b by omega)]; simp
      · rw [cl, if_pos (by omega), Int.zero_add, Int.sub_self, cl_zero c hp.tail]
theorem cl_none : ∀ (c : List Int) (d : Int), cl c d = [] → ∀ u, 0 ≤ u → wthS c (d + u) = false ∧ cl c (d + u) = []
  | [], d, _, u, _ => ⟨rfl, rfl⟩
  | b :: c, d, h, u, hu => by
    rw [cl] at h
    by_cases hbd : b ≤ d
    · rw [if_pos hbd] at h
      obtain ⟨h1, h2⟩ := cl_none c (d - b) h u hu
      refine ⟨?_, ?_⟩
      · rw [wthS, show d + u - b = d - b + u by omega, h1, decide_eq_false (show ¬ d + u < b by omega)]; simp
      · rw [cl, if_pos (by omega), show d + u - b = d - b + u by omega, h2]
    · rw [if_neg hbd] at h; cases h

/-! ### Who runs -/
def jb (js : List Fv) (i : Nat) : Fv := (js[i]?).getD ⟨0, 0, 0, 1, []⟩
theorem jb_get {js : List Fv} {i : Nat} {x : Fv} (h : js[i]? = some x) : jb js i = x := by rw [jb, h]; rfl
def prO (ts : List Ts) (js : List Fv) (i : Nat) : Int := (tk ts (jb js i).t).p
def rdy (js : List Fv) (dn : List Int) (t : Int) (i : Nat) : Bool := decide ((jb js i).r ≤ t) && decide (kO dn i < (jb js i).k)
theorem rdy_iff {js : List Fv} {dn : List Int} {t : Int} {i : Nat} : rdy js dn t i = true ↔ (jb js i).r ≤ t ∧ kO dn i < (jb js i).k := by simp [rdy]
def pk1 (ts : List Ts) (js : List Fv) (dn : List Int) (t : Int) (best : Option Nat) (i : Nat) : Option Nat :=
  if rdy js dn t i && (match best with | none => true | some b => decide (prO ts js i < prO ts js b)) then some i else best
def pkN (ts : List Ts) (js : List Fv) (dn : List Int) (t : Int) (n : Nat) : Option Nat := (List.range n).foldl (pk1 ts js dn t) none
section
variable {ts : List Ts} {js : List Fv} {dn : List Int} {t : Int}
theorem pkN_succ (n : Nat) : pkN ts js dn t (n + 1) = pk1 ts js dn t (pkN ts js dn t n) n := by simp [pkN, List.range_succ]
def Best (ts : List Ts) (js : List Fv) (dn : List Int) (t : Int) (n b : Nat) : Prop := b < n ∧ rdy js dn t b = true ∧ ∀ i, i < n → rdy js dn t i = true → prO ts js b < prO ts js i ∨ (prO ts js b = prO ts js i ∧ b ≤ i)
theorem pkN_spec : ∀ n, (pkN ts js dn t n = none → ∀ i, i < n → rdy js dn t i = false) ∧ (∀ b, pkN ts js dn t n = some b → Best ts js dn t n b)
  | 0 => ⟨fun _ i hi => by omega, fun b hb => by simp [pkN] at hb⟩
  | n + 1 => by
    obtain ⟨h1, h2⟩ := pkN_spec n
    rw [pkN_succ]
    unfold pk1
    by_cases hr : rdy js dn t n = true
    · cases hp : pkN ts js dn t n with
      | none =>
        simp only [hr, Bool.and_self, if_true]
        refine ⟨fun h => (by cases h), fun b hb => ?_⟩
        injection hb with hb
        subst hb
        refine ⟨by omega, hr, fun i hi hir => ?_⟩
        rcases Nat.lt_or_ge i n with h | h
        · rw [h1 hp i h] at hir; cases hir
        · obtain rfl : i = n := by omega
          exact .inr ⟨rfl, Nat.le_refl _⟩
      | some c =>
        obtain ⟨c1, c2, c3⟩ := h2 c hp
        simp only [hr, Bool.true_and, decide_eq_true_eq]
        refine ⟨fun h => (by split at h <;> cases h), fun b hb => ?_⟩
        split at hb
        · rename_i hlt
          injection hb with hb
          subst hb
          refine ⟨by omega, hr, fun i hi hir => ?_⟩
          rcases Nat.lt_or_ge i n with h | h
          · rcases c3 i h hir with h | h <;> (left; omega)
          · obtain rfl : i = n := by omega
            exact .inr ⟨rfl, Nat.le_refl _⟩
        · rename_i hlt
          injection hb with hb
          subst hb
          refine ⟨by omega, c2, fun i hi hir => ?_⟩
          rcases Nat.lt_or_ge i n with h | h
          · exact c3 i h hir
          · obtain rfl : i = n := by omega
            omega
    · simp only [Bool.not_eq_true] at hr
      simp only [hr, Bool.false_and, Bool.false_eq_true, if_false]
      refine ⟨fun h i hi => ?_, fun b hb => ?_⟩
      · rcases Nat.lt_or_ge i n with hl | hl
        · exact h1 h i hl
        · obtain rfl : i = n := by omega
          exact hr
      · obtain ⟨c1, c2, c3⟩ := h2 b hb
        refine ⟨by omega, c2, fun i hi hir => ?_⟩
        rcases Nat.lt_or_ge i n with h | h
        · exact c3 i h hir
        · obtain rfl : i = n := by omega
          rw [hr] at hir; cases hir
theorem pkN_best {n b : Nat} (h : Best ts js dn t n b) : pkN ts js dn t n = some b := by
  obtain ⟨h1, h2⟩ := pkN_spec (ts := ts) (js := js) (dn := dn) (t := t) n
  cases hp : pkN ts js dn t n with
  | none => have := h1 hp b h.1; rw [h.2.1] at this; cases this
  | some c =>
    have hc := h2 c hp
    have a1 := hc.2.2 b h.1 h.2.1
    have a2 := h.2.2 c hc.1 hc.2.1
    congr 1
    omega
theorem pkN_no {n : Nat} (h : ∀ i, i < n → rdy js dn t i = false) : pkN ts js dn t n = none := by
  cases hp : pkN ts js dn t n with
  | none => rfl
  | some c =>
    have h2 := ((pkN_spec n).2 c hp)
    have h3 := h c h2.1
    rw [h2.2.1] at h3; cases h3
end

/-! ### Tick by tick -/
structure Spn where
  j : Nat
  f : Int
  t : Int
deriving DecidableEq
def addN (sp : List Spn) (i : Nat) (t m : Int) : List Spn :=
  match sp.getLast? with
  | some x => if x.j = i ∧ x.t = t then sp.dropLast ++ [⟨i, x.f, t + m⟩] else sp ++ [⟨i, t, t + m⟩]
  | none => sp ++ [⟨i, t, t + m⟩]
structure TSt where
  dn : List Int
  ru : Option Nat
  sp : List Spn
  en : List Int
def whoS (ts : List Ts) (js : List Fv) (s : TSt) (t : Int) : Option Nat :=
  match s.ru with
  | some i => if wthS (jb js i).c (kO s.dn i) then some i else pkN ts js s.dn t js.length
  | none => pkN ts js s.dn t js.length
def runM (js : List Fv) (s : TSt) (t : Int) (i : Nat) (m : Int) : TSt :=
  { dn := s.dn.set i (kO s.dn i + m), ru := some i, sp := addN s.sp i t m, en := if kO s.dn i + m = (jb js i).k then s.en.set i (t + m) else s.en }
def tstep (ts : List Ts) (js : List Fv) (s : TSt) (t : Int) : TSt :=
  match whoS ts js s t with
  | none => { s with ru := none }
  | some i => runM js s t i 1
def tst (ts : List Ts) (js : List Fv) : Nat → TSt
  | 0 => ⟨List.replicate js.length 0, none, [], List.replicate js.length (-1)⟩
  | n + 1 => tstep ts js (tst ts js n) n
/-- Who runs at tick n. -/
def who (ts : List Ts) (js : List Fv) (n : Nat) : Option Nat := whoS ts js (tst ts js n) n
abbrev dnA (ts : List Ts) (js : List Fv) (n i : Nat) : Int := kO (tst ts js n).dn i
theorem kO_set {l : List Int} {i : Nat} (j : Nat) (v : Int) (hi : i < l.length) : kO (l.set i v) j = if j = i then v else kO l j := by
  unfold kO
  by_cases h : j = i
  · subst h; rw [if_pos rfl, List.getElem?_set_self hi]; rfl
  · rw [if_neg h, List.getElem?_set_ne (Ne.symm h)]
/-- What jobs must be like. -/
structure Lg (js : List Fv) : Prop where
  r0 : ∀ i, i < js.length → 0 ≤ (jb js i).r
  k1 : ∀ i, i < js.length → 1 ≤ (jb js i).k
  pos : ∀ i, Pos1 (jb js i).c
  fit : ∀ i, i < js.length → (jb js i).c.sum ≤ (jb js i).k
/-- What holds of the state at tick n. -/
structure TI (js : List Fv) (n : Int) (s : TSt) : Prop where
  ld : s.dn.length = js.length
  le : s.en.length = js.length
  d0 : ∀ i, i < js.length → 0 ≤ kO s.dn i ∧ kO s.dn i ≤ (jb js i).k
  dr : ∀ i, i < js.length → 0 < kO s.dn i → (jb js i).r < n
  ru : ∀ i, s.ru = some i → i < js.length ∧ 0 < kO s.dn i
  sp : ∀ x, s.sp.getLast? = some x → x.j < js.length ∧ x.t ≤ n ∧ 0 < kO s.dn x.j ∧ (x.t < n → kO s.dn x.j = (jb js x.j).k)
  en : ∀ i, i < js.length → (kO s.dn i < (jb js i).k ∧ kO s.en i = -1) ∨ (kO s.dn i = (jb js i).k ∧ 0 < kO s.en i ∧ kO s.en i ≤ n)
section
variable {ts : List Ts} {js : List Fv}
theorem TI.who_some {n : Int} {s : TSt} {i : Nat} (hl : Lg js) (h : TI js n s) (hw : whoS ts js s n = some i) : i < js.length ∧ (jb js i).r ≤ n ∧ kO s.dn i < (jb js i).k := by
  have key : ∀ {i}, pkN ts js s.dn n js.length = some i → i < js.length ∧ (jb js i).r ≤ n ∧ kO s.dn i < (jb js i).k := by
    intro i hp
    obtain ⟨h1, h2, _⟩ := (pkN_spec _).2 i hp
    rw [rdy_iff] at h2
    exact ⟨h1, h2⟩
  unfold whoS at hw
  cases hr : s.ru with
  | none => rw [hr] at hw; exact key hw
  | some c =>
    rw [hr] at hw
    simp only at hw
    split at hw
    · rename_i hwt
      injection hw with hw
      subst hw
      obtain ⟨h1, h2⟩ := h.ru _ hr
      have := (wthS_lt (hl.pos c) hwt).2
      have := hl.fit c h1
      have := h.dr c h1 h2
      exact ⟨h1, by omega, by omega⟩
    · exact key hw
theorem TI.who_none {n : Int} {s : TSt} (hl : Lg js) (h : TI js n s) (hw : whoS ts js s n = none) : ∀ i, i < js.length → rdy js s.dn n i = false := by
  unfold whoS at hw
  cases hr : s.ru with
  | none => rw [hr] at hw; exact (pkN_spec _).1 hw
  | some c =>
    rw [hr] at hw
    simp only at hw
    split at hw
    · cases hw
    · exact (pkN_spec _).1 hw
theorem addN_last (sp : List Spn) (i : Nat) (t m : Int) : ∃ f, (addN sp i t m).getLast? = some ⟨i, f, t + m⟩ := by
  unfold addN
  cases sp.getLast? with
  | none => exact ⟨t, by simp⟩
  | some x =>
    simp only
    split
    · exact ⟨x.f, by simp⟩
    · exact ⟨t, by simp⟩
theorem TI.run {n : Int} {s : TSt} {i : Nat} {m : Int} (hn : 0 ≤ n) (h : TI js n s) (hi : i < js.length) (hr : (jb js i).r ≤ n) (hm : 1 ≤ m) (hk : kO s.dn i + m ≤ (jb js i).k) : TI js (n + m) (runM js s n i m) := by
  have hid : i < s.dn.length := by rw [h.ld]; exact hi
  have hie : i < s.en.length := by rw [h.le]; exact hi
  have hd0 := h.d0 i hi
  refine ⟨by simp [runM, h.ld], by unfold runM; simp only; split <;> simp [h.le], fun j hj => ?_, fun j hj hp => ?_, fun j hj => ?_, fun x hx => ?_, fun j hj => ?_⟩
  · simp only [runM]
    rw [kO_set _ _ hid]
    split
    · subst j; omega
    · exact h.d0 j hj
  · simp only [runM] at hp
    rw [kO_set _ _ hid] at hp
    split at hp
    · subst j; omega
    · have := h.dr j hj hp; omega
  · simp only [runM, Option.some.injEq] at hj ⊢
    subst hj
    rw [kO_set _ _ hid, if_pos rfl]
    exact ⟨hi, by omega⟩
  · simp only [runM] at hx ⊢
    obtain ⟨f, hf⟩ := addN_last s.sp i n m
    rw [hf] at hx
    injection hx with hx
    subst hx
    simp only
    rw [kO_set _ _ hid, if_pos rfl]
    exact ⟨hi, Int.le_refl _, by omega, fun h => by omega⟩
  · simp only [runM]
    rw [kO_set _ _ hid]
    by_cases he : j = i
    · subst he
      rw [if_pos rfl]
      split
      · rename_i hd
        rw [kO_set _ _ hie, if_pos rfl]
        exact .inr ⟨hd, by omega, Int.le_refl _⟩
      · rename_i hd
        rcases h.en j hj with h1 | h1
        · exact .inl ⟨by omega, h1.2⟩
        · omega
    · rw [if_neg he]
      have hen : kO (if kO s.dn i + m = (jb js i).k then s.en.set i (n + m) else s.en) j = kO s.en j := by
        split
        · rw [kO_set _ _ hie, if_neg he]
        · rfl
      rw [hen]
      rcases h.en j hj with h1 | h1
      · exact .inl h1
      · exact .inr ⟨h1.1, h1.2.1, by omega⟩
theorem TI.idle {n m : Int} {s : TSt} (h : TI js n s) (hm : 0 ≤ m) (hr : ∀ i, i < js.length → (jb js i).r ≤ n → kO s.dn i = (jb js i).k) : TI js (n + m) { s with ru := none } := by
  refine ⟨h.ld, h.le, h.d0, fun j hj hp => ?_, fun j hj => (by cases hj), fun x hx => ?_, fun j hj => ?_⟩
  · have := h.dr j hj hp; omega
  · obtain ⟨h1, h2, h3, h4⟩ := h.sp x hx
    refine ⟨h1, by omega, h3, fun _ => hr _ h1 ?_⟩
    have := h.dr _ h1 h3; omega
  · rcases h.en j hj with h1 | h1
    · exact .inl h1
    · exact .inr ⟨h1.1, h1.2.1, by have := h1.2.2; show kO s.en j ≤ n + m; omega⟩
theorem not_rdy {dn : List Int} {t : Int} {i : Nat} (h0 : kO dn i ≤ (jb js i).k) (h : rdy js dn t i = false) (hr : (jb js i).r ≤ t) : kO dn i = (jb js i).k := by
  have : ¬ (kO dn i < (jb js i).k) := fun hlt => by
    rw [rdy, decide_eq_true hr, decide_eq_true hlt] at h; cases h
  omega
theorem TI.step {n : Int} {s : TSt} (hn : 0 ≤ n) (hl : Lg js) (h : TI js n s) : TI js (n + 1) (tstep ts js s n) := by
  unfold tstep
  cases hw : whoS ts js s n with
  | none => exact h.idle (by omega) fun i hi hr => not_rdy (h.d0 i hi).2 (h.who_none hl hw i hi) hr
  | some i =>
    obtain ⟨h1, h2, h3⟩ := h.who_some hl hw
    exact h.run hn h1 h2 (by omega) (by omega)
theorem kO_rep (n i : Nat) (v : Int) (hi : i < n) : kO (List.replicate n v) i = v := by simp [kO, hi]
theorem ti_all (hl : Lg js) : ∀ n : Nat, TI js n (tst ts js n)
  | 0 => by
    refine ⟨by simp [tst], by simp [tst], fun i hi => ?_, fun i hi hp => ?_, fun i hi => by simp [tst] at hi, fun x hx => by simp [tst] at hx, fun i hi => ?_⟩
    · have := hl.k1 i hi
      simp only [tst]; rw [kO_rep _ _ _ hi]; omega
    · simp only [tst] at hp; rw [kO_rep _ _ _ hi] at hp; omega
    · have := hl.k1 i hi
      simp only [tst]; rw [kO_rep _ _ _ hi, kO_rep _ _ _ hi]; exact .inl ⟨by omega, rfl⟩
  | n + 1 => by
    have := (ti_all hl n).step (ts := ts) (by omega) hl
    rw [show ((n + 1 : Nat) : Int) = (n : Int) + 1 by omega]
    exact this
end
end Go.Proofs.YtnhddnldebdmbaaGreatDoor
/- Ticks that are alike. -/
namespace Go.Proofs.YtnhddnldebdmbaaGreatDoor
set_option linter.unusedVariables false
set_option linter.unusedSimpArgs false
theorem addN_add (sp : List Spn) (i : Nat) (t u v : Int) : addN (addN sp i t u) i (t + u) v = addN sp i t (u + v) := by
  rcases List.eq_nil_or_concat sp with h | ⟨l, x, h⟩
  · subst h
    simp [addN, Int.add_assoc]
  · rw [List.concat_eq_append] at h
    subst h
    unfold addN
    simp only [List.getLast?_concat, List.dropLast_concat]
    by_cases hc : x.j = i ∧ x.t = t
    · rw [if_pos hc, if_pos hc]
      simp [List.getLast?_concat, List.dropLast_concat, Int.add_assoc]
    · rw [if_neg hc, if_neg hc]
      simp only [List.getLast?_concat, List.dropLast_concat]
      simp [Int.add_assoc]
section
variable {ts : List Ts} {js : List Fv}
theorem runM_add {s : TSt} {n u v : Int} {i : Nat} (hi : i < s.dn.length) (hk : kO s.dn i + u ≠ (jb js i).k) : runM js (runM js s n i u) (n + u) i v = runM js s n i (u + v) := by
  have h1 : kO (s.dn.set i (kO s.dn i + u)) i = kO s.dn i + u := by rw [kO_set _ _ hi, if_pos rfl]
  simp only [runM, h1, addN_add, if_neg hk, List.set_set, Int.add_assoc]
theorem tst_succ (n : Nat) : tst ts js (n + 1) = tstep ts js (tst ts js n) n := rfl
theorem tstep_some {s : TSt} {t : Int} {i : Nat} (h : whoS ts js s t = some i) : tstep ts js s t = runM js s t i 1 := by rw [tstep, h]
theorem tstep_none {s : TSt} {t : Int} (h : whoS ts js s t = none) : tstep ts js s t = { s with ru := none } := by rw [tstep, h]
/-- As long as it goes on with one job. -/
theorem run_on {n : Nat} {i : Nat} {m : Nat} (hi : i < (tst ts js n).dn.length) (hw : who ts js n = some i) (hk : kO (tst ts js n).dn i + m ≤ (jb js i).k)
    (hgo : ∀ u : Nat, 1 ≤ u → u < m → whoS ts js (runM js (tst ts js n) n i u) ((n + u : Nat) : Int) = some i) :
    ∀ u : Nat, 1 ≤ u → u ≤ m → tst ts js (n + u) = runM js (tst ts js n) n i u := by
  intro u
  induction u with
  | zero => intro h; omega
  | succ u ih =>
    intro h1 h2
    by_cases hu : u = 0
    · subst hu
      exact tstep_some hw
    · have e := ih (by omega) (by omega)
      rw [← Nat.add_assoc, tst_succ, e, tstep_some (hgo u (by omega) (by omega))]
      rw [show ((n + u : Nat) : Int) = (n : Int) + (u : Int) by omega, runM_add hi (by omega), show ((u + 1 : Nat) : Int) = (u : Int) + 1 by omega]
/-- Nobody is within a section. -/
def Dec (js : List Fv) (s : TSt) : Prop := ∀ i, s.ru = some i → wthS (jb js i).c (kO s.dn i) = false
theorem Dec.who {s : TSt} {t : Int} (h : Dec js s) : whoS ts js s t = pkN ts js s.dn t js.length := by
  unfold whoS
  cases hr : s.ru with
  | none => rfl
  | some i => simp only [h i hr, Bool.false_eq_true, if_false]
theorem run_sec {n i : Nat} {a : Int} {r : List Int} (hl : Lg js) (hw : who ts js n = some i) (hc : wthS (jb js i).c (kO (tst ts js n).dn i) = false) (he : cl (jb js i).c (kO (tst ts js n).dn i) = a :: r) :
    ∀ u : Nat, 1 ≤ u → (u : Int) ≤ a → tst ts js (n + u) = runM js (tst ts js n) n i u := by
  have hI := ti_all (ts := ts) hl n
  obtain ⟨h1, h2, h3⟩ := hI.who_some hl hw
  have hd := hI.d0 i h1
  obtain ⟨c1, c2, c3, c4, c5⟩ := cl_step _ _ _ _ (hl.pos i) hd.1 hc he
  have hf := hl.fit i h1
  intro u hu1 hu2
  have hil : i < (tst ts js n).dn.length := by rw [hI.ld]; exact h1
  refine run_on (m := u) hil hw (by omega) (fun v hv1 hv2 => ?_) u hu1 (Nat.le_refl _)
  unfold whoS
  have e1 : kO ((tst ts js n).dn.set i (kO (tst ts js n).dn i + (v : Int))) i = kO (tst ts js n).dn i + v := by rw [kO_set _ _ hil, if_pos rfl]
  simp only [runM, e1, c3 v (by omega) (by omega), if_true]
theorem run_free {n i m : Nat} (hl : Lg js) (hD : Dec js (tst ts js n)) (hw : who ts js n = some i) (he : cl (jb js i).c (kO (tst ts js n).dn i) = []) (hk : kO (tst ts js n).dn i + m ≤ (jb js i).k)
    (hr : ∀ j, j < js.length → (jb js j).r ≤ n ∨ (n : Int) + m ≤ (jb js j).r) : ∀ u : Nat, 1 ≤ u → u ≤ m → tst ts js (n + u) = runM js (tst ts js n) n i u := by
  have hI := ti_all (ts := ts) hl n
  obtain ⟨h1, h2, h3⟩ := hI.who_some hl hw
  have hil : i < (tst ts js n).dn.length := by rw [hI.ld]; exact h1
  have hd := hI.d0 i h1
  refine run_on hil hw hk (fun v hv1 hv2 => ?_)
  have hp : pkN ts js (tst ts js n).dn n js.length = some i := by rw [← hD.who]; exact hw
  have hB := (pkN_spec _).2 _ hp
  unfold whoS
  have e1 : kO ((tst ts js n).dn.set i (kO (tst ts js n).dn i + (v : Int))) i = kO (tst ts js n).dn i + v := by rw [kO_set _ _ hil, if_pos rfl]
  simp only [runM, e1, (cl_none _ _ he v (by omega)).1, Bool.false_eq_true, if_false]
  refine pkN_best ⟨h1, ?_, fun j hj hjr => ?_⟩
  · rw [rdy_iff, kO_set _ _ hil, if_pos rfl]; omega
  · rw [rdy_iff, kO_set _ _ hil] at hjr
    by_cases hji : j = i
    · subst hji; exact .inr ⟨rfl, Nat.le_refl _⟩
    · rw [if_neg hji] at hjr
      exact hB.2.2 j hj (rdy_iff.2 ⟨by rcases hr j hj with h | h <;> omega, hjr.2⟩)
theorem run_idle {n m : Nat} (hw : who ts js n = none) (hl : Lg js) (hr : ∀ j, j < js.length → (jb js j).r ≤ n ∨ (n : Int) + m ≤ (jb js j).r) :
    ∀ u : Nat, 1 ≤ u → u ≤ m → tst ts js (n + u) = { tst ts js n with ru := none } := by
  have hI := ti_all (ts := ts) hl n
  have hno := hI.who_none hl hw
  intro u
  induction u with
  | zero => intro h; omega
  | succ u ih =>
    intro h1 h2
    by_cases hu : u = 0
    · subst hu
      exact tstep_none hw
    · have e := ih (by omega) (by omega)
      have h3 : whoS ts js { tst ts js n with ru := none } ((n + u : Nat) : Int) = none := by
        unfold whoS
        refine pkN_no fun j hj => ?_
        have := hno j hj
        rw [← Bool.not_eq_true, rdy_iff] at this ⊢
        rcases hr j hj with h | h
        · intro hh; exact this ⟨h, hh.2⟩
        · omega
      rw [← Nat.add_assoc, tst_succ, e, tstep_none h3]
theorem run_done {n : Nat} (hl : Lg js) (hd : ∀ i, i < js.length → kO (tst ts js n).dn i = (jb js i).k) : ∀ u : Nat, (tst ts js (n + u)).dn = (tst ts js n).dn ∧ (tst ts js (n + u)).sp = (tst ts js n).sp ∧ (tst ts js (n + u)).en = (tst ts js n).en
  | 0 => ⟨rfl, rfl, rfl⟩
  | u + 1 => by
    obtain ⟨h1, h2, h3⟩ := run_done hl hd u
    have hI := ti_all (ts := ts) hl (n + u)
    have hw : whoS ts js (tst ts js (n + u)) ((n + u : Nat) : Int) = none := by
      cases hw : whoS ts js (tst ts js (n + u)) ((n + u : Nat) : Int) with
      | none => rfl
      | some i =>
        have := hI.who_some hl hw
        have e := hd i this.1
        rw [h1] at this
        omega
    rw [← Nat.add_assoc, tst_succ, tstep_none hw]
    exact ⟨h1, h2, h3⟩

/-! ### Queues, and who is the most urgent -/
/-- The order is that of releases; of m places those that are released are to be worked. -/
def quS (js : List Fv) (dn : List Int) (l : List Nat) (τ : Nat) : List Nat := l.filter fun p => decide ((jb js p).t = (τ : Int)) && decide (kO dn p < (jb js p).k)
theorem quS_mem {dn : List Int} {l : List Nat} {τ p : Nat} : p ∈ quS js dn l τ ↔ p ∈ l ∧ (jb js p).t = (τ : Int) ∧ kO dn p < (jb js p).k := by simp [quS]
theorem quS_app {dn : List Int} {l : List Nat} {τ p : Nat} : quS js dn (l ++ [p]) τ = quS js dn l τ ++ (if (jb js p).t = (τ : Int) ∧ kO dn p < (jb js p).k then [p] else []) := by
  unfold quS
  rw [List.filter_append]
  congr 1
  by_cases h : (jb js p).t = (τ : Int) ∧ kO dn p < (jb js p).k
  · rw [if_pos h, List.filter_cons_of_pos (by simp [h])]; rfl
  · rw [if_neg h, List.filter_cons_of_neg (by simp only [Bool.and_eq_true, decide_eq_true_eq]; exact h)]; rfl
/-- Jobs of one task are released in order of places. -/
structure Seq (js : List Fv) : Prop where
  seq : ∀ i j, i < j → j < js.length → (jb js i).t = (jb js j).t → (jb js i).r < (jb js j).r
structure Hd (ts : List Ts) (js : List Fv) (dn : List Int) (l : List Nat) (L : List Int) : Prop where
  srt : L.Pairwise (fun a b => (tk ts a).p < (tk ts b).p)
  mem : ∀ τ : Nat, (τ : Int) ∈ L ↔ quS js dn l τ ≠ []
  nat : ∀ x ∈ L, ∃ τ : Nat, x = (τ : Int) ∧ τ < ts.length
/-- What is released by n stands ahead in the order. -/
structure Rel (js : List Fv) (o : List Nat) (m : Nat) (n : Int) : Prop where
  le : m ≤ o.length
  lo : ∀ p ∈ o.take m, (jb js p).r ≤ n
  hi : ∀ p ∈ o.drop m, n < (jb js p).r
theorem kO_rls {p : Nat} (h : p < js.length) : kO (js.map (·.r)) p = (jb js p).r := by
  simp [kO, jb, h]
theorem ord_seq {o : List Nat} {m : Nat} {dn : List Int} {τ p q : Nat} {r : List Nat} (hO : IsOrd (js.map (·.r)) o) (hS : Seq js) (hq : quS js dn (o.take m) τ = p :: r) (h : q ∈ quS js dn (o.take m) τ) : p ≤ q := by
  rcases Nat.lt_or_ge q p with hlt | hge
  · exfalso
    have hp : p ∈ quS js dn (o.take m) τ := by rw [hq]; simp
    obtain ⟨a1, a2, a3⟩ := quS_mem.1 hp
    obtain ⟨b1, b2, b3⟩ := quS_mem.1 h
    have hpl : p < js.length := by have := hO.mem.1 (List.mem_of_mem_take a1); simpa using this
    have h1 := hS.seq q p hlt hpl (by rw [a2, b2])
    have hs : (quS js dn (o.take m) τ).Pairwise (Ahead (js.map (·.r))) := (hO.srt.sublist (List.take_sublist _ _)).sublist List.filter_sublist
    rw [hq] at hs h
    rcases List.mem_cons.1 h with rfl | h
    · omega
    · have := (List.pairwise_cons.1 hs).1 q h
      unfold Ahead at this
      rw [kO_rls hpl, kO_rls (by omega)] at this
      omega
  · exact hge
theorem pick_some {o : List Nat} {m p : Nat} {dn : List Int} {n x : Int} {L r : List Int} {rest : List Nat} (hlen : ∀ i, i < js.length → 0 ≤ (jb js i).t) (hO : IsOrd (js.map (·.r)) o) (hS : Seq js)
    (hR : Rel js o m n) (hH : Hd ts js dn (o.take m) (x :: r)) (hD : Dist ts) (ht : ∀ i, i < js.length → (jb js i).t < ts.length) {τ : Nat} (hx : x = (τ : Int)) (hq : quS js dn (o.take m) τ = p :: rest) : pkN ts js dn n js.length = some p := by
  subst hx
  have hp : p ∈ quS js dn (o.take m) τ := by rw [hq]; simp
  obtain ⟨a1, a2, a3⟩ := quS_mem.1 hp
  have hpl : p < js.length := by have := hO.mem.1 (List.mem_of_mem_take a1); simpa using this
  refine pkN_best ⟨hpl, rdy_iff.2 ⟨hR.lo p a1, a3⟩, fun i hi hir => ?_⟩
  rw [rdy_iff] at hir
  have hio : i ∈ o.take m := by
    have h1 : i ∈ o := hO.mem.2 (by simpa using hi)
    rw [← List.take_append_drop m o] at h1
    rcases List.mem_append.1 h1 with h | h
    · exact h
    · have := hR.hi i h; omega
  obtain ⟨σ, hσ⟩ : ∃ σ : Nat, (jb js i).t = (σ : Int) := ⟨(jb js i).t.toNat, by have := hlen i hi; omega⟩
  have hiq : i ∈ quS js dn (o.take m) σ := quS_mem.2 ⟨hio, hσ, hir.2⟩
  have hσL : (σ : Int) ∈ (τ : Int) :: r := (hH.mem σ).2 (fun e => by rw [e] at hiq; cases hiq)
  unfold prO
  rw [hσ, a2]
  rcases List.mem_cons.1 hσL with h | h
  · obtain rfl : σ = τ := by omega
    exact .inr ⟨rfl, ord_seq hO hS hq hiq⟩
  · exact .inl ((List.pairwise_cons.1 hH.srt).1 _ h)
theorem pick_none {o : List Nat} {m : Nat} {dn : List Int} {n : Int} (hlen : ∀ i, i < js.length → 0 ≤ (jb js i).t) (hO : IsOrd (js.map (·.r)) o)
    (hR : Rel js o m n) (hH : Hd ts js dn (o.take m) []) : pkN ts js dn n js.length = none := by
  refine pkN_no fun i hi => ?_
  rw [← Bool.not_eq_true, rdy_iff]
  intro hir
  have hio : i ∈ o.take m := by
    have h1 : i ∈ o := hO.mem.2 (by simpa using hi)
    rw [← List.take_append_drop m o] at h1
    rcases List.mem_append.1 h1 with h | h
    · exact h
    · have := hR.hi i h; omega
  obtain ⟨σ, hσ⟩ : ∃ σ : Nat, (jb js i).t = (σ : Int) := ⟨(jb js i).t.toNat, by have := hlen i hi; omega⟩
  have hiq : i ∈ quS js dn (o.take m) σ := quS_mem.2 ⟨hio, hσ, hir.2⟩
  have := (hH.mem σ).2 (fun e => by rw [e] at hiq; cases hiq)
  cases this
end
end Go.Proofs.YtnhddnldebdmbaaGreatDoor
/- The small functions: rests, whether a number lies between two, whether a set may be; the map of last arrivals. -/
namespace Go.Proofs.YtnhddnldebdmbaaGreatDoor
open Go.RowKit
set_option linter.unusedVariables false
set_option linter.unusedSimpArgs false

/-! ### Rests -/
set_option maxHeartbeats 1000000 in
theorem r8rest_any (x n : Int) (w : World) (hx : in64 x) (hn : 0 < n) (hn2 : n ≤ 4294967296) : Calls Tryz.prog 15 #[.int .i64 x, .int .i64 n] w fun e w' => e = .returned (.int .i64 (x % n)) ∧ w = w' := by
  have e : x % n = (wrap64 (x.tmod n + n)).tmod n := by
    have hb := tmod_bd x n hn
    rw [IntWalk.wrap64_in _ (by omega), twice_tmod x n hn]
  rw [e]
  obtain ⟨h1, h2⟩ := hx
  clear e
  go_enter Tryz.func15, Tryz.ntmps15
  go_wp2
  go_ret
  exact ⟨rfl, rfl⟩
theorem within_any (n lo hi : Int) (w : World) : Calls Tryz.prog 32 #[.int .i64 n, .int .i64 lo, .int .i64 hi] w fun e w' => e = .returned (.bool (inB n lo hi)) ∧ w = w' := by
  unfold inB
  go_enter Tryz.func32, Tryz.ntmps32
  by_cases h1 : lo ≤ n <;> by_cases h2 : n ≤ hi <;> (go_wp2; go_ret; simp [*])

/-! ### Whether a set may be -/
set_option maxHeartbeats 1000000 in
theorem mayBe_any (A : Option Addr) (cap : Nat) (l : List Ts) (w : World) (hR : Row w A cap l) :
    Calls Tryz.prog 30 #[.slice A l.length cap] w fun e w' => e = .returned (.bool (decide ((chkAll l).2 = 0))) ∧ Below w.heap.size w w' := by
  have K := fun w hR => checkAll_any A cap l w hR
  have ROW := Lib.hid hR
  generalize (chkAll l).1 = a at *
  generalize (chkAll l).2 = c at *
  have K := Lib.hid K
  clear hR
  by_cases h : c = 0
  · subst h
    go_enter Tryz.func30, Tryz.ntmps30
    go_wp2_with (go_at_call 24; (with_reducible refine (K.out _ ROW.out).mono ?_); rintro e1 w1 ⟨rfl, h1⟩)
    go_ret
    exact ⟨rfl, h1⟩
  · have h' : (c == 0) = false := by simpa using h
    rw [decide_eq_false h]
    clear h
    go_enter Tryz.func30, Tryz.ntmps30
    go_wp2_with (go_at_call 24; (with_reducible refine (K.out _ ROW.out).mono ?_); rintro e1 w1 ⟨rfl, h1⟩)
    go_ret
    exact ⟨rfl, h1⟩

/-! ### Maps of numbers by numbers -/
def miP (ps : List (Int × Int)) : List (Value × Value) := ps.map fun p => (.int .i64 p.1, .int .i64 p.2)
/-- Block r holds a map that tells what f does. -/
def MI (w : World) (r : Nat) (f : Int → Option Int) : Prop := ∃ (es : Array MapEntry) (c : Nat) (ps : List (Int × Int)), w.heap[r]? = some (.map es c) ∧ es.toList.map (fun e => (e.key, e.val)) = miP ps ∧ ∀ t, ps.lookup t = f t
theorem MI.is {w : World} {r : Nat} {f : Int → Option Int} (h : MI w r f) : ∃ es c, w.heap[r]? = some (.map es c) := by
  obtain ⟨es, c, _, h1, _⟩ := h
  exact ⟨es, c, h1⟩
theorem MI.lt {w : World} {r : Nat} {f : Int → Option Int} (h : MI w r f) : r < w.heap.size := by
  obtain ⟨es, c, _, h1, _⟩ := h
  exact (Array.getElem?_eq_some_iff.1 h1).1
theorem MI.later {w w' : World} {r : Nat} {f : Int → Option Int} (h : MI w r f) (hb : Below w.heap.size w w') : MI w' r f := by
  obtain ⟨es, c, ps, h1, h2⟩ := h
  exact ⟨es, c, ps, (hb.block r ((Array.getElem?_eq_some_iff.1 h1).1)).trans h1, h2⟩
theorem MI.kept {X : List Nat} {w w' : World} {r : Nat} {f : Int → Option Int} (h : MI w r f) (hk : Kept X w w') (hx : r ∉ X) : MI w' r f := by
  obtain ⟨es, c, ps, h1, h2⟩ := h
  exact ⟨es, c, ps, (hk.block r ((Array.getElem?_eq_some_iff.1 h1).1) hx).trans h1, h2⟩
theorem MI.cell {w : World} {r : Nat} {f : Int → Option Int} (h : MI w r f) (o : Nat) : w.cell? ⟨r, o, none⟩ = none := by
  obtain ⟨es, c, h1⟩ := h.is
  exact cell_of_map h1 o
theorem MI.new (w : World) : MI (w.alloc (.map #[] 0)) w.heap.size fun _ => none := ⟨#[], 0, [], heap_alloc_new w _, rfl, fun _ => rfl⟩
theorem find_mi (s : Int) (kk : IntKind) : ∀ (es : List MapEntry) (ps : List (Int × Int)) (i : Nat), es.map (fun e => (e.key, e.val)) = miP ps →
    (∃ j v, ps.lookup s = some v ∧ j < es.length ∧ (es[j]?.map (·.key)) = some (.int .i64 s) ∧ Instr.findNow (.int kk) (.int .i64 s) es i = some (some (i + j, .int .i64 v)) ∧ ∀ x t, (ps.modify j fun p => (p.1, x)).lookup t = if t = s then some x else ps.lookup t) ∨
    (ps.lookup s = none ∧ Instr.findNow (.int kk) (.int .i64 s) es i = some none)
  | [], ps, i, h => by
    cases ps with
    | nil => exact .inr ⟨rfl, rfl⟩
    | cons a r => simp [miP] at h
  | e :: es, ps, i, h => by
    cases ps with
    | nil => simp [miP] at h
    | cons a r =>
      simp only [miP, List.map_cons, List.cons.injEq, Prod.mk.injEq] at h
      obtain ⟨⟨h1, h3⟩, h2⟩ := h
      have ih := find_mi s kk es r (i + 1) h2
      unfold Instr.findNow
      rw [h1]
      simp only [Instr.sameNow, if_true]
      obtain ⟨ak, av⟩ := a
      by_cases hs : s = ak
      · subst hs
        simp only [beq_self_eq_true]
        refine .inl ⟨0, av, by simp [List.lookup], by simp, by simp [h1], by simp [h3], fun x t => ?_⟩
        by_cases ht : t = s
        · subst ht; simp [List.lookup]
        · have : (t == s) = false := by simpa using ht
          simp [List.lookup, this, ht]
      · have hb : (s == ak) = false := by simpa using hs
        simp only [hb]
        rcases ih with ⟨j, v, i1, i2, i3, i4, i5⟩ | ⟨i1, i2⟩
        · refine .inl ⟨j + 1, v, by simp [List.lookup, hb, i1], by simp; exact i2, by simpa using i3, by rw [i4]; simp; omega, fun x t => ?_⟩
          rw [List.modify_succ_cons]
          by_cases ht : t = ak
          · subst ht
            have : ¬ t = s := fun e => hs e.symm
            simp [List.lookup, this]
          · have hb2 : (t == ak) = false := by simpa using ht
            simp only [List.lookup, hb2]
            exact i5 x t
        · exact .inr ⟨by simp [List.lookup, hb, i1], i2⟩
theorem zero64 (w : World) : (zeroValue 2).run Tryz.prog w = .ok (.int .i64 0) w := by kernel_rfl
theorem zeroI (w : World) : (zeroValue 3).run Tryz.prog w = .ok (.int .i64 0) w := by kernel_rfl
theorem look_mi {w : World} {r : Nat} {f : Int → Option Int} (h : MI w r f) (p : Int) :
    (Instr.lookup 79 (.map (some r)) (.int .i64 p) true).run Tryz.prog w = .ok (.tuple #[.int .i64 ((f p).getD 0), .bool (f p).isSome]) w := by
  obtain ⟨es, c, ps, h1, h2, h3⟩ := h
  have hg := getObj_map h1
  have hz := zero64 w
  have hf := fun k => find_mi p k es.toList ps 0 h2
  rcases hf .i64 with ⟨j, v, i1, i2, i3, i4, i5⟩ | ⟨i1, i2⟩
  · rw [← h3 p, i1]
    simp [Instr.lookup, hg, checkKey_int, Instr.findKey, i4]
  · rw [← h3 p, i1]
    simp [Instr.lookup, hg, checkKey_int, Instr.findKey, i2]
def updF (f : Int → Option Int) (p v : Int) : Int → Option Int := fun t => if t = p then some v else f t
theorem put_mi {w : World} {r : Nat} {f : Int → Option Int} (h : MI w r f) (p v : Int) :
    ∃ o, (Instr.mapUpdate 79 (.map (some r)) (.int .i64 p) (.int .i64 v)).run Tryz.prog w = .ok () (w.putObj r o) ∧ MI (w.putObj r o) r (updF f p v) := by
  have hlt := h.lt
  obtain ⟨es, c, ps, h1, h2, h3⟩ := h
  have hg := getObj_map h1
  have hs := setObj_map h1
  rcases find_mi p .i64 es.toList ps 0 h2 with ⟨j, v0, i1, i2, i3, i4, i5⟩ | ⟨i1, i2⟩
  · rw [Nat.zero_add] at i4
    obtain ⟨e0, he0, hk0⟩ := Option.map_eq_some_iff.1 i3
    have he1 : es[j]? = some e0 := by rw [← Array.getElem?_toList]; exact he0
    refine ⟨.map (es.modify j fun e => { e with key := .int .i64 p, val := .int .i64 v }) c, ?_, _, _, ps.modify j (fun q => (q.1, v)), World.putObj_heap_same hlt, ?_, fun t => ?_⟩
    · simp [Instr.mapUpdate, hg, checkKey_int, Instr.findKey, i4, hs, he1, hk0, Instr.keyThatStays, Instr.sameBits]
    · apply List.ext_getElem?
      intro i
      have hi := congrArg (fun l => l[i]?) h2
      simp only [miP, List.getElem?_map] at hi
      simp only [miP, List.getElem?_map, Array.toList_modify, List.getElem?_modify]
      by_cases hij : j = i
      · subst hij
        rw [he0] at hi ⊢
        cases hp : ps[j]? with
        | none => rw [hp] at hi; simp at hi
        | some q =>
          rw [hp] at hi
          simp at hi
          obtain ⟨hi1, hi2⟩ := hi
          rw [hk0] at hi1
          simpa using hi1
      · simp only [hij, if_false]
        simpa using hi
    · rw [i5 v t, updF, h3 t]
  · refine ⟨.map (es.push { key := .int .i64 p, val := .int .i64 v, born := c }) (c + 1), ?_, _, _, ps ++ [(p, v)], World.putObj_heap_same hlt, ?_, fun t => ?_⟩
    · simp [Instr.mapUpdate, hg, checkKey_int, Instr.findKey, i2, hs]
    · simp [miP] at h2 ⊢
      exact h2
    · have hla : ∀ (l : List (Int × Int)), l.lookup p = none → (l ++ [(p, v)]).lookup t = if t = p then some v else l.lookup t := by
        intro l
        induction l with
        | nil => intro _; by_cases ht : t = p <;> simp [List.lookup, ht]
        | cons a l ih =>
          obtain ⟨ak, av⟩ := a
          intro hn
          by_cases hpa : p = ak
          · subst hpa; simp [List.lookup] at hn
          · have hb : (p == ak) = false := by simpa using hpa
            simp only [List.lookup, hb] at hn
            by_cases hta : t = ak
            · subst hta
              have : ¬ t = p := fun e => hpa e.symm
              simp [List.lookup, this]
            · have hb2 : (t == ak) = false := by simpa using hta
              simp only [List.cons_append, List.lookup, hb2]
              exact ih hn
      rw [hla ps i1, updF, h3 t]
end Go.Proofs.YtnhddnldebdmbaaGreatDoor
/- From when on a job may arrive; what keeps it; sections; a job of raw numbers. -/
namespace Go.Proofs.YtnhddnldebdmbaaGreatDoor
open Go.RowKit
set_option linter.unusedVariables false
set_option linter.unusedSimpArgs false

def soonV (f : Int → Option Int) (ts : List Ts) (p : Int) : Int := match f p with | none => 0 | some a => a + (tk ts p).t
set_option maxRecDepth 100000 in
set_option maxHeartbeats 2000000 in
theorem soonest_any (A : Option Addr) (cap : Nat) (ts : List Ts) (r : Nat) (f : Int → Option Int) (p : Int) (w : World) (hR : Row w A cap ts) (hm : MI w r f)
    (hf : ∀ a, f p = some a → 0 ≤ p ∧ p < ts.length ∧ 0 ≤ a ∧ a ≤ 35184372088832) (ht : TsOk (tk ts p)) :
    Calls Tryz.prog 34 #[.agg #[.slice A ts.length cap, .map (some r)], .int .i64 p] w fun e w' => e = .returned (.int .i64 (soonV f ts p)) ∧ Below w.heap.size w w' := by
  have b0 : Below w.heap.size w (w.alloc (.cells #[.slice A ts.length cap, .map (some r)] 81)) := (Below.refl _ _).alloc (Nat.le_refl _) _
  have hlk := look_mi (hm.later b0) p
  have B0 := Lib.hid b0
  cases hfp : f p with
  | none =>
    rw [hfp] at hlk
    have e : soonV f ts p = 0 := by rw [soonV, hfp]
    rw [e]
    simp only [Option.getD_none, Option.isSome_none] at hlk
    clear e hf hfp ht
    go_enter Tryz.func34, Tryz.ntmps34
    go_wp2
    go_ret
    exact ⟨rfl, B0.out⟩
  | some a =>
    rw [hfp] at hlk
    have e : soonV f ts p = a + (tk ts p).t := by rw [soonV, hfp]
    rw [e]
    simp only [Option.getD_some, Option.isSome_some] at hlk
    obtain ⟨p0, p1, a0, a1⟩ := hf a hfp
    obtain ⟨k, rfl⟩ : ∃ k : Nat, p = (k : Int) := ⟨p.toNat, by omega⟩
    obtain ⟨b, o, x, rfl, hx, hw, hbl, hT⟩ := hR.get (k := k) (by omega)
    rw [tk_get hx] at ht ⊢
    have c2 := (hT.later b0).c2
    have t0 := ht.t0
    have t1 := ht.t1
    clear e hf hfp ht hx hw hT hR hm b0
    go_enter Tryz.func34, Tryz.ntmps34
    go_wp2
    go_ret
    exact ⟨rfl, B0.out⟩

set_option maxRecDepth 100000 in
set_option maxHeartbeats 2000000 in
theorem note_any (A C : Option Addr) (n cap cc : Nat) (r : Nat) (f : Int → Option Int) (x : Fv) (w : World) (hm : MI w r f) :
    Calls Tryz.prog 39 #[.agg #[.slice A n cap, .map (some r)], fvV x C cc] w fun e w' => e = .returned (.tuple #[]) ∧ MI w' r (updF f x.t x.a) ∧ Kept [r] w w' := by
  have b1 : Below w.heap.size w (w.alloc (.cells #[.slice A n cap, .map (some r)] 81)) := (Below.refl _ _).alloc (Nat.le_refl _) _
  have b2 := b1.alloc (by simp) (.cells #[.int .i64 x.t, .int .i64 x.a, .int .i64 x.r, .int .i64 x.k, .slice C x.c.length cc] 38)
  obtain ⟨o, hp, hm'⟩ := put_mi (hm.later b2) x.t x.a
  have HK := Lib.hid ((Kept.of [r] b2).put r o (by simp))
  have HM := Lib.hid hm'
  clear b1 b2 hm' hm
  go_enter Tryz.func39, Tryz.ntmps39
  go_wp2
  go_end0
  exact ⟨rfl, HM.out, HK.out⟩

def SecPost (sl : List Int) (w : World) (e : Ending) (w' : World) : Prop :=
  ∃ C cc, e = .returned (.slice C sl.length cc) ∧ CRow w' C cc sl ∧ (sl ≠ [] → ∀ a, C = some a → w.heap.size ≤ a.block ∧ ∃ cs fr, w'.heap[a.block]? = some (.cells cs 2 fr)) ∧ Below w.heap.size w w'
/-- Sections so far. -/
structure SecIn (B : Nat) (w : World) (v : Value) (pre : List Int) : Prop where
  row : w.ownsRow B 2 1 v pre.length (numL pre)
  wf : ∀ x ∈ pre, in64 x
theorem numL_snoc (l : List Int) (x : Int) : numL (l ++ [x]) = numL l ++ [.int .i64 x] := by simp [numL]
theorem secs_post {q k : Int} {l pre : List Int} {v : Value} {w w1 : World} (h : SecIn w.heap.size w1 v pre) (hq : secs q k l = pre) (hL : Below w.heap.size w w1) : SecPost (secs q k l) w (.returned v) w1 := by
  obtain ⟨C, cc, hv, _, hC, hs⟩ := crow_own h.row h.wf
  rw [SecPost, hq]
  exact ⟨C, cc, by rw [hv], hC, hs, hL⟩
end Go.Proofs.YtnhddnldebdmbaaGreatDoor
/- A job of raw numbers. -/
namespace Go.Proofs.YtnhddnldebdmbaaGreatDoor
open Go.RowKit
set_option linter.unusedVariables false
set_option linter.unusedSimpArgs false

/-- Five cells of a block of its own. -/
structure FB (w : World) (b : Nat) (T : TypeId) (v0 v1 v2 v3 v4 : Value) : Prop where
  is : w.heap[b]? = some (.cells #[v0, v1, v2, v3, v4] T (0, 0))
theorem FB.lt {w : World} {b : Nat} {T : TypeId} {v0 v1 v2 v3 v4 : Value} (h : FB w b T v0 v1 v2 v3 v4) : b < w.heap.size := (Array.getElem?_eq_some_iff.1 h.is).1
theorem FB.z {w : World} {b : Nat} {T : TypeId} {v0 v1 v2 v3 v4 : Value} (h : FB w b T v0 v1 v2 v3 v4) : w.cell? ⟨b, 0, none⟩ = some v0 ∧ w.cell? ⟨b, 1, none⟩ = some v1 ∧ w.cell? ⟨b, 2, none⟩ = some v2 ∧ w.cell? ⟨b, 3, none⟩ = some v3 ∧ w.cell? ⟨b, 4, none⟩ = some v4 := by
  refine ⟨?_, ?_, ?_, ?_, ?_⟩ <;> (rw [cell_of_row w b _ _ _ _ h.is]; rfl)
theorem FB.fz {w : World} {b : Nat} {T : TypeId} {v0 v1 v2 v3 v4 : Value} (h : FB w b T v0 v1 v2 v3 v4) (i : Nat) : w.frozen? ⟨b, i, none⟩ = false := frozen_of_row w b i _ _ h.is
theorem FB.later {w w' : World} {b : Nat} {T : TypeId} {v0 v1 v2 v3 v4 : Value} (h : FB w b T v0 v1 v2 v3 v4) (hb : Below w.heap.size w w') : FB w' b T v0 v1 v2 v3 v4 := ⟨(hb.block b h.lt).trans h.is⟩
theorem FB.kept {X : List Nat} {w w' : World} {b : Nat} {T : TypeId} {v0 v1 v2 v3 v4 : Value} (h : FB w b T v0 v1 v2 v3 v4) (hb : Kept X w w') (hx : b ∉ X) : FB w' b T v0 v1 v2 v3 v4 := ⟨(hb.block b h.lt hx).trans h.is⟩
theorem FB.new (w : World) (T : TypeId) (v0 v1 v2 v3 v4 : Value) : FB (w.alloc (.cells #[v0, v1, v2, v3, v4] T)) w.heap.size T v0 v1 v2 v3 v4 := ⟨heap_alloc_new w _⟩
theorem FB.set {w : World} {b i : Nat} {T : TypeId} {v0 v1 v2 v3 v4 u0 u1 u2 u3 u4 : Value} (h : FB w b T v0 v1 v2 v3 v4) (u : Value) (he : (#[v0, v1, v2, v3, v4].setIfInBounds i u) = #[u0, u1, u2, u3, u4]) : FB (w.setCell ⟨b, i, none⟩ u) b T u0 u1 u2 u3 u4 := ⟨by
  rw [heap_setCell_same _ b i _ _ u h.is, he]⟩
theorem results_job {fn : Func} {p : Tmp} (h : fn.results = #[.cell p 38]) (tmps : Array Value) (w : World) (b : Nat) (v0 v1 v2 v3 v4 : Value) (hp : tmps.getD p undef = .pointer (some ⟨b, 0, none⟩)) (hb : FB w b 38 v0 v1 v2 v3 v4) :
    (results fn tmps).run Tryz.prog w = .ok (.agg #[v0, v1, v2, v3, v4]) w :=
  results_cell_row h tmps w b _ _ _ _ hp hb.is Tryz.underlying38 rfl infoJ
theorem results_raw {fn : Func} {p : Tmp} (h : fn.results = #[.cell p 55]) (tmps : Array Value) (w : World) (b : Nat) (v0 v1 v2 v3 v4 : Value) (hp : tmps.getD p undef = .pointer (some ⟨b, 0, none⟩)) (hb : FB w b 55 v0 v1 v2 v3 v4) :
    (results fn tmps).run Tryz.prog w = .ok (.agg #[v0, v1, v2, v3, v4]) w :=
  results_cell_row h tmps w b _ _ _ _ hp hb.is Tryz.underlying55 rfl infoR

theorem FB.set5 {w : World} {b : Nat} {T : TypeId} {v0 v1 v2 v3 v4 : Value} (h : FB w b T v0 v1 v2 v3 v4) (u0 u1 u2 u3 u4 : Value) : FB (w.setCells b 0 [u0, u1, u2, u3, u4]) b T u0 u1 u2 u3 u4 := by
  simp only [World.setCells]
  exact ((((h.set u0 rfl).set u1 rfl).set u2 rfl).set u3 rfl).set u4 rfl
theorem FB.there {w : World} {b : Nat} {T : TypeId} {v0 v1 v2 v3 v4 : Value} (h : FB w b T v0 v1 v2 v3 v4) : w.there b 0 5 := fun j hj => by
  obtain ⟨z0, z1, z2, z3, z4⟩ := h.z
  rw [Nat.zero_add]
  refine ⟨?_, h.fz j⟩
  rcases (by omega : j = 0 ∨ j = 1 ∨ j = 2 ∨ j = 3 ∨ j = 4) with rfl | rfl | rfl | rfl | rfl
  · rw [z0]; rfl
  · rw [z1]; rfl
  · rw [z2]; rfl
  · rw [z3]; rfl
  · rw [z4]; rfl
theorem kept_set5 (w : World) (b : Nat) (vs : List Value) : ∀ (o : Nat), Kept [b] w (w.setCells b o vs) := by
  induction vs generalizing w with
  | nil => intro o; exact Kept.refl _ _
  | cons v r ih => intro o; exact ((Kept.refl [b] w).set b o v (by simp)).trans (ih _ (o + 1))
theorem CRow.kept {X : List Nat} {w w' : World} {A : Option Addr} {cap : Nat} {l : List Int} (h : CRow w A cap l) (hk : Kept X w w') (hx : l ≠ [] → ∀ a, A = some a → a.block ∉ X) : CRow w' A cap l :=
  ⟨h.le, h.mx, h.wf, fun i x hi => by
    obtain ⟨b, o, e, hc⟩ := h.at_ i x hi
    exact ⟨b, o, e, (hk.cell (World.block_lt_of_cell? w _ hc) (hx (by intro h0; rw [h0] at hi; simp at hi) ⟨b, o, none⟩ e)).trans hc⟩⟩
abbrev D4 (N b1 b2 : Nat) (xj xq rr : Int) (V : Value) (W : World) : Prop := W.cell? ⟨N, 4, none⟩ = some (.int .i64 xj) ∧ W.cell? ⟨N, 5, none⟩ = some (.int .i64 xq) ∧ W.cell? ⟨b1, 2, none⟩ = some (.int .i64 rr) ∧ W.cell? ⟨b1, 4, none⟩ = some V ∧ (N ≠ b2 ∧ b1 ≠ b2)
theorem D4.step {W W' : World} {N b1 b2 : Nat} {xj xq rr : Int} {V : Value} (h : D4 N b1 b2 xj xq rr V W) (hb : Below W.heap.size W W') : D4 N b1 b2 xj xq rr V W' := by
  obtain ⟨h1, h2, h3, h4, h5⟩ := h
  have hc := cells_below hb
  exact ⟨hc _ _ _ h1, hc _ _ _ h2, hc _ _ _ h3, hc _ _ _ h4, h5⟩
theorem D4.set {W : World} {N b1 b2 : Nat} {xj xq rr : Int} {V : Value} (h : D4 N b1 b2 xj xq rr V W) (i : Nat) (u : Value) : D4 N b1 b2 xj xq rr V (W.setCell ⟨b2, i, none⟩ u) := by
  obtain ⟨h1, h2, h3, h4, h5, h6⟩ := h
  have hc : ∀ b o, b ≠ b2 → (W.setCell ⟨b2, i, none⟩ u).cell? ⟨b, o, none⟩ = W.cell? ⟨b, o, none⟩ := fun b o hb => World.cell?_setCell_other _ _ _ _ (by intro e; exact hb (congrArg Addr.block e).symm)
  exact ⟨(hc _ _ h5).trans h1, (hc _ _ h5).trans h2, (hc _ _ h6).trans h3, (hc _ _ h6).trans h4, h5, h6⟩
theorem D4.set5 {W : World} {N b1 b2 : Nat} {xj xq rr : Int} {V : Value} (h : D4 N b1 b2 xj xq rr V W) (u0 u1 u2 u3 u4 : Value) : D4 N b1 b2 xj xq rr V (((((W.setCell ⟨b2, 0, none⟩ u0).setCell ⟨b2, 1, none⟩ u1).setCell ⟨b2, 2, none⟩ u2).setCell ⟨b2, 3, none⟩ u3).setCell ⟨b2, 4, none⟩ u4) := ((((h.set 0 u0).set 1 u1).set 2 u2).set 3 u3).set 4 u4
def DecPost (x : Fv) (w : World) (e : Ending) (w' : World) : Prop :=
  ∃ C cc, e = .returned (fvV x C cc) ∧ CRow w' C cc x.c ∧ (x.c ≠ [] → ∀ a, C = some a → w.heap.size ≤ a.block ∧ ∃ cs fr, w'.heap[a.block]? = some (.cells cs 2 fr)) ∧ Below w.heap.size w w'
end Go.Proofs.YtnhddnldebdmbaaGreatDoor
