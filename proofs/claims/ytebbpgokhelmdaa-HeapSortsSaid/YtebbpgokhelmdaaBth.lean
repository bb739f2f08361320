/- Two heaps, of numbers and of strings. -/
import Derived.Test.YtebbpgokhelmdaaCnt
import Derived.Test.YtebbpgokhelmdaaAwk
namespace Go.Proofs.Ytebbpgokhelmdaa
open Go.RowKit Go.Shelf
set_option linter.unusedVariables false
set_option linter.unusedSimpArgs false
theorem HsS.mem {B : Nat} {w : World} {b c : Nat} {X : List Nat} {L : List ByteArray} (h : HsS B w b X c L) : b ∈ X := by
  obtain ⟨⟨v, l, h1, rfl, h2⟩, h3⟩ := h
  simp [blk]
theorem HsS.same {B : Nat} {w w' : World} {b c : Nat} {X : List Nat} {L : List ByteArray} (h : HsS B w b X c L) (hs : ∀ k ∈ X, w'.heap[k]? = w.heap[k]?) : HsS B w' b X c L := by
  obtain ⟨⟨v, l, h1, rfl, h2⟩, h3⟩ := h
  refine ⟨⟨v, l, ⟨h1.hB, (hs b (by simp [blk])).trans h1.is, ?_, h1.ok, h1.few, h1.lim⟩, rfl, h2⟩, h3⟩
  obtain ⟨r1, r2⟩ := h1.row
  refine ⟨r1, ?_⟩
  rcases r2 with r2 | ⟨g, cap, cur, hv, hg, hh, r⟩
  · exact .inl r2
  · subst hv
    exact .inr ⟨g, cap, cur, rfl, hg, (hs g (by simp [blk, Value.ownBlock])).trans hh, r⟩
/-- The two, told apart by where they lie. -/
structure Both (w : World) (B1 B2 : Nat) (wr : World) (X : List Nat) (c : Nat) (L : List Int) (X' : List Nat) (c' : Nat) (L' : List ByteArray) : Prop where
  i : HsI B1 wr B1 X c L
  s : HsS B2 wr B2 X' c' L'
  b : Below w.heap.size w wr
  lt : ∀ k ∈ X, k < B2
  le : w.heap.size ≤ B1
  le2 : B1 ≤ B2
section
variable {w wr : World} {B1 B2 c c' : Nat} {X X' : List Nat} {L : List Int} {L' : List ByteArray}
theorem Both.later {w' : World} (h : Both w B1 B2 wr X c L X' c' L') (hb : Below wr.heap.size wr w') : Both w B1 B2 w' X c L X' c' L' :=
  ⟨h.i.later hb, h.s.later hb, h.b.trans (hb.mono h.b.size), h.lt, h.le, h.le2⟩
theorem Both.push (h : Both w B1 B2 wr X c L X' c' L') {x : ByteArray} (hx : x.size ≤ maxLen) (hc : c' + 1 ≤ 1000000) :
    Calls Try.prog 22 #[.pointer (some ⟨B2, 0, none⟩), .string x] wr fun e w' => e = .returned (.tuple #[]) ∧ ∃ X2, Both w B1 B2 w' X c L X2 (c' + 1) (ins keyS x L') := by
  refine (hpushS h.s hx hc).mono ?_
  rintro e w' ⟨rfl, X2, h1, h2, h3⟩
  exact ⟨rfl, X2, h.i.kept h2 (fun k hk hm => by have := h.lt k hk; have := (h.s.ge k hm).1; omega), h1, h.b.trans (h2.below h.b.size (fun k hm => by have := (h.s.ge k hm).1; have := h.le; have := h.le2; omega)), h.lt, h.le, h.le2⟩
theorem Both.pop {x : Int} (h : Both w B1 B2 wr X c (x :: L) X' c' L') :
    Calls Try.prog 24 #[.pointer (some ⟨B1, 0, none⟩)] wr fun e w' => e = .returned (.tuple #[.int .i64 x, .bool true]) ∧ Both w B1 B2 w' X c L X' c' L' := by
  refine (hpopI h.i).mono ?_
  rintro e w' ⟨rfl, h1, h2⟩
  exact ⟨rfl, h1, h.s.kept h2 (fun k hk hm => by have := h.lt k hm; have := (h.s.ge k hk).1; omega), h.b.trans (h2.below h.b.size (fun k hm => by have := (h.i.ge k hm).1; have := h.le; omega)), h.lt, h.le, h.le2⟩
end
/-- A box for a number, and the heap of strings that is older. -/
structure Sm (w : World) (B2 nb : Nat) (wr : World) (X' : List Nat) (c' : Nat) (L' : List ByteArray) (v : Int) : Prop where
  s : HsS B2 wr B2 X' c' L'
  b : Below w.heap.size w wr
  box : Boxed wr nb 3 (.int .i64 v)
  lt : ∀ k ∈ X', k < nb
  le : w.heap.size ≤ B2
section
variable {w wr : World} {B2 nb c' : Nat} {X' : List Nat} {L' : List ByteArray} {v : Int}
theorem Sm.ge (h : Sm w B2 nb wr X' c' L' v) : w.heap.size < nb := by
  have h1 := h.lt _ h.s.mem
  have := h.le
  omega
theorem Sm.set (h : Sm w B2 nb wr X' c' L' v) (u : Int) : Sm w B2 nb (wr.setCell ⟨nb, 0, none⟩ (.int .i64 u)) X' c' L' u :=
  ⟨h.s.same (fun k hk => Below.heap_setCell _ _ _ _ (fun e => by have := h.lt k hk; simp at e; omega)), h.b.setCell (by have := h.ge; simp; omega) _, Boxed.set _ h.box, h.lt, h.le⟩
theorem Sm.later {w' : World} (h : Sm w B2 nb wr X' c' L' v) (hb : Below wr.heap.size wr w') : Sm w B2 nb w' X' c' L' v :=
  ⟨h.s.later hb, h.b.trans (hb.mono h.b.size), (hb.block nb h.box.lt).trans h.box, h.lt, h.le⟩
theorem Sm.kept {Y : List Nat} {w' : World} (h : Sm w B2 nb wr X' c' L' v) (hk : Kept Y wr w') (hY : ∀ k ∈ Y, nb < k) : Sm w B2 nb w' X' c' L' v := by
  have hn := h.ge
  refine ⟨h.s.kept hk (fun k hx hy => by have := hY k hy; have := h.lt k hx; omega), h.b.trans (hk.below h.b.size (fun k hy => by have := hY k hy; omega)), (hk.block nb h.box.lt (fun hy => by have := hY nb hy; omega)).trans h.box, h.lt, h.le⟩
theorem Sm.own {B : Nat} {w' : World} {row : Option Nat} (h : Sm w B2 nb wr X' c' L' v) (hg : wr.grownBy w' row) (hr : ∀ r, row = some r → B ≤ r ∧ ∃ o : Obj, wr.heap[r]? = some o ∧ o.isCells = false) (hB : w.heap.size ≤ B) (hnb : nb < B) : Sm w B2 nb w' X' c' L' v :=
  ⟨h.s.same (fun k hk => hg.block k (h.s.ge k hk).2 (fun e => by have := (hr k e.symm).1; have := h.lt k hk; omega)),
   ownFrom_below (β := Unit) (Nat.le_refl _) hB () _ _ _ h.b hg hr, boxed_kept h.box hg (fun r e => (hr r e).2), h.lt, h.le⟩
theorem Sm.pop {x : ByteArray} (h : Sm w B2 nb wr X' c' (x :: L') v) :
    Calls Try.prog 28 #[.pointer (some ⟨B2, 0, none⟩)] wr fun e w' => e = .returned (.tuple #[.string x, .bool true]) ∧ Sm w B2 nb w' X' c' L' v ∧ Kept X' wr w' := by
  refine (hpopS h.s).mono ?_
  rintro e w' ⟨rfl, h1, h2⟩
  have hn := h.ge
  exact ⟨rfl, ⟨h1, h.b.trans (h2.below h.b.size (fun k hm => by have := (h.s.ge k hm).1; have := h.le; omega)), (h2.block nb h.box.lt (fun hm => by have := h.lt nb hm; omega)).trans h.box, h.lt, h.le⟩, h2⟩
end
end Go.Proofs.Ytebbpgokhelmdaa
