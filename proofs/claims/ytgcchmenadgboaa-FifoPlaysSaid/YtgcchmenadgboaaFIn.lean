/- A queue within a walk that ranges over functions. -/
import Derived.Test.YtgcchmenadgboaaFAll
namespace Go.Proofs.Ytgcchmenadgboaa
open Go.RowKit Go.Shelf
set_option linter.unusedVariables false
set_option linter.unusedSimpArgs false

theorem run_eql_seq (fn : Fn) (a b : Array Value) (w : World) : (binOp .eql 46 (.func fn a b) .nilFunc).run Try.prog w = .ok (.bool false) w := by
  have h : ∀ d, (Op.equalIn (d + 1) 46 (.func fn a b) .nilFunc).run Try.prog w = .ok false w := fun d => by simp [Op.equalIn, run_underlying Try.underlying46]
  simp only [binOp]
  simp [Op.equal, Op.maxDepth, h 9999]
theorem InI.own {w0 W W' : World} {b N B : Nat} {L : List Int} {row : Option Nat} (h : InI w0 b N L W) (hg : W.grownBy W' row) (hr : ∀ r, row = some r → B ≤ r ∧ ∃ o : Obj, W.heap[r]? = some o ∧ o.isCells = false) (hB : w0.heap.size ≤ B) : InI w0 b N L W' := by
  obtain ⟨B1, X, ⟨v, f, h1, rfl⟩, h3⟩ := h.h
  have hk := fun {k : Nat} {o : Obj} (hh : W.heap[k]? = some o) (ho : o.isCells = true) => grownBy_keeps_cells hg (fun r e => (hr r e).2) hh ho
  refine ⟨⟨B1, blk b v, ⟨v, f, ⟨h1.hB, (hk h1.is rfl).trans h1.is, ?_, h1.lim⟩, rfl⟩, h3⟩, h.b.grown hg h.b.size (fun k e => by have := (hr k e).1; omega)⟩
  rcases h1.ring with h2 | ⟨g, cur, rfl, a1, a2, r⟩
  · exact .inl h2
  · exact .inr ⟨g, cur, rfl, a1, (hk a2 rfl).trans a2, r⟩
theorem InI.box {w0 W : World} {b N c : Nat} {L : List Int} {t : TypeId} {v : Value} (h : InI w0 b N L W) (hb : Boxed w0 c t v) : Boxed W c t v := (h.b.block c hb.lt).trans hb
theorem QsI.others {B : Nat} {w w' : World} {b N : Nat} {X : List Nat} {L : List Int} (h : QsI B w b X N L) (hk : Kept X w w') : KeepsOthers w w' := by
  obtain ⟨v, f, h1, rfl⟩ := h.ex
  refine ⟨hk.size, fun k o ho hc => (hk.block k (Array.getElem?_eq_some_iff.1 ho).1 (fun hm => ?_)).trans ho⟩
  simp only [blk, List.mem_cons] at hm
  rcases hm with rfl | hm
  · rw [h1.is] at ho; cases ho; simp [Obj.isCells] at hc
  · rcases h1.ring with ⟨rfl, _⟩ | ⟨g, cur, rfl, _, hh, _⟩
    · simp [Value.ownBlock] at hm
    · simp [Value.ownBlock] at hm
      subst hm
      rw [hh] at ho; cases ho; simp [Obj.isCells] at hc
def InPI2 (v : Value) (w0 : World) (b N : Nat) (L : List Int) (w : World) (e : Ending) (w' : World) : Prop := e = .returned v ∧ InI w0 b N L w' ∧ KeepsOthers w w'
section
variable {w0 w w' : World} {b N : Nat} {L : List Int}
theorem in_push2 (h : InI w0 b N L w) (x : Int) (hN : N ≤ 10000) : Calls Try.prog 12 #[.pointer (some ⟨b, 0, none⟩), .int .i64 x] w (InPI2 (.tuple #[]) w0 b (roomUpI N L.length) (L ++ [x]) w) := by
  obtain ⟨B, X, h1, h2⟩ := h.h
  refine (qpushI h1 x hN).mono ?_
  rintro e w' ⟨rfl, X', h3, h4, h5⟩
  exact ⟨rfl, ⟨⟨B, X', h3, h2⟩, h.b.trans (h4.below h.b.size (fun k hk => by have := (h1.ge k hk).1; omega))⟩, h1.others h4⟩
theorem in_pop2 {x : Int} (h : InI w0 b N (x :: L) w) : Calls Try.prog 13 #[.pointer (some ⟨b, 0, none⟩)] w (InPI2 (.tuple #[.int .i64 x, .bool true]) w0 b N L w) := by
  obtain ⟨B, X, h1, h2⟩ := h.h
  refine (qpopI h1).mono ?_
  rintro e w' ⟨rfl, h3, h4⟩
  exact ⟨rfl, ⟨⟨B, X, h3, h2⟩, h.b.trans (h4.below h.b.size (fun k hk => by have := (h1.ge k hk).1; omega))⟩, h1.others h4⟩
theorem in_things (h : InI w0 b N L w) : Calls Try.prog 25 #[.pointer (some ⟨b, 0, none⟩)] w (RowPI w w.heap.size L.length L) := by
  obtain ⟨B, X, ⟨v, f, h1, rfl⟩, h2⟩ := h.h
  exact things_anyI w h1
end
end Go.Proofs.Ytgcchmenadgboaa
