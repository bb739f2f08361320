/- A queue beside boxes. -/
import Derived.Test.YtgcchmenadgboaaFIn
namespace Go.Proofs.Ytgcchmenadgboaa
open Go.RowKit Go.Shelf
set_option linter.unusedVariables false
set_option linter.unusedSimpArgs false

/-- A queue, and boxes that are none of its blocks. -/
structure St (w : World) (B b N : Nat) (X : List Nat) (L : List Int) (bs : List (Nat × TypeId × Value)) (V : World) : Prop where
  q : QsI B V b X N L
  bx : ∀ p ∈ bs, Boxed V p.1 p.2.1 p.2.2
  out : ∀ p ∈ bs, p.1 ∉ X
  b : Below w.heap.size w V
  ge : w.heap.size ≤ B
  bge : ∀ p ∈ bs, w.heap.size ≤ p.1
section
variable {w V V' : World} {B b N : Nat} {X : List Nat} {L : List Int} {bs bs' : List (Nat × TypeId × Value)}
theorem St.later (h : St w B b N X L bs V) (hb : Below V.heap.size V V') : St w B b N X L bs V' :=
  ⟨h.q.later hb, fun p hp => (hb.block _ (h.bx p hp).lt).trans (h.bx p hp), h.out, h.b.trans (hb.mono h.b.size), h.ge, h.bge⟩
theorem St.own {row : Option Nat} {D : Nat} (h : St w B b N X L bs V) (hg : V.grownBy V' row) (hr : ∀ r, row = some r → D ≤ r ∧ ∃ o : Obj, V.heap[r]? = some o ∧ o.isCells = false) (hB : w.heap.size ≤ D) : St w B b N X L bs V' := by
  obtain ⟨v, f, h1, rfl⟩ := h.q.ex
  have hk := fun {k : Nat} {o : Obj} (hh : V.heap[k]? = some o) (ho : o.isCells = true) => grownBy_keeps_cells hg (fun r e => (hr r e).2) hh ho
  refine ⟨⟨v, f, ⟨h1.hB, (hk h1.is rfl).trans h1.is, ?_, h1.lim⟩, rfl⟩, fun p hp => boxed_kept (h.bx p hp) hg (fun r e => (hr r e).2), h.out, h.b.grown hg h.b.size (fun k e => by have := (hr k e).1; omega), h.ge, h.bge⟩
  rcases h1.ring with h2 | ⟨g, cur, rfl, a1, a2, r⟩
  · exact .inl h2
  · exact .inr ⟨g, cur, rfl, a1, (hk a2 rfl).trans a2, r⟩
/-- A box gets another value. -/
theorem St.set (h : St w B b N X L bs V) {c : Nat} {t : TypeId} {v : Value} (u : Value) (hm : (c, t, v) ∈ bs) (hs : ∀ p ∈ bs', p = (c, t, u) ∨ (p ∈ bs ∧ p.1 ≠ c)) : St w B b N X L bs' (V.setCell ⟨c, 0, none⟩ u) := by
  have hc := h.out _ hm
  have hg := h.bge _ hm
  have hk : Kept [c] V (V.setCell ⟨c, 0, none⟩ u) := (Kept.refl _ _).set c 0 u (by simp)
  refine ⟨h.q.kept hk (fun j hj he => by simp at he; rw [he] at hj; exact hc hj), fun p hp => ?_, fun p hp => ?_, h.b.setCell hg _, h.ge, fun p hp => ?_⟩
  · rcases hs p hp with rfl | ⟨h1, h2⟩
    · exact Boxed.set u (h.bx _ hm)
    · exact (Below.heap_setCell _ _ _ _ h2).trans (h.bx p h1)
  · rcases hs p hp with rfl | ⟨h1, _⟩
    · exact hc
    · exact h.out p h1
  · rcases hs p hp with rfl | ⟨h1, _⟩
    · exact hg
    · exact h.bge p h1
/-- A new box. -/
theorem St.new (h : St w B b N X L bs V) (t : TypeId) (v : Value) : St w B b N X L ((V.heap.size, t, v) :: bs) (V.alloc (.cells #[v] t)) := by
  have h1 := h.later ((Below.refl _ V).alloc (Nat.le_refl _) (.cells #[v] t))
  refine ⟨h1.q, fun p hp => ?_, fun p hp => ?_, h1.b, h.ge, fun p hp => ?_⟩
  · rcases List.mem_cons.1 hp with rfl | hp
    · exact Boxed.new _ _ _
    · exact h1.bx p hp
  · rcases List.mem_cons.1 hp with rfl | hp
    · intro hm
      have := (h.q.ge _ hm).2
      simp at this
    · exact h.out p hp
  · rcases List.mem_cons.1 hp with rfl | hp
    · exact h.b.size
    · exact h.bge p hp
theorem St.sub (h : St w B b N X L bs V) (hs : ∀ p ∈ bs', p ∈ bs) : St w B b N X L bs' V := ⟨h.q, fun p hp => h.bx p (hs p hp), fun p hp => h.out p (hs p hp), h.b, h.ge, fun p hp => h.bge p (hs p hp)⟩
def StP (v : Value) (w : World) (B b N : Nat) (X : List Nat) (L : List Int) (bs : List (Nat × TypeId × Value)) (V : World) (e : Ending) (V' : World) : Prop := e = .returned v ∧ St w B b N X L bs V' ∧ KeepsOthers V V'
theorem st_pop {x : Int} (h : St w B b N X (x :: L) bs V) : Calls Try.prog 13 #[.pointer (some ⟨b, 0, none⟩)] V (StP (.tuple #[.int .i64 x, .bool true]) w B b N X L bs V) := by
  refine (qpopI h.q).mono ?_
  rintro e V' ⟨rfl, h3, h4⟩
  refine ⟨rfl, ⟨h3, fun p hp => (h4.block _ (h.bx p hp).lt (h.out p hp)).trans (h.bx p hp), h.out, h.b.trans (h4.below h.b.size (fun k hk => by have := (h.q.ge k hk).1; have := h.ge; omega)), h.ge, h.bge⟩, h.q.others h4⟩
theorem st_len {n : Int} (h : St w B b N X L bs V) (hn : (L.length : Int) = n) : Calls Try.prog 20 #[.pointer (some ⟨b, 0, none⟩)] V fun e w' => e = .returned (.int .i64 n) ∧ V = w' := by
  rw [← hn]
  exact qlenI h.q
theorem st_things (h : St w B b N X L bs V) : Calls Try.prog 25 #[.pointer (some ⟨b, 0, none⟩)] V (RowPI V V.heap.size L.length L) := by
  obtain ⟨v, f, h1, rfl⟩ := h.q.ex
  exact things_anyI V h1
/-- The word of the iterator that All tells. -/
theorem st_all {bq : Nat} (n : Nat) (hn1 : 1 ≤ n) (Y : List Nat) (h : St w B b N X L bs V) (hl : L.length ≤ 1000000) (hq : (bq, 24, .pointer (some ⟨b, 0, none⟩)) ∈ bs) (hY : ∀ k ∈ Y, k < V.heap.size) :
    SeqA (fun x : Int × Nat => #[.int .i64 (x.2 : Int), .int .i64 x.1]) n 33 #[.pointer (some ⟨bq, 0, none⟩)] Y (prs L) V :=
  all_seq n hn1 _ bq Y L V hl (h.bx _ hq) (fun W hW => st_things (h.later hW)) hY
end
/-- A thing of a row that came in, with the address as the walk reckons it. -/
theorem RowOI.at {w : World} {A : Option Addr} {n c i : Nat} {xs : List Int} {x : Int} (h : RowOI w A n c xs) (hx : xs[i]? = some x) : ∃ b o, A = some ⟨b, o, none⟩ ∧ b < w.heap.size ∧ w.cell? ⟨b, o + i, none⟩ = some (.int .i64 x) := by
  cases A with
  | none =>
    have h1 := h.nil rfl
    have h2 := (List.getElem?_eq_some_iff.1 hx).1
    have := h.len
    omega
  | some a =>
    obtain ⟨b, o, sp⟩ := a
    have hi := (List.getElem?_eq_some_iff.1 hx).1
    obtain ⟨y, hy⟩ : ∃ y, xs[0]? = some y := ⟨xs[0]'(by omega), List.getElem?_eq_getElem _⟩
    have h0 := h.row _ rfl 0 y hy
    have hb : b < w.heap.size ∧ sp = none := by
      simp only [Addr.add, if_true, World.cell?] at h0
      split at h0
      · rename_i e
        refine ⟨(Array.getElem?_eq_some_iff.1 e).1, ?_⟩
        cases sp with
        | none => rfl
        | some s => simp at h0
      · cases h0
    obtain ⟨hb, rfl⟩ := hb
    have h1 := h.row _ rfl i x hx
    rw [add_none] at h1
    exact ⟨b, o, rfl, hb, h1⟩
theorem RowOI.get {w : World} {rb ro n c i : Nat} {xs : List Int} {x : Int} (h : RowOI w (some ⟨rb, ro, none⟩) n c xs) (hx : xs[i]? = some x) : w.cell? ⟨rb, ro + i, none⟩ = some (.int .i64 x) := by
  obtain ⟨b, o, e, _, h0⟩ := h.at hx
  cases e
  exact h0
/-- What is told at a place. -/
theorem prs_at {L : List Int} {pre r : List (Int × Nat)} {x : Int × Nat} (h : prs L = pre ++ x :: r) : x.2 = pre.length ∧ L[pre.length]? = some x.1 ∧ pre.length < L.length := by
  have hlen : pre.length < L.length := by
    have := congrArg List.length h
    rw [prs_len] at this
    simp at this; omega
  have e : (prs L)[pre.length]? = some x := by rw [h]; simp
  rw [prs, List.getElem?_zipIdx, Option.map_eq_some_iff] at e
  obtain ⟨y, h1, h2⟩ := e
  subst h2
  exact ⟨by simp, h1, hlen⟩
end Go.Proofs.Ytgcchmenadgboaa
