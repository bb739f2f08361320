/- Both queues go on alike. -/
import Derived.Test.YtgcchmenadgboaaFLk
namespace Go.Proofs.Ytgcchmenadgboaa
open Go.RowKit
set_option linter.unusedVariables false
set_option linter.unusedSimpArgs false
/-- Both queues since w0. -/
structure Pl (w0 : World) (b bm N most : Nat) (L M : List Int) (V : World) : Prop where
  ex : ∃ B X Y, QsI B V b X N L ∧ MQ V bm Y most M ∧ (∀ k ∈ X, k ∉ Y) ∧ w0.heap.size ≤ B ∧ ∀ k ∈ Y, w0.heap.size ≤ k ∧ k < V.heap.size
  b : Below w0.heap.size w0 V
section
variable {w0 V V' : World} {b bm N most : Nat} {L M : List Int}
theorem Pl.later (h : Pl w0 b bm N most L M V) (hb : Below V.heap.size V V') : Pl w0 b bm N most L M V' := by
  obtain ⟨B, X, Y, h1, h2, h3, h4, h5⟩ := h.ex
  exact ⟨⟨B, X, Y, h1.later hb, h2.later hb, h3, h4, fun k hk => ⟨(h5 k hk).1, Nat.lt_of_lt_of_le (h5 k hk).2 hb.size⟩⟩, h.b.trans (hb.mono h.b.size)⟩
def PlP (v : Value) (w0 : World) (b bm N most : Nat) (L M : List Int) (e : Ending) (V' : World) : Prop := e = .returned v ∧ Pl w0 b bm N most L M V'
theorem Pl.kq {X Y : List Nat} {B : Nat} (h : Pl w0 b bm N most L M V) (h1 : QsI B V b X N L) (h2 : MQ V bm Y most M) (h3 : ∀ k ∈ X, k ∉ Y) (h4 : w0.heap.size ≤ B) (h5 : ∀ k ∈ Y, w0.heap.size ≤ k ∧ k < V.heap.size)
    {X' : List Nat} {N' : Nat} {L' : List Int} (g1 : QsI B V' b X' N' L') (g2 : Kept X V V') (g3 : ∀ k ∈ X', k ∈ X ∨ V.heap.size ≤ k) : Pl w0 b bm N' most L' M V' := by
  refine ⟨⟨B, X', Y, g1, h2.kept g2 (fun k hk hx => h3 k hx hk), fun k hk hy => ?_, h4, fun k hk => ⟨(h5 k hk).1, Nat.lt_of_lt_of_le (h5 k hk).2 g2.size⟩⟩, h.b.trans (g2.below h.b.size (fun k hk => by have := (h1.ge k hk).1; omega))⟩
  rcases g3 k hk with h | h
  · exact h3 k h hy
  · have := (h5 k hy).2; omega
theorem Pl.pushQ (h : Pl w0 b bm N most L M V) (x : Int) (hN : N ≤ 10000) : Calls Try.prog 12 #[.pointer (some ⟨b, 0, Option.none⟩), .int .i64 x] V (PlP (.tuple #[]) w0 b bm (roomUpI N L.length) most (L ++ [x]) M) := by
  obtain ⟨B, X, Y, h1, h2, h3, h4, h5⟩ := h.ex
  refine (qpushI h1 x hN).mono ?_
  rintro e V' ⟨rfl, X', g1, g2, g3⟩
  exact ⟨rfl, h.kq h1 h2 h3 h4 h5 g1 g2 g3⟩
theorem Pl.popQ {x : Int} (h : Pl w0 b bm N most (x :: L) M V) : Calls Try.prog 13 #[.pointer (some ⟨b, 0, Option.none⟩)] V (PlP (.tuple #[.int .i64 x, .bool true]) w0 b bm N most L M) := by
  obtain ⟨B, X, Y, h1, h2, h3, h4, h5⟩ := h.ex
  refine (qpopI h1).mono ?_
  rintro e V' ⟨rfl, g1, g2⟩
  exact ⟨rfl, h.kq h1 h2 h3 h4 h5 g1 g2 (fun k hk => .inl hk)⟩
theorem Pl.noneQ (h : Pl w0 b bm N most [] M V) : Calls Try.prog 13 #[.pointer (some ⟨b, 0, Option.none⟩)] V (PlP (.tuple #[.int .i64 0, .bool false]) w0 b bm N most [] M) := by
  obtain ⟨B, X, Y, h1, h2, h3, h4, h5⟩ := h.ex
  refine (qnoneI h1).mono ?_
  rintro e V' ⟨rfl, g1⟩
  exact ⟨rfl, h.later g1⟩
theorem Pl.km {X Y : List Nat} {B : Nat} (h : Pl w0 b bm N most L M V) (h1 : QsI B V b X N L) (h2 : MQ V bm Y most M) (h3 : ∀ k ∈ X, k ∉ Y) (h4 : w0.heap.size ≤ B) (h5 : ∀ k ∈ Y, w0.heap.size ≤ k ∧ k < V.heap.size)
    {Y' : List Nat} {most' : Nat} {M' : List Int} (g1 : MQ V' bm Y' most' M') (g2 : Kept [bm] V V') (g3 : ∀ k ∈ Y', (k = bm ∨ V.heap.size ≤ k) ∨ k ∈ Y) (g4 : ∀ k ∈ Y', k < V'.heap.size) : Pl w0 b bm N most' L M' V' := by
  have hbm := h5 bm h2.mem
  refine ⟨⟨B, X, Y', h1.kept g2 (fun k hk hx => h3 k hk (by simp at hx; rw [hx]; exact h2.mem)), g1, fun k hk hy => ?_, h4, fun k hk => ⟨?_, g4 k hk⟩⟩, h.b.trans (g2.below h.b.size (by simp; exact hbm.1))⟩
  · rcases g3 k hy with (rfl | h) | h
    · exact h3 k hk h2.mem
    · have := (h1.ge k hk).2; omega
    · exact h3 k hk h
  · rcases g3 k hk with (rfl | h') | h'
    · exact hbm.1
    · have := h.b.size; omega
    · exact (h5 k h').1
theorem Pl.pushM (h : Pl w0 b bm N most L M V) (x : Int) (hn : M.length ≤ 100000) (hm : most ≤ 100000) : Calls Try.prog 10 #[.pointer (some ⟨bm, 0, Option.none⟩), .int .i64 x] V (PlP (.tuple #[]) w0 b bm N (max most (M.length + 1)) L (M ++ [x])) := by
  obtain ⟨B, X, Y, h1, h2, h3, h4, h5⟩ := h.ex
  refine (mpush x h2 hn hm).mono ?_
  rintro e V' ⟨rfl, Y', g1, g2, g3⟩
  obtain ⟨A, c, hb, hR⟩ := g1.ex
  -- the blocks that are told are there
  rcases hR with ⟨rfl, hL, rfl⟩ | ⟨g, o, cs, rfl, m1, m2, m3, m4, m5, m6⟩
  · refine ⟨rfl, h.km h1 h2 h3 h4 h5 (Y' := [bm]) ⟨⟨_, _, hb, .inl ⟨rfl, hL, rfl⟩⟩, by simp⟩ g2 (fun k hk => .inl (.inl (by simpa using hk))) (fun k hk => ?_)⟩
    simp at hk; subst hk; exact g1.lt
  · refine ⟨rfl, h.km h1 h2 h3 h4 h5 (Y' := [bm, g]) ⟨⟨_, _, hb, .inr ⟨g, o, cs, rfl, by simp, m2, m3, m4, m5, m6⟩⟩, by simp⟩ g2 (fun k hk => ?_) (fun k hk => ?_)⟩
    · simp at hk
      rcases hk with rfl | rfl
      · exact .inl (.inl rfl)
      · exact .inl (g3 _ m1)
    · simp at hk
      rcases hk with rfl | rfl
      · exact g1.lt
      · exact (Array.getElem?_eq_some_iff.1 m5).1
theorem Pl.popM {x : Int} (h : Pl w0 b bm N most L (x :: M) V) (hn : M.length ≤ 100000) : Calls Try.prog 14 #[.pointer (some ⟨bm, 0, Option.none⟩)] V (PlP (.int .i64 x) w0 b bm N most L M) := by
  obtain ⟨B, X, Y, h1, h2, h3, h4, h5⟩ := h.ex
  refine (mpop h2 hn).mono ?_
  rintro e V' ⟨rfl, g1, g2⟩
  exact ⟨rfl, h.km h1 h2 h3 h4 h5 g1 g2 (fun k hk => .inr hk) (fun k hk => Nat.lt_of_lt_of_le (h5 k hk).2 g2.size)⟩
theorem Pl.noneM (h : Pl w0 b bm N most L [] V) : Calls Try.prog 14 #[.pointer (some ⟨bm, 0, Option.none⟩)] V (PlP (.int .i64 0) w0 b bm N most L []) := by
  obtain ⟨B, X, Y, h1, h2, h3, h4, h5⟩ := h.ex
  refine (mnone h2).mono ?_
  rintro e V' ⟨rfl, rfl⟩
  exact ⟨rfl, h⟩
theorem Pl.looks (h : Pl w0 b bm N most L L V) (hN : N ≤ 8 + 4 * most) (hL : L.length ≤ 1000) (hm : most ≤ 1000) : Calls Try.prog 15 #[.pointer (some ⟨b, 0, Option.none⟩), .pointer (some ⟨bm, 0, Option.none⟩)] V (PlP (.bool true) w0 b bm N most L L) := by
  obtain ⟨B, X, Y, h1, h2, h3, h4, h5⟩ := h.ex
  refine (looks_any V h1 h2 hN hL hm).mono ?_
  rintro e V' ⟨rfl, hb⟩
  exact ⟨rfl, h.later hb⟩
/-- What the row's own cell tells. -/
theorem Pl.cell (h : Pl w0 b bm N most L M V) : ∃ A c, V.cell? ⟨bm, 0, Option.none⟩ = some (.slice A M.length c) := by
  obtain ⟨B, X, Y, h1, h2, h3, h4, h5⟩ := h.ex
  obtain ⟨A, c, hb, hR⟩ := h2.ex
  exact ⟨A, c, cell_of_row V bm 0 _ _ _ hb⟩
end
end Go.Proofs.Ytgcchmenadgboaa
