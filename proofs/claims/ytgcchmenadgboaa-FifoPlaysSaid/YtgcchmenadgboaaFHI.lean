/- A queue within a walk. -/
import Derived.Test.YtgcchmenadgboaaFGI
namespace Go.Proofs.Ytgcchmenadgboaa
open Go.RowKit
set_option linter.unusedVariables false
set_option linter.unusedSimpArgs false

/-- From w on nothing has turned that was there; b is a queue since then. -/
structure InI (w0 : World) (b N : Nat) (L : List Int) (w : World) : Prop where
  h : ∃ B X, QsI B w b X N L ∧ w0.heap.size ≤ B
  b : Below w0.heap.size w0 w
section
variable {w0 w w' : World} {b N : Nat} {L : List Int}
theorem InI.later (h : InI w0 b N L w) (hb : Below w.heap.size w w') : InI w0 b N L w' := by
  obtain ⟨B, X, h1, h2⟩ := h.h
  exact ⟨⟨B, X, h1.later hb, h2⟩, h.b.trans (hb.mono h.b.size)⟩
theorem InI.len_le (h : InI w0 b N L w) : L.length ≤ N := by
  obtain ⟨B, X, h1, h2⟩ := h.h
  exact h1.len_le
theorem InI.lim (h : InI w0 b N L w) : N ≤ 1000000 := by
  obtain ⟨B, X, h1, h2⟩ := h.h
  exact h1.lim
theorem InI.ge (h : InI w0 b N L w) : w0.heap.size ≤ b ∧ b < w.heap.size := by
  obtain ⟨B, X, h1, h2⟩ := h.h
  have := h1.ge b h1.mem
  omega
theorem InI.len {n : Int} (h : InI w0 b N L w) (hn : (L.length : Int) = n) : Calls Try.prog 20 #[.pointer (some ⟨b, 0, none⟩)] w fun e w' => e = .returned (.int .i64 n) ∧ w = w' := by
  obtain ⟨B, X, h1, h2⟩ := h.h
  rw [← hn]
  exact qlenI h1
theorem InI.room (h : InI w0 b N L w) : Calls Try.prog 21 #[.pointer (some ⟨b, 0, none⟩)] w fun e w' => e = .returned (.int .i64 (N : Int)) ∧ w = w' := by
  obtain ⟨B, X, h1, h2⟩ := h.h
  exact qroomI h1
theorem InI.at' {i : Nat} {x : Int} (h : InI w0 b N L w) (hx : L[i]? = some x) : Calls Try.prog 23 #[.pointer (some ⟨b, 0, none⟩), .int .i64 (i : Int)] w (Told (.tuple #[.int .i64 x, .bool true]) w) := by
  obtain ⟨B, X, h1, h2⟩ := h.h
  exact qatI h1 hx
theorem InI.out {i : Int} (h : InI w0 b N L w) (hi : i < 0 ∨ (L.length : Int) ≤ i) : Calls Try.prog 23 #[.pointer (some ⟨b, 0, none⟩), .int .i64 i] w (Told (.tuple #[.int .i64 0, .bool false]) w) := by
  obtain ⟨B, X, h1, h2⟩ := h.h
  exact qat_outI h1 hi
def InPI (v : Value) (w0 : World) (b N : Nat) (L : List Int) (e : Ending) (w' : World) : Prop := e = .returned v ∧ InI w0 b N L w'
theorem InI.push (h : InI w0 b N L w) (x : Int) (hN : N ≤ 10000) : Calls Try.prog 12 #[.pointer (some ⟨b, 0, none⟩), .int .i64 x] w (InPI (.tuple #[]) w0 b (roomUpI N L.length) (L ++ [x])) := by
  obtain ⟨B, X, h1, h2⟩ := h.h
  refine (qpushI h1 x hN).mono ?_
  rintro e w' ⟨rfl, X', h3, h4, h5⟩
  exact ⟨rfl, ⟨B, X', h3, h2⟩, h.b.trans (h4.below h.b.size (fun k hk => by have := (h1.ge k hk).1; omega))⟩
theorem InI.pop {x : Int} (h : InI w0 b N (x :: L) w) : Calls Try.prog 13 #[.pointer (some ⟨b, 0, none⟩)] w (InPI (.tuple #[.int .i64 x, .bool true]) w0 b N L) := by
  obtain ⟨B, X, h1, h2⟩ := h.h
  refine (qpopI h1).mono ?_
  rintro e w' ⟨rfl, h3, h4⟩
  exact ⟨rfl, ⟨B, X, h3, h2⟩, h.b.trans (h4.below h.b.size (fun k hk => by have := (h1.ge k hk).1; omega))⟩
theorem InI.none (h : InI w0 b N [] w) : Calls Try.prog 13 #[.pointer (some ⟨b, 0, none⟩)] w (InPI (.tuple #[.int .i64 0, .bool false]) w0 b N []) := by
  obtain ⟨B, X, h1, h2⟩ := h.h
  refine (qnoneI h1).mono ?_
  rintro e w' ⟨rfl, h3⟩
  exact ⟨rfl, h.later h3⟩
end
def InNI (w0 : World) (b n : Nat) (L : List Int) (e : Ending) (w' : World) : Prop := e = .returned (.pointer (some ⟨b, 0, none⟩)) ∧ InI w0 b n L w'
theorem in_newI {A : Option Addr} {n c : Nat} {xs : List Int} {w0 w : World} (hB : Below w0.heap.size w0 w) (hR : RowOI w A n c xs) (h1 : n ≤ 1000000) : Calls Try.prog 9 #[.slice A n c] w (InNI w0 w.heap.size n xs) := by
  refine (qnewI w hR h1).mono ?_
  rintro e w' ⟨rfl, ⟨X, h2⟩, h3⟩
  exact ⟨rfl, ⟨w.heap.size, X, h2, hB.size⟩, hB.trans (h3.mono hB.size)⟩
theorem row_noneI (w : World) : RowOI w Option.none 0 0 [] := ⟨rfl, fun _ => ⟨rfl, rfl⟩, fun a e => by cases e⟩
end Go.Proofs.Ytgcchmenadgboaa
