/- A queue within a walk. -/
import Derived.Test.YtgcchmenadgboaaFGS
namespace Go.Proofs.Ytgcchmenadgboaa
open Go.RowKit
set_option linter.unusedVariables false
set_option linter.unusedSimpArgs false

/-- From w on nothing has turned that was there; b is a queue since then. -/
structure InS (w0 : World) (b N : Nat) (L : List ByteArray) (w : World) : Prop where
  h : ∃ B X, QsS B w b X N L ∧ w0.heap.size ≤ B
  b : Below w0.heap.size w0 w
section
variable {w0 w w' : World} {b N : Nat} {L : List ByteArray}
theorem InS.later (h : InS w0 b N L w) (hb : Below w.heap.size w w') : InS w0 b N L w' := by
  obtain ⟨B, X, h1, h2⟩ := h.h
  exact ⟨⟨B, X, h1.later hb, h2⟩, h.b.trans (hb.mono h.b.size)⟩
theorem InS.len_le (h : InS w0 b N L w) : L.length ≤ N := by
  obtain ⟨B, X, h1, h2⟩ := h.h
  exact h1.len_le
theorem InS.lim (h : InS w0 b N L w) : N ≤ 1000000 := by
  obtain ⟨B, X, h1, h2⟩ := h.h
  exact h1.lim
theorem InS.ge (h : InS w0 b N L w) : w0.heap.size ≤ b ∧ b < w.heap.size := by
  obtain ⟨B, X, h1, h2⟩ := h.h
  have := h1.ge b h1.mem
  omega
theorem InS.len {n : Int} (h : InS w0 b N L w) (hn : (L.length : Int) = n) : Calls Try.prog 19 #[.pointer (some ⟨b, 0, none⟩)] w fun e w' => e = .returned (.int .i64 n) ∧ w = w' := by
  obtain ⟨B, X, h1, h2⟩ := h.h
  rw [← hn]
  exact qlenS h1
def InPS (v : Value) (w0 : World) (b N : Nat) (L : List ByteArray) (e : Ending) (w' : World) : Prop := e = .returned v ∧ InS w0 b N L w'
theorem InS.push (h : InS w0 b N L w) (x : ByteArray) (hN : N ≤ 10000) : Calls Try.prog 17 #[.pointer (some ⟨b, 0, none⟩), .string x] w (InPS (.tuple #[]) w0 b (roomUpS N L.length) (L ++ [x])) := by
  obtain ⟨B, X, h1, h2⟩ := h.h
  refine (qpushS h1 x hN).mono ?_
  rintro e w' ⟨rfl, X', h3, h4, h5⟩
  exact ⟨rfl, ⟨B, X', h3, h2⟩, h.b.trans (h4.below h.b.size (fun k hk => by have := (h1.ge k hk).1; omega))⟩
theorem InS.pop {x : ByteArray} (h : InS w0 b N (x :: L) w) : Calls Try.prog 18 #[.pointer (some ⟨b, 0, none⟩)] w (InPS (.tuple #[.string x, .bool true]) w0 b N L) := by
  obtain ⟨B, X, h1, h2⟩ := h.h
  refine (qpopS h1).mono ?_
  rintro e w' ⟨rfl, h3, h4⟩
  exact ⟨rfl, ⟨B, X, h3, h2⟩, h.b.trans (h4.below h.b.size (fun k hk => by have := (h1.ge k hk).1; omega))⟩
theorem InS.none (h : InS w0 b N [] w) : Calls Try.prog 18 #[.pointer (some ⟨b, 0, none⟩)] w (InPS (.tuple #[.string { data := #[] }, .bool false]) w0 b N []) := by
  obtain ⟨B, X, h1, h2⟩ := h.h
  refine (qnoneS h1).mono ?_
  rintro e w' ⟨rfl, h3⟩
  exact ⟨rfl, h.later h3⟩
end
def InNS (w0 : World) (b n : Nat) (L : List ByteArray) (e : Ending) (w' : World) : Prop := e = .returned (.pointer (some ⟨b, 0, none⟩)) ∧ InS w0 b n L w'
theorem in_newS {A : Option Addr} {n c : Nat} {xs : List ByteArray} {w0 w : World} (hB : Below w0.heap.size w0 w) (hR : RowOS w A n c xs) (h1 : n ≤ 1000000) : Calls Try.prog 16 #[.slice A n c] w (InNS w0 w.heap.size n xs) := by
  refine (qnewS w hR h1).mono ?_
  rintro e w' ⟨rfl, ⟨X, h2⟩, h3⟩
  exact ⟨rfl, ⟨w.heap.size, X, h2, hB.size⟩, hB.trans (h3.mono hB.size)⟩
theorem row_noneS (w : World) : RowOS w Option.none 0 0 [] := ⟨rfl, fun _ => ⟨rfl, rfl⟩, fun a e => by cases e⟩
end Go.Proofs.Ytgcchmenadgboaa
