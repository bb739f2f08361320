/- A queue by what it tells. -/
import Derived.Test.YtgcchmenadgboaaFFS
namespace Go.Proofs.Ytgcchmenadgboaa
open Go.RowKit
set_option linter.unusedVariables false
set_option linter.unusedSimpArgs false

/-- How much room there is behind one more. -/
def roomUpS (N n : Nat) : Nat := if n = N then 2 * N + 4 else N
/-- Block b is a queue, its blocks are X, it has room for N, and tells L. -/
structure QsS (B : Nat) (w : World) (b : Nat) (X : List Nat) (N : Nat) (L : List ByteArray) : Prop where
  ex : ∃ v f, FQS B w b v N f L ∧ blk b v = X
section
variable {B : Nat} {w w' : World} {b N : Nat} {X : List Nat} {L : List ByteArray}
theorem QsS.kept {Y : List Nat} (h : QsS B w b X N L) (hk : Kept Y w w') (hx : ∀ k ∈ X, k ∉ Y) : QsS B w' b X N L := by
  obtain ⟨v, f, h1, rfl⟩ := h.ex
  exact ⟨v, f, h1.kept hk hx, rfl⟩
theorem QsS.later (h : QsS B w b X N L) (hb : Below w.heap.size w w') : QsS B w' b X N L := h.kept (Kept.of [] hb) (by simp)
theorem QsS.ge (h : QsS B w b X N L) : ∀ k ∈ X, B ≤ k ∧ k < w.heap.size := by
  obtain ⟨v, f, h1, rfl⟩ := h.ex
  exact h1.blk_ge
theorem QsS.len_le (h : QsS B w b X N L) : L.length ≤ N := by
  obtain ⟨v, f, h1, rfl⟩ := h.ex
  exact h1.len_le
theorem QsS.lim (h : QsS B w b X N L) : N ≤ 1000000 := by
  obtain ⟨v, f, h1, rfl⟩ := h.ex
  exact h1.lim
theorem QsS.mem (h : QsS B w b X N L) : b ∈ X := by
  obtain ⟨v, f, h1, rfl⟩ := h.ex
  simp [blk]
theorem qlenS (h : QsS B w b X N L) : Calls Try.prog 19 #[.pointer (some ⟨b, 0, none⟩)] w fun e w' => e = .returned (.int .i64 (L.length : Int)) ∧ w = w' := by
  obtain ⟨v, f, h1, rfl⟩ := h.ex
  exact len_anyS w h1
def QPushS (B b N : Nat) (X : List Nat) (L : List ByteArray) (w : World) (e : Ending) (w' : World) : Prop := e = .returned (.tuple #[]) ∧ ∃ X', QsS B w' b X' N L ∧ Kept X w w' ∧ ∀ k ∈ X', k ∈ X ∨ w.heap.size ≤ k
theorem qpushS (h : QsS B w b X N L) (x : ByteArray) (hN : N ≤ 10000) : Calls Try.prog 17 #[.pointer (some ⟨b, 0, none⟩), .string x] w (QPushS B b (roomUpS N L.length) X (L ++ [x]) w) := by
  have hle := h.len_le
  obtain ⟨v, f, h1, rfl⟩ := h.ex
  unfold roomUpS
  by_cases e : L.length = N
  · rw [if_pos e]
    refine (push_fullS x w h1 e hN).mono ?_
    rintro e w' ⟨rfl, v', f', h2, h3, h4⟩
    exact ⟨rfl, _, ⟨v', f', h2, rfl⟩, h3, h4⟩
  · rw [if_neg e]
    refine (push_roomS x w h1 (by omega)).mono ?_
    rintro e w' ⟨rfl, v', f', h2, h3, h4⟩
    exact ⟨rfl, _, ⟨v', f', h2, rfl⟩, h3, h4⟩
def QPopS (B b N : Nat) (X : List Nat) (x : ByteArray) (L : List ByteArray) (w : World) (e : Ending) (w' : World) : Prop := e = .returned (.tuple #[.string x, .bool true]) ∧ QsS B w' b X N L ∧ Kept X w w'
theorem qpopS {x : ByteArray} (h : QsS B w b X N (x :: L)) : Calls Try.prog 18 #[.pointer (some ⟨b, 0, none⟩)] w (QPopS B b N X x L w) := by
  obtain ⟨v, f, h1, rfl⟩ := h.ex
  refine (pop_someS w h1).mono ?_
  rintro e w' ⟨rfl, f', h2, h3⟩
  exact ⟨rfl, ⟨v, f', h2, rfl⟩, h3⟩
theorem qnoneS (h : QsS B w b X N []) : Calls Try.prog 18 #[.pointer (some ⟨b, 0, none⟩)] w (Told (.tuple #[.string { data := #[] }, .bool false]) w) := by
  obtain ⟨v, f, h1, rfl⟩ := h.ex
  exact (pop_noneS w h1).mono fun e w' h => h.told
end
def QNewS (n : Nat) (L : List ByteArray) (w : World) (e : Ending) (w' : World) : Prop := e = .returned (.pointer (some ⟨w.heap.size, 0, none⟩)) ∧ (∃ X, QsS w.heap.size w' w.heap.size X n L) ∧ Below w.heap.size w w'
theorem qnewS {A : Option Addr} {n c : Nat} {xs : List ByteArray} (w : World) (hR : RowOS w A n c xs) (h1 : n ≤ 1000000) : Calls Try.prog 16 #[.slice A n c] w (QNewS n xs w) := by
  refine (new_anyS w hR h1).mono ?_
  rintro e w' ⟨rfl, v, h2, h3⟩
  exact ⟨rfl, ⟨_, v, 0, h2, rfl⟩, h3⟩
end Go.Proofs.Ytgcchmenadgboaa
