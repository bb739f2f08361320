/- A queue by what it tells. -/
import Derived.Test.YtgcchmenadgboaaFFI
namespace Go.Proofs.Ytgcchmenadgboaa
open Go.RowKit
set_option linter.unusedVariables false
set_option linter.unusedSimpArgs false

/-- How much room there is behind one more. -/
def roomUpI (N n : Nat) : Nat := if n = N then 2 * N + 4 else N
/-- Block b is a queue, its blocks are X, it has room for N, and tells L. -/
structure QsI (B : Nat) (w : World) (b : Nat) (X : List Nat) (N : Nat) (L : List Int) : Prop where
  ex : ∃ v f, FQI B w b v N f L ∧ blk b v = X
section
variable {B : Nat} {w w' : World} {b N : Nat} {X : List Nat} {L : List Int}
theorem QsI.kept {Y : List Nat} (h : QsI B w b X N L) (hk : Kept Y w w') (hx : ∀ k ∈ X, k ∉ Y) : QsI B w' b X N L := by
  obtain ⟨v, f, h1, rfl⟩ := h.ex
  exact ⟨v, f, h1.kept hk hx, rfl⟩
theorem QsI.later (h : QsI B w b X N L) (hb : Below w.heap.size w w') : QsI B w' b X N L := h.kept (Kept.of [] hb) (by simp)
theorem QsI.ge (h : QsI B w b X N L) : ∀ k ∈ X, B ≤ k ∧ k < w.heap.size := by
  obtain ⟨v, f, h1, rfl⟩ := h.ex
  exact h1.blk_ge
theorem QsI.len_le (h : QsI B w b X N L) : L.length ≤ N := by
  obtain ⟨v, f, h1, rfl⟩ := h.ex
  exact h1.len_le
theorem QsI.lim (h : QsI B w b X N L) : N ≤ 1000000 := by
  obtain ⟨v, f, h1, rfl⟩ := h.ex
  exact h1.lim
theorem QsI.mem (h : QsI B w b X N L) : b ∈ X := by
  obtain ⟨v, f, h1, rfl⟩ := h.ex
  simp [blk]
theorem qlenI (h : QsI B w b X N L) : Calls Try.prog 20 #[.pointer (some ⟨b, 0, none⟩)] w fun e w' => e = .returned (.int .i64 (L.length : Int)) ∧ w = w' := by
  obtain ⟨v, f, h1, rfl⟩ := h.ex
  exact len_anyI w h1
theorem qroomI (h : QsI B w b X N L) : Calls Try.prog 21 #[.pointer (some ⟨b, 0, none⟩)] w fun e w' => e = .returned (.int .i64 (N : Int)) ∧ w = w' := by
  obtain ⟨v, f, h1, rfl⟩ := h.ex
  exact room_anyI w h1
theorem qatI {i : Nat} {x : Int} (h : QsI B w b X N L) (hx : L[i]? = some x) : Calls Try.prog 23 #[.pointer (some ⟨b, 0, none⟩), .int .i64 (i : Int)] w (Told (.tuple #[.int .i64 x, .bool true]) w) := by
  obtain ⟨v, f, h1, rfl⟩ := h.ex
  exact (at_inI w h1 hx).mono fun e w' h => h.told
theorem qat_outI {i : Int} (h : QsI B w b X N L) (hi : i < 0 ∨ (L.length : Int) ≤ i) : Calls Try.prog 23 #[.pointer (some ⟨b, 0, none⟩), .int .i64 i] w (Told (.tuple #[.int .i64 0, .bool false]) w) := by
  obtain ⟨v, f, h1, rfl⟩ := h.ex
  exact (at_outI w h1 hi).mono fun e w' h => h.told
def QPushI (B b N : Nat) (X : List Nat) (L : List Int) (w : World) (e : Ending) (w' : World) : Prop := e = .returned (.tuple #[]) ∧ ∃ X', QsI B w' b X' N L ∧ Kept X w w' ∧ ∀ k ∈ X', k ∈ X ∨ w.heap.size ≤ k
theorem qpushI (h : QsI B w b X N L) (x : Int) (hN : N ≤ 10000) : Calls Try.prog 12 #[.pointer (some ⟨b, 0, none⟩), .int .i64 x] w (QPushI B b (roomUpI N L.length) X (L ++ [x]) w) := by
  have hle := h.len_le
  obtain ⟨v, f, h1, rfl⟩ := h.ex
  unfold roomUpI
  by_cases e : L.length = N
  · rw [if_pos e]
    refine (push_fullI x w h1 e hN).mono ?_
    rintro e w' ⟨rfl, v', f', h2, h3, h4⟩
    exact ⟨rfl, _, ⟨v', f', h2, rfl⟩, h3, h4⟩
  · rw [if_neg e]
    refine (push_roomI x w h1 (by omega)).mono ?_
    rintro e w' ⟨rfl, v', f', h2, h3, h4⟩
    exact ⟨rfl, _, ⟨v', f', h2, rfl⟩, h3, h4⟩
def QPopI (B b N : Nat) (X : List Nat) (x : Int) (L : List Int) (w : World) (e : Ending) (w' : World) : Prop := e = .returned (.tuple #[.int .i64 x, .bool true]) ∧ QsI B w' b X N L ∧ Kept X w w'
theorem qpopI {x : Int} (h : QsI B w b X N (x :: L)) : Calls Try.prog 13 #[.pointer (some ⟨b, 0, none⟩)] w (QPopI B b N X x L w) := by
  obtain ⟨v, f, h1, rfl⟩ := h.ex
  refine (pop_someI w h1).mono ?_
  rintro e w' ⟨rfl, f', h2, h3⟩
  exact ⟨rfl, ⟨v, f', h2, rfl⟩, h3⟩
theorem qnoneI (h : QsI B w b X N []) : Calls Try.prog 13 #[.pointer (some ⟨b, 0, none⟩)] w (Told (.tuple #[.int .i64 0, .bool false]) w) := by
  obtain ⟨v, f, h1, rfl⟩ := h.ex
  exact (pop_noneI w h1).mono fun e w' h => h.told
end
def QNewI (n : Nat) (L : List Int) (w : World) (e : Ending) (w' : World) : Prop := e = .returned (.pointer (some ⟨w.heap.size, 0, none⟩)) ∧ (∃ X, QsI w.heap.size w' w.heap.size X n L) ∧ Below w.heap.size w w'
theorem qnewI {A : Option Addr} {n c : Nat} {xs : List Int} (w : World) (hR : RowOI w A n c xs) (h1 : n ≤ 1000000) : Calls Try.prog 9 #[.slice A n c] w (QNewI n xs w) := by
  refine (new_anyI w hR h1).mono ?_
  rintro e w' ⟨rfl, v, h2, h3⟩
  exact ⟨rfl, ⟨_, v, 0, h2, rfl⟩, h3⟩
section
attribute [local go_sem ↓] Go.wp_at_zero Go.wp_at_succ
set_option maxRecDepth 100000
set_option maxHeartbeats 4000000
theorem len_nilI (w : World) : Calls Try.prog 20 #[.pointer none] w fun e w' => e = .returned (.int .i64 0) ∧ w = w' := by
  go_enter Try.func20, Try.ntmps20
  go_wp2
  go_ret
  exact ⟨rfl, rfl⟩
theorem room_nilI (w : World) : Calls Try.prog 21 #[.pointer none] w fun e w' => e = .returned (.int .i64 0) ∧ w = w' := by
  go_enter Try.func21, Try.ntmps21
  go_wp2
  go_ret
  exact ⟨rfl, rfl⟩
theorem push_nilI (x : Int) (w : World) : Calls Try.prog 12 #[.pointer none, .int .i64 x] w fun e w' => e = .returned (.tuple #[]) ∧ w = w' := by
  go_enter Try.func12, Try.ntmps12
  go_wp2
  refine bodyPost_ret (results_none rfl _ _ _) rfl ?_
  exact ⟨rfl, rfl⟩
theorem at_nilI (w : World) : Calls Try.prog 23 #[.pointer none, .int .i64 0] w fun e w' => e = .returned (.tuple #[.int .i64 0, .bool false]) ∧ w = w' := by
  have LN := Lib.hid len_nilI
  go_enter Try.func23, Try.ntmps23
  go_wp2_with (go_at_call 20; (with_reducible refine (LN.out _).mono ?_); rintro e w1 ⟨rfl, rfl⟩)
  go_ret2
  exact ⟨rfl, rfl⟩
theorem pop_nilI (w : World) : Calls Try.prog 13 #[.pointer none] w fun e w' => e = .returned (.tuple #[.int .i64 0, .bool false]) ∧ w = w' := by
  have AT := Lib.hid at_nilI
  go_enter Try.func13, Try.ntmps13
  go_wp2_with (go_at_call 23; (with_reducible refine (AT.out _).mono ?_); rintro e w1 ⟨rfl, rfl⟩)
  go_ret2
  exact ⟨rfl, rfl⟩
theorem things_nilI (w : World) : Calls Try.prog 25 #[.pointer none] w fun e w' => e = .returned (.slice none 0 0) ∧ w = w' := by
  go_enter Try.func25, Try.ntmps25
  go_wp2
  go_ret
  exact ⟨rfl, rfl⟩
end
end Go.Proofs.Ytgcchmenadgboaa
