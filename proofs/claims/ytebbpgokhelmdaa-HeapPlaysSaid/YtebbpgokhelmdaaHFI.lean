/- A heap's Peek, Pop. -/
import Derived.Test.YtebbpgokhelmdaaHEI
namespace Go.Proofs.Ytebbpgokhelmdaa
open Go.RowKit
set_option linter.unusedVariables false
set_option linter.unusedSimpArgs false
attribute [local go_sem ↓] Go.wp_at_zero Go.wp_at_succ

set_option maxRecDepth 100000 in
set_option maxHeartbeats 2000000 in
theorem peek_noneI {B b c : Nat} {v : Value} (w : World) (h : HBI B w b v c []) : Calls Try.prog 32 #[.pointer (some ⟨b, 0, none⟩)] w (Told (.tuple #[.int .i64 0, .bool false]) w) := by
  have LN := Lib.hid (fun W (hB : Below w.heap.size w W) => len_anyI W (h.later hB))
  clear h
  go_enter Try.func32, Try.ntmps32
  go_wp2_with (go_at_call 23; (with_reducible refine (LN.out _ (Below.refl _ _)).mono ?_); rintro e w1 ⟨rfl, rfl⟩)
  go_ret2
  exact ⟨rfl, Below.refl _ _⟩
set_option maxRecDepth 100000 in
set_option maxHeartbeats 2000000 in
theorem peek_someI {B b c : Nat} {v : Value} {l : List (Int × Nat)} {p : Int × Nat} (w : World) (h : HBI B w b v c l) (hp : l[0]? = some p) : Calls Try.prog 32 #[.pointer (some ⟨b, 0, none⟩)] w (Told (.tuple #[.int .i64 p.1, .bool true]) w) := by
  have h0 : 0 < l.length := (List.getElem?_eq_some_iff.1 hp).1
  obtain ⟨g, cap, rfl, -, hgl, hle, hmx, -⟩ := own_form h.row h0
  have hln0 : ((l.length : Int) == 0) = false := by rw [beq_eq_false_iff_ne]; omega
  have hlt : (0 : Int) < (l.length : Int) := by omega
  unfold maxLen at hmx
  have LN := Lib.hid (fun W (hB : Below w.heap.size w W) => len_anyI W (h.later hB))
  have c1 := h.c1
  have x0 : w.cell? ⟨g, 0, none⟩ = some (.int .i64 p.1) := by have := h.th rfl hp 0 _ rfl; rwa [Nat.zero_mul] at this
  clear h hp
  go_enter Try.func32, Try.ntmps32
  go_wp2_with (go_at_call 23; (with_reducible refine (LN.out _ (Below.refl _ _)).mono ?_); rintro e w1 ⟨rfl, rfl⟩)
  go_ret2
  exact ⟨rfl, Below.refl _ _⟩
end Go.Proofs.Ytebbpgokhelmdaa
