/- The chapter's example. -/
import Derived.Test.YtgcchmenadgboaaFHI
namespace Go.Proofs.Ytgcchmenadgboaa
open Go.RowKit
set_option linter.unusedVariables false
set_option linter.unusedSimpArgs false
attribute [local go_sem ↓] Go.wp_at_zero Go.wp_at_succ
def OkB (w : World) (e : Ending) (w' : World) : Prop := e = .returned (.bool true) ∧ Below w.heap.size w w'
set_option maxRecDepth 100000 in
set_option maxHeartbeats 4000000 in
theorem awake_any (w : World) : Calls Try.prog 8 #[] w (OkB w) := by
  have hb : Below w.heap.size w (w.alloc (.cells #[.int .i64 1, .int .i64 2] 3)) := (Below.refl _ w).alloc (Nat.le_refl _) _
  have hs : (w.alloc (.cells #[.int .i64 1, .int .i64 2] 3)).heap.size = w.heap.size + 1 := by simp
  have NW := Lib.hid (in_newI (w0 := w) (A := some ⟨w.heap.size, 0, none⟩) (n := 2) (c := 2) (xs := [1, 2]) hb ⟨rfl, fun e => (by cases e), fun a e => (by
    cases e
    intro i x hx
    rw [add_none, cell_of_row _ _ _ _ _ _ (heap_alloc_new w _)]
    match i, hx with
    | 0, hx => simp at hx; subst hx; rfl
    | 1, hx => simp at hx; subst hx; rfl)⟩ (by omega))
  have PU := Lib.hid (fun b W (h : InI w b 2 [1, 2] W) => show Calls Try.prog 12 #[.pointer (some ⟨b, 0, none⟩), .int .i64 3] W (InPI (.tuple #[]) w b 8 [1, 2, 3]) from h.push 3 (by omega))
  have PO := Lib.hid (fun b W (h : InI w b 8 [1, 2, 3] W) => h.pop)
  have AT := Lib.hid (fun b W (h : InI w b 8 [2, 3] W) => show Calls Try.prog 23 #[.pointer (some ⟨b, 0, none⟩), .int .i64 1] W (Told (.tuple #[.int .i64 3, .bool true]) W) from h.at' (i := 1) (x := 3) rfl)
  have LN := Lib.hid (fun b W (h : InI w b 8 [2, 3] W) => h.len (n := 2) rfl)
  clear hb
  rw [hs] at NW
  go_enter Try.func8, Try.ntmps8
  go_wp2_with (first
    | (go_at_call 9; (with_reducible refine NW.out.mono ?_); rintro e w1 ⟨rfl, h1⟩)
    | (go_at_call 12; (with_reducible refine (PU.out _ _ h1).mono ?_); rintro e w2 ⟨rfl, h2⟩)
    | (go_at_call 13; (with_reducible refine (PO.out _ _ h2).mono ?_); rintro e w3 ⟨rfl, h3⟩)
    | (go_at_call 23; (with_reducible refine (AT.out _ _ h3).mono ?_); rintro e w4 ⟨rfl, hB4⟩; have h4 := h3.later hB4)
    | (go_at_call 20; (with_reducible refine (LN.out _ _ h4).mono ?_); rintro e w5 ⟨rfl, rfl⟩))
  go_ret
  exact ⟨rfl, h4.b⟩
end Go.Proofs.Ytgcchmenadgboaa
