/- The chapter's example. -/
import Derived.Test.YtghijgpelkjohaaLSum
namespace Go.Proofs.Ytghijgpelkjohaa
open Go.RowKit
set_option linter.unusedVariables false
set_option linter.unusedSimpArgs false
abbrev exT (c t : Int) : Ts := ⟨{ data := #[] }, c, t, 0, 0, 0, 0⟩
theorem exT_w (c t : Int) (hc : in64 c) (ht : in64 t) : TsW (exT c t) :=
  ⟨(by show (0 : Nat) ≤ _; omega), hc, ht, (show in64 0 from ⟨by decide, by decide⟩), (show in64 0 from ⟨by decide, by decide⟩), (show in64 0 from ⟨by decide, by decide⟩), (show in64 0 from ⟨by decide, by decide⟩)⟩
theorem sum_ex : sumF [exT 1 4, exT 2 6] = ⟨7, 12⟩ ∧ sumE [exT 1 4, exT 2 6] = 0 := by decide +kernel
abbrev exO : Obj := .cells #[.string { data := #[] }, .int .i64 1, .int .i64 4, .int .i64 0, .int .i64 0, .int .i64 0, .int .i64 0, .string { data := #[] }, .int .i64 2, .int .i64 6, .int .i64 0, .int .i64 0, .int .i64 0, .int .i64 0] 40
theorem ex_row (w : World) : Row (w.alloc exO) (some ⟨w.heap.size, 0, none⟩) 2 [exT 1 4, exT 2 6] := by
  have hc := fun i => cell_of_row (w.alloc exO) w.heap.size i _ _ _ (heap_alloc_new w exO)
  refine ⟨by simp, by omega, ?_, fun i x hx => ?_⟩
  · intro x hx
    simp only [List.mem_cons, List.not_mem_nil, or_false] at hx
    rcases hx with rfl | rfl
    · exact exT_w 1 4 ⟨by decide, by decide⟩ ⟨by decide, by decide⟩
    · exact exT_w 2 6 ⟨by decide, by decide⟩ ⟨by decide, by decide⟩
  · refine ⟨w.heap.size, 0, rfl, ⟨fun j u hu => ?_⟩⟩
    match i, hx with
    | 0, hx =>
      obtain rfl : exT 1 4 = x := by simpa using hx
      rw [hc]
      match j, hu with
      | 0, hu | 1, hu | 2, hu | 3, hu | 4, hu | 5, hu | 6, hu => simpa [tsL] using hu
      | n + 7, hu => simp [tsL] at hu
    | 1, hx =>
      obtain rfl : exT 2 6 = x := by simpa using hx
      rw [hc]
      match j, hu with
      | 0, hu | 1, hu | 2, hu | 3, hu | 4, hu | 5, hu | 6, hu => simpa [tsL] using hu
      | n + 7, hu => simp [tsL] at hu
    | n + 2, hx => simp at hx
theorem sum_ex_any (w : World) : Calls Try.prog 17 #[.slice (some ⟨w.heap.size, 0, none⟩) 2 2] (w.alloc exO) fun e w' => e = .returned (.tuple #[frV ⟨7, 12⟩, .int .i64 0]) ∧ Below (w.alloc exO).heap.size (w.alloc exO) w' := by
  have h := sum_any (some ⟨w.heap.size, 0, none⟩) 2 [exT 1 4, exT 2 6] (w.alloc exO) (ex_row w)
  rw [sum_ex.1, sum_ex.2] at h
  exact h
set_option maxRecDepth 100000 in
set_option maxHeartbeats 2000000 in
theorem awake_any (w : World) : Calls Try.prog 9 #[] w fun e w' => e = .returned (.bool true) ∧ Below w.heap.size w w' := by
  have K := Lib.hid sum_ex_any
  go_enter Try.func9, Try.ntmps9
  go_wp2_with (go_at_call 17; (with_reducible refine (K.out _).mono ?_); rintro e w1 ⟨rfl, h1⟩)
  go_ret
  exact ⟨rfl, ((((Below.refl _ _).alloc (Nat.le_refl _) _).trans (h1.mono (by simp))).alloc (by have := h1.size; simp at this; omega) _)⟩
end Go.Proofs.Ytghijgpelkjohaa
