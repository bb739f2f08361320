/- Which of two things goes first. -/
import Derived.Test.YtebbpgokhelmdaaHAI
namespace Go.Proofs.Ytebbpgokhelmdaa
open Go.RowKit
set_option linter.unusedVariables false
set_option linter.unusedSimpArgs false

set_option maxRecDepth 100000 in
set_option maxHeartbeats 2000000 in
theorem isLessI {b : Nat} (x y : Int) (w : World) (h0 : w.cell? ⟨b, 0, none⟩ = some (.func (.func 19) #[] #[])) :
    Calls Try.prog 49 #[.pointer (some ⟨b, 0, none⟩), .int .i64 x, .int .i64 y] w (Ans (decide (keyI x < keyI y)) w) := by
  have K := Lib.hid (less_anyI x y)
  generalize decide (keyI x < keyI y) = t at *
  have hb : b < w.heap.size := World.block_lt_of_cell? w _ h0
  have hnn := run_neq_nilI (.func 19) #[] #[]
  go_enter Try.func49, Try.ntmps49
  go_wp2_with (go_at_call 19; (with_reducible refine (K.out _).mono ?_); rintro e w' ⟨rfl, hB⟩)
  go_ret
  exact ⟨rfl, hB⟩

set_option maxRecDepth 100000 in
set_option maxHeartbeats 2000000 in
theorem firstI {b : Nat} (p q : Int × Nat) (w : World) (h0 : w.cell? ⟨b, 0, none⟩ = some (.func (.func 19) #[] #[])) :
    Calls Try.prog 46 #[.pointer (some ⟨b, 0, none⟩), .agg #[.int .i64 p.1, .int .i64 (p.2 : Int)], .agg #[.int .i64 q.1, .int .i64 (q.2 : Int)]] w (Ans (lxI p q) w) := by
  have hb : b < w.heap.size := World.block_lt_of_cell? w _ h0
  have C : ((w.alloc (.cells #[.int .i64 p.1, .int .i64 (p.2 : Int)] 88)).alloc (.cells #[.int .i64 q.1, .int .i64 (q.2 : Int)] 88)).cell? ⟨b, 0, none⟩ = some (.func (.func 19) #[] #[]) := by
    rw [World.cell?_alloc_lt _ _ _ (by simp; omega), World.cell?_alloc_lt _ _ _ (by simpa using hb)]; exact h0
  have K1 := Lib.hid (isLessI q.1 p.1 _ C)
  have K2 := Lib.hid (isLessI p.1 q.1 _ C)
  have hB0 : Below w.heap.size w ((w.alloc (.cells #[.int .i64 p.1, .int .i64 (p.2 : Int)] 88)).alloc (.cells #[.int .i64 q.1, .int .i64 (q.2 : Int)] 88)) := ((Below.refl _ _).alloc (Nat.le_refl _) _).alloc (by simp) _
  have hlx := lexB_first keyI p q
  by_cases hlt : p.2 < q.2
  · rw [if_pos hlt] at hlx
    unfold lxI
    rw [hlx]
    have ht : decide (p.2 < q.2) = true := decide_eq_true hlt
    have HB := Lib.hid hB0
    clear hlx C h0 hB0
    go_enter Try.func46, Try.ntmps46
    go_wp2_with (go_at_call 49; (with_reducible refine K1.out.mono ?_); rintro e w' ⟨rfl, hB⟩)
    go_ret
    exact ⟨rfl, HB.out.trans (hB.mono HB.out.size)⟩
  · rw [if_neg hlt] at hlx
    unfold lxI
    rw [hlx]
    have ht : decide (p.2 < q.2) = false := decide_eq_false hlt
    have HB := Lib.hid hB0
    clear hlx C h0 hB0
    go_enter Try.func46, Try.ntmps46
    go_wp2_with (go_at_call 49; (with_reducible refine K2.out.mono ?_); rintro e w' ⟨rfl, hB⟩)
    go_ret
    exact ⟨rfl, HB.out.trans (hB.mono HB.out.size)⟩
end Go.Proofs.Ytebbpgokhelmdaa
