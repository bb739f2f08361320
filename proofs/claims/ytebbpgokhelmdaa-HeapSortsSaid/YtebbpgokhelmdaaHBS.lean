/- Which of two things goes first. -/
import Derived.Test.YtebbpgokhelmdaaHAS
namespace Go.Proofs.Ytebbpgokhelmdaa
open Go.RowKit
set_option linter.unusedVariables false
set_option linter.unusedSimpArgs false

set_option maxRecDepth 100000 in
set_option maxHeartbeats 2000000 in
theorem isLessS {b : Nat} (x y : ByteArray) (w : World) (h0 : w.cell? ⟨b, 0, none⟩ = some (.func (.func 21) #[] #[])) :
    Calls Try.prog 48 #[.pointer (some ⟨b, 0, none⟩), .string x, .string y] w (Ans (decide (keyS x < keyS y)) w) := by
  have K := Lib.hid (less_anyS x y)
  generalize decide (keyS x < keyS y) = t at *
  have hb : b < w.heap.size := World.block_lt_of_cell? w _ h0
  have hnn := run_neq_nilS (.func 21) #[] #[]
  go_enter Try.func48, Try.ntmps48
  go_wp2_with (go_at_call 21; (with_reducible refine (K.out _).mono ?_); rintro e w' ⟨rfl, hB⟩)
  go_ret
  exact ⟨rfl, hB⟩

set_option maxRecDepth 100000 in
set_option maxHeartbeats 2000000 in
theorem firstS {b : Nat} (p q : ByteArray × Nat) (w : World) (h0 : w.cell? ⟨b, 0, none⟩ = some (.func (.func 21) #[] #[])) :
    Calls Try.prog 45 #[.pointer (some ⟨b, 0, none⟩), .agg #[.string p.1, .int .i64 (p.2 : Int)], .agg #[.string q.1, .int .i64 (q.2 : Int)]] w (Ans (lxS p q) w) := by
  have hb : b < w.heap.size := World.block_lt_of_cell? w _ h0
  have C : ((w.alloc (.cells #[.string p.1, .int .i64 (p.2 : Int)] 85)).alloc (.cells #[.string q.1, .int .i64 (q.2 : Int)] 85)).cell? ⟨b, 0, none⟩ = some (.func (.func 21) #[] #[]) := by
    rw [World.cell?_alloc_lt _ _ _ (by simp; omega), World.cell?_alloc_lt _ _ _ (by simpa using hb)]; exact h0
  have K1 := Lib.hid (isLessS q.1 p.1 _ C)
  have K2 := Lib.hid (isLessS p.1 q.1 _ C)
  have hB0 : Below w.heap.size w ((w.alloc (.cells #[.string p.1, .int .i64 (p.2 : Int)] 85)).alloc (.cells #[.string q.1, .int .i64 (q.2 : Int)] 85)) := ((Below.refl _ _).alloc (Nat.le_refl _) _).alloc (by simp) _
  have hlx := lexB_first keyS p q
  by_cases hlt : p.2 < q.2
  · rw [if_pos hlt] at hlx
    unfold lxS
    rw [hlx]
    have ht : decide (p.2 < q.2) = true := decide_eq_true hlt
    have HB := Lib.hid hB0
    clear hlx C h0 hB0
    go_enter Try.func45, Try.ntmps45
    go_wp2_with (go_at_call 48; (with_reducible refine K1.out.mono ?_); rintro e w' ⟨rfl, hB⟩)
    go_ret
    exact ⟨rfl, HB.out.trans (hB.mono HB.out.size)⟩
  · rw [if_neg hlt] at hlx
    unfold lxS
    rw [hlx]
    have ht : decide (p.2 < q.2) = false := decide_eq_false hlt
    have HB := Lib.hid hB0
    clear hlx C h0 hB0
    go_enter Try.func45, Try.ntmps45
    go_wp2_with (go_at_call 48; (with_reducible refine K2.out.mono ?_); rintro e w' ⟨rfl, hB⟩)
    go_ret
    exact ⟨rfl, HB.out.trans (hB.mono HB.out.size)⟩
end Go.Proofs.Ytebbpgokhelmdaa
