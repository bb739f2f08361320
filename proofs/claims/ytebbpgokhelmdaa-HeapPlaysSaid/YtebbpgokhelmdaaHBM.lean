/- Which of two things goes first. -/
import Derived.Test.YtebbpgokhelmdaaHAM
namespace Go.Proofs.Ytebbpgokhelmdaa
open Go.RowKit
set_option linter.unusedVariables false
set_option linter.unusedSimpArgs false

/-- Two boxes are kept. -/
def Two2 (w0 : World) (b : Nat) (x y : It) (W : World) : Prop := W.cell? ⟨b, 0, none⟩ = some (.func (.func 12) #[] #[]) ∧ W.cell? ⟨w0.heap.size, 0, none⟩ = some (.int .i64 x.k) ∧ W.cell? ⟨w0.heap.size, 1, none⟩ = some (.int .i64 x.w) ∧ W.cell? ⟨w0.heap.size + 1, 0, none⟩ = some (.int .i64 y.k) ∧ W.cell? ⟨w0.heap.size + 1, 1, none⟩ = some (.int .i64 y.w) ∧ Below w0.heap.size w0 W
theorem Two2.step {w0 W W' : World} {b : Nat} {x y : It} (hb : b < w0.heap.size) (h : Two2 w0 b x y W) (hB : Below W.heap.size W W') : Two2 w0 b x y W' := by
  obtain ⟨h0, h1, h2, h3, h4, h5⟩ := h
  have l1 := World.block_lt_of_cell? W _ h1
  have l3 := World.block_lt_of_cell? W _ h3
  have hs := h5.size
  exact ⟨(hB.cell (p := ⟨b, 0, none⟩) (Nat.lt_of_lt_of_le hb hs)).trans h0, (hB.cell (p := ⟨_, 0, none⟩) l1).trans h1, (hB.cell (p := ⟨_, 1, none⟩) l1).trans h2, (hB.cell (p := ⟨_, 0, none⟩) l3).trans h3, (hB.cell (p := ⟨_, 1, none⟩) l3).trans h4, h5.trans (hB.mono hs)⟩
set_option maxRecDepth 100000 in
set_option maxHeartbeats 2000000 in
theorem isLessM {b : Nat} (x y : It) (w : World) (h0 : w.cell? ⟨b, 0, none⟩ = some (.func (.func 12) #[] #[])) :
    Calls Try.prog 50 #[.pointer (some ⟨b, 0, none⟩), .agg #[.int .i64 (x).k, .int .i64 (x).w], .agg #[.int .i64 (y).k, .int .i64 (y).w]] w (Ans (decide (keyM x < keyM y)) w) := by
  have K := Lib.hid (less_anyM x y)
  generalize decide (keyM x < keyM y) = t at *
  have hb : b < w.heap.size := World.block_lt_of_cell? w _ h0
  have hnn := run_neq_nilM (.func 12) #[] #[]
  go_enter Try.func50, Try.ntmps50
  go_upto_region 1 with (fail)
  obtain ⟨W0, hW0, HC⟩ : ∃ W0, (w.alloc (.cells #[.int .i64 x.k, .int .i64 x.w] 31)).alloc (.cells #[.int .i64 y.k, .int .i64 y.w] 31) = W0 ∧ Two2 w b x y W0.drew := by
    refine ⟨_, rfl, ?_, ?_, ?_, ?_, ?_, ?_⟩
    · rw [World.cell?_drew, World.cell?_alloc_lt _ _ _ (by simp; omega), World.cell?_alloc_lt _ _ _ (by simpa using hb)]; exact h0
    · rw [World.cell?_drew, World.cell?_alloc_lt _ _ _ (by simp), cell_of_row _ _ _ _ _ _ (heap_alloc_new w _)]; rfl
    · rw [World.cell?_drew, World.cell?_alloc_lt _ _ _ (by simp), cell_of_row _ _ _ _ _ _ (heap_alloc_new w _)]; rfl
    · rw [World.cell?_drew]; have := heap_alloc_new (w.alloc (.cells #[.int .i64 x.k, .int .i64 x.w] 31)) (.cells #[.int .i64 y.k, .int .i64 y.w] 31); rw [World.size_alloc] at this; rw [cell_of_row _ _ _ _ _ _ this]; rfl
    · rw [World.cell?_drew]; have := heap_alloc_new (w.alloc (.cells #[.int .i64 x.k, .int .i64 x.w] 31)) (.cells #[.int .i64 y.k, .int .i64 y.w] 31); rw [World.size_alloc] at this; rw [cell_of_row _ _ _ _ _ _ this]; rfl
    · exact (((Below.refl _ _).alloc (Nat.le_refl _) _).alloc (by simp) _).trans ((below_drew _).mono (by simp; omega))
  have HW := Lib.hid hW0
  have HC1 := Lib.hid HC
  clear hW0 HC h0
  rw [HW.out]
  go_region_held3 (fun W => W.cell? ⟨b, 0, none⟩ = some (.func (.func 12) #[] #[]) ∧ W.cell? ⟨w.heap.size, 0, none⟩ = some (.int .i64 x.k) ∧ W.cell? ⟨w.heap.size, 1, none⟩ = some (.int .i64 x.w) ∧ W.cell? ⟨w.heap.size + 1, 0, none⟩ = some (.int .i64 y.k) ∧ W.cell? ⟨w.heap.size + 1, 1, none⟩ = some (.int .i64 y.w) ∧ Below w.heap.size w W)
    (first | assumption | exact HC1.out | exact HC2.out)
    ((go_at_call 12; (with_reducible refine (K.out _).mono ?_); rintro e w' ⟨rfl, hB⟩; have HC2 := Lib.hid (Two2.step hb HC1.out hB)))
  go_wp2
  go_ret
  exact ⟨rfl, HC2.out.2.2.2.2.2⟩

set_option maxRecDepth 100000 in
set_option maxHeartbeats 2000000 in
theorem firstM {b : Nat} (p q : It × Nat) (w : World) (h0 : w.cell? ⟨b, 0, none⟩ = some (.func (.func 12) #[] #[])) :
    Calls Try.prog 47 #[.pointer (some ⟨b, 0, none⟩), .agg #[.int .i64 (p.1).k, .int .i64 (p.1).w, .int .i64 (p.2 : Int)], .agg #[.int .i64 (q.1).k, .int .i64 (q.1).w, .int .i64 (q.2 : Int)]] w (Ans (lxM p q) w) := by
  have hb : b < w.heap.size := World.block_lt_of_cell? w _ h0
  have C : ((w.alloc (.cells #[.int .i64 (p.1).k, .int .i64 (p.1).w, .int .i64 (p.2 : Int)] 76)).alloc (.cells #[.int .i64 (q.1).k, .int .i64 (q.1).w, .int .i64 (q.2 : Int)] 76)).cell? ⟨b, 0, none⟩ = some (.func (.func 12) #[] #[]) := by
    rw [World.cell?_alloc_lt _ _ _ (by simp; omega), World.cell?_alloc_lt _ _ _ (by simpa using hb)]; exact h0
  have K1 := Lib.hid (isLessM q.1 p.1 _ C)
  have K2 := Lib.hid (isLessM p.1 q.1 _ C)
  have hB0 : Below w.heap.size w ((w.alloc (.cells #[.int .i64 (p.1).k, .int .i64 (p.1).w, .int .i64 (p.2 : Int)] 76)).alloc (.cells #[.int .i64 (q.1).k, .int .i64 (q.1).w, .int .i64 (q.2 : Int)] 76)) := ((Below.refl _ _).alloc (Nat.le_refl _) _).alloc (by simp) _
  have hlx := lexB_first keyM p q
  by_cases hlt : p.2 < q.2
  · rw [if_pos hlt] at hlx
    unfold lxM
    rw [hlx]
    have ht : decide (p.2 < q.2) = true := decide_eq_true hlt
    have HB := Lib.hid hB0
    clear hlx C h0 hB0
    go_enter Try.func47, Try.ntmps47
    go_wp2_with (go_at_call 50; (with_reducible refine K1.out.mono ?_); rintro e w' ⟨rfl, hB⟩)
    go_ret
    exact ⟨rfl, HB.out.trans (hB.mono HB.out.size)⟩
  · rw [if_neg hlt] at hlx
    unfold lxM
    rw [hlx]
    have ht : decide (p.2 < q.2) = false := decide_eq_false hlt
    have HB := Lib.hid hB0
    clear hlx C h0 hB0
    go_enter Try.func47, Try.ntmps47
    go_wp2_with (go_at_call 50; (with_reducible refine K2.out.mono ?_); rintro e w' ⟨rfl, hB⟩)
    go_ret
    exact ⟨rfl, HB.out.trans (hB.mono HB.out.size)⟩
end Go.Proofs.Ytebbpgokhelmdaa
