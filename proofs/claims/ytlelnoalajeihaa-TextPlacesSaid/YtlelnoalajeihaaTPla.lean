/- TextPlaces: the walk. -/
import Derived.Test.YtlelnoalajeihaaTPar
import Derived.Test.YtlelnoalajeihaaPlaces
namespace Go.Proofs.Ytlelnoalajeihaa
open Go.RowKit
set_option linter.unusedVariables false
set_option linter.unusedSimpArgs false
attribute [local go_sem ↓] Go.wp_at_zero Go.wp_at_succ

theorem printS_le {ts : List Ts} (h : Shorts ts) (hn : (ts.length : Int) ≤ 6) : (printS ts).size ≤ 1800 := by
  have := printS_size h ts.length (Nat.le_refl _)
  rw [List.take_length] at this
  omega
set_option maxRecDepth 100000 in
set_option maxHeartbeats 8000000 in
theorem tplaces_walk (s : ByteArray) (A : Option Addr) (cap : Nat) (specs : List Sp) (q0 q1 q2 : Int) (w : World) (hs : s.size ≤ maxLen) (hS : SRow w A cap specs) (h0 : in64 q0) (h1 : in64 q1) (h2 : in64 q2) :
    Calls Try.prog 5 #[.string s, .slice A specs.length cap, .agg #[.int .i64 q0, .int .i64 q1, .int .i64 q2]] w fun e w' => e = .returned (.bool true) ∧ Below w.heap.size w w' := by
  obtain ⟨W0, hW0, c0, c1, c2, B0, hlt⟩ := arr_new w q0 q1 q2
  have HC0 : C3 w w.heap.size q0 q1 q2 W0 := ⟨c0, c1, c2, B0, hlt⟩
  have HW := Lib.hid hW0
  have HC0 := Lib.hid HC0
  have SR := Lib.hid hS
  have T1 := Lib.hid h1
  have SH := fun W => short_any s W hs
  have zs := shortS_size s
  generalize shortS s = ss at *
  have SH := Lib.hid SH
  have SP : Hid (∀ (u : ByteArray) (W : World), u.size ≤ 99999 → Calls Try.prog 11 #[.string u, .agg #[.int .i64 q0, .int .i64 q1, .int .i64 q2]] W (SpPost u W)) := Lib.hid (fun u W h => spoilt_any u q0 q1 q2 W h0 h1 h2 h)
  have PA : Hid (∀ (u : ByteArray) (W : World), u.size ≤ 100000 → Calls Try.prog 15 #[.string u] W (fun e w' => e = .returned (.bool true) ∧ Below W.heap.size W w')) := Lib.hid (fun u W h => places_any u W h)
  have AW : Hid (∀ (W : World), Calls Try.prog 6 #[] W (fun e w' => e = .returned (.bool true) ∧ Below W.heap.size W w')) := Lib.hid (fun W => awake5_any W)
  clear hW0 B0 hS h0 h1 h2 hs c0 c2 c1
  go_enter Try.func5, Try.ntmps5
  go_upto_region 1 with (fail)
  rw [HW.out]
  clear HW
  go_upto_region 2 with (go_at_call 6; (with_reducible refine (AW.out _).mono ?_); rintro e W1 ⟨rfl, hB1⟩)
  have HC3 := Lib.hid ((HC0.out.step hB1).step (below_drew _))
  clear HC0 hB1 AW
  go_region_held_law (fun W => W.cell? ⟨w.heap.size, 0, none⟩ = some (.int .i64 q0) ∧ W.cell? ⟨w.heap.size, 1, none⟩ = some (.int .i64 q1) ∧ W.cell? ⟨w.heap.size, 2, none⟩ = some (.int .i64 q2) ∧ Below w.heap.size w W ∧ w.heap.size < W.heap.size)
    (first | assumption | (exact HC3.out) | (exact (C3.step (w := w) (b := w.heap.size) (q0 := q0) (q1 := q1) (q2 := q2) hB (by assumption) : C3 w w.heap.size q0 q1 q2 _)))
    (first
    | (go_at_call 10; (with_reducible refine (SH.out _).mono ?_); rintro e w' ⟨rfl, rfl⟩)
    | (go_at_call 15; (with_reducible refine (PA.out _ _ (by omega)).mono ?_); rintro e w' ⟨rfl, hB⟩)
    | (go_at_call 8; refine (set_any 6 (by omega) (by omega) A cap specs _ _ (SR.out.later (C3.below (show C3 w w.heap.size q0 q1 q2 _ from by assumption))) T1.out).mono ?_; rintro e W2 ⟨A2, cap2, ts, rfl, hR, hn1, hn6, -, hsf, -, hB⟩; have HR := Lib.hid hR; have HSh := Lib.hid (shorts_of hR hsf); have zt := printS_le (shorts_of hR hsf) hn6; clear hR hsf)
    | (go_at_call 7; refine (rprint_any A2 cap2 ts _ HR.out HSh.out (by omega)).mono ?_; rintro e W3 ⟨rfl, hB⟩)
    | (go_at_call 11; (with_reducible refine (SP.out _ _ (by omega)).mono ?_); rintro e w' ⟨u, rfl, hu, hB⟩))
  all_goals (go_wp2; go_ret; exact ⟨rfl, (show C3 w w.heap.size q0 q1 q2 _ from by assumption).below⟩)
end Go.Proofs.Ytlelnoalajeihaa
