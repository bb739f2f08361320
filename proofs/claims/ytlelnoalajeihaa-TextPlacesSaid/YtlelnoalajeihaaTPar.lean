/- TextParses: the walk. -/
import Derived.Test.YtlelnoalajeihaaRPrint
import Derived.Test.YtlelnoalajeihaaSet
import Derived.Test.YtlelnoalajeihaaSpoilt
import Derived.Test.YtlelnoalajeihaaAwake
import Derived.Deep.RegionHeld3
import Derived.Deep.DrawnRows
namespace Go.Proofs.Ytlelnoalajeihaa
open Go.RowKit
set_option linter.unusedVariables false
set_option linter.unusedSimpArgs false
attribute [local go_sem ↓] Go.wp_at_zero Go.wp_at_succ

theorem shorts_of {w : World} {A : Option Addr} {cap : Nat} {ts : List Ts} (hR : Row w A cap ts) (h : SFs ts) : Shorts ts := by
  intro x hx
  refine ⟨hR.wf x hx, ?_⟩
  obtain ⟨i, hi⟩ := List.getElem?_of_mem hx
  rw [(h i x hi).n, bs_size]
  simp
/-- The three numbers that came in, and what is new. -/
def C3 (w : World) (b : Nat) (q0 q1 q2 : Int) (W : World) : Prop :=
  W.cell? ⟨b, 0, none⟩ = some (.int .i64 q0) ∧ W.cell? ⟨b, 1, none⟩ = some (.int .i64 q1) ∧ W.cell? ⟨b, 2, none⟩ = some (.int .i64 q2) ∧ Below w.heap.size w W ∧ b < W.heap.size
theorem C3.step {w W W' : World} {b : Nat} {q0 q1 q2 : Int} (hB : Below W.heap.size W W') (h : C3 w b q0 q1 q2 W) : C3 w b q0 q1 q2 W' := by
  obtain ⟨h0, h1, h2, h7, h8⟩ := h
  have k := fun i => hB.cell (p := ⟨b, i, none⟩) h8
  exact ⟨(k 0).trans h0, (k 1).trans h1, (k 2).trans h2, h7.trans (hB.mono h7.size), Nat.lt_of_lt_of_le h8 hB.size⟩
theorem C3.below {w W : World} {b : Nat} {q0 q1 q2 : Int} (h : C3 w b q0 q1 q2 W) : Below w.heap.size w W := h.2.2.2.1

set_option maxRecDepth 100000 in
set_option maxHeartbeats 8000000 in
theorem tparses_walk (s : ByteArray) (A : Option Addr) (cap : Nat) (specs : List Sp) (q0 q1 q2 : Int) (w : World) (hs : s.size ≤ maxLen) (hS : SRow w A cap specs) (h0 : in64 q0) (h1 : in64 q1) (h2 : in64 q2) :
    Calls Try.prog 3 #[.string s, .slice A specs.length cap, .agg #[.int .i64 q0, .int .i64 q1, .int .i64 q2]] w fun e w' => e = .returned (.bool true) ∧ Below w.heap.size w w' := by
  obtain ⟨W0, hW0, c0, c1, c2, B0, hlt⟩ := arr_new w q0 q1 q2
  have HC0 : C3 w w.heap.size q0 q1 q2 W0 := ⟨c0, c1, c2, B0, hlt⟩
  have HW := Lib.hid hW0
  have HC0 := Lib.hid HC0
  have SR := Lib.hid hS
  have T1 := Lib.hid h1
  have SH := fun W => short_any s W hs
  have zs := shortS_size s
  generalize shortS s = ss at *
  have SH := Lib.hid SH
  have SP : Hid (∀ (u : ByteArray) (W : World), u.size ≤ 99999 → Calls Try.prog 11 #[.string u, .agg #[.int .i64 q0, .int .i64 q1, .int .i64 q2]] W (SpPost u W)) := Lib.hid (fun u W h => spoilt_any u q0 q1 q2 W h0 h1 h2 h)
  have PA : Hid (∀ (u : ByteArray) (W : World), u.size ≤ 100000 → Calls Try.prog 9 #[.string u] W (fun e w' => e = .returned (.bool true) ∧ Below W.heap.size W w')) := Lib.hid (fun u W h => parses_any u W h)
  have AW : Hid (∀ (W : World), Calls Try.prog 6 #[] W (fun e w' => e = .returned (.bool true) ∧ Below W.heap.size W w')) := Lib.hid (fun W => awake5_any W)
  clear hW0 B0 hS h0 h1 h2 hs c0 c2
  go_enter Try.func3, Try.ntmps3
  go_upto_region 1 with (fail)
  rw [HW.out]
  clear HW
  go_upto_region 2 with (go_at_call 6; (with_reducible refine (AW.out _).mono ?_); rintro e W1 ⟨rfl, hB1⟩)
  have HC1 := Lib.hid (HC0.out.step hB1)
  have d1 := HC1.out.2.1
  have SR1 := Lib.hid (SR.out.later HC1.out.below)
  clear HC0 hB1 c1
  go_upto_region 3 with (first
    | (go_at_call 8; refine (set_any 6 (by omega) (by omega) A cap specs _ _ SR1.out T1.out).mono ?_; rintro e W2 ⟨A2, cap2, ts, rfl, hR, hn1, hn6, -, hsf, -, hB2⟩; have HR := Lib.hid hR; have HSh := Lib.hid (shorts_of hR hsf); have HC2 := Lib.hid (HC1.out.step hB2); clear hR hsf hB2)
    | (go_at_call 7; refine (rprint_any A2 cap2 ts _ HR.out HSh.out (by omega)).mono ?_; rintro e W3 ⟨rfl, hB3⟩))
  have HC3 := Lib.hid ((HC2.out.step hB3).step (below_drew _))
  have zt : (printS ts).size ≤ 1800 := by
    have := printS_size HSh.out ts.length (Nat.le_refl _)
    rw [List.take_length] at this
    omega
  clear hB3 HC2 HC1 SR1 SR d1 HR HSh
  generalize printS ts = t at *
  have hcat := fun W => run_string_add_sum (P := Try.prog) W t ss (by omega)
  have zr : (t ++ ss).size ≤ 2000 := by rw [ByteArray.size_append]; omega
  generalize t ++ ss = r at *
  go_region_held3 (fun W => W.cell? ⟨w.heap.size, 0, none⟩ = some (.int .i64 q0) ∧ W.cell? ⟨w.heap.size, 1, none⟩ = some (.int .i64 q1) ∧ W.cell? ⟨w.heap.size, 2, none⟩ = some (.int .i64 q2) ∧ Below w.heap.size w W ∧ w.heap.size < W.heap.size)
    (first | assumption | (exact HC3.out) | (exact (C3.step (w := w) (b := w.heap.size) (q0 := q0) (q1 := q1) (q2 := q2) hB (by assumption) : C3 w w.heap.size q0 q1 q2 _)))
    (first
    | (go_at_call 10; (with_reducible refine (SH.out _).mono ?_); rintro e w' ⟨rfl, rfl⟩)
    | (go_at_call 9; (with_reducible refine (PA.out _ _ (by omega)).mono ?_); rintro e w' ⟨rfl, hB⟩)
    | (go_at_call 11; (with_reducible refine (SP.out _ _ (by omega)).mono ?_); rintro e w' ⟨u, rfl, hu, hB⟩))
  all_goals (go_wp2; go_ret; exact ⟨rfl, (show C3 w w.heap.size q0 q1 q2 _ from by assumption).below⟩)
end Go.Proofs.Ytlelnoalajeihaa
