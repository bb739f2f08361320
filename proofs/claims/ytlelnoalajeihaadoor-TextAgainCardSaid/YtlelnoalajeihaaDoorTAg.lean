/- TextAgain: the walk. -/
import Derived.Test.YtlelnoalajeihaaDoorTWk
import Derived.Deep.RegionHeld3
import Derived.Deep.DrawnRows
import Derived.Deep.RegionHeldLaw
namespace Go.Proofs.YtlelnoalajeihaaDoor
open Go.RowKit
set_option linter.unusedVariables false
set_option linter.unusedSimpArgs false
attribute [local go_sem ↓] Go.wp_at_zero Go.wp_at_succ

/-- The three numbers that came in, and what is new. -/
def K3 (w : World) (b : Nat) (q0 q1 q2 : Int) (W : World) : Prop :=
  W.cell? ⟨b, 0, none⟩ = some (.int .i64 q0) ∧ W.cell? ⟨b, 1, none⟩ = some (.int .i64 q1) ∧ W.cell? ⟨b, 2, none⟩ = some (.int .i64 q2) ∧ Below w.heap.size w W ∧ b < W.heap.size
theorem K3.step {w W W' : World} {b : Nat} {q0 q1 q2 : Int} (hB : Below W.heap.size W W') (h : K3 w b q0 q1 q2 W) : K3 w b q0 q1 q2 W' := by
  obtain ⟨h0, h1, h2, h7, h8⟩ := h
  have k := fun i => hB.cell (p := ⟨b, i, none⟩) h8
  exact ⟨(k 0).trans h0, (k 1).trans h1, (k 2).trans h2, h7.trans (hB.mono h7.size), Nat.lt_of_lt_of_le h8 hB.size⟩
theorem K3.below {w W : World} {b : Nat} {q0 q1 q2 : Int} (h : K3 w b q0 q1 q2 W) : Below w.heap.size w W := h.2.2.2.1

theorem shk_of {w : World} {A : Option Addr} {cap : Nat} {ts : List Ts} (hR : Row w A cap ts) (h : SFs ts) : Shorts ts := by
  intro x hx
  refine ⟨hR.wf x hx, ?_⟩
  obtain ⟨i, hi⟩ := List.getElem?_of_mem hx
  rw [(h i x hi).n, bs_size]
  simp
theorem wf_of_chk {l : List Ts} (h : (chkAll l).2 = 0) : ∀ x ∈ l, TsW x := by
  intro x hx
  obtain ⟨ht, hn⟩ := tidy_of ((all_ok h).1 x hx)
  have f := ht.few
  have f0 := f 0 (by omega)
  have f1 := f 1 (by omega)
  have f2 := f 2 (by omega)
  have f3 := f 3 (by omega)
  have f4 := f 4 (by omega)
  have f5 := f 5 (by omega)
  simp only [numI] at f0 f1 f2 f3 f4 f5
  refine ⟨by omega, ?_, ?_, ?_, ?_, ?_, ?_⟩ <;> (unfold in64; omega)
theorem again_any (s : ByteArray) (w : World) (hs : s.size ≤ 2000) (hT : TI w) : Calls Tryd.prog 14 #[.string s] w (OkB w) := by
  by_cases h : (parseS s).2.2 = 0
  · exact again_ok s w hs hT h (wf_of_chk (parse_may h))
  · exact again_no s w (by omega) h
theorem lonk_of {w : World} {A : Option Addr} {cap : Nat} {ts : List Ts} (hR : Row w A cap ts) (h : SFs ts) : Longs ts := fun x hx => by
  have := shk_of hR h x hx
  exact ⟨this.1, by omega⟩
theorem sixk_of {ts : List Ts} (h : Shorts ts) (hn : (ts.length : Int) ≤ 6) : (printS ts).size ≤ 1800 := by
  have := printS_size h ts.length (Nat.le_refl _)
  rw [List.take_length] at this
  omega
set_option maxRecDepth 100000 in
set_option maxHeartbeats 4000000 in
theorem tagain_walk (s : ByteArray) (A : Option Addr) (cap : Nat) (specs : List Sp) (q0 q1 q2 : Int) (w : World) (hs : s.size ≤ maxLen) (hS : SRow w A cap specs) (h0 : in64 q0) (h1 : in64 q1) (h2 : in64 q2) (hT : TI w) :
    Calls Tryd.prog 5 #[.string s, .slice A specs.length cap, .agg #[.int .i64 q0, .int .i64 q1, .int .i64 q2]] w fun e w' => e = .returned (.bool true) ∧ Below w.heap.size w w' := by
  obtain ⟨W0, hW0, c0, c1, c2, B0, hlt⟩ := arr_new w q0 q1 q2
  have HC0 : K3 w w.heap.size q0 q1 q2 W0 := ⟨c0, c1, c2, B0, hlt⟩
  have HW := Lib.hid hW0
  have HC0 := Lib.hid HC0
  have SR := Lib.hid hS
  have T1 := Lib.hid h1
  have SH := fun W => short_any s W hs
  have zs := shortS_size s
  generalize shortS s = ss at *
  have SH := Lib.hid SH
  have SP : Hid (∀ (u : ByteArray) (W : World), u.size ≤ 99999 → Calls Tryd.prog 16 #[.string u, .agg #[.int .i64 q0, .int .i64 q1, .int .i64 q2]] W (SpPost u W)) := Lib.hid (fun u W h => spoilt_any u q0 q1 q2 W h0 h1 h2 h)
  have PA : Hid (∀ (u : ByteArray) (W : World), u.size ≤ 2000 → Below w.heap.size w W → Calls Tryd.prog 14 #[.string u] W (fun e w' => e = .returned (.bool true) ∧ Below W.heap.size W w')) := Lib.hid (fun u W h hB => again_any u W h (ti_later hT hB))
  have HT := Lib.hid hT
  have AW : Hid (∀ (W : World), Calls Tryd.prog 7 #[] W (fun e w' => e = .returned (.bool true) ∧ Below W.heap.size W w')) := Lib.hid (fun W => awake5_any W)
  clear hW0 B0 hS h0 h1 h2 hs c0 c2 c1 hT
  go_enter Tryd.func5, Tryd.ntmps5
  go_upto_region 1 with (fail)
  rw [HW.out]
  clear HW
  go_upto_region 2 with (go_at_call 7; (with_reducible refine (AW.out _).mono ?_); rintro e W1 ⟨rfl, hB1⟩)
  have HC3 := Lib.hid ((HC0.out.step hB1).step (below_drew _))
  clear HC0 hB1 AW
  go_region_held_law (fun W => W.cell? ⟨w.heap.size, 0, none⟩ = some (.int .i64 q0) ∧ W.cell? ⟨w.heap.size, 1, none⟩ = some (.int .i64 q1) ∧ W.cell? ⟨w.heap.size, 2, none⟩ = some (.int .i64 q2) ∧ Below w.heap.size w W ∧ w.heap.size < W.heap.size)
    (first | assumption | (exact HC3.out) | (exact (K3.step (w := w) (b := w.heap.size) (q0 := q0) (q1 := q1) (q2 := q2) hB (by assumption) : K3 w w.heap.size q0 q1 q2 _)))
    (first
    | (go_at_call 15; (with_reducible refine (SH.out _).mono ?_); rintro e w' ⟨rfl, rfl⟩)
    | (go_at_call 14; refine (PA.out _ _ (by omega) (K3.below (show K3 w w.heap.size q0 q1 q2 _ from by assumption))).mono ?_; rintro e w' ⟨rfl, hB⟩)
    | (go_at_call 8; refine (set_any 6 (by omega) (by omega) A cap specs _ _ (SR.out.later (K3.below (show K3 w w.heap.size q0 q1 q2 _ from by assumption))) T1.out).mono ?_; rintro e W2 ⟨A2, cap2, ts, rfl, hR, hn1, hn6, -, hsf, -, hB⟩; have HR := Lib.hid hR; have HSh := Lib.hid (lonk_of hR hsf); have zt := sixk_of (shk_of hR hsf) hn6; clear hR hsf)
    | (go_at_call 9; refine (print_any A2 cap2 ts _ HR.out HSh.out (by omega) (ti_later HT.out (K3.below (show K3 w w.heap.size q0 q1 q2 _ from by assumption)))).mono ?_; rintro e W3 ⟨rfl, hB⟩)
    | (go_at_call 16; (with_reducible refine (SP.out _ _ (by omega)).mono ?_); rintro e w' ⟨u, rfl, hu, hB⟩))
  all_goals (go_wp2; go_ret; exact ⟨rfl, (show K3 w w.heap.size q0 q1 q2 _ from by assumption).below⟩)
end Go.Proofs.YtlelnoalajeihaaDoor
