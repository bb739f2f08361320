/- TaskChecks: the walk. -/
import Derived.Test.YtapeklpnjckfkaaTurned
namespace Go.Proofs.Ytapeklpnjckfkaa
open Go.RowKit
set_option linter.unusedVariables false
set_option linter.unusedSimpArgs false

theorem arr5 {w w1 : World} {t : TypeId} {v0 v1 v2 v3 v4 : Value} (h : Below (w.alloc (.cells #[v0, v1, v2, v3, v4] t)).heap.size (w.alloc (.cells #[v0, v1, v2, v3, v4] t)) w1) :
    (w1.cell? ⟨w.heap.size, 0, none⟩ = some v0 ∧ w1.cell? ⟨w.heap.size, 1, none⟩ = some v1 ∧ w1.cell? ⟨w.heap.size, 2, none⟩ = some v2 ∧ w1.cell? ⟨w.heap.size, 3, none⟩ = some v3 ∧ w1.cell? ⟨w.heap.size, 4, none⟩ = some v4) ∧ Below w.heap.size w w1 ∧ w.heap.size < w1.heap.size := by
  have hs := h.size
  simp only [World.size_alloc] at hs
  have hc : ∀ i, w1.cell? ⟨w.heap.size, i, none⟩ = (#[v0, v1, v2, v3, v4] : Array Value)[i]? := fun i => by
    rw [h.cell (p := ⟨w.heap.size, i, none⟩) (by simp), cell_of_row _ _ i _ _ _ (heap_alloc_new w _)]
  exact ⟨⟨hc 0, hc 1, hc 2, hc 3, hc 4⟩, ((Below.refl w.heap.size w).alloc (Nat.le_refl _) _).trans (h.mono (by simp)), by omega⟩

set_option maxRecDepth 100000 in
set_option maxHeartbeats 8000000 in
theorem checks_walk (A : Option Addr) (cap : Nat) (raw : List Ts) (A2 : Option Addr) (cap2 : Nat) (specs : List Sp) (q0 q1 q2 q3 q4 : Int) (w : World)
    (hR : Row w A cap raw) (hS : SRow w A2 cap2 specs) (hq0 : in64 q0) (hq1 : in64 q1) (hq2 : in64 q2) (hq3 : in64 q3) (hq4 : in64 q4) :
    Calls Try.prog 3 #[.slice A raw.length cap, .slice A2 specs.length cap2, .agg #[.int .i64 q0, .int .i64 q1, .int .i64 q2, .int .i64 q3, .int .i64 q4]] w fun e w' => e = .returned (.bool true) ∧ Below w.heap.size w w' := by
  have hmx := hR.mx
  have hle := hR.le
  have SR := Lib.hid hS
  have RR := Lib.hid hR
  have hq0 := Lib.hid hq0
  have hq1 := Lib.hid hq1
  have hq2 := Lib.hid hq2
  have hq3 := Lib.hid hq3
  have hq4 := Lib.hid hq4
  clear hR hS
  by_cases h6 : raw.length ≤ 6
  · have g6 : decide ((raw.length : Int) > 6) = false := decide_eq_false (by omega)
    obtain ⟨n, hn⟩ : ∃ n, raw.length = n := ⟨_, rfl⟩
    rw [hn] at h6 g6 hle ⊢
    have R0 := RR
    obtain ⟨r0, hr0⟩ : ∃ r0, r0 = raw := ⟨_, rfl⟩
    rw [← hr0] at R0 hn
    have hn := Lib.hid hn
    clear hr0
    go_enter Try.func3, Try.ntmps3
    go_upto_region 2 with (go_at_call 9; (with_reducible refine (awake_any _).mono ?_); rintro e w1 ⟨rfl, h1⟩)
    obtain ⟨⟨k0, k1, k2, k3, k4⟩, hB1, hlt1⟩ := arr5 h1
    clear h1
    have B1 := Lib.hid hB1
    go_upto_region 5 with (go_at_call 10; refine (set_any A2 cap2 specs _ _ (SR.out.later hB1) hq0.out).mono ?_; rintro e w2 ⟨A3, cap3, ts, rfl, hRt, hn1, hn8, hD, h2⟩)
    have L2 : Hid (Below w1.heap.size w1 w2) := Lib.hid h2
    have j1 := (h2.cell (p := ⟨w.heap.size, 1, none⟩) hlt1).trans k1
    have j2 := (h2.cell (p := ⟨w.heap.size, 2, none⟩) hlt1).trans k2
    have j3 := (h2.cell (p := ⟨w.heap.size, 3, none⟩) hlt1).trans k3
    have RT2 := Lib.hid hRt
    clear hRt hD h2 k0 hB1
    generalize hnt : ts.length = nt at *
    have HNT := Lib.hid hnt
    clear hnt
    go_upto_region 6 with (go_at_call 11; refine (turned_any A3 cap3 ts nt HNT.out _ _ _ _ RT2.out hn1 hn8 hq1.out hq2.out hq3.out).mono ?_; rintro e w3 ⟨A4, cap4, ts4, rfl, hR4, hl4, h3⟩)
    have L3 : Hid (Below w1.heap.size w1 w3) := Lib.hid (lt_step (W := w1) _ _ L2.out h3)
    have RS3 := Lib.hid (RT2.out.later h3)
    have RT3 := Lib.hid hR4
    have HL4 := Lib.hid hl4
    clear hR4 hl4 h3 j1 j2 j3
    go_wp2_with (first
      | (go_at_call 12; (with_reducible refine (checks_n A cap r0 _ hn.out _ (R0.out.later (Below.trans B1.out (Below.mono L3.out (Below.size B1.out))))).mono ?_); rintro e w4 ⟨rfl, h4⟩; have L4 : Hid (Below w1.heap.size w1 w4) := Lib.hid (lt_step (W := w1) _ _ L3.out h4); have RS4 := Lib.hid (RS3.out.later h4); have RT4 := Lib.hid (RT3.out.later h4); clear h4)
      | (go_at_call 12; (with_reducible refine (checks_n A3 cap3 ts _ HNT.out _ RS4.out).mono ?_); rintro e w5 ⟨rfl, h5⟩; have L5 : Hid (Below w1.heap.size w1 w5) := Lib.hid (lt_step (W := w1) _ _ L4.out h5); have RT5 := Lib.hid (RT4.out.later h5); clear h5)
      | (go_at_call 12; (with_reducible refine (checks_n A4 cap4 ts4 _ HL4.out _ RT5.out).mono ?_); rintro e w6 ⟨rfl, h6⟩; have L6 : Hid (Below w1.heap.size w1 w6) := Lib.hid (lt_step (W := w1) _ _ L5.out h6); have RT6 := Lib.hid (RT5.out.later h6); clear h6; have i1 := (Below.cell L6.out (p := ⟨w.heap.size, 1, none⟩) hlt1).trans k1; have i2 := (Below.cell L6.out (p := ⟨w.heap.size, 2, none⟩) hlt1).trans k2; have i4 := (Below.cell L6.out (p := ⟨w.heap.size, 4, none⟩) hlt1).trans k4)
      | (go_at_call 11; (with_reducible refine (turned_any A4 cap4 ts4 nt HL4.out _ _ _ _ RT6.out hn1 hn8 hq2.out hq1.out hq4.out).mono ?_); rintro e w7 ⟨A5, cap5, ts5, rfl, hR5, hl5, h7⟩; have L7 : Hid (Below w1.heap.size w1 w7) := Lib.hid (lt_step (W := w1) _ _ L6.out h7); have RT7 := Lib.hid hR5; have HL5 := Lib.hid hl5; clear h7 hR5 hl5)
      | (go_at_call 12; (with_reducible refine (checks_n A5 cap5 ts5 _ HL5.out _ RT7.out).mono ?_); rintro e w8 ⟨rfl, h8⟩; have L8 : Hid (Below w1.heap.size w1 w8) := Lib.hid (lt_step (W := w1) _ _ L7.out h8); clear h8)
      | (go_at_call 12; (with_reducible refine (checks_n none 0 [] 0 rfl _ (Row.nil _ _ (by omega))).mono ?_); rintro e w9 ⟨rfl, h9⟩; have L9 : Hid (Below w1.heap.size w1 w9) := Lib.hid (lt_step (W := w1) _ _ L8.out h9); clear h9))
    go_ret
    exact ⟨rfl, Below.trans B1.out (Below.mono L9.out (Below.size B1.out))⟩
  · have g6 : decide ((raw.length : Int) > 6) = true := decide_eq_true (by omega)
    have R0 : Hid (Row w A cap (raw.take 6)) := Lib.hid (RR.out.take 6)
    have hn : (raw.take 6).length = 6 := by rw [List.length_take]; omega
    obtain ⟨r0, hr0⟩ : ∃ r0, r0 = raw.take 6 := ⟨_, rfl⟩
    rw [← hr0] at R0 hn
    have hn := Lib.hid hn
    clear hr0 RR
    obtain ⟨m, hm⟩ : ∃ m, raw.length = m := ⟨_, rfl⟩
    rw [hm] at h6 g6 hle ⊢
    clear hm
    have hc6 : (6 : Int) ≤ (cap : Int) := by omega
    have hm6 : (6 : Int) ≤ (m : Int) := by omega
    have hcz : cap ≠ 0 := by omega
    go_enter Try.func3, Try.ntmps3
    go_upto_region 2 with (go_at_call 9; (with_reducible refine (awake_any _).mono ?_); rintro e w1 ⟨rfl, h1⟩)
    obtain ⟨⟨k0, k1, k2, k3, k4⟩, hB1, hlt1⟩ := arr5 h1
    clear h1
    have B1 := Lib.hid hB1
    go_upto_region 5 with (go_at_call 10; refine (set_any A2 cap2 specs _ _ (SR.out.later hB1) hq0.out).mono ?_; rintro e w2 ⟨A3, cap3, ts, rfl, hRt, hn1, hn8, hD, h2⟩)
    have L2 : Hid (Below w1.heap.size w1 w2) := Lib.hid h2
    have j1 := (h2.cell (p := ⟨w.heap.size, 1, none⟩) hlt1).trans k1
    have j2 := (h2.cell (p := ⟨w.heap.size, 2, none⟩) hlt1).trans k2
    have j3 := (h2.cell (p := ⟨w.heap.size, 3, none⟩) hlt1).trans k3
    have RT2 := Lib.hid hRt
    clear hRt hD h2 k0 hB1
    generalize hnt : ts.length = nt at *
    have HNT := Lib.hid hnt
    clear hnt
    go_upto_region 6 with (go_at_call 11; refine (turned_any A3 cap3 ts nt HNT.out _ _ _ _ RT2.out hn1 hn8 hq1.out hq2.out hq3.out).mono ?_; rintro e w3 ⟨A4, cap4, ts4, rfl, hR4, hl4, h3⟩)
    have L3 : Hid (Below w1.heap.size w1 w3) := Lib.hid (lt_step (W := w1) _ _ L2.out h3)
    have RS3 := Lib.hid (RT2.out.later h3)
    have RT3 := Lib.hid hR4
    have HL4 := Lib.hid hl4
    clear hR4 hl4 h3 j1 j2 j3
    go_wp2_with (first
      | (go_at_call 12; (with_reducible refine (checks_n A cap r0 _ hn.out _ (R0.out.later (Below.trans B1.out (Below.mono L3.out (Below.size B1.out))))).mono ?_); rintro e w4 ⟨rfl, h4⟩; have L4 : Hid (Below w1.heap.size w1 w4) := Lib.hid (lt_step (W := w1) _ _ L3.out h4); have RS4 := Lib.hid (RS3.out.later h4); have RT4 := Lib.hid (RT3.out.later h4); clear h4)
      | (go_at_call 12; (with_reducible refine (checks_n A3 cap3 ts _ HNT.out _ RS4.out).mono ?_); rintro e w5 ⟨rfl, h5⟩; have L5 : Hid (Below w1.heap.size w1 w5) := Lib.hid (lt_step (W := w1) _ _ L4.out h5); have RT5 := Lib.hid (RT4.out.later h5); clear h5)
      | (go_at_call 12; (with_reducible refine (checks_n A4 cap4 ts4 _ HL4.out _ RT5.out).mono ?_); rintro e w6 ⟨rfl, h6⟩; have L6 : Hid (Below w1.heap.size w1 w6) := Lib.hid (lt_step (W := w1) _ _ L5.out h6); have RT6 := Lib.hid (RT5.out.later h6); clear h6; have i1 := (Below.cell L6.out (p := ⟨w.heap.size, 1, none⟩) hlt1).trans k1; have i2 := (Below.cell L6.out (p := ⟨w.heap.size, 2, none⟩) hlt1).trans k2; have i4 := (Below.cell L6.out (p := ⟨w.heap.size, 4, none⟩) hlt1).trans k4)
      | (go_at_call 11; (with_reducible refine (turned_any A4 cap4 ts4 nt HL4.out _ _ _ _ RT6.out hn1 hn8 hq2.out hq1.out hq4.out).mono ?_); rintro e w7 ⟨A5, cap5, ts5, rfl, hR5, hl5, h7⟩; have L7 : Hid (Below w1.heap.size w1 w7) := Lib.hid (lt_step (W := w1) _ _ L6.out h7); have RT7 := Lib.hid hR5; have HL5 := Lib.hid hl5; clear h7 hR5 hl5)
      | (go_at_call 12; (with_reducible refine (checks_n A5 cap5 ts5 _ HL5.out _ RT7.out).mono ?_); rintro e w8 ⟨rfl, h8⟩; have L8 : Hid (Below w1.heap.size w1 w8) := Lib.hid (lt_step (W := w1) _ _ L7.out h8); clear h8)
      | (go_at_call 12; (with_reducible refine (checks_n none 0 [] 0 rfl _ (Row.nil _ _ (by omega))).mono ?_); rintro e w9 ⟨rfl, h9⟩; have L9 : Hid (Below w1.heap.size w1 w9) := Lib.hid (lt_step (W := w1) _ _ L8.out h9); clear h9))
    go_ret
    exact ⟨rfl, Below.trans B1.out (Below.mono L9.out (Below.size B1.out))⟩
end Go.Proofs.Ytapeklpnjckfkaa
