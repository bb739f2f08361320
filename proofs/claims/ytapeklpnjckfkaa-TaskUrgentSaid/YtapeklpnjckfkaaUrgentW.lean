/- TaskUrgent: the walk. -/
import Derived.Test.YtapeklpnjckfkaaUrgent
import Derived.Test.YtapeklpnjckfkaaSet
namespace Go.Proofs.Ytapeklpnjckfkaa
open Go.RowKit
set_option linter.unusedVariables false
set_option linter.unusedSimpArgs false

set_option maxRecDepth 100000 in
set_option maxHeartbeats 4000000 in
theorem urgent_walk (A : Option Addr) (cap : Nat) (raw : List Ts) (A2 : Option Addr) (cap2 : Nat) (specs : List Sp) (i : Int) (w : World)
    (hR : Row w A cap raw) (hS : SRow w A2 cap2 specs) (hi : in64 i) :
    Calls Try.prog 5 #[.slice A raw.length cap, .slice A2 specs.length cap2, .int .i64 i] w fun e w' => e = .returned (.bool true) ∧ Below w.heap.size w w' := by
  have hts := Lib.hid hi
  have hmx := hR.mx
  have hle := hR.le
  have SR := Lib.hid hS
  have RR := Lib.hid hR
  have r9 := fun w => rest_any i 9 w hi (by omega) (by omega)
  have r8 := fun w => rest_any i 8 w hi (by omega) (by omega)
  obtain ⟨b1, b2⟩ := restI_bd i 9 (by omega) (by omega)
  obtain ⟨b3, b4⟩ := restI_bd i 8 (by omega) (by omega)
  generalize restI i 9 = n9 at *
  generalize restI i 8 = n8 at *
  have RE9 := Lib.hid r9
  have RE8 := Lib.hid r8
  have in9 : Hid (in64 (n9 - 1)) := Lib.hid ⟨by omega, by omega⟩
  have in8 : Hid (in64 (n8 - 1)) := Lib.hid ⟨by omega, by omega⟩
  obtain ⟨i1, i2⟩ := hi
  clear hR hS r9 r8
  by_cases h6 : raw.length ≤ 6
  · have g6 : decide ((raw.length : Int) > 6) = false := decide_eq_false (by omega)
    obtain ⟨n, hn⟩ : ∃ n, raw.length = n := ⟨_, rfl⟩
    rw [hn] at h6 g6 hle ⊢
    have R0 := RR
    obtain ⟨r0, hr0⟩ : ∃ r0, r0 = raw := ⟨_, rfl⟩
    rw [← hr0] at R0 hn
    have hn := Lib.hid hn
    have h616 : n ≤ 16 := by omega
    clear hr0
    go_enter Try.func5, Try.ntmps5
    go_upto_region 2 with (go_at_call 9; (with_reducible refine (awake_any _).mono ?_); rintro e w1 ⟨rfl, h1⟩)
    go_upto_region 5 with (go_at_call 10; refine (set_any A2 cap2 specs _ _ (SR.out.later h1) hts.out).mono ?_; rintro e w2 ⟨A3, cap3, ts, rfl, hRt, hn1, hn8, hD, h2⟩)
    have B2 := Lib.hid (h1.trans (h2.mono h1.size))
    have RT := Lib.hid hRt
    clear hRt hD h2 h1
    go_wp2_with (first
      | (go_at_call 13; (with_reducible refine (RE9.out _).mono ?_); rintro e w' ⟨rfl, rfl⟩)
      | (go_at_call 13; (with_reducible refine (RE8.out _).mono ?_); rintro e w' ⟨rfl, rfl⟩)
      | (go_at_call 15; (with_reducible refine (urgent_any A cap r0 _ hn.out _ _ (R0.out.later B2.out) h616 hts.out).mono ?_); rintro e w3 ⟨rfl, h3⟩; have B3 := Lib.hid (B2.out.trans (h3.mono (Below.size B2.out))); have RT3 := Lib.hid (RT.out.later h3); clear h3)
      | (go_at_call 15; (with_reducible refine (urgent_any A3 cap3 ts _ rfl _ _ RT3.out (Nat.le_trans hn8 (by omega)) hts.out).mono ?_); rintro e w4 ⟨rfl, h4⟩; have B4 := Lib.hid (B3.out.trans (h4.mono (Below.size B3.out))); have RT4 := Lib.hid (RT3.out.later h4); clear h4)
      | (go_at_call 15; (with_reducible refine (urgent_any A3 cap3 ts _ rfl _ _ RT4.out (Nat.le_trans hn8 (by omega)) in9.out).mono ?_); rintro e w5 ⟨rfl, h5⟩; have B5 := Lib.hid (B4.out.trans (h5.mono (Below.size B4.out))); clear h5)
      | (go_at_call 15; (with_reducible refine (urgent_any A cap r0 _ hn.out _ _ (R0.out.later B5.out) h616 in8.out).mono ?_); rintro e w6 ⟨rfl, h6⟩; have B6 := Lib.hid (B5.out.trans (h6.mono (Below.size B5.out))); clear h6))
    go_ret
    exact ⟨rfl, B6.out⟩
  · have g6 : decide ((raw.length : Int) > 6) = true := decide_eq_true (by omega)
    have R0 : Hid (Row w A cap (raw.take 6)) := Lib.hid (RR.out.take 6)
    have hn : (raw.take 6).length = 6 := by rw [List.length_take]; omega
    obtain ⟨r0, hr0⟩ : ∃ r0, r0 = raw.take 6 := ⟨_, rfl⟩
    rw [← hr0] at R0 hn
    have hn := Lib.hid hn
    have h616 : 6 ≤ 16 := by omega
    clear hr0 RR
    obtain ⟨m, hm⟩ : ∃ m, raw.length = m := ⟨_, rfl⟩
    rw [hm] at h6 g6 hle ⊢
    clear hm
    have hc6 : (6 : Int) ≤ (cap : Int) := by omega
    have hm6 : (6 : Int) ≤ (m : Int) := by omega
    have hcz : cap ≠ 0 := by omega
    go_enter Try.func5, Try.ntmps5
    go_upto_region 2 with (go_at_call 9; (with_reducible refine (awake_any _).mono ?_); rintro e w1 ⟨rfl, h1⟩)
    go_upto_region 5 with (go_at_call 10; refine (set_any A2 cap2 specs _ _ (SR.out.later h1) hts.out).mono ?_; rintro e w2 ⟨A3, cap3, ts, rfl, hRt, hn1, hn8, hD, h2⟩)
    have B2 := Lib.hid (h1.trans (h2.mono h1.size))
    have RT := Lib.hid hRt
    clear hRt hD h2 h1
    go_wp2_with (first
      | (go_at_call 13; (with_reducible refine (RE9.out _).mono ?_); rintro e w' ⟨rfl, rfl⟩)
      | (go_at_call 13; (with_reducible refine (RE8.out _).mono ?_); rintro e w' ⟨rfl, rfl⟩)
      | (go_at_call 15; (with_reducible refine (urgent_any A cap r0 _ hn.out _ _ (R0.out.later B2.out) h616 hts.out).mono ?_); rintro e w3 ⟨rfl, h3⟩; have B3 := Lib.hid (B2.out.trans (h3.mono (Below.size B2.out))); have RT3 := Lib.hid (RT.out.later h3); clear h3)
      | (go_at_call 15; (with_reducible refine (urgent_any A3 cap3 ts _ rfl _ _ RT3.out (Nat.le_trans hn8 (by omega)) hts.out).mono ?_); rintro e w4 ⟨rfl, h4⟩; have B4 := Lib.hid (B3.out.trans (h4.mono (Below.size B3.out))); have RT4 := Lib.hid (RT3.out.later h4); clear h4)
      | (go_at_call 15; (with_reducible refine (urgent_any A3 cap3 ts _ rfl _ _ RT4.out (Nat.le_trans hn8 (by omega)) in9.out).mono ?_); rintro e w5 ⟨rfl, h5⟩; have B5 := Lib.hid (B4.out.trans (h5.mono (Below.size B4.out))); clear h5)
      | (go_at_call 15; (with_reducible refine (urgent_any A cap r0 _ hn.out _ _ (R0.out.later B5.out) h616 in8.out).mono ?_); rintro e w6 ⟨rfl, h6⟩; have B6 := Lib.hid (B5.out.trans (h6.mono (Below.size B5.out))); clear h6))
    go_ret
    exact ⟨rfl, B6.out⟩
end Go.Proofs.Ytapeklpnjckfkaa
