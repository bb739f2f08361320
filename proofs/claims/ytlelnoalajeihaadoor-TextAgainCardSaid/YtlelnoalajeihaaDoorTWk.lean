/- TextBack, TextAgain: the walks. -/
import Derived.Test.YtlelnoalajeihaaDoorTBk
import Derived.Deep.RegionHeld3
import Derived.Deep.DrawnRows
namespace Go.Proofs.YtlelnoalajeihaaDoor
open Go.RowKit
set_option linter.unusedVariables false
set_option linter.unusedSimpArgs false
attribute [local go_sem ↓] Go.wp_at_zero Go.wp_at_succ

theorem back_n (A : Option Addr) (cap : Nat) (l : List Ts) (n : Nat) (hn : l.length = n) (w : World) (hR : Row w A cap l) (hT : TI w) (hl : n ≤ 100) : Calls Tryd.prog 13 #[.slice A n cap] w (OkB w) := by
  subst hn
  exact back_any A cap l w hR hT hl

set_option maxRecDepth 100000 in
set_option maxHeartbeats 2000000 in
theorem tback_walk (A : Option Addr) (cap : Nat) (raw : List Ts) (A2 : Option Addr) (cap2 : Nat) (specs : List Sp) (turn : Int) (w : World) (hR : Row w A cap raw) (hS : SRow w A2 cap2 specs) (ht : in64 turn) (hT : TI w) :
    Calls Tryd.prog 4 #[.slice A raw.length cap, .slice A2 specs.length cap2, .int .i64 turn] w fun e w' => e = .returned (.bool true) ∧ Below w.heap.size w w' := by
  have hmx := hR.mx
  have hle := hR.le
  have SR := Lib.hid hS
  have HT := Lib.hid hT
  have HU := Lib.hid ht
  have AW : Hid (∀ (W : World), Calls Tryd.prog 7 #[] W (fun e w' => e = .returned (.bool true) ∧ Below W.heap.size W w')) := Lib.hid (fun W => awake5_any W)
  clear hS hT ht
  by_cases h6 : raw.length ≤ 6
  · have g6 : decide ((raw.length : Int) > 6) = false := decide_eq_false (by omega)
    have R0 := Lib.hid hR
    obtain ⟨n, hn⟩ : ∃ n, raw.length = n := ⟨_, rfl⟩
    rw [hn] at h6 g6 hle ⊢
    have hn := Lib.hid hn
    clear hR
    go_enter Tryd.func4, Tryd.ntmps4
    go_wp2_with (first
      | (go_at_call 7; (with_reducible refine (AW.out _).mono ?_); rintro e w1 ⟨rfl, h1⟩; have B1 := Lib.hid h1; clear h1)
      | (go_at_call 13; (with_reducible refine (back_n A cap raw _ hn.out _ (R0.out.later B1.out) (ti_later HT.out B1.out) (by omega)).mono ?_); rintro e w2 ⟨rfl, h2⟩; have B2 := Lib.hid (B1.out.trans (h2.mono B1.out.size)); clear h2)
      | (go_at_call 8; refine (set_any 6 (by omega) (by omega) A2 cap2 specs _ _ (SR.out.later B2.out) HU.out).mono ?_; rintro e w3 ⟨A3, cap3, ts, rfl, hRt, hn1, hn6, -, -, -, h3⟩; have B3 := Lib.hid (B2.out.trans (h3.mono B2.out.size)); have R3 := Lib.hid hRt; clear h3 hRt)
      | (go_at_call 13; (with_reducible refine (back_any A3 cap3 ts _ R3.out (ti_later HT.out B3.out) (by omega)).mono ?_); rintro e w4 ⟨rfl, h4⟩; have B4 := Lib.hid (B3.out.trans (h4.mono B3.out.size)); clear h4))
    go_ret
    exact ⟨rfl, B4.out⟩
  · have g6 : decide ((raw.length : Int) > 6) = true := decide_eq_true (by omega)
    have R0 : Hid (Row w A cap (raw.take 6)) := Lib.hid (hR.take 6)
    have hn : (raw.take 6).length = 6 := by rw [List.length_take]; omega
    have hn := Lib.hid hn
    obtain ⟨m, hm⟩ : ∃ m, raw.length = m := ⟨_, rfl⟩
    rw [hm] at h6 g6 hle ⊢
    have hc6 : (6 : Int) ≤ (cap : Int) := by omega
    have hm6 : (6 : Int) ≤ (m : Int) := by omega
    have hcz : cap ≠ 0 := by omega
    clear hm hR
    go_enter Tryd.func4, Tryd.ntmps4
    go_wp2_with (first
      | (go_at_call 7; (with_reducible refine (AW.out _).mono ?_); rintro e w1 ⟨rfl, h1⟩; have B1 := Lib.hid h1; clear h1)
      | (go_at_call 13; (with_reducible refine (back_n A cap (raw.take 6) _ hn.out _ (R0.out.later B1.out) (ti_later HT.out B1.out) (by omega)).mono ?_); rintro e w2 ⟨rfl, h2⟩; have B2 := Lib.hid (B1.out.trans (h2.mono B1.out.size)); clear h2)
      | (go_at_call 8; refine (set_any 6 (by omega) (by omega) A2 cap2 specs _ _ (SR.out.later B2.out) HU.out).mono ?_; rintro e w3 ⟨A3, cap3, ts, rfl, hRt, hn1, hn6, -, -, -, h3⟩; have B3 := Lib.hid (B2.out.trans (h3.mono B2.out.size)); have R3 := Lib.hid hRt; clear h3 hRt)
      | (go_at_call 13; (with_reducible refine (back_any A3 cap3 ts _ R3.out (ti_later HT.out B3.out) (by omega)).mono ?_); rintro e w4 ⟨rfl, h4⟩; have B4 := Lib.hid (B3.out.trans (h4.mono B3.out.size)); clear h4))
    go_ret
    exact ⟨rfl, B4.out⟩

/-! ### TextAgain -/
set_option maxRecDepth 100000 in
set_option maxHeartbeats 4000000 in
theorem again_no (s : ByteArray) (w : World) (hs : s.size ≤ 100000) (h : (parseS s).2.2 ≠ 0) : Calls Tryd.prog 14 #[.string s] w (OkB w) := by
  have PA := parse_any s w hs
  unfold ParsePost at PA
  rw [parse_no h] at PA
  obtain ⟨z, hz⟩ : ∃ z, (parseS s).2.2 = z := ⟨_, rfl⟩
  rw [hz] at PA h
  generalize (parseS s).2.1 = n at *
  have ht : (z != 0) = true := by simp; exact h
  have PA := Lib.hid PA
  clear hz h
  go_enter Tryd.func14, Tryd.ntmps14
  go_wp2_with (go_at_call 19; (with_reducible refine PA.out.mono ?_); rintro e W1 ⟨A1, c1, rfl, hR1, hB1⟩; have HB1 := Lib.hid hB1; clear hB1 hR1)
  go_ret
  exact ⟨rfl, HB1.out⟩
set_option maxRecDepth 100000 in
set_option maxHeartbeats 4000000 in
theorem again_ok (s : ByteArray) (w : World) (hs : s.size ≤ 2000) (hT : TI w) (h : (parseS s).2.2 = 0) (hW : ∀ x ∈ (parseS s).1, TsW x) : Calls Tryd.prog 14 #[.string s] w (OkB w) := by
  have PA := parse_any s w (by omega)
  unfold ParsePost at PA
  have hlen := parse_len s
  have hok := parse_may h
  rw [h] at PA
  generalize (parseS s).2.1 = n0 at *
  generalize (parseS s).1 = l at *
  obtain ⟨hz, hS⟩ := print_len hW hok
  have hz2 : (printS l).size ≤ 100000 := by omega
  have hp := parse_back hok (s := printS l) rfl
  have PR := Lib.hid (fun A c W (hR : Row W A c l) (hB : Below w.heap.size w W) => print_any A c l W hR hS (by omega) (ti_later hT hB))
  have PB := fun W => parse_any (printS l) W hz2
  unfold ParsePost at PB
  rw [hp] at PB
  have SM := Lib.hid (fun A1 c1 A2 c2 W (h1 : Row W A1 c1 l) (h2 : Row W A2 c2 l) => rsame_any h1 h2)
  have PA := Lib.hid PA
  have PB := Lib.hid PB
  clear hok hp hS hz hT h hW hz2 hlen hs
  go_enter Tryd.func14, Tryd.ntmps14
  go_wp2_with (first
    | (go_at_call 19; (with_reducible refine PA.out.mono ?_); rintro e W1 ⟨A1, c1, rfl, hR1, hB1⟩; have HB1 := Lib.hid hB1; have HR1 := Lib.hid hR1; clear hB1 hR1; clear PA)
    | (go_at_call 9; (with_reducible refine (PR.out _ _ _ HR1.out HB1.out).mono ?_); rintro e W2 ⟨rfl, hB2⟩; have HB2 := Lib.hid (HB1.out.trans (hB2.mono HB1.out.size)); have HR2 := Lib.hid (HR1.out.later hB2); clear hB2; clear HR1)
    | (go_at_call 19; (with_reducible refine (PB.out _).mono ?_); rintro e W3 ⟨A3, c3, rfl, hR3, hB3⟩; have HB3 := Lib.hid (HB2.out.trans (hB3.mono HB2.out.size)); have HR3 := Lib.hid hR3; have HR4 := Lib.hid (HR2.out.later hB3); clear hB3 hR3)
    | (go_at_call 18; (with_reducible refine (SM.out _ _ _ _ _ HR4.out HR3.out).mono ?_); rintro e W4 ⟨rfl, hB4⟩; have HB4 := Lib.hid (HB3.out.trans (hB4.mono HB3.out.size)); have HR5 := Lib.hid (HR3.out.later hB4); clear hB4)
    | (go_at_call 9; (with_reducible refine (PR.out _ _ _ HR5.out HB4.out).mono ?_); rintro e W5 ⟨rfl, hB5⟩; have HB5 := Lib.hid (HB4.out.trans (hB5.mono HB4.out.size)); clear hB5))
  go_ret
  exact ⟨rfl, HB5.out⟩
end Go.Proofs.YtlelnoalajeihaaDoor
