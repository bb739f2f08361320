/- The law's checks, and its turned. -/
import Derived.Test.YtapeklpnjckfkaaRChk
namespace Go.Proofs.Ytapeklpnjckfkaa
open Go.RowKit
set_option linter.unusedVariables false
set_option linter.unusedSimpArgs false

theorem checkAll_any (A : Option Addr) (cap : Nat) (l : List Ts) (w : World) (hR : Row w A cap l) :
    Calls Try.prog 24 #[.slice A l.length cap] w fun e w' => e = .returned (.tuple #[.int .i64 ((chkAll l).1 : Int), .int .i64 (chkAll l).2]) ∧ Below w.heap.size w w' := by
  by_cases h : l.length = 0 ∨ 1024 < l.length
  · have := checkAll_many A cap l w h (Nat.le_trans hR.le hR.mx)
    rw [chkAll, if_pos h]
    exact this
  · exact checkAll_few A cap l w hR (by omega) (by omega)

set_option maxRecDepth 100000 in
set_option maxHeartbeats 8000000 in
theorem checks_any (A : Option Addr) (cap : Nat) (l : List Ts) (w : World) (hR : Row w A cap l) :
    Calls Try.prog 12 #[.slice A l.length cap] w fun e w' => e = .returned (.bool true) ∧ Below w.heap.size w w' := by
  have hle := hR.le
  have hmx := hR.mx
  have K1 := fun w hR => checkAll_any A cap l w hR
  have K2 := fun w hR => rcheckAll_any A cap l w hR
  generalize (chkAll l).1 = a at *
  generalize (chkAll l).2 = e at *
  have K1 := Lib.hid K1
  have K2 := Lib.hid K2
  have ROW := Lib.hid hR
  clear hR
  go_enter Try.func12, Try.ntmps12
  go_upto_region 3 with (first
    | (go_at_call 24; (with_reducible refine (K1.out _ ROW.out).mono ?_); rintro e1 w1 ⟨rfl, h1⟩)
    | (go_at_call 27; (with_reducible refine (K2.out _ (ROW.out.later h1)).mono ?_); rintro e2 w2 ⟨rfl, h2⟩))
  obtain ⟨W3, hW3, G3, B3⟩ : ∃ W3, w2.alloc (.cells #[.int .i64 (a : Int), .int .i64 e] 59) = W3 ∧ GB W3 w2.heap.size a e ∧ Below w.heap.size w W3 :=
    ⟨_, rfl, GB.new _ _ _, (h1.trans (h2.mono h1.size)).trans ((Below.refl w.heap.size w2).alloc (Nat.le_trans h1.size h2.size) _)⟩
  rw [hW3]
  clear hW3 h1 h2
  generalize w2.heap.size = bg at *
  have G3 := Lib.hid G3
  have B3 := Lib.hid B3
  go_wp2
  go_loopw [6] (fun i wr => ∃ k : Nat, k ≤ l.length ∧ i = .int .i64 k ∧ Lt W3 wr) (fun i _ => l.length - (intOf i).toNat)
  case atStart => exact ⟨0, Nat.zero_le _, rfl, Below.refl _ _⟩
  case round =>
    obtain ⟨k, hk, rfl, hL⟩ := hrel
    have HL := Lib.hid hL
    clear hL
    by_cases hlt : k < l.length
    · obtain ⟨b, o, x, rfl, hx, hw, hbl, hT⟩ := ROW.out.get hlt
      have hi0 : (0 : Int) ≤ (k : Int) := by omega
      have hi1 : (k : Int) < (l.length : Int) := by omega
      have T := (hT.later B3.out).later HL.out
      have C1 := Lib.hid (fun W => check_any x W)
      have C2 := Lib.hid (fun W => rcheck_any x W hw)
      generalize checkE x = ce at *
      have T := Lib.hid T
      clear hT hx hw
      go_upto_region 6 with (fail)
      refine region_quiet_l (C := Lt wr) (by kernel_rfl) (by kernel_rfl) (lt_drew _) ?_
      repeat (first
        | (refine wq_skip (by rfl) ?_; (try simp only [Act.put, List.setIfInBounds_toArray, List.set_cons_zero, List.set_cons_succ]))
        | (refine wq_val _ (by rfl) (by intro v hC; clear hC; go_simp; (try rfl)) ?_; (try simp only [Act.put, List.setIfInBounds_toArray, List.set_cons_zero, List.set_cons_succ]))
        | (with_reducible fail))
      refine wq_loadT _ (fun v h => T.out.later h) (by rfl) (by rfl) (by rfl) ?_
      (try simp only [Act.put, List.setIfInBounds_toArray, List.set_cons_zero, List.set_cons_succ])
      refine wq_call (fun W _ => C1.out W) lt_step (by rfl) (by intro v _; go_simp) ?_
      (try simp only [Act.put, List.setIfInBounds_toArray, List.set_cons_zero, List.set_cons_succ])
      repeat (first
        | (refine wq_skip (by rfl) ?_; (try simp only [Act.put, List.setIfInBounds_toArray, List.set_cons_zero, List.set_cons_succ]))
        | (refine wq_val _ (by rfl) (by intro v hC; clear hC; go_simp; (try rfl)) ?_; (try simp only [Act.put, List.setIfInBounds_toArray, List.set_cons_zero, List.set_cons_succ]))
        | (with_reducible fail))
      refine wq_loadT _ (fun v h => T.out.later h) (by rfl) (by rfl) (by rfl) ?_
      (try simp only [Act.put, List.setIfInBounds_toArray, List.set_cons_zero, List.set_cons_succ])
      refine wq_call (fun W _ => C2.out W) lt_step (by rfl) (by intro v _; go_simp) ?_
      (try simp only [Act.put, List.setIfInBounds_toArray, List.set_cons_zero, List.set_cons_succ])
      repeat (first
        | (refine wq_skip (by rfl) ?_; (try simp only [Act.put, List.setIfInBounds_toArray, List.set_cons_zero, List.set_cons_succ]))
        | (refine wq_val _ (by rfl) (by intro v hC; clear hC; go_simp; (try rfl)) ?_; (try simp only [Act.put, List.setIfInBounds_toArray, List.set_cons_zero, List.set_cons_succ]))
        | (with_reducible fail))
      refine wpQuiet_nil ?_
      intro W6 hW6
      have HW6 : Hid (Lt W3 W6) := Lib.hid (Below.trans HL.out (Below.mono hW6 (Below.size HL.out)))
      clear hW6
      go_wp2
      go_roundw
      case rel => exact ⟨k + 1, by omega, by go_num, HW6.out⟩
      case measure => simp [intOf]; omega
    · obtain rfl : k = l.length := by omega
      have g0 := (G3.out.later HL.out).c0
      have g1 := (G3.out.later HL.out).c1
      go_wp2
      go_ret
      exact ⟨rfl, Below.trans B3.out (Below.mono HL.out (Below.size B3.out))⟩

theorem checks_n (A : Option Addr) (cap : Nat) (l : List Ts) (n : Nat) (hn : l.length = n) (w : World) (hR : Row w A cap l) :
    Calls Try.prog 12 #[.slice A n cap] w fun e w' => e = .returned (.bool true) ∧ Below w.heap.size w w' := by
  subst hn
  exact checks_any A cap l w hR
end Go.Proofs.Ytapeklpnjckfkaa
