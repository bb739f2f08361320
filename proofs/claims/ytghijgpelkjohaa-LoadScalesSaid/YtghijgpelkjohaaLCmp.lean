/- Which of two fractions is greater: by the program, and by the document. -/
import Derived.Test.YtghijgpelkjohaaLForm
namespace Go.Proofs.Ytghijgpelkjohaa
open Go.RowKit
set_option linter.unusedVariables false
set_option linter.unusedSimpArgs false
theorem cmpU_any (x y : Int) (w : World) : Calls Try.prog 28 #[.int .u64 x, .int .u64 y] w fun e w' => e = .returned (.int .i64 (cmpI x y)) ∧ w' = w := by
  unfold cmpI
  by_cases h1 : x < y
  · have t1 : decide (x < y) = true := decide_eq_true h1
    rw [if_pos h1]
    clear h1
    go_enter Try.func28, Try.ntmps28
    go_wp2
    go_ret
    exact ⟨rfl, rfl⟩
  · have t1 : decide (x < y) = false := decide_eq_false h1
    rw [if_neg h1]
    by_cases h2 : x > y
    · have t2 : decide (x > y) = true := decide_eq_true h2
      have t3 : decide (y < x) = true := decide_eq_true h2
      rw [if_pos h2]
      clear h1 h2
      go_enter Try.func28, Try.ntmps28
      go_wp2
      go_ret
      exact ⟨rfl, rfl⟩
    · have t2 : decide (x > y) = false := decide_eq_false h2
      have t3 : decide (y < x) = false := decide_eq_false h2
      rw [if_neg h2]
      clear h1 h2
      go_enter Try.func28, Try.ntmps28
      go_wp2
      go_ret
      exact ⟨rfl, rfl⟩
set_option maxRecDepth 100000 in
set_option maxHeartbeats 2000000 in
theorem or_any (g : Nat) (a b : Int) (w : World) (h0 : w.cell? ⟨g, 0, none⟩ = some (.int .i64 a)) (h1 : w.cell? ⟨g, 1, none⟩ = some (.int .i64 b)) :
    Calls Try.prog 27 #[.slice (some ⟨g, 0, none⟩) 2 2] w fun e w' => e = .returned (.int .i64 (if a = 0 then b else a)) ∧ w' = w := by
  by_cases ha : a = 0
  · subst ha
    rw [if_pos rfl]
    by_cases hb : b = 0
    · subst hb
      go_enter Try.func27, Try.ntmps27
      go_wp2
      go_loopw [8] (fun i wr => ∃ k : Nat, k ≤ 2 ∧ i = .int .i64 (k : Int) ∧ wr = w) (fun i _ => 2 - (intOf i).toNat)
      case atStart => exact ⟨0, by omega, rfl, rfl⟩
      case round =>
        obtain ⟨k, hk, rfl, rfl⟩ := hrel
        rcases (show k = 0 ∨ k = 1 ∨ k = 2 by omega) with rfl | rfl | rfl
        · go_wp2
          refine ⟨⟨1, by omega, by go_num, by first | rfl | trivial⟩, by first | (simp [intOf]; done) | omega⟩
        · go_wp2
          refine ⟨⟨2, by omega, by go_num, by first | rfl | trivial⟩, by first | (simp [intOf]; done) | omega⟩
        · go_wp2
          go_ret
          exact ⟨rfl, rfl⟩
    · have tb : (b == 0) = false := by simpa using hb
      have tb2 : (b != 0) = true := by simpa using hb
      clear hb
      go_enter Try.func27, Try.ntmps27
      go_wp2
      go_loopw [8] (fun i wr => ∃ k : Nat, k ≤ 1 ∧ i = .int .i64 (k : Int) ∧ wr = w) (fun i _ => 2 - (intOf i).toNat)
      case atStart => exact ⟨0, by omega, rfl, rfl⟩
      case round =>
        obtain ⟨k, hk, rfl, rfl⟩ := hrel
        rcases (show k = 0 ∨ k = 1 by omega) with rfl | rfl
        · go_wp2
          refine ⟨⟨1, by omega, by go_num, by first | rfl | trivial⟩, by first | (simp [intOf]; done) | omega⟩
        · go_wp2
          go_ret
          exact ⟨rfl, rfl⟩
  · rw [if_neg ha]
    have tb : (a == 0) = false := by simpa using ha
    have tb2 : (a != 0) = true := by simpa using ha
    clear ha
    go_enter Try.func27, Try.ntmps27
    go_wp2
    go_loopw [8] (fun i wr => i = .int .i64 0 ∧ wr = w) (fun i _ => 0)
    case atStart => exact ⟨rfl, rfl⟩
    case round =>
      obtain ⟨rfl, rfl⟩ := hrel
      go_wp2
      go_ret
      exact ⟨rfl, rfl⟩

/-! ### The program's -/
theorem or_new (r1 r2 : Int) (W : World) : Calls Try.prog 27 #[.slice (some ⟨W.heap.size, 0, none⟩) 2 2] (W.alloc (.cells #[.int .i64 r1, .int .i64 r2] 3)) fun e w' => e = .returned (.int .i64 (if r1 = 0 then r2 else r1)) ∧ w' = W.alloc (.cells #[.int .i64 r1, .int .i64 r2] 3) :=
  or_any W.heap.size r1 r2 _ (by simp) (by simp)
theorem cmp_wide (p q : Int) (hp : 0 ≤ p) (hq : 0 ≤ q) : (if cmpI (p / 18446744073709551616) (q / 18446744073709551616) = 0 then cmpI (p % 18446744073709551616) (q % 18446744073709551616) else cmpI (p / 18446744073709551616) (q / 18446744073709551616)) = cmpI p q := by
  have e1 := Int.emod_add_mul_ediv p 18446744073709551616
  have e2 := Int.emod_add_mul_ediv q 18446744073709551616
  have a1 := Int.emod_nonneg p (show (18446744073709551616 : Int) ≠ 0 by decide)
  have a2 := Int.emod_nonneg q (show (18446744073709551616 : Int) ≠ 0 by decide)
  have b1 := Int.emod_lt_of_pos p (show (0 : Int) < 18446744073709551616 by decide)
  have b2 := Int.emod_lt_of_pos q (show (0 : Int) < 18446744073709551616 by decide)
  generalize p / 18446744073709551616 = ph at *
  generalize p % 18446744073709551616 = pl at *
  generalize q / 18446744073709551616 = qh at *
  generalize q % 18446744073709551616 = ql at *
  unfold cmpI
  repeat (first | omega | split)
theorem cmpI_in (a b : Int) : -1 ≤ cmpI a b ∧ cmpI a b ≤ 1 := by unfold cmpI; repeat (first | omega | split)
set_option maxRecDepth 100000 in
set_option maxHeartbeats 4000000 in
theorem compare_any (x y : Fr) (hx : FrW x) (hy : FrW y) (w : World) :
    Calls Try.prog 14 #[frV x, frV y] w fun e w' => e = .returned (.int .i64 (cmpF x y)) ∧ Below w.heap.size w w' := by
  have K1 := Lib.hid (fun W => mul64_any x.n y.d hx.n.1 hx.n.2 hy.d.1 hy.d.2 W)
  have K2 := Lib.hid (fun W => mul64_any y.n x.d hy.n.1 hy.n.2 hx.d.1 hx.d.2 W)
  have hw := cmp_wide (x.n * y.d) (y.n * x.d) (mul_nonneg' _ _ hx.n.1 hy.d.1) (mul_nonneg' _ _ hy.n.1 hx.d.1)
  unfold cmpF
  obtain ⟨xn, xd⟩ := x
  obtain ⟨yn, yd⟩ := y
  simp only at *
  generalize cmpI (xn * yd) (yn * xd) = r at *
  by_cases h1 : xd = 0
  · subst h1
    rw [if_pos (.inl rfl)]
    clear hw K1 K2
    go_enter Try.func14, Try.ntmps14
    go_wp2
    go_ret
    exact ⟨rfl, by go_grown⟩
  · have t1 : (xd == 0) = false := by simpa using h1
    by_cases h2 : yd = 0
    · subst h2
      rw [if_pos (.inr rfl)]
      clear hw K1 K2
      go_enter Try.func14, Try.ntmps14
      go_wp2
      go_ret
      exact ⟨rfl, by go_grown⟩
    · have t2 : (yd == 0) = false := by simpa using h2
      rw [if_neg (by omega)]
      generalize xn * yd = p at *
      generalize yn * xd = q at *
      generalize p / 18446744073709551616 = ph at *
      generalize p % 18446744073709551616 = pl at *
      generalize q / 18446744073709551616 = qh at *
      generalize q % 18446744073709551616 = ql at *
      have C1 := Lib.hid (fun W => cmpU_any ph qh W)
      have C2 := Lib.hid (fun W => cmpU_any pl ql W)
      generalize cmpI ph qh = r1 at *
      generalize cmpI pl ql = r2 at *
      have HR := Lib.hid hw
      clear hw h1 h2 hx hy
      have KO : Hid (∀ (W : World) (o1 o2 : Obj), Calls Try.prog 27 #[.slice (some ⟨W.heap.size + 1 + 1, 0, none⟩) 2 2] (((W.alloc o1).alloc o2).alloc (.cells #[.int .i64 r1, .int .i64 r2] 3)) fun e w' => e = .returned (.int .i64 r) ∧ w' = (((W.alloc o1).alloc o2).alloc (.cells #[.int .i64 r1, .int .i64 r2] 3))) :=
        Lib.hid fun W o1 o2 => by
          have h := or_new r1 r2 ((W.alloc o1).alloc o2)
          simp only [World.size_alloc] at h
          exact h.mono fun e w' h => ⟨by rw [h.1, HR.out], h.2⟩
      go_enter Try.func14, Try.ntmps14
      go_wp2_with (first
        | (go_at_call 26; (with_reducible refine (K1.out _).mono ?_); rintro e w1 ⟨rfl, rfl⟩)
        | (go_at_call 26; (with_reducible refine (K2.out _).mono ?_); rintro e w1 ⟨rfl, rfl⟩)
        | (go_at_call 28; (with_reducible refine (C1.out _).mono ?_); rintro e w1 ⟨rfl, rfl⟩)
        | (go_at_call 28; (with_reducible refine (C2.out _).mono ?_); rintro e w1 ⟨rfl, rfl⟩)
        | (go_at_call 27; (with_reducible refine (KO.out _ _ _).mono ?_); rintro e w1 ⟨rfl, rfl⟩))
      go_ret
      exact ⟨rfl, by go_grown⟩
end Go.Proofs.Ytghijgpelkjohaa
