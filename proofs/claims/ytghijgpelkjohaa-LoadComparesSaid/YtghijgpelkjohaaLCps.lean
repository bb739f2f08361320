/- compares: the program's answer is the document's, and the other way round. -/
import Derived.Test.YtghijgpelkjohaaLRcm
namespace Go.Proofs.Ytghijgpelkjohaa
open Go.RowKit
set_option linter.unusedVariables false
set_option linter.unusedSimpArgs false
theorem cmpI_neg (a b : Int) : cmpI b a = - cmpI a b := by unfold cmpI; repeat (first | omega | split)
theorem cmpF_neg (x y : Fr) : cmpF y x = - cmpF x y := by
  unfold cmpF
  by_cases h : x.d = 0 ∨ y.d = 0
  · rw [if_pos h, if_pos (Or.symm h)]; rfl
  · rw [if_neg h, if_neg (fun e => h (Or.symm e)), cmpI_neg]
theorem cmpF_three (x y : Fr) : cmpF x y = -1 ∨ cmpF x y = 0 ∨ cmpF x y = 1 := by
  unfold cmpF
  split
  · exact .inr (.inl rfl)
  · unfold cmpI; split
    · exact .inl rfl
    · split
      · exact .inr (.inr rfl)
      · exact .inr (.inl rfl)
set_option maxRecDepth 100000 in
set_option maxHeartbeats 4000000 in
theorem compares_any (x y : Fr) (hx : FrW x) (hy : FrW y) (w : World) :
    Calls Try.prog 15 #[frV x, frV y] w fun e w' => e = .returned (.bool true) ∧ Below w.heap.size w w' := by
  have K1 := fun W => compare_any x y hx hy W
  have K2 := fun W => rcompare_any x y hx hy W
  have K3 := fun W => compare_any y x hy hx W
  rw [cmpF_neg x y] at K3
  have h3 := cmpF_three x y
  generalize cmpF x y = c at *
  obtain ⟨xn, xd⟩ := x
  obtain ⟨yn, yd⟩ := y
  have F0 := FB.new w ⟨xn, xd⟩
  have F1 := FB.new2 w (.cells #[.int .u64 xn, .int .u64 xd] 32) ⟨yn, yd⟩
  have B1 : Below w.heap.size w ((w.alloc (.cells #[.int .u64 xn, .int .u64 xd] 32)).alloc (.cells #[.int .u64 yn, .int .u64 yd] 32)) := ((Below.refl _ _).alloc (Nat.le_refl _) _).alloc (by simp) _
  have F0 := Lib.hid (F0.later ((Below.refl _ _).alloc (Nat.le_refl _) (.cells #[.int .u64 yn, .int .u64 yd] 32)))
  have F1 := Lib.hid F1
  have B1 := Lib.hid B1
  clear hx hy
  rcases h3 with rfl | rfl | rfl
  all_goals
    have K1 := Lib.hid K1
    have K2 := Lib.hid K2
    have K3 := Lib.hid K3
    go_enter Try.func15, Try.ntmps15
    go_upto_region 2 with (go_at_call 14; (with_reducible refine (K1.out _).mono ?_); rintro e w1 ⟨rfl, h1⟩; have G0 := Lib.hid (F0.out.later h1); have G1 := Lib.hid (F1.out.later h1); have HB := Lib.hid (B1.out.trans (h1.mono (by simp; omega))); have a0 := G0.out.c0; have a1 := G0.out.c1; have b0 := G1.out.c0; have b1 := G1.out.c1; clear h1)
    go_wp2_with (first
      | (go_at_call 29; (with_reducible refine (K2.out _).mono ?_); rintro e w2 ⟨rfl, h2⟩; have a0 := (G0.out.later h2).c0; have a1 := (G0.out.later h2).c1; have b0 := (G1.out.later h2).c0; have b1 := (G1.out.later h2).c1; have HB := Lib.hid (HB.out.trans (h2.mono (HB.out.size))); clear h2)
      | (go_at_call 14; (with_reducible refine (K3.out _).mono ?_); rintro e w3 ⟨rfl, h3⟩; have HB := Lib.hid (HB.out.trans (h3.mono (HB.out.size))); clear h3)
      | fail)
    go_ret
    exact ⟨rfl, HB.out⟩
theorem cmpF_times (n d m : Int) (hm : 0 < m) (hd : 0 ≤ d) : cmpF ⟨n, d⟩ ⟨n * m, d * m⟩ = 0 := by
  unfold cmpF
  simp only
  by_cases h : d = 0
  · rw [if_pos (.inl h)]
  · have : 0 < d * m := Int.mul_pos (by omega) hm
    rw [if_neg (by omega), show n * (d * m) = n * m * d by rw [Int.mul_comm d m, Int.mul_assoc], cmpI_eq]
end Go.Proofs.Ytghijgpelkjohaa
