/- What is asked of a set, at a number. -/
import Derived.Test.YthmngibmpkgjkaaDoorRef2
import Derived.Test.YthmngibmpkgjkaaDoorStops
namespace Go.Proofs.YthmngibmpkgjkaaDoor
open Go.RowKit
set_option linter.unusedVariables false
set_option linter.unusedSimpArgs false

/-- A first number as the code tells it, and as the document does. -/
def Agree (x0 y0 : Int) (b0 : Bool) : Prop := (b0 = false ∧ x0 = 0 ∧ y0 = -1) ∨ (∃ a : Nat, b0 = true ∧ x0 = (a : Int) ∧ y0 = (a : Int))
theorem agree (l : List Nat) : Agree (hdN l) (nx l) (hdB l) := by
  cases l with
  | nil => exact .inl ⟨rfl, rfl, rfl⟩
  | cons a l => exact .inr ⟨a, rfl, rfl, rfl⟩
theorem filter_all (l : List Nat) : l.filter (fun x : Nat => decide ((-1 : Int) < (x : Int))) = l := by
  rw [List.filter_eq_self]
  intro a _
  simp; omega

set_option maxRecDepth 100000 in
set_option maxHeartbeats 4000000 in
theorem asked_walk (f : Nat → Bool) (r : Nat) (n x0 y0 x1 y1 : Int) (b0 b1 hb : Bool) (w : World) (hT : Tab w) (hr : RBox w r f) (h0 : Agree x0 y0 b0) (h1 : Agree x1 y1 b1)
    (F : ∀ w, Tab w → Calls Tryd.prog 24 #[setV f] w fun e w' => e = .returned (.tuple #[.int .i64 x0, .bool b0]) ∧ Below w.heap.size w w')
    (N : ∀ w, Tab w → Calls Tryd.prog 25 #[setV f, .int .i64 n] w fun e w' => e = .returned (.tuple #[.int .i64 x1, .bool b1]) ∧ Below w.heap.size w w')
    (F' : ∀ w, RBox w r f → Calls Tryd.prog 28 #[.pointer (some ⟨r, 0, none⟩), .int .i64 (-1)] w fun e w' => e = .returned (.int .i64 y0) ∧ Below w.heap.size w w')
    (N' : ∀ w, RBox w r f → Calls Tryd.prog 28 #[.pointer (some ⟨r, 0, none⟩), .int .i64 n] w fun e w' => e = .returned (.int .i64 y1) ∧ Below w.heap.size w w')
    (H : ∀ w, Calls Tryd.prog 29 #[setV f, .int .i64 n] w fun e w' => e = .returned (.bool hb) ∧ Below w.heap.size w w')
    (H' : ∀ w, RBox w r f → Calls Tryd.prog 30 #[.pointer (some ⟨r, 0, none⟩), .int .i64 n] w fun e w' => e = .returned (.bool hb) ∧ w' = w) :
    Calls Tryd.prog 14 #[setV f, .pointer (some ⟨r, 0, none⟩), .int .i64 n] w fun e w' => e = .returned (.bool true) ∧ Below w.heap.size w w' := by
  have FH := Lib.hid F
  have NH := Lib.hid N
  have FH' := Lib.hid F'
  have NH' := Lib.hid N'
  have HH := Lib.hid H
  have HH' := Lib.hid H'
  clear F N F' N' H H'
  have B0 := Box.new w f
  have K0 : KeptT w (w.alloc (.cells (cellsL f).toArray 26)) := (KeptT.refl hT).step ((Below.refl _ _).alloc (Nat.le_refl _) _)
  have R0 := hr.alloc (.cells (cellsL f).toArray 26)
  clear hr
  go_enter Tryd.func14, Tryd.ntmps14
  go_upto_region 1 with fail
  generalize w.alloc (.cells (cellsL f).toArray 26) = W0 at *
  go_upto_region 5 with (first
    | ((with_reducible show wpList _ _ _ (⟨some 14, _, _, _, _, _⟩ :: _) _ _); refine wpList_load_mid rfl 26 _ rfl _ _ rfl _ _ B0.range Tryd.underlying26 rfl (info26 _) ?_)
    | (go_at_call 24; refine (FH.out _ K0.2).mono ?_; rintro e w1 ⟨rfl, g1⟩; have B1 := B0.later g1; have K1 := K0.step g1; have R1 := R0.later g1; clear g1)
    | ((with_reducible show wpList _ _ _ (⟨some 19, _, _, _, _, _⟩ :: _) _ _); refine wpList_load_mid rfl 26 _ rfl _ _ rfl _ _ B1.range Tryd.underlying26 rfl (info26 _) ?_)
    | (go_at_call 25; refine (NH.out _ K1.2).mono ?_; rintro e w2 ⟨rfl, g2⟩; have B2 := B1.later g2; have K2 := K1.step g2; have R2 := R1.later g2; clear g2)
    | (go_at_call 28; (with_reducible refine (FH'.out _ R2).mono ?_); rintro e w3 ⟨rfl, g3⟩; have B3 := B2.later g3; have K3 := K2.step g3; have R3 := R2.later g3; clear g3)
    | (go_at_call 28; (with_reducible refine (NH'.out _ R3).mono ?_); rintro e w4 ⟨rfl, g4⟩; have B4 := B3.later g4; have K4 := K3.step g4; have R4 := R3.later g4; clear g4))
  (try simp only [Act.put, List.setIfInBounds_toArray, List.set_cons_zero, List.set_cons_succ])
  clear K0 B0 R0 K1 B1 R1 K2 B2 R2 K3 B3 R3 FH NH FH' NH'
  go_upto_region 5 with fail
  rcases h0 with ⟨rfl, rfl, rfl⟩ | ⟨a, rfl, rfl, rfl⟩ <;> rcases h1 with ⟨rfl, rfl, rfl⟩ | ⟨a', rfl, rfl, rfl⟩
  all_goals
    go_wp2_with (first
      | ((with_reducible show wpList _ _ _ (⟨some 29, _, _, _, _, _⟩ :: _) _ _); refine wpList_load_mid rfl 26 _ rfl _ _ rfl _ _ B4.range Tryd.underlying26 rfl (info26 _) ?_)
      | (go_at_call 29; refine (HH.out _).mono ?_; rintro e w5 ⟨rfl, g5⟩; have K5 := K4.step g5; have R5 := R4.later g5; clear g5)
      | (go_at_call 30; refine (HH'.out _ R5).mono ?_; rintro e w6 ⟨rfl, rfl⟩))
  all_goals (go_ret; exact ⟨rfl, K5.1⟩)
theorem asked_any (f : Nat → Bool) (r : Nat) (n : Int) (w : World) (hT : Tab w) (hr : RBox w r f) (h0 : -9223372036854775808 ≤ n) (h1 : n ≤ 9223372036854775807) :
    Calls Tryd.prog 14 #[setV f, .pointer (some ⟨r, 0, none⟩), .int .i64 n] w fun e w' => e = .returned (.bool true) ∧ Below w.heap.size w w' := by
  refine asked_walk f r n _ _ _ _ _ _ (hasB f n) w hT hr (agree (nums f)) (agree (nums (aboveF f n))) (fun w hT => first_any f w hT) (fun w hT => next_any f n w hT h0 h1) (fun w hr => ?_) (fun w hr => ?_) (fun w => has_any f n w h0 h1) (fun w hr => rHas_any r n f w hr)
  · have := rNext_any r (-1) f w hr
    rwa [filter_all] at this
  · have := rNext_any r n f w hr
    rwa [← nums_aboveF] at this
end Go.Proofs.YthmngibmpkgjkaaDoor
