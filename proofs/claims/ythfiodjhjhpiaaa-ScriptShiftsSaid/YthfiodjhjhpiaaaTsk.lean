/- Tasks as values, and whether one may be: plain words; the contracts of Check and of the document's own. -/
import Derived.Test.YthfiodjhjhpiaaaRWord
import Derived.Deep.CutBlock
namespace Go.Proofs.Ythfiodjhjhpiaaa
open Go.RowKit
set_option linter.unusedVariables false
set_option linter.unusedSimpArgs false

/-- A task. -/
structure Ts where
  n : ByteArray
  c : Int
  t : Int
  d : Int
  j : Int
  q : Int
  p : Int
deriving DecidableEq
abbrev tsV (x : Ts) : Value := .agg #[.string x.n, .int .i64 x.c, .int .i64 x.t, .int .i64 x.d, .int .i64 x.j, .int .i64 x.q, .int .i64 x.p]
def in64 (n : Int) : Prop := -9223372036854775808 ≤ n ∧ n ≤ 9223372036854775807
/-- Its fields are such as a task may hold. -/
structure TsW (x : Ts) : Prop where
  n : x.n.size ≤ 9223372036854775807
  c : in64 x.c
  t : in64 x.t
  d : in64 x.d
  j : in64 x.j
  q : in64 x.q
  p : in64 x.p
def inB (n lo hi : Int) : Bool := decide (lo ≤ n ∧ n ≤ hi)
def namedB (x : Ts) : Bool := decide (x.n.size ≤ 32) && wordB x.n
def rangedB (x : Ts) : Bool := inB x.c 1 2147483647 && (inB x.t 1 2147483647 && (inB x.d 1 2147483647 && (inB x.q 1 2147483647 && (inB x.j 0 2147483647 && inB x.p 1 1048576))))
def overB (x : Ts) : Bool := decide (x.q > x.c ∨ x.c + x.j > x.d ∨ x.d > x.t)
/-- What is wrong with a task by itself. -/
def checkE (x : Ts) : Int := if namedB x && rangedB x then (if overB x then 12 else 0) else 11
theorem bcell {W w1 : World} (hb : Below W.heap.size W w1) : (∀ b o, b < W.heap.size → w1.cell? ⟨b, o, none⟩ = W.cell? ⟨b, o, none⟩) ∧ (∀ b o, b < W.heap.size → w1.frozen? ⟨b, o, none⟩ = W.frozen? ⟨b, o, none⟩) :=
  ⟨fun b o h => hb.cell (p := ⟨b, o, none⟩) h, fun b o h => hb.frozen (p := ⟨b, o, none⟩) h⟩
theorem inB_no {n lo hi : Int} (h : ¬ (lo ≤ n ∧ n ≤ hi)) : inB n lo hi = false := by simp [inB]; omega
theorem inB_yes {n lo hi : Int} (h : lo ≤ n ∧ n ≤ hi) : inB n lo hi = true := by simp [inB]; omega
theorem inB_iff {n lo hi : Int} : inB n lo hi = true ↔ lo ≤ n ∧ n ≤ hi := by simp [inB]

set_option maxRecDepth 100000 in
set_option maxHeartbeats 1000000 in
theorem named_any (x : Ts) (w : World) : Calls Try.prog 53 #[tsV x] w fun e w' => e = .returned (.bool (namedB x)) ∧ Below w.heap.size w w' := by
  have b0 : Below w.heap.size w (w.alloc (.cells #[.string x.n, .int .i64 x.c, .int .i64 x.t, .int .i64 x.d, .int .i64 x.j, .int .i64 x.q, .int .i64 x.p] 44)) := (Below.refl _ _).alloc (Nat.le_refl _) _
  by_cases h : x.n.size ≤ 32
  · have e : namedB x = wordB x.n := by simp [namedB, h]
    rw [e]
    have W := Lib.hid (fun w => word_any x.n w (by omega))
    have h' : (x.n.size : Int) ≤ 32 := by omega
    generalize wordB x.n = b at *
    clear e
    go_enter Try.func53, Try.ntmps53
    go_wp2_with (go_at_call 56; (with_reducible refine (W.out _).mono ?_); rintro e w2 ⟨rfl, h2⟩)
    go_ret
    exact ⟨rfl, b0.trans (h2.mono b0.size)⟩
  · have e : namedB x = false := by simp [namedB, h]
    rw [e]
    have h' : ¬ (x.n.size : Int) ≤ 32 := by omega
    have h'' : decide ((x.n.size : Int) ≤ 32) = false := decide_eq_false (by omega)
    clear e
    go_enter Try.func53, Try.ntmps53
    go_wp2
    go_ret
    exact ⟨rfl, b0⟩

set_option maxRecDepth 100000 in
theorem four_idx (a b c d : Int) (w : World) :
    (Instr.index 93 (.agg #[.int .i64 a, .int .i64 b, .int .i64 c, .int .i64 d]) (.int .i64 0)).run Try.prog w = .ok (.int .i64 a) w ∧
    (Instr.index 93 (.agg #[.int .i64 a, .int .i64 b, .int .i64 c, .int .i64 d]) (.int .i64 1)).run Try.prog w = .ok (.int .i64 b) w ∧
    (Instr.index 93 (.agg #[.int .i64 a, .int .i64 b, .int .i64 c, .int .i64 d]) (.int .i64 2)).run Try.prog w = .ok (.int .i64 c) w ∧
    (Instr.index 93 (.agg #[.int .i64 a, .int .i64 b, .int .i64 c, .int .i64 d]) (.int .i64 3)).run Try.prog w = .ok (.int .i64 d) w := by
  refine ⟨?_, ?_, ?_, ?_⟩ <;> rfl

set_option maxRecDepth 100000 in
set_option maxHeartbeats 1000000 in
theorem ranged_any (x : Ts) (w : World) : Calls Try.prog 54 #[tsV x] w fun e w' => e = .returned (.bool (rangedB x)) ∧ Below w.heap.size w w' := by
  have b0 : Below w.heap.size w (w.alloc (.cells #[.string x.n, .int .i64 x.c, .int .i64 x.t, .int .i64 x.d, .int .i64 x.j, .int .i64 x.q, .int .i64 x.p] 44)) := (Below.refl _ _).alloc (Nat.le_refl _) _
  generalize hr : rangedB x = r
  have HR := Lib.hid hr
  clear hr
  go_enter Try.func54, Try.ntmps54
  go_wp2
  go_loop [14] (fun i => i = .int .i64 0 ∨ (i = .int .i64 1 ∧ inB x.c 1 2147483647 = true) ∨ (i = .int .i64 2 ∧ inB x.c 1 2147483647 = true ∧ inB x.t 1 2147483647 = true) ∨ (i = .int .i64 3 ∧ inB x.c 1 2147483647 = true ∧ inB x.t 1 2147483647 = true ∧ inB x.d 1 2147483647 = true) ∨ (i = .int .i64 4 ∧ inB x.c 1 2147483647 = true ∧ inB x.t 1 2147483647 = true ∧ inB x.d 1 2147483647 = true ∧ inB x.q 1 2147483647 = true)) (fun i => 4 - (intOf i).toNat)
  case atStart => exact .inl rfl
  case round =>
    obtain ⟨i0, i1, i2, i3⟩ := four_idx x.c x.t x.d x.q (w.alloc (.cells #[.string x.n, .int .i64 x.c, .int .i64 x.t, .int .i64 x.d, .int .i64 x.j, .int .i64 x.q, .int .i64 x.p] 44))
    rcases hrel with rfl | ⟨rfl, hc⟩ | ⟨rfl, hc, ht⟩ | ⟨rfl, hc, ht, hd⟩ | ⟨rfl, hc, ht, hd, hq⟩
    · by_cases h1 : 1 ≤ x.c
      · by_cases h2 : x.c ≤ 2147483647
        · have HF := Lib.hid (inB_yes ⟨h1, h2⟩)
          go_wp2
          go_round
          case rel => exact .inr (.inl ⟨rfl, HF.out⟩)
          case measure => simp [intOf]
        · have HF := Lib.hid (inB_no (n := x.c) (lo := 1) (hi := 2147483647) (by omega))
          go_wp2
          go_ret
          exact ⟨by rw [← HR.out, rangedB, HF.out]; rfl, b0⟩
      · have HF := Lib.hid (inB_no (n := x.c) (lo := 1) (hi := 2147483647) (by omega))
        go_wp2
        go_ret
        exact ⟨by rw [← HR.out, rangedB, HF.out]; rfl, b0⟩
    · have HC := Lib.hid hc
      clear hc
      by_cases h1 : 1 ≤ x.t
      · by_cases h2 : x.t ≤ 2147483647
        · have HF := Lib.hid (inB_yes ⟨h1, h2⟩)
          go_wp2
          go_round
          case rel => exact .inr (.inr (.inl ⟨rfl, HC.out, HF.out⟩))
          case measure => simp [intOf]
        · have HF := Lib.hid (inB_no (n := x.t) (lo := 1) (hi := 2147483647) (by omega))
          go_wp2
          go_ret
          exact ⟨by rw [← HR.out, rangedB, HC.out, HF.out]; rfl, b0⟩
      · have HF := Lib.hid (inB_no (n := x.t) (lo := 1) (hi := 2147483647) (by omega))
        go_wp2
        go_ret
        exact ⟨by rw [← HR.out, rangedB, HC.out, HF.out]; rfl, b0⟩
    · have HC := Lib.hid hc
      have HT := Lib.hid ht
      clear hc ht
      by_cases h1 : 1 ≤ x.d
      · by_cases h2 : x.d ≤ 2147483647
        · have HF := Lib.hid (inB_yes ⟨h1, h2⟩)
          go_wp2
          go_round
          case rel => exact .inr (.inr (.inr (.inl ⟨rfl, HC.out, HT.out, HF.out⟩)))
          case measure => simp [intOf]
        · have HF := Lib.hid (inB_no (n := x.d) (lo := 1) (hi := 2147483647) (by omega))
          go_wp2
          go_ret
          exact ⟨by rw [← HR.out, rangedB, HC.out, HT.out, HF.out]; rfl, b0⟩
      · have HF := Lib.hid (inB_no (n := x.d) (lo := 1) (hi := 2147483647) (by omega))
        go_wp2
        go_ret
        exact ⟨by rw [← HR.out, rangedB, HC.out, HT.out, HF.out]; rfl, b0⟩
    · have HC := Lib.hid hc
      have HT := Lib.hid ht
      have HD := Lib.hid hd
      clear hc ht hd
      by_cases h1 : 1 ≤ x.q
      · by_cases h2 : x.q ≤ 2147483647
        · have HF := Lib.hid (inB_yes ⟨h1, h2⟩)
          go_wp2
          go_round
          case rel => exact .inr (.inr (.inr (.inr ⟨rfl, HC.out, HT.out, HD.out, HF.out⟩)))
          case measure => simp [intOf]
        · have HF := Lib.hid (inB_no (n := x.q) (lo := 1) (hi := 2147483647) (by omega))
          go_wp2
          go_ret
          exact ⟨by rw [← HR.out, rangedB, HC.out, HT.out, HD.out, HF.out]; rfl, b0⟩
      · have HF := Lib.hid (inB_no (n := x.q) (lo := 1) (hi := 2147483647) (by omega))
        go_wp2
        go_ret
        exact ⟨by rw [← HR.out, rangedB, HC.out, HT.out, HD.out, HF.out]; rfl, b0⟩
    · have hr2 : r = (inB x.j 0 2147483647 && inB x.p 1 1048576) := by rw [← HR.out, rangedB, hc, ht, hd, hq]; rfl
      have H2 := Lib.hid hr2
      clear hc ht hd hq HR hr2
      by_cases h1 : 0 ≤ x.j
      · by_cases h2 : x.j ≤ 2147483647
        · by_cases h3 : 1 ≤ x.p
          · by_cases h4 : x.p ≤ 1048576
            · have HF := Lib.hid (show r = true by rw [H2.out, inB_yes ⟨h1, h2⟩, inB_yes ⟨h3, h4⟩]; rfl)
              go_wp2
              go_ret
              exact ⟨by rw [HF.out]; rfl, b0⟩
            · have HF := Lib.hid (show r = false by rw [H2.out, inB_yes ⟨h1, h2⟩, inB_no (n := x.p) (by omega)]; rfl)
              have h4' : decide (x.p ≤ 1048576) = false := decide_eq_false h4
              go_wp2
              go_ret
              exact ⟨by rw [HF.out]; rfl, b0⟩
          · have HF := Lib.hid (show r = false by rw [H2.out, inB_yes ⟨h1, h2⟩, inB_no (n := x.p) (by omega)]; rfl)
            have h3' : decide (x.p ≥ 1) = false := decide_eq_false h3
            have h3'' : decide (1 ≤ x.p) = false := decide_eq_false h3
            go_wp2
            go_ret
            exact ⟨by rw [HF.out]; rfl, b0⟩
        · have HF := Lib.hid (show r = false by rw [H2.out, inB_no (n := x.j) (by omega)]; rfl)
          have h2' : decide (x.j ≤ 2147483647) = false := decide_eq_false h2
          go_wp2
          go_ret
          exact ⟨by rw [HF.out]; rfl, b0⟩
      · have HF := Lib.hid (show r = false by rw [H2.out, inB_no (n := x.j) (by omega)]; rfl)
        have h2' : decide (0 ≤ x.j) = false := decide_eq_false h1
        go_wp2
        go_ret
        exact ⟨by rw [HF.out]; rfl, b0⟩

theorem rangedB_parts {x : Ts} (h : rangedB x = true) : (1 ≤ x.c ∧ x.c ≤ 2147483647) ∧ (1 ≤ x.t ∧ x.t ≤ 2147483647) ∧ (1 ≤ x.d ∧ x.d ≤ 2147483647) ∧ (1 ≤ x.q ∧ x.q ≤ 2147483647) ∧ (0 ≤ x.j ∧ x.j ≤ 2147483647) ∧ 1 ≤ x.p ∧ x.p ≤ 1048576 := by
  simp only [rangedB, Bool.and_eq_true, inB_iff] at h
  exact h

set_option maxRecDepth 100000 in
set_option maxHeartbeats 2000000 in
theorem check_any (x : Ts) (w : World) : Calls Try.prog 47 #[tsV x] w fun e w' => e = .returned (.int .i64 (checkE x)) ∧ Below w.heap.size w w' := by
  have b0 : Below w.heap.size w (w.alloc (.cells #[.string x.n, .int .i64 x.c, .int .i64 x.t, .int .i64 x.d, .int .i64 x.j, .int .i64 x.q, .int .i64 x.p] 44)) := (Below.refl _ _).alloc (Nat.le_refl _) _
  have N := Lib.hid (fun w => named_any x w)
  have R := Lib.hid (fun w => ranged_any x w)
  have hp := @rangedB_parts x
  have hq : checkE x = if namedB x && rangedB x then (if overB x then 12 else 0) else 11 := rfl
  rw [hq]
  clear hq
  generalize namedB x = a at *
  generalize rangedB x = b at *
  cases a
  · clear hp
    go_enter Try.func47, Try.ntmps47
    go_wp2_with (go_at_call 53; (with_reducible refine (N.out _).mono ?_); rintro e w2 ⟨rfl, h2⟩)
    go_ret
    exact ⟨rfl, b0.trans (h2.mono b0.size)⟩
  · cases b
    · clear hp
      go_enter Try.func47, Try.ntmps47
      go_wp2_with (first
        | (go_at_call 53; (with_reducible refine (N.out _).mono ?_); rintro e w2 ⟨rfl, h2⟩; obtain ⟨hc2, hf2⟩ := bcell h2; have hz2 : w.heap.size < w2.heap.size := by have := h2.size; simp at this; omega)
        | (go_at_call 54; (with_reducible refine (R.out _).mono ?_); rintro e w3 ⟨rfl, h3⟩))
      go_ret
      exact ⟨rfl, b0.trans ((h2.mono b0.size).trans (h3.mono (Nat.le_trans b0.size h2.size)))⟩
    · obtain ⟨⟨c1, c2⟩, ⟨t1, t2⟩, ⟨d1, d2⟩, ⟨q1, q2⟩, ⟨j1, j2⟩, -⟩ := hp rfl
      clear hp
      rw [if_pos (by rfl)]
      by_cases g1 : x.q > x.c
      · rw [if_pos (by simp [overB, g1])]
        go_enter Try.func47, Try.ntmps47
        go_wp2_with (first
          | (go_at_call 53; (with_reducible refine (N.out _).mono ?_); rintro e w2 ⟨rfl, h2⟩; obtain ⟨hc2, hf2⟩ := bcell h2; have hz2 : w.heap.size < w2.heap.size := by have := h2.size; simp at this; omega)
          | (go_at_call 54; (with_reducible refine (R.out _).mono ?_); rintro e w3 ⟨rfl, h3⟩; obtain ⟨hc3, hf3⟩ := bcell h3))
        go_ret
        exact ⟨rfl, b0.trans ((h2.mono b0.size).trans (h3.mono (Nat.le_trans b0.size h2.size)))⟩
      · have h1' : decide (x.q > x.c) = false := decide_eq_false g1
        have h1'' : decide (x.c < x.q) = false := decide_eq_false g1
        by_cases g2 : x.c + x.j > x.d
        · rw [if_pos (by simp [overB, g2])]
          go_enter Try.func47, Try.ntmps47
          go_wp2_with (first
            | (go_at_call 53; (with_reducible refine (N.out _).mono ?_); rintro e w2 ⟨rfl, h2⟩; obtain ⟨hc2, hf2⟩ := bcell h2; have hz2 : w.heap.size < w2.heap.size := by have := h2.size; simp at this; omega)
            | (go_at_call 54; (with_reducible refine (R.out _).mono ?_); rintro e w3 ⟨rfl, h3⟩; obtain ⟨hc3, hf3⟩ := bcell h3))
          go_ret
          exact ⟨rfl, b0.trans ((h2.mono b0.size).trans (h3.mono (Nat.le_trans b0.size h2.size)))⟩
        · have h2' : decide (x.c + x.j > x.d) = false := decide_eq_false g2
          have h2'' : decide (x.d < x.c + x.j) = false := decide_eq_false g2
          by_cases g3 : x.d > x.t
          · rw [if_pos (by simp [overB, g3])]
            go_enter Try.func47, Try.ntmps47
            go_wp2_with (first
              | (go_at_call 53; (with_reducible refine (N.out _).mono ?_); rintro e w2 ⟨rfl, h2⟩; obtain ⟨hc2, hf2⟩ := bcell h2; have hz2 : w.heap.size < w2.heap.size := by have := h2.size; simp at this; omega)
              | (go_at_call 54; (with_reducible refine (R.out _).mono ?_); rintro e w3 ⟨rfl, h3⟩; obtain ⟨hc3, hf3⟩ := bcell h3))
            go_ret
            exact ⟨rfl, b0.trans ((h2.mono b0.size).trans (h3.mono (Nat.le_trans b0.size h2.size)))⟩
          · have h3' : decide (x.d > x.t) = false := decide_eq_false g3
            have h3'' : decide (x.t < x.d) = false := decide_eq_false g3
            rw [if_neg (by simp [overB]; omega)]
            go_enter Try.func47, Try.ntmps47
            go_wp2_with (first
              | (go_at_call 53; (with_reducible refine (N.out _).mono ?_); rintro e w2 ⟨rfl, h2⟩; obtain ⟨hc2, hf2⟩ := bcell h2; have hz2 : w.heap.size < w2.heap.size := by have := h2.size; simp at this; omega)
              | (go_at_call 54; (with_reducible refine (R.out _).mono ?_); rintro e w3 ⟨rfl, h3⟩; obtain ⟨hc3, hf3⟩ := bcell h3))
            go_ret
            exact ⟨rfl, b0.trans ((h2.mono b0.size).trans (h3.mono (Nat.le_trans b0.size h2.size)))⟩
end Go.Proofs.Ythfiodjhjhpiaaa
