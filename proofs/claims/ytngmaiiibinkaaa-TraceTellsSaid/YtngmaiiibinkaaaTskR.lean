/- The document's own Check; the laws' small functions. -/
import Derived.Test.YtngmaiiibinkaaaTsk
namespace Go.Proofs.Ytngmaiiibinkaaa
open Go.RowKit
set_option linter.unusedVariables false
set_option linter.unusedSimpArgs false

theorem in_any (n lo hi : Int) (w : World) : Calls Try.prog 40 #[.int .i64 n, .int .i64 lo, .int .i64 hi] w fun e w' => e = .returned (.bool (inB n lo hi)) ∧ w = w' := by
  unfold inB
  go_enter Try.func40, Try.ntmps40
  by_cases h1 : lo ≤ n <;> by_cases h2 : n ≤ hi <;> (go_wp2; go_ret; simp [*])

theorem ret_i {a b : Int} (h : a = b) : Ending.returned (.int .i64 a) = .returned (.int .i64 b) := by rw [h]
theorem checkE_no {x : Ts} (h : (namedB x && rangedB x) = false) : checkE x = 11 := by rw [checkE, h]; rfl
theorem checkE_yes {x : Ts} (h : (namedB x && rangedB x) = true) : checkE x = if overB x then 12 else 0 := by rw [checkE, h]; rfl

set_option maxRecDepth 100000 in
set_option maxHeartbeats 4000000 in
theorem rcheck_any (x : Ts) (w : World) (hx : TsW x) : Calls Try.prog 34 #[tsV x] w fun e w' => e = .returned (.int .i64 (checkE x)) ∧ Below w.heap.size w w' := by
  have b0 : Below w.heap.size w (w.alloc (.cells #[.string x.n, .int .i64 x.c, .int .i64 x.t, .int .i64 x.d, .int .i64 x.j, .int .i64 x.q, .int .i64 x.p] 50)) := (Below.refl _ _).alloc (Nat.le_refl _) _
  have W := Lib.hid (fun w => rword_any x.n w hx.n)
  have I := Lib.hid in_any
  have hn : namedB x = (decide (x.n.size ≤ 32) && wordB x.n) := rfl
  have hr : rangedB x = (inB x.c 1 2147483647 && (inB x.t 1 2147483647 && (inB x.d 1 2147483647 && (inB x.q 1 2147483647 && (inB x.j 0 2147483647 && inB x.p 1 1048576))))) := rfl
  have hno := @checkE_no x
  have hyes := @checkE_yes x
  have hpa := @rangedB_parts x
  rw [hn, hr] at hno hyes
  rw [hr] at hpa
  clear hn hr
  generalize checkE x = r at *
  cases hw : wordB x.n
  · have HE : Hid (Ending.returned (.int .i64 11) = .returned (.int .i64 r)) := Lib.hid (ret_i (hno (by rw [hw]; simp)).symm)
    rw [hw] at W
    clear hw hno hyes hpa
    go_enter Try.func34, Try.ntmps34
    go_wp2_with (first
      | (go_at_call 39; (with_reducible refine (W.out _).mono ?_); rintro e w2 ⟨rfl, h2⟩; obtain ⟨hc2, hf2⟩ := bcell h2)
      | (go_at_call 40; (with_reducible refine (I.out _ _ _ _).mono ?_); rintro e w3 ⟨rfl, rfl⟩))
    go_ret
    exact ⟨HE.out, b0.trans (h2.mono b0.size)⟩
  · rw [hw] at W hno hyes
    clear hw
    by_cases hl : x.n.size ≤ 32
    · have hl' : decide ((x.n.size : Int) > 32) = false := decide_eq_false (by omega)
      have hl'' : decide (32 < x.n.size) = false := decide_eq_false (by omega)
      rw [decide_eq_true hl] at hno hyes
      cases ec : inB x.c 1 2147483647
      · have HE : Hid (Ending.returned (.int .i64 11) = .returned (.int .i64 r)) := Lib.hid (ret_i (hno (by rw [ec]; simp)).symm)
        clear hno hyes hpa
        go_enter Try.func34, Try.ntmps34
        go_wp2_with (first
          | (go_at_call 39; (with_reducible refine (W.out _).mono ?_); rintro e w2 ⟨rfl, h2⟩; obtain ⟨hc2, hf2⟩ := bcell h2)
          | (go_at_call 40; (with_reducible refine (I.out _ _ _ _).mono ?_); rintro e w3 ⟨rfl, rfl⟩))
        go_ret
        exact ⟨HE.out, b0.trans (h2.mono b0.size)⟩
      · rw [ec] at hno hyes hpa
        cases et : inB x.t 1 2147483647
        · have HE : Hid (Ending.returned (.int .i64 11) = .returned (.int .i64 r)) := Lib.hid (ret_i (hno (by rw [et]; simp)).symm)
          clear hno hyes hpa
          go_enter Try.func34, Try.ntmps34
          go_wp2_with (first
            | (go_at_call 39; (with_reducible refine (W.out _).mono ?_); rintro e w2 ⟨rfl, h2⟩; obtain ⟨hc2, hf2⟩ := bcell h2)
            | (go_at_call 40; (with_reducible refine (I.out _ _ _ _).mono ?_); rintro e w3 ⟨rfl, rfl⟩))
          go_ret
          exact ⟨HE.out, b0.trans (h2.mono b0.size)⟩
        · rw [et] at hno hyes hpa
          cases ed : inB x.d 1 2147483647
          · have HE : Hid (Ending.returned (.int .i64 11) = .returned (.int .i64 r)) := Lib.hid (ret_i (hno (by rw [ed]; simp)).symm)
            clear hno hyes hpa
            go_enter Try.func34, Try.ntmps34
            go_wp2_with (first
              | (go_at_call 39; (with_reducible refine (W.out _).mono ?_); rintro e w2 ⟨rfl, h2⟩; obtain ⟨hc2, hf2⟩ := bcell h2)
              | (go_at_call 40; (with_reducible refine (I.out _ _ _ _).mono ?_); rintro e w3 ⟨rfl, rfl⟩))
            go_ret
            exact ⟨HE.out, b0.trans (h2.mono b0.size)⟩
          · rw [ed] at hno hyes hpa
            cases eq : inB x.q 1 2147483647
            · have HE : Hid (Ending.returned (.int .i64 11) = .returned (.int .i64 r)) := Lib.hid (ret_i (hno (by rw [eq]; simp)).symm)
              clear hno hyes hpa
              go_enter Try.func34, Try.ntmps34
              go_wp2_with (first
                | (go_at_call 39; (with_reducible refine (W.out _).mono ?_); rintro e w2 ⟨rfl, h2⟩; obtain ⟨hc2, hf2⟩ := bcell h2)
                | (go_at_call 40; (with_reducible refine (I.out _ _ _ _).mono ?_); rintro e w3 ⟨rfl, rfl⟩))
              go_ret
              exact ⟨HE.out, b0.trans (h2.mono b0.size)⟩
            · rw [eq] at hno hyes hpa
              cases ej : inB x.j 0 2147483647
              · have HE : Hid (Ending.returned (.int .i64 11) = .returned (.int .i64 r)) := Lib.hid (ret_i (hno (by rw [ej]; simp)).symm)
                clear hno hyes hpa
                go_enter Try.func34, Try.ntmps34
                go_wp2_with (first
                  | (go_at_call 39; (with_reducible refine (W.out _).mono ?_); rintro e w2 ⟨rfl, h2⟩; obtain ⟨hc2, hf2⟩ := bcell h2)
                  | (go_at_call 40; (with_reducible refine (I.out _ _ _ _).mono ?_); rintro e w3 ⟨rfl, rfl⟩))
                go_ret
                exact ⟨HE.out, b0.trans (h2.mono b0.size)⟩
              · rw [ej] at hno hyes hpa
                by_cases p1 : 1 ≤ x.p
                · by_cases p2 : x.p ≤ 1048576
                  · have ep := inB_yes ⟨p1, p2⟩
                    rw [ep] at hno hyes hpa
                    obtain ⟨⟨c1, c2⟩, ⟨t1, t2⟩, ⟨d1, d2⟩, ⟨q1, q2⟩, ⟨j1, j2⟩, -⟩ := hpa rfl
                    have hy := hyes rfl
                    clear hno hyes hpa ep
                    have p1' : decide (x.p < 1) = false := decide_eq_false (by omega)
                    have p2' : decide (x.p > 1048576) = false := decide_eq_false (by omega)
                    have p2'' : decide (1048576 < x.p) = false := decide_eq_false (by omega)
                    by_cases g1 : x.q > x.c
                    · have HE : Hid (Ending.returned (.int .i64 12) = .returned (.int .i64 r)) := Lib.hid (ret_i (by rw [hy, if_pos (by simp [overB, g1])]))
                      clear hy
                      go_enter Try.func34, Try.ntmps34
                      go_wp2_with (first
                        | (go_at_call 39; (with_reducible refine (W.out _).mono ?_); rintro e w2 ⟨rfl, h2⟩; obtain ⟨hc2, hf2⟩ := bcell h2)
                        | (go_at_call 40; (with_reducible refine (I.out _ _ _ _).mono ?_); rintro e w3 ⟨rfl, rfl⟩))
                      go_ret
                      exact ⟨HE.out, b0.trans (h2.mono b0.size)⟩
                    · have g1' : decide (x.q > x.c) = false := decide_eq_false g1
                      have g1'' : decide (x.c < x.q) = false := decide_eq_false g1
                      by_cases g2 : x.c + x.j > x.d
                      · have HE : Hid (Ending.returned (.int .i64 12) = .returned (.int .i64 r)) := Lib.hid (ret_i (by rw [hy, if_pos (by simp [overB, g2])]))
                        clear hy
                        go_enter Try.func34, Try.ntmps34
                        go_wp2_with (first
                          | (go_at_call 39; (with_reducible refine (W.out _).mono ?_); rintro e w2 ⟨rfl, h2⟩; obtain ⟨hc2, hf2⟩ := bcell h2)
                          | (go_at_call 40; (with_reducible refine (I.out _ _ _ _).mono ?_); rintro e w3 ⟨rfl, rfl⟩))
                        go_ret
                        exact ⟨HE.out, b0.trans (h2.mono b0.size)⟩
                      · have g2' : decide (x.c + x.j > x.d) = false := decide_eq_false g2
                        have g2'' : decide (x.d < x.c + x.j) = false := decide_eq_false g2
                        by_cases g3 : x.d > x.t
                        · have HE : Hid (Ending.returned (.int .i64 12) = .returned (.int .i64 r)) := Lib.hid (ret_i (by rw [hy, if_pos (by simp [overB, g3])]))
                          clear hy
                          go_enter Try.func34, Try.ntmps34
                          go_wp2_with (first
                            | (go_at_call 39; (with_reducible refine (W.out _).mono ?_); rintro e w2 ⟨rfl, h2⟩; obtain ⟨hc2, hf2⟩ := bcell h2)
                            | (go_at_call 40; (with_reducible refine (I.out _ _ _ _).mono ?_); rintro e w3 ⟨rfl, rfl⟩))
                          go_ret
                          exact ⟨HE.out, b0.trans (h2.mono b0.size)⟩
                        · have g3' : decide (x.d > x.t) = false := decide_eq_false g3
                          have g3'' : decide (x.t < x.d) = false := decide_eq_false g3
                          have HE : Hid (Ending.returned (.int .i64 0) = .returned (.int .i64 r)) := Lib.hid (ret_i (by rw [hy, if_neg (by simp [overB]; omega)]))
                          clear hy
                          go_enter Try.func34, Try.ntmps34
                          go_wp2_with (first
                            | (go_at_call 39; (with_reducible refine (W.out _).mono ?_); rintro e w2 ⟨rfl, h2⟩; obtain ⟨hc2, hf2⟩ := bcell h2)
                            | (go_at_call 40; (with_reducible refine (I.out _ _ _ _).mono ?_); rintro e w3 ⟨rfl, rfl⟩))
                          go_ret
                          exact ⟨HE.out, b0.trans (h2.mono b0.size)⟩
                  · have HE : Hid (Ending.returned (.int .i64 11) = .returned (.int .i64 r)) := Lib.hid (ret_i (hno (by rw [inB_no (n := x.p) (by omega)]; simp)).symm)
                    clear hno hyes hpa
                    have p1' : decide (x.p < 1) = false := decide_eq_false (by omega)
                    go_enter Try.func34, Try.ntmps34
                    go_wp2_with (first
                      | (go_at_call 39; (with_reducible refine (W.out _).mono ?_); rintro e w2 ⟨rfl, h2⟩; obtain ⟨hc2, hf2⟩ := bcell h2)
                      | (go_at_call 40; (with_reducible refine (I.out _ _ _ _).mono ?_); rintro e w3 ⟨rfl, rfl⟩))
                    go_ret
                    exact ⟨HE.out, b0.trans (h2.mono b0.size)⟩
                · have HE : Hid (Ending.returned (.int .i64 11) = .returned (.int .i64 r)) := Lib.hid (ret_i (hno (by rw [inB_no (n := x.p) (by omega)]; simp)).symm)
                  clear hno hyes hpa
                  have p1' : x.p < 1 := by omega
                  go_enter Try.func34, Try.ntmps34
                  go_wp2_with (first
                    | (go_at_call 39; (with_reducible refine (W.out _).mono ?_); rintro e w2 ⟨rfl, h2⟩; obtain ⟨hc2, hf2⟩ := bcell h2)
                    | (go_at_call 40; (with_reducible refine (I.out _ _ _ _).mono ?_); rintro e w3 ⟨rfl, rfl⟩))
                  go_ret
                  exact ⟨HE.out, b0.trans (h2.mono b0.size)⟩
    · have HE : Hid (Ending.returned (.int .i64 11) = .returned (.int .i64 r)) := Lib.hid (ret_i (hno (by rw [decide_eq_false hl]; simp)).symm)
      clear hno hyes hpa
      have hl' : (x.n.size : Int) > 32 := by omega
      go_enter Try.func34, Try.ntmps34
      go_wp2_with (first
        | (go_at_call 39; (with_reducible refine (W.out _).mono ?_); rintro e w2 ⟨rfl, h2⟩; obtain ⟨hc2, hf2⟩ := bcell h2)
        | (go_at_call 40; (with_reducible refine (I.out _ _ _ _).mono ?_); rintro e w3 ⟨rfl, rfl⟩))
      go_ret
      exact ⟨HE.out, b0.trans (h2.mono b0.size)⟩

/-! ### Rests -/
def restI (x n : Int) : Int := (wrap64 (x.tmod n + n)).tmod n
theorem restI_bd (x n : Int) (hn : 0 < n) (hn2 : n ≤ 100000) : 0 ≤ restI x n ∧ restI x n < n := by
  have ha : -n < x.tmod n ∧ x.tmod n < n := by
    rcases Int.le_total 0 x with h | h
    · rw [Int.tmod_eq_emod_of_nonneg h]
      have := Int.emod_nonneg x (show n ≠ 0 by omega)
      have := Int.emod_lt_of_pos x hn
      omega
    · obtain ⟨m, rfl⟩ : ∃ m, x = -m := ⟨-x, by omega⟩
      rw [Int.neg_tmod, Int.tmod_eq_emod_of_nonneg (by omega)]
      have := Int.emod_nonneg m (show n ≠ 0 by omega)
      have := Int.emod_lt_of_pos m hn
      omega
  unfold restI
  generalize x.tmod n = a at *
  rw [IntWalk.wrap64_in _ (by omega), Int.tmod_eq_emod_of_nonneg (by omega)]
  exact ⟨Int.emod_nonneg _ (by omega), Int.emod_lt_of_pos _ hn⟩
set_option maxHeartbeats 1000000 in
theorem rest_any (x n : Int) (w : World) (hx : in64 x) (hn : 0 < n) (hn2 : n ≤ 100000) : Calls Try.prog 31 #[.int .i64 x, .int .i64 n] w fun e w' => e = .returned (.int .i64 (restI x n)) ∧ w = w' := by
  obtain ⟨h1, h2⟩ := hx
  unfold restI
  go_enter Try.func31, Try.ntmps31
  go_wp2
  go_ret
  exact ⟨rfl, rfl⟩
set_option maxHeartbeats 1000000 in
theorem rrest_any (x n : Int) (w : World) (hx : in64 x) (hn : 0 < n) (hn2 : n ≤ 100000) : Calls Try.prog 12 #[.int .i64 x, .int .i64 n] w fun e w' => e = .returned (.int .i64 (restI x n)) ∧ w = w' := by
  obtain ⟨h1, h2⟩ := hx
  unfold restI
  go_enter Try.func12, Try.ntmps12
  go_wp2
  go_ret
  exact ⟨rfl, rfl⟩

/-! ### The chapter's example -/
theorem wordB_one (c : UInt8) (h : kind c = 1) : wordB (bs [c]) = true := by
  rw [wordB_cons (c := c) (r := []) (by simp [bs])]
  simp [oneT, h, tkOf, runLen, bs_size]
theorem word_a : wordB { data := #[97] } = true := wordB_one 97 (by decide +kernel)
end Go.Proofs.Ytngmaiiibinkaaa
