/- ScanTells: the walk. -/
import Derived.Test.YtpnngicglgceaaaSmall
namespace Go.Proofs.Ytpnngicglgceaaa
open Go.RowKit
set_option linter.unusedVariables false

theorem pcs_lt : ∀ (n a : Nat) (l : List UInt8), l.length ≤ n → ∀ y ∈ pcs a l, y.at' < a + l.length := by
  intro n
  induction n with
  | zero => intro a l h y hy; have : l = [] := List.eq_nil_of_length_eq_zero (by omega); subst this; rw [pcs_nil] at hy; simp at hy
  | succ n ih =>
    intro a l h y hy
    cases l with
    | nil => rw [pcs_nil] at hy; simp at hy
    | cons c r =>
      simp only [List.length_cons] at h ⊢
      have hn := noteLen_le r
      have hr := runLen_le (kind c) r
      by_cases hb : blank c = true
      · rw [pcs_blank hb] at hy
        have := ih (a + 1) r (by omega) y hy
        omega
      · by_cases h35 : c.toNat = 35
        · rw [pcs_hash h35] at hy
          have := ih (a + 1 + noteLen r) (r.drop (noteLen r)) (by simp; omega) y hy
          simp at this
          omega
        · by_cases hk : kind c = 0
          · rw [pcs_none (by simpa using hb) h35 hk, List.mem_singleton] at hy
            subst hy
            show a < a + (r.length + 1)
            omega
          · rw [pcs_tok hk, List.mem_cons] at hy
            rcases hy with rfl | hy
            · simp only [tkOf]; omega
            · have := ih (a + 1 + runLen (kind c) r) (r.drop (runLen (kind c) r)) (by simp; omega) y hy
              simp at this
              omega
/-- Either all is well, or it ends where none begins. -/
theorem lex_cases (s : ByteArray) : (badP s = none ∧ endP s = s.size ∧ errP s = 0 ∧ lexT s = tokL s) ∨ (endP s < s.size ∧ errP s = 10 ∧ lexT s = []) := by
  cases h : badP s with
  | none =>
    refine .inl ⟨rfl, by rw [endP, h], by rw [errP, h], ?_⟩
    rw [lexT, h]
    refine (toksOf_all fun y hy => ?_).symm
    have := List.find?_eq_none.1 h y hy
    simpa using this
  | some x =>
    refine .inr ⟨?_, by rw [errP, h], by rw [lexT, h]⟩
    rw [endP, h]
    have := pcs_lt _ 0 s.data.toList (Nat.le_refl _) x (List.mem_of_find?_eq_some h)
    rw [← Lib.size_eq, Nat.zero_add] at this
    exact this

theorem toks_len {w : World} {v : Value} {ts : List Tk} (h : Toks w v ts) : ∃ A c, v = .slice A ts.length c := by
  rcases h with ⟨rfl, rfl⟩ | ⟨g, cap, rfl, _⟩
  · exact ⟨_, _, rfl⟩
  · exact ⟨_, _, rfl⟩

theorem same_below (v1 v2 : Value) (ts : List Tk) (w : World) (h1 : Toks w v1 ts) (h2 : Toks w v2 ts) : Calls Try.prog 14 #[v1, v2] w fun e w' => e = .returned (.bool true) ∧ Below w.heap.size w w' :=
  (same_any v1 v2 ts w h1 h2).mono fun _ _ ⟨he, n, hn⟩ => ⟨he, by rw [hn]; exact below_drewN (Below.refl _ _) n⟩

set_option maxRecDepth 100000 in
set_option maxHeartbeats 4000000 in
theorem tells_walk (s : ByteArray) (w : World) (hs : s.size ≤ maxLen) :
    Calls Try.prog 3 #[.string s] w fun e w' => e = .returned (.bool true) ∧ Below w.heap.size w w' := by
  have S := Lib.hid (fun w => short_any s w hs)
  have h100 := shortS_size s
  generalize shortS s = t at *
  have hs5 : t.size ≤ 100000 := by omega
  have E0 := Lib.hid (fun w => reach_any t w hs5)
  have E1 := Lib.hid (fun w => each_any t w hs5)
  have L0 := Lib.hid (fun w => lex_any t w hs5)
  have W0 := Lib.hid (fun w => word_any t w hs5)
  have W1 := Lib.hid (fun w => rword_any t w hs5)
  have HC := Lib.hid (lex_cases t)
  generalize wordB t = wb at *
  generalize endP t = en at *
  generalize errP t = er at *
  generalize lexT t = lt at *
  generalize tokL t = ts at *
  have hwb : (wb != wb) = false := by cases wb <;> rfl
  go_enter Try.func3, Try.ntmps3
  go_upto_region 4 with (first
    | (go_at_call 9; refine (awake_any _).mono ?_; rintro e w1 ⟨rfl, h1⟩)
    | (go_at_call 10; (with_reducible refine (S.out _).mono ?_); rintro e w2 ⟨rfl, rfl⟩)
    | (go_at_call 11; (with_reducible refine (E0.out _).mono ?_); rintro e w3 ⟨v, rfl, hv, h3⟩; obtain ⟨A, c', rfl⟩ := toks_len hv))
  obtain ⟨W3, hW3, G3, T3, B3⟩ : ∃ W3, w3.alloc (.cells #[.slice A ts.length c', .int .i64 (en : Int)] 26) = W3 ∧ GB W3 w3.heap.size (.slice A ts.length c') en ∧ Toks W3 (.slice A ts.length c') ts ∧ Below w.heap.size w W3 :=
    ⟨_, rfl, ⟨heap_alloc_new w3 _⟩, hv.later ((Below.refl _ _).alloc (Nat.le_refl _) _), (h1.trans (h3.mono h1.size)).trans ((Below.refl _ _).alloc (Nat.le_trans h1.size h3.size) _)⟩
  rw [hW3]
  clear hW3 hv h1 h3
  go_upto_region 6 with (first
    | (go_at_call 12; (with_reducible refine (E1.out _).mono ?_); rintro e w4 ⟨vl, rfl, hl, h4⟩)
    | (go_at_call 13; (with_reducible refine (L0.out _).mono ?_); rintro e w5 ⟨vt, rfl, ht, h5⟩))
  have G5 := (G3.later h4).later h5
  have T5 := (T3.later h4).later h5
  have l5 := hl.later h5
  have B5 := (B3.trans (h4.mono B3.size)).trans (h5.mono (Nat.le_trans B3.size h4.size))
  clear G3 T3 hl h4 h5 B3
  have d0 := G5.c0
  have SM := Lib.hid (same_below vl (.slice A ts.length c') ts w5 l5 T5)
  go_upto_region 7 with (go_at_call 14; (with_reducible refine SM.out.mono ?_); rintro e w6 ⟨rfl, h6⟩)
  have G6 := G5.later h6
  have T6 := T5.later h6
  have t6 := ht.later h6
  have B6 := B5.trans (h6.mono B5.size)
  clear G5 T5 l5 ht h6 B5 d0 SM
  go_upto_region 9 with (first
    | (go_at_call 15; (with_reducible refine (W0.out _).mono ?_); rintro e w7 ⟨rfl, h7⟩)
    | (go_at_call 16; (with_reducible refine (W1.out _).mono ?_); rintro e w8 ⟨rfl, h8⟩))
  have G8 := (G6.later h7).later h8
  have T8 := (T6.later h7).later h8
  have t8 := (t6.later h7).later h8
  have B8 := (B6.trans (h7.mono B6.size)).trans (h8.mono (Nat.le_trans B6.size h7.size))
  clear G6 T6 t6 h7 h8 B6
  have d1 := G8.c1
  have d0 := G8.c0
  rcases HC.out with ⟨-, he, hr, hl⟩ | ⟨he, hr, hl⟩
  · subst he hr hl
    have SM := Lib.hid (same_below vt (.slice A lt.length c') lt w8 t8 T8)
    clear G8 T8 t8 HC
    go_wp2_with (go_at_call 14; (with_reducible refine SM.out.mono ?_); rintro e w9 ⟨rfl, h9⟩)
    go_ret
    exact ⟨rfl, B8.trans (h9.mono B8.size)⟩
  · subst hr hl
    obtain ⟨A2, c2, rfl⟩ := toks_nil t8
    have t0 : ((en : Int) == (t.size : Int)) = false := by simp; omega
    clear G8 T8 t8 HC he
    go_wp2
    go_ret
    exact ⟨rfl, B8⟩
end Go.Proofs.Ytpnngicglgceaaa
