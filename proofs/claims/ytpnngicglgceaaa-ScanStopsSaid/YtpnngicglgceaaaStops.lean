/- ScanStops: the walk. -/
import Derived.Test.YtpnngicglgceaaaRound
import Derived.Test.YtpnngicglgceaaaTells
namespace Go.Proofs.Ytpnngicglgceaaa
open Go.RowKit Go.Shelf
set_option linter.unusedVariables false
attribute [local go_sem] Oper.semAt_some

theorem Toks.kept {W W' : World} {row : Option Nat} {v : Value} {ts : List Tk} (h : Toks W v ts) (hg : W.grownBy W' row) (hr : ∀ r, row = some r → ∃ o : Obj, W.heap[r]? = some o ∧ o.isCells = false) : Toks W' v ts := by
  rcases h with ⟨rfl, rfl⟩ | ⟨g, cap, rfl, h1, h2, h3, h4⟩
  · exact .inl ⟨rfl, rfl⟩
  · exact .inr ⟨g, cap, rfl, h1, h2, by have := hg.size; omega, fun i x hx => by
      obtain ⟨a, b, c, d⟩ := h4 i x hx
      exact ⟨cell_kept a hg hr, cell_kept b hg hr, cell_kept c hg hr, cell_kept d hg hr⟩⟩
theorem Toks.set {W : World} {v : Value} {ts : List Tk} (h : Toks W v ts) (b : Nat) (u : Value) (hb : ∀ g, v.ownBlock = some g → g ≠ b) : Toks (W.setCell ⟨b, 0, none⟩ u) v ts := by
  rcases h with ⟨rfl, rfl⟩ | ⟨g, cap, rfl, h1, h2, h3, h4⟩
  · exact .inl ⟨rfl, rfl⟩
  · have hne := hb g rfl
    have e : ∀ o, (W.setCell ⟨b, 0, none⟩ u).cell? ⟨g, o, none⟩ = W.cell? ⟨g, o, none⟩ := fun o => World.cell?_setCell_other _ _ _ _ (fun e => hne (congrArg Addr.block e).symm)
    exact .inr ⟨g, cap, rfl, h1, h2, by simpa using h3, fun i x hx => by rw [e, e, e, e]; exact h4 i x hx⟩
theorem Toks.lt {W : World} {v : Value} {ts : List Tk} (h : Toks W v ts) : ∀ g, v.ownBlock = some g → g < W.heap.size := fun g hg => by
  rcases h with ⟨rfl, _⟩ | ⟨g', cap, rfl, _, _, h3, _⟩
  · simp [Value.ownBlock] at hg
  · simp [Value.ownBlock] at hg; omega
theorem boxed_later {W W' : World} {b : Nat} {t : TypeId} {v : Value} (h : Boxed W b t v) (hb : Below W.heap.size W W') : Boxed W' b t v := (hb.block b (Boxed.lt h)).trans h

/-- What stands between two rounds. -/
structure SI (ts : List Tk) (k b4 b6 bn b9 b10 : Nat) (t : ByteArray) (sl : Value) (pre : List Tk) (W : World) : Prop where
  pf : pre <+: ts
  le : pre.length ≤ k
  x4 : Boxed W b4 4 (.bool false)
  x6 : Boxed W b6 24 sl
  xn : Boxed W bn 9 (.string t)
  tk : Toks W sl ts
  x9 : Boxed W b9 3 (.int .i64 (k : Int))
  x10 : Boxed W b10 3 (.int .i64 (pre.length : Int))
/-- What stands behind the first loop. -/
structure SO (k b4 b6 bn b9 b10 g : Nat) (t : ByteArray) (sl : Value) (W : World) : Prop where
  x4 : Boxed W b4 4 (.bool false)
  x6 : Boxed W b6 24 sl
  xn : Boxed W bn 9 (.string t)
  x9 : Boxed W b9 3 (.int .i64 (k : Int))
  x10 : Boxed W b10 3 (.int .i64 (g : Int))
theorem SI.own (ts : List Tk) (k b4 b6 bn b9 b10 : Nat) (t : ByteArray) (sl : Value) (B : Nat) : OwnFrom B (SI ts k b4 b6 bn b9 b10 t sl) := fun pre X Y row h hg hr0 =>
  have hr : ∀ r, row = some r → ∃ o : Obj, X.heap[r]? = some o ∧ o.isCells = false := fun r e => (hr0 r e).2
  ⟨h.pf, h.le, boxed_kept h.x4 hg hr, boxed_kept h.x6 hg hr, boxed_kept h.xn hg hr, h.tk.kept hg hr, boxed_kept h.x9 hg hr, boxed_kept h.x10 hg hr⟩
theorem SO.kept {k b4 b6 bn b9 b10 g : Nat} {t : ByteArray} {sl : Value} {X Y : World} {row : Option Nat} (h : SO k b4 b6 bn b9 b10 g t sl X) (hg : X.grownBy Y row) (hr : ∀ r, row = some r → ∃ o : Obj, X.heap[r]? = some o ∧ o.isCells = false) : SO k b4 b6 bn b9 b10 g t sl Y :=
  ⟨boxed_kept h.x4 hg hr, boxed_kept h.x6 hg hr, boxed_kept h.xn hg hr, boxed_kept h.x9 hg hr, boxed_kept h.x10 hg hr⟩
theorem SI.drawn {ts : List Tk} {k b4 b6 bn b9 b10 : Nat} {t : ByteArray} {sl : Value} {pre : List Tk} {V : World} (h : SI ts k b4 b6 bn b9 b10 t sl pre V) (n : Nat) : SI ts k b4 b6 bn b9 b10 t sl pre (V.drewN n) :=
  ⟨h.pf, h.le, h.x4, h.x6, h.xn, h.tk.later (below_drewN (Below.refl _ _) n), h.x9, h.x10⟩
theorem keeps_drawn (V : World) (n : Nat) : KeepsOthers V (V.drewN n) := ⟨Nat.le_refl _, fun _ _ h _ => h⟩
/-- A round of the first loop that goes on. -/
theorem SI.step {ts : List Tk} {k b4 b6 bn b9 b10 : Nat} {t : ByteArray} {sl : Value} {pre r : List Tk} {x : Tk} {V : World} (h : SI ts k b4 b6 bn b9 b10 t sl pre V) (hp : ts = pre ++ x :: r) (hk : pre.length ≠ k) (h4 : b4 < b10) (h6 : b6 < b10) (hn : bn < b10) (h9 : b9 < b10) (hg : ∀ g, sl.ownBlock = some g → g < b10) :
    SI ts k b4 b6 bn b9 b10 t sl (pre ++ [x]) (V.setCell ⟨b10, 0, none⟩ (.int .i64 ((pre.length : Int) + 1))) :=
  ⟨⟨r, by rw [hp]; simp⟩, by have := h.le; simp; omega, Boxed.other h.x4 (by omega) _, Boxed.other h.x6 (by omega) _, Boxed.other h.xn (by omega) _, h.tk.set _ _ (fun g hg' => by have := hg g hg'; omega), Boxed.other h.x9 (by omega) _, by
    have e : (((pre ++ [x]).length : Nat) : Int) = (pre.length : Int) + 1 := by simp
    rw [e]; exact Boxed.set _ h.x10⟩

set_option maxRecDepth 100000 in
set_option maxHeartbeats 4000000 in
theorem stops_walk (s : ByteArray) (m : Int) (w : World) (hs : s.size ≤ maxLen) (hm : -9223372036854775808 ≤ m ∧ m ≤ 9223372036854775807) :
    Calls Try.prog 8 #[.string s, .int .i64 m] w fun e w' => e = .returned (.bool true) ∧ Below w.heap.size w w' := by
  have S := Lib.hid (fun w => short_any s w hs)
  have h100 := shortS_size s
  generalize shortS s = t at *
  have hs5 : t.size ≤ 100000 := by omega
  have E1 := Lib.hid (fun w => each_any t w hs5)
  obtain ⟨k, hk⟩ : ∃ k : Nat, restI m 30 = (k : Int) := ⟨_, (Int.toNat_of_nonneg (restI_bd m 30 (by omega) (by omega)).1).symm⟩
  have hk30 : k < 30 := by have := (restI_bd m 30 (by omega) (by omega)).2; omega
  have R := Lib.hid (fun w => rest_any m 30 w hm (by omega) (by omega))
  rw [hk] at R
  have hfn := run_eql_func_nil
  clear hk
  generalize hts : tokL t = ts at *
  have X4 := Boxed.new w 4 (.bool false)
  have B0 : Below w.heap.size w (w.alloc (.cells #[.bool false] 4)) := (Below.refl _ _).alloc (Nat.le_refl _) _
  generalize hW0 : w.alloc (.cells #[.bool false] 4) = W0 at *
  refine (callsIn_wide (n := 9)).1 ?_
  refine callsIn_of_wp_marks Try.func8 rfl trivial ?_ rfl
  simp only [Try.ntmps8, List.size_toArray, List.length_cons, List.length_nil, Nat.reduceAdd, Nat.reduceSub, Array.replicate_succ, Array.replicate_zero, List.push_toArray, List.append_toArray, List.nil_append, List.cons_append]
  refine wpIn_wide.2 ?_
  go_upto_region 4 with (first
    | (go_at_call 9; refine (awake_any _).mono ?_; rintro e w1 ⟨rfl, h1⟩)
    | (go_at_call 10; (with_reducible refine (S.out _).mono ?_); rintro e w2 ⟨rfl, rfl⟩)
    | (go_at_call 12; (with_reducible refine (E1.out _).mono ?_); rintro e w3 ⟨v, rfl, hv, h3⟩; obtain ⟨A, c', rfl⟩ := toks_len hv))
  clear hW0
  generalize hb4 : w.heap.size = b4 at X4 B0 ⊢
  have z0 : b4 ≤ W0.heap.size := by have := B0.size; omega
  have z1 : b4 ≤ w1.heap.size := Nat.le_trans z0 h1.size
  have z3 : b4 ≤ w3.heap.size := Nat.le_trans z1 h3.size
  obtain ⟨W3, hW3, Y4, Y6, T3, B3, hg3⟩ : ∃ W3, w3.alloc (.cells #[.slice A ts.length c'] 24) = W3 ∧ Boxed W3 b4 4 (.bool false) ∧ Boxed W3 w3.heap.size 24 (.slice A ts.length c') ∧ Toks W3 (.slice A ts.length c') ts ∧ Below b4 w W3 ∧ (∀ g, (Value.slice A ts.length c').ownBlock = some g → g < w3.heap.size) :=
    ⟨_, rfl, Boxed.alloc (boxed_later (boxed_later X4 h1) h3) _, Boxed.new _ _ _, hv.later ((Below.refl _ _).alloc (Nat.le_refl _) _), ((B0.trans (h1.mono z0)).trans (h3.mono z1)).trans ((Below.refl _ _).alloc z3 _), hv.lt⟩
  rw [hW3]
  have l46 : b4 < w3.heap.size := Boxed.lt (boxed_later (boxed_later X4 h1) h3)
  have l6 : w3.heap.size < W3.heap.size := Boxed.lt Y6
  clear hW3 X4 B0 h1 h3 hv z0 z1 z3
  generalize w3.heap.size = b6 at *
  obtain ⟨W4, hW4, Z4, Z6, Zn, T4, B4, s4⟩ : ∃ W4, W3.alloc (.cells #[.string t] 9) = W4 ∧ Boxed W4 b4 4 (.bool false) ∧ Boxed W4 b6 24 (.slice A ts.length c') ∧ Boxed W4 W3.heap.size 9 (.string t) ∧ Toks W4 (.slice A ts.length c') ts ∧ Below b4 w W4 ∧ W4.heap.size = W3.heap.size + 1 :=
    ⟨_, rfl, Boxed.alloc Y4 _, Boxed.alloc Y6 _, Boxed.new _ _ _, T3.later ((Below.refl _ _).alloc (Nat.le_refl _) _), B3.trans ((Below.refl _ _).alloc (by omega) _), by simp⟩
  go_upto_region 7 with (go_at_call 19; refine (each_seq_any _ _).mono ?_; rintro e w' ⟨rfl, rfl⟩)
  have l4n : W3.heap.size < W4.heap.size := by omega
  clear hW4 s4 Y4 Y6 T3 B3
  obtain ⟨W5, hW5, Q4, Q6, Qn, T5, Q9, Q10, B5, s5⟩ : ∃ W5, (W4.alloc (.cells #[.int .i64 (k : Int)] 3)).alloc (.cells #[.int .i64 0] 3) = W5 ∧ Boxed W5 b4 4 (.bool false) ∧ Boxed W5 b6 24 (.slice A ts.length c') ∧ Boxed W5 W3.heap.size 9 (.string t) ∧ Toks W5 (.slice A ts.length c') ts ∧ Boxed W5 W4.heap.size 3 (.int .i64 (k : Int)) ∧ Boxed W5 (W4.heap.size + 1) 3 (.int .i64 0) ∧ Below b4 w W5 ∧ W5.heap.size = W4.heap.size + 2 :=
    ⟨_, rfl, Boxed.alloc (Boxed.alloc Z4 _) _, Boxed.alloc (Boxed.alloc Z6 _) _, Boxed.alloc (Boxed.alloc Zn _) _, (T4.later ((Below.refl _ _).alloc (Nat.le_refl _) _)).later ((Below.refl _ _).alloc (Nat.le_refl _) _), Boxed.alloc (Boxed.new _ _ _) _, (by have := Boxed.new (W4.alloc (.cells #[.int .i64 (k : Int)] 3)) 3 (.int .i64 0); rwa [World.size_alloc] at this), (B4.trans ((Below.refl _ _).alloc (by omega) _)).trans ((Below.refl _ _).alloc (by simp; omega) _), by simp⟩
  have HW5 := Lib.hid hW5
  clear hW5
  go_upto_region 9 with (go_at_call 18; (with_reducible refine (R.out _).mono ?_); rintro e w' ⟨rfl, rfl⟩)
  rw [HW5.out]
  have l5 : W4.heap.size + 1 < W5.heap.size := by omega
  clear HW5 Z4 Z6 Zn T4 B4 s5 R S E1 hfn
  generalize W3.heap.size = bn at *
  generalize W4.heap.size = b9 at *
  have l910 : b9 < b9 + 1 := by omega
  generalize b9 + 1 = b10 at *
  go_wp2
  have hb4' : b4 ≤ W5.heap.size := by omega
  have hw5 : w.heap.size ≤ W5.heap.size := by omega
  have hg10 : ∀ g, (Value.slice A ts.length c').ownBlock = some g → g < b10 := fun g hg => by have := hg3 g hg; omega
  have h4n : b4 < b10 := by omega
  have h6n : b6 < b10 := by omega
  have hnn : bn < b10 := by omega
  have h9n : b9 < b10 := by omega
  refine (wpIn_wide (n := 9)).1 ?_
  refine rangeO (gf := 22) (lb := #[.pointer (some ⟨bn, 0, none⟩)]) rfl (enters_of Try.func22 (by kernel_rfl) rfl)
    (each1_seq (9 - 1) (by omega) bn t hs5 W5 Qn) (Below.refl _ _) rfl
    (fun pre V => SI ts k b4 b6 bn b9 b10 t (.slice A ts.length c') pre V ∧ Below b4 w V)
    (fun c pre V => ((c = .ret ∧ ¬ pre <+: ts) ∨ (c = .exit 0 ∧ pre.length = k + 1 ∧ SO k b4 b6 bn b9 b10 k t (.slice A ts.length c') V)) ∧ Below b4 w V)
    (OwnFrom.and (SI.own _ _ _ _ _ _ _ _ _ _) (ownFrom_below (Nat.le_of_eq hb4.symm) hb4'))
    (fun c => OwnFrom.and (fun pre X Y row h hg hr => h.imp id fun h => ⟨h.1, h.2.1, h.2.2.kept hg (fun r e => (hr r e).2)⟩) (ownFrom_below (Nat.le_of_eq hb4.symm) hb4'))
    ⟨⟨⟨ts, rfl⟩, Nat.zero_le _, Q4, Q6, Qn, T5, Q9, Q10⟩, B5⟩
    (fun x a' V => ∃ Bx, TB V Bx x ∧ a' = { tmps := #[.string t, .int .i64 m, undef, undef, .pointer (some ⟨b4, 0, none⟩), .bool true, .pointer (some ⟨b6, 0, none⟩), .bool true, .func (.func 22) #[] #[.pointer (some ⟨bn, 0, none⟩)], .pointer (some ⟨b9, 0, none⟩), .pointer (some ⟨b10, 0, none⟩), .pointer (some ⟨Bx, 0, none⟩), undef, .bool true, .string s, .string t, .tuple #[.slice A ts.length c', .bool true], .string t, .tuple #[.slice A ts.length c', .bool true], .slice A ts.length c', .bool true, .bool true, .bool false, .string t, .func (.func 22) #[] #[.pointer (some ⟨bn, 0, none⟩)], .int .i64 m, .int .i64 (k : Int), .func (.func 22) #[] #[.pointer (some ⟨bn, 0, none⟩)], tkV x, undef, undef, undef, undef, undef, undef, undef, undef, undef, undef, undef, undef, undef, undef, undef, undef, undef, undef, undef, undef, undef, undef, undef, undef, undef, undef, undef, undef, undef, undef, undef, undef, undef, undef, undef, undef], defers := [] })
    (fun x a' _ X Y row hs hg hr => hs.imp fun Bx h => ⟨h.1.kept hg (fun r e => (hr r e).2), h.2⟩)
    ?assign ?body ?done ?stop
  case assign =>
    rintro l2 pre x V K ⟨hI, hB⟩ hK
    gi_wp2
    have hbV : b4 ≤ V.heap.size := by have := hB.size; omega
    exact hK _ _ ((KeepsOthers.alloc _ _).from _) (Kp.alloc _ _) ⟨⟨hI.pf, hI.le, Boxed.alloc hI.x4 _, Boxed.alloc hI.x6 _, Boxed.alloc hI.xn _, hI.tk.later ((Below.refl _ _).alloc (Nat.le_refl _) _), Boxed.alloc hI.x9 _, Boxed.alloc hI.x10 _⟩, hB.trans ((Below.refl _ _).alloc hbV _)⟩ ⟨_, TB.new V x, rfl⟩
  case body =>
    rintro l2 pre x a' V ⟨hI, hB⟩ ⟨Bx, hT, rfl⟩ hlen
    have x10 := hI.x10.cell
    have x9 := hI.x9.cell
    by_cases hk : pre.length = k
    · have hSO : SO k b4 b6 bn b9 b10 k t (.slice A ts.length c') V := ⟨hI.x4, hI.x6, hI.xn, hI.x9, by have := hI.x10; rwa [hk] at this⟩
      rw [hk] at x10
      have HK := Lib.hid hk
      clear hk hI
      gi_wp2
      exact ⟨KeepsFrom.refl _ _, .inr ⟨rfl, by have := HK.out; simp; omega, hSO⟩, hB⟩
    · have hne : ((pre.length : Int) == (k : Int)) = false := by simp; omega
      have x6 := hI.x6.cell
      have x4 := hI.x4.cell
      have f4 := hI.x4.frozen
      by_cases hlt : pre.length < ts.length
      · obtain ⟨y, r, hp⟩ : ∃ y r, ts = pre ++ y :: r := by
          obtain ⟨u, hu⟩ := hI.pf
          cases u with
          | nil => rw [← hu] at hlt; simp at hlt
          | cons y r => exact ⟨y, r, hu.symm⟩
        have hy : ts[pre.length]? = some y := by rw [hp]; simp
        have hcl := hI.tk
        rcases hcl with ⟨_, h⟩ | ⟨g, cap, hv, ha1, hb1, hc1, hd1⟩
        · rw [h] at hlt; simp at hlt
        obtain ⟨rfl, rfl⟩ : A = some ⟨g, 0, none⟩ ∧ c' = cap := by simpa using hv
        obtain ⟨a0, a1, a2, a3⟩ := at_mul (hd1 _ y hy)
        have c0 := hT.c0
        have c1 := hT.c1
        have c2 := hT.c2
        have c3 := hT.c3
        have hge : decide (ts.length ≤ pre.length) = false := by simp; omega
        have hi0 : (0 : Int) ≤ (pre.length : Int) := by omega
        have hi1 : (pre.length : Int) < (ts.length : Int) := by omega
        unfold maxLen at hb1
        have HI := Lib.hid hI
        have HP := Lib.hid hp
        clear hI hp hy hv hd1 hlt
        by_cases hxy : x = y
        · subst hxy
          have f10 := HI.out.x10.frozen
          gi_wp2
          refine region_round (by rintro ⟨_, _, h⟩; exact h) (by kernel_rfl) (by kernel_rfl) (by kernel_rfl) ?_
          repeat (first | go_big_quiet_step (fail) | quiet_step (fail))
          refine wpQuiet_nil ?_
          intro _ hw'
          obtain ⟨nq, hw''⟩ := hw'
          subst hw''
          gi_wp2
          exact ⟨((keeps_drawn V nq).trans (KeepsOthers.setCell _ _ _)).from _, (Kp.later (below_drewN (Below.refl _ _) nq)).trans (Kp.setCell (HI.out.drawn nq).x10 (by decide)), (HI.out.drawn nq).step HP.out hk h4n h6n hnn h9n hg10, (below_drewN hB nq).setCell (p := ⟨b10, 0, none⟩) (Nat.le_of_lt h4n) _⟩
        · have hno : ¬ (pre ++ [x]) <+: ts := by
            rintro ⟨u, hu⟩
            rw [HP.out, List.append_assoc] at hu
            have := List.append_cancel_left hu
            simp at this
            exact hxy this.1
          rcases tk_parts hxy with q1 | ⟨q1, q2⟩ | ⟨q1, q2, q3⟩ | ⟨q1, q2, q3, q4⟩
          all_goals
            gi_wp2
            refine region_round (by rintro ⟨_, _, h⟩; exact h) (by kernel_rfl) (by kernel_rfl) (by kernel_rfl) ?_
            repeat (first | go_big_quiet_step (fail) | quiet_step (fail))
            refine wpQuiet_nil ?_
            intro _ hw'
            obtain ⟨nq, hw''⟩ := hw'
            subst hw''
            gi_wp2
            exact ⟨((keeps_drawn V nq).trans (KeepsOthers.setCell _ _ _)).from _, .inl ⟨rfl, hno⟩, (below_drewN hB nq).setCell (p := ⟨b4, 0, none⟩) (Nat.le_refl _) _⟩
      · have hno : ¬ (pre ++ [x]) <+: ts := fun h => by have := h.length_le; simp at this; omega
        have hge : decide (ts.length ≤ pre.length) = true := by simp; omega
        clear hI
        gi_wp2
        refine region_round (by rintro ⟨_, _, h⟩; exact h) (by kernel_rfl) (by kernel_rfl) (by kernel_rfl) ?_
        repeat (first | go_big_quiet_step (fail) | quiet_step (fail))
        refine wpQuiet_nil ?_
        intro _ hw'
        obtain ⟨nq, hw''⟩ := hw'
        subst hw''
        gi_wp2
        exact ⟨((keeps_drawn V nq).trans (KeepsOthers.setCell _ _ _)).from _, .inl ⟨rfl, hno⟩, (below_drewN hB nq).setCell (p := ⟨b4, 0, none⟩) (Nat.le_refl _) _⟩
  case done =>
    rintro D xs V hD hS ⟨hI, hB⟩ hK
    obtain rfl : ts = xs := (hS.trans hts).symm
    obtain ⟨gg, hgg⟩ : ∃ gg, gg = ts.length := ⟨_, rfl⟩
    have hSO : SO k b4 b6 bn b9 b10 gg t (.slice A ts.length c') V := ⟨hI.x4, hI.x6, hI.xn, hI.x9, by rw [hgg]; exact hI.x10⟩
    have HM : Hid (min (k : Int) (ts.length : Int) = (gg : Int)) := Lib.hid (by have := hI.le; omega)
    clear hI hgg hS
    go_upto_block 2 with (fail)
    go_wp2
    obtain ⟨W6, hW6, R4, R6, Rn, R9, R10, R12, RK, RB, hD6, l6'⟩ : ∃ W6, V.alloc (.cells #[.int .i64 0] 3) = W6 ∧ Boxed W6 b4 4 (.bool false) ∧ Boxed W6 b6 24 (.slice A ts.length c') ∧ Boxed W6 bn 9 (.string t) ∧ Boxed W6 b9 3 (.int .i64 (k : Int)) ∧ Boxed W6 b10 3 (.int .i64 (gg : Int)) ∧ Boxed W6 V.heap.size 3 (.int .i64 0) ∧ W6.heap[D]? = some (.deferred (some [])) ∧ Below b4 w W6 ∧ D < W6.heap.size ∧ b10 < V.heap.size :=
      ⟨_, rfl, Boxed.alloc hSO.x4 _, Boxed.alloc hSO.x6 _, Boxed.alloc hSO.xn _, Boxed.alloc hSO.x9 _, Boxed.alloc hSO.x10 _, Boxed.new _ _ _, (KeepsOthers.alloc _ _).same D _ hK rfl, hB.trans ((Below.refl _ _).alloc (by have := hB.size; omega) _), by have := (Array.getElem?_eq_some_iff.1 hK).1; simp; omega, Boxed.lt hSO.x10⟩
    (try rw [hW6])
    clear hW6 hK hB hSO
    generalize V.heap.size = b12 at *
    have h12 : b12 < W6.heap.size := Boxed.lt R12
    have hb46 : b4 ≤ W6.heap.size := by omega
    refine (wpIn_wide (n := 9)).1 ?_
    refine rangeO (gf := 22) (lb := #[.pointer (some ⟨bn, 0, none⟩)]) rfl (enters_of Try.func22 (by kernel_rfl) rfl)
      (each1_seq (9 - 1) (by omega) bn t hs5 W6 Rn) (Below.refl _ _) rfl
      (fun pre V => (Boxed V b4 4 (.bool false) ∧ Boxed V b6 24 (.slice A ts.length c') ∧ Boxed V b9 3 (.int .i64 (k : Int)) ∧ Boxed V b10 3 (.int .i64 (gg : Int)) ∧ Boxed V b12 3 (.int .i64 (pre.length : Int)) ∧ V.heap[D]? = some (.deferred (some []))) ∧ Below b4 w V)
      (fun _ _ _ => False)
      (OwnFrom.and (fun pre X Y row h hg hr => ⟨boxed_kept h.1 hg (fun r e => (hr r e).2), boxed_kept h.2.1 hg (fun r e => (hr r e).2), boxed_kept h.2.2.1 hg (fun r e => (hr r e).2), boxed_kept h.2.2.2.1 hg (fun r e => (hr r e).2), boxed_kept h.2.2.2.2.1 hg (fun r e => (hr r e).2), (hg.block D (Array.getElem?_eq_some_iff.1 h.2.2.2.2.2).1 (fun e => by have := (hr D e.symm).1; omega)).trans h.2.2.2.2.2⟩) (ownFrom_below (Nat.le_of_eq hb4.symm) hb46))
      (fun _ _ _ _ _ h _ _ => h)
      ⟨⟨R4, R6, R9, R10, R12, RK⟩, RB⟩
      (fun x a' V => a' = { tmps := #[.string t, .int .i64 m, undef, undef, .pointer (some ⟨b4, 0, none⟩), .bool true, .pointer (some ⟨b6, 0, none⟩), .bool true, .func (.func 22) #[] #[.pointer (some ⟨bn, 0, none⟩)], .pointer (some ⟨b9, 0, none⟩), .pointer (some ⟨b10, 0, none⟩), undef, .pointer (some ⟨b12, 0, none⟩), .bool true, .string s, .string t, .tuple #[.slice A ts.length c', .bool true], .string t, .tuple #[.slice A ts.length c', .bool true], .slice A ts.length c', .bool true, .bool true, .bool false, .string t, .func (.func 22) #[] #[.pointer (some ⟨bn, 0, none⟩)], .int .i64 m, .int .i64 (k : Int), .func (.func 22) #[] #[.pointer (some ⟨bn, 0, none⟩)], undef, undef, undef, undef, undef, undef, undef, undef, undef, undef, undef, undef, undef, undef, undef, undef, undef, undef, .func (.func 22) #[] #[.pointer (some ⟨bn, 0, none⟩)], tkV x, undef, undef, undef, undef, undef, undef, undef, undef, undef, undef, undef, undef, undef, undef, undef, undef, undef], defers := [] })
      (fun x a' _ X Y row hs hg hr => hs)
      ?assign2 ?body2 ?done2 ?stop2
    case assign2 =>
      rintro l2 pre x V K hI hK
      gi_wp2
      exact hK _ _ (KeepsFrom.refl _ _) (Kp.refl _) hI rfl
    case body2 =>
      rintro l2 pre x a' V ⟨⟨r4, r6, r9, r10, r12, rK⟩, rB⟩ rfl hlen
      have c12 := r12.cell
      have f12 := r12.frozen
      have e : (((pre ++ [x]).length : Nat) : Int) = (pre.length : Int) + 1 := by simp
      gi_wp2
      exact ⟨(KeepsOthers.setCell _ _ _).from _, Kp.setCell r12 (by decide), ⟨Boxed.other r4 (by omega) _, Boxed.other r6 (by omega) _, Boxed.other r9 (by omega) _, Boxed.other r10 (by omega) _, by rw [e]; exact Boxed.set _ r12, (KeepsOthers.setCell _ _ _).same D _ rK rfl⟩, rB.setCell (p := ⟨b12, 0, none⟩) (by show b4 ≤ b12; omega) _⟩
    case done2 =>
      rintro D2 xs V2 hD2 hS2 ⟨⟨r4, r6, r9, r10, r12, rK⟩, rB⟩ hK2
      obtain rfl : ts = xs := (hS2.trans hts).symm
      have c4 := r4.cell
      have f4 := r4.frozen
      have c6 := r6.cell
      have c9 := r9.cell
      have c10 := r10.cell
      have c12 := r12.cell
      have hmin := HM.out
      have Z4 := Lib.hid r4
      have ZB := Lib.hid rB
      have ZK := Lib.hid rK
      have ZK2 := Lib.hid hK2
      have ZD : Hid (b4 ≤ D ∧ b4 ≤ D2 ∧ D < D2) := Lib.hid ⟨by omega, by omega, by omega⟩
      clear hg3 hg10 hts hD hD2 hS2 hD6 rK hK2 r4 r6 r9 r10 r12 rB RB R4 R6 Rn R9 R10 R12 RK Qn Q4 Q6 Q9 Q10 T5 B5
      go_wp2
      have k1 := (KeepsOthers.setCell V2 ⟨b4, 0, none⟩ (.bool true)).same D _ ZK.out rfl
      have k2 := (KeepsOthers.setCell V2 ⟨b4, 0, none⟩ (.bool true)).same D2 _ ZK2.out rfl
      have hB2 := ZB.out.setCell (p := ⟨b4, 0, none⟩) (Nat.le_refl _) (.bool true)
      have h4 := Z4.out.set (.bool true)
      have hd := ZD.out
      refine ⟨by simp, .inl ⟨_, _, rfl, run_takeDeferred k2, ?_⟩⟩
      have k3 := (World.putObj_heap_other (o := .deferred none) (show D ≠ D2 by omega)).trans k1
      refine ⟨by simp, .inl ⟨_, _, rfl, run_takeDeferred k3, ?_⟩⟩
      have hc1 := cell_kept h4.cell (grownBy_putObj' _ D2 (.deferred none)) (fun r e => by cases e; exact ⟨_, k2, rfl⟩)
      have hc := cell_kept hc1 (grownBy_putObj' _ D (.deferred none)) (fun r e => by cases e; exact ⟨_, k3, rfl⟩)
      refine ⟨.bool true, ?_, rfl, ?_⟩
      · simp [results, Try.f8, go_sem, hc]
      · rw [hb4]
        exact (hB2.trans (belowK_b (w := w) (Nat.le_of_eq hb4.symm) _ D2 _ _ (by omega) k2 rfl rfl)).trans (belowK_b (w := w) (Nat.le_of_eq hb4.symm) _ D _ _ (by omega) k3 rfl rfl)
    case stop2 =>
      rintro D2 c pre V2 hD2 hpre h hK2
      exact h.elim
  case stop =>
    rintro D c pre V hD hpre ⟨hc, hB⟩ hK
    rw [hts] at hpre
    rcases hc with ⟨rfl, hno⟩ | ⟨rfl, hlk, hSO⟩
    · exact absurd hpre hno
    · obtain ⟨gg, hgg⟩ : ∃ gg, gg = k := ⟨_, rfl⟩
      replace hSO : SO k b4 b6 bn b9 b10 gg t (.slice A ts.length c') V := by rw [hgg]; exact hSO
      have hg1 : k + 1 ≤ ts.length := by have := hpre.length_le; omega
      have HM : Hid (min (k : Int) (ts.length : Int) = (gg : Int)) := Lib.hid (by omega)
      clear hpre hlk hgg hg1
      gi_wp2
      go_upto_block 2 with (fail)
      go_wp2
      obtain ⟨W6, hW6, R4, R6, Rn, R9, R10, R12, RK, RB, hD6, l6'⟩ : ∃ W6, V.alloc (.cells #[.int .i64 0] 3) = W6 ∧ Boxed W6 b4 4 (.bool false) ∧ Boxed W6 b6 24 (.slice A ts.length c') ∧ Boxed W6 bn 9 (.string t) ∧ Boxed W6 b9 3 (.int .i64 (k : Int)) ∧ Boxed W6 b10 3 (.int .i64 (gg : Int)) ∧ Boxed W6 V.heap.size 3 (.int .i64 0) ∧ W6.heap[D]? = some (.deferred (some [])) ∧ Below b4 w W6 ∧ D < W6.heap.size ∧ b10 < V.heap.size :=
        ⟨_, rfl, Boxed.alloc hSO.x4 _, Boxed.alloc hSO.x6 _, Boxed.alloc hSO.xn _, Boxed.alloc hSO.x9 _, Boxed.alloc hSO.x10 _, Boxed.new _ _ _, (KeepsOthers.alloc _ _).same D _ hK rfl, hB.trans ((Below.refl _ _).alloc (by have := hB.size; omega) _), by have := (Array.getElem?_eq_some_iff.1 hK).1; simp; omega, Boxed.lt hSO.x10⟩
      (try rw [hW6])
      clear hW6 hK hB hSO
      generalize V.heap.size = b12 at *
      have h12 : b12 < W6.heap.size := Boxed.lt R12
      have hb46 : b4 ≤ W6.heap.size := by omega
      refine (wpIn_wide (n := 9)).1 ?_
      refine rangeO (gf := 22) (lb := #[.pointer (some ⟨bn, 0, none⟩)]) rfl (enters_of Try.func22 (by kernel_rfl) rfl)
        (each1_seq (9 - 1) (by omega) bn t hs5 W6 Rn) (Below.refl _ _) rfl
        (fun pre V => (Boxed V b4 4 (.bool false) ∧ Boxed V b6 24 (.slice A ts.length c') ∧ Boxed V b9 3 (.int .i64 (k : Int)) ∧ Boxed V b10 3 (.int .i64 (gg : Int)) ∧ Boxed V b12 3 (.int .i64 (pre.length : Int)) ∧ V.heap[D]? = some (.deferred (some []))) ∧ Below b4 w V)
        (fun _ _ _ => False)
        (OwnFrom.and (fun pre X Y row h hg hr => ⟨boxed_kept h.1 hg (fun r e => (hr r e).2), boxed_kept h.2.1 hg (fun r e => (hr r e).2), boxed_kept h.2.2.1 hg (fun r e => (hr r e).2), boxed_kept h.2.2.2.1 hg (fun r e => (hr r e).2), boxed_kept h.2.2.2.2.1 hg (fun r e => (hr r e).2), (hg.block D (Array.getElem?_eq_some_iff.1 h.2.2.2.2.2).1 (fun e => by have := (hr D e.symm).1; omega)).trans h.2.2.2.2.2⟩) (ownFrom_below (Nat.le_of_eq hb4.symm) hb46))
        (fun _ _ _ _ _ h _ _ => h)
        ⟨⟨R4, R6, R9, R10, R12, RK⟩, RB⟩
        (fun x a' V => a' = { tmps := #[.string t, .int .i64 m, undef, undef, .pointer (some ⟨b4, 0, none⟩), .bool true, .pointer (some ⟨b6, 0, none⟩), .bool true, .func (.func 22) #[] #[.pointer (some ⟨bn, 0, none⟩)], .pointer (some ⟨b9, 0, none⟩), .pointer (some ⟨b10, 0, none⟩), undef, .pointer (some ⟨b12, 0, none⟩), .bool true, .string s, .string t, .tuple #[.slice A ts.length c', .bool true], .string t, .tuple #[.slice A ts.length c', .bool true], .slice A ts.length c', .bool true, .bool true, .bool false, .string t, .func (.func 22) #[] #[.pointer (some ⟨bn, 0, none⟩)], .int .i64 m, .int .i64 (k : Int), .func (.func 22) #[] #[.pointer (some ⟨bn, 0, none⟩)], undef, undef, undef, undef, undef, undef, undef, undef, undef, undef, undef, undef, undef, undef, undef, undef, undef, undef, .func (.func 22) #[] #[.pointer (some ⟨bn, 0, none⟩)], tkV x, undef, undef, undef, undef, undef, undef, undef, undef, undef, undef, undef, undef, undef, undef, undef, undef, undef], defers := [] })
        (fun x a' _ X Y row hs hg hr => hs)
        ?assign2 ?body2 ?done2 ?stop2
      case assign2 =>
        rintro l2 pre x V K hI hK
        gi_wp2
        exact hK _ _ (KeepsFrom.refl _ _) (Kp.refl _) hI rfl
      case body2 =>
        rintro l2 pre x a' V ⟨⟨r4, r6, r9, r10, r12, rK⟩, rB⟩ rfl hlen
        have c12 := r12.cell
        have f12 := r12.frozen
        have e : (((pre ++ [x]).length : Nat) : Int) = (pre.length : Int) + 1 := by simp
        gi_wp2
        exact ⟨(KeepsOthers.setCell _ _ _).from _, Kp.setCell r12 (by decide), ⟨Boxed.other r4 (by omega) _, Boxed.other r6 (by omega) _, Boxed.other r9 (by omega) _, Boxed.other r10 (by omega) _, by rw [e]; exact Boxed.set _ r12, (KeepsOthers.setCell _ _ _).same D _ rK rfl⟩, rB.setCell (p := ⟨b12, 0, none⟩) (by show b4 ≤ b12; omega) _⟩
      case done2 =>
        rintro D2 xs V2 hD2 hS2 ⟨⟨r4, r6, r9, r10, r12, rK⟩, rB⟩ hK2
        obtain rfl : ts = xs := (hS2.trans hts).symm
        have c4 := r4.cell
        have f4 := r4.frozen
        have c6 := r6.cell
        have c9 := r9.cell
        have c10 := r10.cell
        have c12 := r12.cell
        have hmin := HM.out
        have Z4 := Lib.hid r4
        have ZB := Lib.hid rB
        have ZK := Lib.hid rK
        have ZK2 := Lib.hid hK2
        have ZD : Hid (b4 ≤ D ∧ b4 ≤ D2 ∧ D < D2) := Lib.hid ⟨by omega, by omega, by omega⟩
        clear hg3 hg10 hts hD hD2 hS2 hD6 rK hK2 r4 r6 r9 r10 r12 rB RB R4 R6 Rn R9 R10 R12 RK Qn Q4 Q6 Q9 Q10 T5 B5
        go_wp2
        have k1 := (KeepsOthers.setCell V2 ⟨b4, 0, none⟩ (.bool true)).same D _ ZK.out rfl
        have k2 := (KeepsOthers.setCell V2 ⟨b4, 0, none⟩ (.bool true)).same D2 _ ZK2.out rfl
        have hB2 := ZB.out.setCell (p := ⟨b4, 0, none⟩) (Nat.le_refl _) (.bool true)
        have h4 := Z4.out.set (.bool true)
        have hd := ZD.out
        refine ⟨by simp, .inl ⟨_, _, rfl, run_takeDeferred k2, ?_⟩⟩
        have k3 := (World.putObj_heap_other (o := .deferred none) (show D ≠ D2 by omega)).trans k1
        refine ⟨by simp, .inl ⟨_, _, rfl, run_takeDeferred k3, ?_⟩⟩
        have hc1 := cell_kept h4.cell (grownBy_putObj' _ D2 (.deferred none)) (fun r e => by cases e; exact ⟨_, k2, rfl⟩)
        have hc := cell_kept hc1 (grownBy_putObj' _ D (.deferred none)) (fun r e => by cases e; exact ⟨_, k3, rfl⟩)
        refine ⟨.bool true, ?_, rfl, ?_⟩
        · simp [results, Try.f8, go_sem, hc]
        · rw [hb4]
          exact (hB2.trans (belowK_b (w := w) (Nat.le_of_eq hb4.symm) _ D2 _ _ (by omega) k2 rfl rfl)).trans (belowK_b (w := w) (Nat.le_of_eq hb4.symm) _ D _ _ (by omega) k3 rfl rfl)
      case stop2 =>
        rintro D2 c pre V2 hD2 hpre h hK2
        exact h.elim
end Go.Proofs.Ytpnngicglgceaaa
