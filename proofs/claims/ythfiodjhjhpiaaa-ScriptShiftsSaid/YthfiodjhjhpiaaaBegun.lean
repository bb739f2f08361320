/- begun: the token that begins at a place. -/
import Derived.Test.YthfiodjhjhpiaaaStrs
import Derived.RangeFuncBox
import Derived.Deep.CutBlock
namespace Go.Proofs.Ythfiodjhjhpiaaa
open Go.RowKit
set_option linter.unusedVariables false

theorem info36 (x : Tk) : (Try.prog.info? 91).map (·.size) = some 4 := by kernel_rfl
/-- The cells of a token. -/
abbrev tkC (x : Tk) : Array Value := #[.int .i64 (x.k : Int), .int .i64 (x.at' : Int), .string (bs x.t), .int .i64 (x.n : Int)]
/-- Block b holds the token x. -/
structure TB (W : World) (b : Nat) (x : Tk) : Prop where
  is : W.heap[b]? = some (.cells (tkC x) 91 (0, 0))
theorem TB.lt {W : World} {b : Nat} {x : Tk} (h : TB W b x) : b < W.heap.size := (Array.getElem?_eq_some_iff.1 h.is).1
theorem TB.c0 {W : World} {b : Nat} {x : Tk} (h : TB W b x) : W.cell? ⟨b, 0, none⟩ = some (.int .i64 (x.k : Int)) := by rw [cell_of_row W b 0 _ _ _ h.is]; rfl
theorem TB.c1 {W : World} {b : Nat} {x : Tk} (h : TB W b x) : W.cell? ⟨b, 1, none⟩ = some (.int .i64 (x.at' : Int)) := by rw [cell_of_row W b 1 _ _ _ h.is]; rfl
theorem TB.c2 {W : World} {b : Nat} {x : Tk} (h : TB W b x) : W.cell? ⟨b, 2, none⟩ = some (.string (bs x.t)) := by rw [cell_of_row W b 2 _ _ _ h.is]; rfl
theorem TB.c3 {W : World} {b : Nat} {x : Tk} (h : TB W b x) : W.cell? ⟨b, 3, none⟩ = some (.int .i64 (x.n : Int)) := by rw [cell_of_row W b 3 _ _ _ h.is]; rfl
theorem TB.frozen {W : World} {b : Nat} {x : Tk} (h : TB W b x) (i : Nat) : W.frozen? ⟨b, i, none⟩ = false := frozen_of_row W b i _ _ h.is
theorem TB.below {W W' : World} {b B : Nat} {x : Tk} (h : TB W b x) (hb : Below B W W') (hB : b < B) : TB W' b x := ⟨(hb.block b hB).trans h.is⟩
theorem TB.later {W W' : World} {b : Nat} {x : Tk} (h : TB W b x) (hb : Below W.heap.size W W') : TB W' b x := h.below hb h.lt
theorem TB.alloc {W : World} {b : Nat} {x : Tk} (h : TB W b x) (o : Obj) : TB (W.alloc o) b x := ⟨(Below.heap_alloc W o b h.lt).trans h.is⟩
theorem TB.new (W : World) (x : Tk) : TB (W.alloc (.cells (tkC x) 91)) W.heap.size x := ⟨heap_alloc_new W _⟩
theorem TB.other {W : World} {b : Nat} {x : Tk} (h : TB W b x) (a : Addr) (v : Value) (hb : b ≠ a.block) : TB (W.setCell a v) b x := ⟨(heap_setCell_other W a b v hb).trans h.is⟩

/-- The token that begins with c, ahead of r, if one does. -/
def tkB (i : Nat) (c : UInt8) (r : List UInt8) : Tk := if kind c = 0 then ⟨0, i, [], 0⟩ else tkOf i c r

theorem below_drewN {B : Nat} {a w : World} (h : Below B a w) (n : Nat) : Below B a (w.drewN n) := h.trans ⟨rfl, rfl, rfl, Nat.le_refl _, fun _ _ => rfl⟩
theorem TB.drewN {W : World} {b : Nat} {x : Tk} (h : TB W b x) (n : Nat) : TB (W.drewN n) b x := ⟨h.is⟩
theorem TB.whole {W : World} {b : Nat} {x y : Tk} (h : TB W b x) : TB ((((W.setCell ⟨b, 0, none⟩ (.int .i64 (y.k : Int))).setCell ⟨b, 1, none⟩ (.int .i64 (y.at' : Int))).setCell ⟨b, 2, none⟩ (.string (bs y.t))).setCell ⟨b, 3, none⟩ (.int .i64 (y.n : Int))) b y := by
  have h0 := heap_setCell_same W b 0 _ _ (.int .i64 (y.k : Int)) h.is
  have h1 := heap_setCell_same _ b 1 _ _ (.int .i64 (y.at' : Int)) h0
  have h2 := heap_setCell_same _ b 2 _ _ (.string (bs y.t)) h1
  exact ⟨heap_setCell_same _ b 3 _ _ (.int .i64 (y.n : Int)) h2⟩
theorem TB.text {W : World} {b k i n : Nat} {t t' : List UInt8} (h : TB W b ⟨k, i, t, n⟩) : TB (W.setCell ⟨b, 2, none⟩ (.string (bs t'))) b ⟨k, i, t', n⟩ :=
  ⟨heap_setCell_same _ b 2 _ _ (.string (bs t')) h.is⟩
theorem TB.num {W : World} {b k i n n' : Nat} {t : List UInt8} (h : TB W b ⟨k, i, t, n⟩) : TB (W.setCell ⟨b, 3, none⟩ (.int .i64 (n' : Int))) b ⟨k, i, t, n'⟩ :=
  ⟨heap_setCell_same _ b 3 _ _ (.int .i64 (n' : Int)) h.is⟩
/-- The result of a function that hands a token back out of a block. -/
theorem results_tok {fn : Func} {p : Tmp} (h : fn.results = #[.cell p 91]) (tmps : Array Value) (w : World) (b : Nat) (x : Tk) (hp : tmps.getD p undef = .pointer (some ⟨b, 0, none⟩)) (hb : TB w b x) :
    (results fn tmps).run Try.prog w = .ok (tkV x) w :=
  results_cell_row h tmps w b _ _ _ _ hp hb.is Try.underlying91 rfl (info36 x)

/-- The two blocks that are made ahead of the walk's work. -/
theorem two_toks (w : World) (k i : Nat) : ∃ W1, (w.alloc (.cells #[.int .i64 0, .int .i64 0, .string { data := #[] }, .int .i64 0] 91)).alloc (.cells #[.int .i64 (k : Int), .int .i64 (i : Int), .string { data := #[] }, .int .i64 0] 91) = W1 ∧
    TB W1 w.heap.size ⟨0, 0, [], 0⟩ ∧ TB W1 (w.heap.size + 1) ⟨k, i, [], 0⟩ ∧ Below w.heap.size w W1 := by
  have T4 := (TB.new w ⟨0, 0, [], 0⟩).alloc (.cells (tkC ⟨k, i, [], 0⟩) 91)
  have T5 := TB.new (w.alloc (.cells (tkC ⟨0, 0, [], 0⟩) 91)) ⟨k, i, [], 0⟩
  rw [World.size_alloc] at T5
  exact ⟨_, rfl, T4, T5, ((Below.refl _ _).alloc (Nat.le_refl _) _).alloc (by simp) _⟩
theorem tk_eq {x : Tk} {k i n : Nat} (h1 : x.k = k) (h2 : x.at' = i) (h3 : x.n = n) : tkV ⟨k, i, x.t, n⟩ = tkV x := by subst h1 h2 h3; rfl
theorem below_whole {B b : Nat} {w W : World} (h : Below B w W) (hb : B ≤ b) (u0 u1 u2 u3 : Value) : Below B w ((((W.setCell ⟨b, 0, none⟩ u0).setCell ⟨b, 1, none⟩ u1).setCell ⟨b, 2, none⟩ u2).setCell ⟨b, 3, none⟩ u3) :=
  (((h.setCell (p := ⟨b, 0, none⟩) hb _).setCell (p := ⟨b, 1, none⟩) hb _).setCell (p := ⟨b, 2, none⟩) hb _).setCell (p := ⟨b, 3, none⟩) hb _

set_option maxRecDepth 100000 in
set_option maxHeartbeats 2000000 in
theorem begun_any (s : ByteArray) (i : Nat) (w : World) (hi : i < s.size) (hs : s.size ≤ 100000) : Calls Try.prog 64 #[.string s, .int .i64 (i : Int)] w fun e w' => e = .returned (tkV (tkB i s[i] (s.data.toList.drop (i + 1)))) ∧ Below w.heap.size w w' := by
  obtain ⟨c, hc⟩ : ∃ c, s[i] = c := ⟨_, rfl⟩
  rw [hc]
  have K := Lib.hid (fun w => kindOf_any c w)
  have hk4 := kind_le c
  by_cases hk : kind c = 0
  · have hk0 : tkB i c (s.data.toList.drop (i + 1)) = ⟨0, i, [], 0⟩ := by rw [tkB, if_pos hk]
    rw [hk0]
    rw [hk] at K
    obtain ⟨W1, hW1, T4, T5, B1⟩ := two_toks w 0 i
    have HW := Lib.hid hW1
    clear hk0 hk hW1
    go_enter Try.func64, Try.ntmps64
    go_upto_region 2 with (go_at_call 66; refine (K.out _).mono ?_; rintro e w' ⟨rfl, rfl⟩)
    rw [show ((0 : Nat) : Int) = 0 from rfl] at HW
    rw [HW.out]
    have c0 := T5.c0
    have c1 := T5.c1
    have c2 := T5.c2
    have c3 := T5.c3
    have f4 := T4.frozen
    have d0 := T4.c0
    have d1 := T4.c1
    have d2 := T4.c2
    have d3 := T4.c3
    go_wp2
    have R := T4.whole (y := ⟨0, i, [], 0⟩)
    exact bodyPost_ret (v := tkV ⟨0, i, [], 0⟩) (results_tok rfl _ _ _ _ rfl R) rfl ⟨rfl, below_whole B1 (Nat.le_refl _) _ _ _ _⟩
  · have hk0 : tkB i c (s.data.toList.drop (i + 1)) = tkOf i c (s.data.toList.drop (i + 1)) := by rw [tkB, if_neg hk]
    rw [hk0]
    generalize hx : tkOf i c (s.data.toList.drop (i + 1)) = x
    have hxl : x.k = kind c ∧ x.at' = i ∧ x.t = c :: (s.data.toList.drop (i + 1)).take (runLen (kind c) (s.data.toList.drop (i + 1))) ∧ (x.n = if kind c = 2 then numOf x.t else 0) ∧ x.t.length ≤ 100000 ∧ (kind c = 2 → ∀ d ∈ x.t, dgt d = true) := by
      subst hx
      exact ⟨rfl, rfl, rfl, rfl, by have := List.length_take_le (runLen (kind c) (s.data.toList.drop (i + 1))) (s.data.toList.drop (i + 1)); have := Lib.size_eq s; simp only [tkOf, List.length_cons] at *; rw [List.length_take]; simp; omega, tkOf_digits⟩
    have HX := Lib.hid hxl
    clear hk0 hx hxl
    generalize kind c = k at *
    obtain ⟨W1, hW1, T4, T5, B1⟩ := two_toks w k i
    have HW := Lib.hid hW1
    clear hW1
    have hk' : ((k : Int) == 0) = false := by simp; omega
    have C := Lib.hid hc
    go_enter Try.func64, Try.ntmps64
    go_upto_region 2 with (go_at_call 66; refine (K.out _).mono ?_; rintro e w' ⟨rfl, rfl⟩)
    rw [HW.out]
    clear hc HW K
    have c0 := T5.c0
    go_wp2
    clear c0
    go_loopw [6] (fun e wr => ∃ j : Nat, i + 1 ≤ j ∧ j ≤ s.size ∧ e = .int .i64 j ∧ Hid (runLen k (s.data.toList.drop (i + 1)) = (j - (i + 1)) + runLen k (s.data.toList.drop j)) ∧ TB wr w.heap.size ⟨0, 0, [], 0⟩ ∧ TB wr (w.heap.size + 1) ⟨k, i, [], 0⟩ ∧ Below w.heap.size w wr) (fun e _ => s.size - (intOf e).toNat)
    case atStart => exact ⟨i + 1, Nat.le_refl _, by omega, by go_num, Lib.hid (by omega), T4, T5, B1⟩
    case round =>
      clear T4 T5 B1
      obtain ⟨j, hj1, hj2, rfl, hr, T4, T5, B1⟩ := hrel
      have c0 := T5.c0
      by_cases hlt : j < s.size
      · obtain ⟨d, hd⟩ : ∃ d, s[j] = d := ⟨_, rfl⟩
        have G := Lib.hid (fun w => goesOn_any k d w)
        have hr2 := hr.out
        rw [drop_get s j hlt, hd, runLen] at hr2
        have HD := Lib.hid hr2
        have hdk : decide ((j : Int) < (s.size : Int)) = true := decide_eq_true (by omega)
        clear hr2 hr
        cases hg : goes k d
        · rw [hg] at G
          rw [hg, if_neg (by simp)] at HD
          clear hg
          go_wp2
          go_quiet ((go_at_call 67; exact Calls.quiet_of_same (same_of (G.out _))))
          have T4' := T4.drewN nq
          have T5' := T5.drewN nq
          have B1' := below_drewN B1 nq
          generalize wr.drewN nq = W2 at *
          have hx : s.extract i j = bs x.t := by rw [extract_tok s i j hi hj1, C.out, HX.out.2.2.1]; congr 3; have := HD.out; omega
          have N := Lib.hid (fun w hd => number_any x.t w hd HX.out.2.2.2.2.1)
          have L := Lib.hid (fun w => clone_any (bs x.t) w (by rw [bs_size]; exact HX.out.2.2.2.2.1))
          clear T4 T5 B1 c0 HD
          have hw4 := T4'.lt
          have hij : (i : Int) ≤ (j : Int) := by omega
          by_cases hk2 : k = 2
          · have hd2 := Lib.hid (HX.out.2.2.2.2.2 hk2)
            have ht2 : ((k : Int) == 2) = true := by simp; omega
            have HK2 := Lib.hid hk2
            clear hk2
            go_wp2_with (first
              | (go_at_call 68; refine (L.out _).mono ?_; rintro e W3 ⟨rfl, h3⟩; have T4b := T4'.later h3; have T5b := T5'.later h3; have B3 := B1'.trans (h3.mono B1'.size); have f5 := T5b.frozen; have c0 := T5b.c0; have c1 := T5b.c1; have c2 := T5b.c2; have e3 := T5b.c3; have g4 := T4b.frozen; have q0 := T4b.c0; have q1 := T4b.c1; have q2 := T4b.c2; have q3 := T4b.c3; clear T4' T5' B1')
              | (go_at_call 69; refine (N.out _ hd2.out).mono ?_; rintro e W4 ⟨rfl, rfl⟩))
            have R := ((T4b.other ⟨w.heap.size + 1, 2, none⟩ (.string (bs x.t)) (by simp)).other ⟨w.heap.size + 1, 3, none⟩ (.int .i64 (numOf x.t : Int)) (by simp)).whole (y := ⟨k, i, x.t, numOf x.t⟩)
            exact bodyPost_ret (v := tkV ⟨k, i, x.t, numOf x.t⟩) (results_tok rfl _ _ _ _ rfl R) rfl ⟨congrArg Ending.returned (tk_eq HX.out.1 HX.out.2.1 (by rw [HX.out.2.2.2.1, if_pos HK2.out])), below_whole ((B3.setCell (p := ⟨w.heap.size + 1, 2, none⟩) (Nat.le_succ _) _).setCell (p := ⟨w.heap.size + 1, 3, none⟩) (Nat.le_succ _) _) (Nat.le_refl _) _ _ _ _⟩
          · have ht2 : ((k : Int) == 2) = false := by simp; omega
            have HK2 := Lib.hid hk2
            clear hk2
            go_wp2_with (go_at_call 68; refine (L.out _).mono ?_; rintro e W3 ⟨rfl, h3⟩; have T4b := T4'.later h3; have T5b := T5'.later h3; have B3 := B1'.trans (h3.mono B1'.size); have f5 := T5b.frozen; have c0 := T5b.c0; have c1 := T5b.c1; have c2 := T5b.c2; have e3 := T5b.c3; have g4 := T4b.frozen; have q0 := T4b.c0; have q1 := T4b.c1; have q2 := T4b.c2; have q3 := T4b.c3; clear T4' T5' B1')
            have R := (T4b.other ⟨w.heap.size + 1, 2, none⟩ (.string (bs x.t)) (by simp)).whole (y := ⟨k, i, x.t, 0⟩)
            exact bodyPost_ret (v := tkV ⟨k, i, x.t, 0⟩) (results_tok rfl _ _ _ _ rfl R) rfl ⟨congrArg Ending.returned (tk_eq HX.out.1 HX.out.2.1 (by rw [HX.out.2.2.2.1, if_neg HK2.out])), below_whole (B3.setCell (p := ⟨w.heap.size + 1, 2, none⟩) (Nat.le_succ _) _) (Nat.le_refl _) _ _ _ _⟩
        · rw [hg] at G
          rw [hg, if_pos rfl] at HD
          clear hg
          go_wp2
          go_quiet ((go_at_call 67; exact Calls.quiet_of_same (same_of (G.out _))))
          have T4' := T4.drewN nq
          have T5' := T5.drewN nq
          have B1' := below_drewN B1 nq
          clear T4 T5 B1 c0
          go_wp2
          go_roundw
          case rel => exact ⟨j + 1, by omega, by omega, by go_num, Lib.hid (by have := HD.out; omega), T4', T5', B1'⟩
          case measure => simp [intOf]; omega
      · have HD : Hid (runLen k (s.data.toList.drop (i + 1)) = j - (i + 1) + 0) := by
          have hr2 := hr.out
          rw [show s.data.toList.drop j = [] from List.drop_of_length_le (by rw [← Lib.size_eq]; omega)] at hr2
          exact Lib.hid hr2
        have hdk : decide ((j : Int) < (s.size : Int)) = false := decide_eq_false (by omega)
        clear hr
        go_wp2
        go_quiet (fail)
        have T4' := T4.drewN nq
        have T5' := T5.drewN nq
        have B1' := below_drewN B1 nq
        generalize wr.drewN nq = W2 at *
        have hx : s.extract i j = bs x.t := by rw [extract_tok s i j hi hj1, C.out, HX.out.2.2.1]; congr 3; have := HD.out; omega
        have N := Lib.hid (fun w hd => number_any x.t w hd HX.out.2.2.2.2.1)
        have L := Lib.hid (fun w => clone_any (bs x.t) w (by rw [bs_size]; exact HX.out.2.2.2.2.1))
        clear T4 T5 B1 c0 HD
        have hw4 := T4'.lt
        have hij : (i : Int) ≤ (j : Int) := by omega
        by_cases hk2 : k = 2
        · have hd2 := Lib.hid (HX.out.2.2.2.2.2 hk2)
          have ht2 : ((k : Int) == 2) = true := by simp; omega
          have HK2 := Lib.hid hk2
          clear hk2
          go_wp2_with (first
            | (go_at_call 68; refine (L.out _).mono ?_; rintro e W3 ⟨rfl, h3⟩; have T4b := T4'.later h3; have T5b := T5'.later h3; have B3 := B1'.trans (h3.mono B1'.size); have f5 := T5b.frozen; have c0 := T5b.c0; have c1 := T5b.c1; have c2 := T5b.c2; have e3 := T5b.c3; have g4 := T4b.frozen; have q0 := T4b.c0; have q1 := T4b.c1; have q2 := T4b.c2; have q3 := T4b.c3; clear T4' T5' B1')
            | (go_at_call 69; refine (N.out _ hd2.out).mono ?_; rintro e W4 ⟨rfl, rfl⟩))
          have R := ((T4b.other ⟨w.heap.size + 1, 2, none⟩ (.string (bs x.t)) (by simp)).other ⟨w.heap.size + 1, 3, none⟩ (.int .i64 (numOf x.t : Int)) (by simp)).whole (y := ⟨k, i, x.t, numOf x.t⟩)
          exact bodyPost_ret (v := tkV ⟨k, i, x.t, numOf x.t⟩) (results_tok rfl _ _ _ _ rfl R) rfl ⟨congrArg Ending.returned (tk_eq HX.out.1 HX.out.2.1 (by rw [HX.out.2.2.2.1, if_pos HK2.out])), below_whole ((B3.setCell (p := ⟨w.heap.size + 1, 2, none⟩) (Nat.le_succ _) _).setCell (p := ⟨w.heap.size + 1, 3, none⟩) (Nat.le_succ _) _) (Nat.le_refl _) _ _ _ _⟩
        · have ht2 : ((k : Int) == 2) = false := by simp; omega
          have HK2 := Lib.hid hk2
          clear hk2
          go_wp2_with (go_at_call 68; refine (L.out _).mono ?_; rintro e W3 ⟨rfl, h3⟩; have T4b := T4'.later h3; have T5b := T5'.later h3; have B3 := B1'.trans (h3.mono B1'.size); have f5 := T5b.frozen; have c0 := T5b.c0; have c1 := T5b.c1; have c2 := T5b.c2; have e3 := T5b.c3; have g4 := T4b.frozen; have q0 := T4b.c0; have q1 := T4b.c1; have q2 := T4b.c2; have q3 := T4b.c3; clear T4' T5' B1')
          have R := (T4b.other ⟨w.heap.size + 1, 2, none⟩ (.string (bs x.t)) (by simp)).whole (y := ⟨k, i, x.t, 0⟩)
          exact bodyPost_ret (v := tkV ⟨k, i, x.t, 0⟩) (results_tok rfl _ _ _ _ rfl R) rfl ⟨congrArg Ending.returned (tk_eq HX.out.1 HX.out.2.1 (by rw [HX.out.2.2.2.1, if_neg HK2.out])), below_whole (B3.setCell (p := ⟨w.heap.size + 1, 2, none⟩) (Nat.le_succ _) _) (Nat.le_refl _) _ _ _ _⟩
end Go.Proofs.Ythfiodjhjhpiaaa
